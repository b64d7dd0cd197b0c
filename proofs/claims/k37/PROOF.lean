import PyProof.Rows.All
import Wide.All
import OpenK.AllK
import Wide.FinOn
import Lean
import PyProof.EqAt
import PyProof.EqKinds
import PyProof.TupleCall
import PyProof.EnumMake
import PyProof.ZipIter
import PyProof.ExcClass2
import PyProof.ExcInit
import PyProof.ExcBaseAll.ValueError
import PyProof.FString2
import PyProof.ExcArgsOwn
import PyProof.InstStoreFacts
import ObjForm.Fk.InstStore
import ObjForm.Fk.InstLoad
import PyProof.StationsW
import PyProof.RulesAs
import PyProof.NsDelKeeps
import OpenK.KMore
import PyProof.IsiBase
import OpenK.KNot
import PyProof.Rows.RuleN_isinstance
import PyProof.NeData
import PyProof.P3In
import PyProof.StrWalks
import PyProof.ConsumeWalk
import PyProof.SliceStr2
import PyProof.MeetsStr
import KE.KItem
import KE.KUnpack
import KE.KRevSl
import PyProof.Rows.SetFrom
import PyProof.SetRoads
import PyProof.Rows.Range3
import PyProof.CallType
import PyProof.Rows.CallKwBuiltin
import PyProof.Rows.MinMaxN
import PyProof.SumWalkG
import PyProof.Rows.SeqMore
import PyProof.Rows.SortWalk
import PyProof.Rows.SumAny
import PyProof.Rows.SeqMore2
import KE.KSortTup
import PyProof.Rows.SortShellK
import PyProof.ReprRoads
import PyProof.ReprBulk
import PyProof.CallFns
import PyProof.NeKinds
import PyProof.Rows.StrJoinMade
import PyProof.StrCalls
import KE.KIntText
import PyProof.ReprDict
import PyProof.DictIter
import PyProof.Rows.DictUnroll
import PySem.Challenge.RW_wishdeal_k37_one_number_changed
set_option Elab.async false
set_option linter.all false
set_option maxRecDepth 100000
set_option maxHeartbeats 4000000
namespace DL
open PySem PySem.Spec PySem.W PyProof.Rows
def topRunT (tb:String->Option Builtin) (p:Program) (w:World) (m:Nat) (ann:Option Value):Nat->SharedT->Thread->Option SharedT
 | 0,_,_=>none
 | n+1,s,t=>match through t,stepOk m ann t with
  | true,_=>some s
  | false,false=>none
  | false,true=>match stepT (denote tb) p w s t with
   | some x=>topRunT tb p w m ann n x.1 x.2
   | none=>none
theorem zdO {tb:String->Option Builtin} {p:Program} {w:World} {m:Nat} {ann:Option Value}:∀ {n:Nat} {s s':SharedT} {t:Thread},topRunT tb p w m ann n s t=some s'->topRun tb p w m ann n s.abs t=some s'.abs
 | 0,_,_,_,h=>by cases h
 | n+1,s,s',t,h=>by
  rw [topRunT] at h
  rw [topRun]
  cases ht:through t with
  | true=>rw [ht] at h;cases h;rfl
  | false =>
   rw [ht] at h
   cases hk:stepOk m ann t with
   | false=>rw [hk] at h;cases h
   | true =>
    rw [hk] at h
    dsimp only at h ⊢
    cases hs:stepT (denote tb) p w s t with
    | none=>rw [hs] at h;cases h
    | some x=>rw [hs] at h;rw [stepT_spec hs];exact zdO h
def btOf (l:List Obj):BT:=(l.foldl (fun (x:BT × Nat) o=>(x.1.ins x.2 o,x.2+1)) (.nil,0)).1
noncomputable def T0 (w:World) (os:OsState):SharedT:=⟨btOf (boot_heap w.params).objs.toList,11,(boot_heap w.params).life,#[],boot_drawn,boot_toks,os⟩
theorem zk3 (w:World) (os:OsState):(T0 w os).abs=⟨boot_heap w.params,#[],boot_drawn,boot_toks,os⟩:=by kernel_rfl
theorem ziT (w:World):((boot_heap w.params).isNs mainGlobals && (#[]:Array GenState).size == 0,(boot_heap w.params).objs.size,(boot_heap w.params).nsMap mainGlobals "__annotations__")=(true,11,some (.ref 6)):=by kernel_rfl
noncomputable abbrev zo6 (p q:Program) (loose:List Str) (Xt:Shared->Bool) (w:World) (t:SharedT) :=
 ((staticsOk (importedModules p.main.body) (boot_heap w.params) t.abs.heap && namesBound p t.abs.heap && gensDone t.abs && laidKept (boot_heap w.params) t.abs.heap),openSeen q loose (importedModules p.main.body) Xt true t.abs)
theorem zmw {p q:Program} {loose:List Str} {Xt:Shared->Bool} {N M:Nat} (e:opening p=plainProg p.main.scope.names) (hN:Nat.ble 600 N=true) (f:∀ s,fenceModules? p s=some s) (le:Nat.ble M N=true)
  (run:∀ (w:World) (os:OsState),(topRunT treeTable p w 11 (some (.ref 6)) M (T0 w os) (topStub p)).map (zo6 p q loose Xt w)=some (true,openGood q loose)):LeftO p q loose Xt (Hook.obs .none) (Hook.val .none) N:=fun w=>by
 obtain ⟨⟨h,gs,d,k,os⟩,e0,e'⟩:=Option.map_eq_some_iff.mp (boot_open e hN f w)
 have e':(h,gs,d,k)=(boot_heap w.params,#[],boot_drawn,boot_toks):=e'
 obtain ⟨rfl,rfl,rfl,rfl⟩:h=boot_heap w.params/\gs = #[]/\d=boot_drawn/\k=boot_toks:=by simpa only [Prod.mk.injEq] using e'
 obtain ⟨t,ht,l⟩:=Option.map_eq_some_iff.mp (run w os)
 have hr:=zdO ht
 rw [zk3] at hr
 have r:=topRun_mono (N - M) _ _ _ _ hr
 rw [show M+(N - M)=N by have:=Nat.le_of_ble_eq_true le;omega] at r
 obtain ⟨l1,l2⟩:=Prod.mk.inj l
 have z:=ziT w
 obtain ⟨z1,z2,z3⟩:_/\_/\_:=by simpa only [Prod.mk.injEq] using z
 have tf:topFrom treeTable p w N ⟨boot_heap w.params,#[],boot_drawn,boot_toks,os⟩=some t.abs:=by
  unfold topFrom
  dsimp only
  rw [z1,z2,z3,r]
  show (match staticsOk (importedModules p.main.body) (boot_heap w.params) t.abs.heap && namesBound p t.abs.heap && gensDone t.abs && laidKept (boot_heap w.params) t.abs.heap with | true=>some t.abs | false=>none)=_
  rw [l1]
 unfold openEnds
 rw [e0]
 show (topFrom treeTable p w N _).map _=_
 rw [tf]
 exact congrArg some (Prod.ext l2 rfl)
end DL
open PySem in
lay_quick PySem.Challenge.pw_wishdeal_k37_one_number_changed DL.topRunT PySem.W.openGood PySem.W.staticsOk PySem.W.namesBound PySem.W.laidKept PySem.W.xlAt
namespace W
open PySem PySem.Spec DL
abbrev p0:Program:=PySem.Challenge.pw_wishdeal_k37_one_number_changed
def zdZ:List Nat:=[1,2,3,4,6,7,8,10,11,12,13,14,15,16,17,18,19,20,21,23,24,25,27,28,29,31,32,33,34,35,37,38,39,41,42,43,44,45,46,47,48,49,50,51,52,53,54,55,56,57]
def ixL:List Nat:=[1,2,3,4,14,15,16,17,18,19,20,21,24,25,27,28,29,31,32,33,34,35,37,38,39,41,42,43,44,45,46,47,48,49,50,51,52,53,54,55,56,57]
abbrev q0:Program:=PySem.W.view p0 zdZ
theorem zo7:∀ (w:World) (os:OsState),(PySem.W.Fast.tw10708255244068714335 PySem.W.Fast.tw14364793385576792824 PySem.W.Fast.tw11751142909835218258 w 11 (some (.ref 6)) 2209 (T0 w os) (PySem.W.topStub PySem.W.Fast.tw11751142909835218258)).map (fun t=>((PySem.W.Fast.tw13471830651028734593 (PySem.W.Fast.tw5923862056798008813 (Program.main PySem.W.Fast.tw11751142909835218258).body) (PySem.W.boot_heap w.params) t.abs.heap && PySem.W.Fast.tw4683006035507612052 PySem.W.Fast.tw11751142909835218258 t.abs.heap && PySem.W.gensDone t.abs && PySem.W.Fast.tw16898566250750103049 (PySem.W.boot_heap w.params) t.abs.heap),PySem.W.Fast.tw4187177175401517315 (PySem.W.view PySem.W.Fast.tw11751142909835218258 zdZ) [] (PySem.W.Fast.tw5923862056798008813 (Program.main PySem.W.Fast.tw11751142909835218258).body) (fun s=>PySem.W.Fast.tw4757257242682413121 (PySem.W.view PySem.W.Fast.tw11751142909835218258 zdZ) [] s && PySem.W.recOk [] s) true t.abs))=some (true,PySem.W.Fast.tw3486900944545009338 (PySem.W.view PySem.W.Fast.tw11751142909835218258 zdZ) []):=by
 intro w os
 kernel_rfl
theorem zo8:PySem.W.LeftO p0 q0 [] (fun s=>PySem.W.xlAt q0 [] s && PySem.W.recOk [] s) (PySem.W.Hook.obs .none) (PySem.W.Hook.val .none) 4318:=by
 refine zmw (M:=2209) (by kernel_rfl) rfl (fun s=>by kernel_rfl) rfl fun w os=>?_
 have h:=zo7 w os
 rw [← PySem.W.Fast.te10708255244068714335,← PySem.W.Fast.te14364793385576792824,← PySem.W.Fast.te4187177175401517315,← PySem.W.Fast.te5923862056798008813,← PySem.W.Fast.te13471830651028734593,← PySem.W.Fast.te4683006035507612052,← PySem.W.Fast.te16898566250750103049,← PySem.W.Fast.te4757257242682413121,← PySem.W.Fast.te3486900944545009338,← PySem.W.Fast.te11751142909835218258] at h
 exact h
end W
namespace L2
open PySem PySem.Spec PyProof.Rows
abbrev Key:=Sum Int Str
def zid:Key->Value->Bool
 | .inl k,v=>Value.isInt k v
 | .inr x,v=>Value.isStrOf x v
def keyH (w:World):Key->Int
 | .inl k=>hashInt k
 | .inr x=>hashStr w x
theorem zbn:∀ {k:Key} {v:Value},zid k v=true->(∃ i t,k=Sum.inl i/\v=Value.int i t) ∨ (∃ x t,k=Sum.inr x/\v=Value.str x t)
 | .inl i,v,h=>by
  obtain ⟨t,e⟩:=Value.isInt_shape (k:=i) (v:=v) h
  exact .inl ⟨i,t,rfl,e⟩
 | .inr x,v,h=>by
  obtain ⟨t,e⟩:=Value.isStrOf_shape (x:=x) (v:=v) h
  exact .inr ⟨x,t,rfl,e⟩
theorem ziU (i:Int) (t:Tok):zid (.inl i) (.int i t)=true:=by simp [zid,Value.isInt]
theorem ziV (x:Str) (t:Tok):zid (.inr x) (.str x t)=true:=by simp [zid,Value.isStrOf]
theorem znH (a b:Int):decide ((Sum.inl a:Key)=Sum.inl b)=(a == b):=by
 by_cases e:a=b
 ·subst e;simp
 ·have h : ¬ (Sum.inl a:Key)=Sum.inl b:=fun q=>e (Sum.inl.inj q)
  rw [decide_eq_false h]
  exact (beq_eq_false_iff_ne.mpr e).symm
theorem znI (a b:Str):decide ((Sum.inr a:Key)=Sum.inr b)=decide (a=b):=by
 by_cases e:a=b
 ·subst e;simp
 ·have h : ¬ (Sum.inr a:Key)=Sum.inr b:=fun q=>e (Sum.inr.inj q)
  rw [decide_eq_false h,decide_eq_false e]
theorem znJ (a:Int) (b:Str):decide ((Sum.inl a:Key)=Sum.inr b)=false:=decide_eq_false (fun q=>nomatch q)
theorem znK (a:Str) (b:Int):decide ((Sum.inr a:Key)=Sum.inl b)=false:=decide_eq_false (fun q=>nomatch q)
def zbR (prog:Program) (w:World):PySem.KeyKind prog w Key where
 is:=zid
 hash:=keyH w
 inj:=fun v a b ha hb=>by
  rcases zbn ha with ⟨i,t,rfl,rfl⟩ | ⟨x,t,rfl,rfl⟩
  ·rcases zbn hb with ⟨j,u,rfl,e⟩ | ⟨y,u,rfl,e⟩
   ·injection e with e1 _;rw [e1]
   ·exact nomatch e
  ·rcases zbn hb with ⟨j,u,rfl,e⟩ | ⟨y,u,rfl,e⟩
   ·exact nomatch e
   ·injection e with e1 _;rw [e1]
 byValue:=fun k v h=>by
  rcases zbn h with ⟨i,t,rfl,rfl⟩ | ⟨x,t,rfl,rfl⟩ <;> rfl
 pyHash:=fun hv h=>by
  rcases zbn hv with ⟨i,t,rfl,rfl⟩ | ⟨x,t,rfl,rfl⟩
  ·exact wpAny_pyHash_int h
  ·exact wpAny_pyHash_str h
 eqBool:=fun hu hv h=>by
  rcases zbn hu with ⟨i,t,rfl,rfl⟩ | ⟨x,t,rfl,rfl⟩
  ·rcases zbn hv with ⟨j,u,rfl,rfl⟩ | ⟨y,u,rfl,rfl⟩
   ·rw [znH] at h;exact wpAny_eqBool_int h
   ·rw [znJ] at h;exact SeqAt.EqAt.int_str i t y u _ _ _ _ h
  ·rcases zbn hv with ⟨j,u,rfl,rfl⟩ | ⟨y,u,rfl,rfl⟩
   ·rw [znK] at h;exact SeqAt.EqAt.str_int x t j u _ _ _ _ h
   ·rw [znI] at h;exact wpAny_eqBool_str h
 «strs»:=fun k x t v h=>by
  rcases zbn h with ⟨i,u,rfl,e⟩ | ⟨y,u,rfl,e⟩
  ·exact nomatch e
  ·injection e with e1 _
   subst e1
   cases v <;> rfl
theorem zgK (prog:Program) (w:World) (i:Int) (t:Tok):(zbR prog w).is (.inl i) (.int i t)=true:=ziU i t
theorem zgL (prog:Program) (w:World) (x:Str) (t:Tok):(zbR prog w).is (.inr x) (.str x t)=true:=ziV x t
inductive V where
 | non | bl (b:Bool) | int (i:Int) | str (x:Str) | byt (b:Array UInt8) | flt (b:UInt64) | ref (a:Addr) | ty (n:String)
 deriving DecidableEq
def RelV:V->Value->Prop
 | .non,u=>u=Value.none
 | .bl b,u=>u=Value.bool b
 | .int i,u=>∃ t,u=Value.int i t
 | .str x,u=>∃ t,u=Value.str x t
 | .byt b,u=>∃ t,u=Value.bytes b t
 | .flt b,u=>∃ t,u=Value.float b t
 | .ref a,u=>u=Value.ref a
 | .ty n,u=>u=Value.type n
abbrev Vals:List V->List Value->Prop:=Paired RelV
theorem Vals.length {xs:List V} {us:List Value} (r:Vals xs us):xs.length=us.length:=Paired.length r
theorem Vals.get:∀ {xs:List V} {us:List Value} {i:Nat} {x:V},Vals xs us->xs[i]?=some x->∃ u,us[i]?=some u/\RelV x u
 | _,_,_,_,.nil,e=>by simp at e
 | _,_,0,_,.cons r _,e=>by simp at e;subst e;exact ⟨_,rfl,r⟩
 | _,_,i+1,x,.cons _ t,e=>by
  obtain ⟨u,h1,h2⟩:=Vals.get (i:=i) (x:=x) t (by simpa using e)
  exact ⟨u,by simpa using h1,h2⟩
theorem Vals.set {x:V} {u:Value} (r:RelV x u):∀ {xs:List V} {us:List Value} (i:Nat),Vals xs us->Vals (xs.set i x) (us.set i u)
 | _,_,_,.nil=>.nil
 | _,_,0,.cons _ t=>.cons r t
 | _,_,i+1,.cons q t=>.cons q (Vals.set r i t)
theorem Vals.append:∀ {xs ys:List V} {us ws:List Value},Vals xs us->Vals ys ws->Vals (xs ++ ys) (us ++ ws)
 | _,_,_,_,.nil,s=>s
 | _,_,_,_,.cons r t,s=>.cons r (Vals.append t s)
theorem Vals.take:∀ {xs:List V} {us:List Value} (n:Nat),Vals xs us->Vals (xs.take n) (us.take n)
 | _,_,0,_=>.nil
 | _,_,_+1,.nil=>.nil
 | _,_,n+1,.cons r t=>.cons r (Vals.take n t)
theorem Vals.drop:∀ {xs:List V} {us:List Value} (n:Nat),Vals xs us->Vals (xs.drop n) (us.drop n)
 | _,_,0,r=>r
 | _,_,_+1,.nil=>.nil
 | _,_,n+1,.cons _ t=>Vals.drop n t
def RelO:Option V->Option Value->Prop
 | some v,some u=>RelV v u
 | none,none=>True
 | _,_=>False
def KV {κ : Type}:List (κ × V)->List (κ × Value)->Prop:=Paired fun (p : κ × V) (q : κ × Value)=>p.1=q.1/\RelV p.2 q.2
def kV:Key->V
 | .inl i=>.int i
 | .inr x=>.str x
inductive HO where
  | lst (xs:List V)
  | tup (xs:List V)
  | dK (kvs:List (Key × V)) | dT (kvs:List (List Key × V))
  | set (S:Int->Bool) (n:Nat)
  | ins (C dx:Addr) (fs:List (Str × V))
  | own (x:Addr)
  | xd (fs:List (Str × V))
  | met (f x:Addr)
  | rng (lo hi:Int)
  | frz (o:Obj) (u:HO)
  | tbl (ps:Array Value)
  | ext (φ : Heap->Prop)
abbrev Hp:=Addr->Option HO
def upd (H:Hp) (a:Addr) (o:HO):Hp:=fun b=>if b=a then some o else H b
theorem zaD {H:Hp} {a:Addr} {o:HO}:upd H a o a=some o:=by unfold upd;rw [if_pos rfl]
theorem zaJ {H:Hp} {a b:Addr} {o:HO} (h:b ≠ a):upd H a o b=H b:=by unfold upd;rw [if_neg h]
theorem znL {H:Hp} {a b:Addr} {o u:HO} (h:H a=some o) (h':H b=some u) (d:o ≠ u):a ≠ b:=by
 intro e;subst e;rw [h] at h';exact d (Option.some.inj h')
theorem zaF {H:Hp} {a b:Addr} {o:HO} (h:H a=some o) (h':H b=none):a ≠ b:=by
 intro e;subst e;rw [h] at h';cases h'
section
variable (P:Program) (w:World)
def zbJ (H:Hp) (h:Heap) (a:Addr):HO->Prop
 | .lst xs=>xs.length<=sizeLine/\∃ (its:List Value) (n:Nat),Vals xs its/\h.get? a=some { cls:=.type "list", data:=.seq its.toArray n }
 | .tup xs=>xs.length<=sizeLine/\∃ its:List Value,Vals xs its/\IsTup h a its.toArray
 | .dK kvs=>kvs.length<=sizeLine/\(a == sysModules)=false/\∃ vs,KV kvs vs/\h.DictOf (zbR P w) a vs
 | .dT kvs=>kvs.length<=sizeLine/\(a == sysModules)=false/\∃ xs:List (List Key × Addr × Value),
   Paired (fun (p:List Key × V) (q:List Key × Addr × Value)=>p.1=q.1/\H q.2.1=some (.tup (p.1.map kV))/\RelV p.2 q.2.2) kvs xs /\
   ∃ o es ep,h.get? a=some o/\o.ExactDict/\o.data=.dict es ep/\es.toList=xs.map (entryOfKey (tupleKind (zbR P w)))/\(xs.map (·.1)).Nodup
 | .set S n=>h.SetOf (intKind P w) a S n
 | .ins C dx fs=>H dx=some (.own a)/\fs.length<=1000/\dx ≠ a/\h.get? a=some (PySem.W.instObj C dx) /\
   ∃ mA,h.Ns1 dx mA/\(∀ f,RelO (fs.lookup f) (mA f))/\PySem.Within mA (fs.map (·.1))
 | .own _=>∃ o,h.get? a=some o
 | .xd fs=>∃ mA,h.Ns1 a mA/\∀ f,RelO (fs.lookup f) (mA f)
 | .rng lo hi=>∃ t u v,h.get? a=some { cls:=.type "range", data:=.fields #[.int lo t,.int hi u,.int 1 v] }
 | .frz o u=>h.get? a=some o/\zbJ H h a u
 | .tbl ps=>h.get? a=some { cls:=.none,data:=.fields ps }
 | .met f x=>h.get? a=some (PySem.W.methodObj (.ref f) (.ref x))
 | .ext φ=>φ h/\(∃ o,h.get? a=some o)/\∀ h1 h2:Heap,φ h1->(∀ o,h1.get? a=some o->h2.get? a=some o) -> φ h2
def HOk (H:Hp) (h:Heap):Prop:=∀ a o,H a=some o->zbJ P w H h a o
end
section
variable {P:Program} {w:World} {H H':Hp} {h h':Heap} {a:Addr} {o:HO}
theorem zbJ.lt (x:zbJ P w H h a o):a < h.objs.size:=by
 cases o with
 | lst xs=>obtain ⟨_,_,_,_,e⟩:=x;exact Heap.lt_size e
 | tup xs=>obtain ⟨_,_,_,p⟩:=x;exact p.lt
 | dK kvs=>obtain ⟨_,_,_,_,o,_,_,e,_⟩:=x;exact Heap.lt_size e
 | dT kvs=>obtain ⟨_,_,_,_,o,_,_,e,_⟩:=x;exact Heap.lt_size e
 | set S n=>obtain ⟨o,_,_,_,e,_⟩:=x;exact Heap.lt_size e
 | ins C dx fs=>obtain ⟨_,_,_,e,_⟩:=x;exact Heap.lt_size e
 | own y=>obtain ⟨_,e⟩:=x;exact Heap.lt_size e
 | xd fs=>obtain ⟨_,⟨_,_,_,e,_⟩,_⟩:=x;exact Heap.lt_size e
 | rng lo hi=>obtain ⟨_,_,_,e⟩:=x;exact Heap.lt_size e
 | frz ob u=>obtain ⟨e,_⟩:=x;exact Heap.lt_size e
 | tbl ps=>exact Heap.lt_size (show h.get? a=some _ from x)
 | met f y=>exact Heap.lt_size (show h.get? a=some _ from x)
 | ext φ=>obtain ⟨_,⟨_,e⟩,_⟩:=x;exact Heap.lt_size e
theorem Paired.mapP {α β : Type} {F G : α -> β -> Prop}:∀ {l₁ : List α} {l₂ : List β},Paired F l₁ l₂ -> (∀ a b,F a b->G a b)->Paired G l₁ l₂
 | _,_,.nil,_=>.nil
 | _,_,.cons r t,f=>.cons (f _ _ r) (Paired.mapP t f)
theorem zbJ.stay (x:zbJ P w H h a o) (k:∀ b u,(b=a ∨ H b=some (.own a))->h.get? b=some u->h'.get? b=some u)
  (ho:∀ b,H b=some (.own a)->H' b=some (.own a)) (ht:∀ b xs,H b=some (.tup xs)->H' b=some (.tup xs)):zbJ P w H' h' a o:=by
 induction o with
 | lst xs=>obtain ⟨z,its,n,r,e⟩:=x;exact ⟨z,its,n,r,k _ _ (.inl rfl) e⟩
 | tup xs=>obtain ⟨z,its,r,ob,e,c⟩:=x;exact ⟨z,its,r,ob,k _ _ (.inl rfl) e,c⟩
 | dK kvs=>obtain ⟨z,y,vs,r,ob,es,ep,e,c⟩:=x;exact ⟨z,y,vs,r,ob,es,ep,k _ _ (.inl rfl) e,c⟩
 | dT kvs =>
  obtain ⟨z,y,xs,r,ob,es,ep,e,c⟩:=x
  exact ⟨z,y,xs,Paired.mapP r fun p q z=>⟨z.1,ht _ _ z.2.1,z.2.2⟩,ob,es,ep,k _ _ (.inl rfl) e,c⟩
 | set S n=>obtain ⟨ob,es,ep,t,e,c⟩:=x;exact ⟨ob,es,ep,t,k _ _ (.inl rfl) e,c⟩
 | ins C dx fs =>
  obtain ⟨d,z,ne,e,mA,⟨od,es,ep,e2,c⟩,r⟩:=x
  exact ⟨ho _ d,z,ne,k _ _ (.inl rfl) e,mA,⟨od,es,ep,k _ _ (.inr d) e2,c⟩,r⟩
 | own y=>obtain ⟨ob,e⟩:=x;exact ⟨ob,k _ _ (.inl rfl) e⟩
 | xd fs=>obtain ⟨mA,⟨od,es,ep,e,c⟩,r⟩:=x;exact ⟨mA,⟨od,es,ep,k _ _ (.inl rfl) e,c⟩,r⟩
 | rng lo hi=>obtain ⟨t,u,v,e⟩:=x;exact ⟨t,u,v,k _ _ (.inl rfl) e⟩
 | frz ob u ih=>obtain ⟨e,q⟩:=x;exact ⟨k _ _ (.inl rfl) e,ih q⟩
 | tbl ps =>
  have e:h.get? a=some { cls:=.none,data:=.fields ps }:=x
  show h'.get? a=some { cls:=.none,data:=.fields ps }
  exact k a _ (.inl rfl) e
 | met f y =>
  have e:h.get? a=some (PySem.W.methodObj (.ref f) (.ref y)):=x
  show h'.get? a=some (PySem.W.methodObj (.ref f) (.ref y))
  exact k a _ (.inl rfl) e
 | ext φ=>obtain ⟨p,⟨o,e⟩,st⟩:=x;exact ⟨st _ _ p fun o q=>k _ _ (.inl rfl) q,⟨o,k _ _ (.inl rfl) e⟩,st⟩
theorem HOk.lt (x:HOk P w H h) (e:H a=some o):a < h.objs.size:=(x a o e).lt
theorem HOk.fresh (x:HOk P w H h) (e:h.objs.size<=a):H a=none:=by
 cases q:H a with
 | none=>rfl
 | some u=>exact absurd (Nat.lt_of_lt_of_le (x.lt q) e) (Nat.lt_irrefl _)
theorem HOk.kept (x:HOk P w H h) (k:∀ b u,h.get? b=some u->h'.get? b=some u):HOk P w H h':=fun a o e =>
 (x a o e).stay (fun b u _ q=>k b u q) (fun _ q=>q) fun _ _ q=>q
theorem HOk.laid (x:HOk P w H h) (k:∀ b u,h.get? b=some u->h'.get? b=some u) (hp:h.objs.size<=a) (new:zbJ P w (upd H a o) h' a o):HOk P w (upd H a o) h':=fun b u e=>by
 have hn:=x.fresh hp
 by_cases hb:b=a
 ·subst hb;rw [zaD] at e;cases e;exact new
 ·rw [zaJ hb] at e
  exact (x b u e).stay (fun c v _ q=>k c v q) (fun c q=>by rw [zaJ (zaF q hn)];exact q) fun c xs q=>by rw [zaJ (zaF q hn)];exact q
end
def Rd (H:Hp) (a:Addr) (u:HO):Prop:=H a=some u ∨ ∃ o,H a=some (.frz o u)
theorem Rd.ok {P:Program} {w:World} {H:Hp} {h:Heap} {a:Addr} {u:HO} (r:Rd H a u) (x:HOk P w H h):zbJ P w H h a u:=by
 rcases r with r | ⟨o,r⟩
 ·exact x a u r
 ·obtain ⟨_,q⟩:=x a _ r
  exact q
def Mut:Option HO->Prop
 | some (.lst _)=>True
 | some (.dK _)=>True
 | some (.dT _)=>True
 | some (.set _ _)=>True
 | some (.ins _ _ _)=>True
 | some (.ext _)=>True
 | _=>False
section
variable {P:Program} {w:World} {H:Hp} {h h':Heap} {x e:Addr} {o':HO}
theorem HOk.write (ok:HOk P w H h) (mu:Mut (H x)) (he:e=x ∨ H e=some (.own x)) (k:∀ b u,b ≠ e->h.get? b=some u->h'.get? b=some u) (heo:∃ u,h'.get? e=some u)
  (new:zbJ P w (upd H x o') h' x o'):HOk P w (upd H x o') h':=fun b u q=>by
 have nown:∀ c y,H c=some (.own y)->c ≠ x:=fun c y r z=>by subst z;rw [r] at mu;exact mu
 have ntup:∀ c xs,H c=some (.tup xs)->c ≠ x:=fun c xs r z=>by subst z;rw [r] at mu;exact mu
 by_cases hb:b=x
 ·subst hb;rw [zaD] at q;cases q;exact new
 ·rw [zaJ hb] at q
  by_cases hbe:b=e
  ·have q':H b=some (.own x):=by
    rcases he with z | z
    ·exact absurd (hbe.trans z) hb
    ·rw [hbe];exact z
   rw [q] at q';cases q'
   obtain ⟨v,hv⟩:=heo
   exact ⟨v,by rw [hbe];exact hv⟩
  ·refine (ok b u q).stay (fun c v hc r=>k c v ?_ r) (fun c r=>by rw [zaJ (nown c b r)];exact r) fun c xs r=>by rw [zaJ (ntup c xs r)];exact r
   rcases hc with rfl | hc
   ·exact hbe
   ·rintro rfl
    rcases he with z | z
    ·exact nown c b hc z
    ·rw [hc] at z;cases z;exact hb rfl
end
structure Un (fs ex:List Addr) (H H':Hp) (h h':Heap):Prop where
 keep:∀ b o,h.get? b=some o->H b=none->b ∉ fs->b ∉ ex->h'.get? b=some o
 slot:∀ b o,h.get? b=some o->H b=none->b ∈ fs->b ∉ ex->∃ sl,h'.get? b=some { o with slots:=sl }
 free:∀ b o,h.get? b=some o->H b=none->b ∉ ex->H' b=none
 there:∀ b o,h.get? b=some o->b ∉ ex->∃ o',h'.get? b=some o'
 tups:∀ b xs,H b=some (.tup xs)->H' b=some (.tup xs)
 frzs:∀ b o u,H b=some (.frz o u)->H' b=some (.frz o u)
 tbls:∀ b ps,H b=some (.tbl ps)->∃ more,H' b=some (.tbl (ps ++ more))
section
variable {fs fs' ex ex':List Addr} {H H1 H2:Hp} {h h1 h2 h':Heap} {a x e:Addr} {o:HO}
theorem Un.any (u:Un fs ex H H1 h h1) {b:Addr} {ob:Obj} (q:h.get? b=some ob) (n:H b=none) (hx:b ∉ ex):∃ sl,h1.get? b=some { ob with slots:=sl }:=by
 by_cases hb:b ∈ fs
 ·exact u.slot b ob q n hb hx
 ·exact ⟨ob.slots,u.keep b ob q n hb hx⟩
theorem Un.kept (k:∀ b u,h.get? b=some u->h'.get? b=some u):Un fs ex H H h h' :=
 ⟨fun b ob q _ _ _=>k b ob q,fun b ob q _ _ _=>⟨ob.slots,k b ob q⟩,fun _ _ _ n _=>n,fun b ob q _=>⟨ob,k b ob q⟩,fun _ _ q=>q,fun _ _ _ q=>q,fun _ ps q=>⟨#[],by rw [q];simp⟩⟩
theorem Un.refl:Un fs ex H H h h:=Un.kept fun _ _ q=>q
theorem Un.laid (k:∀ b u,h.get? b=some u->h'.get? b=some u) (hp:h.objs.size<=a) (hn:H a=none):Un fs ex H (upd H a o) h h' where
 keep:=fun b u q _ _ _=>k b u q
 slot:=fun b u q _ _ _=>⟨u.slots,k b u q⟩
 free:=fun b u q n _=>by rw [zaJ (Nat.ne_of_lt (Nat.lt_of_lt_of_le (Heap.lt_size q) hp))];exact n
 there:=fun b u q _=>⟨u,k b u q⟩
 tups:=fun b xs q=>by rw [zaJ (zaF q hn)];exact q
 frzs:=fun b u xs q=>by rw [zaJ (zaF q hn)];exact q
 tbls:=fun b ps q=>⟨#[],by rw [zaJ (zaF q hn),q];simp⟩
theorem Un.write (mu:Mut (H x)) (he:e=x ∨ H e=some (.own x)) (k:∀ b u,b ≠ e->h.get? b=some u->h'.get? b=some u) (heo:∃ u,h'.get? e=some u):Un fs ex H (upd H x o) h h':=by
 have hx:∀ b,H b=none->b ≠ x:=fun b n z=>by subst z;rw [n] at mu;exact mu
 have hb:∀ b,H b=none->b ≠ e:=fun b n z=>by
  subst z
  rcases he with r | r
  ·exact hx b n r
  ·rw [n] at r;cases r
 have hm:∀ b u,H b=some u -> ¬ Mut (some u)->b ≠ x:=fun b u q nm z=>by subst z;rw [q] at mu;exact nm mu
 refine ⟨fun b u q n _ _=>k b u (hb b n) q,fun b u q n _ _=>⟨u.slots,k b u (hb b n) q⟩,fun b u q n _=>by rw [zaJ (hx b n)];exact n,fun b u q _=>?_,
  fun b xs q=>by rw [zaJ (hm b _ q fun z=>z)];exact q,fun b u xs q=>by rw [zaJ (hm b _ q fun z=>z)];exact q,fun b ps q=>⟨#[],by rw [zaJ (hm b _ q fun z=>z),q];simp⟩⟩
 by_cases hbe:b=e
 ·subst hbe;exact heo
 ·exact ⟨u,k b u hbe q⟩
end
def trk (h:Heap) (H:Hp):List Addr:=(List.range h.objs.size).filter fun a=>(H a).isSome
def hidT (h:Heap) (H:Hp):Heap:=PySem.W.hideAll h (trk h H)
theorem ziW (h:Heap) (H:Hp):(hidT h H).objs.size=h.objs.size:=PySem.W.hideAll_size _ _
theorem zk4 {h:Heap} {H:Hp} {b:Addr} {o:Obj} (e:h.get? b=some o) (n:H b=none):(hidT h H).get? b=some o :=
 PySem.W.hideAll_get _ e fun hm=>by
  have q:(H b).isSome=true:=(List.mem_filter.mp hm).2
  rw [n] at q;simp at q
theorem zmx {h:Heap} {H:Hp} {b:Addr} {o:Obj} (e:(hidT h H).get? b=some o):h.get? b=some o/\H b=none:=by
 have e':h.get? b=some o:=PySem.W.of_hideAll (trk h H) e
 refine ⟨e',?_⟩
 cases q:H b with
 | none=>rfl
 | some x =>
  have hm:b ∈ trk h H:=List.mem_filter.mpr ⟨List.mem_range.mpr (Heap.lt_size e'),by simp [q]⟩
  have z:(hidT h H).get? b=none:=PySem.W.hideAll_none (trk h H) hm
  rw [z] at e;cases e
structure Mod (K:PySem.W.Frag) (mg:Str->Option Value) (base:Heap):Prop where
 kin:K.In base
 glob:base.Ns mainGlobals mg
 blt:∃ mb,base.Ns builtinsNs mb/\∀ x:Str,x ≠ "__name__" -> mb x=bootBuiltins x
 nolimit:base.NoLimit
structure Cx where
 prog:Program
 w:World
 K:PySem.W.Frag
 mg:Str->Option Value
 base:Heap
 A:Around
 N:List Str
 s₀ : Shared
 H₀ : Hp
 env:Env
 outer:List Env
 stack:List Env
 ex:List Addr
 fn:Str->Bool
 calm:Bool
 pn:List (Addr × Obj)
 xe:Value->Shared->Prop
def frs (l:List Env):List Addr:=l.filterMap (·.frame)
abbrev Cx.fs (X:Cx):List Addr:=frs X.outer
def Vis (sc:Scope) (x:Str):Prop:=sc.names.lookup x=some .local ∨ sc.names.lookup x=some .cell ∨ sc.names.lookup x=some .free
def Loc (sc:Scope) (x:Str):Prop:=sc.names.lookup x=some .local ∨ sc.names.lookup x=some .cell
def Look (env:Env) (h:Heap) (m:Str->Option Value) (x:Str) (u:Value):Prop :=
 (env.kindOf x=some .local/\m x=some u) ∨ ((env.kindOf x=some .cell ∨ env.kindOf x=some .free)/\∃ c,env.cells.lookup x=some c/\h.IsCell c (some u))
structure Cx.Ok (X:Cx):Prop where
 mod:Mod X.K X.mg X.base
 kind:X.env.scope.kind=.function
 glob:X.env.globals=mainGlobals
 blt:X.env.builtins=builtinsNs
 above:X.s₀.heap.objs.size<=X.env.locals
 inj:∀ x y c,X.env.cells.lookup x=some c->X.env.cells.lookup y=some c->x=y
 has:∀ x,(X.env.kindOf x=some .cell ∨ X.env.kindOf x=some .free)->∃ c,X.env.cells.lookup x=some c
 cab:∀ x c,X.fn x=true->X.env.cells.lookup x=some c->X.s₀.heap.objs.size<=c
 hd:X.calm=true->X.A.handled=none
 frames:X.A.frames=some X.stack
 stk:X.stack=X.outer ∨ (X.stack=X.env :: X.outer/\X.env.frame=some X.env.locals)
 exf:∀ b ∈ X.ex,b ≠ X.env.locals/\∀ x c,X.env.cells.lookup x=some c->c ≠ b
 bs:∀ b o,X.base.get? b=some o->X.s₀.heap.get? b=some o/\X.H₀ b=none
 bsz:X.base.objs.size<=X.s₀.heap.objs.size
 noex:∀ b o,X.base.get? b=some o->b ∉ X.ex
 exfs:∀ b ∈ X.ex,b ∉ X.fs
 funs:X.s₀.heap.FunFrames X.base X.outer
 frf:∀ b ∈ X.fs,X.H₀ b=none
structure Inv (X:Cx) (pins:List (Addr × Obj)) (σ : List (Option V)) (H:Hp) (s:Shared):Prop where
 ok:X.Ok
 os:s.os=X.s₀.os
 bare:AllBare s.gens
 base:Un X.fs X.ex X.H₀ H X.s₀.heap s.heap
 loc:∃ m,s.heap.Ns X.env.locals m/\∀ (i:Nat) (x:Str) (v:V),X.N[i]?=some x -> σ[i]?=some (some v)->Vis X.env.scope x->∃ u,RelV v u/\Look X.env s.heap m x u
 cell:∀ x c,X.env.cells.lookup x=some c->∃ v,s.heap.IsCell c v
 free:H X.env.locals=none
 freeC:∀ x c,X.env.cells.lookup x=some c->H c=none
 pin:∀ p ∈ X.pn ++ pins,s.heap.get? p.1=some p.2/\H p.1=none/\p.1 ≠ X.env.locals/\p.1 ∉ X.fs/\∀ v,p.2.data ≠ .cell v
 hok:HOk X.prog X.w H s.heap
 len : σ.length=X.N.length
section
variable {X:Cx} {pins:List (Addr × Obj)} {σ : List (Option V)} {H H':Hp} {s:Shared} {h':Heap}
theorem Cx.Ok.nofr (ok:X.Ok) {b:Addr} {o:Obj} (e:X.base.get? b=some o):b ∉ X.fs:=fun hb=>by
 have:=(ok.funs.mem hb).1
 rw [e] at this;cases this
theorem Inv.bs (I:Inv X pins σ H s):∀ b o,X.base.get? b=some o->s.heap.get? b=some o/\H b=none:=fun b o e =>
 ⟨I.base.keep b o (I.ok.bs b o e).1 (I.ok.bs b o e).2 (I.ok.nofr e) (I.ok.noex b o e),I.base.free b o (I.ok.bs b o e).1 (I.ok.bs b o e).2 (I.ok.noex b o e)⟩
theorem Inv.bk (I:Inv X pins σ H s):∀ b o,X.base.get? b=some o->s.heap.get? b=some o:=fun b o e=>(I.bs b o e).1
theorem Inv.mod (I:Inv X pins σ H s):Mod X.K X.mg X.base:=I.ok.mod
theorem Inv.kIn (I:Inv X pins σ H s):X.K.In s.heap:=I.ok.mod.kin.keeps I.bk
theorem Inv.lt (I:Inv X pins σ H s):X.env.locals < s.heap.objs.size:=let ⟨_,hn,_⟩:=I.loc;hn.lt
theorem Inv.sz (I:Inv X pins σ H s):X.s₀.heap.objs.size<=s.heap.objs.size:=Nat.le_trans I.ok.above (Nat.le_of_lt I.lt)
theorem Inv.nofs (I:Inv X pins σ H s) {a:Addr} (h:s.heap.objs.size<=a):a ∉ X.fs:=fun hb=>by
 obtain ⟨_,o,ho,_⟩:=I.ok.funs.mem hb
 exact absurd (Nat.lt_of_lt_of_le (Heap.lt_size ho) (Nat.le_trans I.sz h)) (Nat.lt_irrefl _)
theorem Inv.cne (I:Inv X pins σ H s):∀ x c,X.env.cells.lookup x=some c->c ≠ X.env.locals:=fun x c e z=>by
 obtain ⟨v,o,ho,hd⟩:=I.cell x c e
 obtain ⟨m,⟨o',es,ep,ho',hd',_⟩,_⟩:=I.loc
 rw [z,ho'] at ho;cases ho;rw [hd'] at hd;cases hd
theorem Inv.funs (I:Inv X pins σ H s):s.heap.FunFrames X.base X.outer:=by
 have all:∀ (l:List Env),(∀ b ∈ frs l,b ∈ X.fs)->X.s₀.heap.FunFrames X.base l->s.heap.FunFrames X.base l:=by
  intro l
  induction l with
  | nil=>intro _ _;trivial
  | cons env r ih =>
   intro hs hl
   obtain ⟨hk,⟨L,o,hf,hn,ho,hd⟩,hr⟩:=hl
   have hL:L ∈ X.fs:=hs L (by unfold frs;rw [List.filterMap_cons,hf];exact List.mem_cons_self)
   obtain ⟨sl,e⟩:=I.base.slot L o ho (I.ok.frf L hL) hL fun z=>I.ok.exfs L z hL
   exact ⟨hk,⟨L,_,hf,hn,e,hd⟩,ih (fun b hb=>hs b (by unfold frs;rw [List.filterMap_cons,hf];exact List.mem_cons_of_mem _ hb)) hr⟩
 exact all X.outer (fun _ hb=>hb) I.ok.funs
theorem Inv.stack (I:Inv X pins σ H s):s.heap.FunFrames X.base X.stack:=by
 rcases I.ok.stk with e | ⟨e,hf⟩
 ·rw [e];exact I.funs
 ·rw [e]
  obtain ⟨m,hn,_⟩:=I.loc
  refine .cons (by rw [I.ok.kind];decide) hf hn ?_ I.funs
  exact Heap.get?_none_of_le (Nat.le_trans I.ok.bsz I.ok.above)
theorem Inv.stkSub (I:Inv X pins σ H s):∀ b ∈ frs X.stack,b ∈ X.env.locals :: X.fs:=fun b hb=>by
 rcases I.ok.stk with e | ⟨e,hf⟩
 ·rw [e] at hb;exact List.mem_cons_of_mem _ hb
 ·rw [e] at hb
  unfold frs at hb
  rw [List.filterMap_cons,hf] at hb
  exact hb
theorem Inv.stkFree (I:Inv X pins σ H s):∀ b ∈ frs X.stack,H b=none:=fun b hb=>by
 rcases List.mem_cons.mp (I.stkSub b hb) with e | hb
 ·rw [e];exact I.free
 ·obtain ⟨_,o,ho,_⟩:=I.ok.funs.mem hb
  exact I.base.free b o ho (I.ok.frf b hb) fun z=>I.ok.exfs b z hb
theorem Inv.step {g':Array GenState} {t':Nat} {d':Drawn} {ch:List Addr} (I:Inv X pins σ H s)
  (hch:∀ b ∈ ch,(b ∈ X.ex ∨ X.s₀.heap.objs.size<=b)/\b ≠ X.env.locals/\(∀ x c,X.env.cells.lookup x=some c->c ≠ b)/\∀ p ∈ X.pn ++ pins,p.1 ≠ b)
  (keep:∀ b o,b ≠ X.env.locals->b ∉ X.fs->b ∉ ch->s.heap.get? b=some o->H b=none->h'.get? b=some o)
  (slot:∀ b o,b ≠ X.env.locals->b ∈ X.fs->b ∉ ch->s.heap.get? b=some o->H b=none->∃ sl,h'.get? b=some { o with slots:=sl }) (free:∀ b o,b ∉ ch->s.heap.get? b=some o->H b=none->H' b=none)
  (there:∀ b o,b ∉ ch->s.heap.get? b=some o->∃ o',h'.get? b=some o')
  (tups:∀ b xs,H b=some (.tup xs)->H' b=some (.tup xs)) (frzs:∀ b o u,H b=some (.frz o u)->H' b=some (.frz o u)) (tbls:∀ b ps,H b=some (.tbl ps)->∃ more,H' b=some (.tbl (ps ++ more)))
  (ns:∀ m,s.heap.Ns X.env.locals m->h'.Ns X.env.locals m) (hok:HOk X.prog X.w H' h') (hg:AllBare g') :
  Inv X pins σ H' { s with heap:=h',gens:=g',drawn:=d',toks:=t' }:=by
 have neL:∀ b o,X.s₀.heap.get? b=some o->b ≠ X.env.locals:=fun b o e=>Nat.ne_of_lt (Nat.lt_of_lt_of_le (Heap.lt_size e) I.ok.above)
 have neC:∀ b o,X.s₀.heap.get? b=some o->b ∉ X.ex->b ∉ ch:=fun b o e hx hb=>by
  rcases (hch b hb).1 with z | z
  ·exact hx z
  ·exact absurd (Nat.lt_of_lt_of_le (Heap.lt_size e) z) (Nat.lt_irrefl _)
 have cellK:∀ x c,X.env.cells.lookup x=some c->∀ v,s.heap.IsCell c v->h'.IsCell c v:=fun x c e v ⟨o,ho,hd⟩=>by
  have nch:c ∉ ch:=fun z=>(hch c z).2.2.1 x c e rfl
  by_cases hc:c ∈ X.fs
  ·obtain ⟨sl,q⟩:=slot c o (I.cne x c e) hc nch ho (I.freeC x c e)
   exact ⟨_,q,hd⟩
  ·exact ⟨o,keep c o (I.cne x c e) hc nch ho (I.freeC x c e),hd⟩
 refine ⟨I.ok,I.os,hg,⟨fun b o e n hb hx=>?_,fun b o e n hb hx=>?_,fun b o e n hx=>?_,fun b o e hx=>?_,fun b xs e=>tups b xs (I.base.tups b xs e),fun b o xs e=>frzs b o xs (I.base.frzs b o xs e),fun b ps e=>?_⟩,?_,fun x c e=>?_,?_,fun x c e=>?_,fun p hp=>?_,hok,I.len⟩
 ·exact keep b o (neL b o e) hb (neC b o e hx) (I.base.keep b o e n hb hx) (I.base.free b o e n hx)
 ·obtain ⟨sl,e1⟩:=I.base.slot b o e n hb hx
  obtain ⟨sl',e2⟩:=slot b _ (neL b o e) hb (neC b o e hx) e1 (I.base.free b o e n hx)
  exact ⟨sl',e2⟩
 ·obtain ⟨o',e1⟩:=I.base.there b o e hx
  exact free b o' (neC b o e hx) e1 (I.base.free b o e n hx)
 ·obtain ⟨o',e1⟩:=I.base.there b o e hx
  exact there b o' (neC b o e hx) e1
 ·obtain ⟨m1,e1⟩:=I.base.tbls b ps e
  obtain ⟨m2,e2⟩:=tbls b _ e1
  exact ⟨m1 ++ m2,by rw [e2,Array.append_assoc]⟩
 ·obtain ⟨m,hn,hl⟩:=I.loc
  refine ⟨m,ns m hn,fun i x v e1 e2 e3=>?_⟩
  obtain ⟨u,r,l⟩:=hl i x v e1 e2 e3
  refine ⟨u,r,?_⟩
  rcases l with l | ⟨k,c,e,z⟩
  ·exact .inl l
  ·exact .inr ⟨k,c,e,cellK x c e _ z⟩
 ·obtain ⟨v,z⟩:=I.cell x c e
  exact ⟨v,cellK x c e v z⟩
 ·obtain ⟨m,⟨o,_,_,ho,_⟩,_⟩:=I.loc
  exact free _ o (fun z=>(hch _ z).2.1 rfl) ho I.free
 ·obtain ⟨v,o,ho,hd⟩:=I.cell x c e
  exact free c o (fun z=>(hch c z).2.2.1 x c e rfl) ho (I.freeC x c e)
 ·obtain ⟨e,n,ne,nf,d⟩:=I.pin p hp
  have nch:p.1 ∉ ch:=fun z=>(hch p.1 z).2.2.2 p hp rfl
  exact ⟨keep p.1 p.2 ne nf nch e n,free p.1 p.2 nch e n,ne,nf,d⟩
theorem Inv.un {t':Nat} (I:Inv X pins σ H s) (u:Un X.fs [] H H' s.heap h') (hok:HOk X.prog X.w H' h'):Inv X pins σ H' { s with heap:=h',toks:=t' }:=by
 obtain ⟨m,⟨o,es,ep,ho,r⟩,_⟩:=id I.loc
 obtain ⟨sl,hL⟩:=u.any ho I.free (by simp)
 exact I.step (g':=s.gens) (d':=s.drawn) (ch:=[]) (fun _ z=>nomatch z) (fun b o _ hb _ e n=>u.keep b o e n hb (by simp)) (fun b o _ hb _ e n=>u.slot b o e n hb (by simp)) (fun b o _ e n=>u.free b o e n (by simp)) (fun b o _ e=>u.there b o e (by simp)) u.tups u.frzs u.tbls (fun m' hm=>by
  obtain ⟨o',es',ep',ho',r'⟩:=hm
  rw [ho] at ho';cases ho'
  exact ⟨_,es',ep',hL,r'⟩) hok I.bare
theorem Inv.call {g':Array GenState} {t':Nat} {d':Drawn} {ch:List Addr} (I:Inv X pins σ H s) (u:Un (frs X.stack) ch H H' s.heap h') (hok:HOk X.prog X.w H' h') (hg:AllBare g')
  (hch:∀ b ∈ ch,(b ∈ X.ex ∨ X.s₀.heap.objs.size<=b)/\b ≠ X.env.locals/\(∀ x c,X.env.cells.lookup x=some c->c ≠ b)/\∀ p ∈ X.pn ++ pins,p.1 ≠ b) :
  Inv X pins σ H' { s with heap:=h',gens:=g',drawn:=d',toks:=t' }:=by
 obtain ⟨m,⟨o,es,ep,ho,r⟩,_⟩:=id I.loc
 obtain ⟨sl,hL⟩:=u.any ho I.free fun z=>(hch _ z).2.1 rfl
 exact I.step (ch:=ch) hch (fun b o hL hb hc e n=>u.keep b o e n (fun z=>(List.mem_cons.mp (I.stkSub b z)).elim hL hb) hc) (fun b o _ _ hc e n=>u.any e n hc) (fun b o hc e n=>u.free b o e n hc) (fun b o hc e=>u.there b o e hc) u.tups u.frzs u.tbls (fun m' hm=>by
  obtain ⟨o',es',ep',ho',r'⟩:=hm
  rw [ho] at ho';cases ho'
  exact ⟨_,es',ep',hL,r'⟩) hok hg
theorem Inv.turned {t':Nat} {it:Addr} (I:Inv X pins σ H s) (k:∀ b o,b ≠ it->s.heap.get? b=some o->h'.get? b=some o) (hn:H it=none) (hL:it ≠ X.env.locals)
  (h1:it ∈ X.ex ∨ X.s₀.heap.objs.size<=it) (h2:∀ x c,X.env.cells.lookup x=some c->c ≠ it) (h3:∀ p ∈ X.pn ++ pins,p.1 ≠ it):Inv X pins σ H { s with heap:=h',toks:=t' }:=by
 have nit:∀ b u,H b=some u->b ≠ it:=fun b u e z=>by rw [z,hn] at e;cases e
 refine I.step (g':=s.gens) (d':=s.drawn) (ch:=[it]) (fun b hb=>?_) (fun b o _ _ hc e _=>k b o (fun z=>hc (by simp [z])) e) (fun b o _ _ hc e _=>⟨o.slots,k b o (fun z=>hc (by simp [z])) e⟩) (fun _ _ _ _ n=>n)
  (fun b o hc e=>⟨o,k b o (fun z=>hc (by simp [z])) e⟩) (fun _ _ e=>e) (fun _ _ _ e=>e) (fun b ps e=>⟨#[],by rw [e];simp⟩) (fun m hm=>?_) (fun b u e=>?_) I.bare
 ·have e:b=it:=by simpa using hb
  subst e
  exact ⟨h1,hL,h2,h3⟩
 ·obtain ⟨o,es,ep,ho,r⟩:=hm
  exact ⟨o,es,ep,k _ o (Ne.symm hL) ho,r⟩
 ·refine (I.hok b u e).stay (fun c v hc q=>k c v ?_ q) (fun _ q=>q) fun _ _ q=>q
  rcases hc with z | z
  ·rw [z];exact nit b u e
  ·exact nit c _ z
theorem Inv.tok (I:Inv X pins σ H s) (t:Nat):Inv X pins σ H { s with toks:=t }:=I.un (h':=s.heap) (t':=t) Un.refl I.hok
theorem Inv.kept {t':Nat} (I:Inv X pins σ H s) (k:∀ b u,s.heap.get? b=some u->h'.get? b=some u):Inv X pins σ H { s with heap:=h',toks:=t' }:=I.un (Un.kept k) (I.hok.kept k)
theorem Inv.laid {a:Addr} {o:HO} {t':Nat} (I:Inv X pins σ H s) (k:∀ b u,s.heap.get? b=some u->h'.get? b=some u) (hp:s.heap.objs.size<=a) (new:zbJ X.prog X.w (upd H a o) h' a o) :
  Inv X pins σ (upd H a o) { s with heap:=h',toks:=t' }:=I.un (Un.laid k hp (I.hok.fresh hp)) (I.hok.laid k hp new)
theorem Inv.write {x e:Addr} {o:HO} {t':Nat} (I:Inv X pins σ H s) (mu:Mut (H x)) (he:e=x ∨ H e=some (.own x)) (k:∀ b u,b ≠ e->s.heap.get? b=some u->h'.get? b=some u) (heo:∃ u,h'.get? e=some u)
  (new:zbJ X.prog X.w (upd H x o) h' x o):Inv X pins σ (upd H x o) { s with heap:=h',toks:=t' }:=I.un (Un.write mu he k heo) (I.hok.write mu he k heo new)
theorem Inv.pins_of {pins':List (Addr × Obj)} (I:Inv X pins σ H s) (h:∀ p ∈ pins',s.heap.get? p.1=some p.2/\H p.1=none/\p.1 ≠ X.env.locals/\p.1 ∉ X.fs/\∀ v,p.2.data ≠ .cell v):Inv X pins' σ H s :=
 ⟨I.ok,I.os,I.bare,I.base,I.loc,I.cell,I.free,I.freeC,fun p hp=>(List.mem_append.mp hp).elim (fun z=>I.pin p (List.mem_append_left _ z)) (h p),I.hok,I.len⟩
theorem zhy {N:List Str} (hN:N.Nodup) {i j:Nat} {x:Str} (a:N[i]?=some x) (b:N[j]?=some x):i=j:=by
 obtain ⟨h1,e1⟩:=List.getElem?_eq_some_iff.mp a
 obtain ⟨h2,e2⟩:=List.getElem?_eq_some_iff.mp b
 exact (List.getElem_inj hN).mp (e1.trans e2.symm)
theorem zfN {M:Model} {A:Around} {E:Value->Shared->Prop} {i:Nat} {x:Str} {v:V} {u:Value} {Q:Unit->Shared->Prop} (I:Inv X pins σ H s) (hN:X.N.Nodup) (hi:X.N[i]?=some x) (hx:Loc X.env.scope x) (r:RelV v u)
  (h:∀ s',Inv X pins (σ.set i (some v)) H s'->(∃ a,Heap.SameBut a s.heap s'.heap/\(a=X.env.locals ∨ X.env.cells.lookup x=some a))->Q () s') (hf:X.fn x=true ∨ X.env.scope.names.lookup x=some .local:=by first | exact .inl rfl | exact .inr rfl | assumption):wpAny M A (storeName X.env x u) Q E s:=by
 obtain ⟨m,hn,hl⟩:=id I.loc
 have hcls:(X.env.scope.kind == .class || (X.env.scope.kind == .module && X.env.locals != X.env.globals))=false:=by rw [I.ok.kind];rfl
 have hiσ : i < σ.length:=by rw [I.len];exact (List.getElem?_eq_some_iff.mp hi).1
 have cne:=I.cne
 have tracked:∀ {a:Addr} {h':Heap},(∃ o,s.heap.get? a=some o/\H a=none)->Heap.SameBut a s.heap h'->HOk X.prog X.w H h':=fun {a h'} ha hs b ob e=>by
  obtain ⟨_,_,hfree⟩:=ha
  refine (I.hok b ob e).stay (fun c w' hc q=>(hs.2 c ?_).trans q) (fun _ q=>q) fun _ _ q=>q
  rintro rfl
  rcases hc with rfl | hc
  ·rw [hfree] at e;cases e
  ·rw [hfree] at hc;cases hc
 rcases hx with hk | hk
 ·refine wpAny_storeName_local hk hn (fun h' hn' hs=>?_) hcls
  obtain ⟨oL,_,_,hoL,_⟩:=id hn
  refine h _ ⟨I.ok,I.os,I.bare,⟨fun b o e n hb hx=>?_,fun b o e n hb hx=>?_,I.base.free,fun b o e hx=>?_,I.base.tups,I.base.frzs,I.base.tbls⟩,⟨_,hn',fun j y v' e1 e2 e3=>?_⟩,fun y c e=>?_,I.free,I.freeC,fun p hp=>?_,tracked ⟨oL,hoL,I.free⟩ hs,by simpa using I.len⟩ ⟨_,hs,.inl rfl⟩
  ·exact (hs.2 b (Nat.ne_of_lt (Nat.lt_of_lt_of_le (Heap.lt_size e) I.ok.above))).trans (I.base.keep b o e n hb hx)
  ·obtain ⟨sl,e1⟩:=I.base.slot b o e n hb hx
   exact ⟨sl,(hs.2 b (Nat.ne_of_lt (Nat.lt_of_lt_of_le (Heap.lt_size e) I.ok.above))).trans e1⟩
  ·obtain ⟨o',e1⟩:=I.base.there b o e hx
   exact ⟨o',(hs.2 b (Nat.ne_of_lt (Nat.lt_of_lt_of_le (Heap.lt_size e) I.ok.above))).trans e1⟩
  ·by_cases hj:j=i
   ·subst hj
    rw [hi] at e1;cases e1
    rw [List.getElem?_set_self hiσ] at e2
    cases e2
    exact ⟨u,r,.inl ⟨hk,by simp⟩⟩
   ·rw [List.getElem?_set_ne (Ne.symm hj)] at e2
    obtain ⟨u',r',q⟩:=hl j y v' e1 e2 e3
    refine ⟨u',r',?_⟩
    rcases q with ⟨k,e⟩ | ⟨k,c,e,z⟩
    ·refine .inl ⟨k,?_⟩
     have:y ≠ x:=fun e=>hj (zhy hN e1 (e ▸ hi))
     simp [this,e]
    ·exact .inr ⟨k,c,e,z.sameBut hs (cne y c e)⟩
  ·obtain ⟨w',z⟩:=I.cell y c e
   exact ⟨w',z.sameBut hs (cne y c e)⟩
  ·obtain ⟨e,n,ne,nf,d⟩:=I.pin p hp
   exact ⟨(hs.2 p.1 ne).trans e,n,ne,nf,d⟩
 ·have hfn:X.fn x=true:=by
   rcases hf with z | z
   ·exact z
   ·rw [z] at hk;cases hk
  obtain ⟨c,hc⟩:=I.ok.has x (.inl hk)
  obtain ⟨w',z⟩:=I.cell x c hc
  refine wpAny_storeName_cell I.ok.kind hk hc z (fun h' hc' hs=>?_)
  obtain ⟨oc,hoc,hocd⟩:=id z
  refine h { s with heap:=h' } ⟨I.ok,I.os,I.bare,⟨fun b o e n hb hx=>?_,fun b o e n hb hx=>?_,I.base.free,fun b o e hx=>?_,I.base.tups,I.base.frzs,I.base.tbls⟩,⟨m,hn.sameBut hs (Ne.symm (cne x c hc)),fun j y v' e1 e2 e3=>?_⟩,fun y c' e=>?_,I.free,I.freeC,fun p hp=>?_,tracked ⟨oc,hoc,I.freeC x c hc⟩ hs,by simpa using I.len⟩ ⟨c,hs,.inr hc⟩
  ·exact (hs.2 b (Nat.ne_of_lt (Nat.lt_of_lt_of_le (Heap.lt_size e) (I.ok.cab x c hfn hc)))).trans (I.base.keep b o e n hb hx)
  ·obtain ⟨sl,e1⟩:=I.base.slot b o e n hb hx
   exact ⟨sl,(hs.2 b (Nat.ne_of_lt (Nat.lt_of_lt_of_le (Heap.lt_size e) (I.ok.cab x c hfn hc)))).trans e1⟩
  ·obtain ⟨o',e1⟩:=I.base.there b o e hx
   exact ⟨o',(hs.2 b (Nat.ne_of_lt (Nat.lt_of_lt_of_le (Heap.lt_size e) (I.ok.cab x c hfn hc)))).trans e1⟩
  ·by_cases hj:j=i
   ·subst hj
    rw [hi] at e1;cases e1
    rw [List.getElem?_set_self hiσ] at e2
    cases e2
    exact ⟨u,r,.inr ⟨.inl hk,c,hc,hc'⟩⟩
   ·rw [List.getElem?_set_ne (Ne.symm hj)] at e2
    obtain ⟨u',r',q⟩:=hl j y v' e1 e2 e3
    refine ⟨u',r',?_⟩
    rcases q with q | ⟨k,c',e,z'⟩
    ·exact .inl q
    ·refine .inr ⟨k,c',e,z'.sameBut hs ?_⟩
     rintro rfl
     exact hj (zhy hN e1 (I.ok.inj _ _ _ e hc ▸ hi))
  ·by_cases hcc:c'=c
   ·subst hcc;exact ⟨_,hc'⟩
   ·obtain ⟨w2,z2⟩:=I.cell y c' e
    exact ⟨w2,z2.sameBut hs hcc⟩
  ·obtain ⟨e,n,ne,nf,d⟩:=I.pin p hp
   refine ⟨(hs.2 p.1 ?_).trans e,n,ne,nf,d⟩
   intro q
   rw [q,hoc] at e
   have q':oc=p.2:=Option.some.inj e
   exact d w' (by rw [← q'];exact hocd)
theorem zc0 {M:Model} {A:Around} {E:Value->Shared->Prop} {i:Nat} {x:Str} {v:V} {u:Value} {Q:Unit->Shared->Prop} (I:Inv X pins σ H s) (hN:X.N.Nodup) (hi:X.N[i]?=some x) (hx:Loc X.env.scope x) (r:RelV v u)
  (h:∀ s',Inv X pins (σ.set i (some v)) H s'->Q () s') (hf:X.fn x=true ∨ X.env.scope.names.lookup x=some .local:=by first | exact .inl rfl | exact .inr rfl | assumption):wpAny M A (storeName X.env x u) Q E s :=
 zfN I hN hi hx r (fun s' I' _=>h s' I') hf
theorem Inv.call' {s':Shared} {ch:List Addr} (I:Inv X pins σ H s) (ho:s'.os=s.os) (u:Un (frs X.stack) ch H H' s.heap s'.heap) (hok:HOk X.prog X.w H' s'.heap) (hg:AllBare s'.gens)
  (hch:∀ b ∈ ch,(b ∈ X.ex ∨ X.s₀.heap.objs.size<=b)/\b ≠ X.env.locals/\(∀ x c,X.env.cells.lookup x=some c->c ≠ b)/\∀ p ∈ X.pn ++ pins,p.1 ≠ b):Inv X pins σ H' s':=by
 obtain ⟨h',g',d',t',o'⟩:=s'
 have e:o'=s.os:=ho
 subst e
 exact I.call (g':=g') (t':=t') (d':=d') u hok hg hch
end
abbrev XK:=Value->Option Addr->Hp->Prop
abbrev St:=List (Option V)
abbrev VK:=V->Hp->Prop
abbrev TE:=St->Hp->VK->Prop
abbrev TT:=St->Hp->(Bool->Hp->Prop)->Prop
abbrev TA:=St->Hp->(List V->Hp->Prop)->Prop
structure Ends where
 nx:St->Hp->Prop
 rt:VK
 bk:St->Hp->Prop:=fun _ _=>False
 ct:St->Hp->Prop:=fun _ _=>False
abbrev TS:=Ends->St->Hp->Prop
def EP (X:Cx) (pins:List (Addr × Obj)) (σ : St) (Q:VK) (u:Value) (s':Shared):Prop:=∃ v H',Inv X pins σ H' s'/\RelV v u/\Q v H'
def TP (X:Cx) (pins:List (Addr × Obj)) (σ : St) (Q:Bool->Hp->Prop) (b:Bool) (s':Shared):Prop:=∃ H',Inv X pins σ H' s'/\Q b H'
def AP (X:Cx) (pins:List (Addr × Obj)) (σ : St) (Q:List V->Hp->Prop) (us:List Value) (s':Shared):Prop:=∃ vs H',Inv X pins σ H' s'/\Vals vs us/\Q vs H'
def SP (X:Cx) (pins:List (Addr × Obj)) (D:Ends) (f:Flow) (s':Shared):Prop :=
 match f with
 | .next=>∃ σ' H',Inv X pins σ' H' s'/\D.nx σ' H'
 | .brk=>∃ σ' H',Inv X pins σ' H' s'/\D.bk σ' H'
 | .cont=>∃ σ' H',Inv X pins σ' H' s'/\D.ct σ' H'
 | .ret u=>∃ v σ' H',Inv X pins σ' H' s'/\RelV v u/\D.rt v H'
def PE (X:Cx) (e:Expr) (t:TE):Prop :=
 ∀ (pins:List (Addr × Obj)) (s:Shared) (σ : St) (H:Hp) (Q:VK),Inv X pins σ H s->t σ H Q->wpAny (model X.prog X.w) X.A (eval e X.env) (EP X pins σ Q) X.xe s
def PT (X:Cx) (e:Expr) (t:TT):Prop :=
 ∀ (pins:List (Addr × Obj)) (s:Shared) (σ : St) (H:Hp) (Q:Bool->Hp->Prop),Inv X pins σ H s->t σ H Q->wpAny (model X.prog X.w) X.A (isTrue e X.env (eval e X.env)) (TP X pins σ Q) X.xe s
def PW (X:Cx) (e:Expr) (t:TT):Prop :=
 ∀ (whole:Sem Value) (pins:List (Addr × Obj)) (s:Shared) (σ : St) (H:Hp) (Q:Bool->Hp->Prop),Inv X pins σ H s->t σ H Q->wpAny (model X.prog X.w) X.A (isTrue e X.env whole) (TP X pins σ Q) X.xe s
theorem PW.pt {X:Cx} {e:Expr} {t:TT} (h:PW X e t):PT X e t:=h _
def PA (X:Cx) (es:List Expr) (t:TA):Prop :=
 ∀ (pos:Pos) (pins:List (Addr × Obj)) (s:Shared) (σ : St) (H:Hp) (Q:List V->Hp->Prop),Inv X pins σ H s->t σ H Q->wpAny (model X.prog X.w) X.A (spliced (backTo pos (starEach es X.env))) (AP X pins σ Q) X.xe s
def PS (X:Cx) (st:Stmt) (t:TS):Prop :=
 ∀ (pins:List (Addr × Obj)) (s:Shared) (σ : St) (H:Hp) (D:Ends),Inv X pins σ H s->t D σ H->wpAny (model X.prog X.w) X.A (exec st X.env) (SP X pins D) X.xe s
def PSs (X:Cx) (st:List Stmt) (t:TS):Prop :=
 ∀ (pins:List (Addr × Obj)) (s:Shared) (σ : St) (H:Hp) (D:Ends),Inv X pins σ H s->t D σ H->wpAny (model X.prog X.w) X.A (execs st X.env) (SP X pins D) X.xe s
theorem thn {α : Type} {t:Sem α} {Q Q' : α -> Shared->Prop} {M:Model} {A:Around} {E:Value->Shared->Prop} {s:Shared} (h:wpAny M A t Q E s) (hQ:∀ a s,Q a s->Q' a s):wpAny M A t Q' E s:=wpAny_mono h hQ fun _ _ x=>x
section
variable {X:Cx}
def tVar (i:Nat):TE:=fun σ H Q=>∃ v,σ[i]?=some (some v)/\Q v H
def tC (v:V):TE:=fun _ H Q=>Q v H
theorem zl6 {i:Nat} {x:Str} {pos:Pos} (hN:X.N[i]?=some x) (hv:Vis X.env.scope x) (hd:(x == ("__debug__" : Str))=false:=by decide) (hcd:(x == ("__classdict__" : Str))=false:=by decide):PE X (.Name x pos) (tVar i):=by
 intro pins s σ H Q I h
 obtain ⟨v,e,h⟩:=h
 obtain ⟨m,hn,hl⟩:=I.loc
 obtain ⟨u,r,l⟩:=hl i x v hN e hv
 have fin:EP X pins σ Q u s:=⟨v,H,I,r,h⟩
 rcases l with ⟨hk,hm⟩ | ⟨hk,c,hc,hcell⟩
 ·exact wpAny_Name (wpAny_loadName_local I.ok.kind hk hn hm fin) hd
 ·rcases hk with hk | hk
  ·exact wpAny_Name (wpAny_loadName_cell I.ok.kind hk hc hcell fin) hd
  ·exact wpAny_Name (wpAny_loadName_free I.ok.kind hk hc hcell fin hcd) hd
theorem znM {i j pos}:PE X (.Constant (.int i) j pos) (tC (.int i)):=fun _ _ _ H _ I h=>wpAny_Constant_int ⟨.int i,H,I.tok _,⟨_,rfl⟩,h⟩
theorem zo9 {b j pos}:PE X (.Constant (.bool b) j pos) (tC (.bl b)):=fun _ _ _ H _ I h=>Constant_bool ⟨.bl b,H,I,rfl,h⟩
theorem znN {j pos}:PE X (.Constant .none j pos) (tC .non):=fun _ _ _ H _ I h=>Constant_none ⟨.non,H,I,rfl,h⟩
theorem znO {x j pos}:PE X (.Constant (.str x) j pos) (tC (.str x)):=fun _ _ _ H _ I h=>Calls.Constant_str ⟨.str x,H,I.tok _,⟨_,rfl⟩,h⟩
def Gl (X:Cx) (x:Str):Prop:=X.env.kindOf x=some .globalImplicit
theorem ziX {E:Value->Shared->Prop} {pins:List (Addr × Obj)} {s:Shared} {σ : St} {H:Hp} {x:Str} {u:Value} {pos:Pos} {Q:Value->Shared->Prop} (I:Inv X pins σ H s) (hg:Gl X x) (hm:X.mg x=some u) (h:Q u s)
  (hd:(x == ("__debug__" : Str))=false:=by decide):wpAny (model X.prog X.w) X.A (eval (.Name x pos) X.env) Q E s :=
 Calls.Name_function_global I.ok.kind hg (Calls.loadGlobal_global (by rw [I.ok.glob];exact I.mod.glob.keeps I.bk) hm h) hd
theorem zec {E:Value->Shared->Prop} {pins:List (Addr × Obj)} {s:Shared} {σ : St} {H:Hp} {x:Str} {u:Value} {pos:Pos} {Q:Value->Shared->Prop} (I:Inv X pins σ H s) (hg:Gl X x) (hm:X.mg x=none) (hv:bootBuiltins x=some u) (h:Q u s)
  (hn:x ≠ "__name__" := by decide) (hd:(x == ("__debug__" : Str))=false:=by decide):wpAny (model X.prog X.w) X.A (eval (.Name x pos) X.env) Q E s:=by
 obtain ⟨mb,h1,h2⟩:=I.mod.blt
 exact Calls.Name_function_global I.ok.kind hg (Calls.loadGlobal_builtin (by rw [I.ok.glob];exact I.mod.glob.keeps I.bk) hm (by rw [I.ok.blt];exact h1.keeps I.bk) ((h2 x hn).trans hv) h) hd
theorem ziY {x:Str} {v:V} {u:Value} {pos:Pos} (hg:Gl X x) (hm:X.mg x=some u) (r:RelV v u) (hd:(x == ("__debug__" : Str))=false:=by decide):PE X (.Name x pos) (tC v) :=
 fun _ _ _ H _ I h=>ziX I hg hm ⟨v,H,I,r,h⟩ hd
theorem zmy {x:Str} {v:V} {u:Value} {pos:Pos} (hg:Gl X x) (hm:X.mg x=none) (hv:bootBuiltins x=some u) (r:RelV v u) (hn:x ≠ "__name__" := by decide) (hd:(x == ("__debug__" : Str))=false:=by decide):PE X (.Name x pos) (tC v) :=
 fun _ _ _ H _ I h=>zec I hg hm hv ⟨v,H,I,r,h⟩ hn hd
variable {a b:Expr} {ta tb:TE} {pos:Pos}
def PC (X:Cx) (op:CmpOp) (a b:Expr) (t:TE):Prop :=
 ∀ (pins:List (Addr × Obj)) (s:Shared) (σ : St) (H:Hp) (Q:VK),Inv X pins σ H s->t σ H Q ->
  wpAny (model X.prog X.w) X.A (eval a X.env) (fun v s₁=>wpAny (model X.prog X.w) X.A (eval b X.env) (fun u s₂=>wpAny (model X.prog X.w) X.A (compareOp op v u) (EP X pins σ Q) X.xe s₂) X.xe s₁) X.xe s
theorem zhz (b:Expr) {op:CmpOp} (h:op ≠ .In) (h2:op ≠ .NotIn):behindInMarks op b=false:=by
 have e1:(op == CmpOp.In)=false:=by cases op <;> first | rfl | exact absurd rfl h
 have e2:(op == CmpOp.NotIn)=false:=by cases op <;> first | rfl | exact absurd rfl h2
 cases b <;> simp [behindInMarks,e1,e2]
def tIsN (ta:TE):TE:=fun σ H Q=>ta σ H fun x H1=>Q (.bl (decide (x=.non))) H1
def zpa (ta:TE):TE:=fun σ H Q=>ta σ H fun x H1=>Q (.bl (!decide (x=.non))) H1
theorem RelV.none_iff {x:V} {v:Value} (r:RelV x v):(v == Value.none)=decide (x=.non):=by
 cases x with
 | non=>cases r;rfl
 | bl _=>cases r;rfl
 | int _=>obtain ⟨t,rfl⟩:=r;rfl
 | str _=>obtain ⟨t,rfl⟩:=r;rfl
 | byt _=>obtain ⟨t,rfl⟩:=r;rfl
 | flt _=>obtain ⟨t,rfl⟩:=r;rfl
 | ref _=>cases r;rfl
 | ty _=>cases r;rfl
theorem zl7 {j pos'} (ha:PE X a ta):PC X .Is a (.Constant .none j pos') (tIsN ta):=by
 intro pins s σ H Q I h
 refine thn (ha pins s σ H _ I h) fun v s1 ⟨x,H1,I1,r1,q1⟩=>?_
 exact Constant_none (is_none_gen ⟨.bl _,H1,I1,by rw [r1.none_iff];rfl,q1⟩)
theorem zmz {j pos'} (ha:PE X a ta):PC X .IsNot a (.Constant .none j pos') (zpa ta):=by
 intro pins s σ H Q I h
 refine thn (ha pins s σ H _ I h) fun v s1 ⟨x,H1,I1,r1,q1⟩=>?_
 exact Constant_none (isnot_none_gen ⟨.bl _,H1,I1,by rw [r1.none_iff];rfl,q1⟩)
def tB (t:TE):TT:=fun σ H Q=>t σ H fun x H1=>∃ c,x=.bl c/\Q c H1
theorem znP {op:CmpOp} {t:TE} (h:PC X op a b t) (h1:behindInMarks op b=false:=by first | exact zhz _ (by decide) (by decide) | rfl):PE X (.Compare a [op] [b] pos) t:=fun pins s σ H Q I hw=>wpAny_Compare1 (h pins s σ H Q I hw) h1
theorem zl8 {op:CmpOp} {t:TE} (h:PC X op a b t) (h1:behindInMarks op b=false:=by first | exact zhz _ (by decide) (by decide) | rfl):PT X (.Compare a [op] [b] pos) (tB t):=by
 intro pins s σ H Q I hw
 refine wpAny_isTrue_Compare1 (thn (h pins s σ H _ I hw) fun v s1 h1=>thn h1 fun u s2 h2=>thn h2 fun c s3 ⟨x,H1,I1,r1,q1⟩=>?_) h1
 obtain ⟨d,rfl,q⟩:=q1
 cases r1
 exact wpAny_truthy_bool ⟨H1,I1,q⟩
theorem znQ {e:Expr} {t:TE} (h:PE X e t) (he:∀ whole,isTrue e X.env whole=(do let v ← whole;standAt e.pos;holding [v] (truthy v)):=by intro _;rfl):PT X e (tB t):=by
 intro pins s σ H Q I hw
 refine isTrue_plain (thn (h pins s σ H _ I hw) fun v s1 ⟨x,H1,I1,r1,q1⟩=>?_) (he _)
 obtain ⟨d,rfl,q⟩:=q1
 cases r1
 exact wpAny_truthy_bool ⟨H1,I1,q⟩
variable {tA tB':TT} {rest:List Expr}
def tAnd (t u:TT):TT:=fun σ H Q=>t σ H fun c H1=>if c=true then u σ H1 Q else Q false H1
def tOr (t u:TT):TT:=fun σ H Q=>t σ H fun c H1=>if c=true then Q true H1 else u σ H1 Q
def tNot (t:TT):TT:=fun σ H Q=>t σ H fun c H1=>Q (!c) H1
theorem zmA (ha:PT X a tA):PW X (.BoolOp .And [a] pos) tA:=by
 intro wh pins s σ H Q I h
 refine isTrue_and (thn (ha pins s σ H Q I h) fun c s1 e=>?_)
 cases c with
 | true=>exact isTrue_and_nil e
 | false=>exact e
theorem znR (ha:PT X a tA):PW X (.BoolOp .Or [a] pos) tA:=by
 intro wh pins s σ H Q I h
 refine isTrue_or (thn (ha pins s σ H Q I h) fun c s1 e=>?_)
 cases c with
 | false=>exact isTrue_or_nil e
 | true=>exact e
theorem znS (ha:PT X a tA) (hb:PW X (.BoolOp .And (b :: rest) pos) tB'):PW X (.BoolOp .And (a :: b :: rest) pos) (tAnd tA tB'):=by
 intro wh pins s σ H Q I h
 refine isTrue_and (thn (ha pins s σ H _ I h) fun c s1 ⟨H1,I1,q1⟩=>?_)
 cases c with
 | true=>exact hb wh pins s1 σ H1 Q I1 q1
 | false=>exact ⟨H1,I1,q1⟩
theorem zpb (ha:PT X a tA) (hb:PW X (.BoolOp .Or (b :: rest) pos) tB'):PW X (.BoolOp .Or (a :: b :: rest) pos) (tOr tA tB'):=by
 intro wh pins s σ H Q I h
 refine isTrue_or (thn (ha pins s σ H _ I h) fun c s1 ⟨H1,I1,q1⟩=>?_)
 cases c with
 | true=>exact ⟨H1,I1,q1⟩
 | false=>exact hb wh pins s1 σ H1 Q I1 q1
theorem znT (ha:PT X a tA):PT X (.UnaryOp .Not a pos) (tNot tA):=by
 intro pins s σ H Q I h
 exact isTrue_not (ha pins s σ H (fun c H1=>Q (!c) H1) I h)
def zpc (ta tb:TE):TE:=fun σ H Q=>ta σ H fun x H1=>∃ c,x=.bl c/\if c=true then tb σ H1 Q else Q (.bl false) H1
def tOrV (ta tb:TE):TE:=fun σ H Q=>ta σ H fun x H1=>∃ c,x=.bl c/\if c=true then Q (.bl true) H1 else tb σ H1 Q
def zpd (ta:TE):TE:=fun σ H Q=>ta σ H fun x H1=>∃ c,x=.bl c/\Q (.bl (!c)) H1
theorem znU {op} {t:TE} (h:PE X a t):PE X (.BoolOp op [a] pos) t:=fun pins s σ H Q I hw=>BoolOp_one (h pins s σ H Q I hw)
theorem znV (ha:PE X a ta) (hb:PE X (.BoolOp .And (b :: rest) pos) tb):PE X (.BoolOp .And (a :: b :: rest) pos) (zpc ta tb):=by
 intro pins s σ H Q I h
 refine BoolOp_and (thn (ha pins s σ H _ I h) fun v s1 ⟨x,H1,I1,r1,q1⟩=>?_)
 obtain ⟨c,rfl,q1⟩:=q1
 cases r1
 refine wpAny_truthy_bool ?_
 cases c with
 | true=>exact hb pins s1 σ H1 Q I1 q1
 | false=>exact ⟨.bl false,H1,I1,rfl,q1⟩
theorem zpe (ha:PE X a ta) (hb:PE X (.BoolOp .Or (b :: rest) pos) tb):PE X (.BoolOp .Or (a :: b :: rest) pos) (tOrV ta tb):=by
 intro pins s σ H Q I h
 refine BoolOp_or (thn (ha pins s σ H _ I h) fun v s1 ⟨x,H1,I1,r1,q1⟩=>?_)
 obtain ⟨c,rfl,q1⟩:=q1
 cases r1
 refine wpAny_truthy_bool ?_
 cases c with
 | false=>exact hb pins s1 σ H1 Q I1 q1
 | true=>exact ⟨.bl true,H1,I1,rfl,q1⟩
theorem znW (ha:PE X a ta):PE X (.UnaryOp .Not a pos) (zpd ta):=by
 intro pins s σ H Q I h
 refine UnaryOp_ (thn (ha pins s σ H _ I h) fun v s1 ⟨x,H1,I1,r1,q1⟩=>?_)
 obtain ⟨c,rfl,q1⟩:=q1
 cases r1
 exact not_of (wpAny_truthy_bool ⟨.bl (!c),H1,I1,rfl,q1⟩)
def tIf (t:TT) (ta tb:TE):TE:=fun σ H Q=>t σ H fun c H1=>if c=true then ta σ H1 Q else tb σ H1 Q
theorem zk5 {c:Expr} (hc:PT X c tA) (ha:PE X a ta) (hb:PE X b tb):PE X (.IfExp c a b pos) (tIf tA ta tb):=by
 intro pins s σ H Q I h
 refine wpAny_IfExp (thn (hc pins s σ H _ I h) fun d s1 ⟨H1,I1,q1⟩=>?_)
 cases d with
 | true=>exact ha pins s1 σ H1 Q I1 q1
 | false=>exact hb pins s1 σ H1 Q I1 q1
end
def SqL (K:PySem.W.Frag) (H:Hp) (a:Addr) (xs:List V):Prop :=
 Rd H a (.lst xs) ∨
  ∃ (o:Obj) (its:Array Value) (n:Nat),K.lookup a=some o/\o.cls=.type "list" /\ o.dict=none/\o.data=.seq its n/\its.size<=sizeLine/\Vals xs its.toList
def SqT (K:PySem.W.Frag) (H:Hp) (a:Addr) (xs:List V):Prop :=
 Rd H a (.tup xs) ∨
  ∃ (o:Obj) (its:Array Value) (n:Nat),K.lookup a=some o/\o.cls=.type "tuple" /\ o.data=.seq its n/\its.size<=sizeLine/\Vals xs its.toList
def absV:Value->Option V
 | .none=>some .non
 | .bool b=>some (.bl b)
 | .int i _=>some (.int i)
 | .str x _=>some (.str x)
 | .bytes b _=>some (.byt b)
 | .float b _=>some (.flt b)
 | .ref a=>some (.ref a)
 | .type n=>some (.ty n)
 | _=>none
theorem RelV.abs {x:V} {u:Value} (r:RelV x u):absV u=some x:=by
 cases x with
 | non=>cases r;rfl
 | bl _=>cases r;rfl
 | int _=>obtain ⟨t,rfl⟩:=r;rfl
 | str _=>obtain ⟨t,rfl⟩:=r;rfl
 | byt _=>obtain ⟨t,rfl⟩:=r;rfl
 | flt _=>obtain ⟨t,rfl⟩:=r;rfl
 | ref _=>cases r;rfl
 | ty _=>cases r;rfl
theorem RelV.inj {x y:V} {u:Value} (r:RelV x u) (q:RelV y u):x=y:=Option.some.inj (r.abs.symm.trans q.abs)
theorem Vals.inj:∀ {xs ys:List V} {us:List Value},Vals xs us->Vals ys us->xs=ys
 | _,_,_,.nil,.nil=>rfl
 | _,_,_,.cons r t,.cons r' t'=>by rw [r.inj r',Vals.inj t t']
section
variable {X:Cx} {pins:List (Addr × Obj)} {σ : St} {H:Hp} {s:Shared} {a:Addr} {xs ys:List V}
theorem SqL.of {K:PySem.W.Frag} (h:H a=some (.lst xs)):SqL K H a xs:=.inl (.inl h)
theorem SqT.of {K:PySem.W.Frag} (h:H a=some (.tup xs)):SqT K H a xs:=.inl (.inl h)
theorem Inv.list (I:Inv X pins σ H s) (h:SqL X.K H a xs):∃ its:List Value,Vals xs its/\PlainL s.heap a its.toArray/\xs.length<=sizeLine:=by
 rcases h with h | ⟨o,its,n,hk,hc,hd,hs,hz,r⟩
 ·obtain ⟨z,its,n,r,e⟩:=h.ok I.hok
  exact ⟨its,r,⟨_,n,e,rfl,rfl,rfl⟩,z⟩
 ·refine ⟨its.toList,r,⟨o,n,I.kIn a o hk,hc,hd,by simpa using hs⟩,?_⟩
  have e:=r.length
  simp only [Array.length_toList] at e
  omega
theorem Inv.tuple (I:Inv X pins σ H s) (h:SqT X.K H a xs):∃ its:List Value,Vals xs its/\IsTup s.heap a its.toArray/\xs.length<=sizeLine:=by
 rcases h with h | ⟨o,its,n,hk,hc,hs,hz,r⟩
 ·obtain ⟨z,its,r,p⟩:=h.ok I.hok
  exact ⟨its,r,p,z⟩
 ·refine ⟨its.toList,r,⟨o,I.kIn a o hk,hc,n,by simpa using hs⟩,?_⟩
  have e:=r.length
  simp only [Array.length_toList] at e
  omega
theorem Inv.list_inj (I:Inv X pins σ H s) (h:SqL X.K H a xs) (h':SqL X.K H a ys):xs=ys:=by
 obtain ⟨its,r,⟨o,n,e,_,_,d⟩,_⟩:=I.list h
 obtain ⟨its',r',⟨o',n',e',_,_,d'⟩,_⟩:=I.list h'
 rw [e] at e';cases e'
 rw [d] at d'
 injection d' with d1 _
 have:its=its':=by simpa using congrArg Array.toList d1
 subst this
 exact r.inj r'
theorem Inv.tuple_inj (I:Inv X pins σ H s) (h:SqT X.K H a xs) (h':SqT X.K H a ys):xs=ys:=by
 obtain ⟨its,r,⟨o,e,_,n,d⟩,_⟩:=I.tuple h
 obtain ⟨its',r',⟨o',e',_,n',d'⟩,_⟩:=I.tuple h'
 rw [e] at e';cases e'
 rw [d] at d'
 injection d' with d1 _
 have:its=its':=by simpa using congrArg Array.toList d1
 subst this
 exact r.inj r'
end
abbrev Cx.wish (X:Cx) (E:Value->Shared->Prop):Cx:={ X with xe:=E }
abbrev Cx.nox (X:Cx):Cx:=X.wish fun _ _=>False
theorem Cx.Ok.wish {X:Cx} (ok:X.Ok) (E:Value->Shared->Prop):(X.wish E).Ok :=
 ⟨ok.mod,ok.kind,ok.glob,ok.blt,ok.above,ok.inj,ok.has,ok.cab,ok.hd,ok.frames,ok.stk,ok.exf,ok.bs,ok.bsz,ok.noex,ok.exfs,ok.funs,ok.frf⟩
theorem Cx.Ok.unwish {X:Cx} {E:Value->Shared->Prop} (ok:(X.wish E).Ok):X.Ok :=
 ⟨ok.mod,ok.kind,ok.glob,ok.blt,ok.above,ok.inj,ok.has,ok.cab,ok.hd,ok.frames,ok.stk,ok.exf,ok.bs,ok.bsz,ok.noex,ok.exfs,ok.funs,ok.frf⟩
section
variable {X:Cx} {pins:List (Addr × Obj)} {σ : St} {H:Hp} {s:Shared} {E:Value->Shared->Prop}
theorem Inv.wish (I:Inv X pins σ H s) (E:Value->Shared->Prop):Inv (X.wish E) pins σ H s:=⟨I.ok.wish E,I.os,I.bare,I.base,I.loc,I.cell,I.free,I.freeC,I.pin,I.hok,I.len⟩
theorem Inv.unwish (I:Inv (X.wish E) pins σ H s):Inv X pins σ H s:=⟨I.ok.unwish,I.os,I.bare,I.base,I.loc,I.cell,I.free,I.freeC,I.pin,I.hok,I.len⟩
theorem SP.unwish {D:Ends} {f:Flow} {s':Shared} (h:SP (X.wish E) pins D f s'):SP X pins D f s':=by
 cases f with
 | next=>obtain ⟨σ',H',I,q⟩:=h;exact ⟨σ',H',I.unwish,q⟩
 | brk=>obtain ⟨σ',H',I,q⟩:=h;exact ⟨σ',H',I.unwish,q⟩
 | cont=>obtain ⟨σ',H',I,q⟩:=h;exact ⟨σ',H',I.unwish,q⟩
 | ret u=>obtain ⟨v,σ',H',I,r,q⟩:=h;exact ⟨v,σ',H',I.unwish,r,q⟩
theorem PSs.nox {st:List Stmt} {t:TS} (h:PSs X.nox st t):PSs X st t:=fun pins s σ H D I hw =>
 wpAny_mono (h pins s σ H D (I.wish _) hw) (fun _ _ q=>q.unwish) fun _ _ z=>False.elim z
end
section
variable {X:Cx} {st:Stmt} {rest:List Stmt} {t u:TS} {e:Expr} {te:TE} {pos:Pos}
def zpf:TS:=fun D σ H=>D.nx σ H
def tSeq (t u:TS):TS:=fun D σ H=>t { D with nx:=u D } σ H
theorem zmB:PSs X [] zpf:=fun _ _ σ H _ I h=>wpAny_execs_nil ⟨σ,H,I,h⟩
theorem ze9 (h1:PS X st t) (h2:PSs X rest u):PSs X (st :: rest) (tSeq t u):=by
 intro pins s σ H D I h
 refine wpAny_execs_cons (thn (h1 pins s σ H { D with nx:=u D } I h) fun f s1 q=>?_)
 cases f with
 | next =>
  obtain ⟨σ',H',I',q⟩:=q
  exact h2 pins s1 σ' H' D I' q
 | ret v=>exact q
 | brk=>exact q
 | cont=>exact q
theorem zgM (h1:PS X st t):PSs X [st] t:=by
 intro pins s σ H D I h
 refine wpAny_execs_cons (thn (h1 pins s σ H D I h) fun f s1 q=>?_)
 cases f with
 | next=>exact wpAny_execs_nil q
 | ret v=>exact q
 | brk=>exact q
 | cont=>exact q
theorem Inv.quiet {pins:List (Addr × Obj)} {σ : St} {H:Hp} {s:Shared} (I:Inv X pins σ H s):interactive X.env=false:=by simp [interactive,I.ok.kind]
def zpg (te:TE):TS:=fun D σ H=>te σ H fun _ H1=>D.nx σ H1
theorem zgN (he:PE X e te) (hs:swapsWith e none pos.line X.env=pure false:=by rfl):PS X (.Expr e pos) (zpg te):=by
 intro pins s σ H D I h
 exact wpAny_Expr_any (thn (he pins s σ H _ I h) fun v s1 ⟨x,H1,I1,r1,q1⟩=>⟨σ,H1,I1,q1⟩) I.quiet hs
def tRet (te:TE):TS:=fun D σ H=>te σ H D.rt
theorem zl9 (he:PE X e te):PS X (.Return (some e) pos) (tRet te):=by
 intro pins s σ H D I h
 exact wpAny_Return_some (thn (he pins s σ H _ I h) fun v s1 ⟨x,H1,I1,r1,q1⟩=>⟨x,σ,H1,I1,r1,q1⟩)
def tIfS (c:TT) (t u:TS):TS:=fun D σ H=>c σ H fun b H1=>if b=true then t D σ H1 else u D σ H1
theorem zph {c:Expr} {a b:List Stmt} {tc:TT} (hc:PT X c tc) (ha:PSs X a t) (hb:PSs X b u):PS X (.If c a b pos) (tIfS tc t u):=by
 intro pins s σ H D I h
 refine wpAny_If (thn (hc pins s σ H _ I h) fun d s1 ⟨H1,I1,q1⟩=>?_)
 cases d with
 | true=>exact ha pins s1 σ H1 D I1 q1
 | false=>exact hb pins s1 σ H1 D I1 q1
end
abbrev TG:=V->St->Hp->(St->Hp->Prop)->Prop
abbrev TGs:=List V->St->Hp->(St->Hp->Prop)->Prop
def PG (X:Cx) (target:Expr) (t:TG):Prop :=
 ∀ (pins:List (Addr × Obj)) (s:Shared) (σ : St) (H:Hp) (v:V) (u:Value) (Q:St->Hp->Prop),Inv X pins σ H s->RelV v u->t v σ H Q ->
  wpAny (model X.prog X.w) X.A (assign target X.env u) (fun _ s'=>∃ σ' H',Inv X pins σ' H' s'/\Q σ' H') X.xe s
def PGs (X:Cx) (ts:List Expr) (t:TGs):Prop :=
 ∀ (pins:List (Addr × Obj)) (s:Shared) (σ : St) (H:Hp) (vs:List V) (us:List Value) (Q:St->Hp->Prop),Inv X pins σ H s->Vals vs us->t vs σ H Q ->
  wpAny (model X.prog X.w) X.A (assignInOrder ((assignEach ts X.env).map (·.2)) us) (fun _ s'=>∃ σ' H',Inv X pins σ' H' s'/\Q σ' H') X.xe s
abbrev TIp:=V->V->Hp->VK->Prop
def PIp (X:Cx) (op:Operator) (t:TIp):Prop :=
 ∀ (pins:List (Addr × Obj)) (s:Shared) (σ : St) (H:Hp) (x y:V) (v u:Value) (Q:VK),Inv X pins σ H s->RelV x v->RelV y u->t x y H Q ->
  wpAny (model X.prog X.w) X.A (inplaceOp op v u) (EP X pins σ Q) X.xe s
section
variable {X:Cx} {pos:Pos}
def zmC (i:Nat):TG:=fun v σ H Q=>Q (σ.set i (some v)) H
theorem zao {i:Nat} {x:Str} (hN:X.N.Nodup) (hi:X.N[i]?=some x) (hx:Loc X.env.scope x) (hf:X.fn x=true ∨ X.env.scope.names.lookup x=some .local:=by first | exact .inl rfl | exact .inr rfl | assumption):PG X (.Name x pos) (zmC i):=by
 intro pins s σ H v u Q I r h
 exact wpAny_assign_Name (zc0 I hN hi hx r (fun s' I'=>⟨_,H,I',h⟩) hf)
def gNil:TGs:=fun vs σ H Q=>vs=[]/\Q σ H
def zpi (t:TG) (u:TGs):TGs:=fun vs σ H Q=>∃ v r,vs=v :: r/\t v σ H fun σ' H'=>u r σ' H' Q
theorem ziZ:PGs X [] gNil:=by
 intro pins s σ H vs us Q I r h
 obtain ⟨e,h⟩:=h
 subst e
 cases r
 exact assignInOrder_nil ⟨σ,H,I,h⟩
theorem zfa {e:Expr} {es:List Expr} {t:TG} {u:TGs} (h1:PG X e t) (h2:PGs X es u)
  (hs:(assignEach (e :: es) X.env).map (·.2)=assign e X.env :: (assignEach es X.env).map (·.2):=by rfl):PGs X (e :: es) (zpi t u):=by
 intro pins s σ H vs us Q I r h
 obtain ⟨v,vr,e1,h⟩:=h
 subst e1
 cases r with
 | cons r rr =>
  rw [hs]
  refine assignInOrder_cons (thn (h1 pins s σ H _ _ _ I r h) fun _ s1 ⟨σ1,H1,I1,q1⟩=>?_)
  exact h2 pins s1 σ1 H1 _ _ Q I1 rr q1
def gTup (K:PySem.W.Frag) (n:Nat) (t:TGs):TG:=fun v σ H Q=>∃ a xs,v=.ref a/\SqT K H a xs/\xs.length=n/\t xs σ H Q
theorem zma {es:List Expr} {k:Nat} {t:TGs} {n:Nat} (hc:X.calm=true) (h:PGs X es t)
  (hn:(assignEach es X.env).length=n:=by rfl) (hst:(assignEach es X.env).findIdx? (·.1)=none:=by rfl):PG X (.Tuple es k pos) (gTup X.K n t):=by
 intro pins s σ H v u Q I r hw
 obtain ⟨a,xs,e1,hq,hl,hw⟩:=hw
 subst e1
 cases r
 obtain ⟨its,rv,ht,hz⟩:=I.tuple hq
 refine assign_Tuple_tuple (I.ok.hd hc) ht (by simp [hn,← hl,rv.length]) hst fun h' hx=>?_
 have I1:Inv X pins σ H { s with heap:=h' }:=I.kept (t':=s.toks) fun b o e=>hx b o (Nat.ne_of_lt (Heap.lt_size e)) e
 exact h pins _ σ H xs _ Q I1 (by simpa using rv) hw
def tAsg (te:TE) (g:TG):TS:=fun D σ H=>te σ H fun x H1=>g x σ H1 D.nx
theorem znX {tg e:Expr} {te:TE} {g:TG} (he:PE X e te) (hg:PG X tg g) (hs:swapsWithSole [tg] e pos.line X.env=pure false:=by rfl) (hw:swappedStores [tg] e X.env=pure none:=by rfl)
  (h1:(assignEach [tg] X.env).map (·.2)=[assign tg X.env]:=by rfl):PS X (.Assign [tg] e pos) (tAsg te g):=by
 intro pins s σ H D I h
 refine wpAny_Assign_stores (thn (he pins s σ H _ I h) fun v s1 ⟨x,H1,I1,r1,q1⟩=>?_) hs hw
 rw [h1]
 exact thn (hg pins s1 σ H1 x v _ I1 r1 q1) fun _ s2 q=>q
theorem zi0 {i:Nat} {x:Str} {e:Expr} {te:TE} {pos':Pos} (hN:X.N.Nodup) (hi:X.N[i]?=some x) (hx:Loc X.env.scope x) (he:PE X e te) (hs:swapsWith e (some (.Name x pos')) pos.line X.env=pure false:=by rfl) (hf:X.fn x=true ∨ X.env.scope.names.lookup x=some .local:=by first | exact .inl rfl | exact .inr rfl | assumption) :
  PS X (.Assign [.Name x pos'] e pos) (tAsg te (zmC i)):=by
 intro pins s σ H D I h
 refine wpAny_Assign_Name (thn (he pins s σ H _ I h) fun v s1 ⟨y,H1,I1,r1,q1⟩=>?_) hs
 exact zc0 I1 hN hi hx r1 (fun s2 I2=>⟨_,H1,I2,q1⟩) hf
def tAug (i:Nat) (te:TE) (ti:TIp):TS:=fun D σ H=>∃ x,σ[i]?=some (some x)/\te σ H fun y H1=>ti x y H1 fun z H2=>D.nx (σ.set i (some z)) H2
theorem znY {i:Nat} {x:Str} {e:Expr} {te:TE} {op:Operator} {ti:TIp} {pos':Pos} (hN:X.N.Nodup) (hi:X.N[i]?=some x) (hx:Loc X.env.scope x) (he:PE X e te) (ho:PIp X op ti) (hf:X.fn x=true ∨ X.env.scope.names.lookup x=some .local:=by first | exact .inl rfl | exact .inr rfl | assumption) :
  PS X (.AugAssign (.Name x pos') op e pos) (tAug i te ti):=by
 intro pins s σ H D I h
 obtain ⟨v,e1,h⟩:=h
 obtain ⟨m,hn,hl⟩:=I.loc
 have vis:Vis X.env.scope x:=by rcases hx with k | k;exact .inl k;exact .inr (.inl k)
 obtain ⟨u,r,l⟩:=hl i x v hi e1 vis
 refine wpAny_AugAssign_Name ?_
 have go:wpAny (model X.prog X.w) X.A (eval e X.env) (fun w s₂=>wpAny (model X.prog X.w) X.A (inplaceOp op u w) (fun r s₃=>wpAny (model X.prog X.w) X.A (storeName X.env x r) (fun _=>SP X pins D .next) X.xe s₃) X.xe s₂) X.xe s:=by
  refine thn (he pins s σ H _ I h) fun w s1 ⟨y,H1,I1,r1,q1⟩=>?_
  refine thn (ho pins s1 σ H1 v y u w _ I1 r r1 q1) fun z s2 ⟨zv,H2,I2,r2,q2⟩=>?_
  exact zc0 I2 hN hi hx r2 (fun s3 I3=>⟨_,H2,I3,q2⟩) hf
 rcases l with ⟨hk,hm⟩ | ⟨hk,c,hc,hcell⟩
 ·exact wpAny_loadName_local I.ok.kind hk hn hm go
 ·rcases hk with hk | hk
  ·exact wpAny_loadName_cell I.ok.kind hk hc hcell go
  ·rcases hx with k | k
   ·have:X.env.scope.names.lookup x=some .free:=hk
    rw [k] at this;cases this
   ·have:X.env.scope.names.lookup x=some .free:=hk
    rw [k] at this;cases this
end
section
variable {X:Cx} {pos:Pos}
def znZ (c:TT) (tb:TS):TS:=fun D σ H=>∃ W:Nat->St->Hp->Prop,(∃ m,W m σ H)/\∀ m σ H,W m σ H ->
 c σ H fun b H1=>if b=true then ∃ N:St->Hp->Prop,(∀ σ' H',N σ' H'->∃ m',m' < m/\W m' σ' H')/\tb { D with nx:=N,ct:=N,bk:=D.nx } σ H1 else D.nx σ H1
theorem zk6 {c:Expr} {body:List Stmt} {tc:TT} {tb:TS} (hp:PassesOwn (model X.prog X.w) X.A X.env X.xe) (hc:PT X c tc) (hb:PSs X body tb):PS X (.While c body [] pos) (znZ tc tb):=by
 intro pins s σ H D I h
 obtain ⟨W,⟨m0,w0⟩,turn⟩:=h
 refine wpAny_While (codeAny_whileLoop (fun n s'=>∃ σ' H',Inv X pins σ' H' s'/\W n σ' H') ?_ m0 ⟨σ,H,I,w0⟩)
 rintro n s1 ⟨σ1,H1,I1,w1⟩
 refine wpAny_passesOwn hp (thn (hc pins s1 σ1 H1 _ I1 (turn n σ1 H1 w1)) fun b s2 ⟨H2,I2,q2⟩=>?_)
 cases b with
 | true =>
  obtain ⟨N,hN,q2⟩:=q2
  rw [if_pos rfl]
  refine wpAny_passesOwn hp (thn (hb pins s2 σ1 H2 _ I2 q2) fun f s3 q3=>?_)
  cases f with
  | next =>
   obtain ⟨σ3,H3,I3,n3⟩:=q3
   obtain ⟨m',hm,w3⟩:=hN σ3 H3 n3
   exact ⟨m',hm,σ3,H3,I3,w3⟩
  | cont =>
   obtain ⟨σ3,H3,I3,n3⟩:=q3
   obtain ⟨m',hm,w3⟩:=hN σ3 H3 n3
   exact ⟨m',hm,σ3,H3,I3,w3⟩
  | brk=>exact q3
  | ret v=>exact q3
 | false =>
  rw [if_neg Bool.false_ne_true]
  exact wpAny_execs_nil ⟨σ1,H2,I2,q2⟩
end
structure It where
 go:Nat->Hp->Prop
 yld:Nat->Hp->V->Hp->Prop
 stop:Nat->Hp->Prop
def FpOk (X:Cx) (pins:List (Addr × Obj)) (H:Hp) (b:Addr):Prop :=
 H b=none/\b ≠ X.env.locals/\b ∉ X.fs/\(b ∈ X.ex ∨ X.s₀.heap.objs.size<=b)/\(∀ x c,X.env.cells.lookup x=some c->c ≠ b)/\∀ p ∈ X.pn ++ pins,p.1 ≠ b
theorem Inv.fpOk {X:Cx} {pins:List (Addr × Obj)} {σ : St} {H H':Hp} {s:Shared} {b:Addr} (I:Inv X pins σ H s) (hb:s.heap.objs.size<=b) (hn:H' b=none):FpOk X pins H' b:=by
 refine ⟨hn,Nat.ne_of_gt (Nat.lt_of_lt_of_le I.lt hb),I.nofs hb,.inr (Nat.le_trans I.sz hb),fun x c e z=>?_,fun p hp z=>?_⟩
 ·obtain ⟨v,q⟩:=I.cell x c e
  exact absurd (Nat.lt_of_lt_of_le q.lt (by rw [z];exact hb)) (Nat.lt_irrefl _)
 ·exact absurd (Nat.lt_of_lt_of_le (Heap.lt_size (I.pin p hp).1) (by rw [z];exact hb)) (Nat.lt_irrefl _)
structure Turn (P:Program) (w:World) (K:PySem.W.Frag) (tg:Expr) (J:It) (fp:List Addr) (it:Addr) (tn:Nat->Heap->Prop):Prop where
 mem:it ∈ fp
 obj:∀ i h,tn i h->∀ b ∈ fp,∃ o,h.get? b=some o/\∀ v,o.data ≠ .cell v
 keep:∀ i h h',tn i h->(∀ b ∈ fp,∀ o,h.get? b=some o->h'.get? b=some o)->tn i h'
 item:∀ (X:Cx),X.prog=P->X.w=w->X.K=K->X.calm=true->∀ (i:Nat) (pins:List (Addr × Obj)) (s:Shared) (σ : St) (H:Hp) (E:Value->Shared->Prop),Inv X pins σ H s->(∀ b ∈ fp,FpOk X pins H b)->tn i s.heap->J.go i H ->
  wpAny (model P w) X.A (pyNext (.ref it)) (fun r s1=>∃ u,r=some u /\
   wpAny (model P w) X.A (letOwnedTupleGo tg (.ref it) u) (fun _ s2=>∃ x H',Inv X pins σ H' s2/\RelV x u/\J.yld i H x H'/\tn (i+1) s2.heap/\∀ b ∈ fp,H' b=none) E s1) E s
 done:∀ (X:Cx),X.prog=P->X.w=w->X.K=K->X.calm=true->∀ (i:Nat) (pins:List (Addr × Obj)) (s:Shared) (σ : St) (H:Hp) (E:Value->Shared->Prop),Inv X pins σ H s->(∀ b ∈ fp,FpOk X pins H b)->tn i s.heap->J.stop i H ->
  wpAny (model P w) X.A (pyNext (.ref it)) (fun r s1=>r=none/\Inv X pins σ H s1) E s
 self:∀ (A:Around) (i:Nat) (s:Shared) (Q:Value->Shared->Prop) (E:Value->Shared->Prop),tn i s.heap->Q (.ref it) s->wpAny (model P w) A (pyIter (.ref it)) Q E s
abbrev TI:=St->Hp->(It->Hp->Prop)->Prop
def PIE (X:Cx) (pins:List (Addr × Obj)) (σ : St) (tg:Expr) (R:It->Hp->Prop) (itv:Value) (s2:Shared):Prop :=
 ∃ (it:Addr) (fp:List Addr) (tn:Nat->Heap->Prop) (J:It) (H':Hp),itv=.ref it/\Inv X pins σ H' s2/\Turn X.prog X.w X.K tg J fp it tn/\tn 0 s2.heap/\(∀ b ∈ fp,FpOk X pins H' b)/\R J H'
def PI (X:Cx) (tg iter:Expr) (wi:TI):Prop :=
 ∀ (pins:List (Addr × Obj)) (s:Shared) (σ : St) (H:Hp) (R:It->Hp->Prop),Inv X pins σ H s->wi σ H R ->
  wpAny (model X.prog X.w) X.A (eval iter X.env) (fun v s1=>wpAny (model X.prog X.w) X.A (pyIter v) (PIE X pins σ tg R) X.xe s1) X.xe s
theorem zi1 {M:Model} {A:Around} {E:Value->Shared->Prop} {s:Shared} {tg:Expr} {it:Addr} {u:Value} {o:Obj} {n:String} {vs:Array Value} {Q:Unit->Shared->Prop} (ho:s.heap.get? it=some o) (hc:o.cls=.type n) (hd:o.data=.fields vs)
  (hn:["enumerate", "zip", "dict_itemiterator", "dict_reverseitemiterator", "odict_iterator", "itertools.zip_longest", "itertools.pairwise"].contains n=false) (hQ:Q () s):wpAny M A (letOwnedTupleGo tg (.ref it) u) Q E s:=by
 unfold letOwnedTupleGo
 cases tg <;> first
  | exact wpAny_pure hQ
  | (cases u <;> first
    | exact wpAny_pure hQ
    | (
      refine wpAny_bind (wpAny_load ho ?_)
      rw [hc,hd]
      show wpAny M A (if (["enumerate", "zip", "dict_itemiterator", "dict_reverseitemiterator", "odict_iterator", "itertools.zip_longest", "itertools.pairwise"].contains n && vs[0]? == some (rawInt _))=true then _ else _) Q E s
      rw [if_neg (by intro h;rw [hn,Bool.false_and] at h;cases h)]
      exact wpAny_pure hQ))
def Itl (K:PySem.W.Frag) (a:Addr):It :=
 ⟨fun i H=>∃ xs x,SqL K H a xs/\xs[i]?=some x,fun i H x H'=>H'=H/\∀ xs,SqL K H a xs->xs[i]?=some x,fun i H=>∃ xs,SqL K H a xs/\xs.length<=i⟩
def Itt (K:PySem.W.Frag) (a:Addr):It :=
 ⟨fun i H=>∃ xs x,SqT K H a xs/\xs[i]?=some x,fun i H x H'=>H'=H/\∀ xs,SqT K H a xs->xs[i]?=some x,fun i H=>∃ xs,SqT K H a xs/\xs.length<=i⟩
def Itr (lo:Int) (n:Nat):It:=⟨fun i _=>i < n,fun i H x H'=>H'=H/\x=.int (lo+i),fun i _=>n<=i⟩
theorem zi2 {P:Program} {w:World} {K:PySem.W.Frag} {tg:Expr} (a it:Addr):Turn P w K tg (Itl K a) [it] it (fun i h=>h.IsListIter it a i) where
 mem:=by simp
 obj:=fun i h st b hb=>by
  have e:b=it:=by simpa using hb
  subst e
  obtain ⟨o,e,c,d⟩:=st
  exact ⟨o,e,fun v z=>by rw [d] at z;cases z⟩
 keep:=fun i h h' st k=>st.at fun o e=>k it (by simp) o e
 item:=by
  intro X hP hw hK hc i pins s σ H E I hf st hg
  subst hP hw hK
  obtain ⟨xs,x,hq,hx⟩:=hg
  obtain ⟨its,rv,p,hz⟩:=I.list hq
  obtain ⟨u,hu,ru⟩:=rv.get hx
  obtain ⟨f0,f1,f2,f3,f4,f5⟩:=hf it (by simp)
  refine wpAny_pyNext_list_item st p.isList (x:=u) (by simpa using hu) fun h' st' sb=>?_
  have I1:Inv X pins σ H { s with heap:=h' }:=I.turned (t':=s.toks) (fun b o hb e=>(sb.2 b hb).trans e) f0 f1 f3 f4 f5
  obtain ⟨o,e,c,d⟩:=id st'
  exact ⟨u,rfl,zi1 (s:={ s with heap:=h' }) e c d (by decide) ⟨x,H,I1,ru,⟨rfl,fun ys hy=>by rw [I.list_inj hy hq];exact hx⟩,st',fun b hb=>(hf b hb).1⟩⟩
 done:=by
  intro X hP hw hK hc i pins s σ H E I hf st hg
  subst hP hw hK
  obtain ⟨xs,hq,hx⟩:=hg
  obtain ⟨its,rv,p,hz⟩:=I.list hq
  obtain ⟨f0,f1,f2,f3,f4,f5⟩:=hf it (by simp)
  have hl:=rv.length
  exact wpAny_pyNext_list_end (I.ok.hd hc) st p.isList (by simp;omega) fun h' eb=>⟨rfl,I.turned (t':=s.toks) (fun b o hb e=>eb b o hb e) f0 f1 f3 f4 f5⟩
 self:=fun _ _ _ _ _ st h=>wpAny_pyIter_listiter st h
theorem zie {P:Program} {w:World} {K:PySem.W.Frag} {tg:Expr} (a it:Addr):Turn P w K tg (Itt K a) [it] it (fun i h=>h.IsTupleIter it a i) where
 mem:=by simp
 obj:=fun i h st b hb=>by
  have e:b=it:=by simpa using hb
  subst e
  obtain ⟨o,e,c,d⟩:=st
  exact ⟨o,e,fun v z=>by rw [d] at z;cases z⟩
 keep:=fun i h h' st k=>st.at fun o e=>k it (by simp) o e
 item:=by
  intro X hP hw hK hc i pins s σ H E I hf st hg
  subst hP hw hK
  obtain ⟨xs,x,hq,hx⟩:=hg
  obtain ⟨its,rv,p,hz⟩:=I.tuple hq
  obtain ⟨u,hu,ru⟩:=rv.get hx
  obtain ⟨f0,f1,f2,f3,f4,f5⟩:=hf it (by simp)
  refine wpAny_pyNext_tuple_item st (show s.heap.IsTuple a its.toArray from p) (x:=u) (by simpa using hu) fun h' st' sb=>?_
  have I1:Inv X pins σ H { s with heap:=h' }:=I.turned (t':=s.toks) (fun b o hb e=>(sb.2 b hb).trans e) f0 f1 f3 f4 f5
  obtain ⟨o,e,c,d⟩:=id st'
  exact ⟨u,rfl,zi1 (s:={ s with heap:=h' }) e c d (by decide) ⟨x,H,I1,ru,⟨rfl,fun ys hy=>by rw [I.tuple_inj hy hq];exact hx⟩,st',fun b hb=>(hf b hb).1⟩⟩
 done:=by
  intro X hP hw hK hc i pins s σ H E I hf st hg
  subst hP hw hK
  obtain ⟨xs,hq,hx⟩:=hg
  obtain ⟨its,rv,p,hz⟩:=I.tuple hq
  obtain ⟨f0,f1,f2,f3,f4,f5⟩:=hf it (by simp)
  have hl:=rv.length
  exact wpAny_pyNext_tuple_end (I.ok.hd hc) st (show s.heap.IsTuple a its.toArray from p) (by simp;omega) fun h' eb=>⟨rfl,I.turned (t':=s.toks) (fun b o hb e=>eb b o hb e) f0 f1 f3 f4 f5⟩
 self:=fun _ _ _ _ _ st h=>wpAny_pyIter_tupleiter st h
theorem zif {P:Program} {w:World} {K:PySem.W.Frag} {tg:Expr} (it:Addr) (lo:Int) (n:Nat):Turn P w K tg (Itr lo n) [it] it (fun i h=>IsRangeIter h it (lo+(i:Nat) * 1) ((n:Int) - (i:Nat)) 1) where
 mem:=by simp
 obj:=fun i h st b hb=>by
  have e:b=it:=by simpa using hb
  subst e
  exact ⟨_,st,fun v z=>by
   have z':Data.fields _=Data.cell v:=z
   cases z'⟩
 keep:=fun i h h' st k=>k it (by simp) _ st
 item:=by
  intro X hP hw hK hc i pins s σ H E I hf st hg
  subst hP hw hK
  obtain ⟨f0,f1,f2,f3,f4,f5⟩:=hf it (by simp)
  have W:=Walks.range (prog:=X.prog) (w:=X.w) (I.ok.hd hc) it lo 1 n
  refine W.item i s _ _ hg st fun v h' tk hv st' kk=>?_
  obtain ⟨t,rfl⟩:=hv
  have I1:Inv X pins σ H { s with heap:=h',toks:=tk }:=I.turned (fun b o hb e=>kk b o (by simpa using hb) e) f0 f1 f3 f4 f5
  refine ⟨_,rfl,zi1 (s:={ s with heap:=h',toks:=tk }) (n := "range_iterator") st' rfl rfl (by decide) ⟨.int (lo+i),H,I1,⟨t,?_⟩,⟨rfl,rfl⟩,st',fun b hb=>(hf b hb).1⟩⟩
  rw [Int.mul_one]
 done:=by
  intro X hP hw hK hc i pins s σ H E I hf st hg
  subst hP hw hK
  obtain ⟨f0,f1,f2,f3,f4,f5⟩:=hf it (by simp)
  exact wpAny_pyNext_range_end (I.ok.hd hc) st (by have:n<=i:=hg;omega) fun h' eb=>⟨rfl,I.turned (t':=s.toks) (fun b o hb e=>eb b o hb e) f0 f1 f3 f4 f5⟩
 self:=fun _ _ _ _ _ st h=>wpAny_pyIter_rangeiter st h
section
variable {X:Cx} {tg:Expr}
theorem zhA {pins:List (Addr × Obj)} {σ : St} {H:Hp} {s:Shared} {R:It->Hp->Prop} {E:Value->Shared->Prop} {lo hi:Int} {t u v:Tok} {tk:Nat} (I:Inv X pins σ H s) (h1 : -(2 ^ 62)<=lo) (h2:lo < 2 ^ 62) (h3 : -(2 ^ 62)<=hi) (h4:hi < 2 ^ 62)
  (q:R (Itr lo (hi - lo).toNat) H):wpAny (model X.prog X.w) X.A (pyIter (.ref s.heap.objs.size)) (PIE X pins σ tg R) E { s with heap:=s.heap.push { cls:=.type "range", data:=.fields #[.int lo t,.int hi u,.int 1 v] },toks:=tk }:=by
 refine wpAny_pyIter_range (IsRange.new ..) (small_one h1 h2 h3 h4) ?_
 have I1:Inv X pins σ H { s with heap:=s.heap.push { cls:=.type "range", data:=.fields #[.int lo t,.int hi u,.int 1 v] },toks:=tk }:=I.kept fun b o e=>Heap.get?_push_of_some _ e
 refine ⟨(s.heap.push { cls:=.type "range", data:=.fields #[.int lo t,.int hi u,.int 1 v] }).objs.size,[(s.heap.push { cls:=.type "range", data:=.fields #[.int lo t,.int hi u,.int 1 v] }).objs.size],_,_,H,rfl,
  I1.kept (t':=tk) fun b o e=>Heap.get?_push_of_some _ e,zif _ lo (hi - lo).toNat,?_,fun b hb=>?_,q⟩
 ·have e1:lo+((0:Nat):Int) * 1=lo:=by simp
  have e2:(((hi - lo).toNat:Nat):Int) - ((0:Nat):Int)=Builtin.Range.rangeSize lo hi 1:=by rw [rangeSize_one];split <;> omega
  show IsRangeIter _ _ (lo+((0:Nat):Int) * 1) ((((hi - lo).toNat:Nat):Int) - ((0:Nat):Int)) 1
  rw [e1,e2]
  exact Heap.get?_push_size _ rfl
 ·have e:b=(s.heap.push { cls:=.type "range", data:=.fields #[.int lo t,.int hi u,.int 1 v] }).objs.size:=by simpa using hb
  subst e
  exact I1.fpOk (Nat.le_refl _) (I1.hok.fresh (Nat.le_refl _))
def zpj (ta:TA):TI:=fun σ H R=>ta σ H fun vs H1=>∃ j:Int,vs=[.int j] /\ -(2 ^ 62)<=j/\j < 2 ^ 62/\R (Itr 0 j.toNat) H1
def zpk (ta:TA):TI:=fun σ H R=>ta σ H fun vs H1=>∃ i j:Int,vs=[.int i,.int j]/\(-(2 ^ 62)<=i/\i < 2 ^ 62 /\ -(2 ^ 62)<=j/\j < 2 ^ 62)/\R (Itr i (j - i).toNat) H1
theorem zi3 {a:Expr} {ta:TA} {p pos:Pos} (hg:Gl X "range") (hm:X.mg "range" = none) (ha:PA X [a] ta) (hs:starEach [a] X.env=[(false,eval a X.env)]:=by rfl):PI X tg (.Call (.Name "range" p) [a] [] pos) (zpj ta):=by
 intro pins s σ H R I h
 refine Call_ (zec I hg hm boot_range (PyProof.Rows.callWith_type1 (thn (ha pos pins s σ H _ I h) fun us s1 ⟨vs,H1,I1,r1,q1⟩=>?_) hs rfl))
 obtain ⟨j,e,q1,q2,q⟩:=q1
 subst e
 cases r1 with
 | cons r rr =>
  cases rr
  obtain ⟨t,rfl⟩:=r
  exact call_range_1 (zhA I1 (by omega) (by omega) q1 q2 (by simpa using q))
theorem zi4 {a b:Expr} {ta:TA} {p pos:Pos} (hg:Gl X "range") (hm:X.mg "range" = none) (ha:PA X [a,b] ta) (hs:starEach [a,b] X.env=[(false,eval a X.env),(false,eval b X.env)]:=by rfl) (hs2:starEach [b] X.env=[(false,eval b X.env)]:=by rfl) :
  PI X tg (.Call (.Name "range" p) [a,b] [] pos) (zpk ta):=by
 intro pins s σ H R I h
 refine Call_ (zec I hg hm boot_range (PyProof.Rows.callWith_type1 (thn (ha pos pins s σ H _ I h) fun us s1 ⟨vs,H1,I1,r1,q1⟩=>?_) (by rw [hs,hs2]) (by rw [hs2];rfl)))
 obtain ⟨i,j,e,⟨q1,q2,q3,q4⟩,q⟩:=q1
 subst e
 cases r1 with
 | cons r rr =>
  cases rr with
  | cons r' rr =>
   cases rr
   obtain ⟨t,rfl⟩:=r
   obtain ⟨t',rfl⟩:=r'
   exact call_range_2 (zhA I1 q1 q2 q3 q4 q)
def tFor (wi:TI) (g:TG) (tb:TS):TS:=fun D σ H=>wi σ H fun J H1=>∃ W:Nat->Nat->St->Hp->Prop,(∃ m,W 0 m σ H1)/\∀ i m σ H,W i m σ H ->
 (J.stop i H/\D.nx σ H) ∨ (J.go i H/\∃ N:St->Hp->Prop,(∀ σ' H',N σ' H'->∃ m',m' < m/\W (i+1) m' σ' H')/\∀ x H',J.yld i H x H'->g x σ H' fun σ2 H2=>tb { D with nx:=N,ct:=N,bk:=D.nx } σ2 H2)
def zfO (fp:List Addr) (h:Heap):List (Addr × Obj):=fp.filterMap fun b=>(h.get? b).map fun o=>(b,o)
theorem zc1 {fp:List Addr} {h:Heap} {b:Addr} {o:Obj} (hb:b ∈ fp) (e:h.get? b=some o):(b,o) ∈ zfO fp h:=List.mem_filterMap.mpr ⟨b,hb,by rw [e];rfl⟩
theorem zi5 {fp:List Addr} {h:Heap} {p:Addr × Obj} (hp:p ∈ zfO fp h):p.1 ∈ fp/\h.get? p.1=some p.2:=by
 obtain ⟨b,hb,e⟩:=List.mem_filterMap.mp hp
 cases q:h.get? b with
 | none=>rw [q] at e;cases e
 | some o =>
  rw [q] at e
  have e':(b,o)=p:=Option.some.inj e
  subst e'
  exact ⟨hb,q⟩
theorem Inv.pinned {pins:List (Addr × Obj)} {σ : St} {H:Hp} {s:Shared} {fp:List Addr} (I:Inv X pins σ H s) (hf:∀ b ∈ fp,FpOk X pins H b) (ho:∀ b ∈ fp,∃ o,s.heap.get? b=some o/\∀ v,o.data ≠ .cell v):Inv X (pins ++ zfO fp s.heap) σ H s :=
 I.pins_of fun p hp=>(List.mem_append.mp hp).elim (fun z=>I.pin p (List.mem_append_right _ z)) fun z=>by
  obtain ⟨hb,e⟩:=zi5 z
  obtain ⟨f0,f1,f2,_⟩:=hf p.1 hb
  obtain ⟨o,e',d⟩:=ho p.1 hb
  rw [e] at e';cases e'
  exact ⟨e,f0,f1,f2,d⟩
theorem Inv.unpinned {pins pl:List (Addr × Obj)} {σ : St} {H:Hp} {s:Shared} (I:Inv X (pins ++ pl) σ H s):Inv X pins σ H s:=I.pins_of fun p hp=>I.pin p (List.mem_append_right _ (List.mem_append_left _ hp))
theorem zmb {iter:Expr} {body:List Stmt} {wi:TI} {g:TG} {tb:TS} {pos:Pos} (hp:PassesOwn (model X.prog X.w) X.A X.env X.xe) (hc:X.calm=true) (hi:PI X tg iter wi) (hg:PG X tg g) (hb:PSs X body tb)
  (hs:∀ x,foldedSetIterable iter X.env x=pure x:=by intro _;rfl):PS X (.For tg iter body [] pos) (tFor wi g tb):=by
 intro pins s σ H D I h
 refine wpAny_For (thn (hi pins s σ H _ I h) fun v s1 h1=>thn h1 fun itv s2 h2=>?_) hs
 obtain ⟨it,fp,tn,J,H2,e,I2,T,st2,f2,W,⟨m0,w0⟩,turn⟩:=h2
 subst e
 have stat:∀ {H':Hp},(∀ b ∈ fp,H' b=none)->∀ b ∈ fp,FpOk X pins H' b:=fun hn b hb=>⟨hn b hb,(f2 b hb).2⟩
 refine codeAny_forLoop_any (fun n s'=>∃ i σ' H',Inv X pins σ' H' s'/\tn i s'.heap/\(∀ b ∈ fp,H' b=none)/\W i n σ' H') ?_ m0 ⟨0,σ,H2,I2,st2,fun b hb=>(f2 b hb).1,w0⟩
 rintro n s3 ⟨i,σ3,H3,I3,st3,fr3,w3⟩
 rcases turn i n σ3 H3 w3 with ⟨stop,qn⟩ | ⟨go,N,hN,step⟩
 ·refine wpAny_passesOwn hp (thn (T.done X rfl rfl rfl hc i pins s3 σ3 H3 X.xe I3 (stat fr3) st3 stop) fun r s4 ⟨hr,I4⟩=>?_)
  subst hr
  exact wpAny_execs_nil ⟨σ3,H3,I4,qn⟩
 ·refine wpAny_passesOwn hp (thn (T.item X rfl rfl rfl hc i pins s3 σ3 H3 X.xe I3 (stat fr3) st3 go) fun r s4 ⟨u,hr,h4⟩=>?_)
  subst hr
  refine wpAny_passesOwn hp (thn h4 fun _ s5 ⟨x,H5,I5,r5,y5,st5,fr5⟩=>?_)
  have I5':=I5.pinned (stat fr5) (T.obj _ _ st5)
  refine wpAny_passesOwn hp (thn (hg _ s5 σ3 H5 x u _ I5' r5 (step x H5 y5)) fun _ s6 ⟨σ6,H6,I6,q6⟩=>?_)
  refine wpAny_passesOwn hp (thn (hb _ s6 σ6 H6 _ I6 q6) fun f s7 q7=>?_)
  have again:∀ {σ7:St} {H7:Hp},Inv X (pins ++ zfO fp s5.heap) σ7 H7 s7->N σ7 H7->∃ m,m < n/\∃ i σ' H',Inv X pins σ' H' s7/\tn i s7.heap/\(∀ b ∈ fp,H' b=none)/\W i m σ' H':=fun {σ7 H7} I7 n7=>by
   obtain ⟨m',hm,w7⟩:=hN σ7 H7 n7
   refine ⟨m',hm,i+1,σ7,H7,I7.unpinned,T.keep _ _ _ st5 fun b hb o e=>(I7.pin (b,o) (List.mem_append_right _ (List.mem_append_right _ (zc1 hb e)))).1,fun b hb=>?_,w7⟩
   obtain ⟨o,e,d⟩:=T.obj _ _ st5 b hb
   exact (I7.pin (b,o) (List.mem_append_right _ (List.mem_append_right _ (zc1 hb e)))).2.1
  cases f with
  | next=>obtain ⟨σ7,H7,I7,n7⟩:=q7;exact again I7 n7
  | cont=>obtain ⟨σ7,H7,I7,n7⟩:=q7;exact again I7 n7
  | brk=>obtain ⟨σ7,H7,I7,q7⟩:=q7;exact ⟨σ7,H7,I7.unpinned,q7⟩
  | ret v=>obtain ⟨x7,σ7,H7,I7,r7,q7⟩:=q7;exact ⟨x7,σ7,H7,I7.unpinned,r7,q7⟩
end
abbrev R2:=V->V->Hp->VK->Prop
def OpR (X:Cx) (f:Value->Value->Sem Value) (r:R2):Prop :=
 ∀ (pins:List (Addr × Obj)) (s:Shared) (σ : St) (H:Hp) (x y:V) (v u:Value) (Q:VK),Inv X pins σ H s->RelV x v->RelV y u->r x y H Q ->
  wpAny (model X.prog X.w) X.A (f v u) (EP X pins σ Q) X.xe s
def UnR (X:Cx) (f:Value->Sem Value) (r:V->Hp->VK->Prop):Prop :=
 ∀ (pins:List (Addr × Obj)) (s:Shared) (σ : St) (H:Hp) (x:V) (v:Value) (Q:VK),Inv X pins σ H s->RelV x v->r x H Q ->
  wpAny (model X.prog X.w) X.A (f v) (EP X pins σ Q) X.xe s
def zcJ (X:Cx) (f:Value) (r:List V->Hp->VK->Prop):Prop :=
 ∀ (pins:List (Addr × Obj)) (s:Shared) (σ : St) (H:Hp) (xs:List V) (us:List Value) (Q:VK),Inv X pins σ H s->Vals xs us->r xs H Q ->
  wpAny (model X.prog X.w) X.A (call f us) (EP X pins σ Q) X.xe s
def tOp (r:R2) (ta tb:TE):TE:=fun σ H Q=>ta σ H fun x H1=>tb σ H1 fun y H2=>r x y H2 Q
def tUn (r:V->Hp->VK->Prop) (ta:TE):TE:=fun σ H Q=>ta σ H fun x H1=>r x H1 Q
def rI (C:Int->Int->Prop) (g:Int->Int->V):R2:=fun x y H Q=>∃ i j,x=.int i/\y=.int j/\C i j/\Q (g i j) H
def rI0 (g:Int->Int->V):R2:=fun x y H Q=>∃ i j,x=.int i/\y=.int j/\Q (g i j) H
def rU (g:Int->V):V->Hp->VK->Prop:=fun x H Q=>∃ i,x=.int i/\Q (g i) H
section
variable {X:Cx} {a b c:Expr} {ta tb tc:TE} {pos:Pos}
theorem binT (ha:PE X a ta) (hb:PE X b tb) {pins:List (Addr × Obj)} {s:Shared} {σ : St} {H:Hp} {R:V->V->Hp->Prop} (I:Inv X pins σ H s)
  (h:ta σ H fun x H1=>tb σ H1 fun y H2=>R x y H2) {Q:Value->Shared->Prop} {f:Value->Value->Sem Value}
  (hf:∀ v u s2 x y H2,Inv X pins σ H2 s2->RelV x v->RelV y u->R x y H2->wpAny (model X.prog X.w) X.A (f v u) Q X.xe s2) :
  wpAny (model X.prog X.w) X.A (eval a X.env) (fun v s₁=>wpAny (model X.prog X.w) X.A (eval b X.env) (fun u s₂=>wpAny (model X.prog X.w) X.A (f v u) Q X.xe s₂) X.xe s₁) X.xe s:=by
 refine thn (ha pins s σ H _ I h) fun v s1 ⟨x,H1,I1,r1,q1⟩=>?_
 refine thn (hb pins s1 σ H1 _ I1 q1) fun u s2 ⟨y,H2,I2,r2,q2⟩=>?_
 exact hf v u s2 x y H2 I2 r1 r2 q2
theorem zpl {op:Operator} {r:R2} (ho:OpR X (binaryOp op) r) (ha:PE X a ta) (hb:PE X b tb):PE X (.BinOp a op b pos) (tOp r ta tb):=by
 intro pins s σ H Q I h
 exact wpAny_BinOp (binT ha hb I h fun v u s2 x y H2 I2 rx ry q=>ho pins s2 σ H2 x y v u Q I2 rx ry q)
theorem zpm {op:UnaryOp} {r:V->Hp->VK->Prop} (ho:UnR X (unaryOp op) r) (ha:PE X a ta):PE X (.UnaryOp op a pos) (tUn r ta):=by
 intro pins s σ H Q I h
 exact UnaryOp_ (thn (ha pins s σ H _ I h) fun v s1 ⟨x,H1,I1,r1,q1⟩=>ho pins s1 σ H1 x v Q I1 r1 q1)
theorem opI {f:Value->Value->Sem Value} {C:Int->Int->Prop} {g:Int->Int->Int}
  (rule:∀ (i j:Int) (t u:Tok) (s:Shared) (Q:Value->Shared->Prop) (E:Value->Shared->Prop),C i j->Q (.int (g i j) s.toks) { s with toks:=s.toks+1 }->wpAny (model X.prog X.w) X.A (f (.int i t) (.int j u)) Q E s) :
  OpR X f (rI C fun i j=>.int (g i j)):=by
 intro pins s σ H x y v u Q I rx ry h
 obtain ⟨i,j,rfl,rfl,hc,q⟩:=h
 obtain ⟨t,rfl⟩:=rx
 obtain ⟨t',rfl⟩:=ry
 exact rule i j t t' s _ _ hc ⟨.int (g i j),H,I.tok _,⟨_,rfl⟩,q⟩
theorem opI0 {f:Value->Value->Sem Value} {g:Int->Int->Int}
  (rule:∀ (i j:Int) (t u:Tok) (s:Shared) (Q:Value->Shared->Prop) (E:Value->Shared->Prop),Q (.int (g i j) s.toks) { s with toks:=s.toks+1 }->wpAny (model X.prog X.w) X.A (f (.int i t) (.int j u)) Q E s) :
  OpR X f (rI0 fun i j=>.int (g i j)):=by
 intro pins s σ H x y v u Q I rx ry h
 obtain ⟨i,j,rfl,rfl,q⟩:=h
 obtain ⟨t,rfl⟩:=rx
 obtain ⟨t',rfl⟩:=ry
 exact rule i j t t' s _ _ ⟨.int (g i j),H,I.tok _,⟨_,rfl⟩,q⟩
theorem opB0 {f:Value->Value->Sem Value} {g:Int->Int->Bool}
  (rule:∀ (i j:Int) (t u:Tok) (s:Shared) (Q:Value->Shared->Prop) (E:Value->Shared->Prop),Q (.bool (g i j)) s->wpAny (model X.prog X.w) X.A (f (.int i t) (.int j u)) Q E s) :
  OpR X f (rI0 fun i j=>.bl (g i j)):=by
 intro pins s σ H x y v u Q I rx ry h
 obtain ⟨i,j,rfl,rfl,q⟩:=h
 obtain ⟨t,rfl⟩:=rx
 obtain ⟨t',rfl⟩:=ry
 exact rule i j t t' s _ _ ⟨.bl (g i j),H,I,rfl,q⟩
def CPow (i j:Int):Prop:=0<=j/\j<=1000000/\i.natAbs < 2 ^ 64
def CMul (i j:Int):Prop:=(-(2 ^ 64) < i/\i < 2 ^ 64) ∨ (-(2 ^ 64) < j/\j < 2 ^ 64)
theorem CMul.ok {i j:Int} (h:CMul i j):IntMulOk i j:=by
 rcases h with ⟨h1,h2⟩ | ⟨h1,h2⟩
 ·exact .of_left (intBits_le_64 h1 h2)
 ·exact .of_right (intBits_le_64 h1 h2)
theorem zn0:OpR X (binaryOp .Add) (rI0 fun i j=>.int (i+j)):=opI0 fun _ _ _ _ _ _ _ q=>add_int q
theorem zn1:OpR X (binaryOp .Sub) (rI0 fun i j=>.int (i - j)):=opI0 fun _ _ _ _ _ _ _ q=>sub_int q
theorem zn2:OpR X (binaryOp .Mult) (rI CMul fun i j=>.int (i * j)):=opI fun _ _ _ _ _ _ _ hc q=>mul_int q hc.ok
theorem zn3:OpR X (binaryOp .Mod) (rI (fun _ j=>0 < j) fun i j=>.int (i % j)):=opI fun i j _ _ _ _ _ hc q=>by
 have h1:(0:Int) < j:=hc
 exact mod_int' (by omega) (by rw [Int.fmod_eq_emod_of_nonneg i (by omega)];exact q)
theorem zn4:OpR X (binaryOp .Pow) (rI CPow fun i j=>.int (i ^ j.toNat)):=opI fun _ _ _ _ _ _ _ hc q=>pow_int_small hc.1 hc.2.1 hc.2.2 q
theorem zmD:OpR X (inplaceOp .Mult) (rI CMul fun i j=>.int (i * j)):=opI fun _ _ _ _ _ _ _ hc q=>imul_int q hc.ok
theorem unI {f:Value->Sem Value} {g:Int->Int}
  (rule:∀ (i:Int) (t:Tok) (s:Shared) (Q:Value->Shared->Prop) (E:Value->Shared->Prop),Q (.int (g i) s.toks) { s with toks:=s.toks+1 }->wpAny (model X.prog X.w) X.A (f (.int i t)) Q E s) :
  UnR X f (rU fun i=>.int (g i)):=by
 intro pins s σ H x v Q I rx h
 obtain ⟨i,rfl,q⟩:=h
 obtain ⟨t,rfl⟩:=rx
 exact rule i t s _ _ ⟨.int (g i),H,I.tok _,⟨_,rfl⟩,q⟩
theorem zn5:UnR X (unaryOp .USub) (rU fun i=>.int (-i)):=unI fun _ _ _ _ _ q=>neg_int q
end
section
variable {X:Cx} {a b c:Expr} {ta tb tc:TE} {pos:Pos}
theorem zi6 {pins:List (Addr × Obj)} {σ : St} {H:Hp} {s:Shared} {Q:VK} {k k':Bool} (I:Inv X pins σ H s) (q:Q (.bl k) H) (e:k=k'):EP X pins σ Q (.bool k') s:=by
 subst e
 exact ⟨.bl k,H,I,rfl,q⟩
theorem zpn:OpR X (compareOp .Lt) (rI0 fun i j=>.bl (decide (i < j))):=opB0 fun _ _ _ _ _ _ _ q=>lt_int q
theorem zpo:OpR X (compareOp .LtE) (rI0 fun i j=>.bl (decide (i<=j))):=opB0 fun _ _ _ _ _ _ _ q=>le_int q
theorem zpp:OpR X (compareOp .Gt) (rI0 fun i j=>.bl (decide (j < i))):=opB0 fun _ _ _ _ _ _ _ q=>gt_int q
theorem zpq:OpR X (compareOp .GtE) (rI0 fun i j=>.bl (decide (j<=i))):=opB0 fun _ _ _ _ _ _ _ q=>ge_int q
theorem zi7:OpR X (compareOp .In) (fun x y H Q=>∃ i j,x=.str i/\y=.str j/\Q (.bl (!(Builtin.Str.occurrences j i 0 j.length 1).isEmpty)) H):=by
 intro pins s σ H x y v u Q I rx ry h
 obtain ⟨i,j,rfl,rfl,q⟩:=h
 obtain ⟨t,rfl⟩:=rx
 obtain ⟨t',rfl⟩:=ry
 exact in_str (zi6 I q rfl)
theorem zfP:OpR X (compareOp .NotIn) (fun x y H Q=>∃ i j,x=.str i/\y=.str j/\Q (.bl (!(!(Builtin.Str.occurrences j i 0 j.length 1).isEmpty))) H):=by
 intro pins s σ H x y v u Q I rx ry h
 obtain ⟨i,j,rfl,rfl,q⟩:=h
 obtain ⟨t,rfl⟩:=rx
 obtain ⟨t',rfl⟩:=ry
 exact notIn_str (zi6 I q rfl)
theorem OpR.or {f:Value->Value->Sem Value} {r r':R2} (h:OpR X f r) (h':OpR X f r'):OpR X f (fun x y H Q=>r x y H Q ∨ r' x y H Q):=by
 intro pins s σ H x y v u Q I rx ry q
 rcases q with q | q
 ·exact h pins s σ H x y v u Q I rx ry q
 ·exact h' pins s σ H x y v u Q I rx ry q
theorem zaZ (b:Expr) {op:CmpOp} (h:op ≠ .In:=by decide) (h2:op ≠ .NotIn:=by decide):behindInMarks op b=false:=by
 have e1:(op == CmpOp.In)=false:=by cases op <;> first | rfl | exact absurd rfl h
 have e2:(op == CmpOp.NotIn)=false:=by cases op <;> first | rfl | exact absurd rfl h2
 cases b <;> simp [behindInMarks,e1,e2]
theorem zi8 {op:CmpOp} {r:R2} (ho:OpR X (compareOp op) r) (ha:PE X a ta) (hb:PE X b tb) (hm:behindInMarks op b=false):PE X (.Compare a [op] [b] pos) (tOp r ta tb):=by
 intro pins s σ H Q I h
 exact wpAny_Compare1 (binT ha hb I h fun v u s2 x y H2 I2 rx ry q=>ho pins s2 σ H2 x y v u Q I2 rx ry q) hm
def zn6 (t:TE):TT:=fun σ H Q=>t σ H fun x H'=>∃ k,x=.bl k/\Q k H'
theorem zgO {op:CmpOp} {r:R2} (ho:OpR X (compareOp op) r) (ha:PE X a ta) (hb:PE X b tb) (hm:behindInMarks op b=false):PT X (.Compare a [op] [b] pos) (zn6 (tOp r ta tb)):=by
 intro pins s σ H Q I h
 refine wpAny_isTrue_Compare1 (thn (ha pins s σ H _ I h) fun v s1 ⟨x,H1,I1,r1,q1⟩=>thn (hb pins s1 σ H1 _ I1 q1) fun u s2 ⟨y,H2,I2,r2,q2⟩ =>
  thn (ho pins s2 σ H2 x y v u _ I2 r1 r2 q2) fun c s3 ⟨z,H3,I3,r3,k,e,q3⟩=>?_) hm
 subst e
 cases r3
 exact wpAny_truthy_bool ⟨H3,I3,q3⟩
def zmc (r r':R2) (ta tb tc:TE):TE:=fun σ H Q=>ta σ H fun x H1=>tb σ H1 fun y H2=>r x y H2 fun z H3=>∃ k,z=.bl k /\
 (if k=true then tc σ H3 fun w' H4=>r' y w' H4 Q else Q (.bl false) H3)
theorem zk7 {op op':CmpOp} {r r':R2} (ho:OpR X (compareOp op) r) (ho':OpR X (compareOp op') r') (ha:PE X a ta) (hb:PE X b tb) (hc:PE X c tc)
  (hm:lastMarks [op,op'] [b,c]=false:=by with_unfolding_all rfl):PE X (.Compare a [op,op'] [b,c] pos) (zmc r r' ta tb tc):=by
 intro pins s σ H Q I h
 refine Compare_chain (thn (ha pins s σ H _ I h) fun v s1 ⟨x,H1,I1,r1,q1⟩=>chain_link (thn (hb pins s1 σ H1 _ I1 q1) fun u s2 ⟨y,H2,I2,r2,q2⟩ =>
  thn (ho pins s2 σ H2 x y v u _ I2 r1 r2 q2) fun d s3 ⟨z,H3,I3,r3,k,e,q3⟩=>?_)) hm
 subst e
 cases r3
 refine wpAny_truthy_bool ?_
 cases k with
 | false=>exact ite_ff ⟨.bl false,H3,I3,rfl,q3⟩
 | true=>exact ite_tt (chain_last (thn (hc pins s3 σ H3 _ I3 q3) fun w' s4 ⟨z',H4,I4,r4,q4⟩=>ho' pins s4 σ H4 y z' u w' Q I4 r2 r4 q4))
theorem zk8 {op op':CmpOp} {r r':R2} (ho:OpR X (compareOp op) r) (ho':OpR X (compareOp op') r') (ha:PE X a ta) (hb:PE X b tb) (hc:PE X c tc)
  (hm:lastMarks [op,op'] [b,c]=false:=by with_unfolding_all rfl):PT X (.Compare a [op,op'] [b,c] pos) (zn6 (zmc r r' ta tb tc)):=by
 intro pins s σ H Q I h
 refine isTrue_chain (thn (ha pins s σ H _ I h) fun v s1 ⟨x,H1,I1,r1,q1⟩=>test_link (thn (hb pins s1 σ H1 _ I1 q1) fun u s2 ⟨y,H2,I2,r2,q2⟩ =>
  thn (ho pins s2 σ H2 x y v u _ I2 r1 r2 q2) fun d s3 ⟨z,H3,I3,r3,k,e,q3⟩=>?_)) hm
 subst e
 cases r3
 refine wpAny_truthy_bool ?_
 cases k with
 | false =>
  obtain ⟨k',e',q'⟩:=q3
  cases e'
  exact ite_ff ⟨H3,I3,q'⟩
 | true =>
  refine ite_tt (test_last (thn (hc pins s3 σ H3 _ I3 q3) fun w' s4 ⟨z',H4,I4,r4,q4⟩=>thn (ho' pins s4 σ H4 y z' u w' _ I4 r2 r4 q4) fun d' s5 ⟨z2,H5,I5,r5,k2,e2,q5⟩=>?_))
  subst e2
  cases r5
  exact wpAny_truthy_bool ⟨H5,I5,q5⟩
theorem zhB:(sizeLine:Nat) < 2 ^ 63:=by rw [sizeLine_eq];decide
theorem zig:OpR X (binaryOp .Add) (fun x y H Q=>∃ i j,x=.str i/\y=.str j/\i.length+j.length<=sizeLine/\Q (.str (i ++ j)) H):=by
 intro pins s σ H x y v u Q I rx ry h
 obtain ⟨i,j,rfl,rfl,hz,q⟩:=h
 obtain ⟨t,rfl⟩:=rx
 obtain ⟨t',rfl⟩:=ry
 exact add_str (fun t' tk=>⟨.str (i ++ j),H,I.tok _,⟨_,rfl⟩,q⟩) hz
theorem zk9 {x:V} {us:List Value} (r:Vals [x] us):∃ u,us=[u]/\RelV x u:=by
 cases r with
 | cons r1 r2=>cases r2;exact ⟨_,rfl,r1⟩
theorem zmE {x y:V} {us:List Value} (r:Vals [x,y] us):∃ u w',us=[u,w']/\RelV x u/\RelV y w':=by
 cases r with
 | cons r1 r2 =>
  cases r2 with
  | cons r3 r4=>cases r4;exact ⟨_,_,rfl,r1,r3⟩
theorem zi9 (hc:X.calm=true):zcJ X (.builtin "max") (fun xs H Q=>∃ i j,xs=[.int i,.int j]/\Q (.int (if j > i then j else i)) H):=by
 intro pins s σ H xs us Q I r h
 obtain ⟨i,j,rfl,q⟩:=h
 obtain ⟨u,w',rfl,⟨t,rfl⟩,⟨t',rfl⟩⟩:=zmE r
 refine max_two_ints (I.ok.hd hc) fun h' tk k=>⟨_,H,I.kept k,?_,q⟩
 by_cases hj:j > i
 ·rw [if_pos hj,if_pos hj];exact ⟨_,rfl⟩
 ·rw [if_neg hj,if_neg hj];exact ⟨_,rfl⟩
theorem zja:zcJ X (.type "int") (fun xs H Q=>(∃ i,xs=[.int i]/\Q (.int i) H) ∨ ∃ k,xs=[.bl k]/\Q (.int (if k then 1 else 0)) H):=by
 intro pins s σ H xs us Q I r h
 rcases h with ⟨i,rfl,q⟩ | ⟨k,rfl,q⟩
 ·obtain ⟨u,rfl,t,rfl⟩:=zk9 r
  exact call_int_int ⟨.int i,H,I,⟨_,rfl⟩,q⟩
 ·obtain ⟨u,rfl,r1⟩:=zk9 r
  cases r1
  exact call_int_bool ⟨.int (if k then 1 else 0),H,I.tok _,⟨_,rfl⟩,q⟩
def LenV (K:PySem.W.Frag) (x:V) (H:Hp) (n:Nat):Prop :=
 match x with
 | .str y=>y.length<=sizeLine/\n=y.length
 | .byt y=>y.size<=sizeLine/\n=y.size
 | .ref p=>(∃ xs,SqL K H p xs/\n=xs.length) ∨ ∃ xs,SqT K H p xs/\n=xs.length
 | _=>False
theorem zhC:zcJ X (.builtin "len") (fun xs H Q=>∃ x n,xs=[x]/\LenV X.K x H n/\Q (.int n) H):=by
 intro pins s σ H xs us Q I r h
 obtain ⟨x,n,rfl,e,q⟩:=h
 obtain ⟨u,rfl,rx⟩:=zk9 r
 have hl:=zhB
 have hs:sizeLine=16777216:=sizeLine_eq
 cases x with
 | str y =>
  obtain ⟨t,rfl⟩:=rx
  obtain ⟨hy,e'⟩:y.length<=sizeLine/\n=y.length:=e
  subst e'
  exact len_str (by omega) ⟨.int _,H,I.tok _,⟨_,rfl⟩,q⟩
 | byt y =>
  obtain ⟨t,rfl⟩:=rx
  obtain ⟨hy,e'⟩:y.size<=sizeLine/\n=y.size:=e
  subst e'
  exact PySem.W.len_bytes (by omega) ⟨.int _,H,I.tok _,⟨_,rfl⟩,q⟩
 | ref p =>
  cases rx
  have e':(∃ xs,SqL X.K H p xs/\n=xs.length) ∨ ∃ xs,SqT X.K H p xs/\n=xs.length:=e
  rcases e' with ⟨xs,hx,e'⟩ | ⟨xs,hx,e'⟩
  ·subst e'
   obtain ⟨its,r',pl,hz⟩:=I.list hx
   have hlen:=r'.length
   exact Calls.call_len_list pl.isList (by simp only [List.size_toArray];omega) ⟨.int xs.length,H,I.tok _,⟨_,by simp only [List.size_toArray];rw [hlen]⟩,q⟩
  ·subst e'
   obtain ⟨its,r',pl,hz⟩:=I.tuple hx
   have hlen:=r'.length
   exact len_tuple pl (by simp only [List.size_toArray];omega) ⟨.int xs.length,H,I.tok _,⟨_,by simp only [List.size_toArray];rw [hlen]⟩,q⟩
 | _=>exact (show False from e).elim
end
section
variable {prog:Program} {w:World} {A:Around} {E:Value->Shared->Prop} {s:Shared} {K:PySem.W.Frag} {x dx C f:Addr} {mA:Str->Option Value} {name:Str} {v:Value}
end
theorem RelO.some_of {v:V} {o:Option Value} (r:RelO (some v) o):∃ u,o=some u/\RelV v u:=by
 cases o with
 | none=>exact (show False from r).elim
 | some u=>exact ⟨u,rfl,r⟩
section
variable {P:Program} {w:World} {H H':Hp} {h h':Heap} {a C dx:Addr} {fs fs':List (Str × V)}
end
section
variable {X:Cx} {pins:List (Addr × Obj)} {σ : St} {H:Hp} {s:Shared} {a C dx:Addr} {fs:List (Str × V)} {f:Str} {v:V} {A:Around} {E:Value->Shared->Prop}
end
section
variable {X:Cx} {o e value:Expr} {f:Str} {pos pos' tpos:Pos} {ta tv:TE}
end
section
variable {X:Cx} {pins:List (Addr × Obj)} {σ : St} {H:Hp} {s:Shared} {A:Around} {E:Value->Shared->Prop} {Q:Value->Shared->Prop} {c:Value} {b:Bool}
end
structure Room (k:Nat) (A:Around):Prop where
 hd:A.handled=none
 dp:A.depth+3 * k+5 < recursionLimit
 un:A.units+16 * k+200 < cLine
 gd:A.guards=some []
theorem Room.mono {j k:Nat} {A:Around} (r:Room k A) (h:j<=k):Room j A:=⟨r.hd,by have:=r.dp;omega,by have:=r.un;omega,r.gd⟩
theorem Room.deeper {k:Nat} {A:Around} (r:Room (k+1) A) (env:Env):Room k (A.deeper env) :=
 ⟨r.hd,by have:=r.dp;show A.depth+1+3 * k+5 < _;omega,by have:=r.un;show A.units+3+16 * k+200 < _;omega,r.gd⟩
theorem Room.depth {k:Nat} {A:Around} (r:Room k A):A.depth < recursionLimit:=by have:=r.dp;omega
theorem Room.units {k:Nat} {A:Around} (r:Room k A):A.units+64 < cLine:=by have:=r.un;omega
def tNil:TA:=fun _ H Q=>Q [] H
def zpr (ta:TE) (tr:TA):TA:=fun σ H Q=>ta σ H fun x H1=>tr σ H1 fun xs H2=>Q (x :: xs) H2
section
variable {X:Cx} {e:Expr} {es:List Expr} {te:TE} {t:TA} {pos:Pos}
theorem zdd:PA X [] tNil:=fun _ _ _ _ H Q I h=>Calls.spliced_nil ⟨[],H,I,.nil,h⟩
theorem zbX (ha:PE X e te) (hr:PA X es t) (hs:starEach (e :: es) X.env=(false,eval e X.env) :: starEach es X.env:=by rfl):PA X (e :: es) (zpr te t):=by
 intro pos pins s σ H Q I h
 rw [hs]
 show wpAny _ _ (spliced ((false,eval e X.env) :: backTo pos (starEach es X.env))) _ _ s
 refine Calls.spliced_cons (thn (ha pins s σ H _ I h) fun u s1 ⟨x,H1,I1,r1,q1⟩=>?_)
 exact thn (hr pos pins s1 σ H1 _ I1 q1) fun us s2 ⟨xs,H2,I2,r2,q2⟩=>⟨x :: xs,H2,I2,.cons r1 r2,q2⟩
def tTup (t:TA):TE:=fun σ H Q=>t σ H fun xs H1=>xs.length<=sizeLine/\∀ p,H1 p=none->Q (.ref p) (upd H1 p (.tup xs))
def tLst (t:TA):TE:=fun σ H Q=>t σ H fun xs H1=>xs.length<=sizeLine/\∀ p,H1 p=none->Q (.ref p) (upd H1 p (.lst xs))
theorem zmd {x1} (h:PA X es t):PE X (.Tuple es x1 pos) (tTup t):=by
 intro pins s σ H Q I hq
 refine wpAny_Tuple_spliced (thn (h pos pins s σ H _ I hq) fun us s1 ⟨xs,H1,I1,r,z,q⟩=>⟨by rw [← r.length];exact z,?_⟩)
 have hf:H1 s1.heap.objs.size=none:=I1.hok.fresh (Nat.le_refl _)
 refine ⟨.ref s1.heap.objs.size,upd H1 s1.heap.objs.size (.tup xs),I1.laid (t':=s1.toks) (fun b u e=>Heap.get?_push_of_some _ e) (Nat.le_refl _) ?_,rfl,q _ hf⟩
 exact ⟨z,us,r,⟨_,Heap.get?_push_size _ rfl,rfl,_,rfl⟩⟩
theorem zme (h:PA X es t):PE X (.List es pos) (tLst t):=by
 intro pins s σ H Q I hq
 refine wpAny_List_spliced (thn (h pos pins s σ H _ I hq) fun us s1 ⟨xs,H1,I1,r,z,q⟩=>⟨by rw [← r.length];exact z,?_⟩)
 have hf:H1 s1.heap.objs.size=none:=I1.hok.fresh (Nat.le_refl _)
 refine ⟨.ref s1.heap.objs.size,upd H1 s1.heap.objs.size (.lst xs),I1.laid (t':=s1.toks) (fun b u e=>Heap.get?_push_of_some _ e) (Nat.le_refl _) ?_,rfl,q _ hf⟩
 exact ⟨z,us,0,r,Heap.get?_push_size _ rfl⟩
end
abbrev Sp:=List V->Hp->VK->XK->Prop
abbrev CXT:=List Env->Hp->Shared->XK->Value->Shared->Prop
structure Env0 (P:Program) (w:World) (K:PySem.W.Frag) (mg:Str->Option Value) (base:Heap) (A:Around) (outer:List Env) (s:Shared) (H:Hp):Prop where
 frames:A.frames=some outer
 mod:Mod K mg base
 bs:∀ b o,base.get? b=some o->s.heap.get? b=some o/\H b=none
 bsz:base.objs.size<=s.heap.objs.size
 funs:s.heap.FunFrames base outer
 frf:∀ b ∈ frs outer,H b=none
 hok:HOk P w H s.heap
 bare:AllBare s.gens
def CE (outer:List Env) (P:Program) (w:World) (H:Hp) (s:Shared) (Q:VK) (u:Value) (s':Shared):Prop :=
 ∃ v H',s'.os=s.os/\AllBare s'.gens/\Un (frs outer) [] H H' s.heap s'.heap/\HOk P w H' s'.heap/\RelV v u/\Q v H'
def CR (CX:CXT) (outer:List Env) (P:Program) (w:World) (H:Hp) (s:Shared) (Q:VK) (E:XK) (r:Result) (s':Shared):Prop :=
 match r with
 | .ok (.ret u)=>CE outer P w H s Q u s'
 | .ok _=>False
 | .error e=>CX outer H s E e s'
structure FnOk (P:Program) (w:World) (K:PySem.W.Frag) (mg:Str->Option Value) (base:Heap) (CX:CXT) (k:Nat) (f:Addr) (fd:FuncData) (ps:List Str) (sp:Sp):Prop where
 len:∀ vs H Q E,sp vs H Q E->vs.length=ps.length
 run:∀ (A:Around) (outer:List Env) (s:Shared) (H:Hp) (args:Args) (us:List Value) (vs:List V) (Q:VK) (E:XK),Room k A->Env0 P w K mg base A outer s H->BindsTo s fd args (ps.zip us)->Vals vs us->sp vs H Q E ->
  codeAny (model P w) A (.call (.ref f) args) (CR CX outer P w H s Q E) s
section
variable {X:Cx} {pins:List (Addr × Obj)} {σ : St} {H:Hp} {s s':Shared}
theorem Inv.env0 (I:Inv X pins σ H s):Env0 X.prog X.w X.K X.mg X.base X.A X.stack s H :=
 ⟨I.ok.frames,I.ok.mod,I.bs,Nat.le_trans I.ok.bsz I.sz,I.stack,I.stkFree,I.hok,I.bare⟩
theorem Inv.after {Q:VK} {u:Value} (I:Inv X pins σ H s) (h:CE X.stack X.prog X.w H s Q u s'):EP X pins σ Q u s':=by
 obtain ⟨v,H',os,bare,un,hok,r,q⟩:=h
 obtain ⟨hh,g,d,t,os'⟩:=s'
 obtain rfl:os'=s.os:=os
 exact ⟨v,H',I.call (h':=hh) (g':=g) (d':=d) (t':=t) (ch:=[]) un hok bare (fun b z=>absurd z (by simp)),r,q⟩
end
def zps (sp:Sp) (dvs:List V) (E:XK) (t:TA):TE:=fun σ H Q=>t σ H fun vs H1=>sp (vs ++ dvs) H1 Q E
def zfQ (K:PySem.W.Frag) (fd:FuncData) (ps:List Str) (ds:List Value):Prop :=
 ∀ (s:Shared) (us:List Value),K.In s.heap->(us ++ ds).length=ps.length->BindsTo s fd ⟨us,[]⟩ (ps.zip (us ++ ds))
theorem zfQ.all {K:PySem.W.Frag} {fd:FuncData} {ps:List Str} (h:∀ us:List Value,us.length=ps.length->bindArgs fd ⟨us,[]⟩=pure (ps.zip us)):zfQ K fd ps []:=fun s us _ hl=>by
 rw [List.append_nil] at hl ⊢
 exact .of_eq (h us hl)
def zjb (CX:CXT) (X:Cx) (E:XK):Prop:=∀ (pins:List (Addr × Obj)) (σ : St) (H:Hp) (s:Shared) (e:Value) (s':Shared),Inv X pins σ H s->CX X.stack H s E e s'->X.xe e s'
section
variable {X:Cx} {CX:CXT} {k:Nat} {f C:Addr} {fd:FuncData} {ps:List Str} {sp:Sp} {dvs:List V} {ds:List Value} {E:XK} {x m:Str} {p pos apos:Pos} {e o:Expr} {es:List Expr} {ta:TE} {t:TA}
theorem zn7 {pins:List (Addr × Obj)} {σ : St} {H:Hp} {s:Shared} {Q:VK} {us:List Value} {vs:List V} (F:FnOk X.prog X.w X.K X.mg X.base CX k f fd ps sp) (hr:Room k X.A) (hb:zfQ X.K fd ps ds) (hd:Vals dvs ds) (hx:zjb CX X E)
  (I:Inv X pins σ H s) (r:Vals vs us) (h:sp (vs ++ dvs) H Q E):wpAny (model X.prog X.w) X.A (call (.ref f) us) (EP X pins σ Q) X.xe s:=by
 have r2:Vals (vs ++ dvs) (us ++ ds):=r.append hd
 have hl:(us ++ ds).length=ps.length:=by rw [← r2.length];exact F.len _ _ _ _ h
 refine wpAny_call (codeAny_mono (F.run X.A X.stack s H ⟨us,[]⟩ (us ++ ds) (vs ++ dvs) Q E hr I.env0 (hb s us I.kIn hl) r2 h) fun r s' hq=>?_)
 cases r with
 | error e=>exact hx pins σ H s e s' I hq
 | ok fl =>
  cases fl with
  | ret u=>exact I.after hq
  | next=>exact False.elim hq
  | brk=>exact False.elim hq
  | cont=>exact False.elim hq
theorem zmF (F:FnOk X.prog X.w X.K X.mg X.base CX k f fd ps sp) (hr:Room k X.A) (hg:Gl X x) (hm:X.mg x=some (.ref f)) (hk:PySem.W.keepIn X.K (.ref f)=true) (hb:zfQ X.K fd ps ds) (hd:Vals dvs ds) (hx:zjb CX X E)
  (ha:PA X (e :: es) t) (hdb:(x == ("__debug__" : Str))=false:=by decide) (he:starEach (e :: es) X.env=(false,eval e X.env) :: starEach es X.env:=by rfl) (hpl:(backTo pos (starEach es X.env)).any (·.1)=false:=by rfl) :
  PE X (.Call (.Name x p) (e :: es) [] pos) (zps sp dvs E t):=by
 intro pins s σ H Q I h
 refine wpAny_Call_Name_kw (ziX I hg hm ?_ hdb)
 refine PySem.W.callWith_K (h₀:=X.base) I.ok.mod.kin hk (thn (ha pos pins s σ H _ I h) fun us s1 ⟨vs,H1,I1,r,q⟩=>⟨I1.kIn,?_⟩) he hpl
 exact zn7 F hr hb hd hx I1 r q
end
section
variable {X:Cx} {CX:CXT} {k:Nat} {f C:Addr} {fd:FuncData} {ps ks:List Str} {sp:Sp} {E:XK} {x m:Str} {p pos apos kpos:Pos} {e o:Expr} {es:List Expr} {kws:List Keyword} {te ta:TE} {t tk:TA} {nm:Option Str}
variable {g:List Value->List Value->List Value} {gV:List V->List V->List V}
end
structure zed (N P:List Str) (sc:Scope):Prop where
 kind:sc.kind=.function
 co:sc.isCoroutine=false
 gen:sc.isGenerator=false
 nd:N.Nodup
 pre:N.take P.length=P
 par:∀ x ∈ P,sc.names.lookup x=some .local ∨ sc.names.lookup x=some .cell
 nofree:∀ y ∈ sc.names,y.2 ≠ .free
theorem zfR {kindOf:Str->Option NameKind} {x:Str}:∀ {binds:List (Str × Value)} {m:Str->Option Value},(∀ v,(x,v) ∉ binds)->bindL kindOf binds m x=m x
 | [],_,_=>rfl
 | (n,v) :: r,m,h=>by
  unfold bindL
  rw [zfR fun w hw=>h w (List.mem_cons_of_mem _ hw)]
  split
  ·have:x ≠ n:=by rintro rfl;exact h v List.mem_cons_self
   simp [this]
  ·rfl
theorem zfS {kindOf:Str->Option NameKind} {x:Str}:∀ {binds:List (Str × Value)} {m:Str->Option Value},(∀ v,(x,v) ∉ binds)->bindC kindOf binds m x=m x
 | [],_,_=>rfl
 | (n,v) :: r,m,h=>by
  unfold bindC
  rw [zfS fun w hw=>h w (List.mem_cons_of_mem _ hw)]
  split
  ·rfl
  ·have:x ≠ n:=by rintro rfl;exact h v List.mem_cons_self
   simp [this]
theorem zfT {kindOf:Str->Option NameKind} {x:Str} {v:Value}:∀ {P:List Str} {vs:List Value} {i:Nat} {m:Str->Option Value},P.Nodup->P[i]?=some x->vs[i]?=some v->kindOf x=some .local ->
  bindL kindOf (P.zip vs) m x=some v
 | [],_,_,_,_,h,_,_=>by simp at h
 | _ :: _,[],_,_,_,_,h,_=>by simp at h
 | p :: P,w :: vs,0,m,nd,h1,h2,hk=>by
  simp at h1 h2;subst h1;subst h2
  show bindL kindOf ((p,w) :: P.zip vs) m p=_
  unfold bindL
  rw [zfR fun v hv=>(List.nodup_cons.mp nd).1 (List.of_mem_zip hv).1,if_pos hk]
  simp
 | p :: P,w :: vs,i+1,m,nd,h1,h2,hk=>by
  show bindL kindOf ((p,w) :: P.zip vs) m x=_
  unfold bindL
  exact zfT (i:=i) (List.nodup_cons.mp nd).2 (by simpa using h1) (by simpa using h2) hk
theorem zfU {kindOf:Str->Option NameKind} {x:Str} {v:Value}:∀ {P:List Str} {vs:List Value} {i:Nat} {m:Str->Option Value},P.Nodup->P[i]?=some x->vs[i]?=some v->kindOf x ≠ some .local ->
  bindC kindOf (P.zip vs) m x=some v
 | [],_,_,_,_,h,_,_=>by simp at h
 | _ :: _,[],_,_,_,_,h,_=>by simp at h
 | p :: P,w :: vs,0,m,nd,h1,h2,hk=>by
  simp at h1 h2;subst h1;subst h2
  show bindC kindOf ((p,w) :: P.zip vs) m p=_
  unfold bindC
  rw [zfS fun v hv=>(List.nodup_cons.mp nd).1 (List.of_mem_zip hv).1,if_neg hk]
  simp
 | p :: P,w :: vs,i+1,m,nd,h1,h2,hk=>by
  show bindC kindOf ((p,w) :: P.zip vs) m x=_
  unfold bindC
  exact zfU (i:=i) (List.nodup_cons.mp nd).2 (by simpa using h1) (by simpa using h2) hk
def zee (N:List Str) (vs:List V):St:=vs.map some ++ List.replicate (N.length - vs.length) none
def cxOf (CX:CXT) (P:Program) (w:World) (K:PySem.W.Frag) (mg:Str->Option Value) (base:Heap) (N:List Str) (qual:Str) (scope:Scope) (f:Addr) (cd:Value) (A:Around) (outer:List Env) (s:Shared) (H:Hp) (E:XK):Cx where
 prog:=P
 w:=w
 K:=K
 mg:=mg
 base:=base
 A:=A.deeper (envOfC qual scope s.heap.objs.size f cd)
 N:=N
 s₀:=s
 H₀:=H
 env:=envOfC qual scope s.heap.objs.size f cd
 outer:=outer
 stack:=envOfC qual scope s.heap.objs.size f cd :: outer
 ex:=[]
 calm:=true
 fn:=fun _=>true
 pn:=[]
 xe:=fun e s'=>wpAny (model P w) (A.deeper (envOfC qual scope s.heap.objs.size f cd)) (leaving (envOfC qual scope s.heap.objs.size f cd) e) (fun _ s''=>CX outer H s E e s'') (fun e' s''=>CX outer H s E e' s'') s'
theorem zhD {sc:Scope} {n:Nat} {x:Str} (h:sc.names.lookup x=some .cell):∃ c,(cellsFrom n sc.names []).lookup x=some c:=by
 have q:=PySem.W.cellsFrom_some sc.names n [] (.inl h)
 exact Option.isSome_iff_exists.mp q
theorem zjc {CX:CXT} {P:Program} {w:World} {K:PySem.W.Frag} {mg:Str->Option Value} {base:Heap} {N ps:List Str} {qual:Str} {scope:Scope} {f:Addr} {cd:Value} {A:Around} {outer:List Env} {s s1:Shared} {H:Hp} {E:XK} {us:List Value} {vs:List V}
  (S:zed N ps scope) (hd:A.handled=none) (e0:Env0 P w K mg base A outer s H) (hl:vs.length=ps.length) (r:Vals vs us)
  (x:InCallC s s.heap.objs.size (bindL (envOfC qual scope s.heap.objs.size f cd).kindOf (ps.zip us) fun _=>none) (cellsFrom (s.heap.objs.size+1) scope.names []) (bindC (envOfC qual scope s.heap.objs.size f cd).kindOf (ps.zip us) fun _=>none) s1) :
  Inv (cxOf CX P w K mg base N qual scope f cd A outer s H E) [] (zee N vs) H s1:=by
 have hpl:ps.length<=N.length:=by have:=congrArg List.length S.pre;rw [List.length_take] at this;omega
 obtain ⟨h1,tk,rfl,hk⟩:=x.done
 have noA:∀ b:Addr,b ∉ (cxOf CX P w K mg base N qual scope f cd A outer s H E).ex:=fun b z=>absurd (show b ∈ ([]:List Addr) from z) (by simp)
 refine ⟨⟨e0.mod,S.kind,rfl,rfl,Nat.le_refl _,fun y z c h1 h2=>?_,fun y hy=>?_,fun y c _ h=>?_,fun _=>hd,Around.frames_deeper e0.frames,.inr ⟨rfl,rfl⟩,fun b z=>absurd z (noA b),e0.bs,e0.bsz,fun b _ _=>noA b,fun b z=>absurd z (noA b),e0.funs,e0.frf⟩,
  rfl,e0.bare,Un.kept hk,⟨_,x.toInCall.ns,fun i y v h1 h2 h3=>?_⟩,fun y c h=>⟨_,x.cell y c h⟩,e0.hok.fresh (Nat.le_refl _),fun y c h=>?_,fun p hp=>absurd (show p ∈ ([]:List (Addr × Obj)) from hp) (by simp),e0.hok.kept hk,?_⟩
 ·exact name_of_addr x.apart (PySem.mem_of_lookup h1) (PySem.mem_of_lookup h2)
 ·have hy:scope.names.lookup y=some .cell ∨ scope.names.lookup y=some .free:=hy
  rcases hy with hy | hy
  ·exact zhD hy
  ·exact absurd rfl (S.nofree _ (PySem.mem_of_lookup hy))
 ·exact Nat.le_of_lt (x.above y c (PySem.mem_of_lookup h))
 ·have hi:i < vs.length:=by
   unfold zee at h2
   by_cases hi:i < vs.length
   ·exact hi
   ·rw [List.getElem?_append_right (by simpa using hi)] at h2
    rw [List.getElem?_replicate] at h2
    split at h2 <;> cases h2
  have ha:vs[i]?=some v:=by
   unfold zee at h2
   rw [List.getElem?_append_left (by simpa using hi),List.getElem?_map] at h2
   cases e:vs[i]? with
   | none=>rw [e] at h2;cases h2
   | some a=>rw [e] at h2;cases h2;rfl
  obtain ⟨u,hu,rv⟩:=r.get ha
  have hp:ps[i]?=some y:=by
   rw [← S.pre,List.getElem?_take_of_lt (by omega)];exact h1
  have ndP:ps.Nodup:=by rw [← S.pre];exact S.nd.sublist (List.take_sublist _ _)
  refine ⟨u,rv,?_⟩
  rcases S.par y (List.mem_of_getElem? hp) with k | k
  ·exact .inl ⟨k,zfT ndP hp hu k⟩
  ·obtain ⟨c,e⟩:=zhD (n:=s.heap.objs.size+1) k
   refine .inr ⟨.inl k,c,e,?_⟩
   have q:=x.cell y c e
   rw [zfU ndP hp hu (by show scope.names.lookup y ≠ _;rw [k];decide)] at q
   exact q
 ·exact e0.hok.fresh (Nat.le_of_lt (x.above y c (PySem.mem_of_lookup h)))
 ·unfold zee
  show _=N.length
  rw [List.length_append,List.length_map,List.length_replicate]
  omega
theorem zpt {CX:CXT} {P:Program} {w:World} {K:PySem.W.Frag} {mg:Str->Option Value} {base:Heap} {k:Nat} {f:Addr} {name qual:Str} {params:Arguments} {body:List Stmt} {scope:Scope} {dV kV doc pm cdv ct oc:Value} {an od:Option Addr}
  {osl:Array (Option Value)} {N ps:List Str} {sp:Sp} (lk:K.lookup f=some ⟨oc,od,.func (PySem.W.fnOf name qual params body scope dV kV doc pm an cdv ct),osl⟩) (hcd:PySem.W.codeIn K cdv qual=true) (S:zed N ps scope)
  (len:∀ vs H Q E,sp vs H Q E->vs.length=ps.length)
  (hbody:∀ (A:Around) (outer:List Env) (s:Shared) (H:Hp) (vs:List V) (Q:VK) (E:XK),Room k (A.deeper (envOfC qual scope s.heap.objs.size f cdv))->sp vs H Q E ->
   ∃ t,PSs (cxOf CX P w K mg base N qual scope f cdv A outer s H E) body t/\t { nx:=fun _ H'=>Q .non H',rt:=Q } (zee N vs) H) :
  FnOk P w K mg base CX (k+1) f (PySem.W.fnOf name qual params body scope dV kV doc pm an cdv ct) ps sp:=by
 refine ⟨len,fun A outer s H args us vs Q E hr e0 hb r hsp=>?_⟩
 have hl:=len _ _ _ _ hsp
 have KX:K.In s.heap:=e0.mod.kin.keeps fun b o e=>(e0.bs b o e).1
 have lim:s.heap.NoLimit:=e0.mod.nolimit.keeps fun b o e=>(e0.bs b o e).1
 have hkind:∀ y ∈ ps.zip us,scope.names.lookup y.1=some .local ∨ (scope.names.lookup y.1=some .cell/\((cellsFrom (s.heap.objs.size+1) scope.names []).lookup y.1).isSome=true):=fun ⟨n,v⟩ hy=>by
  rcases S.par n (List.of_mem_zip hy).1 with q | q
  ·exact .inl q
  ·exact .inr ⟨q,PySem.W.cellsFrom_some _ _ _ (.inl q)⟩
 refine codeAny_call_function hr.depth (KX _ _ lk) rfl S.co S.gen rfl (PySem.W.codeRec_of KX hcd) (hb _ _ _ _ ?_)
 refine wpAny_newFunctionEnv_cells S.kind hkind fun env he s1 x=>?_
 subst he
 refine ⟨lim.keeps x.toInCall.keep,codeAny_func ?_⟩
 obtain ⟨t,ht,hq⟩:=hbody A outer s H vs Q E (hr.deeper _) hsp
 have I:Inv (cxOf CX P w K mg base N qual scope f cdv A outer s H E) [] (zee N vs) H s1:=zjc S hr.hd e0 hl r x
 refine wpAny_mono (ht [] s1 (zee N vs) H _ I hq) (fun fl s' hs=>?_) fun e s' hs=>hs
 have fin:∀ {σ':St} {H':Hp} {v:V} {u:Value},Inv (cxOf CX P w K mg base N qual scope f cdv A outer s H E) [] σ' H' s'->RelV v u->Q v H'->CE outer P w H s Q u s' :=
  fun {σ' H' v u} J rv q=>⟨v,H',J.os,J.bare,J.base,J.hok,rv,q⟩
 cases fl with
 | ret u =>
  obtain ⟨v,σ',H',J,rv,q⟩:=hs
  exact fin J rv q
 | next =>
  obtain ⟨σ',H',J,q⟩:=hs
  exact fin (v:=V.non) (u:=Value.none) J rfl q
 | brk =>
  obtain ⟨_,_,_,q⟩:=hs
  exact False.elim q
 | cont =>
  obtain ⟨_,_,_,q⟩:=hs
  exact False.elim q
section
variable {X:Cx} {x:Str} {p pos:Pos} {e:Expr} {es:List Expr} {t:TA} {id T:String} {r:List V->Hp->VK->Prop}
def tCB (r:List V->Hp->VK->Prop) (t:TA):TE:=fun σ H Q=>t σ H fun vs H1=>r vs H1 Q
theorem zd5 (hc:zcJ X (.builtin id) r) (hg:Gl X x) (hm:X.mg x=none) (hv:bootBuiltins x=some (.builtin id)) (ha:PA X (e :: es) t) (hn:x ≠ "__name__" := by decide) (hdb:(x == ("__debug__" : Str))=false:=by decide)
  (he:starEach (e :: es) X.env=(false,eval e X.env) :: starEach es X.env:=by rfl) (hpl:(backTo pos (starEach es X.env)).any (·.1)=false:=by rfl):PE X (.Call (.Name x p) (e :: es) [] pos) (tCB r t):=by
 intro pins s σ H Q I h
 refine wpAny_Call_Name_kw (zec I hg hm hv ?_ hn hdb)
 exact PyProof.Rows.callWith_builtin1 (thn (ha pos pins s σ H _ I h) fun us s1 ⟨vs,H1,I1,r1,q1⟩=>hc pins s1 σ H1 vs us Q I1 r1 q1) he hpl
theorem zde (hc:zcJ X (.type T) r) (hg:Gl X x) (hm:X.mg x=none) (hv:bootBuiltins x=some (.type T)) (ha:PA X (e :: es) t) (hn:x ≠ "__name__" := by decide) (hdb:(x == ("__debug__" : Str))=false:=by decide)
  (he:starEach (e :: es) X.env=(false,eval e X.env) :: starEach es X.env:=by rfl) (hpl:(backTo pos (starEach es X.env)).any (·.1)=false:=by rfl):PE X (.Call (.Name x p) (e :: es) [] pos) (tCB r t):=by
 intro pins s σ H Q I h
 refine wpAny_Call_Name_kw (zec I hg hm hv ?_ hn hdb)
 exact PyProof.Rows.callWith_type1 (thn (ha pos pins s σ H _ I h) fun us s1 ⟨vs,H1,I1,r1,q1⟩=>hc pins s1 σ H1 vs us Q I1 r1 q1) he hpl
end
end L2
namespace HT
open PySem PyProof.Rows
section
open PySem.SeqAt
open PySem.AutoSeq1 (wpAny_loadPart')
open PySem.MeetsSeq PySem.MeetsSeq2 PySem.MeetsSeq3
end
section
variable {prog:Program} {w:World} {A:Around} {E:Value->Shared->Prop} {s:Shared}
def sIx (n d:Nat):Option Int->Nat
 | none=>d
 | some v=>if v < 0 then (v+(n:Int)).toNat else min v.toNat n
end
end HT
namespace L2
open PySem PySem.Spec PyProof.Rows
abbrev TO:=St->Hp->(Option Int->Hp->Prop)->Prop
def PO (X:Cx) (e:Option Expr) (t:TO):Prop :=
 ∀ (pins:List (Addr × Obj)) (s:Shared) (σ : St) (H:Hp) (Q:Option Int->Hp->Prop),Inv X pins σ H s->t σ H Q ->
  wpAny (model X.prog X.w) X.A (evalPart e X.env) (fun u s'=>∃ o H',Inv X pins σ H' s'/\IsPart u o/\Q o H') X.xe s
def zmG:TO:=fun _ H Q=>Q none H
def zpu (t:TE):TO:=fun σ H Q=>t σ H fun x H1=>∃ i,x=.int i/\Q (some i) H1
section
variable {X:Cx} {e:Expr} {te:TE} {lo hi:Option Expr} {tl th:TO} {pos p2:Pos}
theorem zmH:PO X none zmG:=by
 intro pins s σ H Q I h
 rw [evalPart_none]
 exact wpAny_pure ⟨none,H,I,.none,h⟩
theorem zmI (h:PE X e te):PO X (some e) (zpu te):=by
 intro pins s σ H Q I hw
 rw [evalPart_some]
 refine thn (h pins s σ H _ I hw) fun u s1 ⟨x,H1,I1,r1,q1⟩=>?_
 obtain ⟨i,rfl,q⟩:=q1
 obtain ⟨t,rfl⟩:=r1
 exact ⟨some i,H1,I1,.int i t,q⟩
def SlR (X:Cx) (r:V->Option Int->Option Int->Hp->VK->Prop):Prop :=
 ∀ (pins:List (Addr × Obj)) (s:Shared) (σ : St) (H:Hp) (x:V) (v vl vu:Value) (lo hi:Option Int) (sl:Addr) (Q:VK),Inv X pins σ H s->RelV x v->s.heap.IsSliceOf sl vl vu .none->IsPart vl lo->IsPart vu hi->r x lo hi H Q ->
  ∃ T id,typeLookup (.type T) "__getitem__" = pure (some (.builtin id))/\s.TypeIs v T/\wpAny (model X.prog X.w) X.A (getItem v (.ref sl)) (EP X pins σ Q) X.xe s
theorem SlR.or {r r':V->Option Int->Option Int->Hp->VK->Prop} (h:SlR X r) (h':SlR X r'):SlR X (fun x lo hi H Q=>r x lo hi H Q ∨ r' x lo hi H Q):=by
 intro pins s σ H x v vl vu lo hi sl Q I rx hs pl pu q
 rcases q with q | q
 ·exact h pins s σ H x v vl vu lo hi sl Q I rx hs pl pu q
 ·exact h' pins s σ H x v vl vu lo hi sl Q I rx hs pl pu q
def tSl (r:V->Option Int->Option Int->Hp->VK->Prop) (te:TE) (tl th:TO):TE:=fun σ H Q=>te σ H fun x H1=>tl σ H1 fun l H2=>th σ H2 fun u H3=>r x l u H3 Q
theorem zla {r:V->Option Int->Option Int->Hp->VK->Prop} (hr:SlR X r) (he:PE X e te) (hl:PO X lo tl) (hu:PO X hi th):PE X (.Subscript e (.Slice lo hi none p2) pos) (tSl r te tl th):=by
 intro pins s σ H Q I h
 refine Subscript_ (thn (he pins s σ H _ I h) fun v s1 ⟨x,H1,I1,r1,q1⟩=>?_)
 refine wpAny_Slice (thn (hl pins s1 σ H1 _ I1 q1) fun vl s2 ⟨l,H2,I2,pl,q2⟩=>thn (hu pins s2 σ H2 _ I2 q2) fun vu s3 ⟨u,H3,I3,pu,q3⟩=>?_)
 rw [evalPart_none]
 refine wpAny_pure ?_
 have I4:Inv X pins σ H3 { s3 with heap:=s3.heap.push { cls:=.type "slice", data:=.fields #[vl,vu,.none] } }:=I3.kept (t':=s3.toks) fun b ob q=>Heap.get?_push_of_some _ q
 obtain ⟨T,id,hT,ht,hg⟩:=hr pins { s3 with heap:=s3.heap.push { cls:=.type "slice", data:=.fields #[vl,vu,.none] } } σ H3 x v vl vu l u s3.heap.objs.size Q I4 r1 (Heap.IsSliceOf.new ..) pl pu q3
 show wpAny (model X.prog X.w) X.A (subscriptTail e (.Slice lo hi none p2) v (.ref s3.heap.objs.size)) (EP X pins σ Q) X.xe { s3 with heap:=s3.heap.push { cls:=.type "slice", data:=.fields #[vl,vu,.none] } }
 exact tail_any (ops:=[.ref s3.heap.objs.size,v]) ht hT hg (by with_unfolding_all rfl)
def cutV (xs:List V) (lo hi:Option Int):List V:=(xs.drop (HT.sIx xs.length 0 lo)).take (HT.sIx xs.length xs.length hi - HT.sIx xs.length 0 lo)
theorem zgP (xs:List V) (lo hi:Option Int):(cutV xs lo hi).length<=xs.length:=by
 unfold cutV
 rw [List.length_take,List.length_drop]
 omega
end
def ixN (n:Nat) (i:Int):Option Nat:=if 0<=i then (if i < n then some i.toNat else none) else if -(n:Int)<=i then some (i+n).toNat else none
def atI {α : Type} (xs:List α) (i:Int):Option α:=(ixN xs.length i).bind fun j=>xs[j]?
theorem zmJ {n:Nat} {i:Int} {j:Nat} (h:ixN n i=some j):seqIndex? i n=some j/\j < n /\ -(n:Int)<=i/\i < n:=by
 unfold ixN at h
 by_cases h0:0<=i
 ·rw [if_pos h0] at h
  by_cases h1:i < n
  ·rw [if_pos h1] at h
   have e:i.toNat=j:=Option.some.inj h
   exact ⟨by rw [seqIndex_of h0 h1,e],by omega,by omega,h1⟩
  ·rw [if_neg h1] at h;cases h
 ·rw [if_neg h0] at h
  by_cases h1 : -(n:Int)<=i
  ·rw [if_pos h1] at h
   have e:(i+n).toNat=j:=Option.some.inj h
   exact ⟨by rw [seqIndex_neg (by omega) h1,e],by omega,h1,by omega⟩
  ·rw [if_neg h1] at h;cases h
theorem zgQ {α : Type} {xs:List α} {i:Int} {v : α} (h:atI xs i=some v):∃ j,seqIndex? i xs.length=some j/\xs[j]?=some v/\j < xs.length /\ -(xs.length:Int)<=i/\i < xs.length:=by
 unfold atI at h
 cases e:ixN xs.length i with
 | none=>rw [e] at h;cases h
 | some j =>
  rw [e] at h
  obtain ⟨h1,h2,h3,h4⟩:=zmJ e
  exact ⟨j,h1,h,h2,h3,h4⟩
theorem za1 {α : Type} {xs:List α} {j:Nat} {v : α} (h:xs[j]?=some v):atI xs (j:Int)=some v:=by
 have hj:j < xs.length:=(List.getElem?_eq_some_iff.mp h).1
 have e:ixN xs.length (j:Int)=some j:=by
  unfold ixN
  rw [if_pos (by omega),if_pos (by omega)];simp
 unfold atI;rw [e];exact h
def zgR (b:Expr):Prop:=∀ o i,subscripted b false o i=operate [o,i] (getItem o i)
def IxR (X:Cx) (r:R2):Prop :=
 ∀ (value slice:Expr) (pins:List (Addr × Obj)) (s:Shared) (σ : St) (H:Hp) (x y:V) (v u:Value) (Q:VK),Inv X pins σ H s->RelV x v->RelV y u->r x y H Q ->
  subscripted slice false v u=operate [v,u] (getItem v u)->wpAny (model X.prog X.w) X.A (subscriptTail value slice v u) (EP X pins σ Q) X.xe s
def MtR (X:Cx) (id:String) (r:V->List V->Hp->VK->Prop):Prop :=
 ∀ (pins:List (Addr × Obj)) (s:Shared) (σ : St) (H:Hp) (x:V) (xs:List V) (v:Value) (us:List Value) (Q:VK),Inv X pins σ H s->RelV x v->Vals xs us->r x xs H Q ->
  wpAny (model X.prog X.w) X.A (call (.builtin id) (v :: us)) (EP X pins σ Q) X.xe s
section
variable {X:Cx} {a b:Expr} {ta tb:TE} {pos:Pos}
theorem IxR.or {r r':R2} (h:IxR X r) (h':IxR X r'):IxR X (fun x y H Q=>r x y H Q ∨ r' x y H Q):=by
 intro value slice pins s σ H x y v u Q I rx ry q hs
 rcases q with q | q
 ·exact h value slice pins s σ H x y v u Q I rx ry q hs
 ·exact h' value slice pins s σ H x y v u Q I rx ry q hs
theorem zn8 {r:R2} (hr:IxR X r) (ha:PE X a ta) (hb:PE X b tb) (hs:zgR b):PE X (.Subscript a b pos) (tOp r ta tb):=by
 intro pins s σ H Q I h
 exact Subscript_ (binT ha hb I h fun v u s2 x y H2 I2 rx ry q=>hr a b pins s2 σ H2 x y v u Q I2 rx ry q (hs _ _))
def rIxL (K:PySem.W.Frag):R2:=fun x y H Q=>∃ p xs i v,x=.ref p/\y=.int i/\SqL K H p xs/\atI xs i=some v/\Q v H
def rIxT (K:PySem.W.Frag):R2:=fun x y H Q=>∃ p xs i v,x=.ref p/\y=.int i/\SqT K H p xs/\atI xs i=some v/\Q v H
def rIxS:R2:=fun x y H Q=>∃ z i c,x=.str z/\y=.int i/\z.length<=sizeLine/\atI z.cps.toList i=some c/\Q (.str ⟨#[c]⟩) H
theorem zmK:IxR X (rIxL X.K):=by
 intro value slice pins s σ H x y v u Q I rx ry h hs
 obtain ⟨p,xs,i,z,rfl,rfl,hq,he,q⟩:=h
 cases rx
 obtain ⟨t,rfl⟩:=ry
 obtain ⟨its,r,pl,hz⟩:=I.list hq
 obtain ⟨j,h1,h2,h3,h4,h5⟩:=zgQ he
 obtain ⟨w,ew,rw'⟩:=r.get h2
 have hl:=r.length
 have hn:=zhB
 have fin:EP X pins σ Q w s:=⟨z,H,I,rw',q⟩
 by_cases h0:0<=i
 ·have hj:i.toNat=j:=by
   rw [seqIndex_of h0 h5] at h1
   exact Option.some.inj h1
  exact item_listR pl.isList h0 (by omega) (by rw [hj];simpa using ew) fin hs
 ·have hj:(i+(its.toArray.size:Int)).toNat=j:=by
   rw [seqIndex_neg (by omega) h4] at h1
   rw [List.size_toArray,← hl]
   exact Option.some.inj h1
  exact subscriptTail_builtinR (x:=w) pl.isList.typeIs slot_list_getitem.lookup
   (wpAny_getItem_list_neg (Q:=fun r s'=>r=w/\EP X pins σ Q r s') pl.isList (by omega) (by rw [List.size_toArray] <;> omega) (by omega) (by rw [hj];simpa using ew) ⟨rfl,fin⟩) hs
theorem zn9:IxR X (rIxT X.K):=by
 intro value slice pins s σ H x y v u Q I rx ry h hs
 obtain ⟨p,xs,i,z,rfl,rfl,hq,he,q⟩:=h
 cases rx
 obtain ⟨t,rfl⟩:=ry
 obtain ⟨its,r,pl,hz⟩:=I.tuple hq
 obtain ⟨j,h1,h2,h3,h4,h5⟩:=zgQ he
 obtain ⟨w,ew,rw'⟩:=r.get h2
 have hl:=r.length
 have hn:=zhB
 have fin:EP X pins σ Q w s:=⟨z,H,I,rw',q⟩
 exact subscriptTail_builtinR (x:=w) pl.typeIs slot_tuple_getitem.lookup
  (getItem_tuple (j:=j) (Q:=fun r s'=>r=w/\EP X pins σ Q r s') pl (by omega) (by omega) (by rw [List.size_toArray,← hl];exact h1) (by simpa using ew) ⟨rfl,fin⟩) hs
theorem zoa:IxR X rIxS:=by
 intro value slice pins s σ H x y v u Q I rx ry h hs
 obtain ⟨z,i,c,rfl,rfl,hz,he,q⟩:=h
 obtain ⟨t,rfl⟩:=rx
 obtain ⟨t',rfl⟩:=ry
 obtain ⟨j,h1,h2,h3,h4,h5⟩:=zgQ he
 have hl:z.cps.toList.length=z.length:=by simp [Str.length]
 rw [hl] at h1 h4 h5
 have hn:=zhB
 exact tail_any (typeIs_str s z t) slot_str_getitem.lookup (getItem_str (c:=c) (by
  have e1:decide (i < -(2 ^ 63:Int))=false:=decide_eq_false (by omega)
  have e2:decide (i ≥ 2 ^ 63)=false:=decide_eq_false (by omega)
  rw [e1,e2,Bool.or_false]) (by rw [h1];simpa using h2) ⟨.str ⟨#[c]⟩,H,I.tok _,⟨_,rfl⟩,q⟩) hs
def rIx (K:PySem.W.Frag):R2:=fun x y H Q=>rIxL K x y H Q ∨ rIxT K x y H Q ∨ rIxS x y H Q
theorem zmf:IxR X (rIx X.K):=zmK.or (zn9.or zoa)
theorem zfV (lo hi:Option Int) (n:Nat):(sliceBounds lo hi none n).1=((HT.sIx n 0 lo:Nat):Int)/\(sliceBounds lo hi none n).2.1=((HT.sIx n n hi:Nat):Int)/\(sliceBounds lo hi none n).2.2=1:=by
 refine ⟨?_,?_,rfl⟩
 ·cases lo with
  | none=>simp [sliceBounds,HT.sIx]
  | some i =>
   simp only [sliceBounds,HT.sIx,Option.getD_none,show (1:Int) > 0 by decide,if_true]
   by_cases h:i < 0
   ·simp only [h,if_true] <;> omega
   ·simp only [h,if_false] <;> omega
 ·cases hi with
  | none=>simp [sliceBounds,HT.sIx]
  | some i =>
   simp only [sliceBounds,HT.sIx,Option.getD_none,show (1:Int) > 0 by decide,if_true]
   by_cases h:i < 0
   ·simp only [h,if_true] <;> omega
   ·simp only [h,if_false] <;> omega
theorem zfb (its:List Value) (lo hi:Option Int):slicePick its.toArray lo hi none=((its.drop (HT.sIx its.length 0 lo)).take (HT.sIx its.length its.length hi - HT.sIx its.length 0 lo)).toArray:=by
 obtain ⟨h1,h2,h3⟩:=zfV lo hi its.toArray.size
 unfold slicePick
 rw [h1,h2,h3]
 simp only [sliceRange_one,pick_run,List.size_toArray] <;> rfl
def rSlL (K:PySem.W.Frag):V->Option Int->Option Int->Hp->VK->Prop:=fun x lo hi H Q=>∃ a xs,x=.ref a/\SqL K H a xs/\∀ p,H p=none->Q (.ref p) (upd H p (.lst (cutV xs lo hi)))
theorem zmL:SlR X (rSlL X.K):=by
 intro pins s σ H x v vl vu lo hi sl Q I rx hs pl pu h
 obtain ⟨a,xs,rfl,hx,q⟩:=h
 cases rx
 obtain ⟨its,r,ht,hz⟩:=I.list hx
 have hlen:=r.length
 refine ⟨"list", _,slot_list_getitem.lookup,ht.isList.typeIs,?_⟩
 refine wpAny_getItem_list_slice ht.isList hs pl pu .none (by simp) ?_ (by rw [List.size_toArray] <;> omega)
 rw [zfb,← hlen]
 refine ⟨.ref s.heap.objs.size,_,I.laid (t':=s.toks) (o:=.lst (cutV xs lo hi)) (fun b ob q=>Heap.get?_push_of_some _ q) (Nat.le_refl _) ?_,rfl,q _ (I.hok.fresh (Nat.le_refl _))⟩
 exact ⟨Nat.le_trans (zgP xs lo hi) hz,_,0,(r.drop (HT.sIx xs.length 0 lo)).take (HT.sIx xs.length xs.length hi - HT.sIx xs.length 0 lo),Heap.get?_push_size _ rfl⟩
theorem zdP:zcJ X (.type "list") (fun xs H Q=>∃ p ys,xs=[.ref p]/\(SqL X.K H p ys ∨ SqT X.K H p ys)/\∀ l,H l=none->Q (.ref l) (upd H l (.lst ys))):=by
 intro pins s σ H xs us Q I r h
 obtain ⟨p,ys,rfl,hq,q⟩:=h
 obtain ⟨u,rfl,rx⟩:=zk9 r
 cases rx
 have fin:∀ (its:List Value),Vals ys its->ys.length<=sizeLine->∀ (h':Heap) (c':Nat),(∀ b o',s.heap.get? b=some o'->h'.get? b=some o') ->
   h'.get? s.heap.objs.size=some { cls:=.type "list", dict:=none,data:=.seq its.toArray c',slots:=#[] }->EP X pins σ Q (.ref s.heap.objs.size) { s with heap:=h' }:=fun its r' hz h' c' kp e =>
  ⟨.ref s.heap.objs.size,_,I.laid (t':=s.toks) kp (Nat.le_refl _) (show zbJ X.prog X.w _ h' _ (.lst ys) from ⟨hz,its,c',r',e⟩),rfl,q _ (I.hok.fresh (Nat.le_refl _))⟩
 rcases hq with hq | hq
 ·obtain ⟨its,r',pl,hz⟩:=I.list hq
  have hlen:=r'.length
  obtain ⟨o,ho,hc,n,hd⟩:=pl.isList
  exact call_list_seq p (.inl rfl) ho hc hd (fun h' c' kp e=>fin its r' hz h' c' kp e) (by simp only [List.size_toArray] <;> omega)
 ·obtain ⟨its,r',pl,hz⟩:=I.tuple hq
  have hlen:=r'.length
  obtain ⟨o,ho,hc,n,hd⟩:=pl
  exact call_list_seq p (.inr rfl) ho hc hd (fun h' c' kp e=>fin its r' hz h' c' kp e) (by simp only [List.size_toArray] <;> omega)
def tyV (K:PySem.W.Frag) (T:String) (x:V) (H:Hp):Prop:=match x with
 | .str _=>T = "str"
 | .int _=>T = "int"
 | .ref p=>(T = "list" /\ ∃ xs,SqL K H p xs) ∨ (T = "tuple" /\ ∃ o,K.lookup p=some o/\o.cls=.type "tuple" /\ o.dict=none) ∨
   (T = "dict" /\ ((∃ kvs,H p=some (.dK kvs)) ∨ ∃ kvs,H p=some (.dT kvs))) ∨ (T = "set" /\ ∃ S n,H p=some (.set S n))
 | _=>False
theorem zob {pins:List (Addr × Obj)} {σ : St} {H:Hp} {s:Shared} {T:String} {x:V} {v:Value} (I:Inv X pins σ H s) (r:RelV x v) (ty:tyV X.K T x H) :
  s.TypeIs v T/\∀ a,v=.ref a->∃ ob,s.heap.get? a=some ob/\ob.dict=none:=by
 cases x with
 | str z =>
  obtain ⟨t,rfl⟩:=r
  cases (show T = "str" from ty)
  exact ⟨typeIs_str s z t,fun _ e=>nomatch e⟩
 | int i =>
  obtain ⟨t,rfl⟩:=r
  cases (show T = "int" from ty)
  exact ⟨typeIs_int s i t,fun _ e=>nomatch e⟩
 | ref p =>
  cases r
  rcases ty with ⟨rfl,xs,hq⟩ | ⟨rfl,o,hk,hc,hd⟩ | ⟨rfl,hk⟩ | ⟨rfl,S,n,hk⟩
  ·obtain ⟨its,_,pl,_⟩:=I.list hq
   refine ⟨pl.isList.typeIs,fun a e=>?_⟩
   cases e
   obtain ⟨o,n,e,c,hd,_⟩:=pl
   exact ⟨o,e,hd⟩
  ·refine ⟨⟨o,I.kIn p o hk,hc⟩,fun a e=>?_⟩
   cases e
   exact ⟨o,I.kIn _ o hk,hd⟩
  ·have z:∃ o,s.heap.get? p=some o/\o.ExactDict:=by
    rcases hk with ⟨kvs,hk⟩ | ⟨kvs,hk⟩
    ·obtain ⟨_,_,_,_,o,_,_,e,ex,_⟩:=I.hok p _ hk
     exact ⟨o,e,ex⟩
    ·obtain ⟨_,_,_,_,o,_,_,e,ex,_⟩:=I.hok p _ hk
     exact ⟨o,e,ex⟩
   obtain ⟨o,e,ex⟩:=z
   refine ⟨⟨o,e,ex.1⟩,fun a e2=>?_⟩
   cases e2
   exact ⟨o,e,ex.2.1⟩
  ·obtain ⟨o,_,_,_,e,ex,_⟩:=I.hok p _ hk
   refine ⟨⟨o,e,ex.1⟩,fun a e2=>?_⟩
   cases e2
   exact ⟨o,e,ex.2.1⟩
 | _=>exact False.elim ty
def tBM (K:PySem.W.Frag) (T:String) (r:V->List V->Hp->VK->Prop) (to:TE) (t:TA):TE:=fun σ H Q=>to σ H fun x H1=>tyV K T x H1/\t σ H1 fun xs H2=>r x xs H2 Q
variable {o e:Expr} {es:List Expr} {to:TE} {t:TA} {name:Str} {apos cpos:Pos} {T id:String} {r:V->List V->Hp->VK->Prop}
theorem zmM (pa:PlainAttrs T) (slot:Slot T name id) (hty:typeOf (.builtin id)=pure (.type "method_descriptor")) (hm:MtR X id r) (ho:PE X o to) (ha:PA X (e :: es) t)
  (hbase:attributeBase o name X.env (eval o X.env)=eval o X.env:=by rfl)
  (hfew:((backTo cpos (starEach (e :: es) X.env)).all (fun x=>!x.1) && (backToKw cpos (keywordEach [] X.env)).all (fun x=>x.1.isSome)
   && decide ((e :: es).length+([]:List Keyword).length+(if ([]:List Keyword).isEmpty then 0 else 1) < 30))=true:=by rfl)
  (hline:(apos.endLine == cpos.line)=true:=by rfl) (hs:starEach (e :: es) X.env=(false,eval e X.env) :: starEach es X.env:=by rfl) (hplain:(backTo cpos (starEach es X.env)).any (·.1)=false:=by rfl) :
  PE X (.Call (.Attribute o name apos) (e :: es) [] cpos) (tBM X.K T r to t):=by
 intro pins s σ H Q I h
 refine wpAny_Call_method_late hbase hfew hline rfl (thn (ho pins s σ H _ I h) fun v s1 ⟨x,H1,I1,r1,ty,q1⟩=>?_)
 obtain ⟨h1,h2⟩:=zob I1 r1 ty
 refine ⟨T,id,pa,slot,hty,h1,h2,?_⟩
 have hA:=ha cpos pins s1 σ H1 _ I1 q1
 rw [hs] at hA ⊢
 refine Calls.callWith_builtin (by show (false || (backTo cpos (starEach es X.env)).any (·.1))=false;rw [hplain] <;> rfl) (Calls.evalArgs_plain ?_)
 exact thn hA fun us s2 ⟨vs,H2,I2,r2,q2⟩=>hm pins s2 σ H2 x vs v us Q I2 r1 r2 q2
end
def MtM (X:Cx) (id:String) (r:V->List V->Hp->VK->Prop):Prop :=
 ∀ (pins:List (Addr × Obj)) (s:Shared) (σ : St) (H:Hp) (x:V) (xs:List V) (v:Value) (us:List Value) (Q:VK),Inv X pins σ H s->RelV x v->Vals xs us->r x xs H Q ->
  wpAny (model X.prog X.w) X.A (call (.builtin id) (v :: us)) (EP X pins σ Q) X.xe s
theorem Vals.one:∀ {x:V} {us:List Value},Vals [x] us->∃ u,us=[u]/\RelV x u
 | _,_,.cons r .nil=>⟨_,rfl,r⟩
theorem Vals.two:∀ {x y:V} {us:List Value},Vals [x,y] us->∃ u v,us=[u,v]/\RelV x u/\RelV y v
 | _,_,_,.cons r (.cons q .nil)=>⟨_,_,rfl,r,q⟩
theorem Vals.reverse {xs:List V} {us:List Value} (h:Vals xs us):Vals xs.reverse us.reverse:=by
 induction h with
 | nil=>exact .nil
 | cons r t ih=>rw [List.reverse_cons,List.reverse_cons];exact Vals.append ih (.cons r .nil)
theorem Vals.rep {xs:List V} {us:List Value} (h:Vals xs us):∀ k:Nat,Vals (List.replicate k xs).flatten (List.replicate k us).flatten
 | 0=>.nil
 | k+1=>by
  rw [List.replicate_succ,List.replicate_succ,List.flatten_cons,List.flatten_cons]
  exact Vals.append h (Vals.rep h k)
theorem zfW (its:List Value):∀ (k:Nat) (acc:List Value),
  List.foldl (fun x1 x2=>x1 ++ x2) acc.toArray (List.replicate k its.toArray)=(acc ++ (List.replicate k its).flatten).toArray
 | 0,acc=>by simp
 | k+1,acc=>by
  have e:acc.toArray ++ its.toArray=(acc ++ its).toArray:=by simp
  have e2:(acc ++ its) ++ (List.replicate k its).flatten=acc ++ (List.replicate (k+1) its).flatten:=by
   rw [List.replicate_succ,List.flatten_cons,List.append_assoc]
  rw [← e2,← zfW its k (acc ++ its),← e,List.replicate_succ,List.foldl_cons]
section
variable {X:Cx} {pins:List (Addr × Obj)} {σ : St} {H:Hp} {s:Shared} {l b:Addr} {xs ys zs:List V}
theorem Inv.lset {its its':List Value} {n:Nat} {f:Array Value->Array Value} {t':Nat} (I:Inv X pins σ H s) (hH:H l=some (.lst xs))
  (e:s.heap.get? l=some { cls:=.type "list", data:=.seq its.toArray n }) (hf:f its.toArray=its'.toArray) (hv:Vals ys its') (hz:ys.length<=sizeLine) :
  Inv X pins σ (upd H l (.lst ys)) { s with heap:=s.heap.update l (Obj.mapSeq f),toks:=t' }:=by
 have q:=PySem.IsL.update e f
 rw [hf] at q
 refine I.write (x:=l) (e:=l) (by rw [hH];exact trivial) (.inl rfl) (fun b' u hb hu=>(Heap.get?_update_other s.heap (Obj.mapSeq f) (Ne.symm hb)).trans hu) ⟨_,q⟩ ?_
 exact ⟨hz,its',_,hv,q⟩
theorem Inv.lnew {its:List Value} {t':Nat} (I:Inv X pins σ H s) (hv:Vals ys its) (hz:ys.length<=sizeLine) :
  Inv X pins σ (upd H s.heap.objs.size (.lst ys)) { s with heap:=s.heap.push { cls:=.type "list", data:=.seq its.toArray },toks:=t' } :=
 I.laid (fun _ _ q=>Heap.get?_push_of_some _ q) (Nat.le_refl _) ⟨hz,its,0,hv,Heap.get?_push_size _ rfl⟩
theorem Inv.fresh (I:Inv X pins σ H s):H s.heap.objs.size=none:=I.hok.fresh (Nat.le_refl _)
theorem Inv.lstM (I:Inv X pins σ H s) (hH:H l=some (.lst xs)):xs.length<=sizeLine/\∃ (its:List Value) (n:Nat),Vals xs its/\xs.length=its.length/\s.heap.get? l=some { cls:=.type "list", data:=.seq its.toArray n }:=by
 obtain ⟨z,its,n,r,e⟩:=I.hok l _ hH
 exact ⟨z,its,n,r,r.length,e⟩
theorem zhE {n:Nat} (h:n<=sizeLine):Builtin.List.listTooLong n=false:=by
 unfold Builtin.List.listTooLong
 exact decide_eq_false (by omega)
end
section
variable {X:Cx}
def zmN:V->List V->Hp->VK->Prop:=fun x vs H Q=>∃ l xs y,x=.ref l/\vs=[y]/\H l=some (.lst xs)/\xs.length < sizeLine/\Q .non (upd H l (.lst (xs ++ [y])))
theorem zfX:MtM X "list.append" zmN:=by
 intro pins s σ H x vs v us Q I rx rv h
 obtain ⟨l,xs,y,rfl,rfl,hH,hz,q⟩:=h
 cases rx
 obtain ⟨u,rfl,ru⟩:=rv.one
 obtain ⟨z,its,n,r,hl,e⟩:=I.lstM hH
 refine call_meets F.slot_list_append ⟨_,e,rfl⟩ F.entry_list_append (F.args_list_append_2 _ _) (PySem.list_append l its.toArray n u (by rw [List.size_toArray];omega)) ⟨e,?_⟩
 refine ⟨.non,_,I.lset (its':=its ++ [u]) hH e (by simp) (r.append (.cons ru .nil)) ?_,rfl,q⟩
 rw [List.length_append,List.length_singleton]
 omega
def zmO:V->List V->Hp->VK->Prop:=fun x vs H Q=>∃ l b xs zs,x=.ref l/\vs=[.ref b]/\H l=some (.lst xs)/\H b=some (.lst zs)/\xs.length+zs.length<=sizeLine/\Q .non (upd H l (.lst (xs ++ zs)))
theorem zjd:MtM X "list.extend" zmO:=by
 intro pins s σ H x vs v us Q I rx rv h
 obtain ⟨l,b,xs,zs,rfl,rfl,hH,hB,hz,q⟩:=h
 cases rx
 obtain ⟨u,rfl,ru⟩:=rv.one
 cases ru
 obtain ⟨z,its,n,r,hl,e⟩:=I.lstM hH
 obtain ⟨z2,its2,n2,r2,hl2,e2⟩:=I.lstM hB
 have hsz:its.toArray.size+its2.toArray.size<=sizeLine:=by rw [List.size_toArray,List.size_toArray];omega
 have hlong : ¬ (!its.toArray.isEmpty && Builtin.List.listTooLong (its.toArray.size+its2.toArray.size))=true:=by
  rw [zhE hsz,Bool.and_false]
  exact Bool.false_ne_true
 refine call_meets F.slot_list_extend ⟨_,e,rfl⟩ F.entry_list_extend (F.args_list_extend_2 _ _)
  (AutoSeq1.list_extend_list_list_0 l its.toArray n b its2.toArray n2 hlong (by rw [List.size_toArray];omega) (by omega)) ⟨e,e2,?_⟩
 refine ⟨.non,_,I.lset (its':=its ++ its2) hH e (by simp) (r.append r2) ?_,rfl,q⟩
 rw [List.length_append]
 omega
theorem zmP {α : Type} (xs:List α) (k:Nat):(List.replicate k xs).flatten.length=k * xs.length:=by
 induction k with
 | zero=>simp
 | succ k ih=>rw [List.replicate_succ,List.flatten_cons,List.length_append,ih,Nat.succ_mul,Nat.add_comm]
end
section
variable {prog:Program} {w:World} {A:Around} {E:Value->Shared->Prop} {s:Shared}
set_option maxRecDepth 100000 in
end
section
variable {X:Cx}
end
end L2
namespace Att
open PySem PySem.W PySem.Calls PyProof.Rows
theorem zef {P:Params} {h:Heap}:∀ (ns:List Int) (vs:List Value),WellAll P h vs (ns.map WData.int)->IntsAre vs ns:=by
 intro ns
 induction ns with
 | nil =>
  intro vs w
  rw [List.map_nil] at w
  cases w
  exact .nil
 | cons n ns ih =>
  intro vs w
  rw [List.map_cons] at w
  cases w with
  | cons a b =>
   cases a
   exact .cons _ _ (ih _ b)
theorem zje {l:OpenLaw} {n:Nat} (hn:l.most=some n) {P:Params} {h:Heap} {args:List WData} {vals:List Value}
  (hpre:l.row.toRowW.claim.pre args=true) (hwl:WellAll P h vals args) :
  ∃ a vs ns,vals=[Value.ref a]/\args=[WData.list (ns.map WData.int)]/\h.get? a=some { cls:=.type "list", data:=.seq vs.toArray }/\IntsAre vs ns/\ns.length<=n:=by
 have hsh:WShape.hasAll [] args [.list .int]=true:=(pre_splitW hpre).1
 have hc:l.pre.holds [] { args:=args }=true:=(pre_splitW hpre).2
 obtain ⟨d,r,rfl,h1,h2⟩:=hasAllW_cons hsh
 obtain rfl:=hasAllW_nil h2
 obtain ⟨xs,rfl,h3⟩:=hasW_list h1
 obtain ⟨ns,rfl⟩:=items_int h3
 have hlen:ns.length<=n:=by
  unfold OpenLaw.pre at hc
  have h4:(WTm.not (.lt (.lit (.int (n:Int))) (.len (.arg 0)))).holds [] { args:=[.list (ns.map .int)] }=true:=by
   have h4:=(holds_andW hc).1
   rw [hn] at h4
   exact h4
  have h5:=condW_of h4 (w_not (w_lt w_lit (w_len_list (w_arg rfl))))
  rw [List.length_map] at h5
  refine Nat.le_of_not_lt fun q=>?_
  have q':(n:Int) < ((ns.length:Nat):Int):=by omega
  first
   | (rw [decide_eq_true q'] at h5;exact absurd h5 (by decide))
   | (simp at h5;omega)
 cases hwl with
 | cons w1 w2 =>
  cases w2
  cases w1 with
  | list ho hall=>exact ⟨_,_,ns,rfl,rfl,ho,zef ns _ hall,hlen⟩
theorem zjf (l:OpenLaw) (args:List WData):l.row.toRowW.claim.post args (.bool true) args=true :=
 postW_of (r:=l.row.toRowW) (X:=(true == true))
  (show WShape.has [] (.bool true) .bool=true by first | rfl | decide | simp [WShape.has,WShape.arms,WShape.armsAll])
  (show (WTm.eq .res (.lit (.bool true))).value [] { args:=args,res:=some (.bool true),after:=args }=some (.bool (true == true)) from w_eq_bool (w_res rfl) w_lit) rfl
theorem attach_call {l:OpenLaw} {n:Nat} {q:Program} {loose:List Str} {XP:(Str->Option Value)->Heap->Prop} {YP:World->Heap->Prop} {d:DefRec}
  (hn:l.most=some n) (hdf:d.params.defaults=[])
  (call:∀ (w:World) (s₀ s₁ : Shared) (mg mb:Str->Option Value) (fa:Addr) (o:Obj) (pm cd doc:Value) (a:Addr) (vs:List Value) (ns:List Int),
   Ground q loose [] XP w s₀ mg mb s₁.heap->YP w s₁.heap ->
   s₁.heap.get? fa=some o->o.data=.func (docDef d.name d.params d.body d.scope pm cd doc)->s₁.heap.CodeRec cd d.name->mg d.name=some (.ref fa) ->
   s₁.heap.get? a=some { cls:=.type "list", data:=.seq vs.toArray }->IntsAre vs ns->ns.length<=n->s₁.gens = #[] ->
   codeAny (model l.prog w) callerA (.call (.ref fa) ⟨[.ref a],[]⟩) (fun r s'=>r=.ok (.ret (.bool true))/\OldK s₁.heap s'.heap/\s'.os=s₁.os/\AllBare s'.gens) s₁) :
  WalkO q loose XP YP l.row.toRowW d [] (fun f vs=>PySem.call f vs):=by
 intro w s₀ s₁ mg mb G Y fa o pm cd doc dV kV ho hd hcd hD hmg hg args vals as hpre hlay hrd hwl hlo
 obtain rfl:dV=.none:=Dflts.none hD hdf
 obtain rfl:kV=.none:=Dflts.noKw hD
 obtain ⟨a,vs,ns,rfl,rfl,hobj,hints,hlen⟩:=zje hn hpre hwl
 refine enter_call (codeAny_mono (call w s₀ s₁ mg mb fa o pm cd doc a vs ns G Y ho (fd_plain hd) hcd hmg hobj hints hlen hg) fun r s' hq=>?_)
 obtain ⟨rfl,h2,h3,h4⟩:=hq
 exact ⟨.inl ⟨.bool true,.bool true,[],rfl,fun _=>rfl,.bool true,zjf l _,fun _=>⟨List.Pairwise.nil,fun _ hm=>(nomatch hm)⟩⟩,h2,h3,h4⟩
section
variable {prog:Program} {w:World} {A:Around} {E:Value->Shared->Prop} {s:Shared} {K:Frag}
end
end Att
namespace L2
open PySem PySem.Spec PyProof.Rows
theorem zbS:∀ {vs:List Value} {ns:List Int},IntsAre vs ns->Vals (ns.map V.int) vs
 | _,_,.nil=>.nil
 | _,_,.cons n t h=>.cons ⟨t,rfl⟩ (zbS h)
def Only (H:Hp):Prop:=∀ b,H b=none ∨ ∃ o xs,H b=some (.frz o (.lst xs))
theorem zlb {P:Program} {w:World} {K:PySem.W.Frag} {mg mb:Str->Option Value} {CX:CXT} {k:Nat} {fa a:Addr} {fd:FuncData} {x:Str} {sp:Sp} {s₁ : Shared} {vs:List Value} {ns:List Int}
  (KX:K.In s₁.heap) (hns:s₁.heap.Ns mainGlobals mg) (hb:s₁.heap.Ns builtinsNs mb) (hbb:∀ x:Str,x ≠ "__name__" -> mb x=bootBuiltins x) (hlim:s₁.heap.NoLimit) (hg:s₁.gens = #[])
  (ha:s₁.heap.get? a=some { cls:=.type "list", data:=.seq vs.toArray }) (hi:IntsAre vs ns) (hl:ns.length<=sizeLine) (hr:Room k callerA)
  (F:∀ base:Heap,K.In base->base.Ns mainGlobals mg->FnOk P w K mg base CX k fa fd [x] sp) (hbind:∀ (s:Shared) (u:Value),BindsTo s fd ⟨[u],[]⟩ [(x,u)])
  (hsp:∀ H:Hp,Only H->SqL K H a (ns.map V.int)->sp [.ref a] H (fun v _=>v=.bl true) fun _ _ _=>False)
  (hCX:∀ H e s',CX [] H s₁ (fun _ _ _=>False) e s'->False) :
  codeAny (model P w) callerA (.call (.ref fa) ⟨[.ref a],[]⟩) (fun r s'=>r=.ok (.ret (.bool true))/\OldK s₁.heap s'.heap/\s'.os=s₁.os/\AllBare s'.gens) s₁:=by
 have rv:=zbS hi
 have lenV:=hi.length
 have core:∀ H:Hp,Only H->SqL K H a (ns.map V.int)->HOk P w H s₁.heap->(∀ b,H b ≠ none->b=a)->(H a ≠ none->K.lookup a=none) ->
   codeAny (model P w) callerA (.call (.ref fa) ⟨[.ref a],[]⟩) (fun r s'=>r=.ok (.ret (.bool true))/\OldK s₁.heap s'.heap/\s'.os=s₁.os/\AllBare s'.gens) s₁:=by
  intro H hO hS hok hA hK
  have base_of:∀ {b:Addr} {o:Obj},s₁.heap.get? b=some o->H b=none->(hidT s₁.heap H).get? b=some o:=fun e n=>zk4 e n
  have noA:∀ {b:Addr} {o:Obj} {es:Array DictEntry} {ep:Nat},s₁.heap.get? b=some o->o.data=.dict es ep->H b=none:=fun {b o es ep} e d=>by
   cases q:H b with
   | none=>rfl
   | some u =>
    have e':b=a:=hA b (by rw [q];simp)
    subst e'
    rw [ha] at e;cases e
    have d':Data.seq vs.toArray _=Data.dict es ep:=d
    cases d'
  have nsK:∀ {b:Addr} {m:Str->Option Value},s₁.heap.Ns b m->(hidT s₁.heap H).Ns b m:=fun {b m} ⟨o,es,ep,e,d,r⟩=>⟨o,es,ep,base_of e (noA e d),d,r⟩
  have hKb:K.In (hidT s₁.heap H):=fun b o e=>base_of (KX b o e) (by
   cases q:H b with
   | none=>rfl
   | some u =>
    have e':b=a:=hA b (by rw [q];simp)
    subst e'
    rw [hK (by rw [q];simp)] at e;cases e)
  have hM:Mod K mg (hidT s₁.heap H):=⟨hKb,nsK hns,⟨mb,nsK hb,hbb⟩,let ⟨mc,h1,h2⟩:=hlim;⟨mc,nsK h1,h2⟩⟩
  have e0:Env0 P w K mg (hidT s₁.heap H) callerA [] s₁ H:=⟨rfl,hM,fun b o e=>zmx e,Nat.le_of_eq (ziW _ _),trivial,fun b hb=>absurd (show b ∈ ([]:List Addr) from hb) (by simp),hok,.of_eq hg⟩
  refine codeAny_mono ((F _ hKb (nsK hns)).run callerA [] s₁ H ⟨[.ref a],[]⟩ [.ref a] [.ref a] _ _ hr e0 (hbind s₁ (.ref a)) (.cons rfl .nil) (hsp H hO hS)) fun r s' h=>?_
  cases r with
  | error e=>exact (hCX H e s' h).elim
  | ok fl =>
   cases fl with
   | next=>exact False.elim h
   | brk=>exact False.elim h
   | cont=>exact False.elim h
   | ret u =>
    obtain ⟨v,H',os,bare,un,hok',r',q⟩:=h
    have q':v=.bl true:=q
    subst q'
    obtain rfl:u=Value.bool true:=r'
    refine ⟨rfl,OldK.of_keep fun b o e=>?_,os,bare⟩
    cases q:H b with
    | none=>exact un.keep b o e q (by intro z;exact absurd (show b ∈ ([]:List Addr) from z) (by simp)) (by simp)
    | some u =>
     rcases hO b with z | ⟨ob,xs,z⟩
     ·rw [q] at z;cases z
     ·have z2:=un.frzs b ob _ z
      obtain ⟨e1,_⟩:=hok b _ z
      obtain ⟨e2,_⟩:=hok' b _ z2
      rw [e] at e1;cases e1
      exact e2
 cases hk:K.lookup a with
 | some o =>
  have e:=KX a o hk
  rw [ha] at e
  cases e
  refine core (fun _=>none) (fun _=>.inl rfl) (.inr ⟨_,vs.toArray,_,hk,rfl,rfl,rfl,by rw [List.size_toArray,lenV];exact hl,by simpa using rv⟩) (fun b u z=>by have z':(none:Option HO)=some u:=z;cases z') (fun b z=>absurd rfl z) fun z=>absurd rfl z
 | none =>
  refine core (fun b=>if b=a then some (.frz { cls:=.type "list", data:=.seq vs.toArray } (.lst (ns.map V.int))) else none) (fun b=>?_) (.inl (.inr ⟨{ cls:=.type "list", data:=.seq vs.toArray },if_pos rfl⟩)) (fun b u z=>?_) (fun b z=>?_) fun _=>hk
  ·by_cases hb:b=a
   ·exact .inr ⟨_,_,if_pos hb⟩
   ·exact .inl (if_neg hb)
  ·by_cases hb:b=a
   ·have z':=(if_pos hb).symm.trans z
    cases z'
    subst hb
    exact ⟨ha,by rw [List.length_map];exact hl,vs,_,rv,ha⟩
   ·have z':=(if_neg hb).symm.trans z
    cases z'
  ·by_cases hb:b=a
   ·exact hb
   ·exact absurd (if_neg hb) z
def zdC (s:Stmt):Arguments:=match s with
 | .FunctionDef _ a _ _ _ _ _ _ _ _=>a
 | _=>{ posonlyargs:=[],args:=[],vararg:=none,kwonlyargs:=[],kw_defaults:=[],kwarg:=none,defaults:=[] }
def zcK (s:Stmt):List Stmt:=match s with
 | .FunctionDef _ _ b _ _ _ _ _ _ _=>b
 | _=>[]
def zal (s:Stmt):Scope:=match s with
 | .FunctionDef _ _ _ _ _ _ sc _ _ _=>sc
 | _=>{ kind:=.function,names:=[],isGenerator:=false,isCoroutine:=false }
abbrev CX0:CXT:=fun _ _ _ _ _ _=>False
abbrev E0:XK:=fun _ _ _=>False
theorem zpv {X:Cx}:zjb CX0 X E0:=fun _ _ _ _ _ _ _ h=>h.elim
structure Fun (K:PySem.W.Frag) (x qual:Str) (st:Stmt) (f:Addr) (fd:FuncData):Prop where
 ex:∃ (oc:Value) (od:Option Addr) (kV doc pm:Value) (an:Option Addr) (cdv ct:Value) (osl:Array (Option Value)),
  fd=PySem.W.fnOf x qual (zdC st) (zcK st) (zal st) .none kV doc pm an cdv ct/\K.lookup f=some ⟨oc,od,.func fd,osl⟩/\PySem.W.codeIn K cdv qual=true
 kp:PySem.W.keepIn K (.ref f)=true
section
variable {P:Program} {w:World} {K:PySem.W.Frag} {mg:Str->Option Value} {base:Heap}
theorem Fun.ok {x qual:Str} {st:Stmt} {f:Addr} {fd:FuncData} {N ps:List Str} {k:Nat} {sp:Sp} (F:Fun K x qual st f fd) (S:zed N ps (zal st)) (len:∀ vs H Q E,sp vs H Q E->vs.length=ps.length)
  (hbody:∀ (cdv:Value) (A:Around) (outer:List Env) (s:Shared) (H:Hp) (vs:List V) (Q:VK) (E:XK),Room k (A.deeper (envOfC qual (zal st) s.heap.objs.size f cdv))->sp vs H Q E ->
   ∃ t,PSs (cxOf CX0 P w K mg base N qual (zal st) f cdv A outer s H E).nox (zcK st) t/\t { nx:=fun _ H'=>Q .non H',rt:=Q } (zee N vs) H):FnOk P w K mg base CX0 (k+1) f fd ps sp:=by
 obtain ⟨oc,od,kV,doc,pm,an,cdv,ct,osl,rfl,lk,hcd⟩:=F.ex
 refine zpt lk hcd S len fun A outer s H vs Q E hr hsp=>?_
 obtain ⟨t,h,q⟩:=hbody cdv A outer s H vs Q E hr hsp
 exact ⟨t,h.nox,q⟩
theorem Fun.binds {x qual:Str} {st:Stmt} {f:Addr} {fd:FuncData} {ps:List Str} (F:Fun K x qual st f fd)
  (h:∀ (kV doc pm:Value) (an:Option Addr) (cdv ct:Value) (us:List Value),us.length=ps.length->bindArgs (PySem.W.fnOf x qual (zdC st) (zcK st) (zal st) .none kV doc pm an cdv ct) ⟨us,[]⟩=pure (ps.zip us)):zfQ K fd ps []:=by
 obtain ⟨oc,od,kV,doc,pm,an,cdv,ct,osl,rfl,lk,hcd⟩:=F.ex
 exact .all (h kV doc pm an cdv ct)
end
section
variable {X:Cx}
end
def Same (H H':Hp):Prop:=∀ b o,H b=some o->H' b=some o
theorem Same.refl (H:Hp):Same H H:=fun _ _ h=>h
theorem Same.trans {H H1 H2:Hp} (a:Same H H1) (b:Same H1 H2):Same H H2:=fun c o h=>b c o (a c o h)
theorem Same.free {H H':Hp} (e:Same H H') {l:Addr} (h:H' l=Option.none):H l=Option.none:=by
 cases q:H l with
 | none=>rfl
 | some o =>
  rw [e l o q] at h
  cases h
theorem Same.seq {K:PySem.W.Frag} {H H':Hp} {a:Addr} {xs:List V} (e:Same H H') (h:SqL K H a xs):SqL K H' a xs:=by
 rcases h with (h | ⟨o,h⟩) | h
 ·exact .inl (.inl (e _ _ h))
 ·exact .inl (.inr ⟨o,e _ _ h⟩)
 ·exact .inr h
section
variable {X:Cx} {pins:List (Addr × Obj)} {σ : St} {H:Hp} {s:Shared} {h':Heap}
theorem Inv.turnedNew {t':Nat} {fp:List Addr} {p:Addr} {o:HO} (I:Inv X pins σ H s) (hf:∀ b ∈ fp,FpOk X pins H b)
  (k:∀ b o,b ∉ fp->s.heap.get? b=some o->h'.get? b=some o) (hp:s.heap.objs.size<=p) (new:zbJ X.prog X.w (upd H p o) h' p o) :
  Inv X pins σ (upd H p o) { s with heap:=h',toks:=t' }:=by
 have hn:H p=none:=I.hok.fresh hp
 have trk:∀ b u,H b=some u->b ∉ fp:=fun b u e z=>by rw [(hf b z).1] at e;cases e
 refine I.step (g':=s.gens) (d':=s.drawn) (ch:=fp) (fun b hb=>?_) (fun b o _ _ hc e _=>k b o hc e) (fun b o _ _ hc e _=>⟨o.slots,k b o hc e⟩)
  (fun b o _ e n=>by rw [zaJ (Nat.ne_of_lt (Nat.lt_of_lt_of_le (Heap.lt_size e) hp))];exact n) (fun b o hc e=>⟨o,k b o hc e⟩)
  (fun b xs e=>by rw [zaJ (zaF e hn)];exact e) (fun b ob u e=>by rw [zaJ (zaF e hn)];exact e) (fun b ps e=>⟨#[],by rw [zaJ (zaF e hn),e];simp⟩)
  (fun m hm=>?_) (fun b u e=>?_) I.bare
 ·obtain ⟨_,f1,_,f3,f4,f5⟩:=hf b hb
  exact ⟨f3,f1,f4,f5⟩
 ·obtain ⟨ob,es,ep,ho,r⟩:=hm
  exact ⟨ob,es,ep,k _ ob (fun z=>(hf _ z).2.1 rfl) ho,r⟩
 ·by_cases hb:b=p
  ·subst hb;rw [zaD] at e;cases e;exact new
  ·rw [zaJ hb] at e
   refine (I.hok b u e).stay (fun c v hc q=>k c v ?_ q) (fun c q=>by rw [zaJ (zaF q hn)];exact q) fun c xs q=>by rw [zaJ (zaF q hn)];exact q
   rcases hc with z | z
   ·rw [z];exact trk b u e
   ·exact trk c _ z
theorem Inv.turnedL {t':Nat} {fp:List Addr} (I:Inv X pins σ H s) (hf:∀ b ∈ fp,FpOk X pins H b)
  (k:∀ b o,b ∉ fp->s.heap.get? b=some o->h'.get? b=some o):Inv X pins σ H { s with heap:=h',toks:=t' }:=by
 have trk:∀ b u,H b=some u->b ∉ fp:=fun b u e z=>by rw [(hf b z).1] at e;cases e
 refine I.step (g':=s.gens) (d':=s.drawn) (ch:=fp) (fun b hb=>?_) (fun b o _ _ hc e _=>k b o hc e) (fun b o _ _ hc e _=>⟨o.slots,k b o hc e⟩)
  (fun _ _ _ _ n=>n) (fun b o hc e=>⟨o,k b o hc e⟩) (fun _ _ e=>e) (fun _ _ _ e=>e) (fun b ps e=>⟨#[],by rw [e];simp⟩) (fun m hm=>?_) (fun b u e=>?_) I.bare
 ·obtain ⟨_,f1,_,f3,f4,f5⟩:=hf b hb
  exact ⟨f3,f1,f4,f5⟩
 ·obtain ⟨ob,es,ep,ho,r⟩:=hm
  exact ⟨ob,es,ep,k _ ob (fun z=>(hf _ z).2.1 rfl) ho,r⟩
 ·refine (I.hok b u e).stay (fun c v hc q=>k c v ?_ q) (fun c q=>q) fun c xs q=>q
  rcases hc with z | z
  ·rw [z];exact trk b u e
  ·exact trk c _ z
end
def Ite (K:PySem.W.Frag) (a:Addr):It :=
 ⟨fun i H=>∃ xs x,SqL K H a xs/\xs[i]?=some x,
  fun i H v H'=>∃ p x,H p=none/\v=.ref p/\(∀ xs,SqL K H a xs->xs[i]?=some x)/\H'=upd H p (.tup [.int i,x]),
  fun i H=>∃ xs,SqL K H a xs/\xs.length<=i⟩
theorem zjg {P:Program} {w:World} {K:PySem.W.Frag} {elts:List Expr} {x1} {tp:Pos} (a e it:Addr) (hne:e ≠ it) :
  Turn P w K (.Tuple elts x1 tp) (Ite K a) [e,it] e (fun i h=>(∃ old,IsEnum h e it i old)/\h.IsListIter it a i) where
 mem:=by simp
 obj:=fun i h st b hb=>by
  obtain ⟨⟨old,he⟩,o,ho,c,d⟩:=st
  have hb':b=e ∨ b=it:=by simpa using hb
  rcases hb' with rfl | rfl
  ·exact ⟨_,he,fun v z=>by
    have z':Data.fields _=Data.cell v:=z
    cases z'⟩
  ·exact ⟨o,ho,fun v z=>by rw [d] at z;cases z⟩
 keep:=fun i h h' st k=>by
  obtain ⟨⟨old,he⟩,hi⟩:=st
  exact ⟨⟨old,k e (by simp) _ he⟩,hi.at fun o q=>k it (by simp) o q⟩
 item:=by
  intro X hP hw hK hc i pins s σ H E I hf st hg
  subst hP hw hK
  obtain ⟨⟨old,he⟩,hi⟩:=st
  obtain ⟨xs,x,hq,hx⟩:=hg
  obtain ⟨its,rv,p,hz⟩:=I.list hq
  obtain ⟨u,hu,ru⟩:=rv.get hx
  refine wpAny_pyNext_enum_item he hi p.isList (x:=u) (by simpa using hu) hne fun h1 out hi1 ht hsz kk=>?_
  refine ⟨_,rfl,wpAny_letOwnedTupleGo_enum out fun h2 he2 hs2=>?_⟩
  have hel:e < s.heap.objs.size:=Heap.lt_size he
  have hs2':Heap.SameBut e h1 h2:=hs2
  have ht2:h2.get? s.heap.objs.size=some { cls:=.type "tuple", data:=.seq #[.int i s.toks,u] }:=(hs2'.2 _ (Nat.ne_of_gt hel)).trans ht
  have kk2:∀ b o,b ∉ [e,it]->s.heap.get? b=some o->h2.get? b=some o:=fun b o hb q=>by
   have hbe:b ≠ e:=fun z=>hb (by simp [z])
   have hbi:b ≠ it:=fun z=>hb (by simp [z])
   exact (hs2'.2 b hbe).trans (kk b o hbe hbi q)
  have hn:H s.heap.objs.size=none:=I.hok.fresh (Nat.le_refl _)
  have I2:Inv X pins σ (upd H s.heap.objs.size (.tup [.int i,x])) { s with heap:=h2,toks:=s.toks+1 } :=
   I.turnedNew (fp:=[e,it]) hf kk2 (Nat.le_refl _) ⟨by show 2<=sizeLine;decide,[.int i s.toks,u],.cons ⟨_,rfl⟩ (.cons ru .nil),⟨_,ht2,rfl,_,rfl⟩⟩
  refine ⟨.ref s.heap.objs.size,_,I2,rfl,⟨_,x,hn,rfl,fun ys hy=>by rw [I.list_inj hy hq];exact hx,rfl⟩,⟨⟨u,?_⟩,?_⟩,fun b hb=>?_⟩
  ·have:=he2
   simpa using this
  ·have hi2:h2.IsListIter it a (i+1):=hi1.at fun o q=>(hs2'.2 it (Ne.symm hne)).trans q
   exact hi2
  ·have fr:=(hf b hb)
   have hlt:b < s.heap.objs.size:=by
    have hb':b=e ∨ b=it:=by simpa using hb
    rcases hb' with rfl | rfl
    ·exact hel
    ·obtain ⟨o,ho,_⟩:=hi;exact Heap.lt_size ho
   rw [zaJ (Nat.ne_of_lt hlt)]
   exact fr.1
 done:=by
  intro X hP hw hK hc i pins s σ H E I hf st hg
  subst hP hw hK
  obtain ⟨⟨old,he⟩,hi⟩:=st
  obtain ⟨xs,hq,hx⟩:=hg
  obtain ⟨its,rv,p,hz⟩:=I.list hq
  have hl:=rv.length
  exact wpAny_pyNext_enum_end (I.ok.hd hc) he hi p.isList (by simp;omega) fun h' eb=>⟨rfl,I.turnedL (t':=s.toks) hf fun b o hb q=>eb b o (fun z=>hb (by simp [z])) q⟩
 self:=fun _ _ _ _ _ st h=>by
  obtain ⟨⟨old,he⟩,_⟩:=st
  exact wpAny_pyIter_enum he h
section
variable {X:Cx}
def zpw (K:PySem.W.Frag) (ta:TA):TI:=fun σ H R=>ta σ H fun vs H1=>∃ a xs,vs=[.ref a]/\SqL K H1 a xs/\R (Ite K a) H1
theorem zmQ {a:Expr} {ta:TA} {p pos:Pos} {elts:List Expr} {x1} {tp:Pos} (hg:Gl X "enumerate") (hm:X.mg "enumerate" = none) (ha:PA X [a] ta)
  (hs:starEach [a] X.env=[(false,eval a X.env)]:=by rfl):PI X (.Tuple elts x1 tp) (.Call (.Name "enumerate" p) [a] [] pos) (zpw X.K ta):=by
 intro pins s σ H R I h
 refine Call_ (zec I hg hm boot_enumerate (PyProof.Rows.callWith_type1 (thn (ha pos pins s σ H _ I h) fun us s1 ⟨vs,H1,I1,r1,q1⟩=>?_) hs rfl))
 obtain ⟨l,xs,e,hq,q⟩:=q1
 subst e
 cases r1 with
 | cons r rr =>
  cases rr
  cases (show _=Value.ref l from r)
  obtain ⟨its,rv,pl,hz⟩:=I1.list hq
  refine call_enumerate_list pl.isList fun h' he hi hsz kk=>?_
  have I2:Inv X pins σ H1 { s1 with heap:=h' }:=I1.kept (t':=s1.toks) kk
  refine wpAny_pyIter_enum he ?_
  refine ⟨s1.heap.objs.size+1,[s1.heap.objs.size+1,s1.heap.objs.size],_,_,H1,rfl,I2,zjg l _ _ (Nat.succ_ne_self _),⟨⟨_,he⟩,hi⟩,fun b hb=>?_,q⟩
  have hb':b=s1.heap.objs.size+1 ∨ b=s1.heap.objs.size:=by simpa using hb
  rcases hb' with rfl | rfl
  ·exact I1.fpOk (Nat.le_succ _) (I1.hok.fresh (Nat.le_succ _))
  ·exact I1.fpOk (Nat.le_refl _) (I1.hok.fresh (Nat.le_refl _))
end
section
variable {κ : Type} [DecidableEq κ]
def valV (kvs:List (κ × V)) (k : κ):Option V:=(kvs.find? fun kv=>decide (kv.1=k)).map (·.2)
def putK (kvs:List (κ × V)) (k : κ) (v:V):List (κ × V) :=
 if (kvs.any fun kv=>decide (kv.1=k))=true then kvs.map (fun kv=>if kv.1=k then (kv.1,v) else kv) else kvs ++ [(k,v)]
theorem zfc {p : κ × V} {r:List (κ × V)} {k : κ} (e:p.1=k):valV (p :: r) k=some p.2:=by simp [valV,List.find?_cons,e]
theorem zd6 {p : κ × V} {r:List (κ × V)} {k : κ} (e : ¬ p.1=k):valV (p :: r) k=valV r k:=by simp [valV,List.find?_cons,e]
theorem zfd (k : κ):∀ kvs:List (κ × V),(kvs.any fun kv=>decide (kv.1=k))=(valV kvs k).isSome
 | []=>rfl
 | p :: r=>by
  rw [List.any_cons]
  by_cases e:p.1=k
  ·simp only [zfc e,decide_eq_true e,Bool.true_or,Option.isSome_some]
  ·rw [zd6 e,decide_eq_false e,Bool.false_or];exact zfd k r
theorem zeg (kvs:List (κ × V)) (k : κ) (v:V):(putK kvs k v).length<=kvs.length+1:=by
 unfold putK
 split
 ·rw [List.length_map];omega
 ·rw [List.length_append,List.length_cons,List.length_nil];omega
theorem zlc {kvs:List (κ × V)} {k : κ} (v:V) (h:valV kvs k=none):putK kvs k v=kvs ++ [(k,v)]:=by
 unfold putK
 rw [zfd,h]
 exact if_neg (by decide)
theorem RelO.isSome_eq {o:Option V} {u:Option Value} (r:RelO o u):o.isSome=u.isSome:=by
 cases o with
 | none=>cases u with
  | none=>rfl
  | some _=>exact (show False from r).elim
 | some _=>cases u with
  | none=>exact (show False from r).elim
  | some _=>rfl
theorem KV.any {kvs:List (κ × V)} {vs:List (κ × Value)} (r:KV kvs vs) (k : κ):(kvs.any fun kv=>decide (kv.1=k))=vs.any fun kv=>decide (kv.1=k):=by
 unfold KV at r
 induction r with
 | nil=>rfl
 | cons h t ih=>rw [List.any_cons,List.any_cons,ih,h.1]
theorem KV.repl {kvs:List (κ × V)} {vs:List (κ × Value)} (r:KV kvs vs) (k : κ) {y:V} {u:Value} (ry:RelV y u) :
  KV (kvs.map fun kv=>if kv.1=k then (kv.1,y) else kv) (vs.map fun kv=>if kv.1=k then (kv.1,u) else kv):=by
 unfold KV at r ⊢
 induction r with
 | nil=>exact .nil
 | @cons p q ps qs h t ih =>
  rw [List.map_cons,List.map_cons]
  refine .cons ?_ ih
  obtain ⟨h1,h2⟩:=h
  by_cases e:p.1=k
  ·rw [if_pos e,if_pos (h1.symm.trans e)];exact ⟨h1,ry⟩
  ·rw [if_neg e,if_neg (fun z=>e (h1.trans z))];exact ⟨h1,h2⟩
theorem KV.put {kvs:List (κ × V)} {vs:List (κ × Value)} (r:KV kvs vs) (k : κ) {y:V} {u:Value} (ry:RelV y u):KV (putK kvs k y) (stored vs k u):=by
 unfold putK stored
 rw [r.any k]
 by_cases e:(vs.any fun kv=>decide (kv.1=k))=true
 ·rw [if_pos e,if_pos e];exact r.repl k ry
 ·rw [if_neg e,if_neg e];exact Paired.snoc r ⟨rfl,ry⟩
theorem KV.length {kvs:List (κ × V)} {vs:List (κ × Value)} (r:KV kvs vs):kvs.length=vs.length:=Paired.length r
end
theorem zoc {P:Program} {w:World} {k:Key} {u:Value} (r:RelV (kV k) u):(zbR P w).is k u=true:=by
 cases k with
 | inl i=>obtain ⟨t,e⟩:=(show ∃ t,u=Value.int i t from r);subst e;exact zgK P w i t
 | inr x=>obtain ⟨t,e⟩:=(show ∃ t,u=Value.str x t from r);subst e;exact zgL P w x t
theorem zeh {P:Program} {w:World}:∀ {ks:List Key} {us:List Value},Vals (ks.map kV) us->ItemsAre (zbR P w) ks us
 | [],_,r=>by rw [List.map_nil] at r;cases r;exact .nil
 | k :: ks,_,r=>by
  rw [List.map_cons] at r
  cases r with
  | cons h t=>exact .cons (zoc h) (zeh t)
abbrev KT (H:Hp):List (List Key × V)->List (List Key × Addr × Value)->Prop:=Paired fun p q=>p.1=q.1/\H q.2.1=some (.tup (p.1.map kV))/\RelV p.2 q.2.2
theorem KT.val {H:Hp} {kvs:List (List Key × V)} {xs:List (List Key × Addr × Value)} (r:KT H kvs xs) (k:List Key):RelO (valV kvs k) ((atKey xs k).map (·.2)):=by
 induction r with
 | nil=>exact True.intro
 | @cons p q ps qs h t ih =>
  obtain ⟨h1,_,h2⟩:=h
  by_cases e:p.1=k
  ·have e':q.1=k:=h1.symm.trans e
   have b:atKey (q :: qs) k=some q.2:=by simp [atKey,List.find?_cons,e']
   rw [zfc e,b];exact h2
  ·have e' : ¬ q.1=k:=fun z=>e (h1.trans z)
   have b:atKey (q :: qs) k=atKey qs k:=by simp [atKey,List.find?_cons,e']
   rw [zd6 e,b];exact ih
theorem KT.repl {H:Hp} {kvs:List (List Key × V)} {xs:List (List Key × Addr × Value)} (r:KT H kvs xs) (k:List Key) {y:V} {u:Value} (ry:RelV y u) :
  KT H (kvs.map fun kv=>if kv.1=k then (kv.1,y) else kv) (xs.map (putAt k u)):=by
 induction r with
 | nil=>exact .nil
 | @cons p q ps qs h t ih =>
  rw [List.map_cons,List.map_cons]
  refine .cons ?_ ih
  obtain ⟨h1,h2,h3⟩:=h
  unfold putAt
  by_cases e:p.1=k
  ·rw [if_pos e,if_pos (h1.symm.trans e)];exact ⟨h1,h2,ry⟩
  ·rw [if_neg e,if_neg (fun z=>e (h1.trans z))];exact ⟨h1,h2,h3⟩
theorem KT.put {H:Hp} {kvs:List (List Key × V)} {xs:List (List Key × Addr × Value)} (r:KT H kvs xs) (k:List Key) {b:Addr} {y:V} {u:Value} (hb:H b=some (.tup (k.map kV))) (ry:RelV y u) :
  KT H (putK kvs k y) (storedH xs k b u):=by
 have e:(kvs.any fun kv=>decide (kv.1=k))=(atKey xs k).isSome:=by
  rw [zfd,(r.val k).isSome_eq,Option.isSome_map]
 unfold putK storedH
 rw [e]
 by_cases q:(atKey xs k).isSome=true
 ·rw [if_pos q,if_pos q];exact r.repl k ry
 ·rw [if_neg q,if_neg q];exact Paired.snoc r ⟨rfl,hb,ry⟩
theorem KT.keeps {H H':Hp} {kvs:List (List Key × V)} {xs:List (List Key × Addr × Value)} (r:KT H kvs xs) (ht:∀ b ys,H b=some (.tup ys)->H' b=some (.tup ys)):KT H' kvs xs :=
 Paired.mapP r fun _ _ z=>⟨z.1,ht _ _ z.2.1,z.2.2⟩
section
variable {P:Program} {w:World} {H:Hp} {h:Heap} {a:Addr}
theorem zod {u:HO} (ok:HOk P w H h) (e:Rd H a u):zbJ P w H h a u:=e.ok ok
theorem zpx {kvs:List (Key × V)} (ok:HOk P w H h) (e:Rd H a (.dK kvs)):kvs.length<=sizeLine/\(a == sysModules)=false/\∃ vs,KV kvs vs/\h.DictOf (zbR P w) a vs :=
 show zbJ P w H h a (.dK kvs) from zod ok e
theorem zpy {kvs:List (Key × V)} (ok:HOk P w H h) (e:H a=some (.dK kvs)):kvs.length<=sizeLine/\(a == sysModules)=false/\∃ vs,KV kvs vs/\h.DictOf (zbR P w) a vs:=zpx ok (.inl e)
theorem zmg {ks:List Key} (ok:HOk P w H h) (e:H a=some (.tup (ks.map kV))):(tupleKind (zbR P w)).is h ks a:=by
 obtain ⟨_,its,r,o,h1,h2,n,h3⟩:=(show zbJ P w H h a (.tup (ks.map kV)) from ok a _ e)
 exact ⟨o,its.toArray,n,h1,h2,h3,by simpa using zeh r⟩
theorem zoe {kvs:List (List Key × V)} (ok:HOk P w H h) (e:Rd H a (.dT kvs)):kvs.length<=sizeLine/\(a == sysModules)=false /\
  ∃ xs,KT H kvs xs/\h.DictOfH (tupleKind (zbR P w)) a xs:=by
 obtain ⟨z,y,xs,r,o,es,ep,h1,h2,h3,h4,h5⟩:=(show zbJ P w H h a (.dT kvs) from zod ok e)
 refine ⟨z,y,xs,r,o,es,ep,h1,h2,h3,h4,fun x hx=>?_,h5⟩
 have all:∀ {l:List (List Key × V)} {m:List (List Key × Addr × Value)},KT H l m->∀ x ∈ m,(tupleKind (zbR P w)).is h x.1 x.2.1:=by
  intro l m q
  induction q with
  | nil=>intro x hx;exact nomatch hx
  | @cons p q ps qs hq t ih =>
   intro x hx
   rcases List.mem_cons.mp hx with e | hx
   ·subst e
    exact zmg ok (by rw [← hq.1];exact hq.2.1)
   ·exact ih x hx
 exact all r x hx
theorem zpz {kvs:List (List Key × V)} (ok:HOk P w H h) (e:H a=some (.dT kvs)):kvs.length<=sizeLine/\(a == sysModules)=false /\
  ∃ xs,KT H kvs xs/\h.DictOfH (tupleKind (zbR P w)) a xs:=zoe ok (.inl e)
end
def DPut (H:Hp) (a:Addr) (y v:V) (H':Hp):Prop :=
 (∃ kvs k,H a=some (.dK kvs)/\y=kV k/\kvs.length < sizeLine/\H'=upd H a (.dK (putK kvs k v))) ∨
 ∃ kvs k b,H a=some (.dT kvs)/\y=.ref b/\H b=some (.tup (k.map kV))/\kvs.length < sizeLine/\H'=upd H a (.dT (putK kvs k v))
theorem DPut.t {H:Hp} {a b:Addr} {kvs:List (List Key × V)} {k:List Key} {v:V} (e:H a=some (.dT kvs)) (eb:H b=some (.tup (k.map kV))) (hl:kvs.length < sizeLine) :
  DPut H a (.ref b) v (upd H a (.dT (putK kvs k v))):=.inr ⟨kvs,k,b,e,rfl,eb,hl,rfl⟩
section
variable {X:Cx} {pins:List (Addr × Obj)} {σ : St} {H:Hp} {s:Shared} {a:Addr} {y v:V} {u r:Value} {o:Option V} {A:Around} {E:Value->Shared->Prop}
theorem Inv.big (I:Inv X pins σ H s):sysModules < s.heap.objs.size:=by
 have h:mainGlobals < s.heap.objs.size:=(I.mod.glob.keeps I.bk).lt
 exact Nat.lt_trans (by decide) h
theorem zgS {h':Heap} {t':Nat} {ob:HO} (I:Inv X pins σ H s) (mu:Mut (H a)) (hs:Heap.SameBut a s.heap h') (he:∃ q,h'.get? a=some q) (new:zbJ X.prog X.w (upd H a ob) h' a ob) :
  Inv X pins σ (upd H a ob) { s with heap:=h',toks:=t' } :=
 I.write (x:=a) (e:=a) mu (.inl rfl) (fun b q hb z=>(hs.2 b hb).trans z) he new
theorem zof {P:Program} {w:World} {H':Hp} {h':Heap} {kvs:List (Key × V)} {vs:List (Key × Value)} (z:kvs.length<=sizeLine) (hd:(a == sysModules)=false) (rel:KV kvs vs) (dd:h'.DictOf (zbR P w) a vs) :
  zbJ P w H' h' a (.dK kvs):=⟨z,hd,vs,rel,dd⟩
theorem zjh {H':Hp} {Q:Unit->Shared->Prop} (hu:A.units+1 < cLine) (I:Inv X pins σ H s) (g:DPut H a y v H') (ry:RelV y u) (rv:RelV v r) (h:∀ s',Inv X pins σ H' s'->Q () s') :
  wpAny (model X.prog X.w) A (setItem (.ref a) u r) Q E s:=by
 rcases g with ⟨kvs,k,e,ey,l,eH⟩ | ⟨kvs,k,b,e,ey,eb,l,eH⟩
 ·subst ey eH
  obtain ⟨z,hd,vs,rel,dd⟩:=zpy I.hok e
  have hz:vs.length<=sizeLine:=by rw [← rel.length];exact z
  have hl:(putK kvs k v).length<=sizeLine:=by have:=zeg kvs k v;omega
  refine wpAny_setItem_pairs (hsz:=hz) (zoc ry) dd fun h' dd' hs=>h _ ?_
  have he:∃ q,h'.get? a=some q:=let ⟨q,_,_,hq,_⟩:=dd';⟨q,hq⟩
  exact zgS I (by rw [e];exact True.intro) hs he (zof hl hd (rel.put k rv) dd')
 ·subst ey eH
  cases (show u=Value.ref b from ry)
  obtain ⟨z,hd,xs,rel,dd⟩:=zpz I.hok e
  have hz:xs.length<=sizeLine:=by rw [← Paired.length rel];exact z
  have hl:(putK kvs k v).length<=sizeLine:=by have:=zeg kvs k v;omega
  refine wpAny_setItem_heap (hsz:=hz) (tupleKind_room_in1 hu) (zmg I.hok eb) dd fun h' dd' hs=>h _ ?_
  obtain ⟨q,es,ep,hq,h2,h3,h4,_,h5⟩:=dd'
  refine zgS I (by rw [e];exact True.intro) hs ⟨q,hq⟩ ⟨hl,hd,_,(rel.put k eb rv).keeps fun c ys ec=>?_,q,es,ep,hq,h2,h3,h4,h5⟩
  rw [zaJ (znL ec e (fun z=>nomatch z))]
  exact ec
end
section
variable {X:Cx} {pins:List (Addr × Obj)} {σ : St} {H:Hp} {s:Shared} {a:Addr} {kvs:List (Key × V)} {k:Key} {u:Value} {A:Around} {E:Value->Shared->Prop}
end
def NoSl (i:Expr):Prop:=∀ ov iv,subscripted i false ov iv=operate [ov,iv] (getItem ov iv)
theorem zmR {prog:Program} {w:World} {A:Around} {E:Value->Shared->Prop} {s:Shared} {env:Env} {value slice:Expr} {pos:Pos} {T id:String} {Q:Value->Shared->Prop}
  (hl:typeLookup (.type T) "__getitem__" = pure (some (.builtin id))) (hs:NoSl slice)
  (h:wpAny (model prog w) A (eval value env) (fun o s₁=>wpAny (model prog w) A (eval slice env) (fun i s₂=>s₂.TypeIs o T/\wpAny (model prog w) A (getItem o i) Q E s₂) E s₁) E s) :
  wpAny (model prog w) A (eval (.Subscript value slice pos) env) Q E s:=by
 refine Subscript_ (wpAny_mono h (fun o s₁ h₁=>wpAny_mono h₁ (fun i s₂ h₂=>?_) fun _ _ x=>x) fun _ _ x=>x)
 obtain ⟨hT,h₂⟩:=h₂
 unfold subscriptTail
 refine wpAny_bind ?_
 rw [getitemInPython_of_ne hT.not_modules]
 refine wpAny_bind (wpAny_specialOf hT hl ?_)
 have fin:wpAny (model prog w) A (subscripted slice false o i) (fun r s₃=>wpAny (model prog w) A (letTemporaryGo value o r >>= fun _=>pure r) Q E s₃) E s₂:=by
  rw [hs o i]
  exact wpAny_operating (wpAny_mono h₂ (fun r s₃ h₃=>wpAny_bind (wpAny_letTemporaryGo (wpAny_pure h₃))) fun _ _ x=>x)
 first
  | exact wpAny_pure (wpAny_bind fin)
  | exact wpAny_bind (wpAny_pure (wpAny_bind fin))
  | exact wpAny_bind fin
def zpA (td ty tv:TE):TS:=fun D σ H=>tv σ H fun v H1=>td σ H1 fun x H2=>ty σ H2 fun y H3=>∃ a H4,x=.ref a/\DPut H3 a y v H4/\D.nx σ H4
section
variable {X:Cx} {o i e value:Expr} {pos pos' tpos:Pos} {td ty tv:TE}
theorem zmS (hu:X.A.units+1 < cLine) (ho:PE X o td) (hi:PE X i ty) (hv:PE X value tv) (hs:swapsWith value (some (.Subscript o i pos')) pos.line X.env=pure false) :
  PS X (.Assign [.Subscript o i pos'] value pos) (zpA td ty tv):=by
 intro pins s σ H D I h
 refine wpAny_Assign_Subscript (thn (hv pins s σ H _ I h) fun r s1 ⟨v,H1,I1,rv,q1⟩=>thn (ho pins s1 σ H1 _ I1 q1) fun u s2 ⟨x,H2,I2,rx,q2⟩=>thn (hi pins s2 σ H2 _ I2 q2) fun iv s3 ⟨y,H3,I3,ry,a,H4,ex,g,q3⟩=>?_) hs
 subst ex
 obtain rfl:u=Value.ref a:=rx
 exact zjh hu I3 g ry rv fun s4 I4=>⟨σ,H4,I4,q3⟩
end
theorem zld {P:Program} {w:World} {H:Hp} (h:Heap) (hb:sysModules < h.objs.size):zbJ P w H (h.push { cls:=.type "dict", data:=.dict #[] }) h.objs.size (.dT []) :=
 ⟨Nat.zero_le _,beq_eq_false_iff_ne.mpr (Ne.symm (Nat.ne_of_lt hb)),[],.nil,_,#[],0,Heap.get?_push_size _ rfl,⟨rfl,rfl,rfl⟩,rfl,rfl,List.nodup_nil⟩
def zog:TE:=fun _ H Q=>∀ p,H p=none->Q (.ref p) (upd H p (.dT []))
section
variable {X:Cx} {pos:Pos}
theorem zle:PE X (.Dict [] [] pos) zog:=fun pins s σ H Q I h =>
 wpAny_Dict_empty ⟨.ref s.heap.objs.size,_,I.laid (a:=s.heap.objs.size) (o:=.dT []) (t':=s.toks) (fun _ _ q=>Heap.get?_push_of_some _ q) (Nat.le_refl _) (zld s.heap I.big),rfl,h _ (I.hok.fresh (Nat.le_refl _))⟩
end
end L2
namespace L2
open PySem PySem.Spec
def Tail (bmB bm:List Value):Prop:=∀ (X:String) (b:Bool),bmB.contains (.type X)=b->bm.contains (.type X)=b
section
variable {prog:Program} {w:World} {A:Around} {E:Value->Shared->Prop} {h:Heap} {g:Array GenState} {d:Drawn} {t:Nat} {os:OsState} {R:Result->Shared->Prop}
variable {nm q:Str} {C N:Addr} {bs bm bmB:List Value} {hdct:Bool} {sn:List Str} {sub:List Value} {ab:Bool} {col:Option Bool} {dd:Option Addr} {k0 k1 k2 k3 k5:Option Value} {B newId initId:String}
end
def zcp (M:Model) (C:Addr) (name:Str) (r:Option Value) (h:Heap):Prop:=∀ (A:Around) (E:Value->Shared->Prop) (Q:Option Value->Shared->Prop) (h':Heap) (g:Array GenState) (d:Drawn) (t:Nat) (os:OsState),
 (∀ b o,h.get? b=some o->h'.get? b=some o)->Q r ⟨h',g,d,t,os⟩->wpAny M A (typeLookup (.ref C) name) Q E ⟨h',g,d,t,os⟩
theorem zcp.keeps {M:Model} {C:Addr} {name:Str} {r:Option Value} {h h':Heap} (x:zcp M C name r h) (k:∀ b o,h.get? b=some o->h'.get? b=some o):zcp M C name r h' :=
 fun A E Q h2 g d t os k2 q=>x A E Q h2 g d t os (fun b o e=>k2 b o (k b o e)) q
theorem zcp.at {M:Model} {A:Around} {E:Value->Shared->Prop} {Q:Option Value->Shared->Prop} {C:Addr} {name:Str} {r:Option Value} {h:Heap} {g:Array GenState} {d:Drawn} {t:Nat} {os:OsState} (x:zcp M C name r h) (q:Q r ⟨h,g,d,t,os⟩):wpAny M A (typeLookup (.ref C) name) Q E ⟨h,g,d,t,os⟩ :=
 x A E Q h g d t os (fun _ _ e=>e) q
section
variable {prog:Program} {w:World} {A:Around} {E:Value->Shared->Prop} {h:Heap} {g:Array GenState} {d:Drawn} {t:Nat} {os:OsState} {R:Result->Shared->Prop}
variable {nm q:Str} {C N x:Addr} {bs bm bmB:List Value} {hdct:Bool} {sn:List Str} {sub:List Value} {ab:Bool} {col:Option Bool} {dd:Option Addr} {k0 k1 k2 k3 k5:Option Value} {B newId sa owner:String} {mN mA:Str->Option Value} {name:Str} {v:Value}
theorem zji {M:Model} {o:Obj} {nameV:Value} {Q:Unit->Shared->Prop} (T:Tail bmB bm) (hb:bmB.contains (.type "BaseException")=true) (hC:h.get? C=some (excClassObj nm q C N bs bm hdct sn sub ab col dd k0 k1 k2 k3 k5 newId))
  (hx:h.get? x=some o) (hc:o.cls=.ref C) (hq:Q () ⟨h,g,d,t,os⟩):wpAny M A (checkBuiltinCall "BaseException.__getattribute__" ⟨[.ref x,nameV],[]⟩) Q E ⟨h,g,d,t,os⟩:=by
 have hk:builtinKind "BaseException.__getattribute__" = some .slot:=by decide +kernel
 have hsplit:splitId "BaseException.__getattribute__" = some ("BaseException", "__getattribute__"):=by decide +kernel
 have hcB:(Value.ref C :: bm).contains (.type "BaseException")=true:=by rw [List.contains_cons,T _ _ hb];rfl
 have ha:=PySem.F.args_bexc_ga (.ref x) nameV
 simp only [checkBuiltinCall,hk,hsplit]
 refine wpAny_bind ?_
 ·unfold isInstance
  repeat (first | (with_reducible refine wpAny_loadPart_at hx ?_;rw [hc]) | (with_reducible refine wpAny_isSubtype_exc hC ?_;rw [hcB]) | wp_step)
  exact hq
end
section
variable {M:Model} {A:Around} {E:Value->Shared->Prop} {s:Shared} {base:Heap} {env:Env} {outer:List Env} {L e:Addr}
end
end L2
namespace L2
open PySem PySem.Spec PyProof.Rows PySem.Calls PyProof.V
def XO (fr:Bool) (e C:Addr) (dd:Option Addr):Heap->Prop:=fun h=>∃ vs sl,h.get? e=some { cls:=.ref C,dict:=dd,data:=.fields vs,slots:=sl }/\(fr=true->vs[1]?=some .none/\∃ t0,vs[0]?=some (.ref t0))
section
variable {X:Cx} {pins:List (Addr × Obj)} {σ : St} {H:Hp} {s:Shared} {e C:Addr} {dd:Option Addr} {h':Heap}
end
abbrev VB:List Value:=[.type "ValueError", .type "Exception", .type "BaseException", .type "object"]
structure XCls (M:Model) (base:Heap) (C:Addr) (bm:List Value) (fI:Addr):Prop where
 obj:∃ nm q N bs sn sub ab col dd k0 k1 k2 k3 k5,base.get? C=some (excClassObj nm q C N bs bm true sn sub ab col dd k0 k1 k2 k3 k5 "ValueError.__new__")
 tail:Tail VB bm
 init:zcp M C "__init__" (some (.ref fI)) base
 fn:∃ o,base.get? fI=some o/\o.cls=.type "function"
 sa:zcp M C "__setattr__" (some (.builtin "object.__setattr__")) base
 ga:zcp M C "__getattribute__" (some (.builtin "BaseException.__getattribute__")) base
 gh:zcp M C "__getattr__" none base
 cl:zcp M C "__class__" (some (.builtin "object.__class__")) base
 pass:∀ v,refuseLoop v "__setattr__" bm=pure ()
section
variable {X:Cx} {k:Nat} {f C:Addr} {fd:FuncData} {ps:List Str} {sp:Sp} {x:Str} {p pos cpos:Pos} {e:Expr} {es:List Expr} {t:TA} {bm:List Value}
end
section
variable {M:Model} {A:Around} {E:Value->Shared->Prop} {h:Heap} {g:Array GenState} {d:Drawn} {t:Nat} {os:OsState}
variable {nm q nm' q':Str} {C N D N' a:Addr} {bs bm bs' bm':List Value} {hdct hdct':Bool} {sn sn':List Str} {sub sub':List Value} {ab ab':Bool} {col col':Option Bool} {dd dd':Option Addr} {k0 k1 k2 k3 k5 j0 j1 j2 j3 j5:Option Value} {newId newId':String}
end
section
variable {X:Cx} {k:Nat} {f:Addr} {fd:FuncData} {ps:List Str} {sp:Sp} {x n:Str} {p pos np hpos:Pos} {e:Expr} {es:List Expr} {t:TA} {KX:V->St->Hp->Prop}
end
section
variable {prog:Program} {w:World} {A:Around} {E:Value->Shared->Prop} {h:Heap} {g:Array GenState} {d:Drawn} {t:Nat} {os:OsState}
variable {nm q:Str} {C N a:Addr} {bs bm bmB:List Value} {hdct:Bool} {sn:List Str} {sub:List Value} {ab:Bool} {col:Option Bool} {dd:Option Addr} {k0 k1 k2 k3 k5:Option Value} {B newId initId nid:String}
end
section
variable {X:Cx} {k:Nat} {f D:Addr} {fd:FuncData} {ps:List Str} {sp:Sp} {x:Str} {p pos apos:Pos} {e:Expr} {es:List Expr} {t:TA}
end
section
variable {X:Cx} {k:Nat} {f D:Addr} {fd:FuncData} {ps:List Str} {sp:Sp} {x m:Str} {p pos apos:Pos} {e:Expr} {es:List Expr} {t:TA}
end
def XD (dx:Addr) (fs:List (Str × V)):Heap->Prop:=fun h=>∃ mA,h.Ns1 dx mA/\h.ExactDictFk dx/\(∀ f,RelO (fs.lookup f) (mA f))/\PySem.Within mA (fs.map (·.1))
section
variable {X:Cx} {pins:List (Addr × Obj)} {σ : St} {H:Hp} {s:Shared} {a C dx:Addr} {h':Heap} {t':Nat}
end
section
variable {X:Cx} {o value:Expr} {f:Str} {pos pos':Pos} {ta tv:TE} {KC:Addr->List Value->Prop}
end
section
variable {X:Cx} {value:Expr} {te:TE} {pos:Pos}
end
section
variable {X:Cx} {e:Expr} {f:Str} {pos:Pos} {ta:TE} {KC:Addr->List Value->Prop}
end
end L2
namespace L2
open PySem PySem.Spec
section
variable {prog:Program} {w:World} {A:Around} {E:Value->Shared->Prop} {h:Heap} {g:Array GenState} {d:Drawn} {t:Nat} {os:OsState} {R:Result->Shared->Prop}
variable {nm q:Str} {C N a:Addr} {bs bm bmB:List Value} {hdct:Bool} {sn:List Str} {sub:List Value} {ab:Bool} {col:Option Bool} {dd:Option Addr} {k0 k1 k2 k3 k5:Option Value} {newId:String} {o:Obj}
theorem zih (T:Tail bmB bm) (ho:bmB.contains (.type "object")=true) (hC:h.get? C=some (excClassObj nm q C N bs bm hdct sn sub ab col dd k0 k1 k2 k3 k5 newId)) (hx:h.get? a=some o) (hc:o.cls=.ref C) (hq:R (.ok (.ret (.ref C))) ⟨h,g,d,t,os⟩) :
  codeAny (model prog w) A (.call (.builtin "getset_descriptor.__get__") ⟨[.builtin "object.__class__", .ref a,.ref C],[]⟩) R ⟨h,g,d,t,os⟩:=by
 have hT5:(⟨h,g,d,t,os⟩:Shared).TypeIs (.builtin "object.__class__") "getset_descriptor" := PySem.F.typeOf_object_class
 have hcB:(Value.ref C :: bm).contains (.type (".".intercalate ("object.__class__".cutAt '.').dropLast))=true:=by
  rw [PySem.F.owner_object_class,List.contains_cons,T _ _ ho];rfl
 refine codeAny_call_builtin PySem.F.slot_gs_get.plain PySem.F.entry_gs_get (PySem.F.slot_gs_get.check _ _ _ _ _ _ _ _ hT5 (PySem.F.args_gs_get _ _ _) ?_)
 repeat (any_goals (first | assumption | (with_reducible refine wpAny_loadPart_at hx ?_;rw [hc]) | (with_reducible refine wpAny_isSubtype_exc hC ?_;rw [hcB]) | wp_step))
 refine ⟨Code.quiet_builtin _ (by decide +kernel),codeAny_builtin PySem.F.entry_object_class ?_⟩
 unfold Builtin.«object.__class__»
 repeat (any_goals (first | assumption | (with_reducible refine wpAny_loadPart_at hx ?_;rw [hc]) | wp_step))
theorem zfY {tk:Tok} {Q:PySem.Fin->Shared->Prop} (T:Tail bmB bm) (ho:bmB.contains (.type "object")=true) (hC:h.get? C=some (excClassObj nm q C N bs bm hdct sn sub ab col dd k0 k1 k2 k3 k5 newId)) (fc:zcp (model prog w) C "__class__" (some (.builtin "object.__class__")) h) (hx:h.get? a=some o) (hc:o.cls=.ref C) (hq:Q (.done (.ret (.ref C))) ⟨h,g,d,t,os⟩) :
  wpAny (model prog w) A (Builtin.«object.__getattribute__» ⟨[.ref a,.str "__class__" tk],[]⟩) Q E ⟨h,g,d,t,os⟩:=by
 have hT5:(⟨h,g,d,t,os⟩:Shared).TypeIs (.builtin "object.__class__") "getset_descriptor" := PySem.F.typeOf_object_class
 have f5:=PySem.F.typeOf_object_class
 have f6:=PySem.F.slot_gs_get.lookup
 have f7:=PySem.F.slot_gs_set.lookup
 repeat (any_goals (first | assumption | (with_reducible refine wpAny_loadPart_at hx ?_;rw [hc]) | with_reducible refine fc.at ?_ | wp_step))
 refine zih T ho hC hx hc ?_
 repeat (any_goals (first | assumption | wp_step))
theorem zei {Q:Option Value->Shared->Prop} (FB:ExcAttrFacts "ValueError") (T:Tail VB bm) (hC:h.get? C=some (excClassObj nm q C N bs bm hdct sn sub ab col dd k0 k1 k2 k3 k5 newId)) (fc:zcp (model prog w) C "__class__" (some (.builtin "object.__class__")) h)
  (fg:zcp (model prog w) C "__getattribute__" (some (.builtin "BaseException.__getattribute__")) h) (fa:zcp (model prog w) C "__getattr__" none h) (hx:h.get? a=some o) (hc:o.cls=.ref C) (hq:Q (some (.ref C)) ⟨h,g,d,t+1,os⟩) :
  wpAny (model prog w) A (getAttr? (.ref a) "__class__") Q E ⟨h,g,d,t,os⟩:=by
 have f3:=FB.ga.bind (.ref a)
 have hx0:(false && onTheHeap (Value.builtin "BaseException.__getattribute__"))=false:=rfl
 have hx2:(Value.builtin "BaseException.__getattribute__" == Value.builtin "object.__getattribute__")=false:=by decide +kernel
 have hx1:(onTheHeap (Value.ref C) && Value.builtin "BaseException.__getattribute__" == Value.builtin "object.__getattribute__")=false:=by rw [hx2];rfl
 unfold getAttr? getAttrBy?
 refine wpAny_bind (wpAny_mkText (wpAny_bind (wpAny_attempt ?_)))
 repeat (any_goals (first | assumption | (with_reducible refine wpAny_loadPart_at hx ?_;rw [hc]) | with_reducible refine fg.at ?_ | with_reducible refine fa.at ?_ | wp_step))
 refine codeAny_call_builtin FB.ga.plain PySem.F.entry_bexc_ga (zji T rfl hC hx hc (zfY T rfl hC fc hx hc ?_))
 repeat (any_goals (first | assumption | wp_step))
end
end L2
namespace L2
open PySem PySem.Spec PyProof.Rows
section
variable {prog:Program} {w:World} {A:Around} {E:Value->Shared->Prop} {h:Heap} {g:Array GenState} {d:Drawn} {t:Nat} {os:OsState}
variable {nm q nm' q':Str} {C N D N' a:Addr} {bs bm bs' bm':List Value} {hdct hdct':Bool} {sn sn':List Str} {sub sub':List Value} {ab ab':Bool} {col col':Option Bool} {dd dd':Option Addr} {k0 k1 k2 k3 k5 j0 j1 j2 j3 j5:Option Value} {newId newId':String} {o:Obj} {b:Bool}
theorem zmT {Q:Value->Shared->Prop} (T:Tail VB bm) (hC:h.get? C=some (excClassObj nm q C N bs bm hdct sn sub ab col dd k0 k1 k2 k3 k5 newId)) (hD:h.get? D=some (excClassObj nm' q' D N' bs' bm' hdct' sn' sub' ab' col' dd' j0 j1 j2 j3 j5 newId'))
  (fc:zcp (model prog w) C "__class__" (some (.builtin "object.__class__")) h) (fg:zcp (model prog w) C "__getattribute__" (some (.builtin "BaseException.__getattribute__")) h) (fa:zcp (model prog w) C "__getattr__" none h)
  (hx:h.get? a=some o) (hc:o.cls=.ref C) (hb:(Value.ref C :: bm).contains (.ref D)=b) (hq:∀ tk,Q (.bool b) ⟨h,g,d,tk,os⟩):wpAny (model prog w) A (call (.builtin "isinstance") [.ref a,.ref D]) Q E ⟨h,g,d,t,os⟩:=by
 have hT:(⟨h,g,d,t,os⟩:Shared).TypeIs (.ref D) "type" := ⟨_,hD,rfl⟩
 have f2:=tc_sub
 refine call_isinstance_of ?_ (fun z=>nomatch z)
 unfold Builtin.«isinstance.nested»
 refine wpAny_bind ?_
 unfold typeOf
 refine wpAny_bind (wpAny_loadPart_at hx (wpAny_pure ?_))
 rw [hc]
 by_cases e:C=D
 ·subst e
  have hb1:b=true:=by rw [← hb];simp
  subst hb1
  rw [if_pos (by simp)]
  exact wpAny_bind (wpAny_rule (wpAny_pure (hq t)))
 ·rw [if_neg (by simp [e])]
  refine wpAny_bind (wpAny_bind (wpAny_loadPart_at hD (wpAny_pure ?_)))
  rw [if_pos (show (Value.type "type" == Value.type "type")=true by decide)]
  k_delta "plainIsInstance"
  unfold isType isInstance
  repeat (first | (with_reducible refine wpAny_loadPart_at hx ?_;rw [hc]) | with_reducible refine wpAny_loadPart_at hD ?_ | with_reducible refine wpAny_loadPart_at hC ?_ | (with_reducible refine wpAny_isSubtype_exc hC ?_;rw [hb]) | wp_step)
  cases b with
  | true=>wp_walk;exact hq t
  | false =>
   rw [if_neg (by decide)]
   refine wpAny_bind (zei PySem.F.excAttr_ValueError T hC fc fg fa hx hc ?_)
   repeat (first | with_reducible refine wpAny_loadPart_at hC ?_ | (with_reducible refine wpAny_isSubtype_exc hC ?_;rw [hb]) | wp_step)
   exact hq _
theorem zoh {Q:Value->Shared->Prop} {X:String} (T:Tail VB bm) (hC:h.get? C=some (excClassObj nm q C N bs bm hdct sn sub ab col dd k0 k1 k2 k3 k5 newId)) (hX:typeOf (.type X)=pure (.type "type"))
  (fc:zcp (model prog w) C "__class__" (some (.builtin "object.__class__")) h) (fg:zcp (model prog w) C "__getattribute__" (some (.builtin "BaseException.__getattribute__")) h) (fa:zcp (model prog w) C "__getattr__" none h)
  (hx:h.get? a=some o) (hc:o.cls=.ref C) (hb:(Value.ref C :: bm).contains (.type X)=b) (hq:∀ tk,Q (.bool b) ⟨h,g,d,tk,os⟩):wpAny (model prog w) A (call (.builtin "isinstance") [.ref a,.type X]) Q E ⟨h,g,d,t,os⟩:=by
 refine call_isinstance_of ?_ (fun z=>nomatch z)
 unfold Builtin.«isinstance.nested»
 refine wpAny_bind ?_
 have ty:∀ {M:Model} {A:Around} {Q:Value->Shared->Prop} {E:Value->Shared->Prop},Q (.ref C) ⟨h,g,d,t,os⟩->wpAny M A (typeOf (.ref a)) Q E ⟨h,g,d,t,os⟩:=fun q=>by
  unfold typeOf
  refine wpAny_bind (wpAny_loadPart_at hx (wpAny_pure ?_))
  rw [hc];exact q
 refine ty ?_
 rw [if_neg (by simp)]
 refine wpAny_bind (wpAny_of_eq hX ?_)
 rw [if_pos (show (Value.type "type" == Value.type "type")=true by decide)]
 k_delta "plainIsInstance"
 unfold isType isInstance
 repeat (first | (with_reducible refine wpAny_loadPart_at hx ?_;rw [hc]) | with_reducible refine wpAny_loadPart_at hC ?_ | (with_reducible refine wpAny_isSubtype_exc hC ?_;rw [hb]) | wp_step)
 cases b with
 | true=>wp_walk;exact hq t
 | false =>
  rw [if_neg (by decide)]
  refine wpAny_bind (zei PySem.F.excAttr_ValueError T hC fc fg fa hx hc ?_)
  repeat (first | with_reducible refine wpAny_loadPart_at hC ?_ | (with_reducible refine wpAny_isSubtype_exc hC ?_;rw [hb]) | wp_step)
  exact hq _
end
def rIsX (KC:Addr->List Value->Prop):List V->Hp->VK->Prop:=fun xs H Q=>∃ a C dd bm fr c b,xs=[.ref a,c]/\KC C bm/\H a=some (.ext (XO fr a C dd)) /\
 ((∃ D bm',c=.ref D/\KC D bm'/\(Value.ref C :: bm).contains (.ref D)=b) ∨ ∃ T,c=.ty T/\typeOf (.type T)=pure (.type "type")/\(Value.ref C :: bm).contains (.type T)=b)/\Q (.bl b) H
theorem zlf {X:Cx} {KC:Addr->List Value->Prop} (hcls:∀ C bm,KC C bm->∃ fI,XCls (model X.prog X.w) X.base C bm fI):zcJ X (.builtin "isinstance") (rIsX KC):=by
 rintro pins s σ H xs us Q I r ⟨a,C,dd,bm,fr,c,b,rfl,kc,hx,hD,q⟩
 cases r with
 | cons ra r =>
 cases r with
 | cons rc r =>
 cases r
 have ra':_=Value.ref a:=ra
 subst ra'
 obtain ⟨fI,XC⟩:=hcls C bm kc
 obtain ⟨nm,qn,N,bs,sn,sub,ab,col,dd1,k0,k1,k2,k3,k5,hC⟩:=XC.obj
 obtain ⟨⟨vs,sl,ga,_⟩,_,_⟩:=I.hok a _ hx
 obtain ⟨hp,g,d,tk,os⟩:=s
 rcases hD with ⟨D,bm',rfl,kd,hb⟩ | ⟨T,rfl,hT,hb⟩
 ·have rc':_=Value.ref D:=rc
  subst rc'
  obtain ⟨fI',XD'⟩:=hcls D bm' kd
  obtain ⟨nm',qn',N',bs',sn',sub',ab',col',dd2,j0,j1,j2,j3,j5,hD'⟩:=XD'.obj
  exact zmT XC.tail (I.bk _ _ hC) (I.bk _ _ hD') (XC.cl.keeps I.bk) (XC.ga.keeps I.bk) (XC.gh.keeps I.bk) ga rfl hb fun tk'=>⟨.bl b,H,I.tok tk',rfl,q⟩
 ·have rc':_=Value.type T:=rc
  subst rc'
  exact zoh XC.tail (I.bk _ _ hC) hT (XC.cl.keeps I.bk) (XC.ga.keeps I.bk) (XC.gh.keeps I.bk) ga rfl hb fun tk'=>⟨.bl b,H,I.tok tk',rfl,q⟩
def zpB (nm:Str):List Str:=if nm = "NoWishes" then ["part", "number"] else if nm = "NoAim" then ["part"] else if nm = "NoText" then ["row"] else []
def zoi (K:PySem.W.Frag) (nm:Str):Option Addr:=match PySem.W.nsIn K mainGlobals nm with | some (some (.ref C))=>some C | _=>none
def NmAt (K:PySem.W.Frag) (nm:Str) (C:Addr):Prop:=∃ o cd,K.lookup C=some o/\o.data=.cls cd/\cd.name=nm
structure ClsK (K:PySem.W.Frag) (nm:Str) (C:Addr) (bm:List Value):Prop where
 ad:zoi K nm=some C
 nmd:NmAt K nm C
 up:nm = "DealError" /\ bm=VB ∨ nm ≠ "DealError" /\ ∃ D,zoi K "DealError" = some D/\bm=.ref D :: VB/\NmAt K "DealError" D
 cls:∀ (M:Model) (h:Heap),K.In h->∃ fI,XCls M h C bm fI
 fld:∀ (M:Model) (h:Heap),K.In h->∀ f ∈ (["part", "number", "row"]:List Str),zcp M C f none h
def KC (K:PySem.W.Frag):Addr->List Value->Prop:=fun C bm=>∃ nm,ClsK K nm C bm
section
variable {K:PySem.W.Frag} {nm x:Str} {C D:Addr} {bm bm':List Value}
theorem ClsK.ty (c:ClsK K nm C bm) (T:String):(Value.ref C :: bm).contains (.type T)=VB.contains (.type T):=by
 rcases c.up with ⟨_,rfl⟩ | ⟨_,D',g,rfl,n⟩
 ·rfl
 ·rfl
end
section
variable {X:Cx} {e:Expr} {st:Stmt} {sts:List Stmt} {t:TE} {ts:TS}
theorem zpC (k:X.K.In X.base):∀ C bm,KC X.K C bm->∃ fI,XCls (model X.prog X.w) X.base C bm fI:=fun _ _ ⟨_,c⟩=>c.cls _ _ k
end
end L2
namespace DL
open PySem PySem.Spec L2
open PyProof.Rows hiding St
abbrev D:=PyData
abbrev XW:=V->St->Hp->Prop
abbrev KX0:XW:=fun _ _ _=>False
def XFs (G:Hp) (dd:Option Addr) (fs:List Str) (vs:List V):Prop:=match dd with
 | none=>fs=[]/\vs=[]
 | some dx=>fs.length=vs.length/\G dx=some (.ext (XD dx (fs.zip vs)))
theorem XFs.mono {G G1:Hp} {dd:Option Addr} {fs:List Str} {vs:List V} (e:Same G G1) (h:XFs G dd fs vs):XFs G1 dd fs vs:=by
 cases dd with
 | none=>exact h
 | some dx=>exact ⟨h.1,e _ _ h.2⟩
def kD:Key->D
 | .inl i=>.int i
 | .inr x=>.str x
def tkD (k:List Key):D:=.tuple (k.map kD)
def pdD (ks:List (List Key)) (ds:List D):List (D × D):=(.bool true,.none) :: (ks.map tkD).zip ds
mutual
inductive Rep (K:PySem.W.Frag) (G:Hp):V->D->Prop where
 | non:Rep K G .non .none
 | bl (b:Bool):Rep K G (.bl b) (.bool b)
 | int (i:Int):Rep K G (.int i) (.int i)
 | str (x:Str):Rep K G (.str x) (.str x)
 | lst {a:Addr} {vs:List V} {ds:List D} (h:SqL K G a vs) (r:Reps K G vs ds):Rep K G (.ref a) (.list ds)
 | tup {a:Addr} {vs:List V} {ds:List D} (h:SqT K G a vs) (r:Reps K G vs ds):Rep K G (.ref a) (.tuple ds)
 | dic {a:Addr} (h:G a=some (.dK [])):Rep K G (.ref a) (.dict [])
 | exc {a C:Addr} {dd:Option Addr} {bm:List Value} {nm:Str} {vs:List V} {ds:List D} (c:ClsK K nm C bm) (h:G a=some (.ext (XO false a C dd))) (hd:XFs G dd (zpB nm) vs) (r:Reps K G vs ds):Rep K G (.ref a) (.dict [(.none,.tuple [.str nm,.list ds])])
 | dct {a:Addr} {ks:List Key} {vs:List V} {ds:List D} {kvs:List (D × D)} (e:kvs=(ks.map kD).zip ds) (hne:ks ≠ []) (hl:ks.length=ds.length) (h:G a=some (.dK (ks.zip vs))) (r:Reps K G vs ds):Rep K G (.ref a) (.dict kvs)
 | dtt {a:Addr} {o:Obj} {ks:List (List Key)} {vs:List V} {ds:List D} {kvs:List (D × D)} (e:kvs=pdD ks ds) (hl:ks.length=ds.length) (h:G a=some (.frz o (.dT (ks.zip vs)))) (r:Reps K G vs ds):Rep K G (.ref a) (.dict kvs)
inductive Reps (K:PySem.W.Frag) (G:Hp):List V->List D->Prop where
 | nil:Reps K G [] []
 | cons {v:V} {d:D} {vs:List V} {ds:List D} (h:Rep K G v d) (t:Reps K G vs ds):Reps K G (v :: vs) (d :: ds)
end
variable {K:PySem.W.Frag} {B G0 G G1 G2 H H1 H2:Hp}
theorem zc4 {a:Addr} {xs:List V} (e:Same G G1) (h:SqT K G a xs):SqT K G1 a xs:=by
 rcases h with (h | ⟨o,h⟩) | h
 ·exact .inl (.inl (e _ _ h))
 ·exact .inl (.inr ⟨o,e _ _ h⟩)
 ·exact .inr h
mutual
theorem Rep.mono (e:Same G G1):∀ {v:V} {d:D},Rep K G v d->Rep K G1 v d
 | _,_,.non=>.non
 | _,_,.bl b=>.bl b
 | _,_,.int i=>.int i
 | _,_,.str x=>.str x
 | _,_,.lst h r=>.lst (e.seq h) (Reps.mono e r)
 | _,_,.tup h r=>.tup (zc4 e h) (Reps.mono e r)
 | _,_,.dic h=>.dic (e _ _ h)
 | _,_,.exc c h hd r=>.exc c (e _ _ h) (hd.mono e) (Reps.mono e r)
 | _,_,.dct z n l h r=>.dct z n l (e _ _ h) (Reps.mono e r)
 | _,_,.dtt z l h r=>.dtt z l (e _ _ h) (Reps.mono e r)
theorem Reps.mono (e:Same G G1):∀ {vs:List V} {ds:List D},Reps K G vs ds->Reps K G1 vs ds
 | _,_,.nil=>.nil
 | _,_,.cons h t=>.cons (Rep.mono e h) (Reps.mono e t)
end
section
variable {v:V} {vs ws:List V} {ds es:List D}
theorem Rep.bl_inv {b:Bool} (h:Rep K G v (.bool b)):v=.bl b:=by cases h;rfl
theorem Rep.int_inv {i:Int} (h:Rep K G v (.int i)):v=.int i:=by cases h;rfl
theorem Rep.str_inv {x:Str} (h:Rep K G v (.str x)):v=.str x:=by cases h;rfl
theorem Rep.lst_inv (h:Rep K G v (.list ds)):∃ a vs,v=.ref a/\SqL K G a vs/\Reps K G vs ds:=by
 cases h with
 | lst h r=>exact ⟨_,_,rfl,h,r⟩
theorem Rep.tup_inv (h:Rep K G v (.tuple ds)):∃ a vs,v=.ref a/\SqT K G a vs/\Reps K G vs ds:=by
 cases h with
 | tup h r=>exact ⟨_,_,rfl,h,r⟩
theorem Reps.length:∀ {vs:List V} {ds:List D},Reps K G vs ds->vs.length=ds.length
 | _,_,.nil=>rfl
 | _,_,.cons _ t=>by rw [List.length_cons,List.length_cons,Reps.length t]
theorem Reps.get:∀ {vs:List V} {ds:List D} {i:Nat} {d:D},Reps K G vs ds->ds[i]?=some d->∃ v,vs[i]?=some v/\Rep K G v d
 | _,_,_,_,.nil,e=>by simp at e
 | _,_,0,_,.cons h _,e=>by simp at e;subst e;exact ⟨_,rfl,h⟩
 | _,_,i+1,d,.cons _ t,e=>by
  obtain ⟨u,h1,h2⟩:=Reps.get (i:=i) (d:=d) t (by simpa using e)
  exact ⟨u,by simpa using h1,h2⟩
theorem Reps.append:∀ {vs ws:List V} {ds es:List D},Reps K G vs ds->Reps K G ws es->Reps K G (vs ++ ws) (ds ++ es)
 | _,_,_,_,.nil,s=>s
 | _,_,_,_,.cons r t,s=>.cons r (Reps.append t s)
theorem Reps.take:∀ {vs:List V} {ds:List D} (n:Nat),Reps K G vs ds->Reps K G (vs.take n) (ds.take n)
 | _,_,0,_=>by rw [List.take_zero,List.take_zero];exact .nil
 | _,_,_+1,.nil=>.nil
 | _,_,n+1,.cons r t=>.cons r (Reps.take n t)
theorem Reps.drop:∀ {vs:List V} {ds:List D} (n:Nat),Reps K G vs ds->Reps K G (vs.drop n) (ds.drop n)
 | _,_,0,r=>r
 | _,_,_+1,.nil=>.nil
 | _,_,n+1,.cons _ t=>Reps.drop n t
theorem Reps.reverse:∀ {vs:List V} {ds:List D},Reps K G vs ds->Reps K G vs.reverse ds.reverse
 | _,_,.nil=>.nil
 | _,_,.cons r t=>by rw [List.reverse_cons,List.reverse_cons];exact Reps.append (Reps.reverse t) (.cons r .nil)
theorem Reps.set {v:V} {d:D} (r:Rep K G v d):∀ {vs:List V} {ds:List D} (i:Nat),Reps K G vs ds->Reps K G (vs.set i v) (ds.set i d)
 | _,_,_,.nil=>.nil
 | _,_,0,.cons _ t=>.cons r t
 | _,_,i+1,.cons q t=>.cons q (Reps.set r i t)
theorem Reps.ints:∀ (ns:List Int),Reps K G (ns.map V.int) (ns.map PyData.int)
 | []=>.nil
 | n :: ns=>.cons (.int n) (Reps.ints ns)
end
inductive MO where
 | l (vs:List V) | k (kvs:List (Key × V)) | t (kvs:List (List Key × V))
def MO.ho:MO->HO
 | .l vs=>.lst vs
 | .k kvs=>.dK kvs
 | .t kvs=>.dT kvs
structure Ext (G H G' H':Hp):Prop where
 h:Same H H'
 g:Same G G'
 gh:Same G' H'
 np:∀ a (u:MO),H a=some u.ho->G a=none->G' a=none
theorem Ext.refl (e:Same G H):Ext G H G H:=⟨.refl _,.refl _,e,fun _ _ _ q=>q⟩
theorem Ext.trans {G' H' G'' H'':Hp} (a:Ext G H G' H') (b:Ext G' H' G'' H''):Ext G H G'' H'' :=
 ⟨a.h.trans b.h,a.g.trans b.g,b.gh,fun x o e q=>b.np x o (a.h x _ e) (a.np x o e q)⟩
theorem zaO {p:Addr} {o:HO} (h:H p=none):Same H (upd H p o):=fun b u e=>by rw [zaJ (zaF e h)];exact e
theorem Ext.new {p:Addr} {o:HO} (e:Same G H) (h:H p=none):Ext G H (upd G p o) (upd H p o):=by
 have hg:G p=none:=e.free h
 refine ⟨zaO h,zaO hg,fun b u q=>?_,fun a u q n=>?_⟩
 ·by_cases z:b=p
  ·subst z;rw [zaD] at q ⊢;exact q
  ·rw [zaJ z] at q ⊢;exact e b u q
 ·rw [zaJ (zaF q h)];exact n
theorem Ext.hid {p:Addr} {o:HO} (e:Same G H) (h:H p=none):Ext G H G (upd H p o) :=
 ⟨zaO h,.refl _,e.trans (zaO h),fun _ _ _ n=>n⟩
inductive Sl where
 | pub (d:D) | own (ds:List D)
abbrev DEnv:=List (Option Sl)
structure EOk (K:PySem.W.Frag) (B G0 G H:Hp) (σ : St) (ρ : DEnv):Prop where
 bh:Same B H
 gh:Same G H
 g0:Same G0 G
 np:∀ a (u:MO),B a=some u.ho->G0 a=none->G a=none
 len : ρ.length = σ.length
 pub:∀ (i:Nat) d,ρ[i]?=some (some (.pub d))->∃ v,σ[i]?=some (some v)/\Rep K G v d
 own:∀ (i:Nat) ds,ρ[i]?=some (some (.own ds))->∃ a vs,σ[i]?=some (some (.ref a))/\B a=none/\G a=none/\H a=some (.lst vs)/\Reps K G vs ds
 sep:∀ (i j:Nat) a ds es,ρ[i]?=some (some (.own ds)) -> ρ[j]?=some (some (.own es)) -> σ[i]?=some (some (.ref a)) -> σ[j]?=some (some (.ref a))->i=j
theorem EOk.ext {G' H':Hp} {σ : St} {ρ : DEnv} (k:EOk K B G0 G H σ ρ) (e:Ext G H G' H'):EOk K B G0 G' H' σ ρ where
 bh:=k.bh.trans e.h
 gh:=e.gh
 g0:=k.g0.trans e.g
 np:=fun a o q n=>e.np a o (k.bh a _ q) (k.np a o q n)
 len:=k.len
 pub:=fun i d q=>let ⟨v,h1,h2⟩:=k.pub i d q;⟨v,h1,h2.mono e.g⟩
 own:=fun i ds q=>let ⟨a,vs,h1,h2,h3,h4,h5⟩:=k.own i ds q;⟨a,vs,h1,h2,e.np a (.l _) h4 h3,e.h a _ h4,h5.mono e.g⟩
 sep:=k.sep
theorem EOk.publish {σ : St} {ρ : DEnv} {i:Nat} {ds:List D} (k:EOk K B G0 G H σ ρ) (h : ρ[i]?=some (some (.own ds))) :
  ∃ a G',σ[i]?=some (some (.ref a))/\Same G G'/\Rep K G' (.ref a) (.list ds)/\EOk K B G0 G' H σ (ρ.set i (some (.pub (.list ds)))):=by
 obtain ⟨a,vs,h1,h2,h3,h4,h5⟩:=k.own i ds h
 have sg:Same G (upd G a (.lst vs)):=zaO h3
 have hr:Rep K (upd G a (.lst vs)) (.ref a) (.list ds):=.lst (SqL.of zaD) (h5.mono sg)
 refine ⟨a,upd G a (.lst vs),h1,sg,hr,⟨k.bh,fun b u q=>?_,k.g0.trans sg,fun b o q n=>?_,by rw [List.length_set];exact k.len,fun j d q=>?_,fun j es q=>?_,fun j l c es fs q1 q2 s1 s2=>?_⟩⟩
 ·by_cases z:b=a
  ·subst z;rw [zaD] at q;cases q;exact h4
  ·rw [zaJ z] at q;exact k.gh b u q
 ·have z:b ≠ a:=fun z=>by subst z;rw [h2] at q;cases q
  rw [zaJ z];exact k.np b o q n
 ·by_cases z:i=j
  ·subst z
   have hl:i < ρ.length:=(List.getElem?_eq_some_iff.mp h).1
   rw [List.getElem?_set_self hl] at q
   cases q
   exact ⟨.ref a,h1,hr⟩
  ·rw [List.getElem?_set_ne z] at q
   obtain ⟨v,g1,g2⟩:=k.pub j d q
   exact ⟨v,g1,g2.mono sg⟩
 ·by_cases z:i=j
  ·subst z
   have hl:i < ρ.length:=(List.getElem?_eq_some_iff.mp h).1
   rw [List.getElem?_set_self hl] at q
   cases q
  ·rw [List.getElem?_set_ne z] at q
   obtain ⟨b,ws,g1,g2,g3,g4,g5⟩:=k.own j es q
   have zb:b ≠ a:=fun e=>z (k.sep i j a ds es h q h1 (by rw [← e];exact g1))
   exact ⟨b,ws,g1,g2,by rw [zaJ zb];exact g3,g4,g5.mono sg⟩
 ·have nz:∀ {m:Nat} {ts:List D},(ρ.set i (some (Sl.pub (.list ds))))[m]?=some (some (.own ts)) -> ρ[m]?=some (some (.own ts)):=fun {m ts} q=>by
   by_cases z:i=m
   ·subst z
    have hl:i < ρ.length:=(List.getElem?_eq_some_iff.mp h).1
    rw [List.getElem?_set_self hl] at q
    cases q
   ·rw [List.getElem?_set_ne z] at q;exact q
  exact k.sep j l c es fs (nz q1) (nz q2) s1 s2
inductive Res (α : Type) where
 | ok (a : α) (ρ : DEnv) | bad
abbrev M (α : Type):=DEnv->Res α
def zag {α : Type} (a : α):M α:=fun ρ=>.ok a ρ
def mOpt {α : Type} (o:Option α):M α:=fun ρ=>match o with | some a=>.ok a ρ | none=>.bad
def zav {α β : Type} (f:M α) (k : α -> M β):M β:=fun ρ=>match f ρ with | .ok a ρ'=>k a ρ' | .bad=>.bad
section
variable (K:PySem.W.Frag) (B G0:Hp)
def aft {α γ : Type} (R:Hp -> γ -> α -> Prop) (r:Res α) (G:Hp) (σ : St) (Q : γ -> Hp->Prop):Prop :=
 match r with
 | .ok d ρ'=>∀ v G' H',EOk K B G0 G' H' σ ρ'->Same G G'->R G' v d->Q v H'
 | .bad=>False
def tM {α γ : Type} (R:Hp -> γ -> α -> Prop) (f:M α):St->Hp->(γ -> Hp->Prop)->Prop:=fun σ H Q =>
 ∃ G ρ,EOk K B G0 G H σ ρ /\ aft K B G0 R (f ρ) G σ Q
abbrev tD (f:M D):TE:=tM K B G0 (Rep K) f
abbrev tDs (f:M (List D)):TA:=tM K B G0 (Reps K) f
abbrev tBo (f:M Bool):TT:=tM K B G0 (fun _ b c=>b=c) f
abbrev tOi (f:M (Option Int)):TO:=tM K B G0 (fun _ b c=>b=c) f
end
section
variable {K:PySem.W.Frag} {B G0:Hp} {α β γ δ ε : Type} {R:Hp -> γ -> α -> Prop} {S:Hp -> δ -> β -> Prop} {T:Hp -> ε -> α -> Prop} {σ : St} {H:Hp}
theorem aft.mono {r:Res α} {G G':Hp} {Q : γ -> Hp->Prop} (e:Same G G') (h:aft K B G0 R r G σ Q):aft K B G0 R r G' σ Q:=by
 cases r with
 | ok d ρ=>exact fun v G2 H2 k s q=>h v G2 H2 k (e.trans s) q
 | bad=>exact h
theorem aft.done {d : α} {ρ : DEnv} {G G' H H':Hp} {v : γ} {Q : γ -> Hp->Prop} (h:aft K B G0 R (.ok d ρ) G σ Q) (k:EOk K B G0 G H σ ρ) (e:Ext G H G' H') (r:R G' v d):Q v H' :=
 h v G' H' (k.ext e) e.g r
theorem aft.now {d : α} {ρ : DEnv} {G H:Hp} {v : γ} {Q : γ -> Hp->Prop} (h:aft K B G0 R (.ok d ρ) G σ Q) (k:EOk K B G0 G H σ ρ) (r:R G v d):Q v H :=
 h v G H k (.refl _) r
theorem aft.opt {o:Option α} {ρ : DEnv} {G:Hp} {Q : γ -> Hp->Prop} (h:aft K B G0 R (mOpt o ρ) G σ Q):∃ d,o=some d/\aft K B G0 R (.ok d ρ) G σ Q:=by
 cases o with
 | none=>exact h.elim
 | some d=>exact ⟨d,rfl,h⟩
theorem tM.bind {f:M α} {k : α -> M β} {Q : δ -> Hp->Prop} (h:tM K B G0 S (zav f k) σ H Q) :
  tM K B G0 R f σ H (fun v H1=>∃ G ρ d,EOk K B G0 G H1 σ ρ /\ R G v d/\aft K B G0 S (k d ρ) G σ Q):=by
 obtain ⟨G,ρ,e,a⟩:=h
 refine ⟨G,ρ,e,?_⟩
 unfold zav at a
 cases q:f ρ with
 | bad=>rw [q] at a;exact a.elim
 | ok d ρ1 =>
  rw [q] at a
  exact fun v G' H' e' s r=>⟨G',ρ1,d,e',r,aft.mono s a⟩
theorem tM.bind2 {α' γ':Type} {R':Hp -> γ' -> α'->Prop} {f:M α} {g : α -> M α'} {k : α -> α'->M β} {Q : δ -> Hp->Prop} (mo:∀ G G' v d,Same G G'->R G v d->R G' v d)
  (h:tM K B G0 S (zav f fun x=>zav (g x) fun y=>k x y) σ H Q) :
  tM K B G0 R f σ H (fun v H1=>∃ x,tM K B G0 R' (g x) σ H1 fun u H2=>∃ G ρ y,EOk K B G0 G H2 σ ρ /\ R G v x/\R' G u y/\aft K B G0 S (k x y ρ) G σ Q):=by
 obtain ⟨G,ρ,e,a⟩:=tM.bind (R:=R) h
 refine ⟨G,ρ,e,?_⟩
 cases q:f ρ with
 | bad=>rw [q] at a;exact a.elim
 | ok d ρ1 =>
  rw [q] at a
  intro v G' H' e' s r
  obtain ⟨G2,ρ2,d2,e2,r2,a2⟩:=a v G' H' e' s r
  refine ⟨d2,G2,ρ2,e2,?_⟩
  unfold zav at a2
  cases q2:g d2 ρ2 with
  | bad=>rw [q2] at a2;exact a2.elim
  | ok d3 ρ3 =>
   rw [q2] at a2
   exact fun u G3 H3 e3 s3 r3=>⟨G3,ρ3,d3,e3,mo _ _ _ _ s3 r2,r3,aft.mono s3 a2⟩
end
theorem zjj {K:PySem.W.Frag} (G G':Hp) (v:V) (d:D) (e:Same G G') (r:Rep K G v d):Rep K G' v d:=r.mono e
theorem tM.two {K:PySem.W.Frag} {B G0:Hp} {β δ : Type} {S:Hp -> δ -> β -> Prop} {σ : St} {H:Hp} {f g:M D} {k:D->D->M β} {Q : δ -> Hp->Prop} {P:V->V->Hp->Prop}
  (h:tM K B G0 S (zav f fun x=>zav g fun y=>k x y) σ H Q)
  (i:∀ v u H2 G ρ x y,EOk K B G0 G H2 σ ρ -> Rep K G v x->Rep K G u y->aft K B G0 S (k x y ρ) G σ Q->P v u H2) :
  tD K B G0 f σ H (fun v H1=>tD K B G0 g σ H1 fun u H2=>P v u H2):=by
 obtain ⟨G,ρ,e,a⟩:=tM.bind2 (R:=Rep K) (R':=Rep K) zjj h
 refine ⟨G,ρ,e,?_⟩
 cases q:f ρ with
 | bad=>rw [q] at a;exact a.elim
 | ok d ρ1 =>
  rw [q] at a
  intro v G' H' e' s r
  obtain ⟨x,G2,ρ2,e2,a2⟩:=a v G' H' e' s r
  refine ⟨G2,ρ2,e2,?_⟩
  cases q2:g ρ2 with
  | bad=>rw [q2] at a2;exact a2.elim
  | ok d3 ρ3 =>
   rw [q2] at a2
   intro u G3 H3 e3 s3 r3
   obtain ⟨G4,ρ4,y,e4,r4,r5,a5⟩:=a2 u G3 H3 e3 s3 r3
   exact i v u H3 G4 ρ4 x y e4 r4 r5 a5
theorem tM.one {K:PySem.W.Frag} {B G0:Hp} {α β γ δ : Type} {R:Hp -> γ -> α -> Prop} {S:Hp -> δ -> β -> Prop} {σ : St} {H:Hp} {f:M α} {k : α -> M β} {Q : δ -> Hp->Prop} {P : γ -> Hp->Prop}
  (h:tM K B G0 S (zav f k) σ H Q) (i:∀ v H2 G ρ x,EOk K B G0 G H2 σ ρ -> R G v x->aft K B G0 S (k x ρ) G σ Q->P v H2):tM K B G0 R f σ H P:=by
 obtain ⟨G,ρ,e,a⟩:=tM.bind (R:=R) h
 refine ⟨G,ρ,e,?_⟩
 cases q:f ρ with
 | bad=>rw [q] at a;exact a.elim
 | ok d ρ1 =>
  rw [q] at a
  intro v G' H' e' s r
  obtain ⟨G2,ρ2,d2,e2,r2,a2⟩:=a v G' H' e' s r
  exact i v H' G2 ρ2 d2 e2 r2 a2
section
variable {X:Cx} {B G0:Hp} {e a b:Expr} {pos:Pos}
theorem peof {t t':TE} (h:PE X e t) (i:∀ σ H Q,t' σ H Q->t σ H Q):PE X e t':=fun pins s σ H Q I q=>h pins s σ H Q I (i σ H Q q)
theorem ptof {t t':TT} (h:PT X e t) (i:∀ σ H Q,t' σ H Q->t σ H Q):PT X e t':=fun pins s σ H Q I q=>h pins s σ H Q I (i σ H Q q)
theorem paof {es:List Expr} {t t':TA} (h:PA X es t) (i:∀ σ H Q,t' σ H Q->t σ H Q):PA X es t':=fun ps pins s σ H Q I q=>h ps pins s σ H Q I (i σ H Q q)
theorem poof {eo:Option Expr} {t t':TO} (h:PO X eo t) (i:∀ σ H Q,t' σ H Q->t σ H Q):PO X eo t':=fun pins s σ H Q I q=>h pins s σ H Q I (i σ H Q q)
theorem psof {st:Stmt} {t t':TS} (h:PS X st t) (i:∀ D σ H,t' D σ H->t D σ H):PS X st t':=fun pins s σ H D I q=>h pins s σ H D I (i D σ H q)
theorem zmU {st:List Stmt} {t t':TS} (h:PSs X st t) (i:∀ D σ H,t' D σ H->t D σ H):PSs X st t':=fun pins s σ H D I q=>h pins s σ H D I (i D σ H q)
def dVar (i:Nat):M D:=fun ρ=>match ρ[i]? with
 | some (some (.pub d))=>.ok d ρ
 | some (some (.own ds))=>.ok (.list ds) (ρ.set i (some (.pub (.list ds))))
 | _=>.bad
theorem zac {i:Nat} (h:PE X e (tVar i)):PE X e (tD X.K B G0 (dVar i)):=peof h fun σ H Q ⟨G,ρ,k,a⟩=>by
 unfold dVar at a
 cases q : ρ[i]? with
 | none=>rw [q] at a;exact a.elim
 | some o =>
  cases o with
  | none=>rw [q] at a;exact a.elim
  | some sl =>
   cases sl with
   | pub d =>
    rw [q] at a
    obtain ⟨v,h1,h2⟩:=k.pub i d q
    exact ⟨v,h1,a.now k h2⟩
   | own ds =>
    rw [q] at a
    obtain ⟨ad,G',h1,h2,h3,h4⟩:=k.publish q
    exact ⟨.ref ad,h1,a (.ref ad) G' H h4 h2 h3⟩
theorem zhF {v:V} {d:D} (h:PE X e (tC v)) (r:∀ G,Rep X.K G v d):PE X e (tD X.K B G0 (zag d)):=peof h fun σ H Q ⟨G,ρ,k,a⟩=>a.now k (r G)
theorem zai {i:Int} {j}:PE X (.Constant (.int i) j pos) (tD X.K B G0 (zag (.int i))):=zhF znM fun _=>.int i
theorem zbo {i:Bool} {j}:PE X (.Constant (.bool i) j pos) (tD X.K B G0 (zag (.bool i))):=zhF zo9 fun _=>.bl i
theorem zjk {j}:PE X (.Constant .none j pos) (tD X.K B G0 (zag .none)):=zhF znN fun _=>.non
theorem zej {x:Str} {j}:PE X (.Constant (.str x) j pos) (tD X.K B G0 (zag (.str x))):=zhF znO fun _=>.str x
def dBin {β : Type} (op:D->D->Option β) (f g:M D):M β:=zav f fun x=>zav g fun y=>mOpt (op x y)
def OpD (X:Cx) (f:Value->Value->Sem Value) (op:D->D->Option D):Prop :=
 ∃ r:R2,OpR X f r/\∀ v u G H x y d Q,Same G H->Rep X.K G v x->Rep X.K G u y->op x y=some d->(∀ w G' H',Ext G H G' H'->Rep X.K G' w d->Q w H')->r v u H Q
theorem zas {op:Operator} {p:D->D->Option D} {f g:M D} (o:OpD X (binaryOp op) p) (ha:PE X a (tD X.K B G0 f)) (hb:PE X b (tD X.K B G0 g)):PE X (.BinOp a op b pos) (tD X.K B G0 (dBin p f g)):=by
 obtain ⟨r,h,i⟩:=o
 refine peof (zpl h ha hb) fun σ H Q q=>?_
 refine tM.two q fun v u H2 G ρ x y k rx ry a=>?_
 obtain ⟨d,e,a⟩:=a.opt
 exact i v u G H2 x y d Q k.gh rx ry e fun w G' H' ex rw=>a.done k ex rw
theorem OpD.or {f:Value->Value->Sem Value} {p q:D->D->Option D} (h:OpD X f p) (h':OpD X f q):OpD X f (fun x y=>(p x y).orElse fun _=>q x y):=by
 obtain ⟨r,h1,i1⟩:=h
 obtain ⟨r',h2,i2⟩:=h'
 refine ⟨_,h1.or h2,fun v u G H x y d Q s rx ry e k=>?_⟩
 dsimp only at e
 cases z:p x y with
 | some d' =>
  rw [z] at e
  have e':d'=d:=Option.some.inj e
  subst e'
  exact .inl (i1 v u G H x y d' Q s rx ry z k)
 | none =>
  rw [z] at e
  exact .inr (i2 v u G H x y d Q s rx ry e k)
def oII (g:Int->Int->Option D):D->D->Option D
 | .int i,.int j=>g i j
 | _,_=>none
theorem zjl {g:Int->Int->Option D} {x y d:D} (e:oII g x y=some d):∃ i j,x=.int i/\y=.int j/\g i j=some d:=by
 unfold oII at e
 split at e
 ·exact ⟨_,_,rfl,rfl,e⟩
 ·cases e
theorem OpD.int {f:Value->Value->Sem Value} {C:Int->Int->Prop} {g:Int->Int->V} {p:Int->Int->Option D} (h:OpR X f (rI C g)) (i:∀ i j d,p i j=some d->C i j/\∀ G,Rep X.K G (g i j) d):OpD X f (oII p):=by
 refine ⟨_,h,fun v u G H x y d Q s rx ry e k=>?_⟩
 obtain ⟨a,b,rfl,rfl,e⟩:=zjl e
 obtain ⟨c,r⟩:=i a b d e
 exact ⟨a,b,rx.int_inv,ry.int_inv,c,k _ G H (.refl s) (r G)⟩
theorem OpD.int0 {f:Value->Value->Sem Value} {g:Int->Int->V} {p:Int->Int->D} (h:OpR X f (rI0 g)) (i:∀ i j G,Rep X.K G (g i j) (p i j)):OpD X f (oII fun i j=>some (p i j)):=by
 refine ⟨_,h,fun v u G H x y d Q s rx ry e k=>?_⟩
 obtain ⟨a,b,rfl,rfl,e⟩:=zjl e
 cases e
 exact ⟨a,b,rx.int_inv,ry.int_inv,k _ G H (.refl s) (i a b G)⟩
end
section
variable {X:Cx} {B G0:Hp} {e a b c:Expr} {pos:Pos}
theorem zoj:OpD X (binaryOp .Add) (oII fun i j=>some (.int (i+j))):=.int0 zn0 fun _ _ _=>.int _
theorem zok:OpD X (binaryOp .Sub) (oII fun i j=>some (.int (i - j))):=.int0 zn1 fun _ _ _=>.int _
def gMul (i j:Int):Option D:=if (-(2 ^ 64) < i/\i < 2 ^ 64) ∨ (-(2 ^ 64) < j/\j < 2 ^ 64) then some (.int (i * j)) else none
theorem zmV:OpD X (binaryOp .Mult) (oII gMul):=.int zn2 fun i j d h=>by
 unfold gMul at h
 split at h
 ·rename_i c
  cases h
  exact ⟨c,fun _=>.int _⟩
 ·cases h
def gMod (i j:Int):Option D:=if 0 < j then some (.int (i % j)) else none
theorem zol:OpD X (binaryOp .Mod) (oII gMod):=.int zn3 fun i j d h=>by
 unfold gMod at h
 split at h
 ·rename_i c
  cases h
  exact ⟨c,fun _=>.int _⟩
 ·cases h
theorem zlg:OpR X (binaryOp .FloorDiv) (rI (fun i j=>0 < j/\j < 2 ^ 64) fun i j=>.int (i / j)):=opI fun i j _ _ _ _ _ hc q=>by
 have h1:(0:Int) < j:=hc.1
 have h2:j < 2 ^ 64:=hc.2
 refine floordiv_int (by omega) (by rw [Int.fdiv_eq_ediv_of_nonneg i (by omega)];exact q) (.inl (PyProof.noPylong_of_log2 ?_))
 have h0:j.natAbs ≠ 0:=by omega
 have:j.natAbs.log2 < 64:=(Nat.log2_lt h0).mpr (by omega)
 omega
def gDiv (i j:Int):Option D:=if 0 < j/\j < 2 ^ 64 then some (.int (i / j)) else none
theorem zom:OpD X (binaryOp .FloorDiv) (oII gDiv):=.int zlg fun i j d h=>by
 unfold gDiv at h
 split at h
 ·rename_i c
  cases h
  exact ⟨c,fun _=>.int _⟩
 ·cases h
def gPow (i j:Int):Option D:=if 0<=j/\j<=1000000/\i.natAbs < 2 ^ 64 then some (.int (i ^ j.toNat)) else none
theorem zon:OpD X (binaryOp .Pow) (oII gPow):=.int zn4 fun i j d h=>by
 unfold gPow at h
 split at h
 ·rename_i c
  cases h
  exact ⟨c,fun _=>.int _⟩
 ·cases h
theorem lim:(1000000:Nat)<=sizeLine:=by decide
def zlh:D->D->Option D
 | .str x,.str y=>if x.length+y.length<=1000000 then some (.str (x ++ y)) else none
 | _,_=>none
theorem zmW:OpD X (binaryOp .Add) zlh:=by
 refine ⟨_,zig,fun v u G H x y d Q s rx ry e k=>?_⟩
 unfold zlh at e
 split at e
 ·split at e
  ·rename_i c
   cases e
   exact ⟨_,_,rx.str_inv,ry.str_inv,Nat.le_trans c lim,k _ G H (.refl s) (.str _)⟩
  ·cases e
 ·cases e
def zpD (K:PySem.W.Frag):R2:=fun x y H Q=>∃ l b xs zs,x=.ref l/\y=.ref b/\SqL K H l xs/\SqL K H b zs/\xs.length+zs.length<=sizeLine/\∀ p,H p=none->Q (.ref p) (upd H p (.lst (xs ++ zs)))
theorem zmX:OpR X (binaryOp .Add) (zpD X.K):=by
 intro pins s σ H x y v u Q I rx ry h
 obtain ⟨l,b,xs,zs,rfl,rfl,hH,hB,hz,q⟩:=h
 cases rx
 cases ry
 obtain ⟨its,r,⟨⟨c1,d1,t1,s1⟩,n1,e1,ec1,ed1,et1⟩,z1⟩:=I.list hH
 obtain ⟨its2,r2,⟨⟨c2,d2,t2,s2⟩,n2,e2,ec2,ed2,et2⟩,z2⟩:=I.list hB
 simp only at ec1 ed1 et1 ec2 ed2 et2
 subst ec1 ed1 et1 ec2 ed2 et2
 have hl:=r.length
 have hl2:=r2.length
 refine concat_meets ⟨_,e1,rfl⟩ ⟨_,e2,rfl⟩ noFill_list_add seq_list_add PySem.F.slot_list_add PySem.F.entry_list_add (PySem.F.args_list_add_2 _ _) (list_addW l b its.toArray its2.toArray n1 n2 none none s1 s2 (by rw [List.size_toArray,List.size_toArray];omega)) ⟨e1,e2,?_⟩
 have ea:its.toArray ++ its2.toArray=(its ++ its2).toArray:=by simp
 rw [ea]
 exact ⟨.ref _,_,I.lnew (t':=s.toks) (r.append r2) (by rw [List.length_append];omega),rfl,q _ I.fresh⟩
theorem zpE (a:Int) (t:Tok) (l:Addr) (items:Array Value) (n:Nat) (sl:Array (Option Value)) :
  Meets (Builtin.«int.__rmul__» ⟨[.int a t,.ref l],[]⟩) (fun _ R s=>s.heap.get? l=some { cls:=.type "list", dict:=none,data:=.seq items n,slots:=sl }/\R (.ok (.ret Value.notImplemented)) s) :=
 .of_wp fun prog w A R s h=>by obtain ⟨hp,g,d,tk,os⟩:=s;obtain ⟨hl,h⟩:=h;wp_walk;exact ⟨_,rfl,h⟩
theorem mulW (l:Addr) (items:Array Value) (n:Nat) (x:Int) (u:Tok) (sl:Array (Option Value)) (hc0 : ¬(!Builtin.List.listFitsIndex x)=true) (hc1 : ¬items.size * x.toNat > (2 ^ 63 - 1) / 8) (hc2 : ¬Builtin.List.listTooLong (items.size * x.toNat)=true) :
  Meets (Builtin.«list.__mul__» ⟨[.ref l,.int x u],[]⟩) (fun _ R s=>s.heap.get? l=some { cls:=.type "list", dict:=none,data:=.seq items n,slots:=sl }/\R (.ok (.ret (Value.ref s.heap.objs.size))) { s with heap:=s.heap.push { cls:=Value.type "list", data:=Data.seq (List.foldl (fun x1 x2=>x1 ++ x2) #[] (List.replicate (if items.isEmpty=true then 0 else x.toNat) items)) },toks:=s.toks }) :=
 .of_wp fun prog w A R s h=>by
  obtain ⟨hp,g,d,tk,os⟩:=s;obtain ⟨hl,h⟩:=h
  have hsz:=AutoListH.joined_fits hc2
  wp_walk;refine wpAny_ite_false (decide_eq_false (Nat.not_lt.mpr hsz)) ?_;wp_walk;exact ⟨_,rfl,h⟩
def zpF (K:PySem.W.Frag):R2:=fun x y H Q=>∃ l k xs,x=.ref l/\y=.int k/\SqL K H l xs /\ -(2 ^ 63)<=k/\k < 2 ^ 63/\xs.length * k.toNat<=sizeLine /\
 ∀ p,H p=none->Q (.ref p) (upd H p (.lst (List.replicate k.toNat xs).flatten))
theorem zmY:OpR X (binaryOp .Mult) (zpF X.K):=by
 intro pins s σ H x y v u Q I rx ry h
 obtain ⟨l,k,xs,rfl,rfl,hH,h1,h2,hz,q⟩:=h
 cases rx
 obtain ⟨t,rfl⟩:=ry
 obtain ⟨its,r,⟨⟨c1,d1,t1,sl⟩,n,e,ec1,ed1,et1⟩,z⟩:=I.list hH
 simp only at ec1 ed1 et1
 subst ec1 ed1 et1
 have hl:=r.length
 have hlen:its.toArray.size * k.toNat<=sizeLine:=by rw [List.size_toArray,← hl];exact hz
 have hcap : ¬ its.toArray.size * k.toNat > (2 ^ 63 - 1) / 8:=by
  have:(sizeLine:Nat)<=(2 ^ 63 - 1) / 8:=by decide
  omega
 have hfit : ¬ (!Builtin.List.listFitsIndex k)=true:=by
  rw [fitsIndex_both h1 h2]
  exact Bool.false_ne_true
 have hlong : ¬ Builtin.List.listTooLong (its.toArray.size * k.toNat)=true:=by
  rw [zhE hlen]
  exact Bool.false_ne_true
 have hnew:List.foldl (fun x1 x2=>x1 ++ x2) #[] (List.replicate (if its.toArray.isEmpty=true then 0 else k.toNat) its.toArray)=(List.replicate k.toNat its).flatten.toArray:=by
  have f0:∀ m:Nat,List.foldl (fun x1 x2=>x1 ++ x2) #[] (List.replicate m its.toArray)=(List.replicate m its).flatten.toArray:=fun m=>by
   have:=zfW its m []
   rw [List.nil_append] at this
   exact this
  rw [f0]
  cases its with
  | nil=>simp
  | cons a r'=>rw [if_neg (by simp)]
 refine wpAny_binaryOp_repeat_ref (T := "list") (U := "int") (by decide) ⟨_,e,rfl⟩ (fun s'=>typeIs_int s' k t) noFill_list_mul F.fills_int_mul F.slot_int_rmul repeat_list F.slot_int_index.lookup
  (call_meets F.slot_int_rmul (typeIs_int s k t) F.entry_int_rmul (F.args_int_rmul_2 _ _) (zpE k t l its.toArray n sl)
   ⟨e,rfl,⟨_,e,rfl⟩,call_meets F.slot_list_mul ⟨_,e,rfl⟩ F.entry_list_mul (F.args_list_mul_2 _ _) (mulW l its.toArray n k t sl hfit hcap hlong) ⟨e,?_⟩⟩)
 rw [hnew]
 exact ⟨.ref _,_,I.lnew (t':=s.toks) (r.rep k.toNat) (by rw [zmP,Nat.mul_comm];exact hz),rfl,q _ I.fresh⟩
def zli:D->D->Option D
 | .list x,.list y=>if x.length+y.length<=1000000 then some (.list (x ++ y)) else none
 | _,_=>none
theorem zmZ:OpD X (binaryOp .Add) zli:=by
 refine ⟨_,zmX,fun v u G H x y d Q s rx ry e k=>?_⟩
 unfold zli at e
 split at e
 ·split at e
  ·rename_i c
   cases e
   obtain ⟨l,vs,rfl,h1,r1⟩:=rx.lst_inv
   obtain ⟨b,ws,rfl,h2,r2⟩:=ry.lst_inv
   refine ⟨l,b,vs,ws,rfl,rfl,s.seq h1,s.seq h2,by rw [r1.length,r2.length];exact Nat.le_trans c lim,fun p hp=>k _ _ _ (Ext.new s hp) ?_⟩
   exact .lst (SqL.of zaD) ((r1.append r2).mono (zaO (s.free hp)))
  ·cases e
 ·cases e
theorem Reps.rep {K:PySem.W.Frag} {G:Hp} {vs:List V} {ds:List D} (r:Reps K G vs ds):∀ n:Nat,Reps K G (List.replicate n vs).flatten (List.replicate n ds).flatten
 | 0=>.nil
 | n+1=>by rw [List.replicate_succ,List.replicate_succ,List.flatten_cons,List.flatten_cons];exact r.append (r.rep n)
def zlj:D->D->Option D
 | .list x,.int k=>if -1000000<=k/\k<=1000000/\x.length * k.toNat<=1000000 then some (.list (List.replicate k.toNat x).flatten) else none
 | _,_=>none
theorem zm0:OpD X (binaryOp .Mult) zlj:=by
 refine ⟨_,zmY,fun v u G H x y d Q s rx ry e k=>?_⟩
 unfold zlj at e
 split at e
 ·split at e
  ·rename_i c
   cases e
   obtain ⟨l,vs,rfl,h1,r1⟩:=rx.lst_inv
   refine ⟨l,_,vs,rfl,ry.int_inv,s.seq h1,by omega,by omega,by rw [r1.length];exact Nat.le_trans c.2.2 lim,fun p hp=>k _ _ _ (Ext.new s hp) ?_⟩
   exact .lst (SqL.of zaD) ((r1.rep _).mono (zaO (s.free hp)))
  ·cases e
 ·cases e
def oAdd:D->D->Option D
 | .int i,.int j=>some (.int (i+j))
 | .str x,.str y=>if x.length+y.length<=1000000 then some (.str (x ++ y)) else none
 | .list x,.list y=>if x.length+y.length<=1000000 then some (.list (x ++ y)) else none
 | _,_=>none
def oSub:D->D->Option D
 | .int i,.int j=>some (.int (i - j))
 | _,_=>none
def oMul:D->D->Option D
 | .int i,.int j=>gMul i j
 | .list x,.int k=>if -1000000<=k/\k<=1000000/\x.length * k.toNat<=1000000 then some (.list (List.replicate k.toNat x).flatten) else none
 | _,_=>none
def oMod:D->D->Option D
 | .int i,.int j=>gMod i j
 | _,_=>none
def oDiv:D->D->Option D
 | .int i,.int j=>gDiv i j
 | _,_=>none
def oPow:D->D->Option D
 | .int i,.int j=>gPow i j
 | _,_=>none
theorem OpD.congr {f:Value->Value->Sem Value} {p q:D->D->Option D} (h:OpD X f p) (e:∀ x y,q x y=p x y):OpD X f q:=by
 have:q=p:=by funext x y;exact e x y
 rw [this];exact h
theorem zaU:OpD X (binaryOp .Add) oAdd:=(zoj.or (zmW.or zmZ)).congr fun x y=>by cases x <;> cases y <;> first | rfl | (simp only [oAdd,oII,zlh,zli,Option.orElse];done) | (simp only [oAdd,oII,zlh,zli,Option.orElse];split <;> rfl)
theorem zcq:OpD X (binaryOp .Sub) oSub:=zok.congr fun x y=>by cases x <;> cases y <;> rfl
theorem zbY:OpD X (binaryOp .Mult) oMul:=(zmV.or zm0).congr fun x y=>by
 cases x <;> cases y <;> first | rfl | (simp only [oMul,oII,zlj,Option.orElse];done) | (simp only [oMul,oII,zlj,Option.orElse];split <;> first | rfl | assumption)
theorem zfZ:OpD X (binaryOp .Mod) oMod:=zol.congr fun x y=>by cases x <;> cases y <;> rfl
theorem zoo:OpD X (binaryOp .FloorDiv) oDiv:=zom.congr fun x y=>by cases x <;> cases y <;> rfl
theorem zop:OpD X (binaryOp .Pow) oPow:=zon.congr fun x y=>by cases x <;> cases y <;> rfl
end
section
variable {X:Cx} {B G0:Hp} {e a b c:Expr} {pos:Pos}
def OpB (X:Cx) (f:Value->Value->Sem Value) (op:D->D->Option Bool):Prop :=
 ∃ r:R2,OpR X f r/\∀ v u G H x y d Q,Same G H->Rep X.K G v x->Rep X.K G u y->op x y=some d->Q (.bl d) H->r v u H Q
theorem OpB.or {f:Value->Value->Sem Value} {p q:D->D->Option Bool} (h:OpB X f p) (h':OpB X f q):OpB X f (fun x y=>(p x y).orElse fun _=>q x y):=by
 obtain ⟨r,h1,i1⟩:=h
 obtain ⟨r',h2,i2⟩:=h'
 refine ⟨_,h1.or h2,fun v u G H x y d Q s rx ry e k=>?_⟩
 dsimp only at e
 cases z:p x y with
 | some d' =>
  rw [z] at e
  have e':d'=d:=Option.some.inj e
  subst e'
  exact .inl (i1 v u G H x y d' Q s rx ry z k)
 | none =>
  rw [z] at e
  exact .inr (i2 v u G H x y d Q s rx ry e k)
theorem OpB.congr {f:Value->Value->Sem Value} {p q:D->D->Option Bool} (h:OpB X f p) (e:∀ x y,q x y=p x y):OpB X f q:=by
 have:q=p:=by funext x y;exact e x y
 rw [this];exact h
theorem zbv {op:CmpOp} {p:D->D->Option Bool} {f g:M D} (o:OpB X (compareOp op) p) (ha:PE X a (tD X.K B G0 f)) (hb:PE X b (tD X.K B G0 g)) (hm:behindInMarks op b=false) :
  PT X (.Compare a [op] [b] pos) (tBo X.K B G0 (dBin p f g)):=by
 obtain ⟨r,h,i⟩:=o
 refine ptof (zgO h ha hb hm) fun σ H Q q=>?_
 refine tM.two q fun v u H2 G ρ x y k rx ry a=>?_
 obtain ⟨d,e,a⟩:=a.opt
 exact i v u G H2 x y d _ k.gh rx ry e ⟨d,rfl,a.now k rfl⟩
def mMap {α β : Type} (h : α -> β) (f:M α):M β:=zav f fun x=>zag (h x)
theorem tM.map {K:PySem.W.Frag} {α β γ δ : Type} {R:Hp -> γ -> α -> Prop} {S:Hp -> δ -> β -> Prop} {σ : St} {H:Hp} {h : α -> β} {f:M α} {Q : δ -> Hp->Prop} (j : γ -> δ) (q:tM K B G0 S (mMap h f) σ H Q)
  (i:∀ G v x,R G v x->S G (j v) (h x)):tM K B G0 R f σ H (fun v H'=>Q (j v) H') :=
 tM.one (R:=R) (f:=f) q fun v H2 G ρ x k r a=>aft.now (show aft K B G0 S (.ok (h x) ρ) G σ Q from a) k (i G v x r)
theorem tBo.val {K:PySem.W.Frag} {σ : St} {H:Hp} {f:M Bool} {Q:VK} (q:tD K B G0 (mMap PyData.bool f) σ H Q):tBo K B G0 f σ H (fun b H'=>Q (.bl b) H') :=
 tM.map (R:=fun _ b c=>b=c) V.bl q fun G v x e=>by rw [e];exact .bl x
theorem zfe {op:CmpOp} {p:D->D->Option Bool} {f g:M D} (o:OpB X (compareOp op) p) (ha:PE X a (tD X.K B G0 f)) (hb:PE X b (tD X.K B G0 g)) (hm:behindInMarks op b=false) :
  PE X (.Compare a [op] [b] pos) (tD X.K B G0 (mMap PyData.bool (dBin p f g))):=by
 obtain ⟨r,h,i⟩:=o
 refine peof (zi8 h ha hb hm) fun σ H Q q=>?_
 refine tM.two (tBo.val q) fun v u H2 G ρ x y k rx ry a=>?_
 obtain ⟨d,e,a⟩:=a.opt
 exact i v u G H2 x y d _ k.gh rx ry e (a.now k rfl)
def zek (p q:D->D->Option Bool) (f g h:M D):M Bool:=zav f fun x=>zav g fun y=>zav (mOpt (p x y)) fun t=>if t=true then zav h fun z=>mOpt (q y z) else zag false
theorem zf0 {op op':CmpOp} {p q:D->D->Option Bool} {f g h:M D} (o:OpB X (compareOp op) p) (o':OpB X (compareOp op') q) (ha:PE X a (tD X.K B G0 f)) (hb:PE X b (tD X.K B G0 g)) (hc:PE X c (tD X.K B G0 h))
  (hm:lastMarks [op,op'] [b,c]=false:=by with_unfolding_all rfl):PT X (.Compare a [op,op'] [b,c] pos) (tBo X.K B G0 (zek p q f g h)):=by
 obtain ⟨r,h1,i⟩:=o
 obtain ⟨r',h2,i'⟩:=o'
 refine ptof (zk8 h1 h2 ha hb hc hm) fun σ H Q w=>?_
 refine tM.two w fun v u H2 G ρ x y k rx ry a=>?_
 cases z:p x y with
 | none=>rw [z] at a;exact a.elim
 | some t =>
  rw [z] at a
  refine i v u G H2 x y t _ k.gh rx ry z ⟨t,rfl,?_⟩
  cases t with
  | false =>
   rw [if_neg Bool.false_ne_true]
   exact ⟨false,rfl,aft.now a k rfl⟩
  | true =>
   rw [if_pos rfl]
   refine ⟨G,ρ,k,?_⟩
   have a4:aft X.K B G0 (fun _ (b:Bool) c=>b=c) ((zav h fun z=>mOpt (q y z)) ρ) G σ Q:=a
   unfold zav at a4
   cases z2:h ρ with
   | bad=>rw [z2] at a4;exact a4.elim
   | ok d ρ1 =>
    rw [z2] at a4
    intro w G5 H5 k5 s5 r5
    obtain ⟨t2,e2,a6⟩:=a4.opt
    exact i' u w G5 H5 y d t2 _ k5.gh (ry.mono s5) r5 e2 ⟨t2,rfl,a6 t2 G5 H5 k5 s5 rfl⟩
theorem zjm {op op':CmpOp} {p q:D->D->Option Bool} {f g h:M D} (o:OpB X (compareOp op) p) (o':OpB X (compareOp op') q) (ha:PE X a (tD X.K B G0 f)) (hb:PE X b (tD X.K B G0 g)) (hc:PE X c (tD X.K B G0 h))
  (hm:lastMarks [op,op'] [b,c]=false:=by with_unfolding_all rfl):PE X (.Compare a [op,op'] [b,c] pos) (tD X.K B G0 (mMap PyData.bool (zek p q f g h))):=by
 obtain ⟨r,h1,i⟩:=o
 obtain ⟨r',h2,i'⟩:=o'
 refine peof (zk7 h1 h2 ha hb hc hm) fun σ H Q w=>?_
 refine tM.two (tBo.val w) fun v u H2 G ρ x y k rx ry a=>?_
 cases z:p x y with
 | none=>rw [z] at a;exact a.elim
 | some t =>
  rw [z] at a
  refine i v u G H2 x y t _ k.gh rx ry z ⟨t,rfl,?_⟩
  cases t with
  | false =>
   rw [if_neg Bool.false_ne_true]
   exact aft.now (v:=false) a k rfl
  | true =>
   rw [if_pos rfl]
   refine ⟨G,ρ,k,?_⟩
   have a4:aft X.K B G0 (fun _ (b:Bool) c=>b=c) ((zav h fun z=>mOpt (q y z)) ρ) G σ (fun b H'=>Q (.bl b) H'):=a
   unfold zav at a4
   cases z2:h ρ with
   | bad=>rw [z2] at a4;exact a4.elim
   | ok d ρ1 =>
    rw [z2] at a4
    intro w G5 H5 k5 s5 r5
    obtain ⟨t2,e2,a6⟩:=a4.opt
    exact i' u w G5 H5 y d t2 _ k5.gh (ry.mono s5) r5 e2 (a6 t2 G5 H5 k5 s5 rfl)
def oIB (g:Int->Int->Bool):D->D->Option Bool
 | .int i,.int j=>some (g i j)
 | _,_=>none
theorem OpB.int {f:Value->Value->Sem Value} {g:Int->Int->Bool} (h:OpR X f (rI0 fun i j=>.bl (g i j))):OpB X f (oIB g):=by
 refine ⟨_,h,fun v u G H x y d Q s rx ry e k=>?_⟩
 unfold oIB at e
 split at e
 ·cases e
  exact ⟨_,_,rx.int_inv,ry.int_inv,k⟩
 ·cases e
theorem B_lt:OpB X (compareOp .Lt) (oIB fun i j=>decide (i < j)):=.int zpn
theorem B_le:OpB X (compareOp .LtE) (oIB fun i j=>decide (i<=j)):=.int zpo
theorem B_gt:OpB X (compareOp .Gt) (oIB fun i j=>decide (j < i)):=.int zpp
theorem B_ge:OpB X (compareOp .GtE) (oIB fun i j=>decide (j<=i)):=.int zpq
mutual
theorem zbB {pins:List (Addr × Obj)} {s:Shared} {σ : St} {G H:Hp} (I:Inv X pins σ H s) (sg:Same G H):∀ {v:V} {d:D} {u:Value},Rep X.K G v d->RelV v u->d.canLay0=true->∃ as,Reads s.heap u d as
 | _,_,_,.non,r,_=>by cases r;exact ⟨_,.none⟩
 | _,_,_,.bl b,r,_=>by cases r;exact ⟨_,.bool b⟩
 | _,_,_,.int i,r,_=>by obtain ⟨t,rfl⟩:=r;exact ⟨_,.int i t⟩
 | _,_,_,.str x,r,_=>by obtain ⟨t,rfl⟩:=r;exact ⟨_,.str x t⟩
 | _,_,_,.lst h q,r,c=>by
  cases r
  obtain ⟨its,rv,⟨o,n,e,hc,_,hd⟩,hz⟩:=I.list (sg.seq h)
  obtain ⟨as,ra⟩:=readsAll_of I sg q rv (show PyData.canLayAll0 _=true by simpa [PyData.canLay0] using c)
  exact ⟨_,.list e hc hd (by simpa using ra)⟩
 | _,_,_,.tup h q,r,c=>by
  cases r
  obtain ⟨its,rv,p,hz⟩:=I.tuple (zc4 sg h)
  obtain ⟨o,e,hc,n,hd⟩:=p
  obtain ⟨as,ra⟩:=readsAll_of I sg q rv (show PyData.canLayAll0 _=true by simpa [PyData.canLay0] using c)
  exact ⟨_,.tuple e hc hd (by simpa using ra)⟩
 | _,_,_,.dic h,r,c=>by simp [PyData.canLay0] at c
 | _,_,_,.exc _ _ _ _,r,c=>by simp [PyData.canLay0] at c
 | _,_,_,.dct _ _ _ _ _,r,c=>by simp [PyData.canLay0] at c
 | _,_,_,.dtt _ _ _ _,r,c=>by simp [PyData.canLay0] at c
theorem readsAll_of {pins:List (Addr × Obj)} {s:Shared} {σ : St} {G H:Hp} (I:Inv X pins σ H s) (sg:Same G H):∀ {vs:List V} {ds:List D} {us:List Value},Reps X.K G vs ds->Vals vs us->PyData.canLayAll0 ds=true->∃ as,ReadsAll s.heap us ds as
 | _,_,_,.nil,r,_=>by cases r;exact ⟨_,.nil⟩
 | _,_,_,.cons h t,r,c=>by
  cases r with
  | cons r1 r2 =>
   have c':=c
   rw [PyData.canLayAll0,Bool.and_eq_true] at c'
   obtain ⟨as,ra⟩:=zbB I sg h r1 c'.1
   obtain ⟨bs,rb⟩:=readsAll_of I sg t r2 c'.2
   exact ⟨_,.cons ra rb⟩
end
def oEq (x y:D):Option Bool:=if x.canLay0=true/\y.canLay0=true/\x.depth<=60 then some (PyData.eqv x y) else none
def oNe (x y:D):Option Bool:=if x.canLay0=true/\y.canLay0=true/\x.depth<=60 then some (!PyData.eqv x y) else none
theorem B_eq (hu:X.A.units+64 < cLine):OpB X (compareOp .Eq) oEq:=by
 refine ⟨fun v u H Q=>∃ G x y d,Same G H/\Rep X.K G v x/\Rep X.K G u y/\oEq x y=some d/\Q (.bl d) H,?_,fun v u G H x y d Q s rx ry e k=>⟨G,x,y,d,s,rx,ry,e,k⟩⟩
 intro pins s σ H x y v u Q I rx ry ⟨G,dx,dy,d,sg,px,py,e,q⟩
 unfold oEq at e
 split at e
 ·rename_i c
  cases e
  obtain ⟨as,ra⟩:=zbB I sg px rx c.1
  obtain ⟨bs,rb⟩:=zbB I sg py ry c.2.1
  exact SeqAt.compareEq_reads ra rb c.1 c.2.1 (by have:=c.2.2;omega) ⟨.bl _,H,I,rfl,q⟩
 ·cases e
theorem B_ne (hu:X.A.units+64 < cLine):OpB X (compareOp .NotEq) oNe:=by
 refine ⟨fun v u H Q=>∃ G x y d,Same G H/\Rep X.K G v x/\Rep X.K G u y/\oNe x y=some d/\Q (.bl d) H,?_,fun v u G H x y d Q s rx ry e k=>⟨G,x,y,d,s,rx,ry,e,k⟩⟩
 intro pins s σ H x y v u Q I rx ry ⟨G,dx,dy,d,sg,px,py,e,q⟩
 unfold oNe at e
 split at e
 ·rename_i c
  cases e
  obtain ⟨as,ra⟩:=zbB I sg px rx c.1
  obtain ⟨bs,rb⟩:=zbB I sg py ry c.2.1
  exact SeqAt.compareNe_reads ra rb c.1 c.2.1 (by have:=c.2.2;omega) ⟨.bl _,H,I,rfl,q⟩
 ·cases e
def isNon:D->Bool
 | .none=>true
 | _=>false
theorem Rep.isNon {K:PySem.W.Frag} {G:Hp} {v:V} {d:D} (r:Rep K G v d):DL.isNon d=decide (v=.non):=by
 cases r <;> simp [DL.isNon]
end
section
variable {X:Cx} {B G0:Hp} {e a b c:Expr} {pos:Pos} {es rest:List Expr}
theorem tM.nx {K:PySem.W.Frag} {α β γ δ : Type} {R:Hp -> γ -> α -> Prop} {S:Hp -> δ -> β -> Prop} {σ : St} {G H:Hp} {ρ : DEnv} {f:M α} {g : α -> M β} {Q : δ -> Hp->Prop} {P : γ -> Hp->Prop}
  (k:EOk K B G0 G H σ ρ) (a:aft K B G0 S (zav f g ρ) G σ Q) (i:∀ v H' G' ρ' x,EOk K B G0 G' H' σ ρ'->Same G G'->R G' v x->aft K B G0 S (g x ρ') G' σ Q->P v H'):tM K B G0 R f σ H P:=by
 refine ⟨G,ρ,k,?_⟩
 unfold zav at a
 cases q:f ρ with
 | bad=>rw [q] at a;exact a.elim
 | ok d ρ1 =>
  rw [q] at a
  exact fun v G' H' e s r=>i v H' G' ρ1 d e s r (aft.mono s a)
def mAnd (f g:M Bool):M Bool:=zav f fun t=>if t=true then g else zag false
def mOr (f g:M Bool):M Bool:=zav f fun t=>if t=true then zag true else g
def mNot (f:M Bool):M Bool:=mMap (fun t=>!t) f
theorem zm1 {K:PySem.W.Frag} {f g:M Bool} {σ : St} {H:Hp} {Q:Bool->Hp->Prop} (q:tBo K B G0 (mAnd f g) σ H Q):tAnd (tBo K B G0 f) (tBo K B G0 g) σ H Q :=
 tM.one (R:=fun _ b c=>b=c) q fun v H2 G ρ x k r a=>by
  have r:v=x:=r
  subst r
  cases v with
  | true=>exact ⟨G,ρ,k,a⟩
  | false=>exact aft.now (v:=false) a k rfl
theorem zoq {K:PySem.W.Frag} {f g:M Bool} {σ : St} {H:Hp} {Q:Bool->Hp->Prop} (q:tBo K B G0 (mOr f g) σ H Q):tOr (tBo K B G0 f) (tBo K B G0 g) σ H Q :=
 tM.one (R:=fun _ b c=>b=c) q fun v H2 G ρ x k r a=>by
  have r:v=x:=r
  subst r
  cases v with
  | false=>exact ⟨G,ρ,k,a⟩
  | true=>exact aft.now (v:=true) a k rfl
theorem pwof {t t':TT} (h:PW X e t) (i:∀ σ H Q,t' σ H Q->t σ H Q):PW X e t':=fun wh pins s σ H Q I q=>h wh pins s σ H Q I (i σ H Q q)
theorem zff {f:M Bool} (ha:PT X a (tBo X.K B G0 f)):PW X (.BoolOp .And [a] pos) (tBo X.K B G0 f):=zmA ha
theorem zbK {f:M Bool} (ha:PT X a (tBo X.K B G0 f)):PW X (.BoolOp .Or [a] pos) (tBo X.K B G0 f):=znR ha
theorem zgT {f g:M Bool} (ha:PT X a (tBo X.K B G0 f)) (hb:PW X (.BoolOp .And (b :: rest) pos) (tBo X.K B G0 g)):PW X (.BoolOp .And (a :: b :: rest) pos) (tBo X.K B G0 (mAnd f g)):=pwof (znS ha hb) fun _ _ _ q=>zm1 q
theorem zcd {f g:M Bool} (ha:PT X a (tBo X.K B G0 f)) (hb:PW X (.BoolOp .Or (b :: rest) pos) (tBo X.K B G0 g)):PW X (.BoolOp .Or (a :: b :: rest) pos) (tBo X.K B G0 (mOr f g)):=pwof (zpb ha hb) fun _ _ _ q=>zoq q
theorem za4 {f:M Bool} (ha:PT X a (tBo X.K B G0 f)):PT X (.UnaryOp .Not a pos) (tBo X.K B G0 (mNot f)):=ptof (znT ha) fun σ H Q q=>tM.map (R:=fun _ b c=>b=c) (fun t=>!t) q fun _ v x e=>by rw [e]
def zbb (f:M D):M Bool:=zav f fun x=>match x with | .bool t=>zag t | _=>fun _=>.bad
theorem za9 {f:M D} (h:PE X e (tD X.K B G0 f)) (he:∀ whole,isTrue e X.env whole=(do let v ← whole;standAt e.pos;holding [v] (truthy v)):=by intro _;rfl):PT X e (tBo X.K B G0 (zbb f)) :=
 ptof (znQ h he) fun σ H Q q=>tM.one (R:=Rep X.K) q fun v H2 G ρ x k r a=>by
  cases x with
  | bool t=>exact ⟨t,r.bl_inv,aft.now (v:=t) a k rfl⟩
  | _=>exact a.elim
def zd0 (f g:M D):M D:=zav f fun x=>match x with | .bool true=>g | .bool false=>zag (.bool false) | _=>fun _=>.bad
def mOrV (f g:M D):M D:=zav f fun x=>match x with | .bool true=>zag (.bool true) | .bool false=>g | _=>fun _=>.bad
def zjn (f:M D):M D:=zav f fun x=>match x with | .bool t=>zag (.bool (!t)) | _=>fun _=>.bad
theorem zcL {f g:M D} (ha:PE X a (tD X.K B G0 f)) (hb:PE X (.BoolOp .And (b :: rest) pos) (tD X.K B G0 g)):PE X (.BoolOp .And (a :: b :: rest) pos) (tD X.K B G0 (zd0 f g)) :=
 peof (znV ha hb) fun σ H Q q=>tM.one (R:=Rep X.K) q fun v H2 G ρ x k r a=>by
  cases x with
  | bool t =>
   refine ⟨t,r.bl_inv,?_⟩
   cases t with
   | true=>exact ⟨G,ρ,k,a⟩
   | false=>exact aft.now a k (.bl false)
  | _=>exact a.elim
theorem zor {f g:M D} (ha:PE X a (tD X.K B G0 f)) (hb:PE X (.BoolOp .Or (b :: rest) pos) (tD X.K B G0 g)):PE X (.BoolOp .Or (a :: b :: rest) pos) (tD X.K B G0 (mOrV f g)) :=
 peof (zpe ha hb) fun σ H Q q=>tM.one (R:=Rep X.K) q fun v H2 G ρ x k r a=>by
  cases x with
  | bool t =>
   refine ⟨t,r.bl_inv,?_⟩
   cases t with
   | false=>exact ⟨G,ρ,k,a⟩
   | true=>exact aft.now a k (.bl true)
  | _=>exact a.elim
theorem zcz {op} {f:M D} (h:PE X a (tD X.K B G0 f)):PE X (.BoolOp op [a] pos) (tD X.K B G0 f):=znU h
theorem zjo {f:M D} (ha:PE X a (tD X.K B G0 f)):PE X (.UnaryOp .Not a pos) (tD X.K B G0 (zjn f)) :=
 peof (znW ha) fun σ H Q q=>tM.one (R:=Rep X.K) q fun v H2 G ρ x k r a=>by
  cases x with
  | bool t=>exact ⟨t,r.bl_inv,aft.now a k (.bl _)⟩
  | _=>exact a.elim
def mIf {α : Type} (f:M Bool) (g h:M α):M α:=zav f fun t=>if t=true then g else h
theorem zjp {f:M Bool} {g h:M D} (hc:PT X c (tBo X.K B G0 f)) (ha:PE X a (tD X.K B G0 g)) (hb:PE X b (tD X.K B G0 h)):PE X (.IfExp c a b pos) (tD X.K B G0 (mIf f g h)) :=
 peof (zk5 hc ha hb) fun σ H Q q=>tM.one (R:=fun _ b c=>b=c) q fun v H2 G ρ x k r a=>by
  have r:v=x:=r
  subst r
  cases v with
  | true=>exact ⟨G,ρ,k,a⟩
  | false=>exact ⟨G,ρ,k,a⟩
theorem zm2 {f:M D} {j p2} (ha:PE X a (tD X.K B G0 f)):PT X (.Compare a [.Is] [.Constant .none j p2] pos) (tBo X.K B G0 (mMap isNon f)) :=
 ptof (zl8 (zl7 ha)) fun σ H Q q=>tM.one (R:=Rep X.K) q fun v H2 G ρ x k r a=>⟨_,rfl,aft.now a k (by rw [r.isNon])⟩
theorem zhG {f:M D} {j p2} (ha:PE X a (tD X.K B G0 f)):PT X (.Compare a [.IsNot] [.Constant .none j p2] pos) (tBo X.K B G0 (mMap (fun d=>!isNon d) f)) :=
 ptof (zl8 (zmz ha)) fun σ H Q q=>tM.one (R:=Rep X.K) q fun v H2 G ρ x k r a=>⟨_,rfl,aft.now a k (by dsimp only;rw [r.isNon])⟩
theorem zm3 {f:M D} {j p2} (ha:PE X a (tD X.K B G0 f)):PE X (.Compare a [.Is] [.Constant .none j p2] pos) (tD X.K B G0 (mMap (fun d=>.bool (isNon d)) f)) :=
 peof (znP (zl7 ha)) fun σ H Q q=>tM.one (R:=Rep X.K) q fun v H2 G ρ x k r a=>aft.now a k (by dsimp only;rw [r.isNon];exact .bl _)
def mNil:M (List D):=zag []
def zaf (f:M D) (g:M (List D)):M (List D):=zav f fun x=>zav g fun xs=>zag (x :: xs)
theorem zah:PA X [] (tDs X.K B G0 mNil):=paof zdd fun σ H Q ⟨G,ρ,k,a⟩=>aft.now a k .nil
theorem tM.twoA {K:PySem.W.Frag} {σ : St} {H:Hp} {f:M D} {g:M (List D)} {β δ : Type} {S:Hp -> δ -> β -> Prop} {k:D->List D->M β} {Q : δ -> Hp->Prop} {P:V->List V->Hp->Prop}
  (h:tM K B G0 S (zav f fun x=>zav g fun y=>k x y) σ H Q)
  (i:∀ v u H2 G ρ x y,EOk K B G0 G H2 σ ρ -> Rep K G v x->Reps K G u y->aft K B G0 S (k x y ρ) G σ Q->P v u H2) :
  tD K B G0 f σ H (fun v H1=>tDs K B G0 g σ H1 fun u H2=>P v u H2):=by
 obtain ⟨G,ρ,e,a⟩:=tM.bind2 (R:=Rep K) (R':=Reps K) zjj h
 refine ⟨G,ρ,e,?_⟩
 cases q:f ρ with
 | bad=>rw [q] at a;exact a.elim
 | ok d ρ1 =>
  rw [q] at a
  intro v G' H' e' s r
  obtain ⟨x,G2,ρ2,e2,a2⟩:=a v G' H' e' s r
  refine ⟨G2,ρ2,e2,?_⟩
  cases q2:g ρ2 with
  | bad=>rw [q2] at a2;exact a2.elim
  | ok d3 ρ3 =>
   rw [q2] at a2
   intro u G3 H3 e3 s3 r3
   obtain ⟨G4,ρ4,y,e4,r4,r5,a5⟩:=a2 u G3 H3 e3 s3 r3
   exact i v u H3 G4 ρ4 x y e4 r4 r5 a5
theorem zaa {f:M D} {g:M (List D)} (ha:PE X e (tD X.K B G0 f)) (hr:PA X es (tDs X.K B G0 g)) (hs:starEach (e :: es) X.env=(false,eval e X.env) :: starEach es X.env:=by rfl) :
  PA X (e :: es) (tDs X.K B G0 (zaf f g)):=paof (zbX ha hr hs) fun σ H Q q=>tM.twoA q fun v u H2 G ρ x y k r1 r2 a=>aft.now a k (.cons r1 r2)
def mTup (f:M (List D)):M D:=zav f fun xs=>if xs.length<=1000000 then zag (.tuple xs) else fun _=>.bad
def mLst (f:M (List D)):M D:=zav f fun xs=>if xs.length<=1000000 then zag (.list xs) else fun _=>.bad
theorem zcA {x1} {f:M (List D)} (h:PA X es (tDs X.K B G0 f)):PE X (.Tuple es x1 pos) (tD X.K B G0 (mTup f)) :=
 peof (zmd h) fun σ H Q q=>tM.one (R:=Reps X.K) q fun v H2 G ρ x k r a=>by
  split at a
  ·rename_i c
   refine ⟨by rw [r.length];exact Nat.le_trans c lim,fun p hp=>?_⟩
   exact aft.done a k (Ext.new k.gh hp) (.tup (SqT.of zaD) (r.mono (zaO (k.gh.free hp))))
  ·exact a.elim
theorem zba {f:M (List D)} (h:PA X es (tDs X.K B G0 f)):PE X (.List es pos) (tD X.K B G0 (mLst f)) :=
 peof (zme h) fun σ H Q q=>tM.one (R:=Reps X.K) q fun v H2 G ρ x k r a=>by
  split at a
  ·rename_i c
   refine ⟨by rw [r.length];exact Nat.le_trans c lim,fun p hp=>?_⟩
   exact aft.done a k (Ext.new k.gh hp) (.lst (SqL.of zaD) (r.mono (zaO (k.gh.free hp))))
  ·exact a.elim
def oIx:D->D->Option D
 | .list xs,.int i=>atI xs i
 | .tuple xs,.int i=>atI xs i
 | .str z,.int i=>if z.length<=1000000 then (atI z.cps.toList i).map fun c=>.str ⟨#[c]⟩ else none
 | _,_=>none
theorem Reps.atI {K:PySem.W.Frag} {G:Hp} {vs:List V} {ds:List D} {i:Int} {d:D} (r:Reps K G vs ds) (h:L2.atI ds i=some d):∃ v,L2.atI vs i=some v/\Rep K G v d:=by
 unfold L2.atI at h ⊢
 rw [r.length]
 cases z:ixN ds.length i with
 | none=>rw [z] at h;cases h
 | some j =>
  rw [z] at h
  exact r.get (i:=j) h
theorem zmh {K:PySem.W.Frag} {v u:V} {G H:Hp} {x y d:D} {Q:VK} (s:Same G H) (rx:Rep K G v x) (ry:Rep K G u y) (e:oIx x y=some d) (k:∀ w,Rep K G w d->Q w H):rIx K v u H Q:=by
 unfold oIx at e
 split at e
 ·obtain ⟨l,vs,rfl,h1,r1⟩:=rx.lst_inv
  obtain ⟨w,e1,r2⟩:=r1.atI e
  exact .inl ⟨l,vs,_,w,rfl,ry.int_inv,s.seq h1,e1,k w r2⟩
 ·obtain ⟨l,vs,rfl,h1,r1⟩:=rx.tup_inv
  obtain ⟨w,e1,r2⟩:=r1.atI e
  exact .inr (.inl ⟨l,vs,_,w,rfl,ry.int_inv,zc4 s h1,e1,k w r2⟩)
 ·split at e
  ·rename_i z i hz
   cases q:L2.atI z.cps.toList i with
   | none=>rw [q] at e;cases e
   | some ch =>
    rw [q] at e
    cases e
    exact .inr (.inr ⟨z,i,ch,rx.str_inv,ry.int_inv,Nat.le_trans hz lim,q,k _ (.str _)⟩)
  ·cases e
 ·cases e
theorem zcM {f g:M D} (ha:PE X a (tD X.K B G0 f)) (hb:PE X b (tD X.K B G0 g)) (hs:zgR b):PE X (.Subscript a b pos) (tD X.K B G0 (dBin oIx f g)) :=
 peof (zn8 zmf ha hb hs) fun σ H Q q=>tM.two q fun v u H2 G ρ x y k rx ry a=>by
  obtain ⟨d,e,a⟩:=a.opt
  exact zmh k.gh rx ry e fun w r=>a.now k r
def dIxN (i:Nat) (g:M D):M D:=fun ρ=>match ρ[i]? with
 | some (some (.pub d))=>(zav g fun y=>mOpt (oIx d y)) ρ
 | some (some (.own _))=>(zav g fun y=>fun ρ'=>match ρ'[i]? with | some (some (.own ds))=>mOpt (oIx (.list ds) y) ρ' | _=>.bad) ρ
 | _=>.bad
theorem zar {i:Nat} {g:M D} (ha:PE X a (tVar i)) (hb:PE X b (tD X.K B G0 g)) (hs:zgR b):PE X (.Subscript a b pos) (tD X.K B G0 (dIxN i g)) :=
 peof (zn8 zmf ha hb hs) fun σ H Q ⟨G,ρ,k,a⟩=>by
  unfold dIxN at a
  cases q : ρ[i]? with
  | none=>rw [q] at a;exact a.elim
  | some o =>
   cases o with
   | none=>rw [q] at a;exact a.elim
   | some sl =>
    cases sl with
    | pub d =>
     rw [q] at a
     obtain ⟨v,h1,h2⟩:=k.pub i d q
     refine ⟨v,h1,G,ρ,k,?_⟩
     dsimp only [zav] at a
     cases z:g ρ with
     | bad=>rw [z] at a;exact a.elim
     | ok y ρ1 =>
      rw [z] at a
      intro u G' H' k' s' r'
      obtain ⟨d',e',a'⟩:=aft.opt a
      exact zmh k'.gh (h2.mono s') r' e' fun w r=>a' w G' H' k' s' r
    | own ds =>
     rw [q] at a
     obtain ⟨ad,vs,h1,h2,h3,h4,h5⟩:=k.own i ds q
     refine ⟨.ref ad,h1,G,ρ,k,?_⟩
     dsimp only [zav] at a
     cases z:g ρ with
     | bad=>rw [z] at a;exact a.elim
     | ok y ρ1 =>
      rw [z] at a
      dsimp only at a
      intro u G' H' k' s' r'
      cases z2 : ρ1[i]? with
      | none=>rw [z2] at a;exact a.elim
      | some o2 =>
       cases o2 with
       | none=>rw [z2] at a;exact a.elim
       | some sl2 =>
        cases sl2 with
        | pub d2=>rw [z2] at a;exact a.elim
        | own es2 =>
         rw [z2] at a
         obtain ⟨d',e',a'⟩:=aft.opt a
         obtain ⟨ad',vs',g1,g2,g3,g4,g5⟩:=k'.own i es2 z2
         rw [h1] at g1
         cases g1
         unfold oIx at e'
         cases y with
         | int j =>
          obtain ⟨w,e1,r2⟩:=g5.atI e'
          exact .inl ⟨ad,vs',j,w,rfl,r'.int_inv,SqL.of g4,e1,a' w G' H' k' s' r2⟩
         | _=>cases e'
def cutD (xs:List D) (lo hi:Option Int):List D:=(xs.drop (HT.sIx xs.length 0 lo)).take (HT.sIx xs.length xs.length hi - HT.sIx xs.length 0 lo)
theorem Reps.cut {K:PySem.W.Frag} {G:Hp} {vs:List V} {ds:List D} (r:Reps K G vs ds) (lo hi:Option Int):Reps K G (cutV vs lo hi) (cutD ds lo hi):=by
 unfold cutV cutD
 rw [r.length]
 exact (r.drop _).take _
def zel:D->Option (Option Int)
 | .int i=>some (some i)
 | _=>none
theorem zhH:PO X none (tOi X.K B G0 (zag none)):=poof zmH fun σ H Q ⟨G,ρ,k,a⟩=>aft.now a k rfl
theorem zcB {f:M D} (h:PE X e (tD X.K B G0 f)):PO X (some e) (tOi X.K B G0 (zav f fun x=>mOpt (zel x))):=poof (zmI h) fun σ H Q q=>tM.one (R:=Rep X.K) q fun v H2 G ρ x k r a=>by
 cases x with
 | int i=>exact ⟨i,r.int_inv,aft.now (v:=some i) a k rfl⟩
 | _=>exact a.elim
end
def excK:List (D × D)->Bool
 | (.none,_) :: _=>true
 | _=>false
def tyOf:D->String
 | .none => "NoneType"
 | .bool _ => "bool"
 | .int _ => "int"
 | .str _ => "str"
 | .list _ => "list"
 | .tuple _ => "tuple"
 | .dict kvs=>if excK kvs=true then "" else "dict"
def isTy (d:D) (c:String):Bool:=tyOf d == c || (tyOf d == "bool" && c == "int")
def zjq:D->Bool
 | .dict kvs=>excK kvs
 | _=>false
theorem nty {kvs:List (D × D)} {c:String} (h:(("dict" == c) || ("" == c))=false):isTy (.dict kvs) c=false:=by
 obtain ⟨h1,h2⟩:=Bool.or_eq_false_iff.mp h
 show ((if excK kvs=true then "" else "dict") == c || ((if excK kvs=true then "" else "dict") == "bool" && c == "int"))=false
 cases excK kvs with
 | true=>rw [if_pos rfl,h2];rfl
 | false=>rw [if_neg (by decide),h1];rfl
theorem zmi {ks:List Key} {ds:List D}:tyOf (.dict ((ks.map kD).zip ds)) = "dict" /\ zjq (.dict ((ks.map kD).zip ds))=false:=by
 cases ks with
 | nil=>exact ⟨rfl,rfl⟩
 | cons k ks =>
  cases ds with
  | nil=>exact ⟨rfl,rfl⟩
  | cons d ds=>cases k <;> exact ⟨rfl,rfl⟩
theorem zm4 (K:PySem.W.Frag) (d:D) (c:String) (nx:zjq d=false) (hc:c = "int" ∨ c = "bool" ∨ c = "str" ∨ c = "list" ∨ c = "tuple" ∨ c = "dict"):PySem.W.kitOne K (.type (tyOf d)) (.type c)=some (isTy d c):=by
 cases d with
 | dict kvs =>
  have e:tyOf (.dict kvs) = "dict" := by
   have nx:excK kvs=false:=nx
   show (if excK kvs=true then "" else "dict")=_
   rw [nx];rfl
  unfold isTy
  rw [e]
  rcases hc with rfl | rfl | rfl | rfl | rfl | rfl <;> rfl
 | _=>rcases hc with rfl | rfl | rfl | rfl | rfl | rfl <;> rfl
section
variable {X:Cx} {B G0:Hp} {e a b c:Expr} {pos:Pos} {es rest:List Expr}
def zc5 (X:Cx) (f:Value) (p:List D->Option D):Prop :=
 ∃ r,zcJ X f r/\∀ vs G H ds d Q,Same G H->Reps X.K G vs ds->p ds=some d->(∀ w G' H',Ext G H G' H'->Rep X.K G' w d->Q w H')->r vs H Q
def zbe (p:List D->Option D) (f:M (List D)):M D:=zav f fun xs=>mOpt (p xs)
theorem zaB {x:Str} {p2:Pos} {id:String} {p:List D->Option D} {f:M (List D)} (hc:zc5 X (.builtin id) p) (hg:Gl X x) (hm:X.mg x=none) (hv:bootBuiltins x=some (.builtin id)) (ha:PA X (e :: es) (tDs X.K B G0 f)) (hn:x ≠ "__name__" := by decide) (hdb:(x == ("__debug__" : Str))=false:=by decide)
  (he:starEach (e :: es) X.env=(false,eval e X.env) :: starEach es X.env:=by rfl) (hpl:(backTo pos (starEach es X.env)).any (·.1)=false:=by rfl):PE X (.Call (.Name x p2) (e :: es) [] pos) (tD X.K B G0 (zbe p f)):=by
 obtain ⟨r,h,i⟩:=hc
 refine peof (zd5 h hg hm hv ha hn hdb he hpl) fun σ H Q q=>tM.one (R:=Reps X.K) q fun v H2 G ρ x k rr a=>?_
 obtain ⟨d,e,a⟩:=a.opt
 exact i v G H2 x d Q k.gh rr e fun w G' H' ex rw=>a.done k ex rw
theorem zii {x:Str} {p2:Pos} {T:String} {p:List D->Option D} {f:M (List D)} (hc:zc5 X (.type T) p) (hg:Gl X x) (hm:X.mg x=none) (hv:bootBuiltins x=some (.type T)) (ha:PA X (e :: es) (tDs X.K B G0 f)) (hn:x ≠ "__name__" := by decide) (hdb:(x == ("__debug__" : Str))=false:=by decide)
  (he:starEach (e :: es) X.env=(false,eval e X.env) :: starEach es X.env:=by rfl) (hpl:(backTo pos (starEach es X.env)).any (·.1)=false:=by rfl):PE X (.Call (.Name x p2) (e :: es) [] pos) (tD X.K B G0 (zbe p f)):=by
 obtain ⟨r,h,i⟩:=hc
 refine peof (zde h hg hm hv ha hn hdb he hpl) fun σ H Q q=>tM.one (R:=Reps X.K) q fun v H2 G ρ x k rr a=>?_
 obtain ⟨d,e,a⟩:=a.opt
 exact i v G H2 x d Q k.gh rr e fun w G' H' ex rw=>a.done k ex rw
theorem Reps.nil_inv {K:PySem.W.Frag} {G:Hp} {vs:List V} (r:Reps K G vs []):vs=[]:=by cases r;rfl
theorem Reps.one_inv {K:PySem.W.Frag} {G:Hp} {vs:List V} {d:D} (r:Reps K G vs [d]):∃ v,vs=[v]/\Rep K G v d:=by
 cases r with
 | cons h t=>cases t;exact ⟨_,rfl,h⟩
theorem Reps.two_inv {K:PySem.W.Frag} {G:Hp} {vs:List V} {d d':D} (r:Reps K G vs [d,d']):∃ v v',vs=[v,v']/\Rep K G v d/\Rep K G v' d':=by
 cases r with
 | cons h t =>
  obtain ⟨v',rfl,r'⟩:=t.one_inv
  exact ⟨_,v',rfl,h,r'⟩
def oLen:List D->Option D
 | [.list xs]=>some (.int xs.length)
 | [.tuple xs]=>some (.int xs.length)
 | [.str z]=>if z.length<=1000000 then some (.int z.length) else none
 | _=>none
theorem zdf:zc5 X (.builtin "len") oLen:=by
 refine ⟨_,zhC,fun vs G H ds d Q s r e k=>?_⟩
 unfold oLen at e
 split at e
 ·cases e
  obtain ⟨v,rfl,q⟩:=r.one_inv
  obtain ⟨l,ws,rfl,h1,r1⟩:=q.lst_inv
  exact ⟨.ref l,ws.length,rfl,.inl ⟨ws,s.seq h1,rfl⟩,by rw [r1.length];exact k _ G H (.refl s) (.int _)⟩
 ·cases e
  obtain ⟨v,rfl,q⟩:=r.one_inv
  obtain ⟨l,ws,rfl,h1,r1⟩:=q.tup_inv
  exact ⟨.ref l,ws.length,rfl,.inr ⟨ws,zc4 s h1,rfl⟩,by rw [r1.length];exact k _ G H (.refl s) (.int _)⟩
 ·split at e
  ·rename_i z hz
   cases e
   obtain ⟨v,rfl,q⟩:=r.one_inv
   exact ⟨.str z,z.length,by rw [q.str_inv],⟨Nat.le_trans hz lim,rfl⟩,k _ G H (.refl s) (.int _)⟩
  ·cases e
 ·cases e
def zjr:List D->Option D
 | [.int i,.int j]=>some (.int (if j > i then j else i))
 | _=>none
theorem zmj (hc:X.calm=true):zc5 X (.builtin "max") zjr:=by
 refine ⟨_,zi9 hc,fun vs G H ds d Q s r e k=>?_⟩
 unfold zjr at e
 split at e
 ·cases e
  obtain ⟨v,v',rfl,r1,r2⟩:=r.two_inv
  exact ⟨_,_,by rw [r1.int_inv,r2.int_inv],k _ G H (.refl s) (.int _)⟩
 ·cases e
def zbh (i:Nat):M D:=fun ρ=>match ρ[i]? with
 | some (some (.pub d))=>mOpt (oLen [d]) ρ
 | some (some (.own ds))=>.ok (.int ds.length) ρ
 | _=>.bad
theorem zaG {i:Nat} {p2:Pos} (hg:Gl X "len") (hm:X.mg "len" = none) (ha:PE X e (tVar i)) (he:starEach [e] X.env=[(false,eval e X.env)]:=by rfl):PE X (.Call (.Name "len" p2) [e] [] pos) (tD X.K B G0 (zbh i)):=by
 refine peof (zd5 zhC hg hm PySem.boot_len (zbX ha zdd (by rw [he];rfl)) (by decide) (by decide) (by rw [he];rfl) rfl) fun σ H Q ⟨G,ρ,k,a⟩=>?_
 unfold zbh at a
 cases q : ρ[i]? with
 | none=>rw [q] at a;exact a.elim
 | some o =>
  cases o with
  | none=>rw [q] at a;exact a.elim
  | some sl =>
   cases sl with
   | pub d =>
    rw [q] at a
    obtain ⟨v,h1,h2⟩:=k.pub i d q
    refine ⟨v,h1,?_⟩
    obtain ⟨d',e',a'⟩:=aft.opt a
    obtain ⟨r,hr,ir⟩:=@zdf X
    show ∃ x n,[v]=[x]/\LenV X.K x H n/\Q (.int n) H
    unfold oLen at e'
    split at e'
    ·rename_i xs he'
     injection he' with he1 he2
     subst he1
     cases e'
     obtain ⟨l,ws,rfl,g1,r1⟩:=h2.lst_inv
     exact ⟨.ref l,ws.length,rfl,.inl ⟨ws,k.gh.seq g1,rfl⟩,by rw [r1.length];exact a'.now k (.int _)⟩
    ·rename_i xs he'
     injection he' with he1 he2
     subst he1
     cases e'
     obtain ⟨l,ws,rfl,g1,r1⟩:=h2.tup_inv
     exact ⟨.ref l,ws.length,rfl,.inr ⟨ws,zc4 k.gh g1,rfl⟩,by rw [r1.length];exact a'.now k (.int _)⟩
    ·rename_i z he'
     injection he' with he1 he2
     subst he1
     split at e'
     ·rename_i hz
      cases e'
      exact ⟨.str z,z.length,by rw [h2.str_inv],⟨Nat.le_trans hz lim,rfl⟩,a'.now k (.int _)⟩
     ·cases e'
    ·cases e'
   | own ds =>
    rw [q] at a
    obtain ⟨ad,vs,h1,g2,g3,h4,h5⟩:=k.own i ds q
    exact ⟨.ref ad,h1,.ref ad,vs.length,rfl,.inl ⟨vs,SqL.of h4,rfl⟩,by rw [h5.length];exact aft.now a k (.int _)⟩
theorem zm5 {pins:List (Addr × Obj)} {s:Shared} {σ : St} {G H:Hp} {v:V} {u:Value} {d:D} {cv:Value} {t:Bool} {A:Around} {E:Value->Shared->Prop} {Q:Value->Shared->Prop} (I:Inv X pins σ H s) (sg:Same G H) (r:Rep X.K G v d) (rv:RelV v u) (nx:zjq d=false)
  (ek:PySem.W.kitOne X.K (.type (tyOf d)) cv=some t) (h:∀ tk,Q (.bool t) { s with toks:=tk }):wpAny (model X.prog X.w) A (call (.builtin "isinstance") [u,cv]) Q E s:=by
 cases r with
 | non=>cases rv;exact PySem.W.kia_one PySem.W.kitx_none I.kIn True.intro ek (fun z=>nomatch z) h
 | bl y=>cases rv;exact PySem.W.kia_one PySem.W.kitx_bool I.kIn True.intro ek (fun z=>nomatch z) h
 | int i=>obtain ⟨t',rfl⟩:=rv;exact PySem.W.kia_one PySem.W.kitx_int I.kIn True.intro ek (fun z=>nomatch z) h
 | str y=>obtain ⟨t',rfl⟩:=rv;exact PySem.W.kia_one PySem.W.kitx_str I.kIn True.intro ek (fun z=>nomatch z) h
 | lst hl _ =>
  cases rv
  obtain ⟨its,r,⟨o,n,e,hc,_,hd⟩,hz⟩:=I.list (sg.seq hl)
  exact PySem.W.kia_one PySem.W.kitx_list I.kIn ⟨o,e,hc⟩ ek (fun z=>nomatch z) h
 | tup hl _ =>
  cases rv
  obtain ⟨its,r,p,hz⟩:=I.tuple (zc4 sg hl)
  obtain ⟨o,e,hc,_⟩:=p
  exact PySem.W.kia_one PySem.W.kitx_tuple I.kIn ⟨o,e,hc⟩ ek (fun z=>nomatch z) h
 | @dic ad hd =>
  cases rv
  obtain ⟨_,_,vs,_,p⟩:=(show zbJ X.prog X.w H s.heap ad (.dK []) from I.hok ad _ (sg _ _ hd))
  obtain ⟨o,es,ep,h1,h2,_⟩:=p
  exact PySem.W.kia_one PySem.W.kitx_dict I.kIn ⟨o,h1,h2.1⟩ ek (fun z=>nomatch z) h
 | exc _ _ _ _=>cases nx
 | @dct ad ks vs ds kvs e0 _ _ hd _ =>
  cases rv
  subst e0
  rw [zmi.1] at ek
  obtain ⟨_,_,vs,_,p⟩:=(show zbJ X.prog X.w H s.heap ad (.dK (ks.zip _)) from I.hok ad _ (sg _ _ hd))
  obtain ⟨o,es,ep,h1,h2,_⟩:=p
  exact PySem.W.kia_one PySem.W.kitx_dict I.kIn ⟨o,h1,h2.1⟩ ek (fun z=>nomatch z) h
 | @dtt ad ob ks vs ds kvs e0 _ hd _ =>
  cases rv
  subst e0
  obtain ⟨_,_,_,xs,_,o,es,ep,h1,h2,_⟩:=(show zbJ X.prog X.w H s.heap ad (.frz ob (.dT (ks.zip _))) from I.hok ad _ (sg _ _ hd))
  exact PySem.W.kia_one PySem.W.kitx_dict I.kIn ⟨o,h1,h2.1⟩ ek (fun z=>nomatch z) h
theorem zm6 (c:String) (hc:c = "int" ∨ c = "bool" ∨ c = "str" ∨ c = "list" ∨ c = "tuple" ∨ c = "dict"):typeOf (.type c)=pure (.type "type"):=by
 rcases hc with rfl | rfl | rfl | rfl | rfl | rfl <;> kernel_rfl
theorem zlk:zcJ X (.builtin "isinstance") (fun xs H Q=>∃ v c G d,xs=[v,.ty c]/\Same G H/\Rep X.K G v d/\(c = "int" ∨ c = "bool" ∨ c = "str" ∨ c = "list" ∨ c = "tuple" ∨ c = "dict")/\Q (.bl (isTy d c)) H):=by
 intro pins s σ H xs us Q I r h
 obtain ⟨v,c,G,d,rfl,sg,rp,hc,q⟩:=h
 obtain ⟨u,w',rfl,r1,r2⟩:=zmE r
 cases (show w'=Value.type c from r2)
 by_cases nx:zjq d=true
 ·cases rp with
  | @exc a C dd bm nm vs ds ck hx hd rr =>
   refine zlf (zpC I.ok.mod.kin) pins s σ H [.ref a,.ty c] [u,.type c] Q I r ⟨a,C,dd,bm,false,.ty c,false,rfl,⟨nm,ck⟩,sg _ _ hx,.inr ⟨c,rfl,zm6 c hc,?_⟩,?_⟩
   ·rw [ck.ty];rcases hc with rfl | rfl | rfl | rfl | rfl | rfl <;> rfl
   ·have e:isTy (.dict [(.none,.tuple [.str nm,.list ds])]) c=false:=by rcases hc with rfl | rfl | rfl | rfl | rfl | rfl <;> rfl
    rw [e] at q;exact q
  | dct e _ _ _ _=>subst e;rw [zmi.2] at nx;cases nx
  | dtt e _ _ _=>subst e;cases nx
  | _=>cases nx
 ·have nx:zjq d=false:=by simpa using nx
  exact zm5 I sg rp r1 nx (zm4 X.K d c nx hc) fun tk=>⟨.bl _,H,I.tok tk,rfl,q⟩
theorem zd1:bootBuiltins "isinstance" = some (.builtin "isinstance"):=by decide +kernel
theorem zaP {f:M D} {p2 p3:Pos} {c:String} (hc:c = "int" ∨ c = "bool" ∨ c = "str" ∨ c = "list" ∨ c = "tuple" ∨ c = "dict") (hg:Gl X "isinstance") (hm:X.mg "isinstance" = none) (hg2:Gl X (Str.ofString c)) (hm2:X.mg (Str.ofString c)=none)
  (hv2:bootBuiltins (Str.ofString c)=some (.type c)) (ha:PE X e (tD X.K B G0 f)) (hn2:(Str.ofString c) ≠ "__name__") (hd2:((Str.ofString c) == ("__debug__" : Str))=false)
  (hs:starEach [e,.Name (Str.ofString c) p3] X.env=(false,eval e X.env) :: starEach [.Name (Str.ofString c) p3] X.env:=by rfl)
  (hs2:starEach [.Name (Str.ofString c) p3] X.env=[(false,eval (.Name (Str.ofString c) p3) X.env)]:=by rfl) :
  PE X (.Call (.Name "isinstance" p2) [e,.Name (Str.ofString c) p3] [] pos) (tD X.K B G0 (mMap (fun d=>.bool (isTy d c)) f)):=by
 refine peof (zd5 zlk hg hm zd1 (zbX ha (zbX (zmy (v:=.ty c) hg2 hm2 hv2 rfl hn2 hd2) zdd (by rw [hs2];rfl)) hs) (by decide) (by decide) hs (by rw [hs2];rfl)) fun σ H Q q=>?_
 refine tM.one (R:=Rep X.K) q fun v H2 G ρ x k r a=>?_
 exact ⟨v,c,G,x,rfl,k.gh,r,hc,aft.now a k (.bl _)⟩
end
def spD (K:PySem.W.Frag) (n:Nat) (F:List D->Option D):Sp:=fun vs H Q _=>∃ G ds d,vs.length=n/\Same G H/\Reps K G vs ds/\F ds=some d/\∀ v G' H',Ext G H G' H'->Rep K G' v d->Q v H'
section
variable {K:PySem.W.Frag} {B G0 G H:Hp} {σ : St} {ρ : DEnv}
theorem EOk.exit (k:EOk K B G0 G H σ ρ):Ext G0 B G H:=⟨k.bh,k.g0,k.gh,k.np⟩
theorem zbN {α : Type} {l:List α} {i:Nat} {x y : α} (h:(l.set i x)[i]?=some y):y=x:=by
 by_cases hl:i < l.length
 ·rw [List.getElem?_set_self hl] at h;cases h;rfl
 ·rw [List.getElem?_eq_none (by rw [List.length_set];omega)] at h;cases h
theorem EOk.setPub {i:Nat} {v:V} {d:D} (k:EOk K B G0 G H σ ρ) (r:Rep K G v d) (hi:i < ρ.length):EOk K B G0 G H (σ.set i (some v)) (ρ.set i (some (.pub d))) where
 bh:=k.bh
 gh:=k.gh
 g0:=k.g0
 np:=k.np
 len:=by rw [List.length_set,List.length_set];exact k.len
 pub:=fun j d' q=>by
  by_cases z:i=j
  ·subst z
   have:=zbN q
   cases this
   exact ⟨v,List.getElem?_set_self (by rw [← k.len];exact hi),r⟩
  ·rw [List.getElem?_set_ne z] at q ⊢
   exact k.pub j d' q
 own:=fun j ds q=>by
  by_cases z:i=j
  ·subst z
   have:=zbN q
   cases this
  ·rw [List.getElem?_set_ne z] at q ⊢
   exact k.own j ds q
 sep:=fun j l c es fs q1 q2 s1 s2=>by
  have z1:i ≠ j:=fun z=>by subst z;have:=zbN q1;cases this
  have z2:i ≠ l:=fun z=>by subst z;have:=zbN q2;cases this
  rw [List.getElem?_set_ne z1] at q1 s1
  rw [List.getElem?_set_ne z2] at q2 s2
  exact k.sep j l c es fs q1 q2 s1 s2
structure NewL (K:PySem.W.Frag) (B G H:Hp) (σ : St) (ρ : DEnv) (a:Addr) (vs:List V) (ds:List D):Prop where
 b:B a=none
 g:G a=none
 h:H a=some (.lst vs)
 r:Reps K G vs ds
 f:∀ (j:Nat) es,ρ[j]?=some (some (.own es)) -> σ[j]? ≠ some (some (.ref a))
theorem EOk.setOwn {i:Nat} {a:Addr} {vs:List V} {ds:List D} (k:EOk K B G0 G H σ ρ) (n:NewL K B G H σ ρ a vs ds) (hi:i < ρ.length):EOk K B G0 G H (σ.set i (some (.ref a))) (ρ.set i (some (.own ds))) where
 bh:=k.bh
 gh:=k.gh
 g0:=k.g0
 np:=k.np
 len:=by rw [List.length_set,List.length_set];exact k.len
 pub:=fun j d' q=>by
  by_cases z:i=j
  ·subst z
   have:=zbN q
   cases this
  ·rw [List.getElem?_set_ne z] at q ⊢
   exact k.pub j d' q
 own:=fun j es q=>by
  by_cases z:i=j
  ·subst z
   have:=zbN q
   cases this
   exact ⟨a,vs,List.getElem?_set_self (by rw [← k.len];exact hi),n.b,n.g,n.h,n.r⟩
  ·rw [List.getElem?_set_ne z] at q ⊢
   exact k.own j es q
 sep:=fun j l c es fs q1 q2 s1 s2=>by
  have hs:i < σ.length:=by rw [← k.len];exact hi
  by_cases z1:i=j
  ·subst z1
   rw [List.getElem?_set_self hs] at s1
   cases s1
   by_cases z2:i=l
   ·exact z2
   ·rw [List.getElem?_set_ne z2] at q2 s2
    exact absurd s2 (n.f l fs q2)
  ·by_cases z2:i=l
   ·subst z2
    rw [List.getElem?_set_self hs] at s2
    cases s2
    rw [List.getElem?_set_ne z1] at q1 s1
    exact absurd s1 (n.f j es q1)
   ·rw [List.getElem?_set_ne z1] at q1 s1
    rw [List.getElem?_set_ne z2] at q2 s2
    exact k.sep j l c es fs q1 q2 s1 s2
theorem EOk.change {i:Nat} {a:Addr} {vs:List V} {ds es:List D} (k:EOk K B G0 G H σ ρ) (q : ρ[i]?=some (some (.own ds))) (ha : σ[i]?=some (some (.ref a))) (r:Reps K G vs es) :
  EOk K B G0 G (upd H a (.lst vs)) σ (ρ.set i (some (.own es))):=by
 obtain ⟨a',ws,h1,h2,h3,h4,h5⟩:=k.own i ds q
 rw [ha] at h1
 cases h1
 have hi:i < ρ.length:=(List.getElem?_eq_some_iff.mp q).1
 refine ⟨fun b o e=>?_,fun b o e=>?_,k.g0,k.np,by rw [List.length_set];exact k.len,fun j d' e=>?_,fun j fs e=>?_,fun j l c fs gs q1 q2 s1 s2=>?_⟩
 ·rw [zaJ (zaF e h2)];exact k.bh b o e
 ·rw [zaJ (zaF e h3)];exact k.gh b o e
 ·by_cases z:i=j
  ·subst z
   have:=zbN e
   cases this
  ·rw [List.getElem?_set_ne z] at e
   exact k.pub j d' e
 ·by_cases z:i=j
  ·subst z
   have:=zbN e
   cases this
   exact ⟨a,vs,ha,h2,h3,zaD,r⟩
  ·rw [List.getElem?_set_ne z] at e
   obtain ⟨c,us,g1,g2,g3,g4,g5⟩:=k.own j fs e
   have zc:c ≠ a:=fun w=>z (k.sep i j a ds fs q e ha (by rw [← w];exact g1))
   exact ⟨c,us,g1,g2,g3,by rw [zaJ zc];exact g4,g5⟩
 ·have f:∀ {m:Nat} {ts:List D},(ρ.set i (some (Sl.own es)))[m]?=some (some (.own ts))->∃ ts',ρ[m]?=some (some (.own ts')):=fun {m ts} e=>by
   by_cases z:i=m
   ·subst z;exact ⟨ds,q⟩
   ·rw [List.getElem?_set_ne z] at e;exact ⟨ts,e⟩
  obtain ⟨f1,w1⟩:=f q1
  obtain ⟨f2,w2⟩:=f q2
  exact k.sep j l c f1 f2 w1 w2 s1 s2
end
inductive Out where
 | nx (ρ : DEnv) | rt (d:D) | bk (ρ : DEnv) | ct (ρ : DEnv) | ex (ρ : DEnv) (d:D) | bad
abbrev SM:=DEnv->Out
section
variable (K:PySem.W.Frag) (B G0:Hp) (KX:XW)
def aftS (o:Out) (G1:Hp) (Dn:Ends):Prop :=
 match o with
 | .nx ρ=>∀ σ G H,EOk K B G0 G H σ ρ -> Same G1 G->Dn.nx σ H
 | .bk ρ=>∀ σ G H,EOk K B G0 G H σ ρ -> Same G1 G->Dn.bk σ H
 | .ct ρ=>∀ σ G H,EOk K B G0 G H σ ρ -> Same G1 G->Dn.ct σ H
 | .rt d=>∀ v G H,Ext G0 B G H->Rep K G v d->Dn.rt v H
 | .ex ρ d=>∀ v σ G H,EOk K B G0 G H σ ρ -> Same G1 G->Rep K G v d->KX v σ H
 | .bad=>False
def tS (g:SM):TS:=fun Dn σ H=>∃ G ρ,EOk K B G0 G H σ ρ /\ aftS K B G0 KX (g ρ) G Dn
def sB {α : Type} (f:M α) (g : α -> SM):SM:=fun ρ=>match f ρ with | .ok a ρ'=>g a ρ' | .bad=>.bad
end
section
variable {X:Cx} {B G0:Hp} {KX:XW} {e a b c:Expr} {pos:Pos} {es rest:List Expr} {st:Stmt} {sts sts2:List Stmt}
theorem aftS.mono {K:PySem.W.Frag} {o:Out} {G G':Hp} {Dn:Ends} (e:Same G G') (h:aftS K B G0 KX o G Dn):aftS K B G0 KX o G' Dn:=by
 cases o with
 | nx ρ=>exact fun σ G2 H2 k s=>h σ G2 H2 k (e.trans s)
 | bk ρ=>exact fun σ G2 H2 k s=>h σ G2 H2 k (e.trans s)
 | ct ρ=>exact fun σ G2 H2 k s=>h σ G2 H2 k (e.trans s)
 | rt d=>exact h
 | ex ρ d=>exact fun v σ G2 H2 k s r=>h v σ G2 H2 k (e.trans s) r
 | bad=>exact h
theorem tS.bnd {K:PySem.W.Frag} {α γ : Type} {R:Hp -> γ -> α -> Prop} {f:M α} {g : α -> SM} {Dn:Ends} {σ : St} {H:Hp} {P : γ -> Hp->Prop} (q:tS K B G0 KX (sB f g) Dn σ H)
  (i:∀ v H' G' ρ' x,EOk K B G0 G' H' σ ρ'->R G' v x->aftS K B G0 KX (g x ρ') G' Dn->P v H'):tM K B G0 R f σ H P:=by
 obtain ⟨G,ρ,k,a⟩:=q
 refine ⟨G,ρ,k,?_⟩
 unfold sB at a
 cases z:f ρ with
 | bad=>rw [z] at a;exact a.elim
 | ok d ρ1 =>
  rw [z] at a
  exact fun v G' H' e s r=>i v H' G' ρ1 d e r (aftS.mono s a)
def sNx:SM:=fun ρ=>.nx ρ
def sSeq (g h:SM):SM:=fun ρ=>match g ρ with | .nx ρ'=>h ρ' | o=>o
theorem za0:PSs X [] (tS X.K B G0 KX sNx):=zmU zmB fun D σ H ⟨G,ρ,k,a⟩=>a σ G H k (.refl _)
theorem zak {g h:SM} (h1:PS X st (tS X.K B G0 KX g)) (h2:PSs X sts (tS X.K B G0 KX h)):PSs X (st :: sts) (tS X.K B G0 KX (sSeq g h)):=zmU (ze9 h1 h2) fun D σ H ⟨G,ρ,k,a⟩=>by
 refine ⟨G,ρ,k,?_⟩
 unfold sSeq at a
 cases z:g ρ with
 | nx ρ1=>rw [z] at a;exact fun σ' G' H' k' s'=>⟨G',ρ1,k',aftS.mono s' a⟩
 | rt d=>rw [z] at a;exact a
 | bk ρ1=>rw [z] at a;exact a
 | ct ρ1=>rw [z] at a;exact a
 | ex ρ1 d=>rw [z] at a;exact a
 | bad=>rw [z] at a;exact a.elim
theorem zan {g:SM} (h1:PS X st (tS X.K B G0 KX g)):PSs X [st] (tS X.K B G0 KX g):=zgM h1
def zc7:SM:=fun _=>.bad
theorem zb8:PS X st (tS X.K B G0 KX zc7):=fun _ _ _ _ _ _ ⟨_,_,_,a⟩=>a.elim
def sRet (f:M D):SM:=sB f fun d _=>.rt d
theorem zaC {f:M D} (h:PE X e (tD X.K B G0 f)):PS X (.Return (some e) pos) (tS X.K B G0 KX (sRet f)):=psof (zl9 h) fun D σ H q=>tS.bnd (R:=Rep X.K) q fun v H' G' ρ' x k r a=>a v G' H' k.exit r
def zeI (f:M D):SM:=sB f fun _ ρ=>.nx ρ
theorem zc9 {f:M D} (h:PE X e (tD X.K B G0 f)) (hs:swapsWith e none pos.line X.env=pure false:=by rfl):PS X (.Expr e pos) (tS X.K B G0 KX (zeI f)):=psof (zgN h hs) fun D σ H q=>tS.bnd (R:=Rep X.K) q fun v H' G' ρ' x k r a=>a σ G' H' k (.refl _)
def sIf (f:M Bool) (g h:SM):SM:=sB f fun t=>if t=true then g else h
theorem zbi {f:M Bool} {g h:SM} (hc:PT X c (tBo X.K B G0 f)) (ha:PSs X sts (tS X.K B G0 KX g)) (hb:PSs X sts2 (tS X.K B G0 KX h)):PS X (.If c sts sts2 pos) (tS X.K B G0 KX (sIf f g h)) :=
 psof (zph hc ha hb) fun D σ H q=>tS.bnd (R:=fun _ b c=>b=c) q fun v H' G' ρ' x k r a=>by
  have r:v=x:=r
  subst r
  cases v with
  | true=>exact ⟨G',ρ',k,a⟩
  | false=>exact ⟨G',ρ',k,a⟩
def tG (K:PySem.W.Frag) (B G0:Hp) (s:D->DEnv->Option DEnv):TG:=fun v σ H Q=>∃ G ρ d ρ',EOk K B G0 G H σ ρ /\ Rep K G v d/\s d ρ = some ρ'/\∀ σ' G' H',EOk K B G0 G' H' σ' ρ'->Same G G'->Q σ' H'
def tGs (K:PySem.W.Frag) (B G0:Hp) (s:List D->DEnv->Option DEnv):TGs:=fun v σ H Q=>∃ G ρ d ρ',EOk K B G0 G H σ ρ /\ Reps K G v d/\s d ρ = some ρ'/\∀ σ' G' H',EOk K B G0 G' H' σ' ρ'->Same G G'->Q σ' H'
theorem pgof {t t':TG} (h:PG X e t) (i:∀ v σ H Q,t' v σ H Q->t v σ H Q):PG X e t':=fun pins s σ H v u Q I r q=>h pins s σ H v u Q I r (i v σ H Q q)
theorem zos {t t':TGs} (h:PGs X es t) (i:∀ v σ H Q,t' v σ H Q->t v σ H Q):PGs X es t':=fun pins s σ H v u Q I r q=>h pins s σ H v u Q I r (i v σ H Q q)
def gN (i:Nat):D->DEnv->Option DEnv:=fun d ρ=>if i < ρ.length then some (ρ.set i (some (.pub d))) else none
theorem zap {i:Nat} (h:PG X e (zmC i)):PG X e (tG X.K B G0 (gN i)):=pgof h fun v σ H Q ⟨G,ρ,d,ρ',k,r,e,q⟩=>by
 unfold gN at e
 split at e
 ·rename_i hi
  cases e
  exact q _ G H (k.setPub r hi) (.refl _)
 ·cases e
def gN0:List D->DEnv->Option DEnv:=fun d ρ=>match d with | []=>some ρ | _=>none
def gNC (s:D->DEnv->Option DEnv) (t:List D->DEnv->Option DEnv):List D->DEnv->Option DEnv:=fun ds ρ=>match ds with | d :: r=>(s d ρ).bind (t r) | []=>none
theorem zb6:PGs X [] (tGs X.K B G0 gN0):=zos ziZ fun v σ H Q ⟨G,ρ,d,ρ',k,r,e,q⟩=>by
 cases r with
 | nil=>cases e;exact ⟨rfl,q σ G H k (.refl _)⟩
 | cons _ _=>cases e
theorem zaK {s:D->DEnv->Option DEnv} {t:List D->DEnv->Option DEnv} (h1:PG X e (tG X.K B G0 s)) (h2:PGs X es (tGs X.K B G0 t))
  (hs:(assignEach (e :: es) X.env).map (·.2)=assign e X.env :: (assignEach es X.env).map (·.2):=by rfl):PGs X (e :: es) (tGs X.K B G0 (gNC s t)):=zos (zfa h1 h2 hs) fun v σ H Q ⟨G,ρ,d,ρ',k,r,e,q⟩=>by
 cases r with
 | nil=>cases e
 | @cons w dw ws dws rw rt =>
  unfold gNC at e
  dsimp only at e
  cases z:s dw ρ with
  | none=>rw [z] at e;cases e
  | some ρ1 =>
   rw [z] at e
   refine ⟨w,ws,rfl,G,ρ,dw,ρ1,k,rw,z,fun σ' G' H' k' s'=>?_⟩
   exact ⟨G',ρ1,dws,ρ',k',rt.mono s',e,fun σ2 G2 H2 k2 s2=>q σ2 G2 H2 k2 (s'.trans s2)⟩
def gT (n:Nat) (t:List D->DEnv->Option DEnv):D->DEnv->Option DEnv:=fun d ρ=>match d with | .tuple ds=>if ds.length=n then t ds ρ else none | _=>none
theorem zb7 {k1:Nat} {t:List D->DEnv->Option DEnv} {n:Nat} (hc:X.calm=true) (h:PGs X es (tGs X.K B G0 t))
  (hn:(assignEach es X.env).length=n:=by rfl) (hst:(assignEach es X.env).findIdx? (·.1)=none:=by rfl):PG X (.Tuple es k1 pos) (tG X.K B G0 (gT n t)):=pgof (zma hc h hn hst) fun v σ H Q ⟨G,ρ,d,ρ',k,r,e,q⟩=>by
 unfold gT at e
 split at e
 ·split at e
  ·rename_i hl
   obtain ⟨ad,vs,rfl,h1,r1⟩:=r.tup_inv
   exact ⟨ad,vs,rfl,zc4 k.gh h1,by rw [r1.length];exact hl,G,ρ,_,ρ',k,r1,e,q⟩
  ·cases e
 ·cases e
def sAsg (f:M D) (s:D->DEnv->Option DEnv):SM:=sB f fun d ρ=>match s d ρ with | some ρ'=>.nx ρ' | none=>.bad
theorem zdQ {tg:Expr} {f:M D} {s:D->DEnv->Option DEnv} (he:PE X e (tD X.K B G0 f)) (hg:PG X tg (tG X.K B G0 s)) (hs:swapsWithSole [tg] e pos.line X.env=pure false:=by rfl) (hw:swappedStores [tg] e X.env=pure none:=by rfl)
  (h1:(assignEach [tg] X.env).map (·.2)=[assign tg X.env]:=by rfl):PS X (.Assign [tg] e pos) (tS X.K B G0 KX (sAsg f s)) :=
 psof (znX he hg hs hw h1) fun D σ H q=>tS.bnd (R:=Rep X.K) q fun v H' G' ρ' x k r a=>by
  cases z:s x ρ' with
  | none=>rw [z] at a;exact a.elim
  | some ρ2=>rw [z] at a;exact ⟨G',ρ',x,ρ2,k,r,z,fun σ2 G2 H2 k2 s2=>a σ2 G2 H2 k2 s2⟩
def sSet (i:Nat) (f:M D):SM:=sAsg f (gN i)
theorem zaI {i:Nat} {x:Str} {f:M D} {p2:Pos} (hN:X.N.Nodup) (hi:X.N[i]?=some x) (hx:Loc X.env.scope x) (he:PE X e (tD X.K B G0 f)) (hs:swapsWith e (some (.Name x p2)) pos.line X.env=pure false:=by rfl)
  (hf:X.fn x=true ∨ X.env.scope.names.lookup x=some .local:=by first | exact .inl rfl | exact .inr rfl | assumption):PS X (.Assign [.Name x p2] e pos) (tS X.K B G0 KX (sSet i f)) :=
 psof (zi0 hN hi hx he hs hf) fun D σ H q=>tS.bnd (R:=Rep X.K) q fun v H' G' ρ' x k r a=>by
  unfold gN at a
  split at a
  ·rename_i ρ2 hz
   split at hz
   ·rename_i hi2
    cases hz
    exact a _ G' H' (k.setPub r hi2) (.refl _)
   ·cases hz
  ·exact a.elim
def tL (K:PySem.W.Frag) (B G0:Hp) (f:M (List D)):TE:=fun σ H Q=>∃ G ρ,EOk K B G0 G H σ ρ /\ match f ρ with
 | .ok ds ρ'=>∀ a vs G' H',EOk K B G0 G' H' σ ρ'->Same G G'->NewL K B G' H' σ ρ' a vs ds->Q (.ref a) H'
 | .bad=>False
def zb4 (i:Nat) (f:M (List D)):SM:=sB f fun ds ρ=>if i < ρ.length then .nx (ρ.set i (some (.own ds))) else .bad
theorem zcC {i:Nat} {x:Str} {f:M (List D)} {p2:Pos} (hN:X.N.Nodup) (hi:X.N[i]?=some x) (hx:Loc X.env.scope x) (he:PE X e (tL X.K B G0 f)) (hs:swapsWith e (some (.Name x p2)) pos.line X.env=pure false:=by rfl)
  (hf:X.fn x=true ∨ X.env.scope.names.lookup x=some .local:=by first | exact .inl rfl | exact .inr rfl | assumption):PS X (.Assign [.Name x p2] e pos) (tS X.K B G0 KX (zb4 i f)) :=
 psof (zi0 hN hi hx he hs hf) fun D σ H ⟨G,ρ,k,a⟩=>by
  refine ⟨G,ρ,k,?_⟩
  unfold zb4 sB at a
  cases z:f ρ with
  | bad=>rw [z] at a;exact a.elim
  | ok ds ρ1 =>
   rw [z] at a
   intro ad vs G' H' k' s' n
   dsimp only at a
   split at a
   ·rename_i hl
    exact a _ G' H' (k'.setOwn n hl) s'
   ·exact a.elim
theorem NewL.of {K:PySem.W.Frag} {G H:Hp} {σ : St} {ρ : DEnv} {p:Addr} {vs:List V} {ds:List D} (k:EOk K B G0 G H σ ρ) (hp:H p=none) (r:Reps K G vs ds):NewL K B G (upd H p (.lst vs)) σ ρ p vs ds where
 b:=k.bh.free hp
 g:=k.gh.free hp
 h:=zaD
 r:=r
 f:=fun j es q z=>by
  obtain ⟨a,ws,h1,h2,h3,h4,h5⟩:=k.own j es q
  rw [z] at h1
  cases h1
  rw [hp] at h4;cases h4
theorem zcD {f:M (List D)} (h:PA X es (tDs X.K B G0 f)):PE X (.List es pos) (tL X.K B G0 (zav f fun xs=>if xs.length<=1000000 then zag xs else fun _=>.bad)) :=
 peof (zme h) fun σ H Q ⟨G,ρ,k,a⟩=>by
  refine ⟨G,ρ,k,?_⟩
  unfold zav at a
  cases z:f ρ with
  | bad=>rw [z] at a;exact a.elim
  | ok ds ρ1 =>
   rw [z] at a
   dsimp only at a
   intro v G' H' k' s' r
   by_cases c:ds.length<=1000000
   ·rw [if_pos c] at a
    refine ⟨by rw [r.length];exact Nat.le_trans c lim,fun p hp=>?_⟩
    exact a p v G' _ (k'.ext (Ext.hid k'.gh hp)) s' (NewL.of k' hp r)
   ·rw [if_neg c] at a;exact a.elim
def sApp (i:Nat) (f:M D):SM:=fun ρ0=>match ρ0[i]? with
 | some (some (.own _))=>sB f (fun d ρ=>match ρ[i]? with
  | some (some (.own ds))=>if ds.length < 1000000 then .nx (ρ.set i (some (.own (ds ++ [d])))) else .bad
  | _=>.bad) ρ0
 | _=>.bad
theorem zdg {i:Nat} {f:M D} {o:Expr} {apos cpos:Pos} (ho:PE X o (tVar i)) (he:PE X e (tD X.K B G0 f))
  (hbase:attributeBase o "append" X.env (eval o X.env)=eval o X.env:=by rfl)
  (hfew:((backTo cpos (starEach [e] X.env)).all (fun x=>!x.1) && (backToKw cpos (keywordEach [] X.env)).all (fun x=>x.1.isSome)
   && decide ([e].length+([]:List Keyword).length+(if ([]:List Keyword).isEmpty then 0 else 1) < 30))=true:=by rfl)
  (hline:(apos.endLine == cpos.line)=true:=by rfl) (hs:starEach [e] X.env=[(false,eval e X.env)]:=by rfl)
  (hsw:swapsWith (.Call (.Attribute o "append" apos) [e] [] cpos) none pos.line X.env=pure false:=by rfl) :
  PS X (.Expr (.Call (.Attribute o "append" apos) [e] [] cpos) pos) (tS X.K B G0 KX (sApp i f)) :=
 psof (zgN (zmM PySem.F.plainAttrs_list PySem.F.slot_list_append PySem.F.type_list_append zfX ho (zbX he zdd (by rw [hs];rfl)) hbase hfew hline (by rw [hs];rfl) rfl) hsw) fun D σ H ⟨G,ρ,k,a⟩=>by
  unfold sApp at a
  cases q0 : ρ[i]? with
  | none=>rw [q0] at a;exact a.elim
  | some o0 =>
   cases o0 with
   | none=>rw [q0] at a;exact a.elim
   | some sl0 =>
    cases sl0 with
    | pub d=>rw [q0] at a;exact a.elim
    | own ds0 =>
     rw [q0] at a
     obtain ⟨ad,vs0,h1,h2,h3,h4,h5⟩:=k.own i ds0 q0
     refine ⟨.ref ad,h1,.inl ⟨rfl,_,SqL.of h4⟩,G,ρ,k,?_⟩
     unfold sB at a
     cases z:f ρ with
     | bad=>rw [z] at a;exact a.elim
     | ok d ρ1 =>
      rw [z] at a
      dsimp only at a
      intro v G' H' k' s' r'
      cases q : ρ1[i]? with
      | none=>rw [q] at a;exact a.elim
      | some o =>
       cases o with
       | none=>rw [q] at a;exact a.elim
       | some sl =>
        cases sl with
        | pub d=>rw [q] at a;exact a.elim
        | own ds =>
         rw [q] at a
         dsimp only at a
         split at a
         ·rename_i hl
          obtain ⟨ad',vs,g1,g2,g3,g4,g5⟩:=k'.own i ds q
          rw [h1] at g1
          cases g1
          refine ⟨ad,vs,v,rfl,rfl,g4,by rw [g5.length];exact Nat.lt_of_lt_of_le hl lim,?_⟩
          exact a σ G' _ (k'.change q h1 (g5.append (.cons r' .nil))) s'
         ·exact a.elim
end
structure zd2 (K:PySem.W.Frag) (J:It) (ds:List D) (G1:Hp):Prop where
 go:∀ i G H,Same G1 G->Same G H->i < ds.length->J.go i H
 stop:∀ i G H,Same G1 G->Same G H->ds.length<=i->J.stop i H
 yld:∀ i G H x H' d,Same G1 G->Same G H->ds[i]?=some d->J.yld i H x H'->∃ G',Ext G H G' H'/\Rep K G' x d
def iD (K:PySem.W.Frag) (B G0:Hp) (f:M (List D)):TI:=fun σ H R=>∃ G ρ,EOk K B G0 G H σ ρ /\ match f ρ with
 | .ok ds ρ'=>∀ J G' H',EOk K B G0 G' H' σ ρ'->Same G G'->zd2 K J ds G'->R J H'
 | .bad=>False
section
variable {X:Cx} {B G0:Hp} {KX:XW} {e a b c tg:Expr} {pos:Pos} {es rest:List Expr} {st:Stmt} {sts sts2:List Stmt}
theorem piof {t t':TI} (h:PI X tg e t) (i:∀ σ H R,t' σ H R->t σ H R):PI X tg e t':=fun pins s σ H R I q=>h pins s σ H R I (i σ H R q)
theorem tM.toI {K:PySem.W.Frag} {α γ : Type} {R0:Hp -> γ -> α -> Prop} {f:M α} {g : α -> M (List D)} {σ : St} {H:Hp} {R:It->Hp->Prop} {P : γ -> Hp->Prop} (q:iD K B G0 (zav f g) σ H R)
  (i:∀ v H' G' ρ' x,EOk K B G0 G' H' σ ρ'->R0 G' v x->(match g x ρ' with
   | .ok ds ρ2=>∀ J G2 H2,EOk K B G0 G2 H2 σ ρ2->Same G' G2->zd2 K J ds G2->R J H2
   | .bad=>False)->P v H'):tM K B G0 R0 f σ H P:=by
 obtain ⟨G,ρ,k,a⟩:=q
 refine ⟨G,ρ,k,?_⟩
 unfold zav at a
 cases z:f ρ with
 | bad=>rw [z] at a;exact a.elim
 | ok d ρ1 =>
  rw [z] at a
  intro v G' H' e s r
  refine i v H' G' ρ1 d e r ?_
  dsimp only at a
  cases z2:g d ρ1 with
  | bad=>rw [z2] at a;exact a.elim
  | ok ds ρ2 =>
   rw [z2] at a
   exact fun J G2 H2 k2 s2 it=>a J G2 H2 k2 (s.trans s2) it
theorem zij {K:PySem.W.Frag} {G1:Hp} {ad:Addr} {vs:List V} {ds:List D} (h:SqL K G1 ad vs) (r:Reps K G1 vs ds):zd2 K (Itl K ad) ds G1 where
 go:=fun i G H s1 s2 hi=>by
  have hi':i < vs.length:=by rw [r.length];exact hi
  exact ⟨vs,vs[i],(s1.trans s2).seq h,List.getElem?_eq_getElem hi'⟩
 stop:=fun i G H s1 s2 hi=>⟨vs,(s1.trans s2).seq h,by rw [r.length];exact hi⟩
 yld:=fun i G H x H' d s1 s2 e y=>by
  obtain ⟨rfl,y⟩:=y
  obtain ⟨v,e1,r1⟩:=r.get e
  have:=y vs ((s1.trans s2).seq h)
  rw [e1] at this
  cases this
  exact ⟨G,.refl s2,r1.mono s1⟩
def zbO (lo hi:Int):List D:=(List.range (hi - lo).toNat).map fun (k:Nat)=>.int (lo+k)
theorem zaX (lo hi:Int):(zbO lo hi).length=(hi - lo).toNat:=by unfold zbO;rw [List.length_map,List.length_range]
theorem zem {K:PySem.W.Frag} {G1:Hp} (lo hi:Int):zd2 K (Itr lo (hi - lo).toNat) (zbO lo hi) G1 where
 go:=fun i G H s1 s2 h=>by rw [zaX] at h;exact h
 stop:=fun i G H s1 s2 h=>by rw [zaX] at h;exact h
 yld:=fun i G H x H' d s1 s2 e y=>by
  obtain ⟨rfl,rfl⟩:=y
  unfold zbO at e
  rw [List.getElem?_map] at e
  have hi:i < (List.range (hi - lo).toNat).length:=by
   refine Nat.lt_of_not_le fun z=>?_
   rw [List.getElem?_eq_none z] at e
   cases e
  rw [List.getElem?_eq_getElem hi,List.getElem_range] at e
  cases e
  exact ⟨G,.refl s2,.int _⟩
def zik:List D->Option (List D)
 | [.int j]=>if j<=1000000 /\ -1000000<=j then some (zbO 0 j) else none
 | _=>none
def zil:List D->Option (List D)
 | [.int i,.int j]=>if j<=1000000 /\ -1000000<=j/\i<=1000000 /\ -1000000<=i then some (zbO i j) else none
 | _=>none
def zdD (f:M (List D)):M (List D):=zav f fun x=>mOpt (zik x)
def zll (f:M (List D)):M (List D):=zav f fun x=>mOpt (zil x)
theorem zbG {f:M (List D)} {p2:Pos} (hg:Gl X "range") (hm:X.mg "range" = none) (ha:PA X [a] (tDs X.K B G0 f)) (hs:starEach [a] X.env=[(false,eval a X.env)]:=by rfl) :
  PI X tg (.Call (.Name "range" p2) [a] [] pos) (iD X.K B G0 (zdD f)):=piof (zi3 hg hm ha hs) fun σ H R q=>tM.toI (R0:=Reps X.K) q fun v H' G' ρ' x k r a=>by
 cases z:zik x with
 | none=>rw [z] at a;exact a.elim
 | some ds =>
  rw [z] at a
  unfold zik at z
  split at z
  ·split at z
   ·rename_i j c
    cases z
    obtain ⟨w,rfl,r'⟩:=r.one_inv
    refine ⟨j,by rw [r'.int_inv],by omega,by omega,?_⟩
    have it:=zem (K:=X.K) (G1:=G') 0 j
    rw [Int.sub_zero] at it
    exact a _ G' H' k (.refl _) it
   ·cases z
  ·cases z
theorem zjs {f:M (List D)} {p2:Pos} (hg:Gl X "range") (hm:X.mg "range" = none) (ha:PA X [a,b] (tDs X.K B G0 f)) (hs:starEach [a,b] X.env=[(false,eval a X.env),(false,eval b X.env)]:=by rfl) (hs2:starEach [b] X.env=[(false,eval b X.env)]:=by rfl) :
  PI X tg (.Call (.Name "range" p2) [a,b] [] pos) (iD X.K B G0 (zll f)):=piof (zi4 hg hm ha hs hs2) fun σ H R q=>tM.toI (R0:=Reps X.K) q fun v H' G' ρ' x k r a=>by
 cases z:zil x with
 | none=>rw [z] at a;exact a.elim
 | some ds =>
  rw [z] at a
  unfold zil at z
  split at z
  ·split at z
   ·rename_i i j c
    cases z
    obtain ⟨w,w',rfl,r1,r2⟩:=r.two_inv
    refine ⟨i,j,by rw [r1.int_inv,r2.int_inv],⟨by omega,by omega,by omega,by omega⟩,?_⟩
    exact a _ G' H' k (.refl _) (zem i j)
   ·cases z
  ·cases z
def zcN (n:Nat):List D->List D
 | []=>[]
 | d :: r=>.tuple [.int n,d] :: zcN (n+1) r
theorem zbl:∀ (n:Nat) (ds:List D),(zcN n ds).length=ds.length
 | _,[]=>rfl
 | n,d :: r=>by rw [zcN,List.length_cons,List.length_cons,zbl]
theorem zen:∀ (n:Nat) (ds:List D) (i:Nat),(zcN n ds)[i]?=ds[i]?.map fun d=>.tuple [.int ((n+i:Nat):Int),d]
 | _,[],i=>by simp [zcN]
 | n,d :: r,0=>by simp [zcN]
 | n,d :: r,i+1=>by
  rw [zcN,List.getElem?_cons_succ,List.getElem?_cons_succ,zen (n+1) r i]
  have:n+1+i=n+(i+1):=by omega
  rw [this]
theorem zim {K:PySem.W.Frag} {G1:Hp} {ad:Addr} {vs:List V} {ds:List D} (h:SqL K G1 ad vs) (r:Reps K G1 vs ds):zd2 K (Ite K ad) (zcN 0 ds) G1 where
 go:=fun i G H s1 s2 hi=>by
  rw [zbl] at hi
  have hi':i < vs.length:=by rw [r.length];exact hi
  exact ⟨vs,vs[i],(s1.trans s2).seq h,List.getElem?_eq_getElem hi'⟩
 stop:=fun i G H s1 s2 hi=>by
  rw [zbl] at hi
  exact ⟨vs,(s1.trans s2).seq h,by rw [r.length];exact hi⟩
 yld:=fun i G H x H' d s1 s2 e y=>by
  obtain ⟨p,v,hp,rfl,y,rfl⟩:=y
  rw [zen] at e
  cases z:ds[i]? with
  | none=>rw [z] at e;cases e
  | some d0 =>
   rw [z] at e
   cases e
   obtain ⟨w,e1,r1⟩:=r.get z
   have:=y vs ((s1.trans s2).seq h)
   rw [e1] at this
   cases this
   refine ⟨upd G p (.tup [.int i,v]),Ext.new s2 hp,.tup (SqT.of zaD) (.cons ?_ (.cons ((r1.mono s1).mono (zaO (s2.free hp))) .nil))⟩
   rw [Nat.zero_add]
   exact .int _
def zjt:List D->Option (List D)
 | [.list ds]=>some (zcN 0 ds)
 | _=>none
def zgU (f:M (List D)):M (List D):=zav f fun x=>mOpt (zjt x)
theorem zfg {f:M (List D)} {p2:Pos} {elts:List Expr} {x1} {tp:Pos} (hg:Gl X "enumerate") (hm:X.mg "enumerate" = none) (ha:PA X [a] (tDs X.K B G0 f)) (hs:starEach [a] X.env=[(false,eval a X.env)]:=by rfl) :
  PI X (.Tuple elts x1 tp) (.Call (.Name "enumerate" p2) [a] [] pos) (iD X.K B G0 (zgU f)):=piof (zmQ hg hm ha hs) fun σ H R q=>tM.toI (R0:=Reps X.K) q fun v H' G' ρ' x k r a=>by
 cases z:zjt x with
 | none=>rw [z] at a;exact a.elim
 | some ds =>
  rw [z] at a
  unfold zjt at z
  split at z
  ·cases z
   obtain ⟨w,rfl,r'⟩:=r.one_inv
   obtain ⟨ad,vs,rfl,h1,r1⟩:=r'.lst_inv
   exact ⟨ad,vs,rfl,k.gh.seq h1,a _ G' H' k (.refl _) (zim h1 r1)⟩
  ·cases z
def zf1 (s:D->DEnv->Option DEnv) (g:SM):List D->SM
 | [],ρ=>.nx ρ
 | d :: r,ρ=>match s d ρ with
  | none=>.bad
  | some ρ1=>match g ρ1 with
   | .nx ρ2=>zf1 s g r ρ2
   | .ct ρ2=>zf1 s g r ρ2
   | .bk ρ2=>.nx ρ2
   | .rt d=>.rt d
   | .ex ρ2 d=>.ex ρ2 d
   | .bad=>.bad
def sFor (f:M (List D)) (s:D->DEnv->Option DEnv) (g:SM):SM:=sB f fun ds=>zf1 s g ds
theorem zbT {iter:Expr} {body:List Stmt} {f:M (List D)} {s:D->DEnv->Option DEnv} {g:SM} (hp:PassesOwn (model X.prog X.w) X.A X.env X.xe) (hc:X.calm=true) (hi:PI X tg iter (iD X.K B G0 f)) (hg:PG X tg (tG X.K B G0 s)) (hb:PSs X body (tS X.K B G0 KX g))
  (hs:∀ x,foldedSetIterable iter X.env x=pure x:=by intro _;rfl):PS X (.For tg iter body [] pos) (tS X.K B G0 KX (sFor f s g)) :=
 psof (zmb hp hc hi hg hb hs) fun Dn σ H ⟨G,ρ,k,a⟩=>by
  refine ⟨G,ρ,k,?_⟩
  unfold sFor sB at a
  cases z:f ρ with
  | bad=>rw [z] at a;exact a.elim
  | ok ds ρ1 =>
   rw [z] at a
   dsimp only at a ⊢
   intro J G1 H1 k1 s1 it
   refine ⟨fun i m σ' H'=>m=ds.length - i/\∃ G' ρ',EOk X.K B G0 G' H' σ' ρ'/\Same G1 G'/\aftS X.K B G0 KX (zf1 s g (ds.drop i) ρ') G' Dn,⟨ds.length,by omega,G1,ρ1,k1,.refl _,by rw [List.drop_zero];exact aftS.mono s1 a⟩,?_⟩
   rintro i m σ' H' ⟨rfl,G',ρ',k',s',a'⟩
   by_cases hi:i < ds.length
   ·right
    refine ⟨it.go i G' H' s' k'.gh hi,fun σ2 H2=>∃ G2 ρ2,EOk X.K B G0 G2 H2 σ2 ρ2/\Same G1 G2/\aftS X.K B G0 KX (zf1 s g (ds.drop (i+1)) ρ2) G2 Dn,fun σ2 H2 h2=>⟨ds.length - (i+1),by omega,rfl,h2⟩,fun x H2 y=>?_⟩
    obtain ⟨G2,ex,rx⟩:=it.yld i G' H' x H2 ds[i] s' k'.gh (List.getElem?_eq_getElem hi) y
    rw [List.drop_eq_getElem_cons hi,zf1] at a'
    cases z2:s ds[i] ρ' with
    | none=>rw [z2] at a';exact a'.elim
    | some ρ2 =>
     rw [z2] at a'
     dsimp only at a'
     refine ⟨G2,ρ',ds[i],ρ2,k'.ext ex,rx,z2,fun σ3 G3 H3 k3 s3=>⟨G3,ρ2,k3,?_⟩⟩
     have s13:Same G1 G3:=(s'.trans ex.g).trans s3
     cases z3:g ρ2 with
     | nx ρ3=>rw [z3] at a';exact fun σ4 G4 H4 k4 s4=>⟨G4,ρ3,k4,s13.trans s4,aftS.mono ((ex.g.trans s3).trans s4) a'⟩
     | ct ρ3=>rw [z3] at a';exact fun σ4 G4 H4 k4 s4=>⟨G4,ρ3,k4,s13.trans s4,aftS.mono ((ex.g.trans s3).trans s4) a'⟩
     | bk ρ3=>rw [z3] at a';exact fun σ4 G4 H4 k4 s4=>a' σ4 G4 H4 k4 ((ex.g.trans s3).trans s4)
     | rt d=>rw [z3] at a';exact a'
     | ex ρ3 d=>rw [z3] at a';exact fun v σ4 G4 H4 k4 s4 r4=>a' v σ4 G4 H4 k4 ((ex.g.trans s3).trans s4) r4
     | bad=>rw [z3] at a';exact a'.elim
   ·left
    rw [List.drop_eq_nil_of_le (by omega)] at a'
    exact ⟨it.stop i G' H' s' k'.gh (by omega),a' σ' G' H' k' (.refl _)⟩
theorem zlm {k:Nat} {f:Addr} {fd:FuncData} {ps:List Str} {F:List D->Option D} {g:M (List D)} {x:Str} {p2:Pos} {n:Nat} (FK:FnOk X.prog X.w X.K X.mg X.base CX0 k f fd ps (spD X.K n F)) (hr:Room k X.A) (hg:Gl X x) (hm:X.mg x=some (.ref f)) (hk:PySem.W.keepIn X.K (.ref f)=true)
  (hb:zfQ X.K fd ps []) (ha:PA X (e :: es) (tDs X.K B G0 g)) (hn:(e :: es).length=n) (hdb:(x == ("__debug__" : Str))=false:=by decide) (he:starEach (e :: es) X.env=(false,eval e X.env) :: starEach es X.env:=by rfl) (hpl:(backTo pos (starEach es X.env)).any (·.1)=false:=by rfl) :
  PE X (.Call (.Name x p2) (e :: es) [] pos) (tD X.K B G0 (zav g fun xs=>if xs.length=n then mOpt (F xs) else fun _=>.bad)) :=
 peof (zmF FK hr hg hm hk hb .nil zpv ha hdb he hpl) fun σ H Q q=>tM.one (R:=Reps X.K) q fun v H2 G ρ ds k r a=>by
  split at a
  ·rename_i hl
   obtain ⟨d,e,a⟩:=a.opt
   exact ⟨G,ds,d,by rw [List.append_nil,r.length];exact hl,k.gh,by rw [List.append_nil];exact r,e,fun w G' H' ex rw=>a.done k ex rw⟩
  ·exact a.elim
end
def zcO (N:List Str) (ds:List D):DEnv:=(ds.map fun d=>some (Sl.pub d)) ++ List.replicate (N.length - ds.length) none
theorem zln {K:PySem.W.Frag} {N:List Str} {G H:Hp} {vs:List V} {ds:List D} (s:Same G H) (r:Reps K G vs ds):EOk K H G G H (L2.zee N vs) (zcO N ds) where
 bh:=.refl _
 gh:=s
 g0:=.refl _
 np:=fun _ _ _ n=>n
 len:=by unfold L2.zee zcO;rw [List.length_append,List.length_append,List.length_map,List.length_map,List.length_replicate,List.length_replicate,r.length]
 pub:=fun i d q=>by
  unfold zcO at q
  unfold L2.zee
  by_cases hi:i < ds.length
  ·rw [List.getElem?_append_left (by rw [List.length_map];exact hi),List.getElem?_map] at q
   cases z:ds[i]? with
   | none=>rw [z] at q;cases q
   | some d' =>
    rw [z] at q
    cases q
    obtain ⟨v,e1,r1⟩:=r.get z
    refine ⟨v,?_,r1⟩
    rw [List.getElem?_append_left (by rw [List.length_map,r.length];exact hi),List.getElem?_map,e1]
    rfl
  ·rw [List.getElem?_append_right (by rw [List.length_map];omega),List.getElem?_replicate] at q
   split at q <;> cases q
 own:=fun i es q=>by
  unfold zcO at q
  by_cases hi:i < ds.length
  ·rw [List.getElem?_append_left (by rw [List.length_map];exact hi),List.getElem?_map] at q
   cases z:ds[i]? with
   | none=>rw [z] at q;cases q
   | some d'=>rw [z] at q;cases q
  ·rw [List.getElem?_append_right (by rw [List.length_map];omega),List.getElem?_replicate] at q
   split at q <;> cases q
 sep:=fun i j a es fs q _ _ _=>by
  unfold zcO at q
  by_cases hi:i < ds.length
  ·rw [List.getElem?_append_left (by rw [List.length_map];exact hi),List.getElem?_map] at q
   cases z:ds[i]? with
   | none=>rw [z] at q;cases q
   | some d'=>rw [z] at q;cases q
  ·rw [List.getElem?_append_right (by rw [List.length_map];omega),List.getElem?_replicate] at q
   split at q <;> cases q
def runD (N:List Str) (g:SM) (ds:List D):Option D:=match g (zcO N ds) with
 | .rt d=>some d
 | .nx _=>some .none
 | _=>none
theorem okD {P:Program} {w:World} {K:PySem.W.Frag} {mg:Str->Option Value} {base:Heap} {x qual:Str} {st:Stmt} {f:Addr} {fd:FuncData} {N ps:List Str} {k n:Nat} {g:SM} (F:Fun K x qual st f fd) (S:zed N ps (zal st)) (hn:ps.length=n)
  (der:∀ (cdv:Value) (A:Around) (outer:List Env) (s:Shared) (H:Hp) (E:XK) (B G0:Hp),Room k (A.deeper (envOfC qual (zal st) s.heap.objs.size f cdv)) ->
   PSs (cxOf CX0 P w K mg base N qual (zal st) f cdv A outer s H E).nox (zcK st) (tS K B G0 KX0 g)):FnOk P w K mg base CX0 (k+1) f fd ps (spD K n (runD N g)):=by
 refine F.ok S (fun vs H Q E h=>?_) (fun cdv A outer s H vs Q E hr h=>?_)
 ·obtain ⟨_,_,_,hl,_⟩:=h
  rw [hl,hn]
 ·obtain ⟨G,ds,d,hl,sg,r,hF,q⟩:=h
  refine ⟨_,der cdv A outer s H E H G hr,G,zcO N ds,zln sg r,?_⟩
  unfold runD at hF
  cases z:g (zcO N ds) with
  | rt d' =>
   rw [z] at hF
   cases hF
   exact fun v G' H' ex rr=>q v G' H' ex rr
  | nx ρ =>
   rw [z] at hF
   cases hF
   exact fun σ' G' H' k' _=>q .non G' H' k'.exit .non
  | bk ρ=>rw [z] at hF;cases hF
  | ct ρ=>rw [z] at hF;cases hF
  | ex ρ d=>rw [z] at hF;cases hF
  | bad=>rw [z] at hF;cases hF
section
variable {X:Cx} {B G0:Hp} {e a b c tg:Expr} {pos:Pos} {es rest:List Expr}
def oNeg:D->Option D
 | .int i=>some (.int (-i))
 | _=>none
def dNeg (f:M D):M D:=zav f fun x=>mOpt (oNeg x)
theorem zdE {f:M D} (h:PE X a (tD X.K B G0 f)):PE X (.UnaryOp .USub a pos) (tD X.K B G0 (dNeg f)) :=
 peof (zpm zn5 h) fun σ H Q q=>tM.one (R:=Rep X.K) q fun v H2 G ρ x k r a=>by
  cases x with
  | int i=>exact ⟨i,r.int_inv,aft.now a k (.int _)⟩
  | _=>exact a.elim
end
def Def (P:Program) (w:World) (K:PySem.W.Frag) (mg:Str->Option Value) (base:Heap) (x:Str) (k n:Nat) (F:List D->Option D):Prop :=
 ∃ (f:Addr) (fd:FuncData) (ps:List Str),mg x=some (.ref f)/\PySem.W.keepIn K (.ref f)=true/\zfQ K fd ps []/\FnOk P w K mg base CX0 k f fd ps (spD K n F)
def dFun (n:Nat) (F:List D->Option D) (g:M (List D)):M D:=zav g fun xs=>if xs.length=n then mOpt (F xs) else fun _=>.bad
section
variable {X:Cx} {B G0:Hp} {e:Expr} {pos:Pos} {es:List Expr}
theorem zm7 {k n:Nat} {F:List D->Option D} {g:M (List D)} {x:Str} {p2:Pos} (d:Def X.prog X.w X.K X.mg X.base x k n F) (hr:Room k X.A) (hg:Gl X x) (ha:PA X (e :: es) (tDs X.K B G0 g)) (hn:(e :: es).length=n:=by rfl)
  (hdb:(x == ("__debug__" : Str))=false:=by decide) (he:starEach (e :: es) X.env=(false,eval e X.env) :: starEach es X.env:=by rfl) (hpl:(backTo pos (starEach es X.env)).any (·.1)=false:=by rfl) :
  PE X (.Call (.Name x p2) (e :: es) [] pos) (tD X.K B G0 (dFun n F g)):=by
 obtain ⟨f,fd,ps,h1,h2,h3,h4⟩:=d
 exact zlm h4 hr hg h1 h2 h3 ha hn hdb he hpl
end
theorem Def.mk {P:Program} {w:World} {K:PySem.W.Frag} {mg:Str->Option Value} {base:Heap} {x:Str} {k n:Nat} {F:List D->Option D} {st:Stmt} {f:Addr} {fd:FuncData} {ps:List Str} (hm:mg x=some (.ref f)) (FU:Fun K x x st f fd) (hb:zfQ K fd ps []) (ok:FnOk P w K mg base CX0 k f fd ps (spD K n F)) :
  Def P w K mg base x k n F:=⟨f,fd,ps,hm,FU.kp,hb,ok⟩
theorem zot {K:PySem.W.Frag} {H:Hp} {a:Addr} {ns:List Int} {F:List D->Option D} {E:XK} (hS:SqL K H a (ns.map V.int)) (h:F [.list (ns.map PyData.int)]=some (.bool true)):spD K 1 F [.ref a] H (fun v _=>v=.bl true) E :=
 ⟨H,[.list (ns.map PyData.int)],.bool true,rfl,.refl _,.cons (.lst hS (Reps.ints ns)) .nil,h,fun _ _ _ _ r=>r.bl_inv⟩
end DL
namespace L2
open PySem PySem.Spec PyProof.Rows
theorem mem_of_lookup {x:Str} {k:NameKind}:∀ {l:List (Str × NameKind)},l.lookup x=some k->(x,k) ∈ l
 | [],h=>by cases h
 | (y,j) :: r,h=>by
  rw [List.lookup_cons] at h
  split at h
  ·rename_i e
   cases h
   have:x=y:=by simpa using e
   rw [this];exact List.mem_cons_self
  ·exact List.mem_cons_of_mem _ (mem_of_lookup h)
theorem zdF {env:Env}:∀ (l:List (Str × NameKind)) (acc:List (Str × Addr)),(∀ y ∈ l,y.2=.free->∃ c,env.cells.lookup y.1=some c) ->
  ∃ cl,(forIn l acc (fun x r=>if (x.2 == NameKind.free)=true then (do let a ← cellOf env x.1;pure (ForInStep.yield ((x.1,a) :: r))) else pure (ForInStep.yield r)):Sem (List (Str × Addr)))=pure cl /\
   (∀ x c,cl.lookup x=some c->acc.lookup x=some c ∨ env.cells.lookup x=some c)/\(∀ y ∈ l,y.2=.free->∃ c,cl.lookup y.1=some c)/\(∀ x c,acc.lookup x=some c->∃ c',cl.lookup x=some c')
 | [],acc,_=>⟨acc,rfl,fun _ _ h=>.inl h,fun _ h=>absurd h (by simp),fun x c h=>⟨c,h⟩⟩
 | (n,k) :: r,acc,h=>by
  by_cases hk:k=.free
  ·subst hk
   obtain ⟨c,hc⟩:=h (n,.free) List.mem_cons_self rfl
   obtain ⟨cl,e,p1,p2,p3⟩:=zdF r ((n,c) :: acc) fun y hy=>h y (List.mem_cons_of_mem _ hy)
   have hco:cellOf env n=pure c:=by unfold cellOf;rw [hc]
   have key:∀ x c',((n,c) :: acc).lookup x=some c'->acc.lookup x=some c' ∨ env.cells.lookup x=some c':=fun x c' q=>by
    rw [List.lookup_cons] at q
    split at q
    ·rename_i e1
     cases q
     have:x=n:=by simpa using e1
     subst this
     exact .inr hc
    ·exact .inl q
   have own:((n,c) :: acc).lookup n=some c:=by rw [List.lookup_cons];simp
   refine ⟨cl,?_,fun x c' q=>?_,fun y hy hf=>?_,fun x c' q=>?_⟩
   ·rw [List.forIn_cons]
    have:(if (((n,NameKind.free):Str × NameKind).2 == NameKind.free)=true then (do let a ← cellOf env n;pure (ForInStep.yield ((n,a) :: acc))) else pure (ForInStep.yield acc):Sem _)=pure (ForInStep.yield ((n,c) :: acc)):=by
     rw [if_pos (show ((n,NameKind.free).snd == NameKind.free)=true from rfl),hco];rfl
    refine Eq.trans ?_ e
    dsimp only at this ⊢
    rw [this]
    rfl
   ·rcases p1 x c' q with z | z
    ·exact key x c' z
    ·exact .inr z
   ·rcases List.mem_cons.mp hy with z | z
    ·subst z
     exact p3 n c own
    ·exact p2 y z hf
   ·by_cases hx:x=n
    ·subst hx;exact p3 x c own
    ·refine p3 x c' ?_
     have hb:(x == n)=false:=by simpa using hx
     rw [List.lookup_cons,hb]
     exact q
  ·obtain ⟨cl,e,p1,p2,p3⟩:=zdF r acc fun y hy=>h y (List.mem_cons_of_mem _ hy)
   refine ⟨cl,?_,p1,fun y hy hf=>?_,p3⟩
   ·rw [List.forIn_cons]
    have hb:(k == NameKind.free)=false:=by cases k <;> first | rfl | exact absurd rfl hk
    refine Eq.trans ?_ e
    dsimp only
    rw [hb,if_neg (by decide)]
    rfl
   ·rcases List.mem_cons.mp hy with z | z
    ·subst z;exact absurd hf hk
    ·exact p2 y z hf
theorem zin {scope:Scope} {env:Env} (h:∀ y ∈ scope.names,y.2=.free->∃ c,env.cells.lookup y.1=some c) :
  ∃ cl,closureFor scope env=pure cl/\(∀ x c,cl.lookup x=some c->env.cells.lookup x=some c)/\∀ y ∈ scope.names,y.2=.free->∃ c,cl.lookup y.1=some c:=by
 obtain ⟨cl,e,p1,p2,_⟩:=zdF scope.names [] h
 refine ⟨cl,?_,fun x c q=>(p1 x c q).elim (fun z=>by cases z) id,p2⟩
 have e2:((forIn scope.names [] (fun x r=>if (x.2 == NameKind.free)=true then (do let a ← cellOf env x.1;pure (ForInStep.yield ((x.1,a) :: r))) else pure (ForInStep.yield r)):Sem (List (Str × Addr))) >>= fun s=>pure s)=pure cl:=by
  rw [e];rfl
 exact e2
theorem zeo {env:Env} {x:Str} {k:NameKind}:∀ {names:List (Str × NameKind)},(names.map fun (n,k)=>if (k == NameKind.free && env.scope.kind == .function && env.kindOf n == some .cell) then (n,NameKind.cell) else (n,k)).lookup x=some k ->
  names.lookup x=some k ∨ (names.lookup x=some .free/\k=.cell)
 | [],h=>by cases h
 | (n,j) :: r,h=>by
  have ih:=@zeo env x k r
  have h:List.lookup x ((if (j == NameKind.free && env.scope.kind == .function && env.kindOf n == some .cell)=true then (n,NameKind.cell) else (n,j)) :: _)=some k:=h
  cases hx:x == n with
  | true =>
   by_cases hc:(j == NameKind.free && env.scope.kind == .function && env.kindOf n == some .cell)=true
   ·rw [if_pos hc] at h
    simp only [List.lookup_cons,hx] at h ⊢
    cases h
    simp only [Bool.and_eq_true] at hc
    have:j=.free:=by have:=hc.1.1;cases j <;> first | rfl | cases this
    subst this
    exact .inr ⟨rfl,rfl⟩
   ·rw [if_neg hc] at h
    simp only [List.lookup_cons,hx] at h ⊢
    exact .inl h
  | false =>
   by_cases hc:(j == NameKind.free && env.scope.kind == .function && env.kindOf n == some .cell)=true
   ·rw [if_pos hc] at h
    simp only [List.lookup_cons,hx] at h ⊢
    exact ih h
   ·rw [if_neg hc] at h
    simp only [List.lookup_cons,hx] at h ⊢
    exact ih h
theorem zdR {env:Env} {x:Str}:∀ {names:List (Str × NameKind)},names.lookup x=some .free ->
  (names.map fun (n,k)=>if (k == NameKind.free && env.scope.kind == .function && env.kindOf n == some .cell) then (n,NameKind.cell) else (n,k)).lookup x=some .free ∨
  (names.map fun (n,k)=>if (k == NameKind.free && env.scope.kind == .function && env.kindOf n == some .cell) then (n,NameKind.cell) else (n,k)).lookup x=some .cell
 | [],h=>by cases h
 | (n,j) :: r,h=>by
  have ih:=@zdR env x r
  show List.lookup x ((if (j == NameKind.free && env.scope.kind == .function && env.kindOf n == some .cell)=true then (n,NameKind.cell) else (n,j)) :: _)=_ ∨ List.lookup x ((if (j == NameKind.free && env.scope.kind == .function && env.kindOf n == some .cell)=true then (n,NameKind.cell) else (n,j)) :: _)=_
  cases hx:x == n with
  | true =>
   simp only [List.lookup_cons,hx] at h
   cases h
   by_cases hc:(NameKind.free == NameKind.free && env.scope.kind == .function && env.kindOf n == some .cell)=true
   ·rw [if_pos hc];simp [List.lookup_cons,hx]
   ·rw [if_neg hc];simp [List.lookup_cons,hx]
  | false =>
   simp only [List.lookup_cons,hx] at h
   by_cases hc:(j == NameKind.free && env.scope.kind == .function && env.kindOf n == some .cell)=true
   ·rw [if_pos hc];simp only [List.lookup_cons,hx];exact ih h
   ·rw [if_neg hc];simp only [List.lookup_cons,hx];exact ih h
theorem zeO {env:Env} {x:Str}:∀ {names:List (Str × NameKind)},names.lookup x=some .globalImplicit ->
  (names.map fun (n,k)=>if (k == NameKind.free && env.scope.kind == .function && env.kindOf n == some .cell) then (n,NameKind.cell) else (n,k)).lookup x=some .globalImplicit
 | [],h=>by cases h
 | (n,j) :: r,h=>by
  have ih:=@zeO env x r
  show List.lookup x ((if (j == NameKind.free && env.scope.kind == .function && env.kindOf n == some .cell)=true then (n,NameKind.cell) else (n,j)) :: _)=_
  cases hx:x == n with
  | true =>
   simp only [List.lookup_cons,hx] at h
   cases h
   rw [if_neg (by simp)]
   simp [List.lookup_cons,hx]
  | false =>
   simp only [List.lookup_cons,hx] at h
   by_cases hc:(j == NameKind.free && env.scope.kind == .function && env.kindOf n == some .cell)=true
   ·rw [if_pos hc];simp only [List.lookup_cons,hx];exact ih h
   ·rw [if_neg hc];simp only [List.lookup_cons,hx];exact ih h
def Cx.blk (X:Cx) (N':List Str) (scope:Scope) (cl:List (Str × Addr)) (C:Addr) (s₀ : Shared) (H₀ : Hp) (ex:List Addr):Cx :=
 { X with N:=N',s₀:=s₀,H₀:=H₀,env:=compEnvC scope cl C X.env,outer:=X.stack,ex:=ex,fn:=fun _=>false,xe:=fun _ _=>False }
section
variable {X:Cx} {N':List Str} {scope:Scope} {cl:List (Str × Addr)} {C:Addr} {s₀ : Shared} {H₀ : Hp} {ex:List Addr} {x:Str}
theorem zm8 (h:scope.names.lookup x=some .local ∨ scope.names.lookup x=some .free):Vis (X.blk N' scope cl C s₀ H₀ ex).env.scope x:=by
 rcases h with h | h
 ·exact .inl (lookup_relabel_local h)
 ·rcases zdR (env:=X.env) h with z | z
  ·exact .inr (.inr z)
  ·exact .inr (.inl z)
theorem za5 (h:scope.names.lookup x=some .local):Loc (X.blk N' scope cl C s₀ H₀ ex).env.scope x:=.inl (lookup_relabel_local h)
theorem zbm (h:scope.names.lookup x=some .local):(X.blk N' scope cl C s₀ H₀ ex).env.scope.names.lookup x=some .local:=lookup_relabel_local h
theorem zcP (h:scope.names.lookup x=some .globalImplicit):Gl (X.blk N' scope cl C s₀ H₀ ex) x:=zeO h
end
def zdh (names:List (Str × NameKind)) (N N2:List Str) (k:Nat):Bool :=
 N2.length == N.length+k && (List.range N2.length).all fun i=>match N2[i]? with
  | none=>true
  | some x=>match names.lookup x with
   | some .free=>N[i]? == some x
   | some .local=>decide (N.length<=i) && decide (i < N.length+k)
   | some .cell=>false
   | _=>true
theorem zf2 {names:List (Str × NameKind)} {N N2:List Str} {k:Nat} (h:zdh names N N2 k=true) :
  N2.length=N.length+k/\∀ (i:Nat) x,N2[i]?=some x->(names.lookup x=some .free->N[i]?=some x)/\(names.lookup x=some .local->N.length<=i/\i < N.length+k):=by
 unfold zdh at h
 simp only [Bool.and_eq_true,beq_iff_eq,List.all_eq_true,List.mem_range] at h
 refine ⟨h.1,fun i x e=>?_⟩
 have hi:=(List.getElem?_eq_some_iff.mp e).1
 have:=h.2 i hi
 rw [e] at this
 refine ⟨fun q=>?_,fun q=>?_⟩
 ·simp only [q] at this
  simpa using this
 ·simp only [q] at this
  simpa using this
theorem Inv.enter {X:Cx} {pins:List (Addr × Obj)} {σ : St} {H:Hp} {s3:Shared} (I:Inv X pins σ H s3) {scope:Scope} {cl:List (Str × Addr)} {N2:List Str} {k:Nat} {h':Heap} {fp:List Addr} {t':Nat} {m0:Str->Option Value}
  (hb:zdh scope.names X.N N2 k=true) (hkind:scope.kind=.function) (hcell:∀ y ∈ scope.names,y.2 ≠ .cell)
  (hfree:∀ y ∈ scope.names,y.2=.free->X.env.scope.names.lookup y.1=some .cell ∨ X.env.scope.names.lookup y.1=some .free)
  (cl1:∀ x c,cl.lookup x=some c->X.env.cells.lookup x=some c) (cl2:∀ y ∈ scope.names,y.2=.free->∃ c,cl.lookup y.1=some c)
  (hn:h'.Ns s3.heap.objs.size m0) (hk:∀ b o,s3.heap.get? b=some o->h'.get? b=some o) (hf:∀ b ∈ fp,FpOk X pins H b) (hfo:∀ b ∈ fp,∃ o,s3.heap.get? b=some o) :
  Inv (X.blk N2 scope cl s3.heap.objs.size s3 H fp) pins (σ ++ List.replicate k none) H { s3 with heap:=h',toks:=t' }:=by
 obtain ⟨hl,hN⟩:=zf2 hb
 have lt:∀ b o,s3.heap.get? b=some o->b ≠ s3.heap.objs.size:=fun b o e=>Nat.ne_of_lt (Heap.lt_size e)
 have ofl:∀ x,scope.names.lookup x=some .free->(x,NameKind.free) ∈ scope.names:=fun x h=>mem_of_lookup h
 have kinv:∀ x kk,(X.blk N2 scope cl s3.heap.objs.size s3 H fp).env.scope.names.lookup x=some kk->scope.names.lookup x=some kk ∨ (scope.names.lookup x=some .free/\kk=.cell):=fun x kk h=>zeo (env:=X.env) h
 have isfree:∀ x,(X.blk N2 scope cl s3.heap.objs.size s3 H fp).env.scope.names.lookup x=some .cell ∨ (X.blk N2 scope cl s3.heap.objs.size s3 H fp).env.scope.names.lookup x=some .free->scope.names.lookup x=some .free:=fun x h=>by
  rcases h with h | h
  ·rcases kinv x _ h with z | z
   ·exact absurd rfl (hcell _ (mem_of_lookup z))
   ·exact z.1
  ·rcases kinv x _ h with z | z
   ·exact z
   ·exact z.1
 have ok:(X.blk N2 scope cl s3.heap.objs.size s3 H fp).Ok :=
  {
   mod:=I.ok.mod
   kind:=hkind
   glob:=I.ok.glob
   blt:=I.ok.blt
   above:=Nat.le_refl _
   inj:=fun x y c a b=>I.ok.inj x y c (cl1 x c a) (cl1 y c b)
   has:=fun x h=>cl2 (x,.free) (ofl x (isfree x h)) rfl
   cab:=fun x c h=>by cases h
   hd:=I.ok.hd
   frames:=I.ok.frames
   stk:=.inl rfl
   exf:=fun b hb=>⟨let ⟨o,e⟩:=hfo b hb;lt b o e,fun x c e=>(hf b hb).2.2.2.2.1 x c (cl1 x c e)⟩
   bs:=I.bs
   bsz:=Nat.le_trans I.ok.bsz I.sz
   noex:=fun b o e hb=>by
    rcases (hf b hb).2.2.2.1 with z | z
    ·exact I.ok.noex b o e z
    ·exact absurd (Nat.lt_of_lt_of_le (Heap.lt_size e) (Nat.le_trans I.ok.bsz z)) (Nat.lt_irrefl _)
   exfs:=fun b hb hx=>by
    rcases List.mem_cons.mp (I.stkSub b hx) with z | z
    ·exact (hf b hb).2.1 z
    ·exact (hf b hb).2.2.1 z
   funs:=I.stack
   frf:=I.stkFree }
 refine ⟨ok,rfl,I.bare,Un.kept hk,⟨m0,hn,fun i x v e1 e2 e3=>?_⟩,fun x c e=>?_,I.hok.fresh (Nat.le_refl _),fun x c e=>I.freeC x c (cl1 x c e),fun p hp=>?_,I.hok.kept hk,?_⟩
 ·have nl:scope.names.lookup x ≠ some .local:=fun z=>by
   obtain ⟨g1,g2⟩:=(hN i x e1).2 z
   rw [← I.len] at g1 g2
   rw [List.getElem?_append_right g1,List.getElem?_replicate] at e2
   split at e2 <;> cases e2
  have fr:scope.names.lookup x=some .free:=by
   rcases e3 with z | z | z
   ·rcases kinv x _ z with q | q
    ·exact absurd q nl
    ·cases q.2
   ·exact isfree x (.inl z)
   ·exact isfree x (.inr z)
  have eN:=(hN i x e1).1 fr
  have hi:i < σ.length:=by rw [I.len];exact (List.getElem?_eq_some_iff.mp eN).1
  rw [List.getElem?_append_left hi] at e2
  obtain ⟨m,hm,hlk⟩:=I.loc
  have hkd:=hfree _ (ofl x fr) rfl
  obtain ⟨u,r,l⟩:=hlk i x v eN e2 (.inr hkd)
  refine ⟨u,r,.inr ⟨?_,?_⟩⟩
  ·rcases e3 with z | z | z
   ·rcases kinv x _ z with q | q
    ·exact absurd q nl
    ·cases q.2
   ·exact .inl z
   ·exact .inr z
  ·rcases l with l | ⟨_,c,ec,z⟩
   ·have:X.env.scope.names.lookup x=some .local:=l.1
    rcases hkd with q | q <;> (dsimp only at q;rw [this] at q;cases q)
   ·obtain ⟨c',ec'⟩:=cl2 _ (ofl x fr) rfl
    have:=cl1 _ _ ec'
    dsimp only at this ec'
    rw [ec] at this
    cases this
    obtain ⟨o,ho,hd⟩:=z
    exact ⟨c,ec',o,hk c o ho,hd⟩
 ·obtain ⟨v,o,ho,hd⟩:=I.cell x c (cl1 x c e)
  exact ⟨v,o,hk c o ho,hd⟩
 ·obtain ⟨e,n,ne,nf,d⟩:=I.pin p hp
  refine ⟨hk _ _ e,n,lt _ _ e,fun z=>?_,d⟩
  rcases List.mem_cons.mp (I.stkSub _ z) with q | q
  ·exact ne q
  ·exact nf q
 ·rw [List.length_append,List.length_replicate,I.len]
  exact hl.symm
section
variable {prog:Program} {w:World} {A:Around} {R:Result->Shared->Prop} {s:Shared}
end
abbrev nox:Value->Shared->Prop:=fun _ _=>False
def zdi (prog:Program) (w:World) (A:Around) (tg:Expr) (ifs:List Expr) (env:Env) (it:Value) (code:Code) (W:(Shared->Prop)->Shared->Prop):Prop :=
 ∀ (R:Result->Shared->Prop) (I:Nat->Shared->Prop) (n:Nat) (s:Shared),I n s ->
  (∀ n s,I n s->wpAny (model prog w) A (pyNext it) (fun r s₁=>match r with
   | none=>R (.ok .next) s₁
   | some v=>wpAny (model prog w) A (letOwnedTupleGo tg it v) (fun _ s₁'=>wpAny (model prog w) A (assign tg env v) (fun _ s₂ =>
     wpAny (model prog w) A (forIn ifs true fun c r=>if r=true then do let ok ← isTrue c env (eval c env);pure (ForInStep.yield ok) else pure (ForInStep.yield r)) (fun ok s₃ =>
      if ok=true then W (fun s₅=>∃ m,m < n/\I m s₅) s₃ else ∃ m,m < n/\I m s₃) nox s₂) nox s₁') nox s₁) nox s)->codeAny (model prog w) A code R s
section
variable {prog:Program} {w:World} {A:Around} {elt tg i:Expr} {ifs:List Expr} {gens:List Comprehension} {scope:Scope} {pos:Pos} {it acc:Value} {env:Env} {j:Nat}
theorem zju (hg:gens[j]?=some ⟨tg,i,ifs,0⟩) (hn:gens[j+1]?=none):zdi prog w A tg ifs env it (.compLoop (.ListComp elt gens scope pos) j it acc env)
  (fun Q s=>wpAny (model prog w) A (eval elt env) (fun x s₄=>wpAny (model prog w) A (call (.builtin "list.append") [acc,x]) (fun _ s₅=>Q s₅) nox s₄) nox s):=by
 intro R I n s h turn
 refine codeAny_loop rfl I (fun n s hI=>?_) n h
 show wpAny _ A ((compTurn (.ListComp elt gens scope pos) j it acc env).onRaise (fun x=>do noteFrame x env;theTreesLotGoes x)) _ _ s
 refine wpAny_noted ?_
 unfold compTurn
 dsimp only
 simp only [hg,hn]
 refine wpAny_bind (wpAny_standAt (wpAny_bind (wpAny_mono (turn n s hI) (fun r s₁ h₁=>?_) fun _ _ h'=>h'.elim)))
 cases r with
 | none=>exact wpAny_pure h₁
 | some v =>
  refine wpAny_bind (wpAny_mono h₁ (fun _ s₁' h₁'=>?_) fun _ _ h'=>h'.elim)
  refine wpAny_bind (wpAny_mono h₁' (fun _ s₂ h₂=>wpAny_bind (wpAny_mono h₂ (fun ok s₃ h₃=>?_) fun _ _ h'=>h'.elim)) fun _ _ h'=>h'.elim)
  cases ok with
  | false=>exact wpAny_pure ⟨rfl,h₃⟩
  | true=>exact wpAny_bind (wpAny_bind (wpAny_mono h₃ (fun x s₄ h₄=>wpAny_bind (wpAny_mono h₄ (fun _ s₅ h₅=>wpAny_pure (wpAny_pure ⟨rfl,h₅⟩)) fun _ _ h'=>h'.elim)) fun _ _ h'=>h'.elim))
theorem zjv {tg1 i1:Expr} {ifs1:List Expr} (hg:gens[j]?=some ⟨tg,i,ifs,0⟩) (hn:gens[j+1]?=some ⟨tg1,i1,ifs1,0⟩) (hs:∀ x,foldedSetIterable i1 env x=pure x):zdi prog w A tg ifs env it (.compLoop (.ListComp elt gens scope pos) j it acc env)
  (fun Q s=>wpAny (model prog w) A (eval i1 env) (fun x s₄=>wpAny (model prog w) A (pyIter x) (fun it1 s₅=>codeAny (model prog w) A (.compStart (.ListComp elt gens scope pos) (j+1) it1 acc env)
   (fun r s₆=>match r with | .ok _=>Q s₆ | .error _=>False) s₅) nox s₄) nox s):=by
 intro R I n s h turn
 refine codeAny_loop rfl I (fun n s hI=>?_) n h
 show wpAny _ A ((compTurn (.ListComp elt gens scope pos) j it acc env).onRaise (fun x=>do noteFrame x env;theTreesLotGoes x)) _ _ s
 refine wpAny_noted ?_
 unfold compTurn
 dsimp only
 simp only [hg,hn]
 refine wpAny_bind (wpAny_standAt (wpAny_bind (wpAny_mono (turn n s hI) (fun r s₁ h₁=>?_) fun _ _ h'=>h'.elim)))
 cases r with
 | none=>exact wpAny_pure h₁
 | some v =>
  refine wpAny_bind (wpAny_mono h₁ (fun _ s₁' h₁'=>?_) fun _ _ h'=>h'.elim)
  refine wpAny_bind (wpAny_mono h₁' (fun _ s₂ h₂=>wpAny_bind (wpAny_mono h₂ (fun ok s₃ h₃=>?_) fun _ _ h'=>h'.elim)) fun _ _ h'=>h'.elim)
  cases ok with
  | false=>exact wpAny_pure ⟨rfl,h₃⟩
  | true =>
   refine wpAny_bind (wpAny_mono h₃ (fun x s₄ h₄=>wpAny_bind (wpAny_standAt (wpAny_bind (wpAny_of_eq (hs x) (wpAny_bind (wpAny_holding (wpAny_mono h₄ (fun it1 s₅ h₅=>?_) fun _ _ h'=>h'.elim))))))) fun _ _ h'=>h'.elim)
   refine wpAny_bind (wpAny_runOwn (codeAny_mono h₅ fun r s₆ h₆=>?_))
   cases r with
   | ok f=>exact wpAny_pure ⟨rfl,h₆⟩
   | error x=>exact h₆.elim
theorem zf3 {R:Result->Shared->Prop} {s:Shared} (hg:gens[j]?=some ⟨tg,i,ifs,0⟩)
  (h0:codeAny (model prog w) A (.compLoop (.ListComp elt gens scope pos) j it acc env) R s)
  (h:wpAny (model prog w) A (pyIter it) (fun it' s'=>codeAny (model prog w) A (.compLoop (.ListComp elt gens scope pos) j it' acc env) R s') nox s) :
  codeAny (model prog w) A (.compStart (.ListComp elt gens scope pos) j it acc env) R s:=by
 refine codeAny_of_tree ?_
 show wpAny _ _ ((compStart (.ListComp elt gens scope pos) j it acc env).onRaise (fun x=>do noteFrame x env;standAt theWindowsPlace)) _ _ s
 refine wpAny_notedAt ?_
 unfold compStart
 have hc:(clausesOf (.ListComp elt gens scope pos))[j]?=some ⟨tg,i,ifs,0⟩:=hg
 simp only [hc]
 show wpAny _ _ (ask >>= _) _ _ s
 refine wpAny_bind (wpAny_askSetting (wpAny_ite ?_))
 split
 ·first
   | exact wpAny_bind (wpAny_pure (wpAny_pure (And.intro rfl h0)))
   | exact wpAny_pure (And.intro rfl h0)
 ·first
   | exact wpAny_bind (wpAny_rule (wpAny_bind (wpAny_standAt (wpAny_bind (wpAny_mono h (fun it' s' h'=>wpAny_pure (And.intro rfl h')) fun _ _ x=>x.elim)))))
   | (refine wpAny_bind (wpAny_rule ?_);show wpAny _ _ (standAt _ >>= _) _ _ s;exact wpAny_bind (wpAny_standAt (wpAny_bind (wpAny_mono h (fun it' s' h'=>wpAny_pure (And.intro rfl h')) fun _ _ x=>x.elim))))
end
end L2
namespace DL
open PySem PySem.Spec L2
open PyProof.Rows hiding St
def zci:Option Sl->Option Sl
 | some (.own _)=>none
 | x=>x
def zaL (ρ : DEnv):DEnv:=ρ.map zci
theorem zjw {ρ : DEnv} {i:Nat} {d:D} (h:(zaL ρ)[i]?=some (some (.pub d))) : ρ[i]?=some (some (.pub d)):=by
 unfold zaL at h
 rw [List.getElem?_map] at h
 cases e : ρ[i]? with
 | none=>rw [e] at h;cases h
 | some o =>
  rw [e] at h
  cases o with
  | none=>cases h
  | some sl=>cases sl with
   | pub d'=>cases h;rfl
   | own ds=>cases h
theorem zcu {ρ : DEnv} {i:Nat} {ds:List D} (h:(zaL ρ)[i]?=some (some (.own ds))):False:=by
 unfold zaL at h
 rw [List.getElem?_map] at h
 cases e : ρ[i]? with
 | none=>rw [e] at h;cases h
 | some o =>
  rw [e] at h
  cases o with
  | none=>cases h
  | some sl=>cases sl with
   | pub d'=>cases h
   | own ds=>cases h
def zbw (s:D->DEnv->Option DEnv) (t:M Bool) (g:M D):List D->DEnv->List D->Option (List D)
 | [],_,es=>some es
 | d :: r,ρ,es=>match s d ρ with
  | none=>none
  | some ρ1=>match t ρ1 with
   | .bad=>none
   | .ok b ρ2=>if b=true then (match g ρ2 with
     | .bad=>none
     | .ok e ρ3=>if es.length < 1000000 then zbw s t g r (zaL ρ3) (es ++ [e]) else none)
    else zbw s t g r (zaL ρ2) es
def zcr (f:M (List D)) (k:Nat) (s:D->DEnv->Option DEnv) (t:M Bool) (g:M D):M (List D):=fun ρ=>match f ρ with
 | .bad=>.bad
 | .ok ds ρ1=>match zbw s t g ds (zaL ρ1 ++ List.replicate k none) [] with
  | none=>.bad
  | some es=>.ok es ρ1
def PIfs (X:Cx) (ifs:List Expr) (t:TT):Prop :=
 ∀ (pins:List (Addr × Obj)) (s:Shared) (σ : St) (H:Hp) (Q:Bool->Hp->Prop),Inv X pins σ H s->t σ H Q ->
  wpAny (model X.prog X.w) X.A (forIn ifs true fun c r=>if r=true then do let ok ← isTrue c X.env (eval c X.env);pure (ForInStep.yield ok) else pure (ForInStep.yield r)) (TP X pins σ Q) X.xe s
section
variable {X:Cx} {B G0:Hp}
theorem zbp:PIfs X [] (tBo X.K B G0 (zag true)):=fun pins s σ H Q I ⟨G,ρ,k,a⟩=>wpAny_tests_nil ⟨H,I,a true G H k (.refl _) rfl⟩
theorem zgV {c:Expr} {t:M Bool} (h:PT X c (tBo X.K B G0 t)):PIfs X [c] (tBo X.K B G0 t):=fun pins s σ H Q I q=>wpAny_tests_one (h pins s σ H Q I q)
theorem EOk.rebase {K:PySem.W.Frag} {G H:Hp} {σ : St} {ρ : DEnv} (k:EOk K B G0 G H σ ρ):EOk K H G G H σ (zaL ρ) where
 bh:=.refl _
 gh:=k.gh
 g0:=.refl _
 np:=fun _ _ _ n=>n
 len:=by unfold zaL;rw [List.length_map];exact k.len
 pub:=fun i d q=>k.pub i d (zjw q)
 own:=fun i ds q=>(zcu q).elim
 sep:=fun i j a ds es q=>(zcu q).elim
theorem EOk.more {K:PySem.W.Frag} {G H:Hp} {σ : St} {ρ : DEnv} (k:EOk K H G G H σ (zaL ρ)) (n:Nat):EOk K H G G H (σ ++ List.replicate n none) (zaL ρ ++ List.replicate n none) where
 bh:=.refl _
 gh:=k.gh
 g0:=.refl _
 np:=fun _ _ _ n=>n
 len:=by rw [List.length_append,List.length_append,k.len,List.length_replicate,List.length_replicate]
 pub:=fun i d q=>by
  by_cases hi:i < (zaL ρ).length
  ·rw [List.getElem?_append_left hi] at q
   rw [List.getElem?_append_left (by rw [← k.len];exact hi)]
   exact k.pub i d q
  ·rw [List.getElem?_append_right (Nat.le_of_not_lt hi),List.getElem?_replicate] at q
   split at q <;> cases q
 own:=fun i ds q=>by
  by_cases hi:i < (zaL ρ).length
  ·rw [List.getElem?_append_left hi] at q
   exact (zcu q).elim
  ·rw [List.getElem?_append_right (Nat.le_of_not_lt hi),List.getElem?_replicate] at q
   split at q <;> cases q
 sep:=fun i j a ds es q=>by
  by_cases hi:i < (zaL ρ).length
  ·rw [List.getElem?_append_left hi] at q
   exact (zcu q).elim
  ·rw [List.getElem?_append_right (Nat.le_of_not_lt hi),List.getElem?_replicate] at q
   split at q <;> cases q
theorem EOk.beside {K:PySem.W.Frag} {G H:Hp} {σ : St} {ρ : DEnv} {a:Addr} {o:HO} (k:EOk K B G0 G H σ ρ) (hg:G a=none):EOk K (upd H a o) G G (upd H a o) σ (zaL ρ) where
 bh:=.refl _
 gh:=fun b u e=>by rw [zaJ (fun z=>by subst z;rw [hg] at e;cases e)];exact k.gh b u e
 g0:=.refl _
 np:=fun _ _ _ n=>n
 len:=k.rebase.len
 pub:=k.rebase.pub
 own:=fun i ds q=>(zcu q).elim
 sep:=fun i j a ds es q=>(zcu q).elim
theorem lim1:1000000<=sizeLine:=lim
def zpG:Option Sl->Option Sl
 | some (.own ds)=>some (.pub (.list ds))
 | x=>x
def zc6 (ρ : DEnv):DEnv:=ρ.map zpG
theorem zjx {ρ : DEnv} {i:Nat} {d:D} (h:(zc6 ρ)[i]?=some (some (.pub d))) : ρ[i]?=some (some (.pub d)) ∨ ∃ ds,d=.list ds /\ ρ[i]?=some (some (.own ds)):=by
 unfold zc6 at h
 rw [List.getElem?_map] at h
 cases e : ρ[i]? with
 | none=>rw [e] at h;cases h
 | some o =>
  rw [e] at h
  cases o with
  | none=>cases h
  | some sl=>cases sl with
   | pub d'=>cases h;exact .inl rfl
   | own ds=>cases h;exact .inr ⟨ds,rfl,rfl⟩
theorem zf4 {ρ : DEnv} {i:Nat} {ds:List D} (h:(zc6 ρ)[i]?=some (some (.own ds))):False:=by
 unfold zc6 at h
 rw [List.getElem?_map] at h
 cases e : ρ[i]? with
 | none=>rw [e] at h;cases h
 | some o =>
  rw [e] at h
  cases o with
  | none=>cases h
  | some sl=>cases sl with
   | pub d'=>cases h
   | own ds=>cases h
def flat:D->Bool
 | .none=>true | .bool _=>true | .int _=>true | .str _=>true | _=>false
theorem Rep.flat {K:PySem.W.Frag} {G G':Hp} {v:V} {d:D} (r:Rep K G v d) (h:DL.flat d=true):Rep K G' v d:=by
 cases r with
 | non=>exact .non
 | bl b=>exact .bl b
 | int i=>exact .int i
 | str x=>exact .str x
 | lst _ _=>cases h
 | tup _ _=>cases h
 | dic _=>cases h
 | exc _ _ _ _=>cases h
 | dct _ _ _ _ _=>cases h
 | dtt _ _ _ _=>cases h
theorem Reps.flat {K:PySem.W.Frag} {G G':Hp}:∀ {vs:List V} {ds:List D},Reps K G vs ds->ds.all DL.flat=true->Reps K G' vs ds
 | _,_,.nil,_=>.nil
 | _,_,.cons r t,h=>by
  rw [List.all_cons,Bool.and_eq_true] at h
  exact .cons (r.flat h.1) (Reps.flat t h.2)
theorem EOk.lend {K:PySem.W.Frag} {B G0 G H:Hp} {σ : St} {ρ : DEnv} {D:Addr} {o:HO} (k:EOk K B G0 G H σ ρ) (hD:H D=none) (n:Nat):EOk K (upd H D o) H H (upd H D o) (σ ++ List.replicate n none) (zc6 ρ ++ List.replicate n none) where
 bh:=.refl _
 gh:=zaO hD
 g0:=.refl _
 np:=fun _ _ _ n=>n
 len:=by unfold zc6;rw [List.length_append,List.length_append,List.length_map,k.len,List.length_replicate,List.length_replicate]
 pub:=fun i d q=>by
  have hl:(zc6 ρ).length = ρ.length:=by unfold zc6;rw [List.length_map]
  by_cases hi:i < (zc6 ρ).length
  ·rw [List.getElem?_append_left hi] at q
   rw [List.getElem?_append_left (by rw [← k.len,← hl];exact hi)]
   rcases zjx q with e | ⟨ds,rfl,e⟩
   ·obtain ⟨v,h1,h2⟩:=k.pub i d e
    exact ⟨v,h1,h2.mono k.gh⟩
   ·obtain ⟨a,vs,h1,h2,h3,h4,h5⟩:=k.own i ds e
    exact ⟨.ref a,h1,.lst (SqL.of h4) (h5.mono k.gh)⟩
  ·rw [List.getElem?_append_right (Nat.le_of_not_lt hi),List.getElem?_replicate] at q
   split at q <;> cases q
 own:=fun i ds q=>by
  by_cases hi:i < (zc6 ρ).length
  ·rw [List.getElem?_append_left hi] at q
   exact (zf4 q).elim
  ·rw [List.getElem?_append_right (Nat.le_of_not_lt hi),List.getElem?_replicate] at q
   split at q <;> cases q
 sep:=fun i j a ds es q=>by
  by_cases hi:i < (zc6 ρ).length
  ·rw [List.getElem?_append_left hi] at q
   exact (zf4 q).elim
  ·rw [List.getElem?_append_right (Nat.le_of_not_lt hi),List.getElem?_replicate] at q
   split at q <;> cases q
def zf5 (f:M (List D)) (k:Nat) (s:D->DEnv->Option DEnv) (t:M Bool) (g:M D):M (List D):=fun ρ=>match f ρ with
 | .bad=>.bad
 | .ok ds ρ1=>match zbw s t g ds (zc6 ρ1 ++ List.replicate k none) [] with
  | none=>.bad
  | some es=>if es.all flat=true then .ok es ρ1 else .bad
end
def zb1 (s:D->DEnv->Option DEnv) (t:M Bool) (g:M D):List D->DEnv->List D->Option (List D × DEnv)
 | [],ρ,es=>some (es,ρ)
 | d :: r,ρ,es=>match s d ρ with
  | none=>none
  | some ρ1=>match t ρ1 with
   | .bad=>none
   | .ok b ρ2=>if b=true then (match g ρ2 with
     | .bad=>none
     | .ok e ρ3=>if es.length < 1000000 then zb1 s t g r (zaL ρ3) (es ++ [e]) else none)
    else zb1 s t g r (zaL ρ2) es
def zcQ (s0:D->DEnv->Option DEnv) (t0:M Bool) (f1:M (List D)) (s1:D->DEnv->Option DEnv) (t1:M Bool) (g:M D):List D->DEnv->List D->Option (List D)
 | [],_,es=>some es
 | d :: r,ρ,es=>match s0 d ρ with
  | none=>none
  | some ρ1=>match t0 ρ1 with
   | .bad=>none
   | .ok b ρ2=>if b=true then (match f1 ρ2 with
     | .bad=>none
     | .ok ds ρ3=>match zb1 s1 t1 g ds (zaL ρ3) es with
      | none=>none
      | some (es',ρ4)=>zcQ s0 t0 f1 s1 t1 g r ρ4 es')
    else zcQ s0 t0 f1 s1 t1 g r (zaL ρ2) es
def zf6 (f:M (List D)) (k:Nat) (s:D->DEnv->Option DEnv) (t:M Bool) (f1:M (List D)) (s1':D->DEnv->Option DEnv) (t1':M Bool) (g:M D):M (List D):=fun ρ=>match f ρ with
 | .bad=>.bad
 | .ok ds ρ1=>match zcQ s t f1 s1' t1' g ds (zaL ρ1 ++ List.replicate k none) [] with
  | none=>.bad
  | some es=>.ok es ρ1
def zcj (s0:D->DEnv->Option DEnv) (t0:M Bool) (f1:M (List D)) (Rd:List D->DEnv->List D->Option (List D × DEnv)):List D->DEnv->List D->Option (List D × DEnv)
 | [],ρ,es=>some (es,ρ)
 | d :: r,ρ,es=>match s0 d ρ with
  | none=>none
  | some ρ1=>match t0 ρ1 with
   | .bad=>none
   | .ok b ρ2=>if b=true then (match f1 ρ2 with
     | .bad=>none
     | .ok ds ρ3=>match Rd ds (zaL ρ3) es with
      | none=>none
      | some (es',ρ4)=>zcj s0 t0 f1 Rd r ρ4 es')
    else zcj s0 t0 f1 Rd r (zaL ρ2) es
def lead (Rd:List D->DEnv->List D->Option (List D × DEnv)) (ds:List D) (ρ : DEnv) (es:List D):Option (List D):=(Rd ds ρ es).map (·.1)
def zf7 (f:M (List D)) (k:Nat) (s:D->DEnv->Option DEnv) (t:M Bool) (f1:M (List D)) (s1':D->DEnv->Option DEnv) (t1':M Bool) (fx2:M (List D)) (s2':D->DEnv->Option DEnv) (t2':M Bool) (g:M D):M (List D):=fun ρ=>match f ρ with
 | .bad=>.bad
 | .ok ds ρ1=>match lead (zcj s t f1 (zcj s1' t1' fx2 (zb1 s2' t2' g))) ds (zaL ρ1 ++ List.replicate k none) [] with
  | none=>.bad
  | some es=>.ok es ρ1
abbrev RdB:=DEnv->List D->Option (List D × DEnv)
def rL (g:M D):RdB:=fun ρ es=>match g ρ with
 | .bad=>none
 | .ok e ρ3=>if es.length < 1000000 then some (es ++ [e],zaL ρ3) else none
def cT (s:D->DEnv->Option DEnv) (t:M Bool) (rd:RdB):List D->DEnv->List D->Option (List D × DEnv)
 | [],ρ,es=>some (es,ρ)
 | d :: r,ρ,es=>match s d ρ with
  | none=>none
  | some ρ1=>match t ρ1 with
   | .bad=>none
   | .ok b ρ2=>if b=true then (match rd ρ2 es with
     | none=>none
     | some (es',ρ')=>cT s t rd r ρ' es')
    else cT s t rd r (zaL ρ2) es
def rN (f:M (List D)) (s:D->DEnv->Option DEnv) (t:M Bool) (rd:RdB):RdB:=fun ρ es=>match f ρ with
 | .bad=>none
 | .ok ds ρ3=>cT s t rd ds (zaL ρ3) es
structure Left (Y:Cx) (D':Addr) (pins:List (Addr × Obj)) (H G:Hp) (es':List D) (ρ':DEnv) (σ':St) (H' G':Hp) (vs':List V) (s':Shared):Prop where
 inv:Inv Y pins σ' H' s'
 eok:EOk Y.K H' G' G' H' σ' ρ'
 hh:∀ a o,a ≠ D'->H a=some o->H' a=some o
 gg:Same G G'
 np:∀ a (u:MO),a ≠ D'->H a=some u.ho->G a=none->G' a=none
 hd:H' D'=some (.lst vs')
 gd:G' D'=none
 rp:Reps Y.K G' vs' es'
def zjy (Y:Cx) (D':Addr) (W:(Shared->Prop)->Shared->Prop) (rd:RdB):Prop :=
 ∀ (pins:List (Addr × Obj)) (sh:Shared) (σ : St) (B1 G1 H G:Hp) (ρ ρ':DEnv) (vs:List V) (es es':List D) (Q:Shared->Prop),
  Inv Y pins σ H sh->EOk Y.K B1 G1 G H σ ρ -> B1 D'=some (.lst vs)->G1 D'=none->Reps Y.K G1 vs es->rd ρ es=some (es',ρ') ->
  (∀ σ' H' G' vs' s',Left Y D' pins B1 G1 es' ρ' σ' H' G' vs' s'->Q s')->W Q sh
section
variable {Y:Cx} {D':Addr}
theorem zjz {elt:Expr} {g:M D} (hx:Y.xe=nox) (he:∀ B1 G1,PE Y elt (tD Y.K B1 G1 g)) :
  zjy Y D' (fun Q s=>wpAny (model Y.prog Y.w) Y.A (eval elt Y.env) (fun x s₄=>wpAny (model Y.prog Y.w) Y.A (call (.builtin "list.append") [.ref D',x]) (fun _ s₅=>Q s₅) nox s₄) nox s) (rL g):=by
 intro pins sh σ B1 G1 H G ρ ρ' vs es es' Q I k hD gD r z fin
 unfold rL at z
 cases zg:g ρ with
 | bad=>rw [zg] at z;cases z
 | ok e ρ4 =>
 rw [zg] at z
 dsimp only at z
 split at z
 ·rename_i hle
  cases z
  have h:=he B1 G1 pins sh σ H (fun v H8=>∃ G8,EOk Y.K B1 G1 G8 H8 σ ρ4/\Rep Y.K G8 v e) I ⟨G,ρ,k,by unfold aft;rw [zg];exact fun v G8 H8 k8 _ q=>⟨G8,k8,q⟩⟩
  rw [hx] at h
  refine thn h fun ev s8 ⟨v,H8,I8,rv,G8,k8,r8⟩=>?_
  have h2:=zfX pins s8 σ H8 (.ref D') [v] (.ref D') [ev] (fun _ H9=>H9=upd H8 D' (.lst (vs ++ [v]))) I8 rfl (.cons rv .nil) ⟨D',vs,v,rfl,rfl,k8.bh _ _ hD,by have:=lim1;rw [r.length];omega,rfl⟩
  rw [hx] at h2
  refine thn h2 fun _ s9 ⟨_,H9,I9,_,e9⟩=>?_
  subst e9
  have g8:=k8.np _ (.l _) hD gD
  exact fin σ _ G8 _ s9 ⟨I9,k8.beside g8,fun a o z q=>by rw [zaJ z];exact k8.bh a o q,k8.g0,fun a o _ q w=>k8.np a o q w,zaD,g8,(r.mono k8.g0).append (.cons r8 .nil)⟩
 ·cases z
theorem zhI {tg:Expr} {ifs:List Expr} {code:Code} {W:(Shared->Prop)->Shared->Prop} {s:D->DEnv->Option DEnv} {t:M Bool} {rd:RdB} {it:Addr} (hx:Y.xe=nox) (hc:Y.calm=true) (rule:zdi Y.prog Y.w Y.A tg ifs Y.env (.ref it) code W)
  (hg:∀ B1 G1,PG Y tg (tG Y.K B1 G1 s)) (ht:∀ B1 G1,PIfs Y ifs (tBo Y.K B1 G1 t)) (hb:zjy Y D' W rd)
  {pins:List (Addr × Obj)} {sh:Shared} {σ : St} {H G:Hp} {ρ ρF:DEnv} {fp:List Addr} {tn:Nat->Heap->Prop} {J:It} {ds es esF:List D} {vs:List V} {R:Result->Shared->Prop}
  (I:Inv Y pins σ H sh) (T:Turn Y.prog Y.w Y.K tg J fp it tn) (st:tn 0 sh.heap) (hf:∀ b ∈ fp,FpOk Y pins H b)
  (k:EOk Y.K H G G H σ ρ) (its:zd2 Y.K J ds G) (hD:H D'=some (.lst vs)) (gD:G D'=none) (r:Reps Y.K G vs es) (zl:cT s t rd ds ρ es=some (esF,ρF))
  (hfin:∀ σ' H' G' vs' s',Left Y D' pins H G esF ρF σ' H' G' vs' s'->R (.ok .next) s'):codeAny (model Y.prog Y.w) Y.A code R sh:=by
 have stat:∀ {H':Hp},(∀ b ∈ fp,H' b=none)->∀ b ∈ fp,FpOk Y pins H' b:=fun hn b hb=>⟨hn b hb,(hf b hb).2⟩
 refine rule R (fun n s'=>∃ i σ' H' G' ρ' vs' es',n=ds.length - i/\tn i s'.heap/\(∀ b ∈ fp,H' b=none)/\Left Y D' pins H G es' ρ' σ' H' G' vs' s'/\cT s t rd (ds.drop i) ρ' es'=some (esF,ρF)) ds.length sh
  ⟨0,σ,H,G,ρ,vs,es,rfl,st,fun b hb=>(hf b hb).1,⟨I,k,fun _ _ _ q=>q,.refl _,fun _ _ _ _ n=>n,hD,gD,r⟩,by rw [List.drop_zero];exact zl⟩ ?_
 rintro n s' ⟨i,σ',H',G',ρ',vs',es',rfl,tn',fr',⟨I',k',sh',sg',np',hD',gD',r'⟩,zc⟩
 by_cases hlt:i < ds.length
 ·rw [List.drop_eq_getElem_cons hlt,cT] at zc
  cases zs:s ds[i] ρ' with
  | none=>rw [zs] at zc;cases zc
  | some ρ2 =>
  rw [zs] at zc
  dsimp only at zc
  cases zt:t ρ2 with
  | bad=>rw [zt] at zc;cases zc
  | ok b ρ3 =>
  rw [zt] at zc
  dsimp only at zc
  refine thn (T.item Y rfl rfl rfl hc i pins s' σ' H' nox I' (stat fr') tn' (its.go i G' H' sg' k'.gh hlt)) fun rr s4 ⟨u,hr,h4⟩=>?_
  subst hr
  refine thn h4 fun _ s5 ⟨x,H5,I5,r5,y5,st5,fr5⟩=>?_
  obtain ⟨G5,e5,rx⟩:=its.yld i G' H' x H5 ds[i] sg' k'.gh (List.getElem?_eq_getElem hlt) y5
  have h6:=hg H' G' _ s5 σ' H5 x u (fun σ6 H6=>∃ G6,EOk Y.K H' G' G6 H6 σ6 ρ2) (I5.pinned (stat fr5) (T.obj _ _ st5)) r5 ⟨G5,ρ',ds[i],ρ2,k'.ext e5,rx,zs,fun σ6 G6 H6 k6 _=>⟨G6,k6⟩⟩
  rw [hx] at h6
  refine thn h6 fun _ s6 ⟨σ6,H6,I6,G6,k6⟩=>?_
  have h7:=ht H' G' _ s6 σ6 H6 (fun c H7=>c=b/\∃ G7,EOk Y.K H' G' G7 H7 σ6 ρ3) I6 ⟨G6,ρ2,k6,by unfold aft;rw [zt];exact fun c G7 H7 k7 _ q=>⟨q,G7,k7⟩⟩
  rw [hx] at h7
  refine thn h7 fun ok s7 ⟨H7,I7,hb7,G7,k7⟩=>?_
  subst hb7
  have again:∀ {H9:Hp} {σ9:St} {s9:Shared},Inv Y (pins ++ zfO fp s5.heap) σ9 H9 s9->Inv Y pins σ9 H9 s9/\tn (i+1) s9.heap/\∀ b ∈ fp,H9 b=none:=fun {H9 σ9 s9} I9=>by
   refine ⟨I9.unpinned,T.keep _ _ _ st5 fun b hb o e=>(I9.pin (b,o) (List.mem_append_right _ (List.mem_append_right _ (zc1 hb e)))).1,fun b hb=>?_⟩
   obtain ⟨o,e,d⟩:=T.obj _ _ st5 b hb
   exact (I9.pin (b,o) (List.mem_append_right _ (List.mem_append_right _ (zc1 hb e)))).2.1
  have lt:ds.length - (i+1) < ds.length - i:=Nat.sub_lt_sub_left hlt (Nat.lt_succ_self i)
  cases ok with
  | false =>
   rw [if_neg (by decide)] at zc ⊢
   obtain ⟨J1,J2,J3⟩:=again I7
   exact ⟨_,lt,i+1,σ6,H7,G7,zaL ρ3,vs',es',rfl,J2,J3,⟨J1,k7.rebase,fun a o z q=>k7.bh a o (sh' a o z q),sg'.trans k7.g0,fun a o z q w=>k7.np a o (sh' a _ z q) (np' a o z q w),k7.bh _ _ hD',k7.np _ (.l _) hD' gD',r'.mono k7.g0⟩,zc⟩
  | true =>
   rw [if_pos rfl] at zc ⊢
   cases ze:rd ρ3 es' with
   | none=>rw [ze] at zc;cases zc
   | some pr =>
   obtain ⟨es1,ρ5⟩:=pr
   rw [ze] at zc
   refine hb _ s7 σ6 H' G' H7 G7 ρ3 ρ5 vs' es' es1 _ I7 k7 hD' gD' r' ze fun σ9 H9 G9 vs9 s9 L=>?_
   obtain ⟨J1,J2,J3⟩:=again L.inv
   exact ⟨_,lt,i+1,σ9,H9,G9,ρ5,vs9,es1,rfl,J2,J3,⟨J1,L.eok,fun a o z q=>L.hh a o z (sh' a o z q),sg'.trans L.gg,fun a o z q w=>L.np a o z (sh' a _ z q) (np' a o z q w),L.hd,L.gd,L.rp⟩,zc⟩
 ·rw [List.drop_eq_nil_of_le (Nat.le_of_not_lt hlt),cT] at zc
  cases zc
  refine thn (T.done Y rfl rfl rfl hc i pins s' σ' H' nox I' (stat fr') tn' (its.stop i G' H' sg' k'.gh (Nat.le_of_not_lt hlt))) fun rr s4 ⟨hr,I6⟩=>?_
  subst hr
  exact hfin σ' H' G' vs' s4 ⟨I6,k',sh',sg',np',hD',gD',r'⟩
theorem zjA {elt tg1 i1:Expr} {ifs1:List Expr} {gens:List Comprehension} {scope:Scope} {pos:Pos} {j:Nat} {W:Value->(Shared->Prop)->Shared->Prop} {f:M (List D)} {s:D->DEnv->Option DEnv} {t:M Bool} {rd:RdB} (hx:Y.xe=nox) (hc:Y.calm=true)
  (hn:gens[j+1]?=some ⟨tg1,i1,ifs1,0⟩) (rule:∀ it1,zdi Y.prog Y.w Y.A tg1 ifs1 Y.env it1 (.compLoop (.ListComp elt gens scope pos) (j+1) it1 (.ref D') Y.env) (W it1))
  (hi:∀ B1 G1,PI Y tg1 i1 (iD Y.K B1 G1 f)) (hg:∀ B1 G1,PG Y tg1 (tG Y.K B1 G1 s)) (ht:∀ B1 G1,PIfs Y ifs1 (tBo Y.K B1 G1 t)) (hb:∀ it1,zjy Y D' (W it1) rd) :
  zjy Y D' (fun Q s=>wpAny (model Y.prog Y.w) Y.A (eval i1 Y.env) (fun x s₄=>wpAny (model Y.prog Y.w) Y.A (pyIter x) (fun it1 s₅=>codeAny (model Y.prog Y.w) Y.A (.compStart (.ListComp elt gens scope pos) (j+1) it1 (.ref D') Y.env)
   (fun r s₆=>match r with | .ok _=>Q s₆ | .error _=>False) s₅) nox s₄) nox s) (rN f s t rd):=by
 intro pins sh σ B1 G1 H G ρ ρ' vs es es' Q I k hD gD r z fin
 unfold rN at z
 cases zf:f ρ with
 | bad=>rw [zf] at z;cases z
 | ok ds ρ3 =>
 rw [zf] at z
 have h:=hi B1 G1 pins sh σ H (fun J1 H8=>∃ G8,EOk Y.K B1 G1 G8 H8 σ ρ3/\zd2 Y.K J1 ds G8) I ⟨G,ρ,k,by rw [zf];exact fun J1 G8 H8 k8 _ q=>⟨G8,k8,q⟩⟩
 rw [hx] at h
 refine thn h fun xv s8 h8=>thn h8 fun itv s9 h9=>?_
 obtain ⟨it1,fp1,tn1,J1,H9,rfl,I9,T1,st9,f9,G9,k9,its9⟩:=h9
 have loop:codeAny (model Y.prog Y.w) Y.A (.compLoop (.ListComp elt gens scope pos) (j+1) (.ref it1) (.ref D') Y.env) (fun r s₆=>match r with | .ok _=>Q s₆ | .error _=>False) s9 :=
  zhI hx hc (rule (.ref it1)) hg ht (hb _) I9 T1 st9 f9 k9.rebase its9 (k9.bh _ _ hD) (k9.np _ (.l _) hD gD) (r.mono k9.g0) z fun σ' H' G' vs' s' L =>
   fin σ' H' G' vs' s' ⟨L.inv,L.eok,fun a o z q=>L.hh a o z (k9.bh a o q),k9.g0.trans L.gg,fun a o z q w=>L.np a o z (k9.bh a _ q) (k9.np a o q w),L.hd,L.gd,L.rp⟩
 exact zf3 hn loop (T1.self Y.A 0 _ _ _ st9 loop)
end
def zlo (Y:Cx) (e:Expr) (j:Nat) (tg:Expr) (ifs:List Expr) (rd:RdB):Prop :=
 ∀ (D':Addr) (it:Value),∃ W,zdi Y.prog Y.w Y.A tg ifs Y.env it (.compLoop e j it (.ref D') Y.env) W/\zjy Y D' W rd
section
variable {Y:Cx} {elt tg i:Expr} {ifs:List Expr} {gens:List Comprehension} {scope:Scope} {pos:Pos} {j:Nat}
theorem zaY {g:M D} (hx:Y.xe=nox) (hg:gens[j]?=some ⟨tg,i,ifs,0⟩) (hn:gens[j+1]?=none) (he:∀ B1 G1,PE Y elt (tD Y.K B1 G1 g)):zlo Y (.ListComp elt gens scope pos) j tg ifs (rL g) :=
 fun _ _=>⟨_,zju hg hn,zjz hx he⟩
theorem zep {tg1 i1:Expr} {ifs1:List Expr} {f:M (List D)} {s:D->DEnv->Option DEnv} {t:M Bool} {rd:RdB} (hx:Y.xe=nox) (hc:Y.calm=true) (hg:gens[j]?=some ⟨tg,i,ifs,0⟩) (hn:gens[j+1]?=some ⟨tg1,i1,ifs1,0⟩) (hs:∀ x,foldedSetIterable i1 Y.env x=pure x)
  (hi:∀ B1 G1,PI Y tg1 i1 (iD Y.K B1 G1 f)) (hgt:∀ B1 G1,PG Y tg1 (tG Y.K B1 G1 s)) (ht:∀ B1 G1,PIfs Y ifs1 (tBo Y.K B1 G1 t)) (hb:zlo Y (.ListComp elt gens scope pos) (j+1) tg1 ifs1 rd):zlo Y (.ListComp elt gens scope pos) j tg ifs (rN f s t rd) :=
 fun D' _=>⟨_,zjv hg hn hs,zjA hx hc hn (fun it1=>(Classical.choose_spec (hb D' it1)).1) hi hgt ht (fun it1=>(Classical.choose_spec (hb D' it1)).2)⟩
end
def envB (l:Bool) (ρ : DEnv):DEnv:=match l with | true=>zc6 ρ | false=>zaL ρ
theorem zpH {K:PySem.W.Frag} {B G0 G1 H2:Hp} {σ : St} {ρ1:DEnv} {D:Addr} (l:Bool) (k1:EOk K B G0 G1 H2 σ ρ1) (hfr:H2 D=none) (n:Nat) :
  ∃ Gb,EOk K (upd H2 D (.lst [])) Gb Gb (upd H2 D (.lst [])) (σ ++ List.replicate n none) (envB l ρ1 ++ List.replicate n none)/\Same G1 Gb/\Gb D=none /\
   ∀ (G' H':Hp) vs es,(l=true->es.all flat=true)->Same Gb G'->Same H2 H'->Same G' H'->(∀ a (u:MO),H2 a=some u.ho->Gb a=none->G' a=none)->G' D=none->Reps K G' vs es->∃ Gf,Ext G1 H2 Gf H'/\Gf D=none/\Reps K Gf vs es:=by
 have gD:G1 D=none:=k1.gh.free hfr
 cases l with
 | false=>exact ⟨G1,(k1.beside gD).more n,.refl _,gD,fun G' H' vs es _ g h gh np d r=>⟨G',⟨h,g,gh,np⟩,d,r⟩⟩
 | true=>exact ⟨H2,k1.lend hfr n,k1.gh,hfr,fun G' H' vs es fl _ h _ _ _ r=>⟨G1,⟨h,.refl _,k1.gh.trans h,fun _ _ _ n=>n⟩,gD,r.flat (fl rfl)⟩⟩
def dCG (l:Bool) (f:M (List D)) (k:Nat) (s:D->DEnv->Option DEnv) (t:M Bool) (rd:RdB):M (List D):=fun ρ=>match f ρ with
 | .bad=>.bad
 | .ok ds ρ1=>match cT s t rd ds (envB l ρ1 ++ List.replicate k none) [] with
  | none=>.bad
  | some (es,_)=>if l=true->es.all flat=true then .ok es ρ1 else .bad
theorem zjB {l:Bool} {f:M (List D)} {k:Nat} {s:D->DEnv->Option DEnv} {t:M Bool} {rd:RdB} {ρ ρ':DEnv} {es:List D} (h:dCG l f k s t rd ρ = .ok es ρ'):∃ ds ρF,f ρ = .ok ds ρ'/\cT s t rd ds (envB l ρ' ++ List.replicate k none) []=some (es,ρF)/\(l=true->es.all flat=true):=by
 unfold dCG at h
 cases zf:f ρ with
 | bad=>rw [zf] at h;cases h
 | ok ds ρ1 =>
 rw [zf] at h
 dsimp only at h
 cases zl:cT s t rd ds (envB l ρ1 ++ List.replicate k none) [] with
 | none=>rw [zl] at h;cases h
 | some pr =>
 obtain ⟨esF,ρF⟩:=pr
 rw [zl] at h
 dsimp only at h
 split at h
 ·rename_i hf
  cases h
  exact ⟨ds,ρF,rfl,zl,hf⟩
 ·cases h
section
variable {X:Cx} {B G0:Hp} {KX:XW}
def PBlk (X:Cx) (N2:List Str) (scope:Scope) (e tg:Expr) (ifs:List Expr) (s:D->DEnv->Option DEnv) (t:M Bool) (rd:RdB):Prop :=
 ∀ (cl:List (Str × Addr)) (C:Addr) (s₀ : Shared) (H₀ : Hp) (ex:List Addr),(∀ B' G',PG (X.blk N2 scope cl C s₀ H₀ ex) tg (tG X.K B' G' s))/\(∀ B' G',PIfs (X.blk N2 scope cl C s₀ H₀ ex) ifs (tBo X.K B' G' t))/\zlo (X.blk N2 scope cl C s₀ H₀ ex) e 0 tg ifs rd
structure zjC (SC scope:Scope) (N1 N2:List Str) (k:Nat):Prop where
 b:zdh scope.names N1 N2 k=true
 kind:scope.kind=.function
 cell:∀ y ∈ scope.names,y.2 ≠ .cell
 names:∀ y ∈ scope.names,y.2=.local->scope.names.lookup y.1=some .local
 free:∀ y ∈ scope.names,y.2=.free->SC.names.lookup y.1=some .cell ∨ SC.names.lookup y.1=some .free
theorem zhJ {l:Bool} {tg elt iter:Expr} {ifs:List Expr} {gs:List Comprehension} {scope:Scope} {pos pos':Pos} {N2:List Str} {k:Nat} {f:M (List D)} {s:D->DEnv->Option DEnv} {t:M Bool} {rd:RdB} {use:Option (Value->Sem Unit)} {Qc:Value->Shared->Prop} (hc:X.calm=true)
  (hi:PI X tg iter (iD X.K B G0 f)) (hblk:PBlk X N2 scope (.ListComp elt (⟨tg,iter,ifs,0⟩ :: gs) scope pos) tg ifs s t rd) (hb:zjC X.env.scope scope X.N N2 k) (hs:∀ x,foldedSetIterable iter X.env x=pure x)
  {pins:List (Addr × Obj)} {s0:Shared} {σ : St} {G H:Hp} {ρ ρ1 ρF:DEnv} {ds esF:List D} (I:Inv X pins σ H s0) (k0:EOk X.K B G0 G H σ ρ) (zf:f ρ = .ok ds ρ1) (zl:cT s t rd ds (envB l ρ1 ++ List.replicate k none) []=some (esF,ρF)) (hfl:l=true->esF.all flat=true)
  (hfin:∀ (C D:Addr) (vs:List V) (G' H':Hp) (s4:Shared) (m:Str->Option Value),Inv X pins σ H' s4->s4.heap.Ns C m->H' C=none->C ≠ X.env.locals->X.s₀.heap.objs.size<=C->(∀ x c,X.env.cells.lookup x=some c->c ≠ C)->(∀ p ∈ X.pn ++ pins,p.1 ≠ C) ->
   EOk X.K B G0 G' H' σ ρ1->Same G G'->NewL X.K B G' H' σ ρ1 D vs esF->compPost (model X.prog X.w) X.A X.xe use Qc (.ref D) C (.ok .next) s4) :
  wpAny (model X.prog X.w) X.A (comprehension (.ListComp elt (⟨tg,iter,ifs,0⟩ :: gs) scope pos) scope X.env pos' (newList []) false (eval iter X.env) use) Qc X.xe s0:=by
 obtain ⟨cl,hcl,cl1,cl2⟩:=zin (scope:=scope) (env:=X.env) fun y hy hf=>I.ok.has y.1 (hb.free y hy hf)
 refine wpAny_comprehension_free (use:=use) rfl hs hcl hb.kind hb.names (thn (hi pins s0 σ H (fun J H1=>∃ G1,EOk X.K B G0 G1 H1 σ ρ1/\Same G G1/\zd2 X.K J ds G1) I ⟨G,ρ,k0,by rw [zf];exact fun J G1 H1 k1 s1 it=>⟨G1,k1,s1,it⟩⟩) fun v s1 h1=>thn h1 fun itv s2 h2=>?_)
 obtain ⟨it,fp,tn,J,H2,rfl,I2,T,st2,f2,G1,k1,sg1,its⟩:=h2
 refine wpAny_newObj_type (wpAny_newFunctionEnv hb.cell (by intro y hy;simp at hy) (fun h₁ hns₁ hsb₁=>?_) hb.kind)
 dsimp only at hns₁ hsb₁ ⊢
 have hfr:H2 s2.heap.objs.size=none:=I2.hok.fresh (Nat.le_refl _)
 have I3:Inv X pins σ (upd H2 s2.heap.objs.size (.lst [])) { s2 with heap:=s2.heap.push { cls:=.type "list", dict:=none,data:=.seq ([]:List Value).toArray } } :=
  I2.laid (t':=s2.toks) (fun b u e=>Heap.get?_push_of_some _ e) (Nat.le_refl _) ⟨Nat.zero_le _,[],0,.nil,Heap.get?_push_size _ rfl⟩
 generalize hP:s2.heap.push { cls:=.type "list", dict:=none,data:=.seq ([]:List Value).toArray }=P at I3 hns₁ hsb₁ ⊢
 have old:∀ b o,s2.heap.get? b=some o->P.get? b=some o:=fun b o e=>hP ▸ Heap.get?_push_of_some _ e
 have kept:∀ b o,P.get? b=some o->h₁.get? b=some o:=fun b o e=>hsb₁.extBut b o (Nat.ne_of_lt (Heap.lt_size e)) (Heap.get?_push_of_some _ e)
 have fpo:∀ b ∈ fp,∃ o,s2.heap.get? b=some o:=fun b hb=>let ⟨o,e,_⟩:=T.obj _ _ st2 b hb;⟨o,e⟩
 have fpD:∀ b ∈ fp,b ≠ s2.heap.objs.size:=fun b hb=>let ⟨o,e⟩:=fpo b hb;Nat.ne_of_lt (Heap.lt_size e)
 have f3:∀ b ∈ fp,FpOk X pins (upd H2 s2.heap.objs.size (.lst [])) b:=fun b hb=>⟨by rw [zaJ (fpD b hb)];exact (f2 b hb).1,(f2 b hb).2⟩
 have I4:=I3.enter (scope:=scope) (cl:=cl) (N2:=N2) (k:=k) (fp:=fp) (t':=s2.toks+([]:List (Str × Value)).length) hb.b hb.kind hb.cell hb.free cl1 cl2 hns₁ kept f3 (fun b hb=>let ⟨o,e⟩:=fpo b hb;⟨o,old b o e⟩)
 dsimp only at I4
 obtain ⟨Gb,kb,sgb,gbD,ex⟩:=zpH l k1 hfr k
 have sH:Same H2 (upd H2 s2.heap.objs.size (.lst [])):=zaO hfr
 have hD3:upd H2 s2.heap.objs.size (.lst []) s2.heap.objs.size=some (.lst []):=zaD
 generalize upd H2 s2.heap.objs.size (.lst [])=H3 at I3 I4 f3 kb sH hD3
 generalize s2.heap.objs.size=D at *
 have tn0:tn 0 h₁:=T.keep 0 _ _ st2 fun b hb o e=>kept b o (old b o e)
 have stat:∀ b ∈ fp,FpOk (X.blk N2 scope cl P.objs.size { s2 with heap:=P } H3 fp) pins H3 b:=fun b hb=>by
  obtain ⟨z0,z1,z2,z3,z4,z5⟩:=f3 b hb
  obtain ⟨o,e⟩:=fpo b hb
  refine ⟨z0,Nat.ne_of_lt (Heap.lt_size (old b o e)),fun z=>?_,.inl hb,fun x c q=>z4 x c (cl1 x c q),z5⟩
  rcases List.mem_cons.mp (I3.stkSub b z) with q | q
  ·exact z1 q
  ·exact z2 q
 have neD:∀ a o,H2 a=some o->a ≠ D:=fun a o q z=>by subst z;rw [hfr] at q;cases q
 obtain ⟨hg,ht,hcl'⟩:=hblk cl P.objs.size { s2 with heap:=P } H3 fp
 obtain ⟨W,rule,body⟩:=hcl' D (.ref it)
 have loop:=zhI (Y:=X.blk N2 scope cl P.objs.size { s2 with heap:=P } H3 fp) (D':=D) (R:=compPost (model X.prog X.w) X.A X.xe use Qc (.ref D) P.objs.size) rfl hc rule hg ht body I4 T tn0 stat kb
  ⟨fun i G H s1 s2 hi=>its.go i G H (sgb.trans s1) s2 hi,fun i G H s1 s2 hi=>its.stop i G H (sgb.trans s1) s2 hi,fun i G H x H' d s1 s2 e y=>its.yld i G H x H' d (sgb.trans s1) s2 e y⟩ hD3 gbD .nil zl fun σ' H' G' vs' s4 L=>by
   obtain ⟨m,hm,_⟩:=id L.inv.loc
   have I7:Inv X pins σ H' s4:=I3.call' (ch:=fp) L.inv.os L.inv.base L.inv.hok L.inv.bare fun b hb=>⟨(f3 b hb).2.2.2.1,(f3 b hb).2.1,(f3 b hb).2.2.2.2.1,(f3 b hb).2.2.2.2.2⟩
   obtain ⟨Gf,eF,dF,rF⟩:=ex G' H' vs' esF hfl L.gg (fun a o q=>L.hh a o (neD a o q) (sH a o q)) L.eok.gh (fun a o q z=>L.np a o (neD a _ q) (sH a _ q) z) L.gd L.rp
   refine hfin P.objs.size D vs' Gf H' s4 m I7 hm L.inv.free (Nat.ne_of_gt I3.lt) I3.sz (fun x c e z=>by obtain ⟨_,q⟩:=I3.cell x c e;exact absurd q.lt (by rw [z];exact Nat.lt_irrefl _)) (fun p hp z=>by have:=Heap.lt_size (I3.pin p hp).1;exact absurd this (by rw [z];exact Nat.lt_irrefl _))
    (k1.ext eF) (sg1.trans eF.g) ⟨k1.bh.free hfr,dF,L.hd,rF,fun j es' q z=>?_⟩
   obtain ⟨a',ws,h1',h2',h3',h4',h5'⟩:=k1.own j es' q
   rw [z] at h1'
   cases h1'
   rw [hfr] at h4';cases h4'
 exact codeAny_compStart_list loop (T.self X.A 0 _ _ _ tn0 loop)
theorem zpI {l:Bool} {tg elt iter:Expr} {ifs:List Expr} {gs:List Comprehension} {scope:Scope} {pos:Pos} {N2:List Str} {k:Nat} {f:M (List D)} {s:D->DEnv->Option DEnv} {t:M Bool} {rd:RdB} (hc:X.calm=true)
  (hi:PI X tg iter (iD X.K B G0 f)) (hblk:PBlk X N2 scope (.ListComp elt (⟨tg,iter,ifs,0⟩ :: gs) scope pos) tg ifs s t rd) (hb:zjC X.env.scope scope X.N N2 k) (hs:∀ x,foldedSetIterable iter X.env x=pure x:=by intro _;rfl) :
  PE X (.ListComp elt (⟨tg,iter,ifs,0⟩ :: gs) scope pos) (tL X.K B G0 (dCG l f k s t rd)):=by
 intro pins s0 σ H Q I ⟨G,ρ,k0,a⟩
 cases z:dCG l f k s t rd ρ with
 | bad=>rw [z] at a;exact a.elim
 | ok es ρ1 =>
 rw [z] at a
 obtain ⟨ds,ρF,zf,zl,hfl⟩:=zjB z
 rw [eval_ListComp]
 refine zhJ hc hi hblk hb hs I k0 zf zl hfl fun C D vs G' H' s4 m I7 hm hC hL hz hcl hp k' s' n=>?_
 exact ⟨m,hm,fun h' sb=>⟨.ref D,H',I7.turned (t':=s4.toks) (it:=C) (fun b o hb e=>(sb.2 b hb).trans e) hC hL (.inr hz) hcl hp,rfl,a D vs G' H' k' s' n⟩⟩
theorem sD_g {l:Bool} {y:Str} {j:Nat} {py:Pos} {spos:Pos} {tg elt iter:Expr} {ifs:List Expr} {gs:List Comprehension} {scope:Scope} {pos:Pos} {N2:List Str} {k:Nat} {f:M (List D)} {s:D->DEnv->Option DEnv} {t:M Bool} {rd:RdB} (hN:X.N.Nodup) (hj:X.N[j]?=some y) (hy:X.env.scope.names.lookup y=some .local) (hc:X.calm=true)
  (hi:PI X tg iter (iD X.K B G0 f)) (hblk:PBlk X N2 scope (.ListComp elt (⟨tg,iter,ifs,0⟩ :: gs) scope pos) tg ifs s t rd) (hb:zjC X.env.scope scope X.N N2 k) (hs:∀ x,foldedSetIterable iter X.env x=pure x:=by intro _;rfl)
  (hsw:swapsWith (.ListComp elt (⟨tg,iter,ifs,0⟩ :: gs) scope pos) (some (.Name y py)) spos.line X.env=pure true:=by rfl) :
  PS X (.Assign [.Name y py] (.ListComp elt (⟨tg,iter,ifs,0⟩ :: gs) scope pos) spos) (tS X.K B G0 KX (zb4 j (dCG l f k s t rd))):=by
 intro pins s0 σ H Dn I ⟨G,ρ,k0,a⟩
 unfold zb4 sB at a
 cases z:dCG l f k s t rd ρ with
 | bad=>rw [z] at a;exact a.elim
 | ok es ρ1 =>
 rw [z] at a
 dsimp only at a
 by_cases hl:j < ρ1.length
 ·rw [if_pos hl] at a
  obtain ⟨ds,ρF,zf,zl,hfl⟩:=zjB z
  rw [exec_Assign_Name_used _ _ _ _ hsw]
  refine wpAny_bind (wpAny_standAt (wpAny_bind ?_))
  show wpAny _ X.A (do let _ ← comprehension (.ListComp elt (⟨tg,iter,ifs,0⟩ :: gs) scope pos) scope X.env _ (newList []) false (eval iter X.env) (some (assign (.Name y py) X.env))) _ _ s0
  refine wpAny_bind (wpAny_mono (zhJ (use:=some (assign (.Name y py) X.env)) (Qc:=fun _ s'=>SP X pins Dn .next s') hc hi hblk hb hs I k0 zf zl hfl fun C D vs G' H' s4 m I7 hm hC hL hz hcl hp k' s' n=>?_) (fun _ s' hq=>wpAny_pure (wpAny_pure hq)) fun _ _ e=>e)
  show wpAny _ X.A (assign (.Name y py) X.env (.ref D)) _ _ s4
  refine wpAny_assign_Name (zfN I7 hN hj (.inl hy) (v:=.ref D) rfl (fun s5 I8 ⟨ad,sb,hx⟩=>?_) (.inr hy))
  have hCa:C ≠ ad:=by
   rcases hx with e | e
   ·rw [e];exact hL
   ·exact Ne.symm (hcl y ad e)
  refine ⟨m,hm.sameBut sb hCa,fun h' sb'=>⟨_,H',I8.turned (t':=s5.toks) (it:=C) (fun b o hb e=>(sb'.2 b hb).trans e) hC hL (.inr hz) hcl hp,?_⟩⟩
  exact a _ G' H' (k'.setOwn n hl) s'
 ·rw [if_neg hl] at a;exact a.elim
theorem zpJ {K:PySem.W.Frag} {f f':M (List D)} (h:∀ ρ es ρ',f ρ = .ok es ρ'->f' ρ = .ok es ρ') {σ : St} {H:Hp} {Q:VK} (q:tL K B G0 f σ H Q):tL K B G0 f' σ H Q:=by
 obtain ⟨G,ρ,k,a⟩:=q
 refine ⟨G,ρ,k,?_⟩
 cases z:f ρ with
 | bad=>rw [z] at a;exact a.elim
 | ok es ρ'=>rw [z] at a;rw [h ρ es ρ' z];exact a
theorem zou {K:PySem.W.Frag} {f f':M (List D)} {j:Nat} (h:∀ ρ es ρ',f ρ = .ok es ρ'->f' ρ = .ok es ρ') {Dn:_} {σ : St} {H:Hp} (q:tS K B G0 KX (zb4 j f) Dn σ H):tS K B G0 KX (zb4 j f') Dn σ H:=by
 obtain ⟨G,ρ,k,a⟩:=q
 refine ⟨G,ρ,k,?_⟩
 unfold zb4 sB at a ⊢
 cases z:f ρ with
 | bad=>rw [z] at a;exact a.elim
 | ok es ρ'=>rw [z] at a;rw [h ρ es ρ' z];exact a
end
theorem zd7 {s:D->DEnv->Option DEnv} {t:M Bool} {g:M D}:∀ {ds:List D} {ρ : DEnv} {es esF:List D},zbw s t g ds ρ es=some esF->∃ ρF,cT s t (rL g) ds ρ es=some (esF,ρF)
 | [],ρ,es,esF,h=>by rw [zbw] at h;cases h;exact ⟨ρ,rfl⟩
 | d :: r,ρ,es,esF,h=>by
  rw [zbw] at h
  rw [cT]
  cases zs:s d ρ with
  | none=>rw [zs] at h;cases h
  | some ρ1 =>
  rw [zs] at h
  dsimp only at h ⊢
  cases zt:t ρ1 with
  | bad=>rw [zt] at h;cases h
  | ok b ρ2 =>
  rw [zt] at h
  dsimp only at h ⊢
  cases b with
  | false=>exact zd7 (ds:=r) h
  | true =>
   rw [if_pos rfl] at h ⊢
   unfold rL
   cases zg:g ρ2 with
   | bad=>rw [zg] at h;cases h
   | ok e ρ3 =>
   rw [zg] at h
   dsimp only at h ⊢
   split at h
   ·rename_i hl
    rw [if_pos hl]
    exact zd7 (ds:=r) h
   ·cases h
theorem zdj {s:D->DEnv->Option DEnv} {t:M Bool} {g:M D}:∀ {ds:List D} {ρ : DEnv} {es:List D},zb1 s t g ds ρ es=cT s t (rL g) ds ρ es
 | [],ρ,es=>rfl
 | d :: r,ρ,es=>by
  rw [zb1,cT]
  cases s d ρ with
  | none=>rfl
  | some ρ1 =>
  dsimp only
  cases t ρ1 with
  | bad=>rfl
  | ok b ρ2 =>
  dsimp only
  cases b with
  | false=>exact zdj (ds:=r)
  | true =>
   rw [if_pos rfl,if_pos rfl]
   unfold rL
   cases g ρ2 with
   | bad=>rfl
   | ok e ρ3 =>
   dsimp only
   split
   ·exact zdj (ds:=r)
   ·rfl
theorem zdk {s s1:D->DEnv->Option DEnv} {t t1:M Bool} {f:M (List D)} {Rd:List D->DEnv->List D->Option (List D × DEnv)} {rd:RdB} (hR:∀ ds ρ es,Rd ds ρ es=cT s1 t1 rd ds ρ es) :
  ∀ {ds:List D} {ρ : DEnv} {es:List D},zcj s t f Rd ds ρ es=cT s t (rN f s1 t1 rd) ds ρ es
 | [],ρ,es=>rfl
 | d :: r,ρ,es=>by
  rw [zcj,cT]
  cases s d ρ with
  | none=>rfl
  | some ρ1 =>
  dsimp only
  cases t ρ1 with
  | bad=>rfl
  | ok b ρ2 =>
  dsimp only
  cases b with
  | false=>exact zdk hR (ds:=r)
  | true =>
   rw [if_pos rfl,if_pos rfl]
   unfold rN
   cases f ρ2 with
   | bad=>rfl
   | ok ds ρ3 =>
   dsimp only
   rw [hR]
   cases cT s1 t1 rd ds (zaL ρ3) es with
   | none=>rfl
   | some pr=>exact zdk hR (ds:=r)
theorem zeq {s s1:D->DEnv->Option DEnv} {t t1:M Bool} {f:M (List D)} {g:M D}:∀ {ds:List D} {ρ : DEnv} {es esF:List D},zcQ s t f s1 t1 g ds ρ es=some esF->∃ ρF,cT s t (rN f s1 t1 (rL g)) ds ρ es=some (esF,ρF)
 | [],ρ,es,esF,h=>by rw [zcQ] at h;cases h;exact ⟨ρ,rfl⟩
 | d :: r,ρ,es,esF,h=>by
  rw [zcQ] at h
  rw [cT]
  cases zs:s d ρ with
  | none=>rw [zs] at h;cases h
  | some ρ1 =>
  rw [zs] at h
  dsimp only at h ⊢
  cases zt:t ρ1 with
  | bad=>rw [zt] at h;cases h
  | ok b ρ2 =>
  rw [zt] at h
  dsimp only at h ⊢
  cases b with
  | false=>exact zeq (ds:=r) h
  | true =>
   rw [if_pos rfl] at h ⊢
   unfold rN
   cases zg:f ρ2 with
   | bad=>rw [zg] at h;cases h
   | ok ds ρ3 =>
   rw [zg] at h
   dsimp only at h ⊢
   rw [← zdj]
   cases zl:zb1 s1 t1 g ds (zaL ρ3) es with
   | none=>rw [zl] at h;cases h
   | some pr=>rw [zl] at h;exact zeq (ds:=r) h
theorem zbf {f:M (List D)} {k:Nat} {s:D->DEnv->Option DEnv} {t:M Bool} {g:M D} (ρ : DEnv) (es:List D) (ρ':DEnv) (h:zcr f k s t g ρ = .ok es ρ'):dCG false f k s t (rL g) ρ = .ok es ρ':=by
 unfold zcr at h
 unfold dCG
 cases zf:f ρ with
 | bad=>rw [zf] at h;cases h
 | ok ds ρ1 =>
 rw [zf] at h
 dsimp only [envB] at h ⊢
 cases zl:zbw s t g ds (zaL ρ1 ++ List.replicate k none) [] with
 | none=>rw [zl] at h;cases h
 | some esF =>
 rw [zl] at h
 cases h
 obtain ⟨ρF,e⟩:=zd7 zl
 rw [e]
 exact if_pos fun z=>by cases z
theorem zjD {f:M (List D)} {k:Nat} {s:D->DEnv->Option DEnv} {t:M Bool} {g:M D} (ρ : DEnv) (es:List D) (ρ':DEnv) (h:zf5 f k s t g ρ = .ok es ρ'):dCG true f k s t (rL g) ρ = .ok es ρ':=by
 unfold zf5 at h
 unfold dCG
 cases zf:f ρ with
 | bad=>rw [zf] at h;cases h
 | ok ds ρ1 =>
 rw [zf] at h
 dsimp only [envB] at h ⊢
 cases zl:zbw s t g ds (zc6 ρ1 ++ List.replicate k none) [] with
 | none=>rw [zl] at h;cases h
 | some esF =>
 rw [zl] at h
 dsimp only at h
 split at h
 ·rename_i hf
  cases h
  obtain ⟨ρF,e⟩:=zd7 zl
  rw [e]
  exact if_pos fun _=>hf
 ·cases h
theorem zjE {f f1:M (List D)} {k:Nat} {s s1:D->DEnv->Option DEnv} {t t1:M Bool} {g:M D} (ρ : DEnv) (es:List D) (ρ':DEnv) (h:zf6 f k s t f1 s1 t1 g ρ = .ok es ρ'):dCG false f k s t (rN f1 s1 t1 (rL g)) ρ = .ok es ρ':=by
 unfold zf6 at h
 unfold dCG
 cases zf:f ρ with
 | bad=>rw [zf] at h;cases h
 | ok ds ρ1 =>
 rw [zf] at h
 dsimp only [envB] at h ⊢
 cases zl:zcQ s t f1 s1 t1 g ds (zaL ρ1 ++ List.replicate k none) [] with
 | none=>rw [zl] at h;cases h
 | some esF =>
 rw [zl] at h
 cases h
 obtain ⟨ρF,e⟩:=zeq zl
 rw [e]
 exact if_pos fun z=>by cases z
theorem zjF {f f1 f2:M (List D)} {k:Nat} {s s1 s2:D->DEnv->Option DEnv} {t t1 t2:M Bool} {g:M D} (ρ : DEnv) (es:List D) (ρ':DEnv) (h:zf7 f k s t f1 s1 t1 f2 s2 t2 g ρ = .ok es ρ'):dCG false f k s t (rN f1 s1 t1 (rN f2 s2 t2 (rL g))) ρ = .ok es ρ':=by
 unfold zf7 at h
 unfold dCG
 cases zf:f ρ with
 | bad=>rw [zf] at h;cases h
 | ok ds ρ1 =>
 rw [zf] at h
 dsimp only [envB,lead] at h ⊢
 rw [zdk fun _ _ _=>zdk fun _ _ _=>zdj] at h
 cases zl:cT s t (rN f1 s1 t1 (rN f2 s2 t2 (rL g))) ds (zaL ρ1 ++ List.replicate k none) [] with
 | none=>rw [zl] at h;cases h
 | some pr =>
 rw [zl] at h
 cases h
 exact if_pos fun z=>by cases z
def zf8 (q:Option NameKind->Bool) (SC scope:Scope) (N1 N2:List Str) (k:Nat):Bool :=
 zdh scope.names N1 N2 k && decide (scope.kind=.function) && scope.names.all fun y=>match y.2 with
  | .cell=>false
  | .local=>decide (scope.names.lookup y.1=some .local)
  | .free=>q (SC.names.lookup y.1)
  | _=>true
def zm9:Option NameKind->Bool
 | some .cell=>true | some .free=>true | _=>false
theorem zio {q:Option NameKind->Bool} {SC SC' scope:Scope} {N1 N2:List Str} {k:Nat} (h:zf8 q SC scope N1 N2 k=true) (f:∀ x,q (SC.names.lookup x)=true->SC'.names.lookup x=some .cell ∨ SC'.names.lookup x=some .free):zjC SC' scope N1 N2 k:=by
 unfold zf8 at h
 rw [Bool.and_eq_true,Bool.and_eq_true,List.all_eq_true] at h
 obtain ⟨⟨h1,h2⟩,h3⟩:=h
 refine ⟨h1,of_decide_eq_true h2,fun y hy e=>?_,fun y hy e=>?_,fun y hy e=>?_⟩
 ·have:=h3 y hy;rw [e] at this;cases this
 ·have:=h3 y hy;rw [e] at this;exact of_decide_eq_true this
 ·have:=h3 y hy;rw [e] at this;exact f _ this
theorem zjG {SC scope:Scope} {N1 N2:List Str} {k:Nat} (h:zf8 zm9 SC scope N1 N2 k=true):zjC SC scope N1 N2 k:=zio h fun x e=>by
 cases z:SC.names.lookup x with
 | none=>rw [z] at e;cases e
 | some y=>rw [z] at e;cases y <;> first | exact .inl rfl | exact .inr rfl | cases e
section
variable {X:Cx} {B G0:Hp} {KX:XW}
theorem zdl {l:Bool} {tg elt iter:Expr} {ifs:List Expr} {gs:List Comprehension} {scope:Scope} {pos:Pos} {f:M (List D)} {s:D->DEnv->Option DEnv} {t:M Bool} {rd:RdB} {F:M (List D)} (SC:Scope) (N1 N2:List Str) (k:Nat) (le:∀ ρ es ρ',F ρ = .ok es ρ'->dCG l f k s t rd ρ = .ok es ρ') (hc:X.calm=true)
  (hi:PI X tg iter (iD X.K B G0 f)) (hblk:PBlk X N2 scope (.ListComp elt (⟨tg,iter,ifs,0⟩ :: gs) scope pos) tg ifs s t rd) (h1:X.env.scope=SC) (h2:X.N=N1) (hb:zf8 zm9 SC scope N1 N2 k=true) (hs:∀ x,foldedSetIterable iter X.env x=pure x:=by intro _;rfl) :
  PE X (.ListComp elt (⟨tg,iter,ifs,0⟩ :: gs) scope pos) (tL X.K B G0 F) :=
 peof (zpI hc hi hblk (by rw [h1,h2];exact zjG hb) hs) fun _ _ _ q=>zpJ le q
theorem sD_1 {l:Bool} {y:Str} {j:Nat} {py:Pos} {spos:Pos} {tg elt iter:Expr} {ifs:List Expr} {gs:List Comprehension} {scope:Scope} {pos:Pos} {f:M (List D)} {s:D->DEnv->Option DEnv} {t:M Bool} {rd:RdB} {F:M (List D)} (SC:Scope) (N1 N2:List Str) (k:Nat) (le:∀ ρ es ρ',F ρ = .ok es ρ'->dCG l f k s t rd ρ = .ok es ρ') (hN:X.N.Nodup) (hj:X.N[j]?=some y) (hy:X.env.scope.names.lookup y=some .local) (hc:X.calm=true)
  (hi:PI X tg iter (iD X.K B G0 f)) (hblk:PBlk X N2 scope (.ListComp elt (⟨tg,iter,ifs,0⟩ :: gs) scope pos) tg ifs s t rd) (h1:X.env.scope=SC) (h2:X.N=N1) (hb:zf8 zm9 SC scope N1 N2 k=true) (hs:∀ x,foldedSetIterable iter X.env x=pure x:=by intro _;rfl)
  (hsw:swapsWith (.ListComp elt (⟨tg,iter,ifs,0⟩ :: gs) scope pos) (some (.Name y py)) spos.line X.env=pure true:=by rfl) :
  PS X (.Assign [.Name y py] (.ListComp elt (⟨tg,iter,ifs,0⟩ :: gs) scope pos) spos) (tS X.K B G0 KX (zb4 j F)) :=
 psof (sD_g hN hj hy hc hi hblk (by rw [h1,h2];exact zjG hb) hs hsw) fun _ _ _ q=>zou le q
end
theorem zlp {f:M (List D)} {k:Nat} {s s1' s2':D->DEnv->Option DEnv} {t t1' t2':M Bool} {f1 f2:M (List D)} {g:M D} {ρ ρ1 ρ2:DEnv} {ds es:List D} (h1:f ρ = .ok ds ρ1) (h2:zcj s t f1 (zcj s1' t1' f2 (zb1 s2' t2' g)) ds (zaL ρ1 ++ List.replicate k none) []=some (es,ρ2)) :
  zf7 f k s t f1 s1' t1' f2 s2' t2' g ρ = .ok es ρ1:=by
 unfold zf7;rw [h1];dsimp only [lead];rw [h2];rfl
section
variable {X:Cx} {B G0:Hp} {e a b c tg:Expr} {pos:Pos} {es rest:List Expr}
theorem EOk.given {K:PySem.W.Frag} {G H:Hp} {σ : St} {ρ : DEnv} {a:Addr} {vs:List V} {ds:List D} (k:EOk K B G0 G H σ ρ) (n:NewL K B G H σ ρ a vs ds):EOk K B G0 (upd G a (.lst vs)) H σ ρ where
 bh:=k.bh
 gh:=fun b u q=>by
  by_cases z:b=a
  ·subst z;rw [zaD] at q;cases q;exact n.h
  ·rw [zaJ z] at q;exact k.gh b u q
 g0:=k.g0.trans (zaO n.g)
 np:=fun b o q z=>by
  have zb:b ≠ a:=fun z=>by subst z;rw [n.b] at q;cases q
  rw [zaJ zb];exact k.np b o q z
 len:=k.len
 pub:=fun i d q=>let ⟨v,h1,h2⟩:=k.pub i d q;⟨v,h1,h2.mono (zaO n.g)⟩
 own:=fun i ds q=>by
  obtain ⟨b,ws,h1,h2,h3,h4,h5⟩:=k.own i ds q
  have zb:b ≠ a:=fun z=>by subst z;exact n.f i ds q h1
  exact ⟨b,ws,h1,h2,by rw [zaJ zb];exact h3,h4,h5.mono (zaO n.g)⟩
 sep:=k.sep
theorem zbL {f:M (List D)} (h:PE X e (tL X.K B G0 f)):PE X e (tD X.K B G0 (mMap PyData.list f)) :=
 peof h fun σ H Q ⟨G,ρ,k,a⟩=>by
  refine ⟨G,ρ,k,?_⟩
  unfold mMap zav at a
  cases z:f ρ with
  | bad=>rw [z] at a;exact a.elim
  | ok ds ρ1 =>
   rw [z] at a
   intro ad vs G' H' k' s' n
   exact a (.ref ad) _ H' (k'.given n) (s'.trans (zaO n.g)) (.lst (SqL.of zaD) (n.r.mono (zaO n.g)))
theorem zlq (hc:X.calm=true):zcJ X (.builtin "all") (fun xs H Q=>∃ l,∃ bs:List Bool,xs=[.ref l]/\SqL X.K H l (bs.map V.bl)/\Q (.bl (bs.all id)) H):=by
 intro pins s σ H xs us Q I rx h
 obtain ⟨l,bs,rfl,hq,q⟩:=h
 obtain ⟨u,rfl,ru⟩:=rx.one
 cases ru
 obtain ⟨its,rv,p,hz⟩:=I.list hq
 have hl:=p.isList
 have hlt:l < s.heap.objs.size:=by obtain ⟨_,e,_⟩:=id hl;exact Heap.lt_size e
 have key:∀ (i:Nat) v,its.toArray[i]?=some v->∃ t,bs[i]?=some t/\v=.bool t:=fun i v e=>by
  have e:its[i]?=some v:=by simpa using e
  have hi:i < bs.length:=by
   have:=(List.getElem?_eq_some_iff.mp e).1
   have h2:=rv.length
   rw [List.length_map] at h2
   omega
  obtain ⟨u,e2,r2⟩:=rv.get (i:=i) (x:=.bl bs[i]) (by rw [List.getElem?_map,List.getElem?_eq_getElem hi];rfl)
  rw [e] at e2
  cases e2
  exact ⟨bs[i],List.getElem?_eq_getElem hi,r2⟩
 refine call_all_walk (wpAny_pyIter_list hl ?_)
 refine ⟨s.heap.objs.size,[s.heap.objs.size,l],[s.heap.objs.size],its.toArray.size,_,_,fun i=>(bs[i]?).getD true,rfl,Walks.list (A:=X.A.in1) (I.ok.hd hc) _ l (Nat.ne_of_lt hlt) its.toArray,
  ⟨⟨_,Heap.get?_push_size _ rfl,rfl,rfl⟩,hl.push _⟩,fun i v s' Q' E' hP hQ=>?_,fun h' tk hk=>?_⟩
 ·obtain ⟨b,e,rfl⟩:=key i v hP
  simp only [e,Option.getD_some] at hQ
  exact wpAny_truthy_bool hQ
 ·have hn:its.toArray.size=bs.length:=by have:=rv.length;rw [List.length_map] at this;simp;omega
  have e:((List.range its.toArray.size).all fun i=>(bs[i]?).getD true)=bs.all id:=by
   rw [hn,Bool.eq_iff_iff,List.all_eq_true,List.all_eq_true]
   constructor
   ·intro h b hb
    obtain ⟨i,hi,e⟩:=List.getElem_of_mem hb
    have:=h i (List.mem_range.mpr hi)
    simp only [List.getElem?_eq_getElem hi,Option.getD_some,e] at this
    exact this
   ·intro h i hi
    have hi':=List.mem_range.mp hi
    simp only [List.getElem?_eq_getElem hi',Option.getD_some]
    exact h _ (List.getElem_mem hi')
  rw [e]
  exact ⟨.bl (bs.all id),H,I.kept (t':=tk) fun b x e=>hk b x (fun hm=>by rw [List.mem_singleton.mp hm] at e;exact Nat.lt_irrefl _ (Heap.lt_size e)) (Heap.get?_push_of_some _ e),rfl,q⟩
def zcR:List D->Option (List Bool)
 | []=>some []
 | .bool b :: r=>(zcR r).map (b :: ·)
 | _=>none
theorem zdS {K:PySem.W.Frag} {G:Hp}:∀ {vs:List V} {ds:List D} {bs:List Bool},Reps K G vs ds->zcR ds=some bs->vs=bs.map V.bl
 | _,_,bs,.nil,e=>by cases e;rfl
 | _,_,bs,.cons (d:=d) r t,e=>by
  cases d with
  | bool b =>
   unfold zcR at e
   cases z:zcR _ with
   | none=>rw [z] at e;cases e
   | some cs =>
    rw [z] at e
    cases e
    rw [r.bl_inv,zdS t z];rfl
  | _=>cases e
def oAll:List D->Option D
 | [.list ds]=>(zcR ds).map fun bs=>.bool (bs.all id)
 | _=>none
theorem zgW (hc:X.calm=true):zc5 X (.builtin "all") oAll:=by
 refine ⟨_,zlq hc,fun vs G H ds d Q s r e k=>?_⟩
 unfold oAll at e
 split at e
 ·rename_i ds
  cases z:zcR ds with
  | none=>rw [z] at e;cases e
  | some bs =>
   rw [z] at e
   cases e
   obtain ⟨v,rfl,q⟩:=r.one_inv
   obtain ⟨l,ws,rfl,h1,r1⟩:=q.lst_inv
   have hw:=zdS r1 z
   subst hw
   exact ⟨l,bs,rfl,s.seq h1,k _ G H (.refl s) (.bl _)⟩
 ·cases e
def Its (x:Str):It:=⟨fun i _=>i < x.cps.size,fun i H v H'=>H'=H/\∃ c,x.cps[i]?=some c/\v=.str ⟨#[c]⟩,fun i _=>x.cps.size<=i⟩
theorem zlr {P:Program} {w:World} {K:PySem.W.Frag} {tg:Expr} (x:Str) (t:Tok) (it:Addr):Turn P w K tg (Its x) [it] it (fun i h=>h.IsStrIter it (strIterType x) x t i) where
 mem:=by simp
 obj:=fun i h st b hb=>by
  have e:b=it:=by simpa using hb
  subst e
  obtain ⟨o,e,c,d⟩:=st
  exact ⟨o,e,fun v z=>by rw [d] at z;cases z⟩
 keep:=fun i h h' st k=>by
  obtain ⟨o,e,c,d⟩:=st
  exact ⟨o,k it (by simp) o e,c,d⟩
 item:=by
  intro X hP hw hK hc i pins s σ H E I hf st hg
  subst hP hw hK
  obtain ⟨f0,f1,f2,f3,f4,f5⟩:=hf it (by simp)
  have hx:x.cps[i]?=some x.cps[i]:=Array.getElem?_eq_getElem hg
  have fin:∀ h' tk (T:String),strIterType x=T->h'.IsStrIter it T x t (i+1)->Heap.SameBut it s.heap h'->["enumerate", "zip", "dict_itemiterator", "dict_reverseitemiterator", "odict_iterator", "itertools.zip_longest", "itertools.pairwise"].contains T=false ->
    ∃ u,some (Value.str ⟨#[x.cps[i]]⟩ s.toks)=some u/\wpAny (model X.prog X.w) X.A (letOwnedTupleGo tg (.ref it) u) (fun _ s2=>∃ v H',Inv X pins σ H' s2/\RelV v u/\(Its x).yld i H v H'/\s2.heap.IsStrIter it (strIterType x) x t (i+1)/\∀ b ∈ [it],H' b=none) E { s with heap:=h',toks:=tk }:=by
   intro h' tk T eT st' sb hn
   have I1:Inv X pins σ H { s with heap:=h',toks:=tk }:=I.turned (t':=tk) (fun b o hb e=>(sb.2 b hb).trans e) f0 f1 f3 f4 f5
   obtain ⟨o,e,c,d⟩:=id st'
   refine ⟨_,rfl,zi1 (s:={ s with heap:=h',toks:=tk }) e c d hn ⟨.str ⟨#[x.cps[i]]⟩,H,I1,⟨_,rfl⟩,⟨rfl,_,hx,rfl⟩,by rw [eT];exact st',fun b hb=>(hf b hb).1⟩⟩
  cases ha:x.cps.all (· < 128) with
  | true =>
   have eT:strIterType x = "str_ascii_iterator" := by simp [strIterType,ha]
   rw [eT] at st
   exact wpAny_pyNext_ascii_item st hx fun h' st' sb=>fin h' _ _ eT st' sb (by decide)
  | false =>
   have eT:strIterType x = "str_iterator" := by simp [strIterType,ha]
   rw [eT] at st
   exact wpAny_pyNext_wide_item st hx fun h' st' sb=>fin h' _ _ eT st' sb (by decide)
 done:=by
  intro X hP hw hK hc i pins s σ H E I hf st hg
  subst hP hw hK
  obtain ⟨f0,f1,f2,f3,f4,f5⟩:=hf it (by simp)
  have hx:x.cps[i]?=none:=Array.getElem?_eq_none hg
  cases ha:x.cps.all (· < 128) with
  | true =>
   have eT:strIterType x = "str_ascii_iterator" := by simp [strIterType,ha]
   rw [eT] at st
   exact wpAny_pyNext_ascii_end (I.ok.hd hc) st hx fun h' eb=>⟨rfl,I.turned (t':=s.toks) (fun b o hb e=>eb b o hb e) f0 f1 f3 f4 f5⟩
  | false =>
   have eT:strIterType x = "str_iterator" := by simp [strIterType,ha]
   rw [eT] at st
   exact wpAny_pyNext_wide_end (I.ok.hd hc) st hx fun h' eb=>⟨rfl,I.turned (t':=s.toks) (fun b o hb e=>eb b o hb e) f0 f1 f3 f4 f5⟩
 self:=fun A i s Q E st h=>by
  cases ha:x.cps.all (· < 128) with
  | true =>
   have eT:strIterType x = "str_ascii_iterator" := by simp [strIterType,ha]
   rw [eT] at st
   exact wpAny_pyIter_striter_ascii st h
  | false =>
   have eT:strIterType x = "str_iterator" := by simp [strIterType,ha]
   rw [eT] at st
   exact wpAny_pyIter_striter_wide st h
def iAny (K:PySem.W.Frag) (tl:TE):TI:=fun σ H R=>tl σ H fun x H1=>(∃ a,x=.ref a/\(∃ xs,SqL K H1 a xs)/\R (Itl K a) H1) ∨ (∃ a,x=.ref a/\(∃ xs,SqT K H1 a xs)/\R (Itt K a) H1) ∨ ∃ z,x=.str z/\R (Its z) H1
theorem zov {l:Expr} {tl:TE} (hl:PE X l tl):PI X tg l (iAny X.K tl):=by
 intro pins s σ H R I h
 refine thn (hl pins s σ H _ I h) fun v s1 ⟨x,H1,I1,r1,q1⟩=>?_
 have fpOk:∀ b ∈ [s1.heap.objs.size],FpOk X pins H1 b:=fun b hb=>by
  have e:b=s1.heap.objs.size:=by simpa using hb
  subst e
  exact I1.fpOk (Nat.le_refl _) (I1.hok.fresh (Nat.le_refl _))
 rcases q1 with ⟨a,e,⟨xs,hq⟩,q⟩ | ⟨a,e,⟨xs,hq⟩,q⟩ | ⟨z,e,q⟩
 ·subst e
  cases r1
  obtain ⟨its,rv,p,hz⟩:=I1.list hq
  refine wpAny_pyIter_list p.isList ?_
  exact ⟨s1.heap.objs.size,[s1.heap.objs.size],_,_,H1,rfl,I1.kept (t':=s1.toks) fun b o e=>Heap.get?_push_of_some _ e,zi2 a _,⟨_,Heap.get?_push_size _ rfl,rfl,rfl⟩,fpOk,q⟩
 ·subst e
  cases r1
  obtain ⟨its,rv,p,hz⟩:=I1.tuple hq
  refine wpAny_pyIter_tuple p ?_
  exact ⟨s1.heap.objs.size,[s1.heap.objs.size],_,_,H1,rfl,I1.kept (t':=s1.toks) fun b o e=>Heap.get?_push_of_some _ e,zie a _,⟨_,Heap.get?_push_size _ rfl,rfl,rfl⟩,fpOk,q⟩
 ·subst e
  obtain ⟨t,rfl⟩:=r1
  refine wpAny_pyIter_strU ?_
  exact ⟨s1.heap.objs.size,[s1.heap.objs.size],_,_,H1,rfl,I1.kept (t':=s1.toks) fun b o e=>Heap.get?_push_of_some _ e,zlr z t _,⟨_,Heap.get?_push_size _ rfl,rfl,rfl⟩,fpOk,q⟩
def zf9 (z:Str):List D:=z.cps.toList.map fun c=>.str ⟨#[c]⟩
def zgX:D->Option (List D)
 | .list ds=>some ds
 | .tuple ds=>some ds
 | .str z=>some (zf9 z)
 | _=>none
theorem zgY {K:PySem.W.Frag} {G1:Hp} {ad:Addr} {vs:List V} {ds:List D} (h:SqT K G1 ad vs) (r:Reps K G1 vs ds):zd2 K (Itt K ad) ds G1 where
 go:=fun i G H s1 s2 hi=>by
  have hi':i < vs.length:=by rw [r.length];exact hi
  exact ⟨vs,vs[i],zc4 (s1.trans s2) h,List.getElem?_eq_getElem hi'⟩
 stop:=fun i G H s1 s2 hi=>⟨vs,zc4 (s1.trans s2) h,by rw [r.length];exact hi⟩
 yld:=fun i G H x H' d s1 s2 e y=>by
  obtain ⟨rfl,y⟩:=y
  obtain ⟨v,e1,r1⟩:=r.get e
  have:=y vs (zc4 (s1.trans s2) h)
  rw [e1] at this
  cases this
  exact ⟨G,.refl s2,r1.mono s1⟩
theorem zjH {K:PySem.W.Frag} {G1:Hp} {z:Str}:zd2 K (Its z) (zf9 z) G1 where
 go:=fun i G H s1 s2 hi=>by unfold zf9 at hi;simpa [Its] using hi
 stop:=fun i G H s1 s2 hi=>by unfold zf9 at hi;simpa [Its] using hi
 yld:=fun i G H x H' d s1 s2 e y=>by
  obtain ⟨rfl,c,hc,rfl⟩:=y
  unfold zf9 at e
  rw [List.getElem?_map] at e
  have:z.cps.toList[i]?=some c:=by simpa using hc
  rw [this] at e
  cases e
  exact ⟨G,.refl s2,.str _⟩
def zaS (f:M D):M (List D):=zav f fun x=>mOpt (zgX x)
theorem zbx {f:M D} (h:PE X e (tD X.K B G0 f)):PI X tg e (iD X.K B G0 (zaS f)):=piof (zov h) fun σ H R q=>tM.toI (R0:=Rep X.K) q fun v H' G' ρ' x k r a=>by
 cases x with
 | list ds =>
  obtain ⟨ad,vs,rfl,h1,r1⟩:=r.lst_inv
  exact .inl ⟨ad,rfl,⟨vs,k.gh.seq h1⟩,a _ G' H' k (.refl _) (zij h1 r1)⟩
 | tuple ds =>
  obtain ⟨ad,vs,rfl,h1,r1⟩:=r.tup_inv
  exact .inr (.inl ⟨ad,rfl,⟨vs,zc4 k.gh h1⟩,a _ G' H' k (.refl _) (zgY h1 r1)⟩)
 | str z =>
  have:=r.str_inv
  subst this
  exact .inr (.inr ⟨z,rfl,a _ G' H' k (.refl _) zjH⟩)
 | _=>exact a.elim
def inS (i j:Str):Bool:=!(Builtin.Str.occurrences j i 0 j.length 1).isEmpty
def oInS:D->D->Option Bool
 | .str i,.str j=>some (inS i j)
 | _,_=>none
def zow:D->D->Option Bool
 | .str i,.str j=>some (!inS i j)
 | _,_=>none
theorem zpK:OpB X (compareOp .In) oInS:=⟨_,zi7,fun v u G H x y d Q s rx ry e k=>by
 unfold oInS at e
 split at e
 ·cases e
  have:=rx.str_inv;subst this
  have:=ry.str_inv;subst this
  exact ⟨_,_,rfl,rfl,k⟩
 ·cases e⟩
theorem zox:OpB X (compareOp .NotIn) zow:=⟨_,zfP,fun v u G H x y d Q s rx ry e k=>by
 unfold zow at e
 split at e
 ·cases e
  have:=rx.str_inv;subst this
  have:=ry.str_inv;subst this
  exact ⟨_,_,rfl,rfl,k⟩
 ·cases e⟩
theorem zls {x:Str} {i:Int} (hg:Gl X x) (hm:∃ t,X.mg x=some (.int i t)) (hd:(x == ("__debug__" : Str))=false:=by decide):PE X (.Name x pos) (tD X.K B G0 (zag (.int i))):=by
 obtain ⟨t,hm⟩:=hm
 exact peof (ziY (v:=.int i) hg hm ⟨t,rfl⟩ hd) fun σ H Q ⟨G,ρ,k,a⟩=>aft.now a k (.int _)
end
section
variable {X:Cx} {B G0:Hp} {KX:XW} {e o a b c tg i:Expr} {pos p2:Pos} {es rest:List Expr} {te to ti:TE}
def zoy (te to ti:TE):TS:=fun D σ H=>te σ H fun v H1=>to σ H1 fun x H2=>ti σ H2 fun k H3=>∃ l xs n,x=.ref l/\H3 l=some (.lst xs)/\k=.int n/\0<=n/\n < xs.length/\D.nx σ (upd H3 l (.lst (xs.set n.toNat v)))
theorem zlt (he:PE X e te) (ho:PE X o to) (hi:PE X i ti) (hs:swapsWith e (some (.Subscript o i p2)) pos.line X.env=pure false:=by rfl):PS X (.Assign [.Subscript o i p2] e pos) (zoy te to ti):=by
 intro pins s σ H D I h
 refine wpAny_Assign_Subscript (thn (he pins s σ H _ I h) fun v s1 ⟨x,H1,I1,r1,q1⟩=>thn (ho pins s1 σ H1 _ I1 q1) fun ov s2 ⟨y,H2,I2,r2,q2⟩=>thn (hi pins s2 σ H2 _ I2 q2) fun iv s3 ⟨k,H3,I3,r3,q3⟩=>?_) hs
 obtain ⟨l,xs,n,rfl,hl,rfl,h0,h1,q⟩:=q3
 cases r2
 obtain ⟨t,rfl⟩:=r3
 obtain ⟨z,its,m,r,hlen,ee⟩:=I3.lstM hl
 refine PySem.W.ki_setAt (items:=its.toArray) (n:=m) ee h0 (by
                                  have:sizeLine < 2 ^ 63:=by decide
                                  omega) (by simp;omega) ?_
 refine ⟨σ,_,I3.lset (t':=s3.toks) (its:=its) (its':=its.set n.toNat v) (f:=(·.setIfInBounds n.toNat v)) hl ee (by simp) (r.set r1 n.toNat) (by rw [List.length_set];exact z),q⟩
def zjI (j:Nat) (g f:M D):SM:=sB f fun d ρ1=>match ρ1[j]? with
 | some (some (.own _))=>sB g (fun y ρ2=>match y with
  | .int k=>(match ρ2[j]? with
   | some (some (.own ds))=>if 0<=k/\k < ds.length then .nx (ρ2.set j (some (.own (ds.set k.toNat d)))) else .bad
   | _=>.bad)
  | _=>.bad) ρ1
 | _=>.bad
theorem zjJ {j:Nat} {f g:M D} (he:PE X e (tD X.K B G0 f)) (ho:PE X o (tVar j)) (hi:PE X i (tD X.K B G0 g)) (hs:swapsWith e (some (.Subscript o i p2)) pos.line X.env=pure false:=by rfl) :
  PS X (.Assign [.Subscript o i p2] e pos) (tS X.K B G0 KX (zjI j g f)) :=
 psof (zlt he ho hi hs) fun D σ H q=>tS.bnd (R:=Rep X.K) q fun v H1 G1 ρ1 d k r a=>by
  cases q0 : ρ1[j]? with
  | none=>rw [q0] at a;exact a.elim
  | some o0 =>
   cases o0 with
   | none=>rw [q0] at a;exact a.elim
   | some sl0 =>
    cases sl0 with
    | pub d=>rw [q0] at a;exact a.elim
    | own ds0 =>
     rw [q0] at a
     obtain ⟨ad,vs0,h1,h2,h3,h4,h5⟩:=k.own j ds0 q0
     refine ⟨.ref ad,h1,G1,ρ1,k,?_⟩
     dsimp only at a
     unfold sB at a
     cases z:g ρ1 with
     | bad=>rw [z] at a;exact a.elim
     | ok y ρ2 =>
      rw [z] at a
      dsimp only at a
      intro kv G' H' k' s' r'
      cases y with
      | int n =>
       dsimp only at a
       cases q : ρ2[j]? with
       | none=>rw [q] at a;exact a.elim
       | some oo =>
        cases oo with
        | none=>rw [q] at a;exact a.elim
        | some sl =>
         cases sl with
         | pub d=>rw [q] at a;exact a.elim
         | own ds =>
          rw [q] at a
          dsimp only at a
          split at a
          ·rename_i hn
           obtain ⟨ad',vs,g1,g2,g3,g4,g5⟩:=k'.own j ds q
           rw [h1] at g1
           cases g1
           refine ⟨ad,vs,n,rfl,g4,r'.int_inv,hn.1,by rw [g5.length];exact hn.2,?_⟩
           exact a σ G' _ (k'.change q h1 (g5.set (r.mono s') n.toNat)) s'
          ·exact a.elim
      | _=>exact a.elim
def cutS (z:Str) (lo hi:Option Int):Str:=if (Builtin.Str.strSliceIndices lo hi 1 z.length).length=z.length then z else ⟨((Builtin.Str.strSliceIndices lo hi 1 z.length).filterMap (z.cps[·]?)).toArray⟩
theorem zoz:SlR X (fun x lo hi H Q=>∃ z,x=.str z/\(cutS z lo hi).length<=sizeLine/\Q (.str (cutS z lo hi)) H):=by
 intro pins s σ H x v vl vu lo hi sl Q I rx hs pl pu h
 obtain ⟨z,rfl,hz,q⟩:=h
 obtain ⟨t,rfl⟩:=rx
 refine ⟨"str", _,F.slot_str_getitem.lookup,typeIs_str s z t,?_⟩
 obtain ⟨l,el,e1⟩:∃ l:Option (Int × Tok),vl=partValue l/\l.map (·.1)=lo:=by
  cases pl with
  | none=>exact ⟨none,rfl,rfl⟩
  | int k t'=>exact ⟨some (k,t'),rfl,rfl⟩
 obtain ⟨u,eu,e2⟩:∃ u:Option (Int × Tok),vu=partValue u/\u.map (·.1)=hi:=by
  cases pu with
  | none=>exact ⟨none,rfl,rfl⟩
  | int k t'=>exact ⟨some (k,t'),rfl,rfl⟩
 subst el eu
 refine wpAny_getItem_str_slice (l:=l) (u:=u) (st:=none) hs rfl ?_
 unfold sliceMade slicePicked
 rw [e1,e2]
 unfold cutS at hz q
 by_cases hw:(Builtin.Str.strSliceIndices lo hi 1 z.length).length=z.length
 ·rw [if_pos hw] at hz q
  rw [if_pos (by simp [hw])]
  exact ⟨.str z,H,I,⟨t,rfl⟩,q⟩
 ·rw [if_neg hw] at hz q
  rw [if_neg (by simp [hw])]
  exact ⟨hz,.str _,H,I.tok _,⟨_,rfl⟩,q⟩
end
section
variable {X:Cx} {B G0:Hp} {KX:XW} {e o a b c tg i:Expr} {pos p2:Pos} {es rest:List Expr} {te to ti:TE}
theorem pvb (i:Nat) {x:Str} {pos:Pos} {N':List Str} {scope:Scope} {cl:List (Str × Addr)} {C:Addr} {s₀ : Shared} {H₀ : Hp} {ex:List Addr} (hN:N'[i]?=some x:=by rfl)
  (h:scope.names.lookup x=some .local ∨ scope.names.lookup x=some .free:=by first | exact .inl rfl | exact .inr rfl) (hd:(x == ("__debug__" : Str))=false:=by decide) (hcd:(x == ("__classdict__" : Str))=false:=by decide) :
  PE (X.blk N' scope cl C s₀ H₀ ex) (.Name x pos) (tVar i):=zl6 hN (zm8 h) hd hcd
def oSlA:D->Option Int->Option Int->Option D
 | .list xs,lo,hi=>some (.list (DL.cutD xs lo hi))
 | .str z,lo,hi=>if (cutS z lo hi).length<=1000000 then some (.str (cutS z lo hi)) else none
 | _,_,_=>none
def dSlA (f:M D) (lo hi:M (Option Int)):M D:=zav f fun x=>zav lo fun l=>zav hi fun h=>mOpt (oSlA x l h)
theorem zdG {lo hi:Option Expr} {f:M D} {l h:M (Option Int)} (he:PE X e (tD X.K B G0 f)) (hl:PO X lo (tOi X.K B G0 l)) (hu:PO X hi (tOi X.K B G0 h)) :
  PE X (.Subscript e (.Slice lo hi none p2) pos) (tD X.K B G0 (dSlA f l h)) :=
 peof (zla (zmL.or zoz) he hl hu) fun σ H Q q=>by
  refine tM.one (R:=Rep X.K) q fun v H2 G ρ x k r a=>?_
  refine tM.nx (R:=fun _ b c=>b=c) k a fun l' H3 G3 ρ3 xl k3 s3 r3 a3=>?_
  refine tM.nx (R:=fun _ b c=>b=c) k3 a3 fun h' H4 G4 ρ4 xh k4 s4 r4 a4=>?_
  have r3:l'=xl:=r3
  have r4:h'=xh:=r4
  subst r3 r4
  unfold mOpt oSlA at a4
  cases x with
  | list xs =>
   obtain ⟨ad,vs,rfl,h1,r1⟩:=((r.mono s3).mono s4).lst_inv
   exact .inl ⟨ad,vs,rfl,k4.gh.seq h1,fun p hp=>aft.done a4 k4 (Ext.new k4.gh hp) (.lst (SqL.of zaD) ((r1.cut l' h').mono (zaO (k4.gh.free hp))))⟩
  | str z =>
   dsimp only at a4
   have:=r.str_inv;subst this
   by_cases hc:(cutS z l' h').length<=1000000
   ·rw [if_pos hc] at a4
    exact .inr ⟨z,rfl,Nat.le_trans hc lim,aft.now a4 k4 (.str _)⟩
   ·rw [if_neg hc] at a4;exact a4.elim
  | _=>exact a4.elim
end
section
variable {X:Cx} {B G0:Hp} {e o a b c tg:Expr} {pos p2:Pos} {es rest:List Expr} {te to ti:TE}
def zbQ {β : Type} (p:D->D->Option β) (i:Nat) (g:M D):M β:=fun ρ=>match ρ[i]? with
 | some (some (.pub d))=>(zav g fun y=>mOpt (p d y)) ρ
 | some (some (.own _))=>(zav g fun y=>fun ρ'=>match ρ'[i]? with | some (some (.own ds))=>mOpt (p (.list ds) y) ρ' | _=>.bad) ρ
 | _=>.bad
theorem zoA {K:PySem.W.Frag} {σ : St} {H:Hp} {p:D->D->Option Bool} {r:R2} {i:Nat} {g:M D} {Q:Bool->Hp->Prop} {QV:VK} (hq:∀ t H3,Q t H3->QV (.bl t) H3) (hr:∀ v u G H x y d Q,Same G H->Rep K G v x->Rep K G u y->p x y=some d->Q (.bl d) H->r v u H Q)
  (q:tBo K B G0 (zbQ p i g) σ H Q):tVar i σ H fun x H1=>tD K B G0 g σ H1 fun y H2=>r x y H2 QV:=by
 obtain ⟨G,ρ,k,a⟩:=q
 unfold zbQ at a
 cases q : ρ[i]? with
 | none=>rw [q] at a;exact a.elim
 | some o =>
  cases o with
  | none=>rw [q] at a;exact a.elim
  | some sl =>
   cases sl with
   | pub d =>
    rw [q] at a
    obtain ⟨v,h1,h2⟩:=k.pub i d q
    refine ⟨v,h1,G,ρ,k,?_⟩
    dsimp only [zav] at a
    cases z:g ρ with
    | bad=>rw [z] at a;exact a.elim
    | ok y ρ1 =>
     rw [z] at a
     intro u G' H' k' s' r'
     obtain ⟨d',e',a'⟩:=aft.opt a
     exact hr v u G' H' d y d' _ k'.gh (h2.mono s') r' e' (hq _ _ (a' d' G' H' k' s' rfl))
   | own ds =>
    rw [q] at a
    obtain ⟨ad,vs,h1,h2,h3,h4,h5⟩:=k.own i ds q
    refine ⟨.ref ad,h1,G,ρ,k,?_⟩
    dsimp only [zav] at a
    cases z:g ρ with
    | bad=>rw [z] at a;exact a.elim
    | ok y ρ1 =>
     rw [z] at a
     dsimp only at a
     intro u G' H' k' s' r'
     cases q1 : ρ1[i]? with
     | none=>rw [q1] at a;exact a.elim
     | some oo =>
      cases oo with
      | none=>rw [q1] at a;exact a.elim
      | some sl1 =>
       cases sl1 with
       | pub d1=>rw [q1] at a;exact a.elim
       | own ds1 =>
        rw [q1] at a
        dsimp only at a
        obtain ⟨ad',ws,g1,g2,g3,g4,g5⟩:=k'.own i ds1 q1
        rw [h1] at g1
        cases g1
        obtain ⟨d',e',a'⟩:=aft.opt a
        have sg:Same G' (upd G' ad (.lst ws)):=zaO g3
        have sh:Same (upd G' ad (.lst ws)) H':=fun b o q=>by
         by_cases z:b=ad
         ·subst z;rw [zaD] at q;cases q;exact g4
         ·rw [zaJ z] at q;exact k'.gh b o q
        exact hr (.ref ad) u _ H' (.list ds1) y d' _ sh (.lst (SqL.of zaD) (g5.mono sg)) (r'.mono sg) e' (hq _ _ (a' d' G' H' k' s' rfl))
theorem zbD {op:CmpOp} {p:D->D->Option Bool} {i:Nat} {g:M D} (o:OpB X (compareOp op) p) (ha:PE X a (tVar i)) (hb:PE X b (tD X.K B G0 g)) (hm:behindInMarks op b=false) :
  PT X (.Compare a [op] [b] pos) (tBo X.K B G0 (zbQ p i g)):=by
 obtain ⟨r,h,j⟩:=o
 exact ptof (zgO h ha hb hm) fun σ H Q q=>zoA (fun t H3 z=>⟨t,rfl,z⟩) j q
theorem zfh {op:CmpOp} {p:D->D->Option Bool} {i:Nat} {g:M D} (o:OpB X (compareOp op) p) (ha:PE X a (tVar i)) (hb:PE X b (tD X.K B G0 g)) (hm:behindInMarks op b=false) :
  PE X (.Compare a [op] [b] pos) (tD X.K B G0 (mMap PyData.bool (zbQ p i g))):=by
 obtain ⟨r,h,j⟩:=o
 exact peof (zi8 h ha hb hm) fun σ H Q q=>zoA (fun t H3 z=>z) j (tBo.val q)
end
end DL
namespace L2
open PySem PySem.Spec PyProof.Rows
section
variable {X:Cx}
end
end L2
namespace DL
open PySem PySem.Spec L2
open PyProof.Rows hiding St
section
variable {X:Cx} {B G0:Hp} {e a b c tg:Expr} {pos:Pos} {es rest:List Expr}
end
section
variable {X:Cx} {B G0:Hp} {e o a b c tg:Expr} {pos p2 p3:Pos} {es rest:List Expr} {te to ti:TE}
def oIn:D->D->Option Bool
 | .str i,.str j=>some (inS i j)
 | x,.list xs=>if x.canLay0=true/\PyData.canLayAll0 xs=true/\x.depth<=60 then some (xs.any fun y=>PyData.eqv y x) else none
 | x,.tuple xs=>if x.canLay0=true/\PyData.canLayAll0 xs=true/\x.depth<=60 then some (xs.any fun y=>PyData.eqv y x) else none
 | _,_=>none
def oNin (x y:D):Option Bool:=(oIn x y).map fun t=>!t
def oInQ (x y:D):Option Bool:=match y with
 | .list xs=>if x.canLay0=true/\PyData.canLayAll0 xs=true/\x.depth<=60 then some (xs.any fun y=>PyData.eqv y x) else none
 | .tuple xs=>if x.canLay0=true/\PyData.canLayAll0 xs=true/\x.depth<=60 then some (xs.any fun y=>PyData.eqv y x) else none
 | _=>none
theorem zpL (hu:X.A.units+64 < cLine):OpB X (compareOp .In) oInQ:=by
 refine ⟨fun v u H Q=>∃ G x y d,Same G H/\Rep X.K G v x/\Rep X.K G u y/\oInQ x y=some d/\Q (.bl d) H,?_,fun v u G H x y d Q s rx ry e k=>⟨G,x,y,d,s,rx,ry,e,k⟩⟩
 intro pins s σ H x y v u Q I rx ry ⟨G,dx,dy,d,sg,px,py,e,q⟩
 unfold oInQ at e
 split at e
 ·split at e
  ·rename_i c
   cases e
   obtain ⟨as,ra⟩:=zbB I sg px rx c.1
   obtain ⟨bs,rb⟩:=zbB I sg py ry (show PyData.canLayAll0 _=true from c.2.1)
   exact SeqAt.in_list_reads rb ra c.2.1 c.1 (by have:=c.2.2;omega) ⟨.bl _,H,I,rfl,q⟩
  ·cases e
 ·split at e
  ·rename_i c
   cases e
   obtain ⟨as,ra⟩:=zbB I sg px rx c.1
   obtain ⟨bs,rb⟩:=zbB I sg py ry (show PyData.canLayAll0 _=true from c.2.1)
   exact SeqAt.in_tuple_reads rb ra c.2.1 c.1 (by have:=c.2.2;omega) ⟨.bl _,H,I,rfl,q⟩
  ·cases e
 ·cases e
theorem zoB (hu:X.A.units+64 < cLine):OpB X (compareOp .NotIn) (fun x y=>(oInQ x y).map fun t=>!t):=by
 refine ⟨fun v u H Q=>∃ G x y d,Same G H/\Rep X.K G v x/\Rep X.K G u y/\(oInQ x y).map (fun t=>!t)=some d/\Q (.bl d) H,?_,fun v u G H x y d Q s rx ry e k=>⟨G,x,y,d,s,rx,ry,e,k⟩⟩
 intro pins s σ H x y v u Q I rx ry ⟨G,dx,dy,d,sg,px,py,e,q⟩
 unfold oInQ at e
 split at e
 ·split at e
  ·rename_i c
   cases e
   obtain ⟨as,ra⟩:=zbB I sg px rx c.1
   obtain ⟨bs,rb⟩:=zbB I sg py ry (show PyData.canLayAll0 _=true from c.2.1)
   exact SeqAt.notIn_list_reads rb ra c.2.1 c.1 (by have:=c.2.2;omega) ⟨.bl _,H,I,rfl,q⟩
  ·cases e
 ·split at e
  ·rename_i c
   cases e
   obtain ⟨as,ra⟩:=zbB I sg px rx c.1
   obtain ⟨bs,rb⟩:=zbB I sg py ry (show PyData.canLayAll0 _=true from c.2.1)
   exact SeqAt.notIn_tuple_reads rb ra c.2.1 c.1 (by have:=c.2.2;omega) ⟨.bl _,H,I,rfl,q⟩
  ·cases e
 ·cases e
theorem B_in (hu:X.A.units+64 < cLine):OpB X (compareOp .In) oIn:=(zpK.or (zpL hu)).congr fun x y=>by
 cases x <;> cases y <;> rfl
theorem zpM (hu:X.A.units+64 < cLine):OpB X (compareOp .NotIn) oNin:=(zox.or (zoB hu)).congr fun x y=>by
 cases x <;> cases y <;> rfl
theorem zjK {tl th ts:TO} {lo hi:Option Expr} {st:Expr} (he:PE X e te) (hl:PO X lo tl) (hu:PO X hi th) (hst:PO X (some st) ts):PE X (.Subscript e (.Slice lo hi (some st) p2) pos)
  (fun σ H Q=>te σ H fun x H1=>tl σ H1 fun l H2=>th σ H2 fun u H3=>ts σ H3 fun t H4=>∃ a xs,x=.ref a/\SqL X.K H4 a xs/\l=none/\u=none/\t=some (-1)/\∀ p,H4 p=none->Q (.ref p) (upd H4 p (.lst xs.reverse))):=by
 intro pins s σ H Q I h
 refine Subscript_ (thn (he pins s σ H _ I h) fun v s1 ⟨x,H1,I1,r1,q1⟩=>?_)
 refine wpAny_Slice (thn (hl pins s1 σ H1 _ I1 q1) fun vl s2 ⟨l,H2,I2,pl,q2⟩=>thn (hu pins s2 σ H2 _ I2 q2) fun vu s3 ⟨u,H3,I3,pu,q3⟩=>thn (hst pins s3 σ H3 _ I3 q3) fun vt s4 ⟨t,H4,I4,pt,q4⟩=>?_)
 obtain ⟨a,xs,rfl,hx,rfl,rfl,rfl,q⟩:=q4
 cases r1
 have I5:Inv X pins σ H4 { s4 with heap:=s4.heap.push { cls:=.type "slice", data:=.fields #[vl,vu,vt] } }:=I4.kept (t':=s4.toks) fun b ob q=>Heap.get?_push_of_some _ q
 obtain ⟨its,r,ht,hz⟩:=I5.list hx
 have hlen:=r.length
 have hg:wpAny (model X.prog X.w) X.A (getItem (.ref a) (.ref s4.heap.objs.size)) (EP X pins σ Q) X.xe { s4 with heap:=s4.heap.push { cls:=.type "slice", data:=.fields #[vl,vu,vt] } }:=by
  refine wpAny_getItem_list_slice ht.isList (Heap.IsSliceOf.new ..) pl pu pt (by simp) ?_ (by rw [List.size_toArray] <;> omega)
  rw [PySem.W.krv_pick]
  refine ⟨.ref _,_,I5.laid (t':=s4.toks) (o:=.lst xs.reverse) (fun b ob q=>Heap.get?_push_of_some _ q) (Nat.le_refl _) ?_,rfl,q _ (I5.hok.fresh (Nat.le_refl _))⟩
  exact ⟨by rw [List.length_reverse];exact hz,its.reverse,0,r.reverse,Heap.get?_push_size _ rfl⟩
 show wpAny (model X.prog X.w) X.A (subscriptTail e (.Slice lo hi (some st) p2) (.ref a) (.ref s4.heap.objs.size)) (EP X pins σ Q) X.xe { s4 with heap:=s4.heap.push { cls:=.type "slice", data:=.fields #[vl,vu,vt] } }
 exact tail_any (ops:=[.ref a,.ref s4.heap.objs.size]) ht.isList.typeIs slot_list_getitem.lookup hg (by with_unfolding_all rfl)
def oRev:D->Option Int->Option Int->Option Int->Option D
 | .list xs,none,none,some i=>if i = -1 then some (.list xs.reverse) else none
 | _,_,_,_=>none
def dRev (f:M D) (lo hi st:M (Option Int)):M D:=zav f fun x=>zav lo fun l=>zav hi fun h=>zav st fun t=>mOpt (oRev x l h t)
theorem zna {lo hi:Option Expr} {st:Expr} {f:M D} {l h t:M (Option Int)} (he:PE X e (tD X.K B G0 f)) (hl:PO X lo (tOi X.K B G0 l)) (hu:PO X hi (tOi X.K B G0 h)) (hst:PO X (some st) (tOi X.K B G0 t)) :
  PE X (.Subscript e (.Slice lo hi (some st) p2) pos) (tD X.K B G0 (dRev f l h t)) :=
 peof (zjK he hl hu hst) fun σ H Q q=>by
  refine tM.one (R:=Rep X.K) q fun v H2 G ρ x k r a=>?_
  refine tM.nx (R:=fun _ b c=>b=c) k a fun l' H3 G3 ρ3 xl k3 s3 r3 a3=>?_
  refine tM.nx (R:=fun _ b c=>b=c) k3 a3 fun h' H4 G4 ρ4 xh k4 s4 r4 a4=>?_
  refine tM.nx (R:=fun _ b c=>b=c) k4 a4 fun t' H5 G5 ρ5 xt k5 s5 r5 a5=>?_
  have r3:l'=xl:=r3
  have r4:h'=xh:=r4
  have r5:t'=xt:=r5
  subst r3 r4 r5
  cases x with
  | list xs =>
   cases l' with
   | some _=>exact a5.elim
   | none =>
   cases h' with
   | some _=>exact a5.elim
   | none =>
   cases t' with
   | none=>exact a5.elim
   | some i =>
   obtain ⟨ad,vs,rfl,h1,r1⟩:=(((r.mono s3).mono s4).mono s5).lst_inv
   by_cases hi:i = -1
   ·subst hi
    exact ⟨ad,vs,rfl,k5.gh.seq h1,rfl,rfl,rfl,fun p hp=>aft.done a5 k5 (Ext.new k5.gh hp) (.lst (SqL.of zaD) (r1.reverse.mono (zaO (k5.gh.free hp))))⟩
   ·unfold mOpt oRev at a5
    dsimp only at a5
    rw [if_neg hi] at a5
    exact a5.elim
  | _ =>
   unfold mOpt oRev at a5
   exact a5.elim
def zd3:List D->Option (List D)
 | [.list xs]=>some xs
 | [.tuple xs]=>some xs
 | _=>none
theorem zga {x l:List D} (h:zd3 x=some l):x=[.list l] ∨ x=[.tuple l]:=by
 unfold zd3 at h
 split at h
 ·cases h;exact .inl rfl
 ·cases h;exact .inr rfl
 ·cases h
theorem zeP:bootBuiltins "list" = some (.type "list"):=by decide +kernel
theorem zfi {f:M (List D)} (hg:Gl X "list") (hm:X.mg "list" = none) (ha:PA X [a] (tDs X.K B G0 f)) (he:starEach [a] X.env=(false,eval a X.env) :: starEach [] X.env:=by rfl) :
  PE X (.Call (.Name "list" p2) [a] [] pos) (tL X.K B G0 (zav f fun xs=>mOpt (zd3 xs))) :=
 peof (zde zdP hg hm zeP ha (by decide) (by decide) he rfl) fun σ H Q ⟨G,ρ,k,q⟩=>by
  refine ⟨G,ρ,k,?_⟩
  unfold zav at q
  cases z:f ρ with
  | bad=>rw [z] at q;exact q.elim
  | ok xs ρ1 =>
   rw [z] at q
   dsimp only [mOpt] at q
   intro vs G' H' k' s' r
   cases z2:zd3 xs with
   | none=>rw [z2] at q;exact q.elim
   | some l =>
    rw [z2] at q
    rcases zga z2 with rfl | rfl
    ·obtain ⟨v,rfl,q1⟩:=r.one_inv
     obtain ⟨p,ws,rfl,h1,r1⟩:=q1.lst_inv
     exact ⟨p,ws,rfl,.inl (k'.gh.seq h1),fun ad hp=>q ad ws G' _ (k'.ext (Ext.hid k'.gh hp)) s' (NewL.of k' hp r1)⟩
    ·obtain ⟨v,rfl,q1⟩:=r.one_inv
     obtain ⟨p,ws,rfl,h1,r1⟩:=q1.tup_inv
     exact ⟨p,ws,rfl,.inr (zc4 k'.gh h1),fun ad hp=>q ad ws G' _ (k'.ext (Ext.hid k'.gh hp)) s' (NewL.of k' hp r1)⟩
def zeQ (i:Nat):M (List D):=fun ρ=>match ρ[i]? with
 | some (some (.pub d))=>mOpt (zd3 [d]) ρ
 | some (some (.own ds))=>.ok ds ρ
 | _=>.bad
theorem zjL {i:Nat} (hg:Gl X "list") (hm:X.mg "list" = none) (ho:PE X a (tVar i)) (he:starEach [a] X.env=(false,eval a X.env) :: starEach [] X.env:=by rfl) :
  PE X (.Call (.Name "list" p2) [a] [] pos) (tL X.K B G0 (zeQ i)) :=
 peof (zde zdP hg hm zeP (zbX ho zdd he) (by decide) (by decide) he rfl) fun σ H Q ⟨G,ρ,k,q⟩=>by
  unfold zeQ at q
  cases z : ρ[i]? with
  | none=>rw [z] at q;exact q.elim
  | some oo =>
   cases oo with
   | none=>rw [z] at q;exact q.elim
   | some sl =>
    cases sl with
    | own ds =>
     rw [z] at q
     dsimp only at q
     obtain ⟨ad,vs,h1,h2,h3,h4,h5⟩:=k.own i ds z
     exact ⟨.ref ad,h1,ad,vs,rfl,.inl (SqL.of h4),fun l hp=>q l vs G _ (k.ext (Ext.hid k.gh hp)) (.refl _) (NewL.of k hp h5)⟩
    | pub d =>
     rw [z] at q
     dsimp only [mOpt] at q
     obtain ⟨v,h1,h2⟩:=k.pub i d z
     cases z2:zd3 [d] with
     | none=>rw [z2] at q;exact q.elim
     | some l =>
      rw [z2] at q
      dsimp only at q
      rcases zga z2 with e | e
      ·cases e
       obtain ⟨p,ws,rfl,g1,r1⟩:=h2.lst_inv
       exact ⟨_,h1,p,ws,rfl,.inl (k.gh.seq g1),fun ad hp=>q ad ws G _ (k.ext (Ext.hid k.gh hp)) (.refl _) (NewL.of k hp r1)⟩
      ·cases e
       obtain ⟨p,ws,rfl,g1,r1⟩:=h2.tup_inv
       exact ⟨_,h1,p,ws,rfl,.inr (zc4 k.gh g1),fun ad hp=>q ad ws G _ (k.ext (Ext.hid k.gh hp)) (.refl _) (NewL.of k hp r1)⟩
def zjM:List D->Option D
 | [.int i]=>some (.int i)
 | [.bool b]=>some (.int (if b then 1 else 0))
 | _=>none
theorem zoC:zc5 X (.type "int") zjM:=by
 refine ⟨_,zja,fun vs G H ds d Q s r e k=>?_⟩
 unfold zjM at e
 split at e
 ·cases e
  obtain ⟨v,rfl,q⟩:=r.one_inv
  rw [q.int_inv]
  exact .inl ⟨_,rfl,k _ G H (.refl s) (.int _)⟩
 ·cases e
  obtain ⟨v,rfl,q⟩:=r.one_inv
  rw [q.bl_inv]
  exact .inr ⟨_,rfl,k _ G H (.refl s) (.int _)⟩
 ·cases e
theorem zpN {x:Str} {zs:List Str} (hg:Gl X x) (hm:∃ ad o its n,X.mg x=some (.ref ad)/\X.K.lookup ad=some o/\o.cls=.type "tuple" /\ o.data=.seq its n/\its.size<=sizeLine/\Vals (zs.map V.str) its.toList) (hd:(x == ("__debug__" : Str))=false:=by decide) :
  PE X (.Name x pos) (tD X.K B G0 (zag (.tuple (zs.map PyData.str)))):=by
 obtain ⟨ad,o,its,n,hm,h1,h2,h3,h4,h5⟩:=hm
 refine peof (ziY (v:=.ref ad) hg hm rfl hd) fun σ H Q ⟨G,ρ,k,a⟩=>aft.now a k (.tup (.inr ⟨o,its,n,h1,h2,h3,h4,h5⟩) ?_)
 have:∀ zs:List Str,Reps X.K G (zs.map V.str) (zs.map PyData.str):=fun zs=>by
  induction zs with
  | nil=>exact .nil
  | cons z r ih=>exact .cons (.str _) ih
 exact this zs
end
section
variable {X:Cx} {B G0:Hp} {e o a b c tg:Expr} {pos p2 p3 p4:Pos} {es rest:List Expr} {te to ti:TE}
theorem zbS:∀ {ns:List Int} {us:List Value},Vals (ns.map V.int) us->PyProof.Rows.IntsAre us ns
 | [],_,.nil=>.nil
 | n :: ns,_,.cons h t=>by
  obtain ⟨tk,rfl⟩:=h
  exact .cons n tk (zbS t)
def zer (ns:List Int):Nat:=(PyProof.Rows.firstMet (fun i=>ns.getD i 0) ns.length).length
theorem zjN (hc:X.calm=true):zcJ X (.type "set") (fun xs H Q=>∃ l,∃ ns:List Int,xs=[.ref l]/\SqL X.K H l (ns.map V.int)/\ns.length+1 < 4096/\∀ S p,H p=none->Q (.ref p) (upd H p (.set S (zer ns)))):=by
 intro pins s σ H xs us Q I rx h
 obtain ⟨l,ns,rfl,hq,hb,q⟩:=h
 obtain ⟨u,rfl,ru⟩:=rx.one
 cases ru
 obtain ⟨its,rv,p,hz⟩:=I.list hq
 have hi:=zbS rv
 have hn:its.toArray.size=ns.length:=by have:=rv.length;rw [List.length_map] at this;simp;omega
 refine call_set_list (I.ok.hd hc) p.isList (ns:=ns) (by simpa using hi) (by rw [hn];exact hb) fun h' tk hS hk=>?_
 rw [hn] at hS
 refine ⟨.ref s.heap.objs.size,_,I.laid (t':=tk) (fun b o e=>hk b o (Heap.lt_size e) e) (Nat.le_refl _) (show zbJ X.prog X.w _ h' _ (.set _ (zer ns)) from hS),rfl,q _ _ (I.hok.fresh (Nat.le_refl _))⟩
theorem zjO:zcJ X (.builtin "len") (fun xs H Q=>∃ p S n,xs=[.ref p]/\H p=some (.set S n)/\Q (.int n) H):=by
 intro pins s σ H xs us Q I rx h
 obtain ⟨p,S,n,rfl,hp,q⟩:=h
 obtain ⟨u,rfl,ru⟩:=rx.one
 cases ru
 obtain ⟨o,es,ep,t,h1,h2,h3,h4,h5,h6,h7,h8⟩:=(show s.heap.SetOf (intKind X.prog X.w) p S n from I.hok p _ hp)
 have hsb:scanBound=4096:=rfl
 refine call_len_set h1 h2 h3 h7 (by omega) ?_
 rw [h8]
 exact ⟨.int n,H,I.tok _,⟨_,rfl⟩,q⟩
def zbH:List D->Option (List Int)
 | []=>some []
 | .int i :: r=>(zbH r).map (i :: ·)
 | _=>none
theorem zbZ {K:PySem.W.Frag} {G:Hp}:∀ {vs:List V} {ds:List D} {ns:List Int},Reps K G vs ds->zbH ds=some ns->vs=ns.map V.int
 | _,_,ns,.nil,e=>by cases e;rfl
 | _,_,ns,.cons (d:=d) r t,e=>by
  cases d with
  | int b =>
   unfold zbH at e
   cases z:zbH _ with
   | none=>rw [z] at e;cases e
   | some cs =>
    rw [z] at e
    cases e
    rw [r.int_inv,zbZ t z];rfl
  | _=>cases e
theorem zcc (ns:List Int):zbH (ns.map PyData.int)=some ns:=by
 induction ns with
 | nil=>rfl
 | cons b r ih=>rw [List.map_cons,zbH,ih];rfl
def zcE:List D->Option D
 | [.list ds]=>(match zbH ds with
  | some ns=>if ns.length+1 < 4096 then some (.int (zer ns)) else none
  | none=>none)
 | _=>none
theorem zgZ {xs:List D} {d:D} (h:zcE xs=some d):∃ ds ns,xs=[.list ds]/\zbH ds=some ns/\ns.length+1 < 4096/\d=.int (zer ns):=by
 unfold zcE at h
 split at h
 ·rename_i ds
  cases z:zbH ds with
  | none=>rw [z] at h;cases h
  | some ns =>
   rw [z] at h
   dsimp only at h
   split at h
   ·rename_i c
    cases h
    exact ⟨ds,ns,rfl,z,c,rfl⟩
   ·cases h
 ·cases h
theorem zjP:bootBuiltins "set" = some (.type "set"):=by decide +kernel
theorem zeR {f:M (List D)} (hc:X.calm=true) (hg:Gl X "len") (hm:X.mg "len" = none) (hg2:Gl X "set") (hm2:X.mg "set" = none) (ha:PA X [a] (tDs X.K B G0 f)) (he:starEach [a] X.env=(false,eval a X.env) :: starEach [] X.env:=by rfl)
  (he2:starEach [.Call (.Name "set" p2) [a] [] p3] X.env=(false,eval (.Call (.Name "set" p2) [a] [] p3) X.env) :: starEach [] X.env:=by rfl) :
  PE X (.Call (.Name "len" p4) [.Call (.Name "set" p2) [a] [] p3] [] pos) (tD X.K B G0 (zbe zcE f)) :=
 peof (zd5 zjO hg hm boot_len (zbX (zde (zjN hc) hg2 hm2 zjP ha (by decide) (by decide) he rfl) zdd he2) (by decide) (by decide) he2 rfl) fun σ H Q q=>tM.one (R:=Reps X.K) q fun vs H2 G ρ x k r a=>by
  obtain ⟨d,e,a⟩:=a.opt
  obtain ⟨ds,ns,rfl,z,c,rfl⟩:=zgZ e
  obtain ⟨v,rfl,q1⟩:=r.one_inv
  obtain ⟨l,ws,rfl,h1,r1⟩:=q1.lst_inv
  have:=zbZ r1 z
  subst this
  refine ⟨l,ns,rfl,k.gh.seq h1,c,fun S p hp=>⟨p,S,zer ns,rfl,zaD,?_⟩⟩
  exact aft.done a k (Ext.hid k.gh hp) (.int _)
end
end DL
namespace L2
open PySem PySem.Spec PyProof.Rows
section
variable {X:Cx} {tg:Expr}
end
end L2
namespace DL
open PySem PySem.Spec L2
open PyProof.Rows hiding St
section
variable {X:Cx} {B G0:Hp} {e a b c tg:Expr} {pos:Pos} {es rest:List Expr}
end
end DL
namespace L2
open PySem PySem.Spec PyProof.Rows
section
variable {prog:Program} {w:World} {A:Around} {E:Value->Shared->Prop} {s:Shared} {M:Model} {env:Env}
theorem znb {pos:Pos} {T:String} {args:List (Bool × Sem Value)} {kws:List (Option Str × Sem Value)} {Q:Value->Shared->Prop} (hp:args.any (·.1)=false) (hk:kws.any (·.1.isNone)=false)
  (h:wpAny M A (evalArgs (.type T) true args kws) (fun a s1=>wpAny M A (call (.type T) a.pos a.kw) Q E s1) E s):wpAny M A (callWith pos (.type T) [] args kws) Q E s:=by
 unfold callWith
 refine wpAny_bind (wpAny_holding (wpAny_mono h (fun a s1 h1=>wpAny_bind (wpAny_standAt ?_)) fun _ _ z=>z))
 simp only [hp,hk,Bool.false_or]
 refine wpAny_bind (wpAny_pure ?_)
 exact wpAny_bind (wpAny_mono h1 (fun r s2 hr=>wpAny_bind (wpAny_holding (wpAny_point (wpAny_pure hr)))) fun _ _ z=>z)
theorem zlu (l:Addr) (t:Tok) (items:Array Value) (n:Nat) (dct:Option Addr) (sl:Array (Option Value)) :
  Meets (Builtin.«enumerate.__new__» ⟨[.type "enumerate", .ref l],[("start", .int 1 t)]⟩) (fun _ R s=>s.heap.get? l=some ⟨.type "list", dct,.seq items n,sl⟩ /\
   R (.ok (.ret (.ref (s.heap.push { cls:=.type "list_iterator", data:=.fields #[.ref l,.int 0 0] }).objs.size))) { s with heap:=(s.heap.push { cls:=.type "list_iterator", data:=.fields #[.ref l,.int 0 0] }).push { cls:=.type "enumerate", data:=.fields #[.none,.bool false,.ref s.heap.objs.size,rawInt 1,.none,.none] } }) :=
 .of_wp fun prog w A R s h=>by
  obtain ⟨hp,g,d,tk,os⟩:=s
  obtain ⟨hl,h⟩:=h
  have hsub:=sub_enumerate
  have hL:Heap.IsList (Shared.heap ⟨hp,g,d,tk,os⟩) l items:=⟨_,hl,rfl,n,rfl⟩
  wp_walk using AutoSeq1.wpAny_loadPart' hl
  refine wpAny_stack_any fun st=>(wpAny_pure ?_)
  split
  ·rename_i c _ _ _ _ _
   cases (c == Value.type "enumerate") <;> (wp_walk using (AutoSeq1.wpAny_loadPart' hl),(wpAny_pyIter_list hL)) <;> exact ⟨_,rfl,h⟩
  ·(wp_walk using (AutoSeq1.wpAny_loadPart' hl),(wpAny_pyIter_list hL));exact ⟨_,rfl,h⟩
theorem zfj {T newId initId:String} {Bn Bi:Builtin} {args:List Value} {kw:List (Str × Value)} {S:PySem.Spec} {Q Q1:Value->Shared->Prop} (ft:TypeCalled T newId initId)
  (hct:checkTypeCall T ⟨args,kw⟩=pure ()) (hcn:checkBuiltinCall newId ⟨.type T :: args,kw⟩=pure ()) (eN:entryFor table newId=some Bn) (eI:entryFor table initId=some Bi)
  (g:Meets (Bn ⟨.type T :: args,kw⟩) S) (h:S A.in1 (wants Q1 E) s)
  (hnext:∀ obj s1,Q1 obj s1->s1.TypeIs obj T/\argsOk initId ⟨obj :: args,kw⟩/\∃ Si,Meets (Bi ⟨obj :: args,kw⟩) Si/\Si A.in1 (wants (fun r s2=>r=.none/\Q obj s2) E) s1) :
  wpAny (model prog w) A (call (.type T) args kw) Q E s:=by
 obtain ⟨c,tl,hmro⟩:=ft.mro
 have hmade:=ft.made
 have hsub:=ft.sub
 refine wpAny_call (codeAny_of_tree ?_)
 show wpAny _ _ (callAny (.type T) _) _ _ _
 refine wpAny_pure ⟨Code.quiet_builtin _ (by decide +kernel),(codeAny_builtin F.entry_type_call ?_)⟩
 rw [Around.under_plain (weight_type_call_type T args kw) (units_type_call_type T args kw)]
 have h1:=ft.notType
 have h2:=ft.canCreate
 repeat' (any_goals (first | wp_step | assumption))
 refine codeAny_mono (codeAny_call_builtin ft.plain eN (wpAny_of_eq hcn (g prog w A.in1 _ s h))) fun r s1 hr=>?_
 match r,hr with
 | .error e,hr=>exact hr
 | .ok (.ret obj),hr =>
  obtain ⟨hT,hok,Si,gi,hsi⟩:=hnext _ _ hr
  have hli:=ft.init.lookup
  have hbi:=ft.init.bind obj
  repeat' (any_goals (first | wp_step | assumption))
  refine codeAny_mono (codeAny_call_builtin ft.init.plain eI (ft.init.check _ _ _ _ _ _ _ _ hT hok (gi prog w A.in1 _ s1 hsi))) fun r2 s2 hr2=>?_
  match r2,hr2 with
  | .error e,hr2=>exact hr2
  | .ok (.ret r),hr2 =>
   obtain ⟨rfl,hq⟩:=hr2
   repeat' (any_goals (first | wp_step | assumption))
  | .ok .next,hr2=>exact hr2.elim
  | .ok .brk,hr2=>exact hr2.elim
  | .ok .cont,hr2=>exact hr2.elim
 | .ok .next,hr=>exact hr.elim
 | .ok .brk,hr=>exact hr.elim
 | .ok .cont,hr=>exact hr.elim
theorem zg0 {T newId:String} {self:Value} {rest:List Value} {kw:List (Str × Value)} (hl:typeLookup (.type T) "__init__" = pure (some (.builtin "object.__init__")))
  (hm:Bind.madeBy (.type T)=pure (some newId)) (hne:(some newId != some "object.__new__")=true) :
  Meets (Builtin.«object.__init__» ⟨self :: rest,kw⟩) (fun _ R s=>s.TypeIs self T/\R (.ok (.ret .none)) s):=by
 refine .of_wp fun prog w A R s hs=>?_
 obtain ⟨hT,hq⟩:=hs
 cases rest with
 | nil =>
  cases kw with
  | nil=>exact wpAny_pure ⟨_,rfl,hq⟩
  | cons k kw=>(repeat' (any_goals (first | wp_step | assumption)));exact ⟨_,rfl,hq⟩
 | cons a rest=>(repeat' (any_goals (first | wp_step | assumption)));exact ⟨_,rfl,hq⟩
theorem zg1 (a:Value) (t:Tok):checkTypeCall "enumerate" ⟨[a],[("start", .int 1 t)]⟩=pure ():=by kernel_rfl
theorem ziq (a:Value) (t:Tok):checkBuiltinCall "enumerate.__new__" ⟨[.type "enumerate", a],[("start", .int 1 t)]⟩=pure ():=by kernel_rfl
theorem zg2 (o a:Value) (t:Tok):argsOk "object.__init__" ⟨[o,a],[("start", .int 1 t)]⟩:=by unfold argsOk;kernel_rfl
theorem zir {l:Addr} {items:Array Value} {t:Tok} {Q:Value->Shared->Prop} (hL:s.heap.IsList l items)
  (h:∀ h',IsEnum h' (s.heap.objs.size+1) s.heap.objs.size 1 .none->h'.IsListIter s.heap.objs.size l 0->(∀ b o,s.heap.get? b=some o->h'.get? b=some o)->Q (.ref (s.heap.objs.size+1)) { s with heap:=h' }) :
  wpAny (model prog w) A (call (.type "enumerate") [.ref l] [("start", .int 1 t)]) Q E s:=by
 obtain ⟨⟨c,dct,dt,sl⟩,hl,hc,n,hd⟩:=hL
 replace hc:c=.type "list" := hc
 replace hd:dt=.seq items n:=hd
 subst hc hd
 have hz:(s.heap.push { cls:=.type "list_iterator", data:=.fields #[.ref l,.int 0 0] }).objs.size=s.heap.objs.size+1:=Heap.size_push ..
 have he:IsEnum ((s.heap.push { cls:=.type "list_iterator", data:=.fields #[.ref l,.int 0 0] }).push { cls:=.type "enumerate", data:=.fields #[.none,.bool false,.ref s.heap.objs.size,rawInt 1,.none,.none] }) (s.heap.objs.size+1) s.heap.objs.size 1 .none:=by
  rw [← hz];exact Heap.get?_push_size _ rfl
 refine zfj F.called_enumerate (zg1 _ t) (ziq _ t) F.entry_enumerate_new F.entry_object_init (zlu l t items n dct sl) (Q1:=fun obj s1=>s1.TypeIs obj "enumerate" /\ Q obj s1) ⟨hl,?_⟩ fun obj s1 hq =>
  ⟨hq.1,zg2 obj _ t,_,zg0 F.called_enumerate.init.lookup F.called_enumerate.made (by decide),hq.1,rfl,hq.2⟩
 show _/\_
 rw [hz]
 exact ⟨⟨_,he,rfl⟩,h _ he ⟨_,Heap.get?_push_of_some _ (Heap.get?_push_size _ rfl),rfl,rfl⟩ fun b o x=>Heap.get?_push_of_some _ (Heap.get?_push_of_some _ x)⟩
end
section
variable {prog:Program} {w:World} {A:Around} {E:Value->Shared->Prop} {s:Shared}
theorem zjQ {en it l:Addr} {i:Nat} {j:Int} {items:Array Value} {x old:Value} {Q:Option Value->Shared->Prop} (st:IsEnum s.heap en it j old) (li:s.heap.IsListIter it l i) (ls:s.heap.IsList l items)
  (at_:items[i]?=some x) (ne:en ≠ it)
  (k:∀ h',IsEnumOut h' en it (j+1) x s.heap.objs.size->h'.IsListIter it l (i+1)->h'.get? s.heap.objs.size=some { cls:=.type "tuple", data:=.seq #[.int j s.toks,x] }->(∀ b o,b ≠ en->b ≠ it->s.heap.get? b=some o->h'.get? b=some o) ->
   Q (some (.ref s.heap.objs.size)) { s with heap:=h',toks:=s.toks+1 }):wpAny (model prog w) A (pyNext (.ref en)) Q E s:=by
 have ty:s.TypeIs (.ref en) "enumerate" := ⟨_,st,rfl⟩
 have lt:en < s.heap.objs.size:=Heap.lt_size st
 unfold pyNext
 refine wpAny_bind (wpAny_attempt (wpAny_callSpecial?_slot (name:=Str.ofString "__next__") ty F.slot_enumerate_next (wpAny_call_entry F.slot_enumerate_next ty F.entry_enumerate_next ?_ (F.args_enumerate_next_1 _))))
 show wpAny _ _ (field (.ref en) 2 >>= _) _ _ s
 refine wpAny_bind (wpAny_field st rfl (x:=.ref it) rfl ?_)
 refine wpAny_bind (wpAny_nextOf_list_item li ls at_ fun m1 li1 c1=>?_)
 have c1:Heap.SameBut it s.heap m1:=c1
 have st1:IsEnum m1 en it j old:=(c1.2 en ne).trans st
 show wpAny _ _ (field (.ref en) 3 >>= _) _ _ { s with heap:=m1 }
 refine wpAny_bind (wpAny_field st1 rfl (x:=rawInt j) rfl ?_)
 show wpAny _ _ (field (.ref en) 4 >>= _) _ _ { s with heap:=m1 }
 refine wpAny_bind (wpAny_field st1 rfl (x:=.none) rfl ?_)
 show wpAny _ _ (mkInt j >>= _) _ _ { s with heap:=m1 }
 refine wpAny_bind (wpAny_mkInt ?_)
 show wpAny _ _ (setField (.ref en) 3 (rawInt (j+1)) >>= _) _ _ { s with heap:=m1,toks:=s.toks+1 }
 refine wpAny_bind (wpAny_setField_rec st1 (by simp) fun m2 st2 c2=>?_)
 have c2:Heap.SameBut en m1 m2:=c2
 have st2:IsEnum m2 en it (j+1) old:=st2
 show wpAny _ _ (setField (.ref en) 4 .none >>= _) _ _ { s with heap:=m2,toks:=s.toks+1 }
 refine wpAny_bind (wpAny_setField_rec st2 (by simp) fun m3 st3 c3=>?_)
 have c3:Heap.SameBut en m2 m3:=c3
 have st3:IsEnum m3 en it (j+1) old:=st3
 show wpAny _ _ (newTuple [.int j s.toks,x] >>= _) _ _ { s with heap:=m3,toks:=s.toks+1 }
 refine wpAny_bind (wpAny_newTuple ?_)
 have z3:m3.objs.size=s.heap.objs.size:=c3.1.trans (c2.1.trans c1.1)
 have st4:IsEnum (m3.push { cls:=.type "tuple", data:=.seq #[.int j s.toks,x] }) en it (j+1) old:=Heap.get?_push_of_some _ (show IsEnum m3 en it (j+1) old from st3)
 have tp4:(m3.push { cls:=.type "tuple", data:=.seq #[.int j s.toks,x] }).get? s.heap.objs.size=some { cls:=.type "tuple", data:=.seq #[.int j s.toks,x] }:=by rw [← z3];exact Heap.get?_push_size _ rfl
 have kp4:∀ b o,b ≠ en->b ≠ it->s.heap.get? b=some o->(m3.push { cls:=.type "tuple", data:=.seq #[.int j s.toks,x] }).get? b=some o:=fun b o n1 n2 q=>Heap.get?_push_of_some _ ((c3.2 b n1).trans ((c2.2 b n1).trans ((c1.2 b n2).trans q)))
 have li4:(m3.push { cls:=.type "tuple", data:=.seq #[.int j s.toks,x] }).IsListIter it l (i+1):=by
  obtain ⟨o,q,r⟩:=li1
  exact ⟨o,Heap.get?_push_of_some _ ((c3.2 it (Ne.symm ne)).trans ((c2.2 it (Ne.symm ne)).trans q)),r⟩
 generalize m3.push { cls:=.type "tuple", data:=.seq #[.int j s.toks,x] }=m4 at st4 tp4 kp4 li4
 show wpAny _ _ (Builtin.SmallTypes.ownedTupleIsFree (.ref en) >>= _) _ _ { s with heap:=m4,toks:=s.toks+1 }
 rw [z3]
 refine wpAny_bind ?_
 unfold Builtin.SmallTypes.ownedTupleIsFree Builtin.SmallTypes.ownedTupleHandOut
 refine wpAny_bind (wpAny_field st4 rfl (x:=.none) rfl (wpAny_pure ?_))
 simp only [if_true]
 refine wpAny_bind (wpAny_rule (wpAny_bind (wpAny_field st4 rfl (x:=old) rfl (wpAny_bind (wpAny_setField_rec st4 (by simp) fun m5 st5 c5=>?_)))))
 have c5:Heap.SameBut en m4 m5:=c5
 have st5:IsEnum m5 en it (j+1) x:=st5
 refine wpAny_bind (wpAny_bind (wpAny_setField_rec st5 (by simp) fun m6 st6 c6=>?_))
 have c6:Heap.SameBut en m5 m6:=c6
 have st6:IsEnumOut m6 en it (j+1) x s.heap.objs.size:=st6
 refine wpAny_setField_rec st6 (by simp) fun m7 st7 c7=>?_
 have c7:Heap.SameBut en m6 m7:=c7
 have st7:IsEnumOut m7 en it (j+1) x s.heap.objs.size:=st7
 have up:∀ b,b ≠ en->m7.get? b=m4.get? b:=fun b n=>(c7.2 b n).trans ((c6.2 b n).trans (c5.2 b n))
 refine wpAny_bind (wpAny_letGo (wpAny_pure ⟨_,rfl,wpAny_pure (k m7 st7 ?_ ((up _ (Nat.ne_of_gt lt)).trans tp4) fun b o n1 n2 q=>(up b n1).trans (kp4 b o n1 n2 q))⟩))
 obtain ⟨o,q,r⟩:=li4
 exact ⟨o,(up it (Ne.symm ne)).trans q,r⟩
theorem zjR {en it l:Addr} {i:Nat} {j:Int} {items:Array Value} {old:Value} {Q:Option Value->Shared->Prop} (hh:A.handled=none) (st:IsEnum s.heap en it j old) (li:s.heap.IsListIter it l i) (ls:s.heap.IsList l items)
  (at_:items[i]?=none) (k:∀ h',Heap.ExtBut it s.heap h'->Q none { s with heap:=h' }):wpAny (model prog w) A (pyNext (.ref en)) Q E s:=by
 have ty:s.TypeIs (.ref en) "enumerate" := ⟨_,st,rfl⟩
 unfold pyNext
 refine wpAny_bind (wpAny_attempt (wpAny_callSpecial?_slot (name:=Str.ofString "__next__") ty F.slot_enumerate_next (wpAny_call_entry F.slot_enumerate_next ty F.entry_enumerate_next ?_ (F.args_enumerate_next_1 _))))
 show wpAny _ _ (field (.ref en) 2 >>= _) _ _ s
 refine wpAny_bind (wpAny_field st rfl (x:=.ref it) rfl (wpAny_bind (m:=Builtin.SmallTypes.nextOf (.ref it)) (wpAny_nextOf_list_end hh li ls at_ fun h' z c y=>?_)))
 obtain ⟨o,q,t⟩:=y
 exact wpAny_bind (wpAny_isInstance (T := "StopIteration") (b:=true) ⟨o,q,t⟩ isSubtype_stop (wpAny_pure (k _ c)))
end
def Ite1 (K:PySem.W.Frag) (a:Addr):It :=
 ⟨fun i H=>∃ xs x,SqL K H a xs/\xs[i]?=some x,
  fun i H v H'=>∃ p x,H p=none/\v=.ref p/\(∀ xs,SqL K H a xs->xs[i]?=some x)/\H'=upd H p (.tup [.int (1+(i:Int)),x]),
  fun i H=>∃ xs,SqL K H a xs/\xs.length<=i⟩
theorem zis {P:Program} {w:World} {K:PySem.W.Frag} {elts:List Expr} {x1} {tp:Pos} (a e it:Addr) (hne:e ≠ it) :
  Turn P w K (.Tuple elts x1 tp) (Ite1 K a) [e,it] e (fun i h=>(∃ old,IsEnum h e it (1+(i:Int)) old)/\h.IsListIter it a i) where
 mem:=by simp
 obj:=fun i h st b hb=>by
  obtain ⟨⟨old,he⟩,o,ho,c,d⟩:=st
  have hb':b=e ∨ b=it:=by simpa using hb
  rcases hb' with rfl | rfl
  ·exact ⟨_,he,fun v z=>by
    have z':Data.fields _=Data.cell v:=z
    cases z'⟩
  ·exact ⟨o,ho,fun v z=>by rw [d] at z;cases z⟩
 keep:=fun i h h' st k=>by
  obtain ⟨⟨old,he⟩,hi⟩:=st
  exact ⟨⟨old,k e (by simp) _ he⟩,hi.at fun o q=>k it (by simp) o q⟩
 item:=by
  intro X hP hw hK hc i pins s σ H E I hf st hg
  subst hP hw hK
  obtain ⟨⟨old,he⟩,hi⟩:=st
  obtain ⟨xs,x,hq,hx⟩:=hg
  obtain ⟨its,rv,p,hz⟩:=I.list hq
  obtain ⟨u,hu,ru⟩:=rv.get hx
  refine zjQ he hi p.isList (x:=u) (by simpa using hu) hne fun h1 out hi1 ht kk=>?_
  refine ⟨_,rfl,wpAny_letOwnedTupleGo_enum out fun h2 he2 hs2=>?_⟩
  have hel:e < s.heap.objs.size:=Heap.lt_size he
  have hs2':Heap.SameBut e h1 h2:=hs2
  have ht2:h2.get? s.heap.objs.size=some { cls:=.type "tuple", data:=.seq #[.int (1+(i:Int)) s.toks,u] }:=(hs2'.2 _ (Nat.ne_of_gt hel)).trans ht
  have kk2:∀ b o,b ∉ [e,it]->s.heap.get? b=some o->h2.get? b=some o:=fun b o hb q=>by
   have hbe:b ≠ e:=fun z=>hb (by simp [z])
   have hbi:b ≠ it:=fun z=>hb (by simp [z])
   exact (hs2'.2 b hbe).trans (kk b o hbe hbi q)
  have hn:H s.heap.objs.size=none:=I.hok.fresh (Nat.le_refl _)
  have I2:Inv X pins σ (upd H s.heap.objs.size (.tup [.int (1+(i:Int)),x])) { s with heap:=h2,toks:=s.toks+1 } :=
   I.turnedNew (fp:=[e,it]) hf kk2 (Nat.le_refl _) ⟨by show 2<=sizeLine;decide,[.int (1+(i:Int)) s.toks,u],.cons ⟨_,rfl⟩ (.cons ru .nil),⟨_,ht2,rfl,_,rfl⟩⟩
  refine ⟨.ref s.heap.objs.size,_,I2,rfl,⟨_,x,hn,rfl,fun ys hy=>by rw [I.list_inj hy hq];exact hx,rfl⟩,⟨⟨u,?_⟩,?_⟩,fun b hb=>?_⟩
  ·have e2:(1+((i+1:Nat):Int))=1+(i:Int)+1:=by omega
   rw [e2];exact he2
  ·exact hi1.at fun o q=>(hs2'.2 it (Ne.symm hne)).trans q
  ·have hlt:b < s.heap.objs.size:=by
    have hb':b=e ∨ b=it:=by simpa using hb
    rcases hb' with rfl | rfl
    ·exact hel
    ·obtain ⟨o,ho,_⟩:=hi;exact Heap.lt_size ho
   rw [zaJ (Nat.ne_of_lt hlt)]
   exact (hf b hb).1
 done:=by
  intro X hP hw hK hc i pins s σ H E I hf st hg
  subst hP hw hK
  obtain ⟨⟨old,he⟩,hi⟩:=st
  obtain ⟨xs,hq,hx⟩:=hg
  obtain ⟨its,rv,p,hz⟩:=I.list hq
  have hl:=rv.length
  exact zjR (I.ok.hd hc) he hi p.isList (by simp;omega) fun h' eb=>⟨rfl,I.turnedL (t':=s.toks) hf fun b o hb q=>eb b o (fun z=>hb (by simp [z])) q⟩
 self:=fun _ _ _ _ _ st h=>by
  obtain ⟨⟨old,he⟩,_⟩:=st
  exact wpAny_pyIter_enum he h
section
variable {X:Cx}
theorem zlv {a:Expr} {ta:TA} {p pos k1 k2:Pos} {j} {elts:List Expr} {x1} {tp:Pos} (hg:Gl X "enumerate") (hm:X.mg "enumerate" = none) (ha:PA X [a] ta)
  (hs:backTo pos (starEach [a] X.env)=(false,eval a X.env) :: backTo pos (starEach [] X.env):=by rfl) (hpl:(backTo pos (starEach [a] X.env)).any (·.1)=false:=by rfl) :
  PI X (.Tuple elts x1 tp) (.Call (.Name "enumerate" p) [a] [⟨some "start", .Constant (.int 1) j k1,k2⟩] pos) (fun σ H R=>ta σ H fun vs H1=>∃ a xs,vs=[.ref a]/\SqL X.K H1 a xs/\R (Ite1 X.K a) H1):=by
 intro pins s σ H R I h
 refine wpAny_Call_Name_kw (zec I hg hm boot_enumerate (znb hpl rfl ?_))
 rw [hs]
 refine evalArgs_kwB rfl ?_
 rw [← hs]
 refine thn (ha pos pins s σ H _ I h) fun us s1 ⟨vs,H1,I1,r1,q1⟩=>?_
 refine kws_cons (wpAny_Constant_int (kws_nil ?_))
 obtain ⟨l,xs,e,hq,q⟩:=q1
 subst e
 cases r1 with
 | cons r rr =>
  cases rr
  cases (show _=Value.ref l from r)
  have I1':=I1.tok (s1.toks+1)
  obtain ⟨its,rv,pl,hz⟩:=I1'.list hq
  refine zir pl.isList fun h' he hi kk=>?_
  have I2:Inv X pins σ H1 { s1 with heap:=h',toks:=s1.toks+1 }:=I1'.kept (t':=s1.toks+1) kk
  refine wpAny_pyIter_enum he ?_
  refine ⟨s1.heap.objs.size+1,[s1.heap.objs.size+1,s1.heap.objs.size],_,_,H1,rfl,I2,zis l _ _ (Nat.succ_ne_self _),⟨⟨_,he⟩,hi⟩,fun b hb=>?_,q⟩
  have hb':b=s1.heap.objs.size+1 ∨ b=s1.heap.objs.size:=by simpa using hb
  rcases hb' with rfl | rfl
  ·exact I1.fpOk (Nat.le_succ _) (I1.hok.fresh (Nat.le_succ _))
  ·exact I1.fpOk (Nat.le_refl _) (I1.hok.fresh (Nat.le_refl _))
end
end L2
namespace DL
open PySem PySem.Spec L2
open PyProof.Rows hiding St
section
variable {X:Cx} {B G0:Hp} {e a b c tg:Expr} {pos:Pos} {es rest:List Expr}
theorem zg3 {K:PySem.W.Frag} {G1:Hp} {ad:Addr} {vs:List V} {ds:List D} (h:SqL K G1 ad vs) (r:Reps K G1 vs ds):zd2 K (Ite1 K ad) (zcN 1 ds) G1 where
 go:=fun i G H s1 s2 hi=>by
  rw [zbl] at hi
  have hi':i < vs.length:=by rw [r.length];exact hi
  exact ⟨vs,vs[i],(s1.trans s2).seq h,List.getElem?_eq_getElem hi'⟩
 stop:=fun i G H s1 s2 hi=>by
  rw [zbl] at hi
  exact ⟨vs,(s1.trans s2).seq h,by rw [r.length];exact hi⟩
 yld:=fun i G H x H' d s1 s2 e y=>by
  obtain ⟨p,v,hp,rfl,y1,rfl⟩:=y
  have z1:=y1 vs ((s1.trans s2).seq h)
  rw [zen] at e
  cases q:ds[i]? with
  | none=>rw [q] at e;cases e
  | some dd =>
   rw [q] at e
   cases e
   obtain ⟨v',e1,r1⟩:=r.get q
   rw [z1] at e1
   cases e1
   refine ⟨upd G p (.tup [.int (1+(i:Int)),v]),Ext.new s2 hp,.tup (SqT.of zaD) (.cons ?_ (.cons ((r1.mono s1).mono (zaO (s2.free hp))) .nil))⟩
   have:((1+i:Nat):Int)=1+(i:Int):=by omega
   rw [this]
   exact .int _
def zeS:List D->Option (List D)
 | [.list ds]=>some (zcN 1 ds)
 | _=>none
def zhK (f:M (List D)):M (List D):=zav f fun x=>mOpt (zeS x)
theorem zit {x l:List D} (h:zeS x=some l):∃ ds,x=[.list ds]/\l=zcN 1 ds:=by
 unfold zeS at h
 split at h
 ·cases h;exact ⟨_,rfl,rfl⟩
 ·cases h
theorem zlw {f:M (List D)} {p2 k1 k2:Pos} {j} {elts:List Expr} {x1} {tp:Pos} (hg:Gl X "enumerate") (hm:X.mg "enumerate" = none) (ha:PA X [a] (tDs X.K B G0 f))
  (hs:backTo pos (starEach [a] X.env)=(false,eval a X.env) :: backTo pos (starEach [] X.env):=by rfl) (hpl:(backTo pos (starEach [a] X.env)).any (·.1)=false:=by rfl) :
  PI X (.Tuple elts x1 tp) (.Call (.Name "enumerate" p2) [a] [⟨some "start", .Constant (.int 1) j k1,k2⟩] pos) (iD X.K B G0 (zhK f)):=piof (zlv hg hm ha hs hpl) fun σ H R q=>tM.toI (R0:=Reps X.K) q fun v H' G' ρ' x k r a=>by
 cases z:zeS x with
 | none=>rw [z] at a;exact a.elim
 | some l =>
  rw [z] at a
  obtain ⟨ds,rfl,rfl⟩:=zit z
  obtain ⟨v,rfl,q⟩:=r.one_inv
  obtain ⟨l,ws,rfl,h1,r1⟩:=q.lst_inv
  exact ⟨l,ws,rfl,k.gh.seq h1,a _ G' H' k (.refl _) (zg3 h1 r1)⟩
end
section
variable {X:Cx}
def most:List Int->Int
 | []=>0
 | [n]=>n
 | n :: r=>if most r > n then most r else n
theorem zd8:∀ {ns:List Int},0 < ns.length->most ns ∈ ns
 | [n],_=>List.mem_singleton.2 rfl
 | n :: m :: r,_=>by
  have ih:=zd8 (ns:=m :: r) (Nat.succ_pos _)
  unfold most
  split
  ·exact List.mem_cons_of_mem _ ih
  ·exact List.mem_cons_self ..
theorem zfk:∀ {ns:List Int} {a:Int},a ∈ ns->a<=most ns
 | [n],a,h=>by rw [List.mem_singleton.1 h];exact Int.le_refl _
 | n :: m :: r,a,h=>by
  have ih:∀ b,b ∈ m :: r->b<=most (m :: r):=fun b hb=>zfk hb
  unfold most
  rcases List.mem_cons.1 h with e | h
  ·subst e;split <;> omega
  ·have:=ih a h;split <;> omega
theorem znc {ns:List Int} {M:Int} (h1:M ∈ ns) (h2:∀ a,a ∈ ns->a<=M):most ns=M :=
 Int.le_antisymm (h2 _ (zd8 (List.length_pos_of_mem h1))) (zfk h1)
theorem zjS (hc:X.calm=true):zcJ X (.builtin "max") (fun xs H Q=>∃ l,∃ ns:List Int,xs=[.ref l]/\SqL X.K H l (ns.map V.int)/\0 < ns.length/\Q (.int (most ns)) H):=by
 intro pins s σ H xs us Q I rx h
 obtain ⟨l,ns,rfl,hq,hb,q⟩:=h
 obtain ⟨u,rfl,ru⟩:=rx.one
 cases ru
 obtain ⟨its,rv,p,hz⟩:=I.list hq
 have hi:=zbS rv
 obtain ⟨ys,e⟩:=hi.allInts.items
 have hns:ns=ys.toList.map (·.1):=by
  rw [← hi.numsOf,← nums_intItems,← e]
 have hsz:0 < ys.size:=by
  rw [hns,List.length_map,Array.length_toList] at hb;exact hb
 have hl:=p.isList
 rw [e] at hl
 refine max_intList (I.ok.hd hc) hl hsz fun v h' tk hv hk=>?_
 obtain ⟨t,rfl⟩:=intItems_at hv
 obtain ⟨h1,h2⟩:=argBest_gt (numAt ys) (ys.size - 1)
 refine ⟨.int (most ns),H,I.kept hk,⟨t,?_⟩,q⟩
 rw [znc (M:=_) ?_ ?_]
 ·rw [hns,numAt_eq];exact getD_mem (by rw [List.length_map,Array.length_toList];omega)
 ·intro a ha
  rw [hns] at ha
  obtain ⟨j,hj,rfl⟩:=mem_getD ha
  rw [List.length_map,Array.length_toList] at hj
  rw [← numAt_eq];exact h2 j (by omega)
def zgb:List D->Option D
 | [.list ds]=>(match zbH ds with
  | some ns=>if 0 < ns.length then some (.int (most ns)) else none
  | none=>none)
 | _=>none
theorem zjT {xs:List D} {d:D} (h:zgb xs=some d):∃ ds ns,xs=[.list ds]/\zbH ds=some ns/\0 < ns.length/\d=.int (most ns):=by
 unfold zgb at h
 split at h
 ·rename_i ds
  cases z:zbH ds with
  | none=>rw [z] at h;cases h
  | some ns =>
   rw [z] at h
   dsimp only at h
   split at h
   ·rename_i c
    cases h
    exact ⟨ds,ns,rfl,z,c,rfl⟩
   ·cases h
 ·cases h
theorem zjU (hc:X.calm=true):zc5 X (.builtin "max") zgb:=by
 refine ⟨_,zjS hc,fun vs G H ds d Q s r e k=>?_⟩
 obtain ⟨ds,ns,rfl,z,c,rfl⟩:=zjT e
 obtain ⟨v,rfl,q1⟩:=r.one_inv
 obtain ⟨l,ws,rfl,h1,r1⟩:=q1.lst_inv
 have:=zbZ r1 z
 subst this
 exact ⟨l,ns,rfl,s.seq h1,c,k _ G H (.refl s) (.int _)⟩
theorem zfl {ns:List Int} (h:0 < ns.length):zgb [.list (ns.map .int)]=some (.int (most ns)):=by
 unfold zgb
 simp only [zcc,if_pos h]
end
section
variable {X:Cx} {B G0:Hp} {e o:Expr} {es:List Expr}
end
section
variable {prog:Program} {w:World} {A:Around} {R:Result->Shared->Prop} {h0:Heap} {l I S:Addr} {rs:List (Addr × List Value)}
def Kept (h h':Heap):Prop:=∀ b o,h.get? b=some o->h'.get? b=some o
def Ls1 (h:Heap) (a:Addr) (its:List Value) (sl:Array (Option Value)):Prop:=∃ n,h.get? a=some { cls:=.type "list", dict:=none,data:=.seq its.toArray n,slots:=sl }
def Ls (h:Heap) (a:Addr) (its:List Value):Prop:=∃ n sl,h.get? a=some { cls:=.type "list", dict:=none,data:=.seq its.toArray n,slots:=sl }
theorem Ls.kept {h h':Heap} {a:Addr} {its:List Value} (x:Ls h a its) (k:Kept h h'):Ls h' a its:=by
 obtain ⟨n,sl,e⟩:=x;exact ⟨n,sl,k _ _ e⟩
theorem ziu (hh:A.in1.handled=none) (hI:h0.objs.size<=I) (hS:h0.objs.size<=S) (hIS:S ≠ I) (hl:h0.IsList l (rs.map fun p=>Value.ref p.1).toArray) (hr:∀ p ∈ rs,Ls h0 p.1 p.2) :
  ∀ (k i:Nat) (s:Shared) (t:Addr) (acc:List Value) (c:Nat) (sl:Array (Option Value)),rs.length - i=k->i<=rs.length->Kept h0 s.heap->s.heap.IsListIter I l i ->
   s.heap.get? S=some { cls:=.type "list", dict:=none,data:=.seq #[.ref t] c,slots:=#[] }->t ≠ S->t ≠ I->Ls1 s.heap t acc sl->acc.length+((rs.drop i).map (·.2)).flatten.length<=sizeLine ->
   (∀ p h' tk sl',Kept h0 h'->Ls1 h' p (acc ++ ((rs.drop i).map (·.2)).flatten) sl'->(p=t/\i=rs.length/\sl'=sl ∨ h0.objs.size<=p/\sl' = #[])->R (.ok (.ret (.ref p))) { s with heap:=h',toks:=tk }) ->
   codeAny (model prog w) A (.builtin "sum.loop" ⟨[.ref I,.ref S,rawInt 2,rawInt 0],[]⟩) R s:=by
 intro k
 induction k with
 | zero =>
  intro i s t acc c sl hk hi hK hit hSS htS htI ht hz hR
  have hin:i=rs.length:=by omega
  subst hin
  refine codeAny_builtin F.entry_sum_loop ?_
  rw [Around.under_plainId F.plain_sum_loop _]
  show wpAny _ A.in1 (seqItems? (.ref S) >>= _) _ _ s
  refine wpAny_bind (wpAny_seqItems hSS rfl ?_)
  show wpAny _ A.in1 (tryCatch (pyNext (.ref I)) _ >>= _) _ _ s
  have hl':s.heap.IsList l (rs.map fun p=>Value.ref p.1).toArray:=by
   obtain ⟨o,e,r⟩:=hl;exact ⟨o,hK _ _ e,r⟩
  refine wpAny_bind (wpAny_tryCatch (wpAny_pyNext_list_end hh hit hl' (by simp) fun h' ex=>?_))
  refine wpAny_pure (hR t h' s.toks sl (fun b o e=>?_) ?_ (.inl ⟨rfl,rfl,rfl⟩))
  ·exact ex b o (Nat.ne_of_lt (Nat.lt_of_lt_of_le (Heap.lt_size e) hI)) (hK b o e)
  ·obtain ⟨n,e⟩:=ht
   rw [List.drop_length,List.map_nil,List.flatten_nil,List.append_nil]
   exact ⟨n,ex _ _ htI e⟩
 | succ k ih =>
  intro i s t acc c sl hk hi hK hit hSS htS htI ht hz hR
  have hlt:i < rs.length:=by omega
  refine codeAny_builtin F.entry_sum_loop ?_
  rw [Around.under_plainId F.plain_sum_loop _]
  show wpAny _ A.in1 (seqItems? (.ref S) >>= _) _ _ s
  refine wpAny_bind (wpAny_seqItems hSS rfl ?_)
  show wpAny _ A.in1 (tryCatch (pyNext (.ref I)) _ >>= _) _ _ s
  have hl':s.heap.IsList l (rs.map fun p=>Value.ref p.1).toArray:=by
   obtain ⟨o,e,r⟩:=hl;exact ⟨o,hK _ _ e,r⟩
  refine wpAny_bind (wpAny_tryCatch (wpAny_pyNext_list_item (x:=.ref (rs[i]'hlt).1) hit hl' (by simp [hlt]) fun h' hit' sb=>?_))
  show wpAny _ A.in1 ((holding [Value.ref (rs[i]'hlt).1] (binaryOp .Add (.ref t) (.ref (rs[i]'hlt).1))).attempt >>= _) _ _ _
  refine wpAny_bind (wpAny_attempt (wpAny_holding ?_))
  have hm:rs[i]'hlt ∈ rs:=List.getElem_mem hlt
  have hd:rs.drop i=rs[i]'hlt :: rs.drop (i+1):=List.drop_eq_getElem_cons hlt
  have hK':Kept h0 h':=fun b o e=>(sb.2 b (Nat.ne_of_lt (Nat.lt_of_lt_of_le (Heap.lt_size e) hI))).trans (hK b o e)
  obtain ⟨n1,e1⟩:=ht
  have e1':=(sb.2 t htI).trans e1
  obtain ⟨n2,s2,e2⟩:=(hr _ hm).kept hK'
  have hSS':=(sb.2 S hIS).trans hSS
  rw [hd,List.map_cons,List.flatten_cons,List.length_append] at hz
  refine concat_meets ⟨_,e1',rfl⟩ ⟨_,e2,rfl⟩ noFill_list_add seq_list_add PySem.F.slot_list_add PySem.F.entry_list_add (PySem.F.args_list_add_2 _ _) (list_addW t _ acc.toArray _ n1 n2 none none sl s2 (by rw [List.size_toArray,List.size_toArray];omega)) ⟨e1',e2,?_⟩
  have hlS:S < h'.objs.size:=Heap.lt_size hSS'
  have hlI:I < h'.objs.size:=by obtain ⟨o,e,_⟩:=hit';exact Heap.lt_size e
  have ea:acc.toArray ++ (rs[i]'hlt).2.toArray=(acc ++ (rs[i]'hlt).2).toArray:=by simp
  rw [ea]
  have hP:∀ b o,h'.get? b=some o->(h'.push { cls:=Value.type "list", data:=Data.seq (acc ++ (rs[i]'hlt).2).toArray }).get? b=some o:=fun b o e=>Heap.get?_push_of_some _ e
  have hS1:=hP _ _ hSS'
  have hNew:(h'.push { cls:=Value.type "list", data:=Data.seq (acc ++ (rs[i]'hlt).2).toArray }).get? h'.objs.size=some { cls:=Value.type "list", data:=Data.seq (acc ++ (rs[i]'hlt).2).toArray }:=Heap.get?_push_size _ rfl
  show wpAny _ A.in1 (updateSeq S (fun _=>#[.ref h'.objs.size]) >>= _) _ _ _
  refine wpAny_bind (wpAny_updateSeq hS1 rfl ?_)
  have hS2:=Heap.get?_update_self (Obj.mapSeq fun _=>#[Value.ref h'.objs.size]) hS1 rfl
  refine wpAny_bind (wpAny_letGo ?_)
  refine wpAny_bind (wpAny_updateSeq hS2 rfl (wpAny_pure ⟨plainId_quiet F.plain_sum_loop _,?_⟩))
  have oth:∀ b o,b ≠ S->(h'.push { cls:=Value.type "list", data:=Data.seq (acc ++ (rs[i]'hlt).2).toArray }).get? b=some o->(((h'.push { cls:=Value.type "list", data:=Data.seq (acc ++ (rs[i]'hlt).2).toArray }).update S (Obj.mapSeq fun x=>#[Value.ref h'.objs.size])).update S (Obj.mapSeq fun x=>#[Value.ref h'.objs.size])).get? b=some o:=fun b o hb e=>(Heap.get?_update_other _ _ (Ne.symm hb)).trans ((Heap.get?_update_other _ _ (Ne.symm hb)).trans e)
  refine ih (i+1) _ h'.objs.size (acc ++ (rs[i]'hlt).2) _ #[] (by omega) hlt ?_ ?_ (Heap.get?_update_self _ hS2 rfl) (Nat.ne_of_gt hlS) (Nat.ne_of_gt hlI) ?_ (by rw [List.length_append];omega) fun p h'' tk sl' hk'' hp hq=>?_
  ·exact fun b o e=>oth b o (Nat.ne_of_lt (Nat.lt_of_lt_of_le (Heap.lt_size e) hS)) (hP b o (hK' b o e))
  ·obtain ⟨o,e,r⟩:=hit'
   exact ⟨o,oth I o (Ne.symm hIS) (hP I o e),r⟩
  ·exact ⟨_,oth _ _ (Nat.ne_of_gt hlS) hNew⟩
  ·refine hR p h'' tk sl' hk'' ?_ (.inr ?_)
   ·rw [hd,List.map_cons,List.flatten_cons,← List.append_assoc];exact hp
   ·rcases hq with ⟨rfl, -,e⟩ | hq
    ·exact ⟨Nat.le_of_lt (Nat.lt_of_le_of_lt hS hlS),e⟩
    ·exact hq
end
section
variable {prog:Program} {w:World} {A:Around} {E:Value->Shared->Prop} {s:Shared} {l z:Addr} {rs:List (Addr × List Value)}
theorem zjV (a b:Value):argsOk "sum" ⟨[a,b],[]⟩:=by unfold argsOk;kernel_rfl
theorem ziv {Q:Value->Shared->Prop} (hh:A.handled=none) (hl:s.heap.IsList l (rs.map fun p=>Value.ref p.1).toArray) (hr:∀ p ∈ rs,Ls s.heap p.1 p.2) (hz:Ls s.heap z []) (hb:(rs.map (·.2)).flatten.length<=sizeLine)
  (h:∀ p h' tk sl',Kept s.heap h'->Ls1 h' p (rs.map (·.2)).flatten sl'->(p=z/\rs=[] ∨ s.heap.objs.size<=p/\sl' = #[])->Q (.ref p) { s with heap:=h',toks:=tk }) :
  wpAny (model prog w) A (call (.builtin "sum") [.ref l,.ref z]) Q E s:=by
 refine call_function_tree F.kind_sum F.plain_sum F.entry_sum (zjV _ _) ?_
 unfold Builtin.«sum»
 simp only [List.length_cons,List.length_nil]
 rw [if_neg (by decide)]
 refine wpAny_bind (wpAny_of_eq (show Builtin.Builtins.bindParams "sum" ["start"] 0 ⟨[.ref z],[]⟩=pure [some (.ref z)] from rfl) ?_)
 refine wpAny_bind (wpAny_pyIter_list hl ?_)
 refine wpAny_bind (wpAny_pure ?_)
 obtain ⟨n,sl,ez⟩:=id hz
 have ty:∀ h:Heap,h.get? z=some { cls:=.type "list", dict:=none,data:=.seq [].toArray n,slots:=sl }->({ s with heap:=h }:Shared).TypeIs (.ref z) "list" := fun h e=>⟨_,e,rfl⟩
 have ez':(s.heap.push { cls:=.type "list_iterator", data:=.fields #[.ref l,.int 0 0] }).get? z=_:=Heap.get?_push_of_some _ ez
 simp only [List.forIn_cons,List.forIn_nil]
 refine wpAny_bind (wpAny_bind (wpAny_bind (wpAny_isInstance (T := "list") (b:=false) (ty _ ez') F.sub_list_str ?_)))
 simp only [Bool.false_eq_true,if_false]
 refine wpAny_pure (wpAny_bind (wpAny_bind (wpAny_isInstance (T := "list") (b:=false) (ty _ ez') F.sub_list_bytes ?_)))
 simp only [Bool.false_eq_true,if_false]
 refine wpAny_pure (wpAny_bind (wpAny_bind (wpAny_isInstance (T := "list") (b:=false) (ty _ ez') F.sub_list_bytearray ?_)))
 simp only [Bool.false_eq_true,if_false]
 refine wpAny_pure (wpAny_pure ?_)
 refine wpAny_bind (wpAny_newObj_type ?_)
 have hzs:=Heap.lt_size ez
 have s1:(s.heap.push { cls:=.type "list_iterator", data:=.fields #[.ref l,.int 0 0] }).objs.size=s.heap.objs.size+1:=Heap.size_push ..
 have k2:Kept s.heap ((s.heap.push { cls:=.type "list_iterator", data:=.fields #[.ref l,.int 0 0] }).push { cls:=.type "list", data:=.seq #[.ref z] }):=fun b o e=>Heap.get?_push_of_some _ (Heap.get?_push_of_some _ e)
 refine wpAny_pure ⟨plainId_quiet F.plain_sum_loop _,ziu (h0:=s.heap) (l:=l) (I:=s.heap.objs.size) (S:=(s.heap.push { cls:=.type "list_iterator", data:=.fields #[.ref l,.int 0 0] }).objs.size) (rs:=rs) hh (Nat.le_refl _) (by rw [s1];exact Nat.le_succ _) (by rw [s1];exact Nat.succ_ne_self _) hl hr rs.length 0 _ z [] 0 sl rfl (Nat.zero_le _)
  k2 ⟨_,Heap.get?_push_of_some _ (Heap.get?_push_size _ rfl),rfl,rfl⟩ (Heap.get?_push_size _ rfl) (by rw [s1];exact Nat.ne_of_lt (Nat.lt_succ_of_lt hzs)) (Nat.ne_of_lt hzs) ⟨n,k2 _ _ ez⟩ (by simpa using hb) fun p h' tk sl' hk hp hq=>?_⟩
 exact h p h' tk sl' hk (by simpa using hp) (hq.imp (fun e=>⟨e.1,List.eq_nil_of_length_eq_zero e.2.1.symm⟩) id)
end
section
variable {X:Cx} {pins:List (Addr × Obj)} {σ : St} {H:Hp} {s:Shared}
theorem zjW (I:Inv X pins σ H s):∀ {rs:List (Addr × List V)},(∀ p ∈ rs,SqL X.K H p.1 p.2) ->
  ∃ ts:List (Addr × List Value),(ts.map fun p=>Value.ref p.1)=(rs.map fun p=>Value.ref p.1)/\(∀ p ∈ ts,Ls s.heap p.1 p.2)/\Vals (rs.map (·.2)).flatten (ts.map (·.2)).flatten
 | [],_=>⟨[],rfl,(fun _ h=>by cases h),(show Vals [] [] from Paired.nil)⟩
 | p :: rs,h=>by
  obtain ⟨ts,e,hl,hv⟩:=zjW I fun q hq=>h q (List.mem_cons_of_mem _ hq)
  obtain ⟨its,rv,⟨⟨c1,d1,t1,sl⟩,n,e1,ec,ed,et⟩,z⟩:=I.list (h p (List.mem_cons_self ..))
  simp only at ec ed et
  subst ec ed et
  refine ⟨(p.1,its) :: ts,by rw [List.map_cons,List.map_cons,e],fun q hq=>?_,?_⟩
  ·rcases List.mem_cons.1 hq with rfl | hq
   ·exact ⟨n,sl,e1⟩
   ·exact hl q hq
  ·rw [List.map_cons,List.map_cons,List.flatten_cons,List.flatten_cons]
   exact rv.append hv
theorem zgc:∀ {as:List Addr} {us:List Value},Vals (as.map V.ref) us->us=as.map Value.ref
 | [],_,.nil=>rfl
 | a :: as,_,.cons h t=>by
  cases h
  rw [zgc t];rfl
theorem zjX (hc:X.calm=true):zcJ X (.builtin "sum") (fun xs H Q=>∃ l z,∃ rs:List (Addr × List V),xs=[.ref l,.ref z]/\SqL X.K H l (rs.map fun p=>V.ref p.1)/\(∀ p ∈ rs,SqL X.K H p.1 p.2)/\SqL X.K H z []/\(rs.map (·.2)).flatten.length<=sizeLine /\
  (rs=[]->Q (.ref z) H)/\∀ p,H p=none->Q (.ref p) (upd H p (.lst (rs.map (·.2)).flatten))):=by
 intro pins s σ H xs us Q I rx h
 obtain ⟨l,z,rs,rfl,hq,hr,hz,hb,q0,q⟩:=h
 obtain ⟨u,u',rfl,ru,ru'⟩:=zmE rx
 cases ru
 cases ru'
 obtain ⟨its,rv,pl, -⟩:=I.list hq
 obtain ⟨ts,e,hl,hv⟩:=zjW I hr
 have ei:its=ts.map fun p=>Value.ref p.1:=by
  rw [e]
  have:=zgc (as:=rs.map (·.1)) (us:=its) (by rw [List.map_map];exact rv)
  rw [this,List.map_map];rfl
 subst ei
 obtain ⟨zi,rz,⟨⟨c1,d1,t1,sl⟩,n,e1,ec,ed,et⟩, -⟩:=I.list hz
 cases rz
 simp only at ec ed et
 subst ec ed et
 have hlen:=hv.length
 refine ziv (I.ok.hd hc) pl.isList hl ⟨n,sl,e1⟩ (by omega) fun p h' tk sl' hk hp hq=>?_
 rcases hq with ⟨rfl,rfl⟩ | ⟨hp',rfl⟩
 ·have hr0:rs=[]:=by
   cases rs with
   | nil=>rfl
   | cons a b=>cases e
  exact ⟨.ref _,H,I.kept hk,rfl,q0 hr0⟩
 ·obtain ⟨m,ep⟩:=hp
  exact ⟨.ref p,_,I.laid (t':=tk) hk hp' (show zbJ X.prog X.w _ h' _ (.lst _) from ⟨hb,_,m,hv,ep⟩),rfl,q p (I.hok.fresh hp')⟩
def zdm:List D->Option (List (List D))
 | []=>some []
 | .list xs :: r=>(zdm r).map (xs :: ·)
 | _=>none
theorem zes {K:PySem.W.Frag} {G:Hp}:∀ {vs:List V} {ds:List D} {ls:List (List D)},Reps K G vs ds->zdm ds=some ls ->
  ∃ rs:List (Addr × List V),vs=(rs.map fun p=>V.ref p.1)/\(∀ p ∈ rs,SqL K G p.1 p.2)/\Reps K G (rs.map (·.2)).flatten ls.flatten/\rs.length=ls.length
 | _,_,ls,.nil,e=>by cases e;exact ⟨[],rfl,(fun _ h=>by cases h),.nil,rfl⟩
 | _,_,ls,.cons (d:=d) r t,e=>by
  cases d with
  | list xs =>
   unfold zdm at e
   cases z:zdm _ with
   | none=>rw [z] at e;cases e
   | some cs =>
    rw [z] at e
    cases e
    obtain ⟨rs,rfl,h1,h2,h3⟩:=zes t z
    obtain ⟨a,ws,rfl,h,rr⟩:=r.lst_inv
    refine ⟨(a,ws) :: rs,rfl,fun p hp=>?_,?_,congrArg (· + 1) h3⟩
    ·rcases List.mem_cons.1 hp with rfl | hp
     ·exact h
     ·exact h1 p hp
    ·rw [List.map_cons,List.flatten_cons,List.flatten_cons]
     exact rr.append h2
  | _=>cases e
theorem ziw (ls:List (List D)):zdm (ls.map PyData.list)=some ls:=by
 induction ls with
 | nil=>rfl
 | cons b r ih=>rw [List.map_cons,zdm,ih];rfl
def zix:List D->Option D
 | [.list ds,.list []]=>(match zdm ds with
  | some ls=>if ls.flatten.length<=1000000 then some (.list ls.flatten) else none
  | none=>none)
 | _=>none
theorem zjY {xs:List D} {d:D} (h:zix xs=some d):∃ ds ls,xs=[.list ds,.list []]/\zdm ds=some ls/\ls.flatten.length<=1000000/\d=.list ls.flatten:=by
 unfold zix at h
 split at h
 ·rename_i ds
  cases z:zdm ds with
  | none=>rw [z] at h;cases h
  | some ls =>
   rw [z] at h
   dsimp only at h
   split at h
   ·rename_i c
    cases h
    exact ⟨ds,ls,rfl,z,c,rfl⟩
   ·cases h
 ·cases h
theorem zoD (hc:X.calm=true):zc5 X (.builtin "sum") zix:=by
 refine ⟨_,zjX hc,fun vs G H ds d Q s r e k=>?_⟩
 obtain ⟨ds,ls,rfl,z,c,rfl⟩:=zjY e
 obtain ⟨v,v',rfl,q1,q2⟩:=r.two_inv
 obtain ⟨l,ws,rfl,h1,r1⟩:=q1.lst_inv
 obtain ⟨a,ws2,rfl,h2,r2⟩:=q2.lst_inv
 have:=r2.nil_inv
 subst this
 obtain ⟨rs,rfl,g1,g2,g3⟩:=zes r1 z
 refine ⟨l,a,rs,rfl,s.seq h1,fun p hp=>s.seq (g1 p hp),s.seq h2,?_,fun e0=>?_,fun p hp=>?_⟩
 ·rw [g2.length];exact Nat.le_trans c lim
 ·subst e0
  have:ls=[]:=List.eq_nil_of_length_eq_zero g3.symm
  subst this
  exact k _ G H (.refl s) (.lst h2 .nil)
 ·exact k _ _ _ (.new s hp) (.lst (SqL.of zaD) (g2.mono (zaO (s.free hp))))
end
section
variable {X:Cx}
def zcs (ns:List Int):List Int:=ns.mergeSort fun a b=>decide (a<=b)
theorem zbP (ns:List Int):(zcs ns).Perm ns:=List.mergeSort_perm ..
theorem zgd (ns:List Int):(zcs ns).Pairwise (· <= ·):=by
 have:=List.pairwise_mergeSort (le:=fun a b:Int=>decide (a<=b)) (by intro a b c;simp;omega) (by intro a b;simp;omega) ns
 exact this.imp (by simp)
theorem zjZ:∀ {a b:List Int},a.Perm b->a.Pairwise (· <= ·)->b.Pairwise (· <= ·)->a=b
 | [],b,p,_,_=>by rw [List.nil_perm.1 p]
 | x :: a,[],p,_,_=>by have:=p.length_eq;simp at this
 | x :: a,y :: b,p,ha,hb=>by
  have hx:y<=x:=by
   rcases List.mem_cons.1 (p.mem_iff.1 (List.mem_cons_self ..)) with e | e
   ·exact Int.le_of_eq e.symm
   ·exact (List.pairwise_cons.1 hb).1 x e
  have hy:x<=y:=by
   rcases List.mem_cons.1 (p.mem_iff.2 (List.mem_cons_self ..)) with e | e
   ·exact Int.le_of_eq e.symm
   ·exact (List.pairwise_cons.1 ha).1 y e
  have e:=Int.le_antisymm hy hx
  subst e
  rw [zjZ (List.Perm.cons_inv p) (List.pairwise_cons.1 ha).2 (List.pairwise_cons.1 hb).2]
theorem zge:∀ {us:List Value} {ns:List Int},PyProof.Rows.IntsAre us ns->Vals (ns.map V.int) us
 | _,_,.nil=>Paired.nil
 | _,_,.cons n t h=>Paired.cons ⟨t,rfl⟩ (zge h)
theorem ziy:zcJ X (.builtin "sorted") (fun xs H Q=>∃ l,∃ ns:List Int,xs=[.ref l]/\SqL X.K H l (ns.map V.int)/\ns.length < 64/\∀ p,H p=none->Q (.ref p) (upd H p (.lst ((zcs ns).map V.int)))):=by
 intro pins s σ H xs us Q I rx h
 obtain ⟨l,ns,rfl,hq,hb,q⟩:=h
 obtain ⟨u,rfl,ru⟩:=rx.one
 cases ru
 obtain ⟨its,rv,p,hz⟩:=I.list hq
 have hi:=zbS rv
 have hn:its.length=ns.length:=by have:=rv.length;rw [List.length_map] at this;omega
 refine sorted_ints p.isList hi (by omega) fun out ns' a1 a2 a3=>?_
 obtain ⟨e,he⟩:=sortedAll_at s.heap its out
 have en:ns'=zcs ns:=zjZ (a2.trans (zbP ns).symm) a3 (zgd ns)
 subst en
 refine ⟨.ref (s.heap.objs.size+1),_,I.laid (t':=s.toks) (fun b o=>sortedAll_old) (Nat.le_succ _) (show zbJ X.prog X.w _ _ _ (.lst ((zcs ns).map V.int)) from ⟨?_,out.toList,e,zge a1,he⟩),rfl,q _ (I.hok.fresh (Nat.le_succ _))⟩
 rw [List.length_map,(zbP ns).length_eq]
 rw [List.length_map] at hz
 exact hz
def zet:List D->Option D
 | [.list ds]=>(match zbH ds with
  | some ns=>if ns.length < 64 then some (.list ((zcs ns).map .int)) else none
  | none=>none)
 | _=>none
theorem ziz {xs:List D} {d:D} (h:zet xs=some d):∃ ds ns,xs=[.list ds]/\zbH ds=some ns/\ns.length < 64/\d=.list ((zcs ns).map .int):=by
 unfold zet at h
 split at h
 ·rename_i ds
  cases z:zbH ds with
  | none=>rw [z] at h;cases h
  | some ns =>
   rw [z] at h
   dsimp only at h
   split at h
   ·rename_i c
    cases h
    exact ⟨ds,ns,rfl,z,c,rfl⟩
   ·cases h
 ·cases h
theorem zgf {K:PySem.W.Frag} {G:Hp}:∀ ns:List Int,Reps K G (ns.map V.int) (ns.map PyData.int)
 | []=>.nil
 | n :: r=>.cons (.int n) (zgf r)
theorem znd:zc5 X (.builtin "sorted") zet:=by
 refine ⟨_,ziy,fun vs G H ds d Q s r e k=>?_⟩
 obtain ⟨ds,ns,rfl,z,c,rfl⟩:=ziz e
 obtain ⟨v,rfl,q1⟩:=r.one_inv
 obtain ⟨l,ws,rfl,h1,r1⟩:=q1.lst_inv
 have:=zbZ r1 z
 subst this
 exact ⟨l,ns,rfl,s.seq h1,c,fun p hp=>k _ _ _ (.new s hp) (.lst (SqL.of zaD) (zgf _))⟩
theorem zj0 {ns:List Int} (h:ns.length < 64):zet [.list (ns.map .int)]=some (.list ((zcs ns).map .int)):=by
 unfold zet
 simp only [zcc,if_pos h]
end
@[simp] theorem mBind_ok {α β : Type} {f:M α} {k : α -> M β} {ρ ρ':DEnv} {x : α} (h:f ρ = .ok x ρ'):zav f k ρ = k x ρ':=by unfold zav;rw [h]
theorem zgg {s:D->DEnv->Option DEnv} {g:SM} {P:Nat->DEnv->Prop} {R:Out->Prop}:∀ (ds:List D) (n:Nat) (ρ : DEnv),P n ρ ->
  (∀ i d ρ,ds[i]?=some d->P (n+i) ρ -> ∃ ρ1,s d ρ = some ρ1/\((∃ ρ2,(g ρ1=.nx ρ2 ∨ g ρ1=.ct ρ2)/\P (n+i+1) ρ2) ∨ (∃ x,g ρ1=.rt x/\R (.rt x)) ∨ (∃ ρ2,g ρ1=.bk ρ2/\R (.nx ρ2)) ∨ ∃ ρ2 x,g ρ1=.ex ρ2 x/\R (.ex ρ2 x)))->(∀ ρ,P (n+ds.length) ρ -> R (.nx ρ))->R (zf1 s g ds ρ)
 | [],n,ρ,h,_,f=>f ρ h
 | d :: r,n,ρ,h,st,f=>by
  obtain ⟨ρ1,e1,e2⟩:=st 0 d ρ rfl h
  rw [zf1,e1]
  dsimp only
  rcases e2 with ⟨ρ2,e2,h2⟩ | ⟨x,e2,h2⟩ | ⟨ρ2,e2,h2⟩ | ⟨ρ2,x,e2,h2⟩
  ·have goal:=zgg (R:=R) r (n+1) ρ2 h2 (fun i d' ρ3 q p=>by
    have e:n+1+i=n+(i+1):=by omega
    rw [e] at p ⊢
    exact st (i+1) d' ρ3 (by simpa using q) p) (fun ρ3 p=>f ρ3 (by
    have e:n+1+r.length=n+(d :: r).length:=by rw [List.length_cons];omega
    rw [e] at p
    exact p))
   rcases e2 with e2 | e2 <;> (rw [e2];exact goal)
  ·rw [e2];exact h2
  ·rw [e2];exact h2
  ·rw [e2];exact h2
theorem zbC {lo hi:Int} {i:Nat} {d:D} (h:(zbO lo hi)[i]?=some d):d=.int (lo+i)/\(i:Int) < hi - lo:=by
 have hl:i < (zbO lo hi).length:=(List.getElem?_eq_some_iff.mp h).1
 rw [zaX] at hl
 unfold zbO at h
 rw [List.getElem?_map,List.getElem?_eq_getElem (by rw [List.length_range];exact hl),List.getElem_range] at h
 cases h
 exact ⟨rfl,by omega⟩
section
variable {α β : Type} {ρ ρ1 ρ2 ρ3 ρ':DEnv} {f g h:M D}
theorem zae {a : α}:zag a ρ = .ok a ρ:=rfl
theorem zaj:mNil ρ = .ok [] ρ:=rfl
theorem zby {o:Option α} {a : α} (h:o=some a):mOpt o ρ = .ok a ρ:=by subst h;rfl
theorem zay {f:M α} {k : α -> M β} {x : α} {r:Res β} (h:f ρ = .ok x ρ1) (h2:k x ρ1=r):zav f k ρ = r:=by unfold zav;rw [h];exact h2
theorem zaW {f:M α} {k : α -> β} {x : α} (h:f ρ = .ok x ρ1):mMap k f ρ = .ok (k x) ρ1:=by unfold mMap zav;rw [h];rfl
theorem zad {i:Nat} {d:D} (h : ρ[i]?=some (some (.pub d))):dVar i ρ = .ok d ρ:=by unfold dVar;rw [h]
theorem zbE {i:Nat} {ds:List D} (h : ρ[i]?=some (some (.own ds))) (h2 : ρ.set i (some (.pub (.list ds))) = ρ'):dVar i ρ = .ok (.list ds) ρ':=by unfold dVar;rw [h];subst h2;rfl
theorem zam {op:D->D->Option β} {x y:D} {r : β} (h1:f ρ = .ok x ρ1) (h2:g ρ1=.ok y ρ2) (h3:op x y=some r):dBin op f g ρ = .ok r ρ2:=by
 unfold dBin;exact zay h1 (zay h2 (zby h3))
theorem zab {g:M (List D)} {x:D} {xs:List D} (h1:f ρ = .ok x ρ1) (h2:g ρ1=.ok xs ρ2):zaf f g ρ = .ok (x :: xs) ρ2:=by
 unfold zaf;exact zay h1 (zay h2 rfl)
theorem zcS {g:M (List D)} {xs:List D} (h1:g ρ = .ok xs ρ1) (h2:xs.length<=1000000):mTup g ρ = .ok (.tuple xs) ρ1:=by
 unfold mTup;exact zay h1 (by rw [if_pos h2];rfl)
theorem zbt {g:M (List D)} {xs:List D} (h1:g ρ = .ok xs ρ1) (h2:xs.length<=1000000):mLst g ρ = .ok (.list xs) ρ1:=by
 unfold mLst;exact zay h1 (by rw [if_pos h2];rfl)
theorem zcF {g:M (List D)} {xs:List D} (h1:g ρ = .ok xs ρ1) (h2:xs.length<=1000000):(zav g fun xs=>if xs.length<=1000000 then zag xs else fun _=>.bad) ρ = .ok xs ρ1 :=
 zay h1 (by rw [if_pos h2];rfl)
theorem zaV {i:Nat} {d y r:D} (h : ρ[i]?=some (some (.pub d))) (h1:g ρ = .ok y ρ1) (h2:oIx d y=some r):dIxN i g ρ = .ok r ρ1:=by
 unfold dIxN;rw [h];exact zay h1 (zby h2)
theorem zdT {i:Nat} {ds es:List D} {y r:D} (h : ρ[i]?=some (some (.own ds))) (h1:g ρ = .ok y ρ1) (h3 : ρ1[i]?=some (some (.own es))) (h2:oIx (.list es) y=some r):dIxN i g ρ = .ok r ρ1:=by
 unfold dIxN;rw [h];exact zay h1 (by rw [h3];exact zby h2)
theorem zaQ {p:List D->Option D} {g:M (List D)} {xs:List D} {r:D} (h1:g ρ = .ok xs ρ1) (h2:p xs=some r):zbe p g ρ = .ok r ρ1:=by
 unfold zbe;exact zay h1 (zby h2)
theorem zat {n:Nat} {F:List D->Option D} {g:M (List D)} {xs:List D} {r:D} (h1:g ρ = .ok xs ρ1) (h2:xs.length=n) (h3:F xs=some r):dFun n F g ρ = .ok r ρ1:=by
 unfold dFun;exact zay h1 (by rw [if_pos h2];exact zby h3)
theorem zeT {i:Int} (h1:f ρ = .ok (.int i) ρ1):dNeg f ρ = .ok (.int (-i)) ρ1:=by
 unfold dNeg;exact zay h1 rfl
theorem za2 {i:Nat} {d r:D} (h : ρ[i]?=some (some (.pub d))) (h2:oLen [d]=some r):zbh i ρ = .ok r ρ:=by
 unfold zbh;rw [h];exact zby h2
theorem zeu {i:Nat} {ds:List D} (h : ρ[i]?=some (some (.own ds))):zbh i ρ = .ok (.int ds.length) ρ:=by
 unfold zbh;rw [h]
theorem zct {g:M (List D)} {i:Int} {r:List D} (h1:g ρ = .ok [.int i] ρ1) (h2:zik [.int i]=some r):zdD g ρ = .ok r ρ1:=by
 unfold zdD;exact zay h1 (zby h2)
theorem zj1 {g:M (List D)} {i j:Int} {r:List D} (h1:g ρ = .ok [.int i,.int j] ρ1) (h2:zil [.int i,.int j]=some r):zll g ρ = .ok r ρ1:=by
 unfold zll;exact zay h1 (zby h2)
theorem zev {g:M (List D)} {xs r:List D} (h1:g ρ = .ok xs ρ1) (h2:zjt xs=some r):zgU g ρ = .ok r ρ1:=by
 unfold zgU;exact zay h1 (zby h2)
theorem zcT {i:Int} (h1:f ρ = .ok (.int i) ρ1):(zav f fun x=>mOpt (zel x)) ρ = .ok (some i) ρ1:=zay h1 rfl
theorem zb2 {f:M Bool} {t:Bool} (h1:f ρ = .ok t ρ1):mNot f ρ = .ok (!t) ρ1:=zaW h1
theorem zbq {t:Bool} (h1:f ρ = .ok (.bool t) ρ1):zbb f ρ = .ok t ρ1:=by unfold zbb;exact zay h1 rfl
theorem zoE {f g:M Bool} {t u:Bool} (h1:f ρ = .ok t ρ) (h2:t=true->g ρ = .ok u ρ):mAnd f g ρ = .ok (t && u) ρ:=by
 unfold mAnd;refine zay h1 ?_
 cases t with
 | true=>rw [if_pos rfl];exact h2 rfl
 | false=>rfl
theorem zpO {f g:M Bool} {t u:Bool} (h1:f ρ = .ok t ρ) (h2:t=false->g ρ = .ok u ρ):mOr f g ρ = .ok (t || u) ρ:=by
 unfold mOr;refine zay h1 ?_
 cases t with
 | false=>rw [if_neg (by decide)];exact h2 rfl
 | true=>rfl
theorem zb5 {t u:Bool} (h1:f ρ = .ok (.bool t) ρ) (h2:t=true->g ρ = .ok (.bool u) ρ):zd0 f g ρ = .ok (.bool (t && u)) ρ:=by
 unfold zd0;refine zay h1 ?_
 cases t with
 | true=>exact h2 rfl
 | false=>rfl
theorem zmk {t u:Bool} (h1:f ρ = .ok (.bool t) ρ) (h2:t=false->g ρ = .ok (.bool u) ρ):mOrV f g ρ = .ok (.bool (t || u)) ρ:=by
 unfold mOrV;refine zay h1 ?_
 cases t with
 | false=>exact h2 rfl
 | true=>rfl
theorem zne {t:Bool} (h1:f ρ = .ok (.bool t) ρ1):zjn f ρ = .ok (.bool (!t)) ρ1:=by unfold zjn;exact zay h1 rfl
theorem zoF {f:M Bool} {g h:M α} {r:Res α} (h1:f ρ = .ok false ρ1) (h2:h ρ1=r):mIf f g h ρ = r:=by unfold mIf;exact zay h1 (by rw [if_neg (by decide)];exact h2)
theorem zpP {f:M Bool} {g h:M α} {t:Bool} {x y : α} (h1:f ρ = .ok t ρ1) (h2:g ρ1=.ok x ρ1) (h3:h ρ1=.ok y ρ1):mIf f g h ρ = .ok (if t=true then x else y) ρ1:=by
 unfold mIf;refine zay h1 ?_;cases t with
 | true=>rw [if_pos rfl,if_pos rfl];exact h2
 | false=>rw [if_neg (by decide),if_neg (by decide)];exact h3
theorem zfm {p q:D->D->Option Bool} {x y z:D} {t u:Bool} (h1:f ρ = .ok x ρ) (h2:g ρ = .ok y ρ) (h3:p x y=some t) (h4:t=true->h ρ = .ok z ρ) (h5:t=true->q y z=some u):zek p q f g h ρ = .ok (t && u) ρ:=by
 unfold zek
 refine zay h1 (zay h2 (zay (zby h3) ?_))
 cases t with
 | true=>rw [if_pos rfl];exact zay (h4 rfl) (zby (h5 rfl))
 | false=>rfl
theorem zaw {i j:Int}:oAdd (.int i) (.int j)=some (.int (i+j)):=rfl
theorem zbU {x y:List D} (h:x.length+y.length<=1000000):oAdd (.list x) (.list y)=some (.list (x ++ y)):=by unfold oAdd;exact if_pos h
theorem zbd {i j:Int}:oSub (.int i) (.int j)=some (.int (i - j)):=rfl
theorem zcG {i j:Int} (h1 : -18446744073709551616 < i) (h2:i < 18446744073709551616):oMul (.int i) (.int j)=some (.int (i * j)):=by unfold oMul gMul;exact if_pos (.inl ⟨by omega,by omega⟩)
theorem zb9 {i j:Int} (h1 : -18446744073709551616 < j) (h2:j < 18446744073709551616):oMul (.int i) (.int j)=some (.int (i * j)):=by unfold oMul gMul;exact if_pos (.inr ⟨by omega,by omega⟩)
theorem zeU {x:List D} {k:Int} (h : -1000000<=k/\k<=1000000/\x.length * k.toNat<=1000000):oMul (.list x) (.int k)=some (.list (List.replicate k.toNat x).flatten):=by unfold oMul;exact if_pos h
theorem zg4 {i j:Int} (h:0 < j):oMod (.int i) (.int j)=some (.int (i % j)):=by unfold oMod gMod;exact if_pos h
theorem znf {i j:Int} (h:0 < j) (h2:j < 18446744073709551616):oDiv (.int i) (.int j)=some (.int (i / j)):=by unfold oDiv gDiv;exact if_pos ⟨h,h2⟩
theorem zj2 {i j:Int} (h:0<=j/\j<=1000000/\i.natAbs < 2 ^ 64):oPow (.int i) (.int j)=some (.int (i ^ j.toNat)):=by unfold oPow gPow;exact if_pos h
theorem zoG {p:Int->Int->Bool} {i j:Int}:oIB p (.int i) (.int j)=some (p i j):=rfl
theorem zce {i j:Int}:oEq (.int i) (.int j)=some (decide (i=j)):=by
 unfold oEq;rw [if_pos ⟨rfl,rfl,by simp [PyData.depth]⟩];congr 1
theorem zaH {xs:List D}:oLen [.list xs]=some (.int xs.length):=rfl
theorem zfn {xs:List D}:oLen [.tuple xs]=some (.int xs.length):=rfl
theorem zj3 {i j:Int}:zjr [.int i,.int j]=some (.int (if j > i then j else i)):=rfl
theorem zb0 {j:Int} (h1:j<=1000000) (h2 : -1000000<=j):zik [.int j]=some (zbO 0 j):=by unfold zik;exact if_pos ⟨h1,h2⟩
theorem zlx {i j:Int} (h1:j<=1000000) (h2 : -1000000<=j) (h3:i<=1000000) (h4 : -1000000<=i):zil [.int i,.int j]=some (zbO i j):=by unfold zil;exact if_pos ⟨h1,h2,h3,h4⟩
theorem zdn {xs:List D}:zjt [.list xs]=some (zcN 0 xs):=rfl
theorem zaM {i:Nat} {d:D} (h1:f ρ = .ok d ρ1) (h2:i < ρ1.length) (h3 : ρ1.set i (some (.pub d)) = ρ'):sSet i f ρ = .nx ρ':=by
 unfold sSet sAsg sB gN;rw [h1];dsimp only;rw [if_pos h2];subst h3;rfl
theorem zbV {i:Nat} {f:M (List D)} {ds:List D} (h1:f ρ = .ok ds ρ1) (h2:i < ρ1.length) (h3 : ρ1.set i (some (.own ds)) = ρ'):zb4 i f ρ = .nx ρ':=by
 unfold zb4 sB;rw [h1];dsimp only;rw [if_pos h2];subst h3;rfl
theorem zdU {i:Nat} {d:D} {ds0 ds:List D} (h0 : ρ[i]?=some (some (.own ds0))) (h1:f ρ = .ok d ρ1) (h2 : ρ1[i]?=some (some (.own ds))) (h3:ds.length < 1000000) (h4 : ρ1.set i (some (.own (ds ++ [d]))) = ρ'):sApp i f ρ = .nx ρ':=by
 unfold sApp sB;rw [h0];dsimp only;rw [h1];dsimp only;rw [h2];dsimp only;rw [if_pos h3];subst h4;rfl
theorem zdo {d:D} {s:D->DEnv->Option DEnv} (h1:f ρ = .ok d ρ1) (h2:s d ρ1=some ρ'):sAsg f s ρ = .nx ρ':=by
 unfold sAsg sB;rw [h1];dsimp only;rw [h2]
theorem zcU {d:D} (h1:f ρ = .ok d ρ1):zeI f ρ = .nx ρ1:=by unfold zeI sB;rw [h1]
theorem tg_N {i:Nat} {d:D} (h:i < ρ.length) (h2 : ρ.set i (some (.pub d)) = ρ'):gN i d ρ = some ρ':=by unfold gN;rw [if_pos h,h2]
theorem tg_0:gN0 [] ρ = some ρ:=rfl
theorem tg_C {s:D->DEnv->Option DEnv} {t:List D->DEnv->Option DEnv} {d:D} {r:List D} (h1:s d ρ = some ρ1) (h2:t r ρ1=some ρ'):gNC s t (d :: r) ρ = some ρ':=by unfold gNC;dsimp only;rw [h1];exact h2
theorem tg_T {n:Nat} {t:List D->DEnv->Option DEnv} {ds:List D} (h1:ds.length=n) (h2:t ds ρ = some ρ'):gT n t (.tuple ds) ρ = some ρ':=by unfold gT;dsimp only;rw [if_pos h1];exact h2
structure Ho (g:SM) (ρ : DEnv) (Q:Out->Prop):Prop where
 out:Q (g ρ)
def zpQ (h:SM) (Q:Out->Prop):Out->Prop
 | .nx ρ'=>Ho h ρ' Q
 | o=>Q o
structure zng (h:SM) (Q:Out->Prop) (o:Out):Prop where
 out:zpQ h Q o
variable {Q:Out->Prop} {s t u:SM}
theorem zaN (h:Ho s ρ (zng t Q)):Ho (sSeq s t) ρ Q:=by
 have h:=h.out.out
 constructor
 unfold sSeq
 cases e:s ρ with
 | nx o=>rw [e] at h;exact h.out
 | _=>rw [e] at h;exact h
theorem zaq (h1:s ρ = .nx ρ1) (h2:Ho t ρ1 Q):Ho (sSeq s t) ρ Q:=by
 constructor;unfold sSeq;rw [h1];exact h2.out
theorem zbr {o:Out} (h1:s ρ = o) (h2:Q o):Ho s ρ Q:=by constructor;rw [h1];exact h2
theorem zbs (h:Q (.nx ρ)):Ho sNx ρ Q:=⟨h⟩
theorem zau {o:DEnv} (h:Ho t o Q):zng t Q (.nx o):=⟨h⟩
theorem za3 {d:D} (h:Q (.rt d)):zng t Q (.rt d):=⟨h⟩
theorem za7 {f:M Bool} {b:Bool} (h1:f ρ = .ok b ρ1) (h2:b=true->Ho s ρ1 Q) (h3:b=false->Ho t ρ1 Q):Ho (sIf f s t) ρ Q:=by
 constructor;unfold sIf sB;rw [h1];dsimp only
 cases b with
 | true=>rw [if_pos rfl];exact (h2 rfl).out
 | false=>rw [if_neg (by decide)];exact (h3 rfl).out
theorem zax {d:D} (h1:f ρ = .ok d ρ1) (h2:Q (.rt d)):Ho (sRet f) ρ Q:=by constructor;unfold sRet sB;rw [h1];exact h2
theorem zj4 {P:Out->Prop} (h:Ho s ρ P) (k:∀ o,P o->Q o):Ho s ρ Q:=⟨k _ h.out⟩
def zpR (I:DEnv->Prop) (Q:Out->Prop):Out->Prop
 | .nx ρ | .ct ρ=>I ρ
 | .bk ρ=>Q (.nx ρ)
 | .rt d=>Q (.rt d)
 | .ex ρ d=>Q (.ex ρ d)
 | .bad=>False
structure ziA (I:DEnv->Prop) (Q:Out->Prop) (o:Out):Prop where
 out:zpR I Q o
theorem zbc {I:DEnv->Prop} (h:I ρ):ziA I Q (.nx ρ):=⟨h⟩
theorem zfo {I:DEnv->Prop} {d:D} (h:Q (.rt d)):ziA I Q (.rt d):=⟨h⟩
theorem zbW {f:M (List D)} {tg:D->DEnv->Option DEnv} {ds:List D} (I:Nat->DEnv->Prop) (h1:f ρ = .ok ds ρ1) (h0:I 0 ρ1)
  (hst:∀ i d ρ,ds[i]?=some d->I i ρ -> ∃ ρ2,tg d ρ = some ρ2/\Ho s ρ2 (ziA (I (i+1)) Q)) (hend:∀ ρ,I ds.length ρ -> Q (.nx ρ)):Ho (sFor f tg s) ρ Q:=by
 constructor;unfold sFor sB;rw [h1];dsimp only
 refine zgg (P:=I) (R:=Q) ds 0 ρ1 h0 (fun i d ρ e p=>?_) (fun ρ p=>hend ρ (by rw [Nat.zero_add] at p;exact p))
 rw [Nat.zero_add] at p
 obtain ⟨ρ2,e2,q⟩:=hst i d ρ e p
 refine ⟨ρ2,e2,?_⟩
 rw [Nat.zero_add]
 have q:=q.out.out
 cases z:s ρ2 with
 | nx o=>rw [z] at q;exact .inl ⟨o,.inl rfl,q⟩
 | ct o=>rw [z] at q;exact .inl ⟨o,.inr rfl,q⟩
 | rt o=>rw [z] at q;exact .inr (.inl ⟨o,rfl,q⟩)
 | bk o=>rw [z] at q;exact .inr (.inr (.inl ⟨o,rfl,q⟩))
 | ex o x=>rw [z] at q;exact .inr (.inr (.inr ⟨o,x,rfl,q⟩))
 | bad=>rw [z] at q;exact q.elim
theorem zeV {N:List Str} {ds:List D} {P:D->Prop} (h0:zcO N ds = ρ) (h:Ho s ρ fun o=>∃ d,o=.rt d/\P d):∃ d,runD N s ds=some d/\P d:=by
 subst h0
 obtain ⟨d,e,p⟩:=h.out
 refine ⟨d,?_,p⟩
 unfold runD;rw [e]
theorem za8 {N:List Str} {ds:List D} {d:D} (h0:zcO N ds = ρ) (h:Ho s ρ fun o=>o=.rt d):runD N s ds=some d:=by
 obtain ⟨d',e,p⟩:=zeV (P:=fun x=>x=d) h0 (zj4 h fun o e=>⟨d,e,rfl⟩)
 rw [e,p]
end
section
variable {α β : Type} {ρ ρ1 ρ2 ρ3 ρ':DEnv} {f g h:M D}
theorem zhL {l u:M (Option Int)} {x r:D} {a b:Option Int} (h1:f ρ = .ok x ρ1) (h2:l ρ1=.ok a ρ2) (h3:u ρ2=.ok b ρ3) (h4:oSlA x a b=some r):dSlA f l u ρ = .ok r ρ3:=by
 unfold dSlA;exact zay h1 (zay h2 (zay h3 (zby h4)))
theorem zdV {f g:M Bool} (h1:f ρ = .ok true ρ1):mOr f g ρ = .ok true ρ1:=by unfold mOr;exact zay h1 rfl
theorem zck {f g:M Bool} {u:Bool} (h1:f ρ = .ok false ρ1) (h2:g ρ1=.ok u ρ2):mOr f g ρ = .ok u ρ2:=by unfold mOr;exact zay h1 (by rw [if_neg (by decide)];exact h2)
theorem zj5 {f g:M Bool} (h1:f ρ = .ok false ρ1):mAnd f g ρ = .ok false ρ1:=by unfold mAnd;exact zay h1 rfl
theorem zj6 {f g:M Bool} {u:Bool} (h1:f ρ = .ok true ρ1) (h2:g ρ1=.ok u ρ2):mAnd f g ρ = .ok u ρ2:=by unfold mAnd;exact zay h1 (by rw [if_pos rfl];exact h2)
theorem zbg {c:String} {d:D} {t:Bool} (h:f ρ = .ok d ρ1) (ht:(!isTy d c)=t):mNot (zbb (mMap (fun d=>.bool (isTy d c)) f)) ρ = .ok t ρ1:=by
 subst ht;exact zb2 (zbq (zaW (k:=fun d=>PyData.bool (isTy d c)) h))
theorem zaT {x:D} {r:List D} (h1:f ρ = .ok x ρ1) (h2:zgX x=some r):zaS f ρ = .ok r ρ1:=by
 unfold zaS;exact zay h1 (zby h2)
theorem zbj {p:D->D->Option β} {i:Nat} {d y:D} {r : β} (h : ρ[i]?=some (some (.pub d))) (h1:g ρ = .ok y ρ1) (h2:p d y=some r):zbQ p i g ρ = .ok r ρ1:=by
 unfold zbQ;rw [h];exact zay h1 (zby h2)
theorem zhM {p:D->D->Option β} {i:Nat} {ds es:List D} {y:D} {r : β} (h : ρ[i]?=some (some (.own ds))) (h1:g ρ = .ok y ρ1) (h3 : ρ1[i]?=some (some (.own es))) (h2:p (.list es) y=some r):zbQ p i g ρ = .ok r ρ1:=by
 unfold zbQ;rw [h];exact zay h1 (by rw [h3];exact zby h2)
theorem zbF {f:M (List D)} {k:Nat} {s:D->DEnv->Option DEnv} {t:M Bool} {ds es:List D} (h1:f ρ = .ok ds ρ1) (h2:zbw s t g ds (zaL ρ1 ++ List.replicate k none) []=some es):zcr f k s t g ρ = .ok es ρ1:=by
 unfold zcr;rw [h1];dsimp only;rw [h2]
theorem zcf {s:D->DEnv->Option DEnv} {t:M Bool} (p:D->Bool) (q:D->D) (I:DEnv->Prop):∀ (ds:List D) (ρ : DEnv) (es:List D),(∀ d ∈ ds,∀ ρ,I ρ -> ∃ ρ1,s d ρ = some ρ1/\t ρ1=.ok (p d) ρ1/\(p d=true->g ρ1=.ok (q d) ρ1)/\I (zaL ρ1))->I ρ -> es.length+ds.length<=1000000 ->
  zbw s t g ds ρ es=some (es ++ (ds.filter p).map q)
 | [],ρ,es,_,_,_=>by rw [zbw];simp
 | d :: r,ρ,es,st,h0,hz=>by
  obtain ⟨ρ1,e1,e2,e3,h1⟩:=st d List.mem_cons_self ρ h0
  have ih:=fun es' hz'=>zcf p q I r (zaL ρ1) es' (fun d' hd=>st d' (List.mem_cons_of_mem _ hd)) h1 hz'
  rw [List.length_cons] at hz
  rw [zbw,e1]
  dsimp only
  rw [e2]
  dsimp only
  cases hp:p d with
  | true =>
   rw [if_pos rfl,e3 hp]
   dsimp only
   rw [if_pos (by omega),ih _ (by rw [List.length_append,List.length_singleton];omega),List.filter_cons_of_pos hp,List.map_cons,List.append_assoc]
   rfl
  | false =>
   rw [if_neg (by decide),ih _ (by omega),List.filter_cons_of_neg (by rw [hp];decide)]
theorem zg5 {j:Nat} {d:D} {k:Int} {ds0 ds:List D} (h1:f ρ = .ok d ρ1) (h0 : ρ1[j]?=some (some (.own ds0))) (h2:g ρ1=.ok (.int k) ρ2) (h3 : ρ2[j]?=some (some (.own ds))) (h4:0<=k/\k < ds.length) (h5 : ρ2.set j (some (.own (ds.set k.toNat d))) = ρ'):zjI j g f ρ = .nx ρ':=by
 unfold zjI sB;rw [h1];dsimp only;rw [h0];dsimp only;rw [h2];dsimp only;rw [h3];dsimp only;rw [if_pos h4];subst h5;rfl
theorem zd9 {xs:List D} {a b:Option Int}:oSlA (.list xs) a b=some (.list (DL.cutD xs a b)):=rfl
theorem zbz {xs:List D}:zgX (.list xs)=some xs:=rfl
theorem zg6 (bs:List Bool):zcR (bs.map PyData.bool)=some bs:=by
 induction bs with
 | nil=>rfl
 | cons b r ih=>rw [List.map_cons,zcR,ih];rfl
theorem zg7 {bs:List Bool}:oAll [.list (bs.map PyData.bool)]=some (.bool (bs.all id)):=by unfold oAll;dsimp only;rw [zg6];rfl
end
section
variable {α β : Type} {ρ ρ1 ρ2 ρ3 ρ4 ρ':DEnv} {f g h:M D} {s:SM}
theorem zoH {l u t:M (Option Int)} {xs:List D} (h1:f ρ = .ok (.list xs) ρ1) (h2:l ρ1=.ok none ρ2) (h3:u ρ2=.ok none ρ3) (h4:t ρ3=.ok (some (-1)) ρ4):dRev f l u t ρ = .ok (.list xs.reverse) ρ4:=by
 unfold dRev;exact zay h1 (zay h2 (zay h3 (zay h4 (zby (by unfold oRev;exact if_pos rfl)))))
theorem zly {i:Nat} {d:D} {ds:List D} (h : ρ[i]?=some (some (.pub d))) (h2:zd3 [d]=some ds):zeQ i ρ = .ok ds ρ:=by unfold zeQ;rw [h];exact zby h2
theorem zgh {N:List Str} {ds:List D} (h0:zcO N ds = ρ) (h:Ho s ρ fun o=>∃ ρ',o=.nx ρ'):runD N s ds=some .none:=by
 subst h0
 obtain ⟨ρ',e⟩:=h.out
 unfold runD;rw [e]
theorem zda {i j:Int}:oNe (.int i) (.int j)=some (!decide (i=j)):=by
 unfold oNe;rw [if_pos ⟨rfl,rfl,by simp [PyData.depth]⟩];congr 1
theorem zfp {xs:List Int} {a b:Int} (ha:0<=a) (hb:0<=b) (hl:b<=xs.length):DL.cutD (xs.map PyData.int) (some a) (some b)=((xs.drop a.toNat).take (b.toNat - a.toNat)).map PyData.int:=by
 unfold DL.cutD HT.sIx
 dsimp only
 rw [if_neg (by omega),if_neg (by omega),List.length_map,List.map_take,List.map_drop]
 have e2:min b.toNat xs.length=b.toNat:=by omega
 rw [e2]
 by_cases hab:a.toNat<=xs.length
 ·have e1:min a.toNat xs.length=a.toNat:=by omega
  rw [e1]
 ·have e3:b.toNat - a.toNat=0:=by omega
  have e4:b.toNat - min a.toNat xs.length=0:=by omega
  rw [e3,e4,List.take_zero,List.take_zero]
end
section
variable {ρ ρ1:DEnv}
theorem zhN {g:M (List D)} {xs r:List D} (h1:g ρ = .ok xs ρ1) (h2:zeS xs=some r):zhK g ρ = .ok r ρ1:=by
 unfold zhK;exact zay h1 (zby h2)
theorem zgi {xs:List D}:zeS [.list xs]=some (zcN 1 xs):=rfl
end
section
variable {X:Cx} {B G0:Hp} {KX:XW} {e o a b c tg i:Expr} {pos p2:Pos} {es rest:List Expr}
def zc8 (f:M Bool) (g:SM):Nat->SM
 | 0,_=>.bad
 | n+1,ρ=>match f ρ with
  | .bad=>.bad
  | .ok t ρ1=>if t=true then (match g ρ1 with
   | .nx ρ2=>zc8 f g n ρ2
   | .ct ρ2=>zc8 f g n ρ2
   | .bk ρ2=>.nx ρ2
   | .rt d=>.rt d
   | .ex ρ2 d=>.ex ρ2 d
   | .bad=>.bad) else .nx ρ1
theorem zlz {body:List Stmt} {f:M Bool} {g:SM} (n:Nat) (hp:PassesOwn (model X.prog X.w) X.A X.env X.xe) (hc:PT X c (tBo X.K B G0 f)) (hb:PSs X body (tS X.K B G0 KX g)):PS X (.While c body [] pos) (tS X.K B G0 KX (zc8 f g n)) :=
 psof (zk6 hp hc hb) fun Dn σ H ⟨G,ρ,k,a⟩=>by
  refine ⟨fun m σ' H'=>∃ G' ρ',EOk X.K B G0 G' H' σ' ρ'/\aftS X.K B G0 KX (zc8 f g m ρ') G' Dn,⟨n,G,ρ,k,a⟩,?_⟩
  rintro m σ' H' ⟨G',ρ',k',a'⟩
  cases m with
  | zero=>exact a'.elim
  | succ m =>
   rw [zc8] at a'
   refine ⟨G',ρ',k',?_⟩
   cases z:f ρ' with
   | bad=>rw [z] at a';exact a'.elim
   | ok t ρ1 =>
    rw [z] at a'
    dsimp only at a'
    intro v G1 H1 k1 s1 e1
    subst e1
    cases v with
    | false =>
     rw [if_neg Bool.false_ne_true] at a' ⊢
     exact a' _ G1 H1 k1 s1
    | true =>
     rw [if_pos rfl] at a' ⊢
     refine ⟨fun σ2 H2=>∃ G2 ρ2,EOk X.K B G0 G2 H2 σ2 ρ2/\aftS X.K B G0 KX (zc8 f g m ρ2) G2 Dn,fun σ2 H2 h2=>⟨m,Nat.lt_succ_self m,h2⟩,G1,ρ1,k1,?_⟩
     cases z2:g ρ1 with
     | nx ρ2=>rw [z2] at a';exact fun σ4 G4 H4 k4 s4=>⟨G4,ρ2,k4,aftS.mono (s1.trans s4) a'⟩
     | ct ρ2=>rw [z2] at a';exact fun σ4 G4 H4 k4 s4=>⟨G4,ρ2,k4,aftS.mono (s1.trans s4) a'⟩
     | bk ρ2=>rw [z2] at a';exact fun σ4 G4 H4 k4 s4=>a' σ4 G4 H4 k4 (s1.trans s4)
     | rt d=>rw [z2] at a';exact a'
     | ex ρ2 d=>rw [z2] at a';exact fun v σ4 G4 H4 k4 s4 r4=>a' v σ4 G4 H4 k4 (s1.trans s4) r4
     | bad=>rw [z2] at a';exact a'.elim
def sAug (op:Int->Int->Option D) (j:Nat) (f:M D):SM:=fun ρ=>match ρ[j]? with
 | some (some (.pub (.int a)))=>sB f (fun y ρ1=>match y with
  | .int b=>(match op a b with
   | some d=>if j < ρ1.length then .nx (ρ1.set j (some (.pub d))) else .bad
   | none=>.bad)
  | _=>.bad) ρ
 | _=>.bad
def IpD (X:Cx) (op:Operator) (p:Int->Int->Option D):Prop:=∃ ti,PIp X op ti/\∀ i j d,p i j=some d->∃ v:V,(∀ G,Rep X.K G v d)/\∀ H (Q:VK),Q v H->ti (.int i) (.int j) H Q
theorem znh:IpD X .Mult gMul:=⟨_,zmD,fun i j d e=>by
 unfold gMul at e
 split at e
 ·rename_i h
  cases e
  exact ⟨_,fun _=>.int _,fun H Q q=>⟨i,j,rfl,rfl,h,q⟩⟩
 ·cases e⟩
theorem zoI {j:Nat} {x:Str} {op:Operator} {p:Int->Int->Option D} {f:M D} {pos':Pos} (hN:X.N.Nodup) (hi:X.N[j]?=some x) (hx:Loc X.env.scope x) (ho:IpD X op p) (he:PE X e (tD X.K B G0 f)) (hf:X.fn x=true ∨ X.env.scope.names.lookup x=some .local:=by first | exact .inl rfl | exact .inr rfl | assumption) :
  PS X (.AugAssign (.Name x pos') op e pos) (tS X.K B G0 KX (sAug p j f)):=by
 obtain ⟨ti,hti,hp⟩:=ho
 refine psof (znY hN hi hx he hti hf) fun Dn σ H ⟨G,ρ,k,a⟩=>?_
 unfold sAug at a
 cases q : ρ[j]? with
 | none=>rw [q] at a;exact a.elim
 | some o0 =>
  cases o0 with
  | none=>rw [q] at a;exact a.elim
  | some sl =>
   cases sl with
   | own ds=>rw [q] at a;exact a.elim
   | pub d0 =>
    rw [q] at a
    cases d0 with
    | int i0 =>
     dsimp only at a
     obtain ⟨v,h1,h2⟩:=k.pub j _ q
     cases h2.int_inv
     refine ⟨.int i0,h1,G,ρ,k,?_⟩
     unfold sB at a
     cases z:f ρ with
     | bad=>rw [z] at a;exact a.elim
     | ok y ρ1 =>
      rw [z] at a
      dsimp only at a
      intro u G1 H1 k1 s1 r1
      cases y with
      | int i1 =>
       cases r1.int_inv
       dsimp only at a
       cases w:p i0 i1 with
       | none=>rw [w] at a;exact a.elim
       | some d =>
        rw [w] at a
        dsimp only at a
        split at a
        ·rename_i hl
         obtain ⟨v',rv,hq⟩:=hp i0 i1 d w
         exact hq H1 _ (a _ G1 H1 (k1.setPub (rv G1) hl) s1)
        ·exact a.elim
      | _=>exact a.elim
    | _=>exact a.elim
def zgj (ρ : DEnv) (j:Nat):Option (List D):=match ρ[j]? with
 | some (some (.own ds))=>some ds
 | _=>none
theorem zew {ρ : DEnv} {j:Nat} {ds:List D} (h:zgj ρ j=some ds) : ρ[j]?=some (some (.own ds)):=by
 unfold zgj at h
 split at h
 ·rename_i es e;cases h;exact e
 ·cases h
theorem zhO {ρ : DEnv} {j:Nat} {ds:List D} (h : ρ[j]?=some (some (.own ds))):zgj ρ j=some ds:=by unfold zgj;rw [h]
def sExt (j:Nat) (f:M (List D)):SM:=fun ρ=>match zgj ρ j with
 | none=>.bad
 | some _=>sB f (fun es ρ1=>match zgj ρ1 j with
  | some ds=>if ds.length+es.length<=1000000 then .nx (ρ1.set j (some (.own (ds ++ es)))) else .bad
  | none=>.bad) ρ
theorem zoJ {j:Nat} {f:M (List D)} {apos cpos:Pos} (ho:PE X o (tVar j)) (he:PE X e (tL X.K B G0 f))
  (hbase:attributeBase o "extend" X.env (eval o X.env)=eval o X.env:=by rfl)
  (hfew:((backTo cpos (starEach [e] X.env)).all (fun x=>!x.1) && (backToKw cpos (keywordEach [] X.env)).all (fun x=>x.1.isSome)
   && decide ([e].length+([]:List Keyword).length+(if ([]:List Keyword).isEmpty then 0 else 1) < 30))=true:=by rfl)
  (hline:(apos.endLine == cpos.line)=true:=by rfl) (hs:starEach [e] X.env=[(false,eval e X.env)]:=by rfl)
  (hsw:swapsWith (.Call (.Attribute o "extend" apos) [e] [] cpos) none pos.line X.env=pure false:=by rfl) :
  PS X (.Expr (.Call (.Attribute o "extend" apos) [e] [] cpos) pos) (tS X.K B G0 KX (sExt j f)) :=
 psof (zgN (zmM PySem.F.plainAttrs_list PySem.F.slot_list_extend PySem.F.type_list_extend zjd ho (zbX he zdd (by rw [hs];rfl)) hbase hfew hline (by rw [hs];rfl) rfl) hsw) fun D σ H ⟨G,ρ,k,a⟩=>by
  unfold sExt at a
  cases q0:zgj ρ j with
  | none=>rw [q0] at a;exact a.elim
  | some ds0 =>
  rw [q0] at a
  dsimp only at a
  obtain ⟨ad,vs0,h1,h2,h3,h4,h5⟩:=k.own j ds0 (zew q0)
  refine ⟨.ref ad,h1,.inl ⟨rfl,_,SqL.of h4⟩,G,ρ,k,?_⟩
  unfold sB at a
  cases z:f ρ with
  | bad=>rw [z] at a;exact a.elim
  | ok es ρ1 =>
  rw [z] at a
  dsimp only at a
  intro b zs G1 H1 k1 s1 n1
  cases q1:zgj ρ1 j with
  | none=>rw [q1] at a;exact a.elim
  | some ds =>
  rw [q1] at a
  dsimp only at a
  split at a
  ·rename_i hl
   obtain ⟨ad1,vs,g1,g2,g3,g4,g5⟩:=k1.own j ds (zew q1)
   rw [h1] at g1
   cases g1
   refine ⟨ad,b,vs,zs,rfl,rfl,g4,n1.h,by rw [g5.length,n1.r.length];exact Nat.le_trans hl lim,?_⟩
   exact a σ G1 _ (k1.change (zew q1) h1 (g5.append n1.r)) s1
  ·exact a.elim
end
section
variable {X:Cx} {B G0:Hp} {KX:XW}
end
section
variable {X:Cx} {B G0:Hp} {e o a b c tg i:Expr} {pos p2:Pos} {es rest:List Expr}
theorem zj7:MtR X "list.index" (fun v vs H Q=>∃ l k,∃ ns:List Int,v=.ref l/\vs=[.int k]/\SqL X.K H l (ns.map V.int)/\PyData.layable0 (.list (ns.map .int))=true/\k ∈ ns/\Q (.int (ns.idxOf k:Nat)) H):=by
 intro pins s σ H x vs v us Q I rx rv h
 obtain ⟨l,k,ns,rfl,rfl,hq,hl,hk,q⟩:=h
 cases rx
 obtain ⟨u,rfl,ru⟩:=rv.one
 obtain ⟨t,rfl⟩:=ru
 obtain ⟨its,rv,p,hz⟩:=I.list hq
 exact index_list_ints p.isList (zbS rv) hl hk ⟨.int _,H,I.tok _,⟨_,rfl⟩,q⟩
def zdH (y:D) (xs:List D):Option D:=match y,xs with
 | .list ds,[.int k]=>(match zbH ds with
  | some ns=>if PyData.layable0 (.list (ns.map .int))=true/\k ∈ ns then some (.int (ns.idxOf k:Nat)) else none
  | none=>none)
 | _,_=>none
theorem zg8 {ds xs:List D} {d:D} (h:zdH (.list ds) xs=some d):∃ k ns,xs=[.int k]/\zbH ds=some ns/\PyData.layable0 (.list (ns.map .int))=true/\k ∈ ns/\d=.int (ns.idxOf k:Nat):=by
 unfold zdH at h
 split at h
 ·rename_i ds' k e1
  cases e1
  cases z:zbH ds with
  | none=>rw [z] at h;cases h
  | some ns =>
   rw [z] at h
   dsimp only at h
   split at h
   ·rename_i c
    cases h
    exact ⟨k,ns,rfl,rfl,c.1,c.2,rfl⟩
   ·cases h
 ·cases h
def zhP (f:M D) (g:M (List D)):M D:=zav f fun y=>zav g fun xs=>mOpt (match y with | .list ds=>zdH (.list ds) xs | _=>none)
theorem zj8 {apos cpos:Pos} {f:M D} {g:M (List D)} (ho:PE X o (tD X.K B G0 f)) (ha:PA X (e :: es) (tDs X.K B G0 g))
  (hbase:attributeBase o "index" X.env (eval o X.env)=eval o X.env:=by rfl)
  (hfew:((backTo cpos (starEach (e :: es) X.env)).all (fun x=>!x.1) && (backToKw cpos (keywordEach [] X.env)).all (fun x=>x.1.isSome)
   && decide ((e :: es).length+([]:List Keyword).length+(if ([]:List Keyword).isEmpty then 0 else 1) < 30))=true:=by rfl)
  (hline:(apos.endLine == cpos.line)=true:=by rfl) (hs:starEach (e :: es) X.env=(false,eval e X.env) :: starEach es X.env:=by rfl) (hplain:(backTo cpos (starEach es X.env)).any (·.1)=false:=by rfl) :
  PE X (.Call (.Attribute o "index" apos) (e :: es) [] cpos) (tD X.K B G0 (zhP f g)) :=
 peof (zmM F.plainAttrs_list F.slot_list_index F.type_list_index zj7 ho ha hbase hfew hline hs hplain) fun σ H Q q=>by
  refine tM.one (R:=Rep X.K) q fun v H2 G ρ y k r a=>?_
  cases y with
  | list ds =>
   obtain ⟨l,ws,rfl,h1,r1⟩:=r.lst_inv
   refine ⟨.inl ⟨rfl,ws,k.gh.seq h1⟩,?_⟩
   refine tM.nx (R:=Reps X.K) k a fun xs H3 G3 ρ3 es k3 s3 r3 a3=>?_
   obtain ⟨d,e,a3⟩:=a3.opt
   obtain ⟨x,ns,rfl,z,hl,hk,rfl⟩:=zg8 e
   obtain ⟨u,rfl,ru⟩:=r3.one_inv
   have:=zbZ r1 z
   subst this
   exact ⟨l,x,ns,rfl,by rw [ru.int_inv],k3.gh.seq (s3.seq h1),hl,hk,aft.now a3 k3 (.int _)⟩
  | _ =>
   unfold zav at a
   cases z:g ρ with
   | bad=>rw [z] at a;exact a.elim
   | ok xs ρ1=>rw [z] at a;exact a.elim
theorem zhQ {f:M D} {g:M (List D)} {ρ ρ1 ρ2:DEnv} {ds:List D} {x d:D} (h1:f ρ = .ok (.list ds) ρ1) (h2:g ρ1=.ok [x] ρ2) (h3:zdH (.list ds) [x]=some d):zhP f g ρ = .ok d ρ2:=by
 unfold zhP zav
 rw [h1]
 dsimp only
 rw [h2]
 dsimp only
 rw [h3]
 rfl
end
end DL
namespace DL
open PySem PySem.Spec PySem.W PyProof.Rows
def runT {α : Type} (lt:Nat->Nat->Bool):KasT α -> α
 | .ret a=>a
 | .ask i j k=>runT lt (k (lt i j))
theorem zcv {α β : Type} {lt:Nat->Nat->Bool} {f : α -> KasT β}:∀ t:KasT α,runT lt (t.bind f)=runT lt (f (runT lt t))
 | .ret _=>rfl
 | .ask i j k=>by show runT lt ((k (lt i j)).bind f)=_;rw [zcv];rfl
section
variable {key:Nat->Int} {p:Array Nat}
def KA (key:Nat->Int) (p:Array Nat) (i:Nat):Int:=key (p.getD i 0)
def srt (key:Nat->Int) (p:Array Nat) (m:Nat):Prop:=∀ i j,i<=j->j < m->KA key p i<=KA key p j
def dsc (key:Nat->Int) (p:Array Nat) (m:Nat):Prop:=∀ i j,i<=j->j < m->KA key p j<=KA key p i
abbrev kl (key:Nat->Int) (i j:Nat):Bool:=decide (key i < key j)
theorem zgk {k d i:Nat} (hk:k < p.size) (hd:d<=k):KA key (bubble p k d) i=if i=k - d then KA key p k else if k - d < i/\i<=k then KA key p (i - 1) else KA key p i:=by
 unfold KA
 simp only [Array.getD_eq_getD_getElem?]
 rw [getElem?_bubble hk d hd]
 repeat' split
 all_goals rfl
theorem zgl {i j k:Nat} (hj:j<=p.size):KA key (kas_rev p i j) k=if i<=k/\k < j then KA key p (i+j - 1 - k) else KA key p k:=by
 unfold KA kas_rev
 simp only [Array.getD_eq_getD_getElem?]
 rw [getElem?_mirror_all hj]
 split <;> rfl
theorem zcH {i j:Nat}:(kas_rev p i j).size=p.size:=mirror_size _ _ _ _
theorem zca {i j:Nat}:(kas_rev p i j).Perm p:=mirror_perm _ _ _ _
theorem zfq:∀ (f n:Nat),1<=n->srt key p n->srt key p (runT (kl key) (kas_asc p f n))/\n<=runT (kl key) (kas_asc p f n)/\runT (kl key) (kas_asc p f n)<=n+f /\
  (runT (kl key) (kas_asc p f n) < n+f->KA key p (runT (kl key) (kas_asc p f n)) < KA key p (runT (kl key) (kas_asc p f n) - 1))
 | 0,n,h1,hs=>⟨hs,Nat.le_refl _,Nat.le_refl _,fun h=>absurd h (Nat.lt_irrefl _)⟩
 | f+1,n,h1,hs=>by
  unfold kas_asc runT
  cases c:kl key (p.getD n 0) (p.getD (n - 1) 0) with
  | true =>
   dsimp only
   rw [if_pos rfl]
   exact ⟨hs,Nat.le_refl _,by show n<=n+(f+1);omega,fun _=>of_decide_eq_true c⟩
  | false =>
   dsimp only
   rw [if_neg (by decide)]
   have hle:KA key p (n - 1)<=KA key p n:=Int.not_lt.mp (of_decide_eq_false c)
   obtain ⟨a1,a2,a3,a4⟩:=zfq f (n+1) (by omega) (fun i j hij hj=>by
    by_cases hjn:j=n
    ·subst hjn
     by_cases hin:i=j
     ·subst hin;exact Int.le_refl _
     ·exact Int.le_trans (hs i (j - 1) (by omega) (by omega)) hle
    ·exact hs i j hij (by omega))
   exact ⟨a1,by omega,by omega,fun h=>a4 (by omega)⟩
def eqs (key:Nat->Int) (p:Array Nat) (n q:Nat):Prop:=∀ i,n - 1 - q<=i->i < n->KA key p i=KA key p (n - 1)
theorem zdp:∀ (f:Nat) (p:Array Nat) (n q:Nat),1<=n->q+1<=n->n+f<=p.size->dsc key p n->eqs key p n q ->
  let r:=runT (kl key) (kas_desc f p n q)
  r.1.Perm p/\r.1.size=p.size/\dsc key r.1 r.2.1/\eqs key r.1 r.2.1 r.2.2/\r.2.2+1<=r.2.1/\n<=r.2.1/\r.2.1<=n+f
 | 0,p,n,q,h1,hq,hz,hd,he=>⟨Array.Perm.refl _,rfl,hd,he,hq,Nat.le_refl _,Nat.le_refl _⟩
 | f+1,p,n,q,h1,hq,hz,hd,he=>by
  intro r
  have hr:r=runT (kl key) (kas_desc (f+1) p n q):=rfl
  unfold kas_desc runT at hr
  cases c:kl key (p.getD n 0) (p.getD (n - 1) 0) with
  | true =>
   rw [c] at hr;(try dsimp only at hr);rw [if_pos rfl] at hr
   have hlt:KA key p n < KA key p (n - 1):=of_decide_eq_true c
   have ext:∀ p':Array Nat,(∀ i,KA key p' i=KA key p i)->dsc key p' (n+1)/\eqs key p' (n+1) 0:=fun p' hp=>⟨fun i j hij hj=>by
     rw [hp,hp]
     by_cases hjn:j=n
     ·subst hjn
      by_cases hin:i=j
      ·subst hin;exact Int.le_refl _
      ·exact Int.le_trans (Int.le_of_lt hlt) (hd i (j - 1) (by omega) (by omega))
     ·exact hd i j hij (by omega),fun i hi1 hi2=>by
     have:i=n:=by omega
     subst this;rfl⟩
   by_cases hq0:q > 0
   ·rw [if_pos hq0] at hr
    have same:∀ i,KA key (kas_rev p (n - (q+1)) n) i=KA key p i:=fun i=>by
     rw [zgl (by omega)]
     split
     ·rw [he _ (by omega) (by omega),he i (by omega) (by omega)]
     ·rfl
    obtain ⟨d1,e1⟩:=ext _ same
    obtain ⟨a1,a2,a3,a4,a5,a6,a7⟩:=zdp f (kas_rev p (n - (q+1)) n) (n+1) 0 (by omega) (by omega) (by rw [zcH];omega) d1 e1
    rw [← hr] at a1 a2 a3 a4 a5 a6 a7
    exact ⟨a1.trans zca,a2.trans zcH,a3,a4,a5,by omega,by omega⟩
   ·rw [if_neg hq0] at hr
    obtain ⟨d1,e1⟩:=ext p fun _=>rfl
    obtain ⟨a1,a2,a3,a4,a5,a6,a7⟩:=zdp f p (n+1) 0 (by omega) (by omega) (by omega) d1 e1
    rw [← hr] at a1 a2 a3 a4 a5 a6 a7
    exact ⟨a1,a2,a3,a4,a5,by omega,by omega⟩
  | false =>
   rw [c] at hr;(try dsimp only at hr);rw [if_neg (by decide)] at hr
   unfold runT at hr
   have hle:KA key p (n - 1)<=KA key p n:=Int.not_lt.mp (of_decide_eq_false c)
   cases d:kl key (p.getD (n - 1) 0) (p.getD n 0) with
   | true =>
    rw [d] at hr;(try dsimp only at hr);rw [if_pos rfl] at hr
    unfold runT at hr
    rw [hr]
    exact ⟨Array.Perm.refl _,rfl,hd,he,hq,Nat.le_refl _,by show n<=n+(f+1);omega⟩
   | false =>
    rw [d] at hr;(try dsimp only at hr);rw [if_neg (by decide)] at hr
    have hge:KA key p n<=KA key p (n - 1):=Int.not_lt.mp (of_decide_eq_false d)
    obtain ⟨a1,a2,a3,a4,a5,a6,a7⟩:=zdp f p (n+1) (q+1) (by omega) (by omega) (by omega) (fun i j hij hj=>by
     by_cases hjn:j=n
     ·subst hjn
      by_cases hin:i=j
      ·subst hin;exact Int.le_refl _
      ·exact Int.le_trans hge (hd i (j - 1) (by omega) (by omega))
     ·exact hd i j hij (by omega)) (fun i hi1 hi2=>by
     have e0:KA key p n=KA key p (n - 1):=Int.le_antisymm hge hle
     show KA key p i=KA key p (n+1 - 1)
     rw [Nat.add_sub_cancel,e0]
     by_cases hin:i=n
     ·subst hin;exact e0
     ·exact he i (by omega) (by omega))
    rw [← hr] at a1 a2 a3 a4 a5 a6 a7
    exact ⟨a1,a2,a3,a4,a5,by omega,by omega⟩
theorem zeW {n nrem:Nat} (h1:1<=n) (hn:n<=nrem) (hz:nrem<=p.size) (hd:dsc key p n) :
  let r:=runT (kl key) (kas_tail3 n nrem p)
  r.2.Perm p/\r.2.size=p.size/\srt key r.2 r.1/\1<=r.1/\r.1<=nrem:=by
 intro r
 have hr:r=runT (kl key) (kas_tail3 n nrem p):=rfl
 unfold kas_tail3 at hr
 rw [zcv] at hr
 have hs:srt key (kas_rev p 0 n) n:=fun i j hij hj=>by
  rw [zgl (by omega),zgl (by omega),if_pos (by omega),if_pos (by omega)]
  exact hd _ _ (by omega) (by omega)
 obtain ⟨a1,a2,a3,_⟩:=zfq (key:=key) (p:=kas_rev p 0 n) (nrem - n) n h1 hs
 rw [hr]
 exact ⟨zca,zcH,a1,by show 1<=runT _ _;omega,by show runT _ _<=_;omega⟩
theorem zdq {n nrem:Nat} (h1:1<=n) (hn:n+1<=nrem) (hz:nrem<=p.size) (hd:dsc key p (n+1)) :
  let r:=runT (kl key) (kas_descPart n nrem p)
  r.2.Perm p/\r.2.size=p.size/\srt key r.2 r.1/\1<=r.1/\r.1<=nrem:=by
 intro r
 have hr:r=runT (kl key) (kas_descPart n nrem p):=rfl
 unfold kas_descPart at hr
 rw [zcv] at hr
 obtain ⟨a1,a2,a3,a4,a5,a6,a7⟩:=zdp (key:=key) (nrem - (n+1)) p (n+1) 0 (by omega) (by omega) (by omega) hd (fun i hi1 hi2=>by
  have:i=n:=by omega
  subst this;rfl)
 generalize runT (kl key) (kas_desc (nrem - (n+1)) p (n+1) 0)=d at hr a1 a2 a3 a4 a5 a6 a7
 obtain ⟨p1,n1,q1⟩:=d
 dsimp only at hr a1 a2 a3 a4 a5 a6 a7
 by_cases hq:q1 > 0
 ·rw [if_pos hq] at hr
  have same:∀ i,KA key (kas_rev p1 (n1 - (q1+1)) n1) i=KA key p1 i:=fun i=>by
   rw [zgl (by omega)]
   split
   ·rw [a4 _ (by omega) (by omega),a4 i (by omega) (by omega)]
   ·rfl
  obtain ⟨b1,b2,b3,b4,b5⟩:=zeW (key:=key) (p:=kas_rev p1 (n1 - (q1+1)) n1) (n:=n1) (nrem:=nrem) (by omega) (by omega) (by rw [zcH];omega) (fun i j hij hj=>by rw [same,same];exact a3 i j hij hj)
  rw [hr]
  exact ⟨(b1.trans zca).trans a1,(b2.trans zcH).trans a2,b3,b4,b5⟩
 ·rw [if_neg hq] at hr
  obtain ⟨b1,b2,b3,b4,b5⟩:=zeW (key:=key) (p:=p1) (n:=n1) (nrem:=nrem) (by omega) (by omega) (by omega) a3
  rw [hr]
  exact ⟨b1.trans a1,b2.trans a2,b3,b4,b5⟩
theorem ziB {nrem:Nat} (h1:1<=nrem) (hz:nrem<=p.size) :
  let r:=runT (kl key) (kas_count nrem p)
  r.2.Perm p/\r.2.size=p.size/\srt key r.2 r.1/\1<=r.1/\r.1<=nrem:=by
 intro r
 have hr:r=runT (kl key) (kas_count nrem p):=rfl
 unfold kas_count at hr
 rw [zcv] at hr
 obtain ⟨a1,a2,a3,a4⟩:=zfq (key:=key) (p:=p) (nrem - 1) 1 (Nat.le_refl _) (fun i j hij hj=>by
  have:i=j:=by omega
  subst this;exact Int.le_refl _)
 generalize runT (kl key) (kas_asc p (nrem - 1) 1)=n at hr a1 a2 a3 a4
 by_cases hn:(n == nrem)=true
 ·rw [if_pos hn] at hr
  unfold runT at hr
  rw [hr]
  exact ⟨Array.Perm.refl _,rfl,a1,a2,by show n<=nrem;omega⟩
 ·rw [if_neg hn] at hr
  have hne:n ≠ nrem:=by simpa using hn
  have hlt:=a4 (by omega)
  by_cases hn1:n > 1
  ·rw [if_pos hn1] at hr
   unfold runT at hr
   cases c:kl key (p.getD 0 0) (p.getD (n - 1) 0) with
   | true =>
    rw [c] at hr;(try dsimp only at hr);rw [if_pos rfl] at hr
    unfold runT at hr
    rw [hr]
    exact ⟨Array.Perm.refl _,rfl,a1,a2,by show n<=nrem;omega⟩
   | false =>
    rw [c] at hr;(try dsimp only at hr);rw [if_neg (by decide)] at hr
    have hge:KA key p (n - 1)<=KA key p 0:=Int.not_lt.mp (of_decide_eq_false c)
    have all:∀ i,i < n->KA key p i=KA key p 0:=fun i hi=>Int.le_antisymm (Int.le_trans (a1 i (n - 1) (by omega) (by omega)) hge) (a1 0 i (by omega) hi)
    have same:∀ i,KA key (kas_rev p 0 n) i=KA key p i:=fun i=>by
     rw [zgl (by omega)]
     split
     ·rw [all _ (by omega),all i (by omega)]
     ·rfl
    obtain ⟨b1,b2,b3,b4,b5⟩:=zdq (key:=key) (p:=kas_rev p 0 n) (n:=n) (nrem:=nrem) a2 (by omega) (by rw [zcH];exact hz) (fun i j hij hj=>by
     rw [same,same]
     by_cases hjn:j=n
     ·subst hjn
      by_cases hin:i=j
      ·subst hin;exact Int.le_refl _
      ·rw [all i (by omega)]
       rw [all (j - 1) (by omega)] at hlt
       exact Int.le_of_lt hlt
     ·rw [all i (by omega),all j (by omega)];exact Int.le_refl _)
    rw [hr]
    exact ⟨b1.trans zca,b2.trans zcH,b3,b4,b5⟩
  ·rw [if_neg hn1] at hr
   have:n=1:=by omega
   subst this
   obtain ⟨b1,b2,b3,b4,b5⟩:=zdq (key:=key) (p:=p) (n:=1) (nrem:=nrem) (Nat.le_refl _) (by omega) hz (fun i j hij hj=>by
    by_cases hij2:i=j
    ·subst hij2;exact Int.le_refl _
    ·have h0:i=0:=by omega
     have h1:j=1:=by omega
     subst h0;subst h1
     exact Int.le_of_lt hlt)
   rw [hr]
   exact ⟨b1,b2,b3,b4,b5⟩
theorem zdI {k:Nat} (hs:srt key p k):∀ (f l r:Nat),l<=r->r<=k->r - l<=f->(∀ i,i < l->KA key p i<=KA key p k)->(∀ i,r<=i->i < k->KA key p k < KA key p i) ->
  let m:=runT (kl key) (kas_place p k f l r)
  m<=k/\(∀ i,i < m->KA key p i<=KA key p k)/\(∀ i,m<=i->i < k->KA key p k < KA key p i)
 | 0,l,r,hlr,hrk,hf,h1,h2=>⟨by show l<=k;omega,h1,fun i (hi:l<=i)=>h2 i (by omega)⟩
 | f+1,l,r,hlr,hrk,hf,h1,h2=>by
  intro m
  have hm:m=runT (kl key) (kas_place p k (f+1) l r):=rfl
  unfold kas_place at hm
  by_cases hge:l ≥ r
  ·rw [if_pos hge] at hm
   unfold runT at hm
   rw [hm]
   exact ⟨by omega,h1,fun i hi=>h2 i (by omega)⟩
  ·rw [if_neg hge] at hm
   unfold runT at hm
   cases c:kl key (p.getD k 0) (p.getD ((l+r) / 2) 0) with
   | true =>
    rw [c] at hm;(try dsimp only at hm);rw [if_pos rfl] at hm
    rw [hm]
    have hlt:KA key p k < KA key p ((l+r) / 2):=of_decide_eq_true c
    exact zdI hs f l ((l+r) / 2) (by omega) (by omega) (by omega) h1 fun i hi hik=>Int.lt_of_lt_of_le hlt (hs _ _ hi hik)
   | false =>
    rw [c] at hm;(try dsimp only at hm);rw [if_neg (by decide)] at hm
    rw [hm]
    have hle:KA key p ((l+r) / 2)<=KA key p k:=Int.not_lt.mp (of_decide_eq_false c)
    exact zdI hs f ((l+r) / 2+1) r (by omega) hrk (by omega) (fun i hi=>Int.le_trans (hs i ((l+r) / 2) (by omega) (by omega)) hle) h2
theorem zhR:∀ (f:Nat) (p:Array Nat) (k:Nat),k+f<=p.size->srt key p k->let r:=runT (kl key) (kas_bin f p k);r.Perm p/\r.size=p.size/\srt key r (k+f)
 | 0,p,k,_,hs=>⟨Array.Perm.refl _,rfl,hs⟩
 | f+1,p,k,hz,hs=>by
  intro r
  have hr:r=runT (kl key) (kas_bin (f+1) p k):=rfl
  unfold kas_bin at hr
  rw [zcv] at hr
  obtain ⟨a1,a2,a3⟩:=zdI (key:=key) hs k 0 k (Nat.zero_le _) (Nat.le_refl _) (by omega) (fun i hi=>by omega) (fun i h1 h2=>by omega)
  generalize runT (kl key) (kas_place p k k 0 k)=l at hr a1 a2 a3
  have hk:k < p.size:=by omega
  obtain ⟨b1,b2,b3⟩:=zhR f (bubble p k (k - l)) (k+1) (by rw [bubble_size];omega) (fun i j hij hj=>by
   rw [zgk hk (by omega),zgk hk (by omega),show k - (k - l)=l by omega]
   by_cases hi:i=l
   ·rw [if_pos hi]
    by_cases hjl:j=l
    ·rw [if_pos hjl];exact Int.le_refl _
    ·rw [if_neg hjl,if_pos (by omega)]
     exact Int.le_of_lt (a3 (j - 1) (by omega) (by omega))
   ·rw [if_neg hi]
    by_cases hi2:l < i/\i<=k
    ·rw [if_pos hi2,if_neg (show ¬ j=l by omega),if_pos (by omega)]
     exact hs _ _ (by omega) (by omega)
    ·rw [if_neg hi2]
     by_cases hjl:j=l
     ·rw [if_pos hjl];exact a2 i (by omega)
     ·rw [if_neg hjl]
      split
      ·exact hs _ _ (by omega) (by omega)
      ·exact hs _ _ (by omega) (by omega))
  rw [hr]
  exact ⟨b1.trans (bubble_perm _ _ _),b2.trans (bubble_size _ _ _),by rw [show k+(f+1)=k+1+f by omega];exact b3⟩
theorem zj9 {n:Nat} (h1:1<=n):let r:=runT (kl key) (kas_sort n);r.Perm (List.toArray (List.range n))/\r.size=n/\srt key r n:=by
 intro r
 have hr:r=runT (kl key) (kas_sort n):=rfl
 unfold kas_sort at hr
 rw [zcv] at hr
 have hsz:(List.toArray (List.range n)).size=n:=by simp
 obtain ⟨a1,a2,a3,a4,a5⟩:=ziB (key:=key) (p:=List.toArray (List.range n)) (nrem:=n) h1 (by rw [hsz];exact Nat.le_refl _)
 generalize runT (kl key) (kas_count n (List.toArray (List.range n)))=d at hr a1 a2 a3 a4 a5
 by_cases hlt:d.1 < n
 ·rw [if_pos hlt] at hr
  have hmax:max d.1 1=d.1:=by omega
  rw [hmax] at hr
  obtain ⟨b1,b2,b3⟩:=zhR (key:=key) (n - d.1) d.2 d.1 (by omega) a3
  rw [hr]
  exact ⟨b1.trans a1,by omega,by rw [show d.1+(n - d.1)=n by omega] at b3;exact b3⟩
 ·rw [if_neg hlt] at hr
  unfold runT at hr
  rw [hr]
  exact ⟨a1,by omega,by rw [show d.1=n by omega] at a3;exact a3⟩
def Asks {α : Type} (N:Nat) (R : α -> Prop):KasT α -> Prop
 | .ret a=>R a
 | .ask i j k=>i < N/\j < N/\∀ b,Asks N R (k b)
theorem Asks.bind {α β : Type} {N:Nat} {R : α -> Prop} {S : β -> Prop} {f : α -> KasT β} (hf:∀ a,R a->Asks N S (f a)):∀ {t:KasT α},Asks N R t->Asks N S (t.bind f)
 | .ret a,h=>hf a h
 | .ask _ _ k,⟨h1,h2,h3⟩=>⟨h1,h2,fun b=>Asks.bind hf (h3 b)⟩
theorem zhS {α : Type} {lt:Nat->Nat->Bool} {cmp:Nat->Nat->(Bool->Shared->Prop)->Shared->Prop} {s:Shared} {N:Nat} {R : α -> Prop} (hc:∀ i j C,i < N->j < N->C (lt i j) s->cmp i j C s):∀ (t:KasT α) (Q : α -> Shared->Prop),Asks N R t->Q (runT lt t) s->t.kasWp cmp Q s
 | .ret _,_,_,h=>h
 | .ask i j k,Q,⟨h1,h2,h3⟩,h=>hc i j _ h1 h2 (zhS hc (k (lt i j)) Q (h3 _) h)
def bnd (N:Nat) (p:Array Nat):Prop:=∀ i,p.getD i 0 < N
theorem zc2 {N:Nat} {p q:Array Nat} (hN:0 < N) (h:bnd N p) (e:q.Perm p):bnd N q:=fun i=>by
 rw [Array.getD_eq_getD_getElem?]
 cases z:q[i]? with
 | none=>exact hN
 | some v =>
  have hm:v ∈ q:=Array.mem_of_getElem? z
  have hm2:v ∈ p:=e.mem_iff.mp hm
  obtain ⟨j,hj,e2⟩:=Array.mem_iff_getElem.mp hm2
  have:=h j
  rw [Array.getD_eq_getD_getElem?,Array.getElem?_eq_getElem hj,e2] at this
  exact this
section
variable {N:Nat} (hN:0 < N)
include hN
theorem zfr {p:Array Nat} (h:bnd N p):∀ (f n:Nat),Asks N (fun _=>True) (kas_asc p f n)
 | 0,_=>trivial
 | f+1,n=>⟨h _,h _,fun b=>by
  cases b with
  | true=>(try dsimp only);rw [if_pos rfl];trivial
  | false=>(try dsimp only);rw [if_neg (by decide)];exact zfr h f (n+1)⟩
theorem zdr:∀ (f:Nat) (p:Array Nat) (n q:Nat),bnd N p->Asks N (fun r=>bnd N r.1) (kas_desc f p n q)
 | 0,p,_,_,h=>h
 | f+1,p,n,q,h=>⟨h _,h _,fun b=>by
  cases b with
  | true =>
   dsimp only
   rw [if_pos rfl]
   split
   ·exact zdr f _ _ _ (zc2 hN h zca)
   ·exact zdr f _ _ _ h
  | false =>
   dsimp only
   rw [if_neg (by decide)]
   refine ⟨h _,h _,fun b=>?_⟩
   cases b with
   | true=>(try dsimp only);rw [if_pos rfl];exact h
   | false=>(try dsimp only);rw [if_neg (by decide)];exact zdr f _ _ _ h⟩
theorem zeX {p:Array Nat} {n nrem:Nat} (h:bnd N p):Asks N (fun r=>bnd N r.2) (kas_tail3 n nrem p) :=
 Asks.bind (N:=N) (R:=fun _=>True) (S:=fun r:Nat × Array Nat=>bnd N r.2) (f:=fun m=>.ret (m,kas_rev p 0 n)) (fun _ _=>zc2 (p:=p) (q:=kas_rev p 0 n) hN h zca) (zfr hN (zc2 hN h zca) _ _)
theorem zds {p:Array Nat} {n nrem:Nat} (h:bnd N p):Asks N (fun r=>bnd N r.2) (kas_descPart n nrem p) :=
 Asks.bind (fun r hr=>by
  split
  ·exact zeX hN (zc2 hN hr zca)
  ·exact zeX hN hr) (zdr hN _ _ _ _ h)
theorem ziC {p:Array Nat} {nrem:Nat} (h:bnd N p):Asks N (fun r=>bnd N r.2) (kas_count nrem p) :=
 Asks.bind (R:=fun _=>True) (fun n _=>by
  split
  ·exact h
  ·split
   ·refine ⟨h _,h _,fun b=>?_⟩
    cases b with
    | true=>(try dsimp only);rw [if_pos rfl];exact h
    | false=>(try dsimp only);rw [if_neg (by decide)];exact zds hN (zc2 hN h zca)
   ·exact zds hN h) (zfr hN h _ _)
theorem zdJ {p:Array Nat} (h:bnd N p) (k:Nat):∀ (f l r:Nat),Asks N (fun _=>True) (kas_place p k f l r)
 | 0,_,_=>trivial
 | f+1,l,r=>by
  unfold kas_place
  split
  ·trivial
  ·refine ⟨h _,h _,fun b=>?_⟩
   cases b with
   | true=>(try dsimp only);rw [if_pos rfl];exact zdJ h k f _ _
   | false=>(try dsimp only);rw [if_neg (by decide)];exact zdJ h k f _ _
theorem zhT:∀ (f:Nat) (p:Array Nat) (k:Nat),bnd N p->Asks N (fun _=>True) (kas_bin f p k)
 | 0,_,_,_=>trivial
 | f+1,p,k,h=>Asks.bind (R:=fun _=>True) (fun l _=>zhT f _ _ (zc2 hN h (bubble_perm _ _ _))) (zdJ hN h k _ _ _)
end
theorem zka {n:Nat} (hn:0 < n):Asks n (fun _=>True) (kas_sort n):=by
 have hb:bnd n (List.toArray (List.range n)):=fun i=>by
  rw [Array.getD_eq_getD_getElem?]
  by_cases hi:i < n
  ·simp [hi]
  ·simp [hi,hn]
 refine Asks.bind (fun r hr=>?_) (ziC hn hb)
 split
 ·exact zhT hn _ _ _ hr
 ·trivial
end
def keyP (q:Int × Int):Int:=q.1 * 10000000+q.2
def okP (q:Int × Int):Prop:=-1000000<=q.2/\q.2<=1000000
theorem zni {x y:Int × Int} (hx:okP x) (hy:okP y):keyP x < keyP y ↔ (x.1 < y.1 ∨ x.1=y.1/\x.2 < y.2):=by
 unfold keyP okP at *
 omega
theorem zlA {x y:Int × Int} (hx:okP x) (hy:okP y) (h:keyP x=keyP y):x=y:=by
 unfold keyP okP at *
 have h1:x.1=y.1:=by omega
 have h2:x.2=y.2:=by omega
 exact Prod.ext h1 h2
section
variable {prog:Program} {w:World} {A:Around} {E:Value->Shared->Prop} {s:Shared}
def zhU (h:Heap) (v:Value) (q:Int × Int):Prop:=∃ a t u o n,v=.ref a/\h.get? a=some o/\o.cls=.type "tuple" /\ o.data=.seq #[.int q.1 t,.int q.2 u] n
theorem znj {x y:Value} {p q:Int × Int} {Q:Bool->Shared->Prop} (hx:zhU s.heap x p) (hy:zhU s.heap y q) (h:Q (decide (p.1 < q.1 ∨ p.1=q.1/\p.2 < q.2)) s):wpAny (model prog w) A (keyLt' (tuples' true) x y) Q E s:=by
 obtain ⟨a,t,u,o,n,rfl,e1,c1,d1⟩:=hx
 obtain ⟨b,t',u',o',n',rfl,e2,c2,d2⟩:=hy
 refine kat_lt e1 d1 e2 d2 ?_
 show KatLex prog w A true _ Q [(Value.int p.1 t,Value.int q.1 t'),(Value.int p.2 u,Value.int q.2 u')] 0 s
 refine kat_cons (wpAny_eqBool_int ?_)
 by_cases h1:p.1=q.1
 ·have e:(p.1 == q.1)=true:=by simpa using h1
  rw [e]
  refine kat_yes (kat_cons (wpAny_eqBool_int ?_))
  by_cases h2:p.2=q.2
  ·have e:(p.2 == q.2)=true:=by simpa using h2
   rw [e]
   refine kat_yes (kat_nil ?_)
   have:decide (p.1 < q.1 ∨ p.1=q.1/\p.2 < q.2)=false:=decide_eq_false (by omega)
   rw [this] at h
   exact h
  ·have e:(p.2 == q.2)=false:=by simpa using h2
   rw [e]
   refine kat_no (kat_one _ _ (PyProof.Rows.lt_int ?_))
   have:decide (p.1 < q.1 ∨ p.1=q.1/\p.2 < q.2)=decide (p.2 < q.2):=by
    by_cases z:p.2 < q.2
    ·rw [decide_eq_true z,decide_eq_true (.inr ⟨h1,z⟩)]
    ·rw [decide_eq_false z,decide_eq_false (by omega)]
   rw [this] at h
   exact h
 ·have e:(p.1 == q.1)=false:=by simpa using h1
  rw [e]
  refine kat_no (oneLt_int ?_)
  have:decide (p.1 < q.1 ∨ p.1=q.1/\p.2 < q.2)=decide (p.1 < q.1):=by
   by_cases z:p.1 < q.1
   ·rw [decide_eq_true z,decide_eq_true (.inl z)]
   ·rw [decide_eq_false z,decide_eq_false (by omega)]
  rw [this] at h
  exact h
def zbA (h:Heap):List Value->List (Int × Int)->Prop
 | [],[]=>True
 | v :: vs,q :: qs=>zhU h v q/\zbA h vs qs
 | _,_=>False
theorem zbA.get {h:Heap}:∀ {vs:List Value} {qs:List (Int × Int)},zbA h vs qs->vs.length=qs.length/\∀ (i:Nat) (hi:i < vs.length),zhU h (vs.getD i .none) (qs.getD i (0,0))
 | [],[],_=>⟨rfl,fun i hi=>absurd hi (Nat.not_lt_zero _)⟩
 | v :: vs,q :: qs,⟨h1,h2⟩=>by
  obtain ⟨e,f⟩:=zbA.get h2
  refine ⟨by simp [e],fun i hi=>?_⟩
  cases i with
  | zero=>exact h1
  | succ i=>exact f i (by simpa using hi)
theorem zbA.tups {h:Heap}:∀ {vs:List Value} {qs:List (Int × Int)},zbA h vs qs->∃ fs:List Value,KatTups h vs fs/\fs.length=vs.length/\∀ v ∈ fs,∃ i t,v=.int i t
 | [],[],_=>⟨[],trivial,rfl,fun _ h=>by cases h⟩
 | v :: vs,q :: qs,⟨hp,h2⟩=>by
  obtain ⟨a,t,u,o,n,rfl,e1,c1,d1⟩:=hp
  obtain ⟨fs,f1,f2,f3⟩:=zbA.tups h2
  refine ⟨.int q.1 t :: fs,.cons e1 c1 d1 rfl f1,by simp [f2],fun v hv=>?_⟩
  rcases List.mem_cons.mp hv with rfl | hv
  ·exact ⟨_,_,rfl⟩
  ·exact f3 v hv
theorem zbA.mono {h h':Heap} (k:∀ b o,h.get? b=some o->h'.get? b=some o):∀ {vs:List Value} {qs:List (Int × Int)},zbA h vs qs->zbA h' vs qs
 | [],[],_=>trivial
 | v :: vs,q :: qs,⟨hp,h2⟩=>by
  obtain ⟨a,t,u,o,n,rfl,e1,c1,d1⟩:=hp
  exact ⟨⟨a,t,u,o,n,rfl,k _ _ e1,c1,d1⟩,zbA.mono k h2⟩
def zlB (qs:List (Int × Int)) (π : List Nat):Prop:=π.Perm (List.range qs.length)/\(π.map fun i=>qs.getD i (0,0)).Pairwise fun x y=>keyP x<=keyP y
theorem zex {a:Addr} {vs:List Value} {qs:List (Int × Int)} {n:Nat} {P:Fin->Shared->Prop} (ho:s.heap.get? a=some (seqObj "list" vs.toArray n))
  (hp:zbA ((s.heap.update a (Obj.mapSeq fun _=>#[]))) vs qs) (hq:∀ q ∈ qs,okP q) (h64:vs.length < 64)
  (h:∀ π : List Nat,zlB qs π -> P (.done (.ret .none)) { s with heap:=sortedHeap s.heap a vs (List.toArray (π.map fun i=>vs.getD i .none)) }) :
  wpAny (model prog w) A (Builtin.«list.sort» ⟨[.ref a],[]⟩) P E s:=by
 obtain ⟨hl,hget⟩:=hp.get
 rw [list_sort_plain]
 have ha:a < s.heap.objs.size:=Heap.lt_size ho
 refine wpAny_bind (listItems_at ho rfl ?_)
 refine wpAny_bind (listUpdate_at ho rfl ?_)
 obtain ⟨e1,ho1⟩:∃ e1,(s.heap.update a (Obj.mapSeq fun _=>#[])).get? a=some (seqObj "list" #[] e1):=⟨_,get?_update_seq ho (fun _=>#[])⟩
 refine wpAny_bind (seqEpoch_at ho1 rfl ?_)
 refine wpAny_bind (wpAny_newTuple ?_)
 refine wpAny_bind (wpAny_newList ?_)
 refine wpAny_holding ?_
 have ho6:(((s.heap.update a (Obj.mapSeq fun _=>#[])).push (seqObj "tuple" vs.toArray 0)).push (seqObj "list" #[] 0)).get? a=some (seqObj "list" #[] e1):=by
  rw [Heap.get?_push_ne _ _ _ (by rw [size_push',Heap.size_update];exact Nat.ne_of_lt (Nat.lt_succ_of_lt ha)),Heap.get?_push_ne _ _ _ (by rw [Heap.size_update];exact Nat.ne_of_lt ha)]
  exact ho1
 have hp6:zbA (((s.heap.update a (Obj.mapSeq fun _=>#[])).push (seqObj "tuple" vs.toArray 0)).push (seqObj "list" #[] 0)) vs qs:=hp.mono fun b o e=>Heap.get?_push_of_some _ (Heap.get?_push_of_some _ e)
 show wpAny (model prog w) A _ P E { s with heap:=((s.heap.update a (Obj.mapSeq fun _=>#[])).push (seqObj "tuple" vs.toArray 0)).push (seqObj "list" #[] 0) }
 dsimp only
 have hsz:vs.toArray.size=vs.length:=by simp
 by_cases h2:vs.toArray.size < 2
 ·rw [if_pos h2,if_pos h2]
  refine wpAny_bind (wpAny_pure ?_)
  rw [StateT.run_pure]
  refine wpAny_bind (wpAny_pure ?_)
  dsimp only
  refine wpAny_bind (seqEpoch_at ho6 rfl ?_)
  refine wpAny_bind (listUpdate_at ho6 rfl ?_ (hsz2:=by rw [Array.size_map];show (pairsOf vs).size<=_;rw [pairsOf_size,sizeLine_eq];omega))
  simp only [bne_self_eq_false,Bool.false_eq_true,if_false]
  have hid:(arrOf (SortSt.mk' general' (vs.toArray.zip vs.toArray) #[] 7 none)).map (·.2)=List.toArray ((List.range vs.length).map fun i=>vs.getD i .none):=by
   show (vs.toArray.zip vs.toArray).map (·.2)=_
   apply Array.toList_inj.mp
   apply List.ext_getElem?
   intro i
   simp only [Array.toList_map,Array.toList_zip,List.getElem?_map,List.getElem?_zip_eq_some]
   by_cases hi:i < vs.length
   ·simp [List.getElem?_zip_eq_some,hi,List.getElem?_range]
   ·simp [hi]
  rw [hid]
  refine wpAny_pure (h (List.range vs.length) ⟨by rw [hl],?_⟩)
  rw [List.pairwise_map]
  rw [hsz] at h2
  rcases (show vs.length=0 ∨ vs.length=1 by omega) with z | z <;> rw [z]
  ·exact .nil
  ·exact List.pairwise_singleton _ _
 ·rw [if_neg h2,if_neg h2]
  rw [hsz] at h2
  obtain ⟨fs,f1,f2,f3⟩:=hp6.tups
  refine wpAny_bind (kat_kind (T:=.type "int") f1 (by omega) (fun v hv=>by obtain ⟨i,t,rfl⟩:=f3 v hv;exact (show Looks _ _ (pure (Value.type "int")) _ from .now)) rfl ?_)
  refine wpAny_bind (wpAny_mono (kat_run (ks:=vs) (G:=fun p s'=>s' = { s with heap:=((s.heap.update a (Obj.mapSeq fun _=>#[])).push (seqObj "tuple" vs.toArray 0)).push (seqObj "list" #[] 0) }/\p=runT (kl fun i=>keyP (qs.getD i (0,0))) (kas_sort vs.length))
   (Q:=fun st' s'=>s' = { s with heap:=((s.heap.update a (Obj.mapSeq fun _=>#[])).push (seqObj "tuple" vs.toArray 0)).push (seqObj "list" #[] 0) }/\failedOf st'=none/\arrOf st'=(runT (kl fun i=>keyP (qs.getD i (0,0))) (kas_sort vs.length)).map (kas_item (vs.toArray.zip vs.toArray)))
   rfl (by omega) h64 (fun p st' s' a1 a2 a3 a4=>⟨a4.1,a3,by rw [a2,a4.2]⟩) ?_) ?_ fun _ _ e=>e)
  ·refine zhS (N:=vs.length) (R:=fun _=>True) (lt:=kl fun i=>keyP (qs.getD i (0,0))) (fun i j C hi hj hC=>?_) _ _ (zka (by omega)) ⟨rfl,rfl⟩
   refine znj (zbA.get hp6 |>.2 i hi) (zbA.get hp6 |>.2 j hj) ?_
   have oi:okP (qs.getD i (0,0)):=hq _ (by rw [List.getD_eq_getElem?_getD,List.getElem?_eq_getElem (by omega)];exact List.getElem_mem _)
   have oj:okP (qs.getD j (0,0)):=hq _ (by rw [List.getD_eq_getElem?_getD,List.getElem?_eq_getElem (by omega)];exact List.getElem_mem _)
   have e:decide ((qs.getD i (0,0)).1 < (qs.getD j (0,0)).1 ∨ (qs.getD i (0,0)).1=(qs.getD j (0,0)).1/\(qs.getD i (0,0)).2 < (qs.getD j (0,0)).2)=kl (fun i=>keyP (qs.getD i (0,0))) i j:=by
    unfold kl
    exact decide_eq_decide.mpr (zni oi oj).symm
   rw [e]
   exact hC
  ·rintro ⟨⟨⟩,st'⟩ s' ⟨rfl,hf,har⟩
   dsimp only
   obtain ⟨b1,b2,b3⟩:=zj9 (key:=fun i=>keyP (qs.getD i (0,0))) (n:=vs.length) (by omega)
   generalize runT (kl fun i=>keyP (qs.getD i (0,0))) (kas_sort vs.length)=p at har b1 b2 b3
   have hout:=kat_snds (ks:=vs) (vs:=vs) rfl har
   have hsz2:((arrOf st').map (·.2)).size=vs.length:=by rw [hout,List.size_toArray,List.length_map,Array.length_toList,b2]
   refine wpAny_bind (seqEpoch_at ho6 rfl ?_)
   refine wpAny_bind (listUpdate_at ho6 rfl ?_ (hsz2:=by rw [hsz2,sizeLine_eq];omega))
   rw [hf]
   simp only [bne_self_eq_false,Bool.false_eq_true,if_false]
   rw [hout]
   refine wpAny_pure (h p.toList ⟨?_,?_⟩)
   ·have:=Array.perm_iff_toList_perm.mp b1
    rw [← hl]
    exact this
   ·rw [List.pairwise_map,List.pairwise_iff_getElem]
    intro i j hi hj hij
    rw [Array.length_toList,b2] at hi hj
    have:=b3 i j (by omega) hj
    unfold KA at this
    rw [Array.getD_eq_getD_getElem?,Array.getD_eq_getD_getElem?,Array.getElem?_eq_getElem (by omega),Array.getElem?_eq_getElem (by omega)] at this
    simpa using this
end
section
variable {prog:Program} {w:World} {A:Around} {E:Value->Shared->Prop} {s:Shared}
theorem zgm {l:Addr} {vs:List Value} {qs:List (Int × Int)} {Q:Value->Shared->Prop} (hl:s.heap.IsList l vs.toArray) (hp:zbA s.heap vs qs) (hq:∀ q ∈ qs,okP q) (h64:vs.length < 64)
  (h:∀ π : List Nat,zlB qs π -> Q (.ref (s.heap.objs.size+1)) { s with heap:=sortedAll s.heap vs (List.toArray (π.map fun i=>vs.getD i .none)) }) :
  wpAny (model prog w) A (call (.builtin "sorted") [.ref l]) Q E s:=by
 refine Calls.call_function_entry kind_sorted plain_sorted entry_sorted (args_sorted1 _) ?_
 unfold Builtin.«sorted»
 refine wpAny_bind (m:=checkCount "sorted" 1 1 _) (wpAny_pure ?_)
 refine wpAny_bind (collect_list hl ?_)
 refine wpAny_bind (wpAny_newList ?_)
 have hsz:((s.heap.push (seqObj "list" #[] 0)).update s.heap.objs.size (Obj.mapSeq (· ++ vs.toArray))).objs.size=s.heap.objs.size+1:=by
  rw [Heap.size_update,size_push']
 have hoL:(((s.heap.push (seqObj "list" #[] 0)).update s.heap.objs.size (Obj.mapSeq (· ++ vs.toArray))).push (seqObj "list" vs.toArray 0)).get? (s.heap.objs.size+1)=some (seqObj "list" vs.toArray 0):=by
  rw [← hsz];exact Heap.get?_push_size _ rfl
 show wpAny _ _ _ _ _ { s with heap:=((s.heap.push (seqObj "list" #[] 0)).update s.heap.objs.size (Obj.mapSeq (· ++ vs.toArray))).push (seqObj "list" vs.toArray 0) }
 rw [hsz]
 refine wpAny_bind (wpAny_holding (wpAny_call_entry slot_list_sort ⟨_,hoL,rfl⟩ entry_list_sort (zex (qs:=qs) hoL (hp.mono fun b o e=>?_) hq h64 fun π a1=>⟨_,rfl,?_⟩) (args_list_sort _)))
 ·have hlt:b < s.heap.objs.size:=Heap.lt_size e
  dsimp only
  have hlt':(b:Nat) < s.heap.objs.size:=hlt
  rw [Heap.get?_update_ne _ _ _ _ (Nat.ne_of_lt (Nat.lt_succ_of_lt hlt')),Heap.get?_push_ne _ _ _ (by rw [hsz];exact Nat.ne_of_lt (Nat.lt_succ_of_lt hlt')),Heap.get?_update_ne _ _ _ _ (Nat.ne_of_lt hlt),Heap.get?_push_ne _ _ _ (Nat.ne_of_lt hlt)]
  exact e
 ·exact wpAny_pure ⟨_,rfl,h π a1⟩
end
end DL
namespace DL
open PySem PySem.Spec L2
open PyProof.Rows hiding St
section
variable {X:Cx}
theorem zhV {pins:List (Addr × Obj)} {s:Shared} {σ : St} {H:Hp} (I:Inv X pins σ H s):∀ {as:List Addr} {us:List Value} {qs:List (Int × Int)},Vals (as.map V.ref) us->as.length=qs.length->(∀ (i:Nat) a q,as[i]?=some a->qs[i]?=some q->SqT X.K H a [.int q.1,.int q.2])->zbA s.heap us qs
 | [],_,[],.nil,_,_=>trivial
 | a :: as,_,q :: qs,.cons r t,hl,h=>by
  refine ⟨?_,zhV I t (by simpa using hl) fun i a q h1 h2=>h (i+1) a q (by simpa using h1) (by simpa using h2)⟩
  cases r
  obtain ⟨its,rv,⟨o,e,c,n,d⟩,_⟩:=I.tuple (h 0 a q rfl rfl)
  obtain ⟨u,v,rfl,r1,r2⟩:=rv.two
  obtain ⟨t1,rfl⟩:=r1
  obtain ⟨t2,rfl⟩:=r2
  exact ⟨a,t1,t2,o,n,rfl,e,c,by simpa using d⟩
theorem zgn {as:List Addr} {us:List Value} (r:Vals (as.map V.ref) us):∀ (π : List Nat),(∀ i ∈ π,i < as.length)->Vals (π.map fun i=>V.ref (as.getD i 0)) (π.map fun i=>us.getD i .none)
 | [],_=>.nil
 | i :: π,h=>by
  refine .cons ?_ (zgn r π fun j hj=>h j (List.mem_cons_of_mem _ hj))
  have hi:=h i List.mem_cons_self
  have e:(as.map V.ref)[i]?=some (.ref (as.getD i 0)):=by rw [List.getElem?_map,List.getElem?_eq_getElem hi];simp [List.getD,List.getElem?_eq_getElem hi]
  obtain ⟨u,e2,ru⟩:=r.get e
  simp only [List.getD,e2,Option.getD_some]
  exact ru
theorem ziD:zcJ X (.builtin "sorted") (fun xs H Q=>∃ l,∃ as:List Addr,∃ qs:List (Int × Int),xs=[.ref l]/\SqL X.K H l (as.map V.ref)/\as.length=qs.length/\(∀ (i:Nat) a q,as[i]?=some a->qs[i]?=some q->SqT X.K H a [.int q.1,.int q.2])/\(∀ q ∈ qs,okP q)/\qs.length < 64 /\
  ∀ π p,zlB qs π -> H p=none->Q (.ref p) (upd H p (.lst (π.map fun i=>V.ref (as.getD i 0))))):=by
 intro pins s σ H xs us Q I rx h
 obtain ⟨l,as,qs,rfl,hq,hl,ht,ho,hb,q⟩:=h
 obtain ⟨u,rfl,ru⟩:=rx.one
 cases ru
 obtain ⟨its,rv,p,hz⟩:=I.list hq
 have hn:its.length=qs.length:=by have:=rv.length;rw [List.length_map] at this;omega
 refine zgm (qs:=qs) p.isList (zhV I rv hl ht) ho (by omega) fun π hπ=>?_
 obtain ⟨e,he⟩:=sortedAll_at s.heap its (List.toArray (π.map fun i=>its.getD i .none))
 have hπl:∀ i ∈ π,i < as.length:=fun i hi=>by
  have:=hπ.1.mem_iff.mp hi
  rw [List.mem_range] at this
  omega
 refine ⟨.ref (s.heap.objs.size+1),_,I.laid (t':=s.toks) (fun b o=>sortedAll_old) (Nat.le_succ _) (show zbJ X.prog X.w _ _ _ (.lst (π.map fun i=>V.ref (as.getD i 0))) from ⟨?_,_,e,zgn rv π hπl,he⟩),rfl,q π _ hπ (I.hok.fresh (Nat.le_succ _))⟩
 rw [List.length_map,hπ.1.length_eq,List.length_range]
 rw [List.length_map] at hz
 omega
def zhW:D->Option (Int × Int)
 | .tuple [.int a,.int b]=>some (a,b)
 | _=>none
def zcl:List D->Option (List (Int × Int))
 | []=>some []
 | d :: r=>(zhW d).bind fun q=>(zcl r).map (q :: ·)
def duoD (q:Int × Int):D:=.tuple [.int q.1,.int q.2]
theorem zkb {d:D} {q:Int × Int} (h:zhW d=some q):d=duoD q:=by
 unfold zhW at h
 split at h
 ·cases h;rfl
 ·cases h
theorem zey:∀ {ds:List D} {qs:List (Int × Int)},zcl ds=some qs->ds=qs.map duoD
 | [],qs,h=>by cases h;rfl
 | d :: r,qs,h=>by
  unfold zcl at h
  cases z:zhW d with
  | none=>rw [z] at h;cases h
  | some q =>
   rw [z] at h
   cases z2:zcl r with
   | none=>rw [z2] at h;cases h
   | some qs'=>rw [z2] at h;cases h;rw [zkb z,zey z2];rfl
theorem zdW:∀ qs:List (Int × Int),zcl (qs.map duoD)=some qs
 | []=>rfl
 | q :: r=>by rw [List.map_cons,zcl,zdW r];rfl
def zfs (qs:List (Int × Int)):List (Int × Int):=qs.mergeSort fun x y=>decide (keyP x<=keyP y)
theorem zeY (qs:List (Int × Int)):(zfs qs).Perm qs:=List.mergeSort_perm ..
theorem zgo (qs:List (Int × Int)):(zfs qs).Pairwise fun x y=>keyP x<=keyP y:=by
 have:=List.pairwise_mergeSort (le:=fun x y:Int × Int=>decide (keyP x<=keyP y)) (by intro a b c;simp;omega) (by intro a b;simp;omega) qs
 exact this.imp (by simp)
theorem zft:∀ {a b:List (Int × Int)},(∀ x ∈ a,okP x)->a.Perm b->a.Pairwise (fun x y=>keyP x<=keyP y)->b.Pairwise (fun x y=>keyP x<=keyP y)->a=b
 | [],b,_,p,_,_=>by rw [List.nil_perm.1 p]
 | x :: a,[],_,p,_,_=>by have:=p.length_eq;simp at this
 | x :: a,y :: b,ok,p,ha,hb=>by
  have hx:keyP y<=keyP x:=by
   rcases List.mem_cons.1 (p.mem_iff.1 (List.mem_cons_self ..)) with e | e
   ·rw [e];exact Int.le_refl _
   ·exact (List.pairwise_cons.1 hb).1 x e
  have hy:keyP x<=keyP y:=by
   rcases List.mem_cons.1 (p.mem_iff.2 (List.mem_cons_self ..)) with e | e
   ·rw [e];exact Int.le_refl _
   ·exact (List.pairwise_cons.1 ha).1 y e
  have oky:okP y:=ok y (p.mem_iff.2 (List.mem_cons_self ..))
  have e:=zlA (ok x (List.mem_cons_self ..)) oky (Int.le_antisymm hy hx)
  subst e
  rw [zft (fun z hz=>ok z (List.mem_cons_of_mem _ hz)) (List.Perm.cons_inv p) (List.pairwise_cons.1 ha).2 (List.pairwise_cons.1 hb).2]
theorem zlC {qs:List (Int × Int)} {π : List Nat} (ok:∀ q ∈ qs,okP q) (h:zlB qs π):(π.map fun i=>qs.getD i (0,0))=zfs qs:=by
 have hp:(π.map fun i=>qs.getD i (0,0)).Perm qs:=by
  have h1:=h.1.map fun i=>qs.getD i (0,0)
  have e:(List.range qs.length).map (fun i=>qs.getD i (0,0))=qs:=by
   apply List.ext_getElem?
   intro i
   rw [List.getElem?_map]
   by_cases hi:i < qs.length
   ·rw [List.getElem?_range hi,List.getElem?_eq_getElem hi];simp [List.getD,List.getElem?_eq_getElem hi]
   ·rw [List.getElem?_eq_none (by rw [List.length_range];omega),List.getElem?_eq_none (by omega)];rfl
  rw [e] at h1
  exact h1
 exact zft (fun x hx=>ok x (hp.mem_iff.mp hx)) (hp.trans (zeY qs).symm) h.2 (zgo qs)
def okPB (q:Int × Int):Bool:=decide (-1000000<=q.2/\q.2<=1000000)
def zgp:List D->Option D
 | [.list ds]=>(match zcl ds with
  | some qs=>if qs.length < 64/\qs.all okPB=true then some (.list ((zfs qs).map duoD)) else none
  | none=>none)
 | _=>none
theorem ziE {xs:List D} {d:D} (h:zgp xs=some d):∃ qs:List (Int × Int),xs=[.list (qs.map duoD)]/\qs.length < 64/\(∀ q ∈ qs,okP q)/\d=.list ((zfs qs).map duoD):=by
 unfold zgp at h
 split at h
 ·rename_i ds
  cases z:zcl ds with
  | none=>rw [z] at h;cases h
  | some qs =>
   rw [z] at h
   dsimp only at h
   split at h
   ·rename_i c
    cases h
    exact ⟨qs,by rw [zey z],c.1,fun q hq=>(show -1000000<=q.2/\q.2<=1000000 from of_decide_eq_true (List.all_eq_true.mp c.2 q hq)),rfl⟩
   ·cases h
 ·cases h
theorem zgq {K:PySem.W.Frag} {G:Hp}:∀ {vs:List V} {qs:List (Int × Int)},Reps K G vs (qs.map duoD)->∃ as:List Addr,vs=as.map V.ref/\as.length=qs.length/\∀ (i:Nat) a q,as[i]?=some a->qs[i]?=some q->SqT K G a [.int q.1,.int q.2]
 | _,[],.nil=>⟨[],rfl,rfl,fun i a q h=>by simp at h⟩
 | _,q :: qs,.cons r t=>by
  obtain ⟨as,rfl,hl,h⟩:=zgq t
  obtain ⟨a,ws,rfl,h1,r1⟩:=r.tup_inv
  cases r1 with
  | cons ra rb =>
   obtain ⟨v,rfl,rb'⟩:=rb.one_inv
   refine ⟨a :: as,rfl,by simp [hl],fun i a' q' e1 e2=>?_⟩
   cases i with
   | zero =>
    cases e1;cases e2
    rw [ra.int_inv,rb'.int_inv] at h1
    exact h1
   | succ i=>exact h i a' q' (by simpa using e1) (by simpa using e2)
theorem zlD {K:PySem.W.Frag} {G:Hp} {a:Addr} {q:Int × Int} (h:SqT K G a [.int q.1,.int q.2]):Rep K G (.ref a) (duoD q):=.tup h (.cons (.int _) (.cons (.int _) .nil))
theorem zgr {K:PySem.W.Frag} {G:Hp} {as:List Addr} {qs:List (Int × Int)} (hl:as.length=qs.length) (h:∀ (i:Nat) a q,as[i]?=some a->qs[i]?=some q->SqT K G a [.int q.1,.int q.2]):∀ π : List Nat,(∀ i ∈ π,i < qs.length)->Reps K G (π.map fun i=>V.ref (as.getD i 0)) ((π.map fun i=>qs.getD i (0,0)).map duoD)
 | [],_=>.nil
 | i :: π,hb=>by
  refine .cons ?_ (zgr hl h π fun j hj=>hb j (List.mem_cons_of_mem _ hj))
  have hi:=hb i List.mem_cons_self
  refine zlD (h i _ _ ?_ ?_)
  ·rw [List.getElem?_eq_getElem (by omega)];simp [List.getD,List.getElem?_eq_getElem (show i < as.length by omega)]
  ·rw [List.getElem?_eq_getElem hi];simp [List.getD,List.getElem?_eq_getElem hi]
theorem znk:zc5 X (.builtin "sorted") zgp:=by
 refine ⟨_,ziD,fun vs G H ds d Q s r e k=>?_⟩
 obtain ⟨qs,rfl,h64,ok,rfl⟩:=ziE e
 obtain ⟨v,rfl,q1⟩:=r.one_inv
 obtain ⟨l,ws,rfl,h1,r1⟩:=q1.lst_inv
 obtain ⟨as,rfl,hl,ht⟩:=zgq r1
 refine ⟨l,as,qs,rfl,s.seq h1,hl,fun i a q e1 e2=>zc4 s (ht i a q e1 e2),ok,h64,fun π p hπ hp=>?_⟩
 have hb:∀ i ∈ π,i < qs.length:=fun i hi=>List.mem_range.mp (hπ.1.mem_iff.mp hi)
 have rr:=(zgr hl ht π hb).mono (zaO (s.free hp):Same G (upd G p (.lst (π.map fun i=>V.ref (as.getD i 0)))))
 rw [zlC ok hπ] at rr
 exact k _ _ _ (Ext.new s hp) (.lst (SqL.of zaD) rr)
theorem zc5.or {f:Value} {p q:List D->Option D} (h1:zc5 X f p) (h2:zc5 X f q):zc5 X f (fun xs=>(p xs).orElse fun _=>q xs):=by
 obtain ⟨r1,c1,k1⟩:=h1
 obtain ⟨r2,c2,k2⟩:=h2
 refine ⟨fun xs H Q=>r1 xs H Q ∨ r2 xs H Q,fun pins s σ H xs us Q I rx h=>?_,fun vs G H ds d Q s r e k=>?_⟩
 ·rcases h with h | h
  ·exact c1 pins s σ H xs us Q I rx h
  ·exact c2 pins s σ H xs us Q I rx h
 ·dsimp only at e
  cases z:p ds with
  | some d'=>rw [z] at e;cases e;exact .inl (k1 vs G H ds _ Q s r z k)
  | none=>rw [z] at e;exact .inr (k2 vs G H ds _ Q s r e k)
def zg9 (xs:List D):Option D:=(zet xs).orElse fun _=>zgp xs
theorem zml:zc5 X (.builtin "sorted") zg9:=znd.or znk
theorem zeZ {ns:List Int} (h:ns.length < 64):zg9 [.list (ns.map .int)]=some (.list ((zcs ns).map .int)):=by unfold zg9;rw [zj0 h];rfl
theorem zkc {qs:List (Int × Int)} (h:qs.length < 64) (ok:∀ q ∈ qs,okP q):zg9 [.list (qs.map duoD)]=some (.list ((zfs qs).map duoD)):=by
 cases qs with
 | nil =>
  have e1:zfs []=[]:=by unfold zfs;simp
  have e2:zcs []=[]:=by unfold zcs;simp
  have:=zeZ (ns:=[]) (by decide)
  rw [e2] at this
  rw [e1];exact this
 | cons q r =>
  have e1:zet [.list ((q :: r).map duoD)]=none:=rfl
  unfold zg9
  rw [e1,Option.orElse]
  unfold zgp
  dsimp only
  rw [zdW]
  exact if_pos ⟨h,List.all_eq_true.mpr fun q hq=>decide_eq_true (show -1000000<=q.2/\q.2<=1000000 from ok q hq)⟩
end
section
variable {X:Cx}
end
section
variable {X:Cx} {B G0:Hp} {e o a b c tg:Expr} {pos p2:Pos} {es rest:List Expr} {te to ti:TE}
def ziF {β : Type} (p:D->D->Option β) (f:M D) (j:Nat):M β:=zav f fun x=>fun ρ=>match ρ[j]? with
 | some (some (.pub d))=>mOpt (p x d) ρ
 | some (some (.own ds))=>mOpt (p x (.list ds)) ρ
 | _=>.bad
theorem zpS {K:PySem.W.Frag} {σ : St} {H:Hp} {p:D->D->Option Bool} {r:R2} {j:Nat} {f:M D} {Q:Bool->Hp->Prop} {QV:VK} (hq:∀ t H3,Q t H3->QV (.bl t) H3)
  (hr:∀ v u G H x y d Q,Same G H->Rep K G v x->Rep K G u y->p x y=some d->Q (.bl d) H->r v u H Q)
  (q:tBo K B G0 (ziF p f j) σ H Q):tD K B G0 f σ H fun x H1=>tVar j σ H1 fun y H2=>r x y H2 QV:=by
 refine tM.one (R:=Rep K) q fun v H2 G ρ x k rx a=>?_
 cases z : ρ[j]? with
 | none=>rw [z] at a;exact a.elim
 | some o =>
  cases o with
  | none=>rw [z] at a;exact a.elim
  | some sl =>
   cases sl with
   | pub d =>
    rw [z] at a
    dsimp only at a
    obtain ⟨d',e',a'⟩:=aft.opt a
    obtain ⟨u,h1,h2⟩:=k.pub j d z
    exact ⟨u,h1,hr v u G H2 x d d' _ k.gh rx h2 e' (hq _ _ (a' d' G H2 k (.refl _) rfl))⟩
   | own ds =>
    rw [z] at a
    dsimp only at a
    obtain ⟨d',e',a'⟩:=aft.opt a
    obtain ⟨ad,vs,h1,h2,h3,h4,h5⟩:=k.own j ds z
    exact ⟨.ref ad,h1,hr v (.ref ad) H2 H2 x (.list ds) d' _ (.refl _) (rx.mono k.gh) (.lst (SqL.of h4) (h5.mono k.gh)) e' (hq _ _ (a' d' G H2 k (.refl _) rfl))⟩
theorem znl {op:CmpOp} {p:D->D->Option Bool} {j:Nat} {f:M D} (o:OpB X (compareOp op) p) (ha:PE X a (tD X.K B G0 f)) (hb:PE X b (tVar j)) (hm:behindInMarks op b=false) :
  PT X (.Compare a [op] [b] pos) (tBo X.K B G0 (ziF p f j)):=by
 obtain ⟨r,h,i⟩:=o
 exact ptof (zgO h ha hb hm) fun σ H Q q=>zpS (fun t H3 z=>⟨t,rfl,z⟩) i q
theorem zhX {β : Type} {p:D->D->Option β} {f:M D} {j:Nat} {ρ ρ1:DEnv} {x:D} {ds:List D} {r : β} (h1:f ρ = .ok x ρ1) (h2 : ρ1[j]?=some (some (.own ds))) (h3:p x (.list ds)=some r):ziF p f j ρ = .ok r ρ1:=by
 unfold ziF;exact zay h1 (by rw [h2];exact zby h3)
end
section
variable {X:Cx} {B G0:Hp} {e o a b c tg:Expr} {pos p2:Pos} {es rest:List Expr}
end
end DL
namespace HT
open PySem PyProof.Rows
section
open PySem.SeqAt
open PySem.AutoSeq1 (wpAny_loadPart')
open PySem.MeetsSeq PySem.MeetsSeq2 PySem.MeetsSeq3
end
section
variable {prog:Program} {w:World} {A:Around} {E:Value->Shared->Prop} {s:Shared}
end
end HT
namespace DL
open PySem PySem.Spec L2
open PyProof.Rows hiding St
section
variable {X:Cx}
end
section
variable {X:Cx}
end
end DL
namespace DL
open PySem
theorem lz0 {P:List Value->Prop} {us:List Value} (hl:us.length=0) (h:P []):P us:=by
 cases us with
 | nil=>exact h
 | cons a r=>cases hl
theorem lzS {P:List Value->Prop} {us:List Value} {n:Nat} (hl:us.length=n+1) (h:∀ a r,r.length=n->P (a :: r)):P us:=by
 cases us with
 | nil=>cases hl
 | cons a r=>exact h a r (Nat.succ.inj hl)
theorem lz1 {P:List Value->Prop} {us:List Value} (hl:us.length=1) (h:∀ a,P [a]):P us:=lzS hl fun a r e=>lz0 (P:=fun r=>P (a :: r)) e (h a)
theorem lz2 {P:List Value->Prop} {us:List Value} (hl:us.length=2) (h:∀ a b,P [a,b]):P us:=lzS hl fun a r e=>lz1 (P:=fun r=>P (a :: r)) e (h a)
theorem lz3 {P:List Value->Prop} {us:List Value} (hl:us.length=3) (h:∀ a b c,P [a,b,c]):P us:=lzS hl fun a r e=>lz2 (P:=fun r=>P (a :: r)) e (h a)
theorem lz4 {P:List Value->Prop} {us:List Value} (hl:us.length=4) (h:∀ a b c d,P [a,b,c,d]):P us:=lzS hl fun a r e=>lz3 (P:=fun r=>P (a :: r)) e (h a)
theorem lz5 {P:List Value->Prop} {us:List Value} (hl:us.length=5) (h:∀ a b c d e,P [a,b,c,d,e]):P us:=lzS hl fun a r e=>lz4 (P:=fun r=>P (a :: r)) e (h a)
theorem bz1 {fd:FuncData} {ps:List Str} {us:List Value} (hl:us.length=1) (h:∀ a,bindArgs fd { pos:=[a] }=pure (ps.zip [a])):bindArgs fd { pos:=us }=pure (ps.zip us):=lz1 (P:=fun us=>bindArgs fd { pos:=us }=pure (ps.zip us)) hl h
theorem bz2 {fd:FuncData} {ps:List Str} {us:List Value} (hl:us.length=2) (h:∀ a b,bindArgs fd { pos:=[a,b] }=pure (ps.zip [a,b])):bindArgs fd { pos:=us }=pure (ps.zip us):=lz2 (P:=fun us=>bindArgs fd { pos:=us }=pure (ps.zip us)) hl h
theorem bz3 {fd:FuncData} {ps:List Str} {us:List Value} (hl:us.length=3) (h:∀ a b c,bindArgs fd { pos:=[a,b,c] }=pure (ps.zip [a,b,c])):bindArgs fd { pos:=us }=pure (ps.zip us):=lz3 (P:=fun us=>bindArgs fd { pos:=us }=pure (ps.zip us)) hl h
theorem bz4 {fd:FuncData} {ps:List Str} {us:List Value} (hl:us.length=4) (h:∀ a b c d,bindArgs fd { pos:=[a,b,c,d] }=pure (ps.zip [a,b,c,d])):bindArgs fd { pos:=us }=pure (ps.zip us):=lz4 (P:=fun us=>bindArgs fd { pos:=us }=pure (ps.zip us)) hl h
theorem bz5 {fd:FuncData} {ps:List Str} {us:List Value} (hl:us.length=5) (h:∀ a b c d e,bindArgs fd { pos:=[a,b,c,d,e] }=pure (ps.zip [a,b,c,d,e])):bindArgs fd { pos:=us }=pure (ps.zip us):=lz5 (P:=fun us=>bindArgs fd { pos:=us }=pure (ps.zip us)) hl h
end DL
namespace DL
open PySem PySem.Spec L2
open PyProof.Rows hiding St
def whole (h:Heap):PySem.W.Frag:=(List.range h.objs.size).filterMap fun a=>(h.get? a).map fun o=>(a,o)
theorem zgs {g:Addr->Option Obj} {x:Addr}:∀ l:List Addr,(l.filterMap fun a=>(g a).map fun o=>(a,o)).lookup x=if x ∈ l then g x else none
 | []=>rfl
 | y :: l=>by
  have ih:=zgs (g:=g) (x:=x) l
  by_cases e:x=y
  ·subst e
   rw [if_pos List.mem_cons_self]
   cases z:g x with
   | none=>rw [List.filterMap_cons_none (by rw [z];rfl),ih,z];split <;> rfl
   | some o=>rw [List.filterMap_cons_some (by rw [z];rfl),List.lookup_cons,beq_self_eq_true]
  ·have m:(x ∈ y :: l)=(x ∈ l):=by simp [List.mem_cons,e]
   have b:(x == y)=false:=by simpa using e
   have ih':(if x ∈ y :: l then g x else none)=_:=(by simp only [m];exact ih.symm)
   rw [ih']
   cases z:g y with
   | none=>rw [List.filterMap_cons_none (by rw [z];rfl)]
   | some o=>rw [List.filterMap_cons_some (by rw [z];rfl),List.lookup_cons,b]
theorem zcV {h:Heap} {a:Addr}:(whole h).lookup a=h.get? a:=by
 unfold whole
 rw [zgs]
 split
 ·rfl
 ·rename_i n
  cases z:h.get? a with
  | none=>rfl
  | some o=>exact absurd (List.mem_range.mpr (Heap.lt_size z)) n
theorem zlE (h:Heap):(whole h).In h:=fun a o e=>by rw [zcV] at e;exact e
def zpT (st:Stmt):Option DefRec:=match st with
 | .FunctionDef name a b _ _ _ sc _ _ pos=>some ⟨name,a,b,sc,pos⟩
 | _=>none
def zkd (st:Stmt):Option Str:=match st with
 | .FunctionDef name _ _ _ _ _ _ _ _ _=>some name
 | _=>none
def zpU (st:Stmt):Pos:=match st with
 | .FunctionDef _ _ _ _ _ _ _ _ _ pos=>pos
 | _=>⟨0,0,0,0⟩
abbrev stAt (p:Program) (i:Nat):Stmt:=p.main.body.getD i (.Pass ⟨0,0,0,0⟩)
def zgt (p:Program) (ix:List Nat):List DefRec:=ix.filterMap fun i=>zpT (stAt p i)
section
variable {p q:Program} {loose:List Str} {mean:ExcName->Option Value} {mg mb:Str->Option Value} {h:Heap} {w:World}
theorem zmm {ix:List Nat} (T:Top q loose mean mg mb h) (e:recsOf q=zgt p ix) (i:Nat) (x:Str) (hi:ix.contains i=true) (hn:zkd (stAt p i)=some x):∃ f fd,mg x=some (.ref f)/\Fun (whole h) x x (stAt p i) f fd:=by
 cases hs:stAt p i with
 | FunctionDef name a b _ _ _ sc _ _ pos =>
  rw [hs] at hn
  cases hn
  have hd:(⟨x,a,b,sc,pos⟩:DefRec) ∈ recsOf q:=by
   rw [e]
   exact List.mem_filterMap.mpr ⟨i,by simpa using hi,by rw [hs];rfl⟩
  obtain ⟨f,⟨oc,od,dt,osl⟩,pm,cd,doc,h1,h2,h3,h4⟩:=T.fn _ hd
  have h3:dt=_:=h3
  subst h3
  refine ⟨f,_,h1,⟨⟨oc,od,.none,doc,pm,_,cd,_,osl,rfl,by rw [zcV];exact h2,?_⟩,?_⟩⟩
  ·obtain ⟨c,⟨_,_,dc,_⟩,vs,t,rfl,g1,g2,g3⟩:=h4
   have g2:dc=_:=g2
   subst g2
   unfold PySem.W.codeIn
   dsimp only
   rw [zcV,g1]
   dsimp only
   have g4:vs.toList[1]?=some (.str x t):=by rw [Array.getElem?_toList];exact g3
   cases hv:vs.toList with
   | nil=>rw [hv] at g4;cases g4
   | cons v0 r =>
    rw [hv] at g4
    cases r with
    | nil=>cases g4
    | cons v1 r=>cases g4;exact beq_self_eq_true _
  ·unfold PySem.W.keepIn
   dsimp only
   rw [zcV,h2]
 | _=>rw [hs] at hn;cases hn
theorem zke {K:PySem.W.Frag} {x qual y:Str} {st:Stmt} {f:Addr} {fd:FuncData} (F:Fun K x qual st f fd)
  (hb:∀ (kV doc pm:Value) (an:Option Addr) (cdv ct v:Value),bindArgs (PySem.W.fnOf x qual (zdC st) (zcK st) (zal st) .none kV doc pm an cdv ct) ⟨[v],[]⟩=pure [(y,v)]) (s:Shared) (v:Value):BindsTo s fd ⟨[v],[]⟩ [(y,v)]:=by
 obtain ⟨oc,od,kV,doc,pm,an,cdv,ct,osl,rfl,lk,hcd⟩:=F.ex
 exact .of_eq (hb kV doc pm an cdv ct v)
def zlF (q:Program) (loose:List Str) (x:Str):Bool :=
 !startupNames.contains x && !loose.contains x && !((recsOf q).map (·.name)).contains x && !((litsOf q).map (·.1)).contains x && !((clssOf q loose).map (·.name)).contains x
theorem zbM (T:Top q loose mean mg mb h) {xs:List Str} (e:xs.all (zlF q loose)=true) {x:Str} (hx:x ∈ xs):mg x=none:=by
 have:=List.all_eq_true.mp e x hx
 unfold zlF at this
 simp only [Bool.and_eq_true,Bool.not_eq_true',List.contains_eq_mem,decide_eq_false_iff_not] at this
 exact T.free x this.1.1.1.1 this.1.1.1.2 this.1.1.2 this.1.2 this.2
theorem zdt (T:Top q loose mean mg mb h) {x:Str} {i:Int} (e:valOf q x=some (.int i)):∃ t,mg x=some (.int i t):=by
 obtain ⟨v,h1,h2⟩:=T.const x _ e
 have:=h2 h
 cases this
 exact ⟨_,h1⟩
theorem zoK:∀ {vs:List Value} {ss:List Str},StrsAre vs ss->Vals (ss.map V.str) vs
 | _,_,.nil=>.nil
 | _,_,.cons y t r=>.cons ⟨t,rfl⟩ (zoK r)
theorem zkf (B:Tables q w mg h) {x:Str} {ss:List Str} (e:tupStrsOf q x=some ss) (hl:ss.length<=1000) :
  ∃ ad o its n,mg x=some (.ref ad)/\(whole h).lookup ad=some o/\o.cls=.type "tuple" /\ o.data=.seq its n/\its.size<=sizeLine/\Vals (ss.map V.str) its.toList:=by
 obtain ⟨a,vs,h1,⟨o,h2,h3,n,h4⟩,h5⟩:=B.tupS x ss e
 have r:=zoK h5
 refine ⟨a,o,_,n,h1,by rw [zcV];exact h2,h3,h4,?_,r⟩
 have:=r.length
 rw [List.length_map] at this
 have l:(1000:Nat)<=sizeLine:=by decide
 rw [List.size_toArray]
 omega
end
def scOk (sc:Scope) (N gl:List Str):Bool:=(N.all fun x=>match sc.names.lookup x with | some .local=>true | some .cell=>true | _=>false) && gl.all fun x=>match sc.names.lookup x with | some .globalImplicit=>true | _=>false
def fnB (sc:Scope) (N gl:List Str):Bool:=decide (sc.kind=.function) && !sc.isCoroutine && !sc.isGenerator && decide N.Nodup && (sc.names.all fun y=>match y.2 with | .free=>false | _=>true) && scOk sc N gl
structure FnNm (sc:Scope) (N gl:List Str):Prop where
 kind:sc.kind=.function
 co:sc.isCoroutine=false
 gen:sc.isGenerator=false
 nd:N.Nodup
 nofree:∀ y ∈ sc.names,y.2 ≠ .free
 nm:∀ x ∈ N,sc.names.lookup x=some .local ∨ sc.names.lookup x=some .cell
 gl:∀ x ∈ gl,sc.names.lookup x=some .globalImplicit
theorem zaR {sc:Scope} {N gl:List Str} (H:fnB sc N gl=true):FnNm sc N gl:=by
 unfold fnB scOk at H
 simp only [Bool.and_eq_true,decide_eq_true_eq,Bool.not_eq_true',List.all_eq_true] at H
 obtain ⟨⟨⟨⟨⟨h1,h2⟩,h3⟩,h4⟩,h5⟩,h6,h7⟩:=H
 refine ⟨h1,h2,h3,h4,fun y hy e=>?_,fun x hx=>?_,fun x hx=>?_⟩
 ·have:=h5 y hy;rw [e] at this;cases this
 ·have:=h6 x hx
  split at this
  ·rename_i e;exact .inl e
  ·rename_i e;exact .inr e
  ·cases this
 ·have:=h7 x hx
  split at this
  ·rename_i e;exact e
  ·cases this
section
variable {sc:Scope} {N gl:List Str} {x:Str}
theorem nq (H:FnNm sc N gl):N.Nodup:=H.nd
theorem fq (H:FnNm sc N gl) (n:Nat):zed N (N.take n) sc:=⟨H.kind,H.co,H.gen,H.nd,by rw [List.length_take,List.take_eq_take_iff];omega,fun x hx=>H.nm x (List.mem_of_mem_take hx),H.nofree⟩
theorem lq (H:FnNm sc N gl) (i:Nat) (h:N[i]?=some x:=by rfl):L2.Loc sc x:=H.nm x (List.mem_of_getElem? h)
theorem gq (H:FnNm sc N gl) (i:Nat) (h:gl[i]?=some x:=by rfl):sc.names.lookup x=some .globalImplicit:=H.gl x (List.mem_of_getElem? h)
theorem pq {X:Cx} {pos:Pos} (H:FnNm X.env.scope X.N gl) (i:Nat) (h:X.N[i]?=some x:=by rfl) (hd:(x == ("__debug__" : Str))=false:=by decide) (hc:(x == ("__classdict__" : Str))=false:=by decide):PE X (.Name x pos) (tVar i) :=
 zl6 h ((H.nm x (List.mem_of_getElem? h)).elim .inl fun z=>.inr (.inl z)) hd hc
end
theorem zbk {q p:Program} {loose:List Str} {mean:ExcName->Option Value} {mg mb:Str->Option Value} {h:Heap} {ix:List Nat} (P:Program) (w:World) (base:Heap) {ps:List Str} {k n:Nat} {F:List D->Option D} (T:Top q loose mean mg mb h) (e:recsOf q=zgt p ix) (i:Nat) (x:Str) (hi:ix.contains i=true) (hn:zkd (stAt p i)=some x)
  (ok:∀ {f:Addr} {fd:FuncData},Fun (whole h) x x (stAt p i) f fd->FnOk P w (whole h) mg base CX0 k f fd ps (spD (whole h) n F))
  (hb:∀ (kV doc pm:Value) (an:Option Addr) (cdv ct:Value) (us:List Value),us.length=ps.length->bindArgs (PySem.W.fnOf x x (zdC (stAt p i)) (zcK (stAt p i)) (zal (stAt p i)) .none kV doc pm an cdv ct) ⟨us,[]⟩=pure (ps.zip us)):Def P w (whole h) mg base x k n F:=by
 obtain ⟨f,fd,m,FU⟩:=zmm T e i x hi hn
 exact Def.mk m FU (FU.binds hb) (ok FU)
section
variable {X:Cx} {B G0:Hp} {e:Expr} {pos:Pos} {es:List Expr}
theorem pdf {k kk n:Nat} {F:List D->Option D} {g:M (List D)} {x:Str} {p2:Pos} (d:Def X.prog X.w X.K X.mg X.base x k n F) (hr:Room kk X.A) (hg:Gl X x) (ha:PA X (e :: es) (tDs X.K B G0 g)) (hk:k<=kk:=by decide) (hn:(e :: es).length=n:=by rfl)
  (hdb:(x == ("__debug__" : Str))=false:=by decide) (he:starEach (e :: es) X.env=(false,eval e X.env) :: starEach es X.env:=by rfl) (hpl:(backTo pos (starEach es X.env)).any (·.1)=false:=by rfl) :
  PE X (.Call (.Name x p2) (e :: es) [] pos) (tD X.K B G0 (dFun n F g)):=zm7 d (hr.mono hk) hg ha hn hdb he hpl
end
theorem zpV {q p:Program} {loose:List Str} {mean:ExcName->Option Value} {mg mb:Str->Option Value} {h:Heap} {ix:List Nat} {P:Program} {w:World} {k:Nat} {F:List D->Option D} {y:Str} {fa:Addr} (T:Top q loose mean mg mb h) (e:recsOf q=zgt p ix) (i:Nat) (x:Str) (hi:ix.contains i=true) (hn:zkd (stAt p i)=some x) (hfa:mg x=some (.ref fa))
  (hb:∀ (kV doc pm:Value) (an:Option Addr) (cdv ct v:Value),bindArgs (PySem.W.fnOf x x (zdC (stAt p i)) (zcK (stAt p i)) (zal (stAt p i)) .none kV doc pm an cdv ct) ⟨[v],[]⟩=pure [(y,v)])
  (ok:∀ (base:Heap) {f:Addr} {fd:FuncData},Fun (whole h) x x (stAt p i) f fd->FnOk P w (whole h) mg base CX0 k f fd [y] (spD (whole h) 1 F)) :
  ∃ fd:FuncData,(∀ (s:Shared) (v:Value),BindsTo s fd ⟨[v],[]⟩ [(y,v)])/\∀ base:Heap,FnOk P w (whole h) mg base CX0 k fa fd [y] (spD (whole h) 1 F):=by
 obtain ⟨f,fd,m,FU⟩:=zmm T e i x hi hn
 cases hfa.symm.trans m
 exact ⟨fd,zke FU hb,fun base=>ok base FU⟩
theorem zlG {l:PySem.W.OpenLaw} {n k:Nat} {q:Program} {loose:List Str} {XP:(Str->Option Value)->Heap->Prop} {YP:World->Heap->Prop} {d:DefRec} {F:List D->Option D} {x:Str}
  (hn:l.most=some n) (hn2:n<=sizeLine) (hdf:d.params.defaults=[]) (hr:Room k callerA)
  (hF:∀ (w:World) (s₀ : Shared) (mg mb:Str->Option Value) (fa:Addr) (h:Heap),PySem.W.Ground q loose [] XP w s₀ mg mb h->mg d.name=some (.ref fa) ->
   ∃ fd:FuncData,(∀ (s:Shared) (u:Value),BindsTo s fd ⟨[u],[]⟩ [(x,u)])/\∀ base:Heap,FnOk l.prog w (whole h) mg base CX0 k fa fd [x] (spD (whole h) 1 F))
  (hl:∀ ns:List Int,ns.length<=n->F [.list (ns.map PyData.int)]=some (.bool true)) :
  PySem.W.WalkO q loose XP YP l.row.toRowW d [] (fun f vs=>PySem.call f vs):=by
 refine Att.attach_call hn hdf fun w s₀ s₁ mg mb fa o pm cd doc a vs ns G Y ho hd hcd hmg hobj hints hlen hg=>?_
 obtain ⟨fd,hb,hF⟩:=hF w s₀ mg mb fa _ G hmg
 exact zlb (zlE _) G.T.g G.T.b G.T.builtins G.T.nolimit hg hobj hints (Nat.le_trans hlen hn2) hr (fun base _ _=>hF base) hb (fun H hO hS=>zot hS (hl ns hlen)) fun H e s' z=>z
section
variable {K:PySem.W.Frag} {G H H':Hp} {nm:Str} {C a:Addr} {bm:List Value} {vs:List V} {ds fs:List D} {dd:Option Addr}
end
section
variable {X:Cx} {B G0:Hp} {KX:XW} {e a b c:Expr} {pos p2 cpos:Pos} {es:List Expr} {st:Stmt} {sts:List Stmt} {nm x:Str} {k kk n:Nat}
end
section
variable {K:PySem.W.Frag} {B G0 G H:Hp} {σ : St} {ρ : DEnv}
end
section
variable {X:Cx} {B G0:Hp} {KX:XW} {e a b c:Expr} {pos p2 cpos np hpos:Pos} {es:List Expr} {x n:Str} {k kk:Nat}
end
section
variable {P:Program} {w:World} {K:PySem.W.Frag} {mg:Str->Option Value} {base:Heap} {st:Stmt} {f f0 D:Addr} {fd fd0:FuncData} {q:Str} {p1 p2 p3 p4 p5 p6 p7 p8 p9 r1 r2 r3 r4 r5 r6 r7 r8 r9 q1 q2:Pos} {j1 j2:Nat}
end
section
variable {h h':Heap} {nm:Str} {own:Option Stmt} {C N:Addr} {bm:List Value} {mN:Str->Option Value}
end
section
variable {h h':Heap} {nm:Str} {own ownD:Option Stmt} {C N D ND:Addr} {bm:List Value} {mN mD:Str->Option Value} {M:Model}
end
section
variable {h:Heap} {mg:Str->Option Value} {p:Program} {l:XL0} {i j:Nat} {c:Str × Option Nat} {p1 p2 p3 p4 p5 p6 p7 p8 p9 r1 r2 r3 r4 r5 r6 r7 r8 r9 q1 q2:Pos} {j1 j2:Nat}
end
section
variable {α β : Type} {ρ ρ1 ρ2 ρ3 ρ':DEnv} {f:M D} {s t:SM} {Q:Out->Prop} {d:D} {ds fs:List D} {nm x:Str} {o:Out}
theorem zlH {c:String} {t:Bool} (h:f ρ = .ok d ρ1) (ht:isTy d c=t):mMap (fun d=>PyData.bool (isTy d c)) f ρ = .ok (PyData.bool t) ρ1:=by subst ht;exact zaW (k:=fun d=>PyData.bool (isTy d c)) h
theorem zkg {c:String} {kvs:List (D × D)} (h:f ρ = .ok (.dict kvs) ρ1) (hc:(("dict" == c) || ("" == c))=false:=by decide):mMap (fun d=>PyData.bool (isTy d c)) f ρ = .ok (PyData.bool false) ρ1:=zlH h (nty hc)
theorem zha {c:String} {kvs:List (D × D)} (h:f ρ = .ok (.dict kvs) ρ1) (hc:(("dict" == c) || ("" == c))=false:=by decide):mNot (zbb (mMap (fun d=>.bool (isTy d c)) f)) ρ = .ok true ρ1:=zbg h (by rw [nty hc];rfl)
end
section
variable {X:Cx} {B G0:Hp} {KX:XW} {e o a b c:Expr} {pos p2:Pos} {es rest:List Expr}
end
end DL
namespace L2
open PySem PySem.Spec PyProof.Rows
end L2
namespace DL
open PySem PySem.Spec L2
open PyProof.Rows hiding St
def zlI:D->Option Key
 | .int i=>some (.inl i)
 | .str x=>some (.inr x)
 | _=>none
def zdu:List D->Option (List Key)
 | []=>some []
 | d :: r=>match zlI d,zdu r with
  | some k,some ks=>some (k :: ks)
  | _,_=>none
section
variable {K:PySem.W.Frag} {B G0 G H:Hp} {σ : St} {ρ : DEnv}
theorem zfu {d:D} {k:Key} (h:zlI d=some k):d=kD k:=by
 cases d with
 | int i=>cases h;rfl
 | str x=>cases h;rfl
 | _=>cases h
theorem Rep.key_inv {v:V} {k:Key} (r:Rep K G v (kD k)):v=kV k:=by
 cases k with
 | inl i=>exact r.int_inv
 | inr x=>exact r.str_inv
end
section
variable {X:Cx} {B G0:Hp} {KX:XW} {e o a b c:Expr} {pos p2:Pos} {es rest:List Expr}
end
section
variable {X:Cx} {B G0:Hp} {KX:XW} {e o a b c:Expr} {pos p2 cpos:Pos} {es rest:List Expr}
end
section
variable {X:Cx}
end
end DL
namespace DL
open PySem PySem.Spec L2 PySem.SeqAt PySem.AutoSeq1
open PyProof.Rows hiding St
section
variable {X:Cx} {pins:List (Addr × Obj)} {s:Shared} {σ : L2.St} {G H:Hp} {A:Around}
end
section
variable {X:Cx} {pins:List (Addr × Obj)} {s:Shared} {σ : L2.St} {G H:Hp} {A:Around}
end
end DL
namespace DL
open PySem PySem.Spec L2
open PyProof.Rows hiding St
section
variable {X:Cx} {pins:List (Addr × Obj)} {s:Shared} {σ : L2.St} {G H:Hp}
end
section
variable {X:Cx}
end
section
variable {X:Cx} {B G0:Hp} {KX:XW} {e:Expr} {pos cpos:Pos} {sts sts2:List Stmt}
end
end DL
namespace L2
open PySem PySem.Spec PyProof.Rows
section
variable {prog:Program} {w:World} {A:Around} {E:Value->Shared->Prop} {s:Shared} {d it:Addr} {o:Obj} {es:Array DictEntry} {ep i:Nat}
theorem znm {Q:Value->Shared->Prop} (hd:(d == sysModules)=false) (ho:s.heap.get? d=some o) (hc:o.ExactDict) (hdat:o.data=.dict es ep)
  (hQ:Q (.ref s.heap.objs.size) { s with heap:=s.heap.push { cls:=.type "dict_keyiterator", data:=.fields #[.ref d,.int 0 0,.int es.size 0,.int ep 0] } }):wpAny (model prog w) A (pyIter (.ref d)) Q E s:=by
 have hT:s.TypeIs (.ref d) "dict" := ⟨o,ho,hc.1⟩
 refine wpAny_pyIter_slot hT F.slot_dict_iter (wpAny_call_entry F.slot_dict_iter hT F.entry_dict_iter ?_ (F.args_dict_iter_1 _))
 unfold Builtin.«dict.__iter__»;refine wpAny_bind ?_;unfold Builtin.Dict.dictSlotNone
 refine wpAny_bind (wpAny_notOrdered_dict hT ?_);show wpAny _ _ (pure (Value.ref d)) _ _ s;refine wpAny_pure ?_;show wpAny _ _ (Builtin.Dict.showsAll d >>= _) _ _ s
 unfold Builtin.Dict.showsAll;rw [if_neg (by rw [hd];exact Bool.false_ne_true)];refine wpAny_bind (wpAny_pure ?_)
 refine wpAny_bind (wpAny_dictEntries ho hdat (wpAny_bind (wpAny_dictEpoch ho hdat ?_)))
 refine wpAny_bind (wpAny_newObj_type (wpAny_pure ⟨_,rfl, "dict_keyiterator", _,⟨_,Heap.get?_push_size _ rfl,rfl⟩,F.slot_dict_keyiterator_next.lookup,?_⟩));simpa [rawInt] using hQ
theorem znn {Q:Option Value->Shared->Prop} (hit:s.heap.IsKeyIter it d i es.size ep) (hod:s.heap.get? d=some o) (hdd:o.data=.dict es ep) (hlt:i < es.size)
  (hQ:∀ h',h'.IsKeyIter it d (i+1) es.size ep->Heap.SameBut it s.heap h'->Q (some es[i].key) { s with heap:=h' }):wpAny (model prog w) A (pyNext (.ref it)) Q E s:=by
 obtain ⟨oi,ho,hc,hd⟩:=id hit
 unfold pyNext;refine wpAny_bind (wpAny_attempt (wpAny_callSpecial?_slot (name:=Str.ofString "__next__") hit.typeIs F.slot_dict_keyiterator_next (wpAny_call_entry F.slot_dict_keyiterator_next hit.typeIs F.entry_dict_keyiterator_next ?_ (F.args_dict_keyiterator_next_1 _))))
 refine wpAny_bind (wpAny_pure (wpAny_bind (wpAny_bind ?_)))
 first | refine wpAny_bind (wpAny_typeNameOfWhole_keyiter hit.typeIs (wpAny_pure (wpAny_bind (wpAny_fieldsOf ho hd ?_)))) | refine wpAny_bind (wpAny_typeNameOf_keyiter hit.typeIs (wpAny_pure (wpAny_bind (wpAny_fieldsOf ho hd ?_))))
 have hown:Builtin.Dict_items.ownsTuple "dict_keyiterator" = false:=(by decide)
 simp only [hown,Bool.false_eq_true,if_false];show wpAny _ _ (if (Value.ref d == Value.none)=true then _ else _) _ _ s
 rw [if_neg (show ¬ ((Value.ref d == Value.none)=true) from Bool.false_ne_true)];refine wpAny_bind (wpAny_pure (wpAny_bind (wpAny_dictEntries hod hdd ?_)))
 rw [if_neg (by simp)];refine wpAny_bind (wpAny_pure (wpAny_bind (wpAny_dictEpoch hod hdd ?_)));rw [if_neg (by simp)];refine wpAny_pure ?_
 simp only [show ¬ ((i:Int) < 0) from by omega,if_false,Int.toNat_natCast,Array.getElem?_eq_getElem hlt];refine wpAny_bind ?_
 first | refine wpAny_bind (wpAny_typeNameOfWhole_keyiter hit.typeIs (wpAny_pure (wpAny_bind (wpAny_isOneOf_keyiter hit.typeIs ?_)))) | refine wpAny_bind (wpAny_typeNameOf_keyiter hit.typeIs (wpAny_pure (wpAny_bind (wpAny_isOneOf_keyiter hit.typeIs ?_))))
 show wpAny _ _ (setField (.ref it) 1 (rawInt ((i:Int)+1)) >>= _) _ _ s;refine wpAny_bind (wpAny_setField ho hd (by simp) ?_)
 have hit':(s.heap.update it (Obj.mapFields (·.setIfInBounds 1 (rawInt ((i:Int)+1))))).IsKeyIter it d (i+1) es.size ep:=⟨_,Heap.get?_update_self _ ho (Obj.isFreed_of_fields (Obj.data_mapFields hd _)),(Obj.cls_mapFields ..).trans hc,by rw [Obj.data_mapFields hd];simp [rawInt]⟩
 refine wpAny_bind (wpAny_holding (wpAny_bind (wpAny_isOneOf_keyiter (s:={ s with heap:=s.heap.update it (Obj.mapFields (·.setIfInBounds 1 (rawInt ((i:Int)+1)))) }) hit'.typeIs ?_)));show wpAny _ _ (pure es[i].key) _ _ _
 exact wpAny_pure (wpAny_pure ⟨_,rfl,wpAny_pure (hQ _ hit' (Heap.SameBut.update ..))⟩)
theorem zoL {Q:Option Value->Shared->Prop} (hh:A.handled=none) (hit:s.heap.IsKeyIter it d i es.size ep) (hod:s.heap.get? d=some o) (hdd:o.data=.dict es ep) (hge:es.size<=i)
  (hQ:∀ h',Heap.ExtBut it s.heap h'->Q none { s with heap:=h' }):wpAny (model prog w) A (pyNext (.ref it)) Q E s:=by
 obtain ⟨oi,ho,hc,hd⟩:=id hit
 unfold pyNext;refine wpAny_bind (wpAny_attempt (wpAny_callSpecial?_slot (name:=Str.ofString "__next__") hit.typeIs F.slot_dict_keyiterator_next (wpAny_call_entry F.slot_dict_keyiterator_next hit.typeIs F.entry_dict_keyiterator_next ?_ (F.args_dict_keyiterator_next_1 _))))
 refine wpAny_bind (wpAny_pure (wpAny_bind (wpAny_bind ?_)))
 first | refine wpAny_bind (wpAny_typeNameOfWhole_keyiter hit.typeIs (wpAny_pure (wpAny_bind (wpAny_fieldsOf ho hd ?_)))) | refine wpAny_bind (wpAny_typeNameOf_keyiter hit.typeIs (wpAny_pure (wpAny_bind (wpAny_fieldsOf ho hd ?_))))
 have hown:Builtin.Dict_items.ownsTuple "dict_keyiterator" = false:=(by decide)
 simp only [hown,Bool.false_eq_true,if_false];show wpAny _ _ (if (Value.ref d == Value.none)=true then _ else _) _ _ s
 rw [if_neg (show ¬ ((Value.ref d == Value.none)=true) from Bool.false_ne_true)];refine wpAny_bind (wpAny_pure (wpAny_bind (wpAny_dictEntries hod hdd ?_)))
 rw [if_neg (by simp)];refine wpAny_bind (wpAny_pure (wpAny_bind (wpAny_dictEpoch hod hdd ?_)));rw [if_neg (by simp)];refine wpAny_pure ?_
 simp only [show ¬ ((i:Int) < 0) from by omega,if_false,Int.toNat_natCast,Array.getElem?_eq_none hge];refine wpAny_bind ?_
 first | refine wpAny_bind (wpAny_typeNameOfWhole_keyiter hit.typeIs (wpAny_pure ?_)) | refine wpAny_bind (wpAny_typeNameOf_keyiter hit.typeIs (wpAny_pure ?_))
 show wpAny _ _ (setField (.ref it) 0 .none >>= _) _ _ s;refine wpAny_bind (wpAny_setField ho hd (by simp) ?_);show wpAny _ _ (newExc (.type "StopIteration") [] >>= _) _ _ _
 refine wpAny_bind ?_;simp only [newExc,newTuple];refine wpAny_bind (wpAny_newObj_type ?_ (by size_fits));refine wpAny_bind (m:=firstArgMember _ _) (wpAny_of_eq (a:=Value.none) (by first | rfl | (simp only [firstArgMember];rfl)) ?_)
 refine wpAny_newObj_type ?_ (by size_fits);simp only [raiseNew];refine wpAny_bind (wpAny_handled ?_);rw [show A.in1.handled=none from hh]
 refine wpAny_bind (wpAny_pure (wpAny_throw ?_));refine wpAny_bind (wpAny_isInstance (T := "StopIteration") (b:=true) ⟨_,Heap.get?_push_size _ rfl,rfl⟩ isSubtype_stop (wpAny_pure (hQ _ (((Heap.SameBut.update ..).extBut.push _).push _))))
end
theorem KT.get {H:Hp}:∀ {kvs:List (List Key × V)} {xs:List (List Key × Addr × Value)} {i:Nat} {p:List Key × V},KT H kvs xs->kvs[i]?=some p->∃ q,xs[i]?=some q/\p.1=q.1/\H q.2.1=some (.tup (p.1.map kV))/\RelV p.2 q.2.2
 | _,_,0,_,.cons h _,e=>by cases e;exact ⟨_,rfl,h⟩
 | _,_,i+1,p,.cons _ t,e=>by
  obtain ⟨q,h1,h2⟩:=KT.get (i:=i) (p:=p) t (by simpa using e)
  exact ⟨q,by simpa using h1,h2⟩
def Itf (o:Obj) (d:Addr):It :=
 ⟨fun i H=>∃ kvs,H d=some (.frz o (.dT kvs))/\i < kvs.length,
  fun i H v H'=>H'=H/\∃ b,v=.ref b/\∀ kvs,H d=some (.frz o (.dT kvs))->∃ p,kvs[i]?=some p/\H b=some (.tup (p.1.map kV)),
  fun i H=>∃ kvs,H d=some (.frz o (.dT kvs))/\kvs.length<=i⟩
theorem KT.length {H:Hp} {kvs:List (List Key × V)} {xs:List (List Key × Addr × Value)} (r:KT H kvs xs):kvs.length=xs.length:=Paired.length r
theorem zmn {X:Cx} {pins:List (Addr × Obj)} {s:Shared} {σ : St} {H:Hp} {o:Obj} {es:Array DictEntry} {ep:Nat} {d:Addr} {kvs:List (List Key × V)} (hd:o.data=.dict es ep) (I:Inv X pins σ H s) (hq:H d=some (.frz o (.dT kvs))) :
  s.heap.get? d=some o/\o.ExactDict/\(d == sysModules)=false/\es.size=kvs.length/\∀ i (h:i < es.size),∃ p b,kvs[i]?=some p/\es[i].key=.ref b/\H b=some (.tup (p.1.map kV)):=by
 obtain ⟨hget,z,y,xs,rel,o',es',ep',h1,h2,h3,h4,h5⟩:=(show zbJ X.prog X.w H s.heap d (.frz o (.dT kvs)) from I.hok d _ hq)
 rw [hget] at h1;cases h1
 rw [hd] at h3;cases h3
 have hl:es.size=kvs.length:=by
  have:=congrArg List.length h4
  rw [List.length_map,← KT.length rel] at this
  simpa using this
 refine ⟨hget,h2,y,hl,fun i h=>?_⟩
 have hk:kvs[i]?=some kvs[i]:=List.getElem?_eq_getElem (by omega)
 obtain ⟨q,hx,e1,e2,e3⟩:=KT.get rel hk
 refine ⟨_,q.2.1,hk,?_,e2⟩
 have e:es.toList[i]?=some (entryOfKey (tupleKind (zbR X.prog X.w)) q):=by rw [h4,List.getElem?_map,hx];rfl
 have e':es.toList[i]?=some es[i]:=by rw [Array.getElem?_toList,Array.getElem?_eq_getElem h]
 rw [e'] at e
 rw [Option.some.inj e]
 rfl
theorem ziG {P:Program} {w:World} {K:PySem.W.Frag} {tg:Expr} {o:Obj} {es:Array DictEntry} {ep:Nat} (hd:o.data=.dict es ep) (d it:Addr):Turn P w K tg (Itf o d) [it] it (fun i h=>h.IsKeyIter it d i es.size ep) where
 mem:=by simp
 obj:=fun i h st b hb=>by
  have e:b=it:=by simpa using hb
  subst e
  obtain ⟨o,e,c,d⟩:=st
  exact ⟨o,e,fun v z=>by rw [d] at z;cases z⟩
 keep:=fun i h h' st k=>by
  obtain ⟨o,e,c,d⟩:=st
  exact ⟨o,k it (by simp) o e,c,d⟩
 item:=by
  intro X hP hw hK hc i pins s σ H E I hf st hg
  subst hP hw hK
  obtain ⟨kvs,hq,hi⟩:=hg
  obtain ⟨hget,hx,hy,hl,hall⟩:=zmn hd I hq
  have hi':i < es.size:=by omega
  obtain ⟨p,b,h1,h2,h3⟩:=hall i hi'
  obtain ⟨f0,f1,f2,f3,f4,f5⟩:=hf it (by simp)
  refine znn st hget hd hi' fun h' st' sb=>?_
  have I1:Inv X pins σ H { s with heap:=h' }:=I.turned (t':=s.toks) (fun b o hb e=>(sb.2 b hb).trans e) f0 f1 f3 f4 f5
  obtain ⟨o',e,c,d'⟩:=id st'
  refine ⟨_,rfl,zi1 (s:={ s with heap:=h' }) e c d' (by decide) ⟨.ref b,H,I1,by rw [h2];rfl,⟨rfl,b,rfl,fun kvs' hq'=>?_⟩,st',fun b hb=>(hf b hb).1⟩⟩
  rw [hq] at hq'
  cases hq'
  exact ⟨p,h1,h3⟩
 done:=by
  intro X hP hw hK hc i pins s σ H E I hf st hg
  subst hP hw hK
  obtain ⟨kvs,hq,hi⟩:=hg
  obtain ⟨hget,hx,hy,hl,hall⟩:=zmn hd I hq
  obtain ⟨f0,f1,f2,f3,f4,f5⟩:=hf it (by simp)
  exact zoL (I.ok.hd hc) st hget hd (by omega) fun h' eb=>⟨rfl,I.turned (t':=s.toks) (fun b o hb e=>eb b o hb e) f0 f1 f3 f4 f5⟩
 self:=fun _ _ _ _ _ st h=>wpAny_pyIter_keyiter st h
section
variable {X:Cx} {tg:Expr}
def iDct (tl:TE):TI:=fun σ H R=>tl σ H fun x H1=>∃ a o kvs,x=.ref a/\H1 a=some (.frz o (.dT kvs))/\R (Itf o a) H1
theorem zoM {l:Expr} {tl:TE} (hl:PE X l tl):PI X tg l (iDct tl):=by
 intro pins s σ H R I h
 refine thn (hl pins s σ H _ I h) fun v s1 ⟨x,H1,I1,r1,q1⟩=>?_
 obtain ⟨a,o,kvs,e,hq,q⟩:=q1
 subst e
 cases r1
 obtain ⟨hget,z,y,xs,rel,o',es,ep,h1,h2,h3,_⟩:=(show zbJ X.prog X.w H1 s1.heap a (.frz o (.dT kvs)) from I1.hok a _ hq)
 rw [hget] at h1;cases h1
 refine znm y hget h2 h3 ?_
 refine ⟨s1.heap.objs.size,[s1.heap.objs.size],_,_,H1,rfl,I1.kept (t':=s1.toks) fun b o e=>Heap.get?_push_of_some _ e,ziG h3 a _,⟨_,Heap.get?_push_size _ rfl,rfl,rfl⟩,fun b hb=>?_,q⟩
 have e:b=s1.heap.objs.size:=by simpa using hb
 subst e
 exact I1.fpOk (Nat.le_refl _) (I1.hok.fresh (Nat.le_refl _))
def tFrz (te:TE):TE:=fun σ H Q=>te σ H fun v H1=>∃ a kvs,v=.ref a/\H1 a=some (.dT kvs)/\∀ o,Q v (upd H1 a (.frz o (.dT kvs)))
theorem zoN {e:Expr} {te:TE} (h:PE X e te):PE X e (tFrz te):=by
 intro pins s σ H Q I q
 refine thn (h pins s σ H _ I q) fun u s1 ⟨v,H1,I1,rv,a,kvs,ev,hq,q1⟩=>?_
 subst ev
 obtain ⟨z,y,xs,rel,o,es,ep,h1,h2⟩:=(show zbJ X.prog X.w H1 s1.heap a (.dT kvs) from I1.hok a _ hq)
 refine ⟨.ref a,_,?_,rv,q1 o⟩
 refine zgS (t':=s1.toks) I1 (by rw [hq];exact True.intro) (Heap.SameBut.refl _ _) ⟨o,h1⟩ ⟨h1,z,y,xs,KT.keeps rel fun b ys e=>?_,o,es,ep,h1,h2⟩
 rw [zaJ (znL e hq (by intro z;cases z))];exact e
def zoO (K:PySem.W.Frag) (td ty:TE):TE:=fun σ H Q=>td σ H fun x H1=>ty σ H1 fun y H2=>∃ a b kvs k v,x=.ref a/\y=.ref b/\Rd H2 a (.dT kvs)/\SqT K H2 b (k.map kV)/\valV kvs k=some v/\Q v H2
theorem zlJ {o i:Expr} {pos:Pos} {td ty:TE} (hu:X.A.units+1 < cLine) (ho:PE X o td) (hi:PE X i ty) (hs:NoSl i):PE X (.Subscript o i pos) (zoO X.K td ty):=by
 intro pins s σ H Q I h
 refine zmR PySem.F.slot_dict_getitem.lookup hs (thn (ho pins s σ H _ I h) fun u s1 ⟨x,H1,I1,rx,q1⟩=>thn (hi pins s1 σ H1 _ I1 q1) fun iv s2 ⟨y,H2,I2,ry,a,b,kvs,k,v,ex,ey,e,eb,l,q2⟩=>?_)
 subst ex ey
 obtain rfl:u=Value.ref a:=rx
 obtain rfl:iv=Value.ref b:=ry
 obtain ⟨z,hd,xs,rel,dd⟩:=zoe I2.hok e
 refine ⟨dd.typeIs,?_⟩
 obtain ⟨w',hw,rw'⟩:=RelO.some_of (v:=v) (o:=(atKey xs k).map (·.2)) (by rw [← l];exact rel.val k)
 obtain ⟨p,hp,hp2⟩:=Option.map_eq_some_iff.mp hw
 obtain ⟨its,rv,⟨ob,g1,g2,n,g3⟩,hz⟩:=I2.tuple eb
 refine wpAny_getItem_heap (tupleKind_room_in1 hu) ⟨ob,its.toArray,n,g1,g2,g3,by simpa using zeh rv⟩ dd hp ?_
 rw [hp2]
 exact ⟨v,H2,I2.tok _,rw',q2⟩
end
end L2
namespace DL
open PySem PySem.Spec L2
open PyProof.Rows hiding St
section
variable {K:PySem.W.Frag} {B G0 G H:Hp} {σ : St} {ρ : DEnv}
def zcb (ρ : DEnv):Bool:=ρ.all fun s=>match s with | some (.own _)=>false | _=>true
theorem zb3 (h:zcb ρ = true) {i:Nat} {ds:List D} (q : ρ[i]?=some (some (.own ds))):False:=by
 have:=List.all_eq_true.mp h _ (List.mem_of_getElem? q)
 cases this
theorem zez {i:Nat} {d:D} (h:zcb ρ = true):zcb (ρ.set i (some (.pub d)))=true:=by
 unfold zcb
 rw [List.all_eq_true]
 intro s hs
 rcases List.mem_or_eq_of_mem_set hs with h1 | h1
 ·exact List.all_eq_true.mp h s h1
 ·subst h1;rfl
theorem EOk.rebaseN (k:EOk K B G0 G H σ ρ) (h:zcb ρ = true):EOk K H G G H σ ρ where
 bh:=.refl _
 gh:=k.gh
 g0:=.refl _
 np:=fun _ _ _ n=>n
 len:=k.len
 pub:=k.pub
 own:=fun i ds q=>(zb3 h q).elim
 sep:=k.sep
theorem EOk.heap {H':Hp} (k:EOk K B G0 G H σ ρ) (h:zcb ρ = true) (g:Same G H'):EOk K H' G G H' σ ρ where
 bh:=.refl _
 gh:=g
 g0:=.refl _
 np:=fun _ _ _ n=>n
 len:=k.len
 pub:=k.pub
 own:=fun i ds q=>(zb3 h q).elim
 sep:=k.sep
theorem zeA:∀ (k:List Key),Reps K G (k.map kV) (k.map kD)
 | []=>.nil
 | .inl i :: r=>.cons (.int i) (zeA r)
 | .inr x :: r=>.cons (.str x) (zeA r)
theorem zhY:∀ {k:List Key} {ws:List V},Reps K G ws (k.map kD)->ws=k.map kV
 | [],_,.nil=>rfl
 | k :: r,_,.cons h t=>by rw [List.map_cons,← zhY t,h.key_inv]
theorem zlK {b:Addr} {ys:List V} (gh:Same G H) (hb:H b=some (.tup ys)):∃ G',Ext G H G' H/\SqT K G' b ys:=by
 cases q:G b with
 | some u =>
  have:=gh b u q
  rw [hb] at this
  cases this
  exact ⟨G,.refl gh,SqT.of q⟩
 | none =>
  refine ⟨upd G b (.tup ys),⟨.refl _,zaO q,fun c u e=>?_,fun c u e n=>?_⟩,SqT.of zaD⟩
  ·by_cases z:c=b
   ·subst z;rw [zaD] at e;cases e;exact hb
   ·rw [zaJ z] at e;exact gh c u e
  ·by_cases z:c=b
   ·subst z;rw [hb] at e;cases u <;> cases e
   ·rw [zaJ z];exact n
theorem zkh {ad:Addr} {o:Obj} {ks:List (List Key)} {vs:List V} (h:G ad=some (.frz o (.dT (ks.zip vs)))) (hl:ks.length=vs.length):zd2 K (Itf o ad) (ks.map tkD) G where
 go:=fun i G1 H s1 s2 hi=>by
  rw [List.length_map] at hi
  exact ⟨_,s2 _ _ (s1 _ _ h),by rw [List.length_zip];omega⟩
 stop:=fun i G1 H s1 s2 hi=>by
  rw [List.length_map] at hi
  exact ⟨_,s2 _ _ (s1 _ _ h),by rw [List.length_zip];omega⟩
 yld:=fun i G1 H x H' d s1 s2 e y=>by
  obtain ⟨rfl,b,rfl,y⟩:=y
  obtain ⟨p,hp,hb⟩:=y _ (s2 _ _ (s1 _ _ h))
  rw [List.getElem?_map] at e
  have hp1:ks[i]?=some p.1:=by
   rw [List.getElem?_zip_eq_some] at hp
   exact hp.1
  rw [hp1] at e
  cases e
  obtain ⟨G',ex,sq⟩:=zlK (K:=K) s2 hb
  exact ⟨G',ex,.tup sq (zeA p.1)⟩
def kOf:D->Option (List Key)
 | .tuple ds=>zdu ds
 | _=>none
def unT:List (D × D)->Option (List D)
 | (.bool true,.none) :: r=>some (r.map (·.1))
 | _=>none
def zki:D->Option (List D)
 | .dict kvs=>unT kvs
 | _=>none
def ziH (f:M D):M (List D):=zav f fun x=>mOpt (zki x)
def zgu:D->D->Option D
 | .dict ((.bool true,.none) :: r),y=>match kOf y with
  | some k=>(r.find? fun p=>decide (kOf p.1=some k)).map (·.2)
  | none=>none
 | _,_=>none
theorem Rep.prs_inv {v:V} {r:List (D × D)} (h:Rep K G v (.dict ((.bool true,.none) :: r))):∃ (a:Addr) (o:Obj) (ks:List (List Key)) (vs:List V) (ds:List D),v=.ref a/\r=(ks.map tkD).zip ds/\ks.length=ds.length/\G a=some (.frz o (.dT (ks.zip vs)))/\Reps K G vs ds:=by
 cases h with
 | @dct ad ks vs ds _ e hne hl _ _ =>
  cases ks with
  | nil=>exact absurd rfl hne
  | cons k ks =>
   cases ds with
   | nil=>cases hl
   | cons d ds =>
    have e1:=(Prod.mk.inj (List.cons.inj e).1).1
    cases k <;> cases e1
 | @dtt ad o ks vs ds _ e hl h r=>exact ⟨ad,o,ks,vs,ds,rfl,(List.cons.inj e).2,hl,h,r⟩
theorem zdK:∀ (k:List Key),zdu (k.map kD)=some k
 | []=>rfl
 | .inl i :: r=>by rw [List.map_cons,zdu];show (match some (Sum.inl i),zdu (r.map kD) with | some k,some ks=>some (k :: ks) | _,_=>none)=_;rw [zdK r]
 | .inr x :: r=>by rw [List.map_cons,zdu];show (match some (Sum.inr x),zdu (r.map kD) with | some k,some ks=>some (k :: ks) | _,_=>none)=_;rw [zdK r]
theorem ze0:∀ {ds:List D} {k:List Key},zdu ds=some k->ds=k.map kD
 | [],_,h=>by cases h;rfl
 | d :: r,k,h=>by
  rw [zdu] at h
  split at h
  ·rename_i k1 ks h1 h2
   cases h
   rw [List.map_cons,← ze0 h2,← zfu h1]
  ·cases h
theorem zoP (k:List Key):kOf (tkD k)=some k:=zdK k
theorem zhZ {k:List Key} {d:D}:∀ {ks:List (List Key)} {vs:List V} {ds:List D},Reps K G vs ds->(((ks.map tkD).zip ds).find? fun p=>decide (kOf p.1=some k)).map (·.2)=some d->∃ v,valV (ks.zip vs) k=some v/\Rep K G v d
 | [],vs,ds,_,e=>by simp at e
 | q :: ks,_,_,.nil,e=>by simp at e
 | q :: ks,_,_,.cons (v:=v) (vs:=vs) (ds:=ds) r t,e=>by
  rw [List.map_cons,List.zip_cons_cons,List.find?_cons,zoP] at e
  rw [List.zip_cons_cons]
  by_cases h:q=k
  ·subst h
   simp only [decide_true] at e
   cases e
   exact ⟨v,zfc rfl,r⟩
  ·have h' : ¬ (some q=some k):=fun z=>h (Option.some.inj z)
   simp only [h',decide_false] at e
   rw [zd6 (by exact h)]
   exact zhZ t e
end
section
variable {X:Cx} {B G0:Hp} {KX:XW} {e a b c tg:Expr} {pos:Pos}
theorem zhb {f:M D} (h:PE X e (tD X.K B G0 f)):PI X tg e (iD X.K B G0 (ziH f)):=piof (zoM h) fun σ H R q=>tM.toI (R0:=Rep X.K) q fun v H' G' ρ' x k r a=>by
 cases z:zki x with
 | none=>rw [z] at a;exact a.elim
 | some ds =>
  rw [z] at a
  unfold zki at z
  split at z
  ·unfold unT at z
   split at z
   ·cases z
    obtain ⟨ad,o,ks,vs,ds,rfl,rfl,hl,hg,rr⟩:=r.prs_inv
    refine ⟨ad,o,_,rfl,k.gh _ _ hg,a _ G' H' k (.refl _) ?_⟩
    rw [List.map_fst_zip (by rw [List.length_map];omega)]
    exact zkh hg (by rw [rr.length];exact hl)
   ·cases z
  ·cases z
theorem zhc (hu:X.A.units+64 < cLine) {f g:M D} (ha:PE X a (tD X.K B G0 f)) (hb:PE X b (tD X.K B G0 g)) (hs:NoSl b:=by intro _ _;rfl):PE X (.Subscript a b pos) (tD X.K B G0 (dBin zgu f g)) :=
 peof (zlJ (by omega) ha hb hs) fun σ H Q q=>tM.two q fun v u H2 G ρ x y k rx ry a=>by
  obtain ⟨d,e,a1⟩:=a.opt
  unfold zgu at e
  split at e
  ·rename_i r
   split at e
   ·rename_i ky hk
    obtain ⟨ad,o,ks,vs,ds,rfl,rfl,hl,hg,rr⟩:=rx.prs_inv
    cases y with
    | tuple ys =>
     have hy:=ze0 hk
     subst hy
     obtain ⟨bd,ws,rfl,hsq,rw'⟩:=ry.tup_inv
     have hws:ws=ky.map kV:=zhY rw'
     subst hws
     obtain ⟨w,hw,rw2⟩:=zhZ rr e
     exact ⟨ad,bd,_,ky,w,rfl,rfl,.inr ⟨o,k.gh _ _ hg⟩,zc4 k.gh hsq,hw,a1.now k rw2⟩
    | _=>cases hk
   ·cases e
  ·cases e
end
def zkj (acc:List (List Key × D)) (k:List Key):Bool:=acc.all fun p=>decide (p.1 ≠ k)
theorem zlL {acc:List (List Key × D)} {k:List Key} (h:zkj acc k=true):k ∉ acc.map (·.1):=fun z=>by
 obtain ⟨p,hp,e⟩:=List.mem_map.mp z
 have:=of_decide_eq_true (List.all_eq_true.mp h p hp)
 exact this e
def isNo:Option (Option Sl)->Bool
 | some none=>true
 | _=>false
theorem zno {x:Option (Option Sl)} (h:isNo x=true):x=some none:=by
 unfold isNo at h
 split at h
 ·rfl
 ·cases h
def zeB (i1 i2:Nat) (g:M D):List D->List (List Key × D)->DEnv->Option (List (List Key × D))
 | [],acc,_=>some acc
 | .tuple [x,y] :: r,acc,ρ=>match zlI x,zlI y with
  | some kx,some ky=>match g ((ρ.set i1 (some (.pub x))).set i2 (some (.pub y))) with
   | .ok v ρ'=>if acc.length < 1000000/\zkj acc [kx,ky]=true/\zcb ρ'=true then zeB i1 i2 g r (acc ++ [([kx,ky],v)]) ρ' else none
   | .bad=>none
  | _,_=>none
 | _ :: _,_,_=>none
def prsD (acc:List (List Key × D)):D:=.dict (pdD (acc.map (·.1)) (acc.map (·.2)))
def sPrs (j i1 i2:Nat) (f:M (List D)) (g:M D):SM:=fun ρ =>
 if zcb ρ = true/\isNo ρ[j]?=true/\i1 < ρ.length/\i2 < ρ.length then match f ρ with
  | .ok ds ρ1=>if zcb ρ1=true then match zeB i1 i2 g ds [] ρ1 with
   | some acc=>.rt (prsD acc)
   | none=>.bad
   else .bad
  | .bad=>.bad
 else .bad
section
variable {X:Cx} {B G0:Hp} {KX:XW} {e a b c tg iter:Expr} {pos:Pos}
theorem zoQ {j i1 i2:Nat} {x y z:Str} {f:M (List D)} {g:M D} {p1 p2 p3 p4 p5 p6 p7 p8 p9 pa pb pc pd pe:Pos} {k1 k2}
  (hu:X.A.units+64 < cLine) (hp:PassesOwn (model X.prog X.w) X.A X.env X.xe) (hc:X.calm=true) (hN:X.N.Nodup)
  (hj:X.N[j]?=some x) (h1:X.N[i1]?=some y) (h2:X.N[i2]?=some z) (hx:Loc X.env.scope x) (hy:Loc X.env.scope y) (hz:Loc X.env.scope z)
  (vx:∀ q,PE X (.Name x q) (tVar j)) (vy:∀ q,PE X (.Name y q) (tVar i1)) (vz:∀ q,PE X (.Name z q) (tVar i2))
  (n1:j ≠ i1) (n2:j ≠ i2) (n3:i1 ≠ i2)
  (hi:∀ B' G',PI X (.Tuple [.Name y p3,.Name z p4] k1 p5) iter (iD X.K B' G' f)) (hg:∀ B' G',PE X e (tD X.K B' G' g))
  (hfx:X.fn x=true ∨ X.env.scope.names.lookup x=some .local) (hfy:X.fn y=true ∨ X.env.scope.names.lookup y=some .local) (hfz:X.fn z=true ∨ X.env.scope.names.lookup z=some .local)
  (hs1:swapsWith (.Dict [] [] p2) (some (.Name x p1)) pa.line X.env=pure false:=by rfl)
  (hs2:swapsWith e (some (.Subscript (.Name x p6) (.Tuple [.Name y p7,.Name z p8] k2 p9) pb)) pc.line X.env=pure false:=by rfl)
  (hs3:(assignEach [.Name y p3,.Name z p4] X.env).map (·.2)=assign (.Name y p3) X.env :: (assignEach [.Name z p4] X.env).map (·.2):=by rfl)
  (hs4:(assignEach [.Name z p4] X.env).map (·.2)=assign (.Name z p4) X.env :: (assignEach [] X.env).map (·.2):=by rfl)
  (hs5:(assignEach [.Name y p3,.Name z p4] X.env).length=2:=by rfl) (hs6:(assignEach [.Name y p3,.Name z p4] X.env).findIdx? (·.1)=none:=by rfl)
  (hs7:starEach [.Name y p7,.Name z p8] X.env=(false,eval (.Name y p7) X.env) :: starEach [.Name z p8] X.env:=by rfl)
  (hs8:starEach [.Name z p8] X.env=[(false,eval (.Name z p8) X.env)]:=by rfl)
  (hs9:∀ x,foldedSetIterable iter X.env x=pure x:=by intro _;rfl) :
  PSs X [.Assign [.Name x p1] (.Dict [] [] p2) pa,.For (.Tuple [.Name y p3,.Name z p4] k1 p5) iter [.Assign [.Subscript (.Name x p6) (.Tuple [.Name y p7,.Name z p8] k2 p9) pb] e pc] [] pd,.Return (some (.Name x pe)) pos] (tS X.K B G0 KX (sPrs j i1 i2 f g)):=by
 have L1:=zi0 (pos:=pa) hN hj hx (zle (X:=X) (pos:=p2)) hs1 hfx
 have hi':PI X (.Tuple [.Name y p3,.Name z p4] k1 p5) iter (fun σ H R=>∃ B' G',iD X.K B' G' f σ H R):=fun pins s σ H R I ⟨B',G',q⟩=>hi B' G' pins s σ H R I q
 have hg':PE X e (fun σ H Q=>∃ B' G',tD X.K B' G' g σ H Q):=fun pins s σ H Q I ⟨B',G',q⟩=>hg B' G' pins s σ H Q I q
 have T:=zma (X:=X) (pos:=p5) (k:=k1) hc (zfa (zao (pos:=p3) hN h1 hy hfy) (zfa (zao (pos:=p4) hN h2 hz hfz) ziZ hs4) hs3) hs5 hs6
 have P:=zmS (X:=X) (pos:=pc) (pos':=pb) (by omega) (vx p6) (zmd (pos:=p9) (x1:=k2) (zbX (vy p7) (zbX (vz p8) zdd hs8) hs7)) hg' hs2
 have F:=zmb (pos:=pd) hp hc hi' T (zgM P) hs9
 have R:=zl9 (pos:=pos) (zoN (vx pe))
 refine zmU (ze9 L1 (ze9 F (zgM R))) fun Dn σ H ⟨G,ρ,k,a⟩=>?_
 unfold sPrs at a
 split at a
 case isFalse=>exact a.elim
 case isTrue hcond =>
 obtain ⟨c1,c2,c3,c4⟩:=hcond
 have c2:=zno c2
 intro p hp0
 show ∃ B' G',iD X.K B' G' f (σ.set j (some (.ref p))) (upd H p (.dT [])) _
 have hgp:G p=none:=k.gh.free hp0
 have hbp:B p=none:=by
  cases q:B p with
  | none=>rfl
  | some u=>have:=k.bh p u q;rw [hp0] at this;cases this
 have hjl:j < ρ.length:=(List.getElem?_eq_some_iff.mp c2).1
 have sgH:Same G (upd H p (.dT [])):=k.gh.trans (zaO hp0)
 have k1:EOk X.K (upd H p (.dT [])) G G (upd H p (.dT [])) (σ.set j (some (.ref p))) ρ:=by
  refine ⟨.refl _,sgH,.refl _,fun _ _ _ n=>n,by rw [List.length_set];exact k.len,fun i d q=>?_,fun i ds q=>(zb3 c1 q).elim,fun i l ad es fs q _ _ _=>(zb3 c1 q).elim⟩
  have z:j ≠ i:=fun z=>by subst z;rw [c2] at q;cases q
  rw [List.getElem?_set_ne z]
  exact k.pub i d q
 have hpj:(σ.set j (some (V.ref p)))[j]?=some (some (.ref p)):=List.getElem?_set_self (by rw [← k.len];exact hjl)
 have ex0:Ext G0 B G (upd H p (.dT [])):=k.exit.trans (Ext.hid k.gh hp0)
 refine ⟨_,_,G,ρ,k1,?_⟩
 cases zf:f ρ with
 | bad=>rw [zf] at a;exact a.elim
 | ok ds ρ1 =>
 rw [zf] at a
 dsimp only at a ⊢
 split at a
 case isFalse=>exact a.elim
 case isTrue c5 =>
 cases zl:zeB i1 i2 g ds [] ρ1 with
 | none=>rw [zl] at a;exact a.elim
 | some accF =>
 rw [zl] at a
 dsimp only at a
 intro J G1 H1 kk s1 it
 have hp1:H1 p=some (.dT []):=kk.bh p _ zaD
 have hg1:G1 p=none:=kk.np p (.t []) zaD hgp
 refine ⟨fun i m σ' H'=>m=ds.length - i/\∃ G' ρ' acc vs,EOk X.K H' G' G' H' σ' ρ'/\Same G1 G'/\zcb ρ'=true /\ ρ'.length = ρ.length /\ σ'[j]?=some (some (.ref p))/\H' p=some (.dT ((acc.map (·.1)).zip vs))/\Reps X.K G' vs (acc.map (·.2))/\G' p=none/\Ext G0 B G' H'/\zeB i1 i2 g (ds.drop i) acc ρ'=some accF,
  ⟨ds.length,by omega,G1,ρ1,[],[],kk.rebaseN c5,.refl _,c5,by rw [kk.len,k1.len],hpj,hp1,.nil,hg1,ex0.trans kk.exit,by rw [List.drop_zero];exact zl⟩,?_⟩
 rintro i m σ' H' ⟨rfl,G',ρ',acc,vs,k',s',c6,c6',hpj',hp',rv,hg'',ex',hl⟩
 by_cases hi:i < ds.length
 ·right
  refine ⟨it.go i G' H' s' k'.gh hi,fun σ2 H2=>∃ G' ρ' acc vs,EOk X.K H2 G' G' H2 σ2 ρ'/\Same G1 G'/\zcb ρ'=true /\ ρ'.length = ρ.length /\ σ2[j]?=some (some (.ref p))/\H2 p=some (.dT ((acc.map (·.1)).zip vs))/\Reps X.K G' vs (acc.map (·.2))/\G' p=none/\Ext G0 B G' H2/\zeB i1 i2 g (ds.drop (i+1)) acc ρ'=some accF,fun σ2 H2 h2=>⟨ds.length - (i+1),by omega,rfl,h2⟩,fun xv H2 yl=>?_⟩
  obtain ⟨G2,ex,rx⟩:=it.yld i G' H' xv H2 ds[i] s' k'.gh (List.getElem?_eq_getElem hi) yl
  rw [List.drop_eq_getElem_cons hi] at hl
  generalize hdi:ds[i]=di at hl rx
  unfold zeB at hl
  split at hl
  ·rename_i heq;cases heq
  ·rename_i acc ρ' _ _ _ dx dy r heq
   injection heq with he1 he2
   subst he1 he2
   split at hl
   ·rename_i kx ky hkx hky
    obtain ⟨ad,ws,rfl,hsq,rws⟩:=rx.tup_inv
    cases rws with
    | cons ra rws =>
    cases rws with
    | cons rb rws =>
    cases rws
    rename_i v1 v2
    have ev1:=zfu hkx
    have ev2:=zfu hky
    subst ev1 ev2
    have ew1:=ra.key_inv
    have ew2:=rb.key_inv
    subst ew1 ew2
    refine ⟨ad,_,rfl,zc4 ex.gh hsq,rfl,_,_,rfl,_,_,rfl,rfl,?_⟩
    have k2:EOk X.K H' G' G2 H2 σ' ρ':=k'.ext ex
    have k3:=(k2.setPub (i:=i1) ra (by rw [c6'];exact c3)).setPub (i:=i2) rb (by rw [List.length_set,c6'];exact c4)
    have c7:zcb ((ρ'.set i1 (some (.pub (kD kx)))).set i2 (some (.pub (kD ky))))=true:=zez (zez c6)
    have hs2:H2 p=some (.dT ((acc.map (·.1)).zip vs)):=ex.h p _ hp'
    have hg2:G2 p=none:=ex.np p (.t _) hp' hg''
    refine ⟨_,_,G2,_,k3.rebaseN c7,?_⟩
    cases zg:g ((ρ'.set i1 (some (.pub (kD kx)))).set i2 (some (.pub (kD ky)))) with
    | bad=>rw [zg] at hl;cases hl
    | ok dv ρ4 =>
    rw [zg] at hl
    dsimp only at hl
    split at hl
    case isFalse=>cases hl
    case isTrue hcc =>
    obtain ⟨d1,d2,d3⟩:=hcc
    have d2:=zlL d2
    intro v G4 H4 k4 s4 rv4
    have lj:j < σ'.length:=(List.getElem?_eq_some_iff.mp hpj').1
    have l1:i1 < σ'.length:=by rw [← k'.len,c6'];exact c3
    have l2:i2 < σ'.length:=by rw [← k'.len,c6'];exact c4
    refine ⟨.ref p,by rw [List.getElem?_set_ne n2.symm,List.getElem?_set_ne n1.symm];exact hpj',?_⟩
    refine ⟨_,by rw [List.getElem?_set_ne n3.symm];exact List.getElem?_set_self l1,_,List.getElem?_set_self (by rw [List.length_set];exact l2),(show 2<=sizeLine by decide),fun q hq=>?_⟩
    have hp4:H4 p=some (.dT ((acc.map (·.1)).zip vs)):=k4.bh p _ hs2
    have hqp:p ≠ q:=zaF hp4 hq
    have hg4:G4 p=none:=k4.np p (.t _) hs2 hg2
    have hgq:G4 q=none:=k4.gh.free hq
    have hvl:vs.length=acc.length:=by rw [rv.length,List.length_map]
    have hnone:valV ((acc.map (·.1)).zip vs) [kx,ky]=none:=by
     have key:∀ (ks:List (List Key)) (us:List V),[kx,ky] ∉ ks->valV (ks.zip us) [kx,ky]=none:=by
      intro ks
      induction ks with
      | nil=>intro us _;rfl
      | cons k0 kr ih =>
       intro us hn
       cases us with
       | nil=>rfl
       | cons u0 ur =>
        rw [List.zip_cons_cons,zd6 (by intro z;exact hn (by rw [← z];exact List.mem_cons_self))]
        exact ih ur fun z=>hn (List.mem_cons_of_mem _ z)
     exact key _ _ d2
    refine ⟨p,_,rfl,DPut.t (k:=[kx,ky]) (by rw [zaJ hqp];exact hp4) zaD (by rw [List.length_zip,List.length_map,sizeLine_eq];omega),?_⟩
    rw [zlc _ hnone]
    have sg6:Same G4 (upd (upd H4 q (.tup [kV kx,kV ky])) p (.dT ((acc.map (·.1)).zip vs ++ [([kx,ky],v)]))):=fun bb u e=>by
     rw [zaJ (zaF e hg4),zaJ (zaF e hgq)]
     exact k4.gh bb u e
    refine ⟨G4,ρ4,acc ++ [([kx,ky],dv)],vs ++ [v],k4.heap d3 sg6,(s'.trans ex.g).trans s4,d3,?_,?_,?_,?_,hg4,?_,hl⟩
    ·rw [k4.len,List.length_set,List.length_set,← k'.len,c6']
    ·rw [List.getElem?_set_ne n2.symm,List.getElem?_set_ne n1.symm];exact hpj'
    ·rw [zaD,List.map_append,List.zip_append (by rw [List.length_map,hvl])];rfl
    ·rw [List.map_append];exact Reps.append (rv.mono (ex.g.trans s4)) (.cons rv4 .nil)
    ·have e4:Ext G0 B G4 H4:=(ex'.trans ex).trans k4.exit
     refine ⟨fun bb u e=>?_,e4.g,sg6,e4.np⟩
     have hb4:=e4.h bb u e
     rw [zaJ (zaF e hbp),zaJ (zaF hb4 hq)]
     exact hb4
   ·cases hl
  ·cases hl
 ·left
  refine ⟨it.stop i G' H' s' k'.gh (by omega),.ref p,hpj',p,_,rfl,hp',fun o=>?_⟩
  rw [List.drop_eq_nil_of_le (by omega)] at hl
  have hl:some acc=some accF:=hl
  have hl:=Option.some.inj hl
  subst hl
  refine a (.ref p) (upd G' p (.frz o (.dT ((acc.map (·.1)).zip vs)))) _ ⟨fun bb u e=>?_,ex'.g.trans (zaO hg''),fun bb u e=>?_,fun bb u e n=>?_⟩ ?_
  ·rw [zaJ (zaF e hbp)];exact ex'.h bb u e
  ·by_cases zz:bb=p
   ·subst zz;rw [zaD] at e ⊢;exact e
   ·rw [zaJ zz] at e ⊢;exact k'.gh bb u e
  ·rw [zaJ (zaF e hbp)];exact ex'.np bb u e n
  ·exact .dtt rfl (by rw [List.length_map,List.length_map]) zaD (rv.mono (zaO hg''))
end
section
variable {X:Cx}
def znp:D->D->Option Bool
 | .bool c,.bool b=>some (!(c == b))
 | _,_=>none
theorem znq:OpR X (compareOp .IsNot) (fun x y H Q=>∃ c b,x=.bl c/\y=.bl b/\Q (.bl (!(c == b))) H):=by
 intro pins s σ H x y v u Q I rx ry h
 obtain ⟨c,b,rfl,rfl,q⟩:=h
 cases rx
 cases ry
 unfold compareOp
 refine wpAny_bind (wpAny_of_eq (a:=(c == b)) (by cases c <;> cases b <;> rfl) (wpAny_pure (zi6 I q rfl)))
theorem zoR:OpB X (compareOp .IsNot) znp:=⟨_,znq,fun v u G H x y d Q s rx ry e q=>by
 unfold znp at e
 split at e
 ·cases e;exact ⟨_,_,rx.bl_inv,ry.bl_inv,q⟩
 ·cases e⟩
def zcI:List Int->Int
 | []=>0
 | [n]=>n
 | n :: r=>if zcI r < n then zcI r else n
theorem zeC:∀ {ns:List Int},0 < ns.length->zcI ns ∈ ns
 | [n],_=>List.mem_singleton.2 rfl
 | n :: m :: r,_=>by
  have ih:=zeC (ns:=m :: r) (Nat.succ_pos _)
  unfold zcI
  split
  ·exact List.mem_cons_of_mem _ ih
  ·exact List.mem_cons_self ..
theorem zfv:∀ {ns:List Int} {a:Int},a ∈ ns->zcI ns<=a
 | [n],a,h=>by rw [List.mem_singleton.1 h];exact Int.le_refl _
 | n :: m :: r,a,h=>by
  have ih:∀ b,b ∈ m :: r->zcI (m :: r)<=b:=fun b hb=>zfv hb
  unfold zcI
  rcases List.mem_cons.1 h with e | h
  ·subst e;split <;> omega
  ·have:=ih a h;split <;> omega
theorem zlM {ns:List Int} {M:Int} (h1:M ∈ ns) (h2:∀ a,a ∈ ns->M<=a):zcI ns=M :=
 Int.le_antisymm (zfv h1) (h2 _ (zeC (List.length_pos_of_mem h1)))
theorem zkk (hc:X.calm=true):zcJ X (.builtin "min") (fun xs H Q=>∃ l,∃ ns:List Int,xs=[.ref l]/\SqL X.K H l (ns.map V.int)/\0 < ns.length/\Q (.int (zcI ns)) H):=by
 intro pins s σ H xs us Q I rx h
 obtain ⟨l,ns,rfl,hq,hb,q⟩:=h
 obtain ⟨u,rfl,ru⟩:=rx.one
 cases ru
 obtain ⟨its,rv,p,hz⟩:=I.list hq
 have hi:=zbS rv
 obtain ⟨ys,e⟩:=hi.allInts.items
 have hns:ns=ys.toList.map (·.1):=by
  rw [← hi.numsOf,← nums_intItems,← e]
 have hsz:0 < ys.size:=by
  rw [hns,List.length_map,Array.length_toList] at hb;exact hb
 have hl:=p.isList
 rw [e] at hl
 refine min_intList (I.ok.hd hc) hl hsz fun v h' tk hv hk=>?_
 obtain ⟨t,rfl⟩:=intItems_at hv
 obtain ⟨h1,h2⟩:=argBest_lt (numAt ys) (ys.size - 1)
 refine ⟨.int (zcI ns),H,I.kept hk,⟨t,?_⟩,q⟩
 rw [zlM (M:=_) ?_ ?_]
 ·rw [hns,numAt_eq];exact getD_mem (by rw [List.length_map,Array.length_toList];omega)
 ·intro a ha
  rw [hns] at ha
  obtain ⟨j,hj,rfl⟩:=mem_getD ha
  rw [List.length_map,Array.length_toList] at hj
  rw [← numAt_eq];exact h2 j (by omega)
def zhd:List D->Option D
 | [.list ds]=>(match zbH ds with
  | some ns=>if 0 < ns.length then some (.int (zcI ns)) else none
  | none=>none)
 | _=>none
theorem zkl {xs:List D} {d:D} (h:zhd xs=some d):∃ ds ns,xs=[.list ds]/\zbH ds=some ns/\0 < ns.length/\d=.int (zcI ns):=by
 unfold zhd at h
 split at h
 ·rename_i ds
  cases z:zbH ds with
  | none=>rw [z] at h;cases h
  | some ns =>
   rw [z] at h
   dsimp only at h
   split at h
   ·rename_i c
    cases h
    exact ⟨ds,ns,rfl,z,c,rfl⟩
   ·cases h
 ·cases h
theorem zoS (hc:X.calm=true):zc5 X (.builtin "min") zhd:=by
 refine ⟨_,zkk hc,fun vs G H ds d Q s r e k=>?_⟩
 obtain ⟨ds,ns,rfl,z,c,rfl⟩:=zkl e
 obtain ⟨v,rfl,q1⟩:=r.one_inv
 obtain ⟨l,ws,rfl,h1,r1⟩:=q1.lst_inv
 have:=zbZ r1 z
 subst this
 exact ⟨l,ns,rfl,s.seq h1,c,k _ G H (.refl s) (.int _)⟩
theorem zlN {ns:List Int} (h:0 < ns.length):zhd [.list (ns.map .int)]=some (.int (zcI ns)):=by
 unfold zhd
 simp only [zcc,if_pos h]
end
end DL
namespace L2
open PySem PySem.Spec PyProof.Rows
def zpW (i j k:Nat) (ta:TA):TS:=fun D σ H=>ta σ H fun vs H1=>∃ v w u,vs=[v,w,u]/\D.nx (((σ.set i (some v)).set j (some w)).set k (some u)) H1
theorem znr {X:Cx} {pos:Pos} {i j k:Nat} {x y z:Str} {a b c:Expr} {ta:TA} {px py pz pt:Pos} {kt k2 pt2} (hc:X.calm=true) (hN:X.N.Nodup) (hi:X.N[i]?=some x) (hj:X.N[j]?=some y) (hk:X.N[k]?=some z) (hij:i ≠ j) (hik:i ≠ k) (hjk:j ≠ k)
  (hx:X.env.scope.names.lookup x=some .local) (hy:X.env.scope.names.lookup y=some .local) (hz:X.env.scope.names.lookup z=some .local) (ha:PA X [a,b,c] ta)
  (hw:swappedStores [.Tuple [.Name x px,.Name y py,.Name z pz] kt pt] (.Tuple [a,b,c] k2 pt2) X.env=pure (some [x,y,z]))
  (hs:swapsWithSole [.Tuple [.Name x px,.Name y py,.Name z pz] kt pt] (.Tuple [a,b,c] k2 pt2) pos.line X.env=pure false:=by rfl) :
  PS X (.Assign [.Tuple [.Name x px,.Name y py,.Name z pz] kt pt] (.Tuple [a,b,c] k2 pt2) pos) (zpW i j k ta):=by
 intro pins s σ H D I h
 rw [exec_Assign_arm]
 refine wpAny_bind (wpAny_standAt ?_)
 rw [hs]
 refine wpAny_bind (wpAny_pure ?_)
 rw [if_neg (by decide)]
 refine wpAny_bind (Tuple_ (thn (ha _ pins s σ H _ I h) fun us s1 ⟨vs,H1,I1,r1,q1⟩=>?_))
 obtain ⟨v,w,u,e1,q1⟩:=q1
 subst e1
 obtain ⟨u1,u2,u3,rfl,rv,rw',ru⟩:∃ u1 u2 u3,us=[u1,u2,u3]/\RelV v u1/\RelV w u2/\RelV u u3:=by
  cases r1 with
  | cons p q =>
   cases q with
   | cons p' q' =>
    cases q' with
    | cons p2 q2 =>
     cases q2
     exact ⟨_,_,_,rfl,p,p',p2⟩
 refine wpAny_newObj_type ?_ (by show 3<=sizeLine;decide)
 have I2:Inv X pins σ H1 { s1 with heap:=s1.heap.push { cls:=.type "tuple", data:=.seq [u1,u2,u3].toArray } }:=I1.kept (t':=s1.toks) fun b o e=>Heap.get?_push_of_some _ e
 rw [hw]
 refine wpAny_bind (wpAny_pure ?_)
 show wpAny (model X.prog X.w) X.A (do rule "assign.swapped-stores"; let items ← unpackItems (.ref s1.heap.objs.size) 3 none;assignInOrder [fun v=>bindName X.env z v,fun v=>bindName X.env y v,fun v=>bindName X.env x v] items.reverse;pure Flow.next) _ _ _
 refine wpAny_bind (wpAny_rule (wpAny_bind (unpackItems_tuple (items:=#[u1,u2,u3]) (I.ok.hd hc) (IsTup.new s1.heap _) fun h' hx'=>?_)))
 have I3:=I2.kept (h':=h') (t':=s1.toks) fun b o e=>hx' b o (Nat.ne_of_lt (Heap.lt_size e)) e
 show wpAny _ _ (assignInOrder [fun v=>bindName X.env z v,fun v=>bindName X.env y v,fun v=>bindName X.env x v] [u3,u2,u1] >>= fun _=>pure Flow.next) _ _ _
 refine wpAny_bind (assignInOrder_cons (wpAny_bindName (zc0 I3 hN hk (.inl hz) ru (fun s2 I4=>?_) (.inr hz))))
 refine assignInOrder_cons (wpAny_bindName (zc0 I4 hN hj (.inl hy) rw' (fun s3 I5=>?_) (.inr hy)))
 refine assignInOrder_cons (wpAny_bindName (zc0 I5 hN hi (.inl hx) rv (fun s4 I6=>assignInOrder_nil (wpAny_pure ?_)) (.inr hx)))
 have e:(((σ.set k (some u)).set j (some w)).set i (some v))=(((σ.set i (some v)).set j (some w)).set k (some u)):=by
  rw [List.set_comm _ _ (Ne.symm hij),List.set_comm _ _ (Ne.symm hik),List.set_comm _ _ (Ne.symm hjk)]
 rw [e] at I6
 exact ⟨_,H1,I6,q1⟩
end L2
namespace DL
open PySem PySem.Spec L2
open PyProof.Rows hiding St
def zkm (i1 i2 i3:Nat) (f1:M D) (f2 f3:M (List D)):SM:=fun ρ=>if zcb ρ = true then match f1 ρ with
  | .ok d1 ρ1=>if zcb ρ1=true then match f2 ρ1 with
   | .ok d2 ρ2=>if zcb ρ2=true then match f3 ρ2 with
    | .ok d3 ρ3=>if zcb ρ3=true/\i1 < ρ3.length/\i2 < ρ3.length/\i3 < ρ3.length then .nx (((ρ3.set i1 (some (.pub d1))).set i2 (some (.own d2))).set i3 (some (.own d3))) else .bad
    | .bad=>.bad
    else .bad
   | .bad=>.bad
   else .bad
  | .bad=>.bad
 else .bad
section
variable {X:Cx} {B G0:Hp} {KX:XW} {e1 e2 e3:Expr} {pos:Pos}
theorem zns {i1 i2 i3:Nat} {x1 x2 x3:Str} {f1:M D} {f2 f3:M (List D)} {p1 p2 p3 p4 p5:Pos} {k1 k2} (hc:X.calm=true) (hN:X.N.Nodup) (h1:X.N[i1]?=some x1) (h2:X.N[i2]?=some x2) (h3:X.N[i3]?=some x3)
  (n1:i1 ≠ i2) (n2:i1 ≠ i3) (n3:i2 ≠ i3) (l1:X.env.scope.names.lookup x1=some .local) (l2:X.env.scope.names.lookup x2=some .local) (l3:X.env.scope.names.lookup x3=some .local) (q1:∀ B' G',PE X e1 (tD X.K B' G' f1)) (q2:∀ B' G',PE X e2 (tL X.K B' G' f2)) (q3:∀ B' G',PE X e3 (tL X.K B' G' f3))
  (hw:swappedStores [.Tuple [.Name x1 p1,.Name x2 p2,.Name x3 p3] k1 p4] (.Tuple [e1,e2,e3] k2 p5) X.env=pure (some [x1,x2,x3]))
  (s6:starEach [e1,e2,e3] X.env=(false,eval e1 X.env) :: starEach [e2,e3] X.env:=by rfl) (s7:starEach [e2,e3] X.env=(false,eval e2 X.env) :: starEach [e3] X.env:=by rfl) (s8:starEach [e3] X.env=[(false,eval e3 X.env)]:=by rfl)
  (hs:swapsWithSole [.Tuple [.Name x1 p1,.Name x2 p2,.Name x3 p3] k1 p4] (.Tuple [e1,e2,e3] k2 p5) pos.line X.env=pure false:=by rfl) :
  PS X (.Assign [.Tuple [.Name x1 p1,.Name x2 p2,.Name x3 p3] k1 p4] (.Tuple [e1,e2,e3] k2 p5) pos) (tS X.K B G0 KX (zkm i1 i2 i3 f1 f2 f3)):=by
 have r1:PE X e1 (fun σ H Q=>∃ B' G',tD X.K B' G' f1 σ H Q):=fun pins s σ H Q I ⟨B',G',q⟩=>q1 B' G' pins s σ H Q I q
 have r2:PE X e2 (fun σ H Q=>∃ B' G',tL X.K B' G' f2 σ H Q):=fun pins s σ H Q I ⟨B',G',q⟩=>q2 B' G' pins s σ H Q I q
 have r3:PE X e3 (fun σ H Q=>∃ B' G',tL X.K B' G' f3 σ H Q):=fun pins s σ H Q I ⟨B',G',q⟩=>q3 B' G' pins s σ H Q I q
 have E:=znr (X:=X) (pos:=pos) hc hN h1 h2 h3 n1 n2 n3 l1 l2 l3 (zbX r1 (zbX r2 (zbX r3 zdd s8) s7) s6) hw hs
 refine psof E fun Dn σ H ⟨G,ρ,k,a⟩=>?_
 unfold zkm at a
 split at a
 case isFalse=>exact a.elim
 case isTrue c0 =>
 refine ⟨B,G0,G,ρ,k,?_⟩
 cases z1:f1 ρ with
 | bad=>rw [z1] at a;exact a.elim
 | ok d1 ρ1 =>
 rw [z1] at a
 dsimp only at a
 intro v1 G1 H1 kk1 sg1 rv1
 split at a
 case isFalse=>exact a.elim
 case isTrue c1 =>
 refine ⟨B,G0,G1,ρ1,kk1,?_⟩
 cases z2:f2 ρ1 with
 | bad=>rw [z2] at a;exact a.elim
 | ok d2 ρ2 =>
 rw [z2] at a
 dsimp only at a ⊢
 intro a2 vs2 G2 H2 kk2 sg2 nl2
 split at a
 case isFalse=>exact a.elim
 case isTrue c2 =>
 refine ⟨H2,G2,G2,ρ2,kk2.rebaseN c2,?_⟩
 cases z3:f3 ρ2 with
 | bad=>rw [z3] at a;exact a.elim
 | ok d3 ρ3 =>
 rw [z3] at a
 dsimp only at a ⊢
 intro a3 vs3 G3 H3 kk3 sg3 nl3
 split at a
 case isFalse=>exact a.elim
 case isTrue c3 =>
 obtain ⟨c3,m1,m2,m3⟩:=c3
 refine ⟨_,_,_,rfl,?_⟩
 have hb3:B a3=none:=by
  cases q:B a3 with
  | none=>rfl
  | some u=>have:=kk2.bh a3 u q;rw [nl3.b] at this;cases this
 have h2H3:H3 a2=some (.lst vs2):=kk3.bh a2 _ nl2.h
 have hne:a2 ≠ a3:=zaF nl2.h nl3.b
 have hg2:G3 a2=none:=kk3.np a2 (.l vs2) nl2.h nl2.g
 have ex:Ext G0 B G3 H3:=kk2.exit.trans kk3.exit
 have k4:EOk X.K B G0 G3 H3 σ ρ3:=⟨ex.h,kk3.gh,ex.g,ex.np,kk3.len,kk3.pub,fun i ds q=>(zb3 c3 q).elim,fun i j ad es fs q _ _ _=>(zb3 c3 q).elim⟩
 have k5:=k4.setPub (i:=i1) (rv1.mono (sg2.trans sg3)) m1
 have c5:zcb (ρ3.set i1 (some (.pub d1)))=true:=zez c3
 have k6:=k5.setOwn (i:=i2) (a:=a2) (vs:=vs2) (ds:=d2) ⟨nl2.b,hg2,h2H3,nl2.r.mono sg3,fun j es q=>(zb3 c5 q).elim⟩ (by rw [List.length_set];exact m2)
 have k7:=k6.setOwn (i:=i3) (a:=a3) (vs:=vs3) (ds:=d3) ⟨hb3,nl3.g,nl3.h,nl3.r,fun j es q w=>by
  by_cases zj:i2=j
  ·subst zj
   have hl:i2 < (σ.set i1 (some v1)).length:=by rw [List.length_set,← kk3.len];exact m2
   rw [List.getElem?_set_self hl] at w
   cases w
   exact hne rfl
  ·rw [List.getElem?_set_ne zj] at q
   exact zb3 c5 q⟩ (by rw [List.length_set,List.length_set];exact m3)
 exact a _ G3 H3 k7 ((sg1.trans sg2).trans sg3)
end
end DL
namespace W
open PySem PySem.Spec L2 DL
open PyProof.Rows hiding St
def top (i:Nat):Stmt:=PySem.Challenge.pw_wishdeal_k37_one_number_changed.main.body.getD i (.Pass ⟨0,0,0,0⟩)
abbrev GG (s:Stmt) (x:Str):Prop:=(zal s).names.lookup x=some NameKind.globalImplicit
abbrev VV (s:Stmt) (x:Str):Prop:=L2.Vis (zal s) x
abbrev LL (s:Stmt) (x:Str):Prop:=L2.Loc (zal s) x
theorem vk {s:Stmt} {x:Str} (h:(zal s).names.lookup x=some .local ∨ (zal s).names.lookup x=some .cell ∨ (zal s).names.lookup x=some .free):VV s x:=h
theorem lk {s:Stmt} {x:Str} (h:(zal s).names.lookup x=some .local ∨ (zal s).names.lookup x=some .cell):LL s x:=h
structure Txt (K:PySem.W.Frag) (mg:Str->Option Value):Prop where
 b_all:mg "all" = none
 b_bool:mg "bool" = none
 b_enumerate:mg "enumerate" = none
 b_int:mg "int" = none
 b_isinstance:mg "isinstance" = none
 b_len:mg "len" = none
 b_list:mg "list" = none
 b_max:mg "max" = none
 b_min:mg "min" = none
 b_range:mg "range" = none
 b_set:mg "set" = none
 b_sorted:mg "sorted" = none
 b_str:mg "str" = none
 b_sum:mg "sum" = none
 b_tuple:mg "tuple" = none
 c_MOST_ASKERS:∃ t,mg "MOST_ASKERS" = some (Value.int 7 t)
 c_MOST_COPIES:∃ t,mg "MOST_COPIES" = some (Value.int 7 t)
 c_MOST_RANKS:∃ t,mg "MOST_RANKS" = some (Value.int 5 t)
 c_MOST_THINGS:∃ t,mg "MOST_THINGS" = some (Value.int 6 t)
 c_ORDERS:∃ ad o its n,mg "ORDERS" = some (.ref ad)/\K.lookup ad=some o/\o.cls=.type "tuple" /\ o.data=.seq its n/\its.size<=sizeLine/\Vals ((["firsts", "full", "lasts"]:List Str).map V.str) its.toList
abbrev Sbi:Stmt:=top 50
abbrev N_bi:List Str:=["_law_thing"]
theorem Hbi:FnNm (zal Sbi) N_bi ["isinstance", "int", "bool"]:=zaR (by decide +kernel)
def g_bi:SM :=
 sRet (zd0 (mMap (fun d=>.bool (isTy d "int")) (dVar 0)) (zjn (mMap (fun d=>.bool (isTy d "bool")) (dVar 0))))
def F_bi:List D->Option D:=runD N_bi g_bi
abbrev Sbj:Stmt:=top 51
abbrev N_bj:List Str:=["_law_thing", "_law_many"]
theorem Hbj:FnNm (zal Sbj) N_bj ["all", "isinstance", "list", "len"]:=zaR (by decide +kernel)
def g_bj:SM :=
 sSeq (sIf (mOr (mNot (zbb (mMap (fun d=>.bool (isTy d "list")) (dVar 0)))) (dBin oNe (zbh 0) (dVar 1)))
 (sRet (zag (.bool false)))
 (sNx))
 (sRet (zbe oAll (zaf (mMap PyData.list (zcr (zaS (dVar 0)) 1 (gN 2) (zag true) (dFun 1 F_bi (zaf (dVar 2) (mNil))))) (mNil))))
def F_bj:List D->Option D:=runD N_bj g_bj
abbrev Sbm:Stmt:=top 54
abbrev N_bm:List Str:=["_law_wishes_here", "_law_worths_here", "_law_thing", "_law_asker", "_law_one"]
theorem Hbm:FnNm (zal Sbm) N_bm ["min", "len", "_law_is_row", "_law_is_number", "isinstance", "tuple"]:=zaR (by decide +kernel)
def zkn:SM :=
 sIf (dBin (oIB fun i j=>decide (i < j)) (dBin oAdd (dBin oIx (dIxN 2 (zag (.int 1))) (dVar 3)) (dBin oIx (dIxN 2 (zag (.int 2))) (dVar 4))) (dBin oMul (dIxN 2 (zag (.int 0))) (dBin zgu (dVar 1) (mTup (zaf (dVar 3) (zaf (dVar 4) (mNil)))))))
 (sRet (zag (.bool false)))
 (sNx)
def g_bm:SM :=
 sSeq (sIf (mOr (mNot (zbb (mMap (fun d=>.bool (isTy d "tuple")) (dVar 2)))) (dBin oNe (zbh 2) (zag (.int 3))))
 (sRet (zag (.bool false)))
 (sNx))
 (sSeq (sIf (mOr (mNot (zbb (dFun 1 F_bi (zaf (dIxN 2 (zag (.int 0))) (mNil))))) (dBin (oIB fun i j=>decide (i < j)) (dIxN 2 (zag (.int 0))) (zag (.int 1))))
 (sRet (zag (.bool false)))
 (sNx))
 (sSeq (sIf (mOr (mNot (zbb (dFun 2 F_bj (zaf (dIxN 2 (zag (.int 1))) (zaf (zbe oLen (zaf (dIxN 0 (zag (.int 1))) (mNil))) (mNil)))))) (mNot (zbb (dFun 2 F_bj (zaf (dIxN 2 (zag (.int 2))) (zaf (zbe oLen (zaf (dIxN 0 (zag (.int 0))) (mNil))) (mNil)))))))
 (sRet (zag (.bool false)))
 (sNx))
 (sSeq (sIf (dBin (oIB fun i j=>decide (i < j)) (zbe zhd (zaf (dBin oAdd (dIxN 2 (zag (.int 1))) (dIxN 2 (zag (.int 2)))) (mNil))) (zag (.int 0)))
 (sRet (zag (.bool false)))
 (sNx))
 (sSeq (sFor (ziH (dVar 1)) (gT 2 (gNC (gN 3) (gNC (gN 4) (gN0)))) zkn)
 (sRet (zag (.bool true)))))))
def F_bm:List D->Option D:=runD N_bm g_bm
abbrev Saa:Stmt:=top 1
abbrev N_aa:List Str:=["thing"]
theorem Haa:FnNm (zal Saa) N_aa ["isinstance", "int", "bool"]:=zaR (by decide +kernel)
def g_aa:SM :=
 sRet (zd0 (mMap (fun d=>.bool (isTy d "int")) (dVar 0)) (zjn (mMap (fun d=>.bool (isTy d "bool")) (dVar 0))))
def F_aa:List D->Option D:=runD N_aa g_aa
abbrev Sab:Stmt:=top 2
abbrev N_ab:List Str:=["thing"]
theorem Hab:FnNm (zal Sab) N_ab ["is_whole"]:=zaR (by decide +kernel)
def g_ab:SM :=
 sRet (zd0 (dFun 1 F_aa (zaf (dVar 0) (mNil))) (mMap PyData.bool (zbQ (oIB fun i j=>decide (j<=i)) 0 (zag (.int 0)))))
def F_ab:List D->Option D:=runD N_ab g_ab
abbrev Sac:Stmt:=top 3
abbrev N_ac:List Str:=["things", "many"]
theorem Hac:FnNm (zal Sac) N_ac ["len", "all"]:=zaR (by decide +kernel)
def g_ac:SM :=
 sRet (zd0 (mMap PyData.bool (dBin oEq (zbh 0) (dVar 1))) (zbe oAll (zaf (mMap PyData.list (zcr (zaS (dVar 0)) 1 (gN 2) (zag true) (dFun 1 F_ab (zaf (dVar 2) (mNil))))) (mNil))))
def F_ac:List D->Option D:=runD N_ac g_ac
abbrev Saw:Stmt:=top 37
abbrev N_aw:List Str:=["thing", "many"]
theorem Haw:FnNm (zal Saw) N_aw ["isinstance", "list", "are_numbers"]:=zaR (by decide +kernel)
def g_aw:SM :=
 sRet (zd0 (mMap (fun d=>.bool (isTy d "list")) (dVar 0)) (dFun 2 F_ac (zaf (dVar 0) (zaf (dVar 1) (mNil)))))
def F_aw:List D->Option D:=runD N_aw g_aw
abbrev Sax:Stmt:=top 38
abbrev N_ax:List Str:=["wishes", "thing", "copies", "lists", "times", "asks", "prices"]
theorem Hax:FnNm (zal Sax) N_ax ["len", "is_number_list", "is_whole", "isinstance", "tuple"]:=zaR (by decide +kernel)
def g_ax:SM :=
 sSeq (sIf (mOr (mNot (zbb (mMap (fun d=>.bool (isTy d "tuple")) (dVar 1)))) (dBin oNe (zbh 1) (zag (.int 3))))
 (sRet (zag (.bool false)))
 (sNx))
 (sSeq (sAsg (dVar 0) (gT 2 (gNC (gN 2) (gNC (gN 3) (gN0)))))
 (sSeq (sAsg (dVar 1) (gT 3 (gNC (gN 4) (gNC (gN 5) (gNC (gN 6) (gN0))))))
 (sSeq (sIf (mOr (mNot (zbb (dFun 1 F_aa (zaf (dVar 4) (mNil))))) (zbQ (oIB fun i j=>decide (i < j)) 4 (zag (.int 1))))
 (sRet (zag (.bool false)))
 (sNx))
 (sRet (zd0 (dFun 2 F_aw (zaf (dVar 5) (zaf (zbh 3) (mNil)))) (dFun 2 F_aw (zaf (dVar 6) (zaf (zbh 2) (mNil)))))))))
def F_ax:List D->Option D:=runD N_ax g_ax
abbrev Sad:Stmt:=top 4
abbrev N_ad:List Str:=["thing", "many"]
theorem Had:FnNm (zal Sad) N_ad ["is_whole"]:=zaR (by decide +kernel)
def g_ad:SM :=
 sRet (zd0 (dFun 1 F_aa (zaf (dVar 0) (mNil))) (mMap PyData.bool (zek (oIB fun i j=>decide (i<=j)) (oIB fun i j=>decide (i < j)) (zag (.int 0)) (dVar 0) (dVar 1))))
def F_ad:List D->Option D:=runD N_ad g_ad
abbrev Saf:Stmt:=top 15
abbrev N_af:List Str:=["thing", "things"]
theorem Haf:FnNm (zal Saf) N_af ["all", "isinstance", "list", "len"]:=zaR (by decide +kernel)
def g_af:SM :=
 sSeq (sIf (mOr (mNot (zbb (mMap (fun d=>.bool (isTy d "list")) (dVar 0)))) (dBin oEq (zbh 0) (zag (.int 0))))
 (sRet (zag (.bool false)))
 (sNx))
 (sRet (zbe oAll (zaf (mMap PyData.list (zcr (zaS (dVar 0)) 1 (gN 2) (zag true) (dFun 2 F_ad (zaf (dVar 2) (zaf (dVar 1) (mNil)))))) (mNil))))
def F_af:List D->Option D:=runD N_af g_af
abbrev Sag:Stmt:=top 16
abbrev N_ag:List Str:=["thing", "things", "wished"]
theorem Hag:FnNm (zal Sag) N_ag ["len", "set", "all", "isinstance", "list", "MOST_RANKS"]:=zaR (by decide +kernel)
def g_ag:SM :=
 sSeq (sIf (mOr (mNot (zbb (mMap (fun d=>.bool (isTy d "list")) (dVar 0)))) (dBin (oIB fun i j=>decide (j < i)) (zbh 0) (zag (.int 5))))
 (sRet (zag (.bool false)))
 (sNx))
 (sSeq (sIf (mNot (zbb (zbe oAll (zaf (mMap PyData.list (zcr (zaS (dVar 0)) 1 (gN 3) (zag true) (dFun 2 F_af (zaf (dVar 3) (zaf (dVar 1) (mNil)))))) (mNil)))))
 (sRet (zag (.bool false)))
 (sNx))
 (sSeq (zb4 2 (zf6 (zaS (dVar 0)) 2 (gN 3) (zag true) (zaS (dVar 3)) (gN 4) (zag true) (dVar 4)))
 (sRet (mMap PyData.bool (dBin oEq (zbe zcE (zaf (dVar 2) (mNil))) (zbh 2))))))
def F_ag:List D->Option D:=runD N_ag g_ag
abbrev Sah:Stmt:=top 17
abbrev N_ah:List Str:=["lists", "things", "asker", "ranks"]
theorem Hah:FnNm (zal Sah) N_ah ["enumerate", "is_asker_list", "isinstance", "list", "len", "MOST_ASKERS"]:=zaR (by decide +kernel)
def zko:SM :=
 sIf (mNot (zbb (dFun 2 F_ag (zaf (dVar 3) (zaf (dVar 1) (mNil))))))
 (zc7)
 (sNx)
def g_ah:SM :=
 sSeq (sIf (mOr (mNot (zbb (mMap (fun d=>.bool (isTy d "list")) (dVar 0)))) (mNot (zek (oIB fun i j=>decide (i<=j)) (oIB fun i j=>decide (i<=j)) (zag (.int 1)) (zbh 0) (zag (.int 7)))))
 (zc7)
 (sNx))
 (sFor (zgU (zaf (dVar 0) (mNil))) (gT 2 (gNC (gN 2) (gNC (gN 3) (gN0)))) zko)
def F_ah:List D->Option D:=runD N_ah g_ah
abbrev Sae:Stmt:=top 14
abbrev N_ae:List Str:=["copies", "number", "many"]
theorem Hae:FnNm (zal Sae) N_ae ["enumerate", "MOST_COPIES", "is_number_below", "isinstance", "list", "len", "MOST_THINGS"]:=zaR (by decide +kernel)
def zkp:SM :=
 sIf (mNot (zbb (dFun 2 F_ad (zaf (dVar 2) (zaf (dBin oAdd (zag (.int 7)) (zag (.int 1))) (mNil))))))
 (zc7)
 (sNx)
def g_ae:SM :=
 sSeq (sIf (mOr (mNot (zbb (mMap (fun d=>.bool (isTy d "list")) (dVar 0)))) (mNot (zek (oIB fun i j=>decide (i<=j)) (oIB fun i j=>decide (i<=j)) (zag (.int 1)) (zbh 0) (zag (.int 6)))))
 (zc7)
 (sNx))
 (sFor (zgU (zaf (dVar 0) (mNil))) (gT 2 (gNC (gN 1) (gNC (gN 2) (gN0)))) zkp)
def F_ae:List D->Option D:=runD N_ae g_ae
abbrev Sai:Stmt:=top 18
abbrev N_ai:List Str:=["thing", "copies", "lists"]
theorem Hai:FnNm (zal Sai) N_ai ["len", "look_at_lists", "look_at_copies", "isinstance", "tuple"]:=zaR (by decide +kernel)
def g_ai:SM :=
 sSeq (sIf (mOr (mNot (zbb (mMap (fun d=>.bool (isTy d "tuple")) (dVar 0)))) (dBin oNe (zbh 0) (zag (.int 2))))
 (zc7)
 (sNx))
 (sSeq (sAsg (dVar 0) (gT 2 (gNC (gN 1) (gNC (gN 2) (gN0)))))
 (sSeq (zeI (dFun 1 F_ae (zaf (dVar 1) (mNil))))
 (zeI (dFun 2 F_ah (zaf (dVar 2) (zaf (zbh 1) (mNil)))))))
def F_ai:List D->Option D:=runD N_ai g_ai
abbrev Sal:Stmt:=top 21
abbrev N_al:List Str:=["wishes"]
theorem Hal:FnNm (zal Sal) N_al ["enumerate", "sorted", "look_at_wishes"]:=zaR (by decide +kernel)
def g_al:SM :=
 sSeq (zeI (dFun 1 F_ai (zaf (dVar 0) (mNil))))
 (sRet (zbe zg9 (zaf (mMap PyData.list (zf7 (zgU (zaf (dIxN 0 (zag (.int 1))) (mNil))) 4 (gT 2 (gNC (gN 1) (gNC (gN 2) (gN0)))) (zag true) (zaS (dVar 2)) (gN 3) (zag true) (zaS (dVar 3)) (gN 4) (zag true) (mTup (zaf (dVar 1) (zaf (dVar 4) (mNil)))))) (mNil))))
def F_al:List D->Option D:=runD N_al g_al
abbrev Sar:Stmt:=top 31
abbrev N_ar:List Str:=["base", "times", "told", "step"]
theorem Har:FnNm (zal Sar) N_ar ["range"]:=zaR (by decide +kernel)
def zkq:SM :=
 sAug gMul 2 (dVar 0)
def g_ar:SM :=
 sSeq (sSet 2 (zag (.int 1)))
 (sSeq (sFor (zdD (zaf (dVar 1) (mNil))) (gN 3) zkq)
 (sRet (dVar 2)))
def F_ar:List D->Option D:=runD N_ar g_ar
abbrev Sat:Stmt:=top 33
abbrev N_at:List Str:=["turns", "base", "asker", "rank", "behind"]
theorem Hat:FnNm (zal Sat) N_at ["power", "len"]:=zaR (by decide +kernel)
def g_at:SM :=
 sSeq (sIf (zbQ oNin 2 (dVar 0))
 (sRet (zag (.int 0)))
 (sNx))
 (sSeq (sSet 4 (dBin oSub (dBin oSub (zbh 0) (zag (.int 1))) (zhP (dVar 0) (zaf (dVar 2) (mNil)))))
 (sRet (dBin oMul (dBin oSub (dVar 1) (dVar 3)) (dFun 2 F_ar (zaf (dVar 1) (zaf (dVar 4) (mNil)))))))
def F_at:List D->Option D:=runD N_at g_at
abbrev Sas:Stmt:=top 32
abbrev N_as:List Str:=["order", "base", "most", "rank"]
theorem Has:FnNm (zal Sas) N_as ["power"]:=zaR (by decide +kernel)
def g_as:SM :=
 sSeq (sIf (zbQ oEq 0 (zag (.str "firsts")))
 (sRet (dFun 2 F_ar (zaf (dVar 1) (zaf (dBin oSub (dVar 2) (dVar 3)) (mNil)))))
 (sNx))
 (sSeq (sIf (zbQ oEq 0 (zag (.str "full")))
 (sRet (dBin oAdd (dFun 2 F_ar (zaf (dVar 1) (zaf (dVar 2) (mNil)))) (dFun 2 F_ar (zaf (dVar 1) (zaf (dBin oSub (dVar 2) (dVar 3)) (mNil))))))
 (sNx))
 (sRet (dBin oSub (dFun 2 F_ar (zaf (dVar 1) (zaf (dVar 2) (mNil)))) (dFun 2 F_ar (zaf (dVar 1) (zaf (dBin oSub (dVar 3) (zag (.int 1))) (mNil)))))))
def F_as:List D->Option D:=runD N_as g_as
abbrev Saj:Stmt:=top 19
abbrev N_aj:List Str:=["ranks", "thing", "number", "rank"]
theorem Haj:FnNm (zal Saj) N_aj ["enumerate"]:=zaR (by decide +kernel)
def zkr:SM :=
 sIf (zbQ oIn 1 (dVar 3))
 (sRet (dVar 2))
 (sNx)
def g_aj:SM :=
 sSeq (sFor (zhK (zaf (dVar 0) (mNil))) (gT 2 (gNC (gN 2) (gNC (gN 3) (gN0)))) zkr)
 (sRet (zag (.int 0)))
def F_aj:List D->Option D:=runD N_aj g_aj
abbrev Sau:Stmt:=top 34
abbrev N_au:List Str:=["wishes", "aim", "most", "asker", "thing", "order", "old", "turns", "lists", "rank", "base", "kept", "by_counts"]
theorem Hau:FnNm (zal Sau) N_au ["len", "power", "worth_by_turns", "worth_by_order", "rank_in"]:=zaR (by decide +kernel)
def g_au:SM :=
 sSeq (sAsg (dVar 1) (gT 3 (gNC (gN 5) (gNC (gN 6) (gNC (gN 7) (gN0))))))
 (sSeq (sSet 8 (dIxN 0 (zag (.int 1))))
 (sSeq (sSet 9 (dFun 2 F_aj (zaf (dIxN 8 (dVar 3)) (zaf (dVar 4) (mNil)))))
 (sSeq (sSet 10 (dBin oAdd (zbh 8) (zag (.int 1))))
 (sSeq (sSet 11 (mIf (mAnd (mMap (fun d=>!isNon d) (dVar 6)) (dBin oEq (dIxN 6 (dVar 3)) (dVar 4))) (zag (.int 1)) (zag (.int 0))))
 (sSeq (sSet 12 (dBin oAdd (dBin oMul (dFun 4 F_as (zaf (dVar 5) (zaf (dVar 10) (zaf (dVar 2) (zaf (dVar 9) (mNil)))))) (dVar 10)) (dVar 11)))
 (sRet (dBin oAdd (dBin oMul (dVar 12) (dFun 2 F_ar (zaf (dBin oAdd (dVar 2) (zag (.int 1))) (zaf (zbh 7) (mNil))))) (dFun 4 F_at (zaf (dVar 7) (zaf (dBin oAdd (dVar 2) (zag (.int 1))) (zaf (dVar 3) (zaf (dVar 9) (mNil)))))))))))))
def F_au:List D->Option D:=runD N_au g_au
abbrev Sak:Stmt:=top 20
abbrev N_ak:List Str:=["wishes"]
theorem Hak:FnNm (zal Sak) N_ak ["max", "look_at_wishes"]:=zaR (by decide +kernel)
def g_ak:SM :=
 sSeq (zeI (dFun 1 F_ai (zaf (dVar 0) (mNil))))
 (sRet (zbe zgb (zaf (mMap PyData.list (zcr (zaS (dIxN 0 (zag (.int 1)))) 1 (gN 1) (zag true) (zbh 1))) (mNil))))
def F_ak:List D->Option D:=runD N_ak g_ak
abbrev Sap:Stmt:=top 28
abbrev N_ap:List Str:=["thing", "askers"]
theorem Hap:FnNm (zal Sap) N_ap ["len", "set", "isinstance", "list", "all"]:=zaR (by decide +kernel)
def g_ap:SM :=
 sSeq (sIf (mOr (mNot (zbb (mMap (fun d=>.bool (isTy d "list")) (dVar 0)))) (mNot (zbb (zbe oAll (zaf (mMap PyData.list (zcr (zaS (dVar 0)) 1 (gN 2) (zag true) (dFun 2 F_ad (zaf (dVar 2) (zaf (dVar 1) (mNil)))))) (mNil))))))
 (sRet (zag (.bool false)))
 (sNx))
 (sRet (mMap PyData.bool (dBin oEq (zbe zcE (zaf (dVar 0) (mNil))) (zbh 0))))
def F_ap:List D->Option D:=runD N_ap g_ap
abbrev Sao:Stmt:=top 27
abbrev N_ao:List Str:=["thing", "askers", "things"]
theorem Hao:FnNm (zal Sao) N_ao ["all", "isinstance", "list", "len"]:=zaR (by decide +kernel)
def g_ao:SM :=
 sSeq (sIf (mMap isNon (dVar 0))
 (sRet (zag (.bool true)))
 (sNx))
 (sSeq (sIf (mOr (mNot (zbb (mMap (fun d=>.bool (isTy d "list")) (dVar 0)))) (dBin oNe (zbh 0) (dVar 1)))
 (sRet (zag (.bool false)))
 (sNx))
 (sRet (zbe oAll (zaf (mMap PyData.list (zcr (zaS (dVar 0)) 1 (gN 3) (zag true) (mOrV (mMap (fun d=>.bool (isNon d)) (dVar 3)) (dFun 2 F_ad (zaf (dVar 3) (zaf (dVar 2) (mNil))))))) (mNil)))))
def F_ao:List D->Option D:=runD N_ao g_ao
abbrev Sam:Stmt:=top 24
abbrev N_am:List Str:=["thing"]
theorem Ham:FnNm (zal Sam) N_am ["isinstance", "str", "ORDERS"]:=zaR (by decide +kernel)
def g_am:SM :=
 sRet (zd0 (mMap (fun d=>.bool (isTy d "str")) (dVar 0)) (mMap PyData.bool (zbQ oIn 0 (zag (.tuple ((["firsts", "full", "lasts"]:List Str).map PyData.str))))))
def F_am:List D->Option D:=runD N_am g_am
abbrev San:Stmt:=top 25
abbrev N_an:List Str:=["thing"]
theorem Han:FnNm (zal San) N_an ["is_order"]:=zaR (by decide +kernel)
def g_an:SM :=
 sIf (mNot (zbb (dFun 1 F_am (zaf (dVar 0) (mNil)))))
 (zc7)
 (sNx)
def F_an:List D->Option D:=runD N_an g_an
abbrev Saq:Stmt:=top 29
abbrev N_aq:List Str:=["wishes", "thing", "copies", "lists", "order", "old", "turns"]
theorem Haq:FnNm (zal Saq) N_aq ["len", "is_turns", "is_old", "look_at_order", "isinstance", "tuple", "look_at_wishes"]:=zaR (by decide +kernel)
def g_aq:SM :=
 sSeq (zeI (dFun 1 F_ai (zaf (dVar 0) (mNil))))
 (sSeq (sIf (mOr (mNot (zbb (mMap (fun d=>.bool (isTy d "tuple")) (dVar 1)))) (dBin oNe (zbh 1) (zag (.int 3))))
 (zc7)
 (sNx))
 (sSeq (sAsg (dVar 0) (gT 2 (gNC (gN 2) (gNC (gN 3) (gN0)))))
 (sSeq (sAsg (dVar 1) (gT 3 (gNC (gN 4) (gNC (gN 5) (gNC (gN 6) (gN0))))))
 (sSeq (zeI (dFun 1 F_an (zaf (dVar 4) (mNil))))
 (sSeq (sIf (mNot (zbb (dFun 3 F_ao (zaf (dVar 5) (zaf (zbh 3) (zaf (zbh 2) (mNil)))))))
 (zc7)
 (sNx))
 (sIf (mNot (zbb (dFun 2 F_ap (zaf (dVar 6) (zaf (zbh 3) (mNil))))))
 (zc7)
 (sNx)))))))
def F_aq:List D->Option D:=runD N_aq g_aq
abbrev Sav:Stmt:=top 35
abbrev N_av:List Str:=["wishes", "aim", "most"]
theorem Hav:FnNm (zal Sav) N_av ["all_wishes", "longest", "look_at_aim"]:=zaR (by decide +kernel)
def g_av:SM :=
 sSeq (zeI (dFun 2 F_aq (zaf (dVar 0) (zaf (dVar 1) (mNil)))))
 (sSeq (sSet 2 (dFun 1 F_ak (zaf (dVar 0) (mNil))))
 (sRet (mMap PyData.list (zcr (zaS (dFun 1 F_al (zaf (dVar 0) (mNil)))) 2 (gT 2 (gNC (gN 3) (gNC (gN 4) (gN0)))) (zag true) (mTup (zaf (dVar 3) (zaf (dVar 4) (zaf (dFun 5 F_au (zaf (dVar 0) (zaf (dVar 1) (zaf (dVar 2) (zaf (dVar 3) (zaf (dVar 4) (mNil))))))) (mNil)))))))))
def F_av:List D->Option D:=runD N_av g_av
abbrev Say:Stmt:=top 39
abbrev N_ay:List Str:=["wishes", "aim", "thing", "worths", "times", "asks", "prices"]
theorem Hay:FnNm (zal Say) N_ay ["all", "has_paper_form", "all_worths"]:=zaR (by decide +kernel)
def g_ay:SM :=
 sSeq (sSet 3 (dFun 2 F_av (zaf (dVar 0) (zaf (dVar 1) (mNil)))))
 (sSeq (sIf (mNot (zbb (dFun 2 F_ax (zaf (dVar 0) (zaf (dVar 2) (mNil))))))
 (sRet (zag (.bool false)))
 (sNx))
 (sSeq (sAsg (dVar 2) (gT 3 (gNC (gN 4) (gNC (gN 5) (gNC (gN 6) (gN0))))))
 (sRet (zbe oAll (zaf (mMap PyData.list (zcr (zaS (dVar 3)) 3 (gT 3 (gNC (gN 7) (gNC (gN 8) (gNC (gN 9) (gN0))))) (zag true) (mMap PyData.bool (dBin (oIB fun i j=>decide (j<=i)) (dBin oAdd (dIxN 5 (dVar 7)) (dIxN 6 (dVar 8))) (dBin oMul (dVar 4) (dVar 9)))))) (mNil))))))
def F_ay:List D->Option D:=runD N_ay g_ay
abbrev Sbo:Stmt:=top 56
abbrev N_bo:List Str:=["_law_paper_here", "_law_at", "_law_step", "_law_times", "_law_asks", "_law_prices"]
theorem Hbo:FnNm (zal Sbo) N_bo ["len", "list"]:=zaR (by decide +kernel)
def g_bo:SM :=
 sSeq (zkm 3 4 5 (dIxN 0 (zag (.int 0))) (zav (zaf (dIxN 0 (zag (.int 1))) (mNil)) fun xs=>mOpt (zd3 xs)) (zav (zaf (dIxN 0 (zag (.int 2))) (mNil)) fun xs=>mOpt (zd3 xs)))
 (sSeq (sIf (zbQ oEq 1 (zag (.int 0)))
 (sSet 3 (dBin oAdd (dVar 3) (dVar 2)))
 (sIf (zbQ (oIB fun i j=>decide (i<=j)) 1 (zbh 4))
 (zjI 4 (dBin oSub (dVar 1) (zag (.int 1))) (dBin oAdd (dIxN 4 (dBin oSub (dVar 1) (zag (.int 1)))) (dVar 2)))
 (zjI 5 (dBin oSub (dBin oSub (dVar 1) (zag (.int 1))) (zbh 4)) (dBin oAdd (dIxN 5 (dBin oSub (dBin oSub (dVar 1) (zag (.int 1))) (zbh 4))) (dVar 2)))))
 (sRet (mTup (zaf (dVar 3) (zaf (dVar 4) (zaf (dVar 5) (mNil)))))))
def F_bo:List D->Option D:=runD N_bo g_bo
abbrev Saz:Stmt:=top 41
abbrev N_az:List Str:=["_law_script", "_law_k"]
theorem Haz:FnNm (zal Saz) N_az ["len"]:=zaR (by decide +kernel)
def g_az:SM :=
 sSeq (sIf (zbQ (oIB fun i j=>decide (i < j)) 1 (zbh 0))
 (sRet (dIxN 0 (dVar 1)))
 (sNx))
 (sRet (zag (.int 0)))
def F_az:List D->Option D:=runD N_az g_az
abbrev Sba:Stmt:=top 42
abbrev N_ba:List Str:=["_law_cell", "_law_salt", "_law_sizes", "_law_number", "_law_left", "_law_found", "_law_k", "_law_one"]
theorem Hba:FnNm (zal Sba) N_ba ["len", "range", "max"]:=zaR (by decide +kernel)
def zhe:SM :=
 sIf (mAnd (zbQ (oIB fun i j=>decide (j<=i)) 3 (dBin oPow (zag (.int 10)) (zag (.int 18)))) (zbQ (oIB fun i j=>decide (j < i)) 4 (zag (.int 0))))
 (sSeq (sApp 5 (dBin oMod (dVar 4) (dIxN 2 (dVar 6))))
 (sSet 4 (dBin oDiv (dVar 4) (dIxN 2 (dVar 6)))))
 (sSeq (sSet 7 (dBin oMod (dBin oAdd (dBin oAdd (dBin oAdd (dVar 3) (dBin oMul (zag (.int 7919)) (dVar 1))) (dBin oMul (dBin oMul (zag (.int 101)) (dVar 6)) (dVar 6))) (dVar 6)) (zag (.int 2147483647))))
 (sSeq (sSet 7 (dBin oMod (dBin oMul (dVar 7) (zag (.int 48271))) (zag (.int 2147483647))))
 (sSeq (sSet 7 (dBin oMod (dBin oMul (dBin oMod (dBin oMul (dVar 7) (dVar 7)) (zag (.int 2147483629))) (zag (.int 48271))) (zag (.int 2147483647))))
 (sApp 5 (dBin oMod (dBin oDiv (dVar 7) (zag (.int 16))) (dIxN 2 (dVar 6)))))))
def g_ba:SM :=
 sSeq (sSet 3 (zbe zjr (zaf (dVar 0) (zaf (dBin oSub (dNeg (zag (.int 1))) (dVar 0)) (mNil)))))
 (sSeq (sSet 4 (dVar 3))
 (sSeq (zb4 5 (zav (mNil) fun xs=>if xs.length<=1000000 then zag xs else fun _=>.bad))
 (sSeq (sFor (zdD (zaf (zbh 2) (mNil))) (gN 6) zhe)
 (sRet (dVar 5)))))
def F_ba:List D->Option D:=runD N_ba g_ba
abbrev Sbn:Stmt:=top 55
abbrev N_bn:List Str:=["_law_wishes_here", "_law_worths_here", "_law_cell", "_law_salt", "_law_lower", "_law_sizes", "_law_digits", "_law_times", "_law_things", "_law_prices", "_law_thing", "_law_some", "_law_price", "_law_asks", "_law_asker", "_law_wants", "_law_ask", "_law_more"]
theorem Hbn:FnNm (zal Sbn) N_bn ["len", "range", "max", "_law_numbers"]:=zaR (by decide +kernel)
def zks:SM :=
 sSeq (zb4 15 (zf5 (ziH (dVar 1)) 1 (gN 18) (dBin oEq (dIxN 18 (zag (.int 0))) (dVar 14)) (dBin oSub (dBin oMul (dVar 7) (dBin zgu (dVar 1) (dVar 18))) (dIxN 9 (dIxN 18 (zag (.int 1)))))))
 (sSeq (sSet 16 (zbe zgb (zaf (dBin oAdd (mLst (zaf (zag (.int 0)) (mNil))) (dVar 15)) (mNil))))
 (sSeq (sSet 17 (dBin oIx (mLst (zaf (zag (.int 0)) (zaf (zag (.int 0)) (zaf (zag (.int 0)) (zaf (zag (.int 0)) (zaf (zag (.int 0)) (zaf (zag (.int 0)) (zaf (zag (.int 1)) (zaf (dIxN 6 (zag (.int 1))) (zaf (dBin oSub (zag (.int 0)) (dVar 4)) (mNil))))))))))) (dIxN 6 (dBin oAdd (dBin oAdd (zag (.int 2)) (dBin oMul (zag (.int 2)) (dVar 8))) (dVar 14)))))
 (sApp 13 (dBin oAdd (dVar 16) (dVar 17)))))
def zkt:SM :=
 sSeq (sSet 11 (dBin oAdd (mLst (zaf (zag (.int 0)) (mNil))) (mMap PyData.list (zcr (ziH (dVar 1)) 1 (gN 18) (dBin oEq (dIxN 18 (zag (.int 1))) (dVar 10)) (dBin oMul (dVar 7) (dBin zgu (dVar 1) (dVar 18)))))))
 (sSeq (sSet 12 (dIxN 11 (dBin oMod (dIxN 6 (dBin oAdd (dBin oAdd (zag (.int 2)) (dVar 8)) (dVar 10))) (zbh 11))))
 (sApp 9 (zbe zjr (zaf (zag (.int 0)) (zaf (dBin oAdd (dVar 12) (dBin oIx (mLst (zaf (zag (.int 0)) (zaf (zag (.int 0)) (zaf (zag (.int 0)) (zaf (dNeg (zag (.int 1))) (zaf (zag (.int 1)) (zaf (dIxN 6 (zag (.int 1))) (mNil)))))))) (dIxN 6 (dBin oAdd (zag (.int 2)) (dVar 10))))) (mNil))))))
def g_bn:SM :=
 sSeq (sSet 5 (dBin oAdd (dBin oAdd (dBin oAdd (mLst (zaf (zag (.int 3)) (zaf (dBin oPow (zag (.int 10)) (zag (.int 9))) (mNil)))) (dBin oMul (mLst (zaf (zag (.int 6)) (mNil))) (zbe oLen (zaf (dIxN 0 (zag (.int 0))) (mNil))))) (dBin oMul (mLst (zaf (zag (.int 8)) (mNil))) (zbe oLen (zaf (dIxN 0 (zag (.int 0))) (mNil))))) (dBin oMul (mLst (zaf (zag (.int 9)) (mNil))) (zbe oLen (zaf (dIxN 0 (zag (.int 1))) (mNil))))))
 (sSeq (sSet 6 (dFun 3 F_ba (zaf (dVar 2) (zaf (dVar 3) (zaf (dVar 5) (mNil))))))
 (sSeq (sSet 7 (dBin oIx (mLst (zaf (zag (.int 1)) (zaf (zag (.int 1)) (zaf (dBin oAdd (zag (.int 2)) (dIxN 6 (zag (.int 1)))) (mNil))))) (dIxN 6 (zag (.int 0)))))
 (sSeq (sSet 8 (zbe oLen (zaf (dIxN 0 (zag (.int 0))) (mNil))))
 (sSeq (zb4 9 (zav (mNil) fun xs=>if xs.length<=1000000 then zag xs else fun _=>.bad))
 (sSeq (sFor (zdD (zaf (dVar 8) (mNil))) (gN 10) zkt)
 (sSeq (zb4 13 (zav (mNil) fun xs=>if xs.length<=1000000 then zag xs else fun _=>.bad))
 (sSeq (sFor (zdD (zaf (zbe oLen (zaf (dIxN 0 (zag (.int 1))) (mNil))) (mNil))) (gN 14) zks)
 (sRet (mTup (zaf (dVar 7) (zaf (dVar 13) (zaf (dVar 9) (mNil)))))))))))))
def F_bn:List D->Option D:=runD N_bn g_bn
abbrev Sbh:Stmt:=top 49
abbrev N_bh:List Str:=["_law_wishes_here", "_law_lists", "_law_ranks"]
theorem Hbh:FnNm (zal Sbh) N_bh ["list"]:=zaR (by decide +kernel)
def zku:SM :=
 sApp 1 (mMap PyData.list (zcr (zaS (dVar 2)) 1 (gN 3) (zag true) (mMap PyData.list (zeQ 3))))
def g_bh:SM :=
 sSeq (zb4 1 (zav (mNil) fun xs=>if xs.length<=1000000 then zag xs else fun _=>.bad))
 (sSeq (sFor (zaS (dIxN 0 (zag (.int 1)))) (gN 2) zku)
 (sRet (mTup (zaf (mMap PyData.list (zav (zaf (dIxN 0 (zag (.int 0))) (mNil)) fun xs=>mOpt (zd3 xs))) (zaf (dVar 1) (mNil))))))
def F_bh:List D->Option D:=runD N_bh g_bh
abbrev Sbe:Stmt:=top 46
abbrev N_be:List Str:=["_law_wishes_here", "_law_asker"]
theorem Hbe:FnNm (zal Sbe) N_be ["sum", "sorted"]:=zaR (by decide +kernel)
def g_be:SM :=
 sRet (zbe zg9 (zaf (zbe zix (zaf (dBin oIx (dIxN 0 (zag (.int 1))) (dVar 1)) (zaf (mLst (mNil)) (mNil)))) (mNil)))
def F_be:List D->Option D:=runD N_be g_be
abbrev Sbk:Stmt:=top 52
abbrev N_bk:List Str:=["_law_wishes_here", "_law_found", "_law_asker"]
theorem Hbk:FnNm (zal Sbk) N_bk ["len", "range", "_law_wished"]:=zaR (by decide +kernel)
def zkv:SM :=
 sExt 1 (zcr (zaS (dFun 2 F_be (zaf (dVar 0) (zaf (dVar 2) (mNil))))) 1 (gN 3) (zag true) (mTup (zaf (dVar 2) (zaf (dVar 3) (mNil)))))
def g_bk:SM :=
 sSeq (zb4 1 (zav (mNil) fun xs=>if xs.length<=1000000 then zag xs else fun _=>.bad))
 (sSeq (sFor (zdD (zaf (zbe oLen (zaf (dIxN 0 (zag (.int 1))) (mNil))) (mNil))) (gN 2) zkv)
 (sRet (dVar 1)))
def F_bk:List D->Option D:=runD N_bk g_bk
abbrev Sbc:Stmt:=top 44
abbrev N_bc:List Str:=["_law_wishes_here", "_law_asker", "_law_thing", "_law_k", "_law_row"]
theorem Hbc:FnNm (zal Sbc) N_bc ["enumerate"]:=zaR (by decide +kernel)
def zkw:SM :=
 sIf (zbQ oIn 2 (dVar 4))
 (sRet (dBin oAdd (dVar 3) (zag (.int 1))))
 (sNx)
def g_bc:SM :=
 sSeq (sFor (zgU (zaf (dBin oIx (dIxN 0 (zag (.int 1))) (dVar 1)) (mNil))) (gT 2 (gNC (gN 3) (gNC (gN 4) (gN0)))) zkw)
 (sRet (zag (.int 0)))
def F_bc:List D->Option D:=runD N_bc g_bc
abbrev Sbd:Stmt:=top 45
abbrev N_bd:List Str:=["_law_wishes_here"]
theorem Hbd:FnNm (zal Sbd) N_bd ["max"]:=zaR (by decide +kernel)
def g_bd:SM :=
 sRet (zbe zgb (zaf (mMap PyData.list (zcr (zaS (dIxN 0 (zag (.int 1)))) 1 (gN 1) (zag true) (zbh 1))) (mNil)))
def F_bd:List D->Option D:=runD N_bd g_bd
abbrev Sbg:Stmt:=top 48
abbrev N_bg:List Str:=["_law_wishes_here", "_law_aim_here", "_law_asker", "_law_thing", "_law_order", "_law_old", "_law_turns", "_law_base", "_law_ranks", "_law_rank_here", "_law_powers", "_law_k", "_law_worth_here", "_law_pick", "_law_one"]
theorem Hbg:FnNm (zal Sbg) N_bg ["range", "_law_rank", "_law_longest", "len"]:=zaR (by decide +kernel)
def zfw:SM :=
 sSeq (sSet 12 (dBin oMul (dVar 12) (dBin oAdd (dVar 8) (zag (.int 1)))))
 (sSeq (sSet 13 (dBin oMul (dVar 13) (dBin oAdd (dVar 8) (zag (.int 1)))))
 (sIf (zbQ oEq 14 (dVar 2))
 (sSet 13 (dBin oSub (dBin oAdd (dBin oAdd (dVar 13) (dVar 8)) (zag (.int 1))) (dVar 9)))
 (sNx)))
def zkx:SM :=
 sApp 10 (dBin oMul (dIxN 10 (dNeg (zag (.int 1)))) (dVar 7))
def g_bg:SM :=
 sSeq (sAsg (dVar 1) (gT 3 (gNC (gN 4) (gNC (gN 5) (gNC (gN 6) (gN0))))))
 (sSeq (sSet 7 (dBin oAdd (zbe oLen (zaf (dIxN 0 (zag (.int 1))) (mNil))) (zag (.int 1))))
 (sSeq (sSet 8 (dFun 1 F_bd (zaf (dVar 0) (mNil))))
 (sSeq (sSet 9 (dFun 3 F_bc (zaf (dVar 0) (zaf (dVar 2) (zaf (dVar 3) (mNil))))))
 (sSeq (zb4 10 (zav (zaf (zag (.int 1)) (mNil)) fun xs=>if xs.length<=1000000 then zag xs else fun _=>.bad))
 (sSeq (sFor (zdD (zaf (dVar 8) (mNil))) (gN 11) zkx)
 (sSeq (sSet 12 (dIxN 10 (dBin oSub (dVar 8) (dVar 9))))
 (sSeq (sIf (zbQ oEq 4 (zag (.str "full")))
 (sSet 12 (dBin oAdd (dVar 12) (dIxN 10 (dVar 8))))
 (sNx))
 (sSeq (sIf (zbQ oEq 4 (zag (.str "lasts")))
 (sSet 12 (dBin oSub (dIxN 10 (dVar 8)) (dIxN 10 (dBin oSub (dVar 9) (zag (.int 1))))))
 (sNx))
 (sSeq (sSet 12 (dBin oMul (dVar 12) (dVar 7)))
 (sSeq (sIf (mAnd (mMap (fun d=>!isNon d) (dVar 5)) (dBin oEq (dIxN 5 (dVar 2)) (dVar 3)))
 (sSet 12 (dBin oAdd (dVar 12) (zag (.int 1))))
 (sNx))
 (sSeq (sSet 13 (zag (.int 0)))
 (sSeq (sFor (zaS (dVar 6)) (gN 14) zfw)
 (sRet (dBin oAdd (dVar 12) (dVar 13)))))))))))))))
def F_bg:List D->Option D:=runD N_bg g_bg
abbrev Sbl:Stmt:=top 53
abbrev N_bl:List Str:=["_law_wishes_here", "_law_aim_here", "_law_found", "_law_asker", "_law_thing"]
theorem Hbl:FnNm (zal Sbl) N_bl ["_law_wishes_of", "_law_worth"]:=zaR (by decide +kernel)
def g_bl:SM :=
 sPrs 2 3 4 (zaS (dFun 1 F_bk (zaf (dVar 0) (mNil)))) (dFun 4 F_bg (zaf (dVar 0) (zaf (dVar 1) (zaf (dVar 3) (zaf (dVar 4) (mNil))))))
def F_bl:List D->Option D:=runD N_bl g_bl
abbrev Sbf:Stmt:=top 47
abbrev N_bf:List Str:=["_law_wishes_here", "_law_cell", "_law_salt", "_law_askers", "_law_sizes", "_law_digits", "_law_old", "_law_turns", "_law_digit"]
theorem Hbf:FnNm (zal Sbf) N_bf ["_law_numbers", "len"]:=zaR (by decide +kernel)
def zfx:SM :=
 sSet 8 (dBin oMod (dBin oAdd (dVar 8) (zag (.int 1))) (dVar 3))
def zky:SM :=
 sSeq (zc8 (ziF oIn (dVar 8) 7) zfx 1000)
 (sApp 7 (dVar 8))
def g_bf:SM :=
 sSeq (sSet 3 (zbe oLen (zaf (dIxN 0 (zag (.int 1))) (mNil))))
 (sSeq (sSet 4 (dBin oAdd (mLst (zaf (zag (.int 3)) (zaf (zag (.int 2)) (zaf (dBin oAdd (dVar 3) (zag (.int 1))) (mNil))))) (dBin oMul (mLst (zaf (dBin oAdd (zbe oLen (zaf (dIxN 0 (zag (.int 0))) (mNil))) (zag (.int 1))) (mNil))) (dVar 3))))
 (sSeq (sSet 5 (dFun 3 F_ba (zaf (dVar 1) (zaf (dVar 2) (zaf (dBin oAdd (dVar 4) (dBin oMul (mLst (zaf (dVar 3) (mNil))) (dVar 3))) (mNil))))))
 (sSeq (sSet 6 (zag .none))
 (sSeq (sIf (dBin oEq (dIxN 5 (zag (.int 1))) (zag (.int 1)))
 (zb4 6 (zcr (zaS (dSlA (dVar 5) (zav (zag (.int 3)) fun x=>mOpt (zel x)) (zav (dBin oAdd (zag (.int 3)) (dVar 3)) fun x=>mOpt (zel x)))) 1 (gN 9) (zag true) (dBin oIx (mLst (zaf (zag .none) (zaf (dBin oSub (dVar 9) (zag (.int 1))) (mNil)))) (zbe zjM (zaf (mMap PyData.bool (zbQ (oIB fun i j=>decide (j < i)) 9 (zag (.int 0)))) (mNil))))))
 (sNx))
 (sSeq (zb4 7 (zav (mNil) fun xs=>if xs.length<=1000000 then zag xs else fun _=>.bad))
 (sSeq (sFor (zaS (dSlA (dVar 5) (zav (dBin oAdd (zag (.int 3)) (dVar 3)) fun x=>mOpt (zel x)) (zav (dBin oAdd (dBin oAdd (zag (.int 3)) (dVar 3)) (dIxN 5 (zag (.int 2)))) fun x=>mOpt (zel x)))) (gN 8) zky)
 (sRet (mTup (zaf (dBin oIx (mLst (zaf (zag (.str "firsts")) (zaf (zag (.str "full")) (zaf (zag (.str "lasts")) (mNil))))) (dIxN 5 (zag (.int 0)))) (zaf (dVar 6) (zaf (dVar 7) (mNil))))))))))))
def F_bf:List D->Option D:=runD N_bf g_bf
abbrev Sbb:Stmt:=top 43
abbrev N_bb:List Str:=["_law_script", "_law_at", "_law_most_things", "_law_most_askers", "_law_most_ranks", "_law_sizes", "_law_digits", "_law_copies", "_law_lists", "_law_asker", "_law_cell", "_law_places", "_law_ranks", "_law_rank_here", "_law_row"]
theorem Hbb:FnNm (zal Sbb) N_bb ["range", "len", "_law_numbers", "_law_cell_at"]:=zaR (by decide +kernel)
def zhf:SM :=
 sSeq (zb4 14 (zcr (zdD (zaf (zbh 7) (mNil))) 1 (gN 15) (dBin oEq (dIxN 11 (dVar 15)) (dVar 13)) (dVar 15)))
 (sIf (zbQ oNe 14 (mLst (mNil)))
 (sApp 12 (dBin oIx (mLst (zaf (dVar 14) (zaf (dRev (dVar 14) (zag none) (zag none) (zav (dNeg (zag (.int 1))) fun x=>mOpt (zel x))) (mNil)))) (dIxN 11 (dNeg (zag (.int 1))))))
 (sNx))
def zhg:SM :=
 sSeq (sSet 10 (dFun 2 F_az (zaf (dVar 0) (zaf (dBin oAdd (dBin oAdd (dVar 1) (zag (.int 1))) (dVar 9)) (mNil)))))
 (sSeq (sSet 11 (dFun 3 F_ba (zaf (dVar 10) (zaf (dBin oAdd (dBin oAdd (dBin oMul (zag (.int 11)) (dVar 1)) (dBin oMul (zag (.int 3)) (dVar 9))) (zag (.int 1))) (zaf (dBin oAdd (dBin oMul (mLst (zaf (dBin oAdd (dVar 4) (zag (.int 1))) (mNil))) (dVar 2)) (mLst (zaf (zag (.int 2)) (mNil)))) (mNil))))))
 (sSeq (zb4 12 (zav (mNil) fun xs=>if xs.length<=1000000 then zag xs else fun _=>.bad))
 (sSeq (sFor (zll (zaf (zag (.int 1)) (zaf (dBin oAdd (dVar 4) (zag (.int 1))) (mNil)))) (gN 13) zhf)
 (sApp 8 (dVar 12)))))
def g_bb:SM :=
 sSeq (sSet 5 (dBin oAdd (mLst (zaf (dVar 2) (zaf (dVar 3) (mNil)))) (dBin oMul (mLst (zaf (zag (.int 11)) (mNil))) (dVar 2))))
 (sSeq (sSet 6 (dFun 3 F_ba (zaf (dFun 2 F_az (zaf (dVar 0) (zaf (dVar 1) (mNil)))) (zaf (dVar 1) (zaf (dVar 5) (mNil))))))
 (sSeq (zb4 7 (zcr (zaS (dSlA (dVar 6) (zav (zag (.int 2)) fun x=>mOpt (zel x)) (zav (dBin oAdd (zag (.int 3)) (dIxN 6 (zag (.int 0)))) fun x=>mOpt (zel x)))) 1 (gN 15) (zag true) (dBin oIx (mLst (zaf (zag (.int 1)) (zaf (zag (.int 1)) (zaf (zag (.int 2)) (zaf (zag (.int 0)) (zaf (zag (.int 3)) (zaf (zag (.int 7)) (zaf (zag (.int 1)) (zaf (zag (.int 4)) (zaf (zag (.int 5)) (zaf (zag (.int 6)) (zaf (zag (.int 1)) (mNil))))))))))))) (dVar 15))))
 (sSeq (zb4 8 (zav (mNil) fun xs=>if xs.length<=1000000 then zag xs else fun _=>.bad))
 (sSeq (sFor (zdD (zaf (dBin oAdd (zag (.int 1)) (dIxN 6 (zag (.int 1)))) (mNil))) (gN 9) zhg)
 (sRet (mTup (zaf (dVar 7) (zaf (dVar 8) (mNil)))))))))
def F_bb:List D->Option D:=runD N_bb g_bb
abbrev Sbp:Stmt:=top 57
abbrev N_bp:List Str:=["_law_script", "_law_wishes_here", "_law_aim_here", "_law_worths_here", "_law_handed", "_law_k", "_law_paper_here", "_law_at", "_law_step", "_law_bent", "_law_found"]
theorem Hbp:FnNm (zal Sbp) N_bp ["range", "len", "isinstance", "bool", "_law_lets", "lets_paper", "_law_changed", "_law_cell_at", "_law_paper", "_law_copy", "_law_worths", "_law_aim", "_law_wishes"]:=zaR (by decide +kernel)
def zkz:SM :=
 sSeq (sSet 9 (dFun 3 F_bo (zaf (dVar 6) (zaf (dVar 7) (zaf (dVar 8) (mNil))))))
 (sSeq (sSet 10 (dFun 3 F_ay (zaf (dVar 4) (zaf (dVar 2) (zaf (dVar 9) (mNil))))))
 (sIf (mOr (mNot (zbb (mMap (fun d=>.bool (isTy d "bool")) (dVar 10)))) (zbQ oNe 10 (dFun 3 F_bm (zaf (dVar 1) (zaf (dVar 3) (zaf (dVar 9) (mNil)))))))
 (sRet (zag (.bool false)))
 (sNx)))
def zkA:SM :=
 sFor (zaS (mLst (zaf (zag (.int 1)) (zaf (dNeg (zag (.int 1))) (mNil))))) (gN 8) zkz
def zkB:SM :=
 sSeq (sSet 6 (dFun 5 F_bn (zaf (dVar 1) (zaf (dVar 3) (zaf (dFun 2 F_az (zaf (dVar 0) (zaf (dBin oAdd (zag (.int 6)) (dVar 5)) (mNil)))) (zaf (dBin oAdd (zag (.int 31)) (dVar 5)) (zaf (zag (.int 0)) (mNil))))))))
 (sSeq (sIf (dBin znp (dFun 3 F_ay (zaf (dVar 4) (zaf (dVar 2) (zaf (dFun 3 F_bo (zaf (dVar 6) (zaf (zag (.int 0)) (zaf (zag (.int 0)) (mNil))))) (mNil))))) (zag (.bool true)))
 (sRet (zag (.bool false)))
 (sNx))
 (sFor (zdD (zaf (dBin oAdd (dBin oAdd (zag (.int 1)) (zbe oLen (zaf (dIxN 6 (zag (.int 1))) (mNil)))) (zbe oLen (zaf (dIxN 6 (zag (.int 2))) (mNil)))) (mNil))) (gN 7) zkA))
def g_bp:SM :=
 sSeq (sSet 1 (dFun 5 F_bb (zaf (dVar 0) (zaf (zag (.int 1)) (zaf (zag (.int 4)) (zaf (zag (.int 4)) (zaf (zag (.int 4)) (mNil))))))))
 (sSeq (sSet 2 (dFun 3 F_bf (zaf (dVar 1) (zaf (dFun 2 F_az (zaf (dVar 0) (zaf (zag (.int 0)) (mNil)))) (zaf (zag (.int 5)) (mNil))))))
 (sSeq (sSet 3 (dFun 2 F_bl (zaf (dVar 1) (zaf (dVar 2) (mNil)))))
 (sSeq (sSet 4 (dFun 1 F_bh (zaf (dVar 1) (mNil))))
 (sSeq (sFor (zdD (zaf (zag (.int 3)) (mNil))) (gN 5) zkB)
 (sRet (mMap PyData.bool (zbQ oEq 4 (dVar 1))))))))
def F_bp:List D->Option D:=runD N_bp g_bp
section
variable {P:Program} {w:World} {K:PySem.W.Frag} {mg:Str->Option Value} {base:Heap} {f:Addr} {fd:FuncData} (T:Txt K mg)
include T
theorem Kbi (F:Fun K "_law_is_number" "_law_is_number" Sbi f fd):FnOk P w K mg base CX0 1 f fd ["_law_thing"] (spD K 1 F_bi) :=
 okD (k:=0) (g:=g_bi) F (fq Hbi 1) rfl fun cdv A outer s H E B G0 hr =>
 have hu:=hr.units
 have hgd:=hr.gd
 (zan (zaC (zcL (zaP (c := "int") (by decide) (gq Hbi 0) T.b_isinstance (gq Hbi 1) T.b_int (by decide +kernel) (zac (pq Hbi 0)) (by decide) (by decide)) (zcz (zjo (zaP (c := "bool") (by decide) (gq Hbi 0) T.b_isinstance (gq Hbi 2) T.b_bool (by decide +kernel) (zac (pq Hbi 0)) (by decide) (by decide)))))))
theorem Kbj (d_bi:Def P w K mg base "_law_is_number" 1 1 F_bi) (F:Fun K "_law_is_row" "_law_is_row" Sbj f fd):FnOk P w K mg base CX0 2 f fd ["_law_thing", "_law_many"] (spD K 2 F_bj) :=
 okD (k:=1) (g:=g_bj) F (fq Hbj 2) rfl fun cdv A outer s H E B G0 hr =>
 have hu:=hr.units
 have hgd:=hr.gd
 (zak (zbi (PW.pt (zcd (za4 (za9 (zaP (c := "list") (by decide) (gq Hbj 1) T.b_isinstance (gq Hbj 2) T.b_list (by decide +kernel) (zac (pq Hbj 0)) (by decide) (by decide)))) (zbK (zbv (B_ne hu) (zaG (gq Hbj 3) T.b_len (pq Hbj 0)) (zac (pq Hbj 1)) (zaZ _)))))
 (zan (zaC zbo))
 za0)
 (zan (zaC (zaB (zgW rfl) (gq Hbj 0) T.b_all PyProof.Rows.boot_all (zaa (zbL (zdl (zal Sbj) N_bj ["_law_thing", "_law_many", "_law_one"] 1 zbf rfl (zbx (zac (pq Hbj 0))) (fun cl C s0 H0 ex=>⟨fun B' G'=>(zap (zao (i:=2) (show (["_law_thing", "_law_many", "_law_one"]:List Str).Nodup by decide +kernel) rfl (za5 rfl) (.inr (zbm rfl)))),fun B' G'=>zbp,(zaY rfl rfl rfl fun B' G'=>(pdf d_bi hr (zcP rfl) (zaa (zac (pvb 2)) zah)))⟩) rfl rfl (by decide +kernel))) zah)))))
theorem Kbm (d_bj:Def P w K mg base "_law_is_row" 2 2 F_bj) (d_bi:Def P w K mg base "_law_is_number" 1 1 F_bi) (F:Fun K "_law_lets" "_law_lets" Sbm f fd):FnOk P w K mg base CX0 3 f fd ["_law_wishes_here", "_law_worths_here", "_law_thing"] (spD K 3 F_bm) :=
 okD (k:=2) (g:=g_bm) F (fq Hbm 3) rfl fun cdv A outer s H E B G0 hr =>
 have hu:=hr.units
 have hgd:=hr.gd
 (zak (zbi (PW.pt (zcd (za4 (za9 (zaP (c := "tuple") (by decide) (gq Hbm 4) T.b_isinstance (gq Hbm 5) T.b_tuple (by decide +kernel) (zac (pq Hbm 2)) (by decide) (by decide)))) (zbK (zbv (B_ne hu) (zaG (gq Hbm 1) T.b_len (pq Hbm 2)) zai (zaZ _)))))
 (zan (zaC zbo))
 za0)
 (zak (zbi (PW.pt (zcd (za4 (za9 (pdf d_bi hr (gq Hbm 3) (zaa (zar (pq Hbm 2) zai (fun _ _=>rfl)) zah)))) (zbK (zbv B_lt (zar (pq Hbm 2) zai (fun _ _=>rfl)) zai (zaZ _)))))
 (zan (zaC zbo))
 za0)
 (zak (zbi (PW.pt (zcd (za4 (za9 (pdf d_bj hr (gq Hbm 2) (zaa (zar (pq Hbm 2) zai (fun _ _=>rfl)) (zaa (zaB zdf (gq Hbm 1) T.b_len boot_len (zaa (zar (pq Hbm 0) zai (fun _ _=>rfl)) zah)) zah))))) (zbK (za4 (za9 (pdf d_bj hr (gq Hbm 2) (zaa (zar (pq Hbm 2) zai (fun _ _=>rfl)) (zaa (zaB zdf (gq Hbm 1) T.b_len boot_len (zaa (zar (pq Hbm 0) zai (fun _ _=>rfl)) zah)) zah))))))))
 (zan (zaC zbo))
 za0)
 (zak (zbi (zbv B_lt (zaB (zoS rfl) (gq Hbm 0) T.b_min boot_min (zaa (zas zaU (zar (pq Hbm 2) zai (fun _ _=>rfl)) (zar (pq Hbm 2) zai (fun _ _=>rfl))) zah)) zai (zaZ _))
 (zan (zaC zbo))
 za0)
 (zak (zbT PassesOwn.never rfl (zhb (zac (pq Hbm 1))) (zb7 rfl (zaK (zap (zao (i:=3) (nq Hbm) rfl (lq Hbm 3))) (zaK (zap (zao (i:=4) (nq Hbm) rfl (lq Hbm 4))) zb6)))
 (zan (zbi (zbv B_lt (zas zaU (zcM (zar (pq Hbm 2) zai (fun _ _=>rfl)) (zac (pq Hbm 3)) (fun _ _=>rfl)) (zcM (zar (pq Hbm 2) zai (fun _ _=>rfl)) (zac (pq Hbm 4)) (fun _ _=>rfl))) (zas zbY (zar (pq Hbm 2) zai (fun _ _=>rfl)) (zhc hu (zac (pq Hbm 1)) (zcA (zaa (zac (pq Hbm 3)) (zaa (zac (pq Hbm 4)) zah))))) (zaZ _))
 (zan (zaC zbo))
 za0)))
 (zan (zaC zbo)))))))
theorem Kaa (F:Fun K "is_whole" "is_whole" Saa f fd):FnOk P w K mg base CX0 1 f fd ["thing"] (spD K 1 F_aa) :=
 okD (k:=0) (g:=g_aa) F (fq Haa 1) rfl fun cdv A outer s H E B G0 hr =>
 have hu:=hr.units
 have hgd:=hr.gd
 (zan (zaC (zcL (zaP (c := "int") (by decide) (gq Haa 0) T.b_isinstance (gq Haa 1) T.b_int (by decide +kernel) (zac (pq Haa 0)) (by decide) (by decide)) (zcz (zjo (zaP (c := "bool") (by decide) (gq Haa 0) T.b_isinstance (gq Haa 2) T.b_bool (by decide +kernel) (zac (pq Haa 0)) (by decide) (by decide)))))))
theorem Kab (d_aa:Def P w K mg base "is_whole" 1 1 F_aa) (F:Fun K "is_number" "is_number" Sab f fd):FnOk P w K mg base CX0 2 f fd ["thing"] (spD K 1 F_ab) :=
 okD (k:=1) (g:=g_ab) F (fq Hab 1) rfl fun cdv A outer s H E B G0 hr =>
 have hu:=hr.units
 have hgd:=hr.gd
 (zan (zaC (zcL (pdf d_aa hr (gq Hab 0) (zaa (zac (pq Hab 0)) zah)) (zcz (zfh B_ge (pq Hab 0) zai (zaZ _))))))
theorem Kac (d_ab:Def P w K mg base "is_number" 2 1 F_ab) (F:Fun K "are_numbers" "are_numbers" Sac f fd):FnOk P w K mg base CX0 3 f fd ["things", "many"] (spD K 2 F_ac) :=
 okD (k:=2) (g:=g_ac) F (fq Hac 2) rfl fun cdv A outer s H E B G0 hr =>
 have hu:=hr.units
 have hgd:=hr.gd
 (zan (zaC (zcL (zfe (B_eq hu) (zaG (gq Hac 0) T.b_len (pq Hac 0)) (zac (pq Hac 1)) (zaZ _)) (zcz (zaB (zgW rfl) (gq Hac 1) T.b_all PyProof.Rows.boot_all (zaa (zbL (zdl (zal Sac) N_ac ["things", "many", "thing"] 1 zbf rfl (zbx (zac (pq Hac 0))) (fun cl C s0 H0 ex=>⟨fun B' G'=>(zap (zao (i:=2) (show (["things", "many", "thing"]:List Str).Nodup by decide +kernel) rfl (za5 rfl) (.inr (zbm rfl)))),fun B' G'=>zbp,(zaY rfl rfl rfl fun B' G'=>(pdf d_ab hr (zcP rfl) (zaa (zac (pvb 2)) zah)))⟩) rfl rfl (by decide +kernel))) zah))))))
theorem Kaw (d_ac:Def P w K mg base "are_numbers" 3 2 F_ac) (F:Fun K "is_number_list" "is_number_list" Saw f fd):FnOk P w K mg base CX0 4 f fd ["thing", "many"] (spD K 2 F_aw) :=
 okD (k:=3) (g:=g_aw) F (fq Haw 2) rfl fun cdv A outer s H E B G0 hr =>
 have hu:=hr.units
 have hgd:=hr.gd
 (zan (zaC (zcL (zaP (c := "list") (by decide) (gq Haw 0) T.b_isinstance (gq Haw 1) T.b_list (by decide +kernel) (zac (pq Haw 0)) (by decide) (by decide)) (zcz (pdf d_ac hr (gq Haw 2) (zaa (zac (pq Haw 0)) (zaa (zac (pq Haw 1)) zah)))))))
theorem Kax (d_aw:Def P w K mg base "is_number_list" 4 2 F_aw) (d_aa:Def P w K mg base "is_whole" 1 1 F_aa) (F:Fun K "has_paper_form" "has_paper_form" Sax f fd):FnOk P w K mg base CX0 5 f fd ["wishes", "thing"] (spD K 2 F_ax) :=
 okD (k:=4) (g:=g_ax) F (fq Hax 2) rfl fun cdv A outer s H E B G0 hr =>
 have hu:=hr.units
 have hgd:=hr.gd
 (zak (zbi (PW.pt (zcd (za4 (za9 (zaP (c := "tuple") (by decide) (gq Hax 3) T.b_isinstance (gq Hax 4) T.b_tuple (by decide +kernel) (zac (pq Hax 1)) (by decide) (by decide)))) (zbK (zbv (B_ne hu) (zaG (gq Hax 0) T.b_len (pq Hax 1)) zai (zaZ _)))))
 (zan (zaC zbo))
 za0)
 (zak (zdQ (zac (pq Hax 0)) (zb7 rfl (zaK (zap (zao (i:=2) (nq Hax) rfl (lq Hax 2))) (zaK (zap (zao (i:=3) (nq Hax) rfl (lq Hax 3))) zb6))))
 (zak (zdQ (zac (pq Hax 1)) (zb7 rfl (zaK (zap (zao (i:=4) (nq Hax) rfl (lq Hax 4))) (zaK (zap (zao (i:=5) (nq Hax) rfl (lq Hax 5))) (zaK (zap (zao (i:=6) (nq Hax) rfl (lq Hax 6))) zb6)))))
 (zak (zbi (PW.pt (zcd (za4 (za9 (pdf d_aa hr (gq Hax 2) (zaa (zac (pq Hax 4)) zah)))) (zbK (zbD B_lt (pq Hax 4) zai (zaZ _)))))
 (zan (zaC zbo))
 za0)
 (zan (zaC (zcL (pdf d_aw hr (gq Hax 1) (zaa (zac (pq Hax 5)) (zaa (zaG (gq Hax 0) T.b_len (pq Hax 3)) zah))) (zcz (pdf d_aw hr (gq Hax 1) (zaa (zac (pq Hax 6)) (zaa (zaG (gq Hax 0) T.b_len (pq Hax 2)) zah)))))))))))
theorem Kad (d_aa:Def P w K mg base "is_whole" 1 1 F_aa) (F:Fun K "is_number_below" "is_number_below" Sad f fd):FnOk P w K mg base CX0 2 f fd ["thing", "many"] (spD K 2 F_ad) :=
 okD (k:=1) (g:=g_ad) F (fq Had 2) rfl fun cdv A outer s H E B G0 hr =>
 have hu:=hr.units
 have hgd:=hr.gd
 (zan (zaC (zcL (pdf d_aa hr (gq Had 0) (zaa (zac (pq Had 0)) zah)) (zcz (zjm B_le B_lt zai (zac (pq Had 0)) (zac (pq Had 1)))))))
theorem Kaf (d_ad:Def P w K mg base "is_number_below" 2 2 F_ad) (F:Fun K "is_rank" "is_rank" Saf f fd):FnOk P w K mg base CX0 3 f fd ["thing", "things"] (spD K 2 F_af) :=
 okD (k:=2) (g:=g_af) F (fq Haf 2) rfl fun cdv A outer s H E B G0 hr =>
 have hu:=hr.units
 have hgd:=hr.gd
 (zak (zbi (PW.pt (zcd (za4 (za9 (zaP (c := "list") (by decide) (gq Haf 1) T.b_isinstance (gq Haf 2) T.b_list (by decide +kernel) (zac (pq Haf 0)) (by decide) (by decide)))) (zbK (zbv (B_eq hu) (zaG (gq Haf 3) T.b_len (pq Haf 0)) zai (zaZ _)))))
 (zan (zaC zbo))
 za0)
 (zan (zaC (zaB (zgW rfl) (gq Haf 0) T.b_all PyProof.Rows.boot_all (zaa (zbL (zdl (zal Saf) N_af ["thing", "things", "number"] 1 zbf rfl (zbx (zac (pq Haf 0))) (fun cl C s0 H0 ex=>⟨fun B' G'=>(zap (zao (i:=2) (show (["thing", "things", "number"]:List Str).Nodup by decide +kernel) rfl (za5 rfl) (.inr (zbm rfl)))),fun B' G'=>zbp,(zaY rfl rfl rfl fun B' G'=>(pdf d_ad hr (zcP rfl) (zaa (zac (pvb 2)) (zaa (zac (pvb 1)) zah))))⟩) rfl rfl (by decide +kernel))) zah)))))
theorem Kag (d_af:Def P w K mg base "is_rank" 3 2 F_af) (F:Fun K "is_asker_list" "is_asker_list" Sag f fd):FnOk P w K mg base CX0 4 f fd ["thing", "things"] (spD K 2 F_ag) :=
 okD (k:=3) (g:=g_ag) F (fq Hag 2) rfl fun cdv A outer s H E B G0 hr =>
 have hu:=hr.units
 have hgd:=hr.gd
 (zak (zbi (PW.pt (zcd (za4 (za9 (zaP (c := "list") (by decide) (gq Hag 3) T.b_isinstance (gq Hag 4) T.b_list (by decide +kernel) (zac (pq Hag 0)) (by decide) (by decide)))) (zbK (zbv B_gt (zaG (gq Hag 0) T.b_len (pq Hag 0)) (zls (gq Hag 5) T.c_MOST_RANKS) (zaZ _)))))
 (zan (zaC zbo))
 za0)
 (zak (zbi (za4 (za9 (zaB (zgW rfl) (gq Hag 2) T.b_all PyProof.Rows.boot_all (zaa (zbL (zdl (zal Sag) N_ag ["thing", "things", "wished", "rank"] 1 zbf rfl (zbx (zac (pq Hag 0))) (fun cl C s0 H0 ex=>⟨fun B' G'=>(zap (zao (i:=3) (show (["thing", "things", "wished", "rank"]:List Str).Nodup by decide +kernel) rfl (za5 rfl) (.inr (zbm rfl)))),fun B' G'=>zbp,(zaY rfl rfl rfl fun B' G'=>(pdf d_af hr (zcP rfl) (zaa (zac (pvb 3)) (zaa (zac (pvb 1)) zah))))⟩) rfl rfl (by decide +kernel))) zah))))
 (zan (zaC zbo))
 za0)
 (zak (sD_1 (j:=2) (zal Sag) N_ag ["thing", "things", "wished", "rank", "number"] 2 zjE (nq Hag) rfl rfl rfl (zbx (zac (pq Hag 0))) (fun cl C s0 H0 ex=>⟨fun B' G'=>(zap (zao (i:=3) (show (["thing", "things", "wished", "rank", "number"]:List Str).Nodup by decide +kernel) rfl (za5 rfl) (.inr (zbm rfl)))),fun B' G'=>zbp,(zep rfl rfl rfl rfl (fun _=>rfl) (fun B' G'=>(zbx (zac (pvb 3)))) (fun B' G'=>(zap (zao (i:=4) (show (["thing", "things", "wished", "rank", "number"]:List Str).Nodup by decide +kernel) rfl (za5 rfl) (.inr (zbm rfl))))) (fun B' G'=>zbp) (zaY rfl rfl rfl fun B' G'=>(zac (pvb 4))))⟩) rfl rfl (by decide +kernel))
 (zan (zaC (zfe (B_eq hu) (zeR rfl (gq Hag 0) T.b_len (gq Hag 1) T.b_set (zaa (zac (pq Hag 2)) zah)) (zaG (gq Hag 0) T.b_len (pq Hag 2)) (zaZ _)))))))
theorem Kah (d_ag:Def P w K mg base "is_asker_list" 4 2 F_ag) (F:Fun K "look_at_lists" "look_at_lists" Sah f fd):FnOk P w K mg base CX0 5 f fd ["lists", "things"] (spD K 2 F_ah) :=
 okD (k:=4) (g:=g_ah) F (fq Hah 2) rfl fun cdv A outer s H E B G0 hr =>
 have hu:=hr.units
 have hgd:=hr.gd
 (zak (zbi (PW.pt (zcd (za4 (za9 (zaP (c := "list") (by decide) (gq Hah 2) T.b_isinstance (gq Hah 3) T.b_list (by decide +kernel) (zac (pq Hah 0)) (by decide) (by decide)))) (zbK (za4 (zf0 B_le B_le zai (zaG (gq Hah 4) T.b_len (pq Hah 0)) (zls (gq Hah 5) T.c_MOST_ASKERS))))))
 (zan zb8)
 za0)
 (zan (zbT PassesOwn.never rfl (zfg (gq Hah 0) T.b_enumerate (zaa (zac (pq Hah 0)) zah)) (zb7 rfl (zaK (zap (zao (i:=2) (nq Hah) rfl (lq Hah 2))) (zaK (zap (zao (i:=3) (nq Hah) rfl (lq Hah 3))) zb6)))
 (zan (zbi (za4 (za9 (pdf d_ag hr (gq Hah 1) (zaa (zac (pq Hah 3)) (zaa (zac (pq Hah 1)) zah)))))
 (zan zb8)
 za0)))))
theorem Kae (d_ad:Def P w K mg base "is_number_below" 2 2 F_ad) (F:Fun K "look_at_copies" "look_at_copies" Sae f fd):FnOk P w K mg base CX0 3 f fd ["copies"] (spD K 1 F_ae) :=
 okD (k:=2) (g:=g_ae) F (fq Hae 1) rfl fun cdv A outer s H E B G0 hr =>
 have hu:=hr.units
 have hgd:=hr.gd
 (zak (zbi (PW.pt (zcd (za4 (za9 (zaP (c := "list") (by decide) (gq Hae 3) T.b_isinstance (gq Hae 4) T.b_list (by decide +kernel) (zac (pq Hae 0)) (by decide) (by decide)))) (zbK (za4 (zf0 B_le B_le zai (zaG (gq Hae 5) T.b_len (pq Hae 0)) (zls (gq Hae 6) T.c_MOST_THINGS))))))
 (zan zb8)
 za0)
 (zan (zbT PassesOwn.never rfl (zfg (gq Hae 0) T.b_enumerate (zaa (zac (pq Hae 0)) zah)) (zb7 rfl (zaK (zap (zao (i:=1) (nq Hae) rfl (lq Hae 1))) (zaK (zap (zao (i:=2) (nq Hae) rfl (lq Hae 2))) zb6)))
 (zan (zbi (za4 (za9 (pdf d_ad hr (gq Hae 2) (zaa (zac (pq Hae 2)) (zaa (zas zaU (zls (gq Hae 1) T.c_MOST_COPIES) zai) zah)))))
 (zan zb8)
 za0)))))
theorem Kai (d_ah:Def P w K mg base "look_at_lists" 5 2 F_ah) (d_ae:Def P w K mg base "look_at_copies" 3 1 F_ae) (F:Fun K "look_at_wishes" "look_at_wishes" Sai f fd):FnOk P w K mg base CX0 6 f fd ["thing"] (spD K 1 F_ai) :=
 okD (k:=5) (g:=g_ai) F (fq Hai 1) rfl fun cdv A outer s H E B G0 hr =>
 have hu:=hr.units
 have hgd:=hr.gd
 (zak (zbi (PW.pt (zcd (za4 (za9 (zaP (c := "tuple") (by decide) (gq Hai 3) T.b_isinstance (gq Hai 4) T.b_tuple (by decide +kernel) (zac (pq Hai 0)) (by decide) (by decide)))) (zbK (zbv (B_ne hu) (zaG (gq Hai 0) T.b_len (pq Hai 0)) zai (zaZ _)))))
 (zan zb8)
 za0)
 (zak (zdQ (zac (pq Hai 0)) (zb7 rfl (zaK (zap (zao (i:=1) (nq Hai) rfl (lq Hai 1))) (zaK (zap (zao (i:=2) (nq Hai) rfl (lq Hai 2))) zb6))))
 (zak (zc9 (pdf d_ae hr (gq Hai 2) (zaa (zac (pq Hai 1)) zah)))
 (zan (zc9 (pdf d_ah hr (gq Hai 1) (zaa (zac (pq Hai 2)) (zaa (zaG (gq Hai 0) T.b_len (pq Hai 1)) zah))))))))
theorem Kal (d_ai:Def P w K mg base "look_at_wishes" 6 1 F_ai) (F:Fun K "all_wishes" "all_wishes" Sal f fd):FnOk P w K mg base CX0 7 f fd ["wishes"] (spD K 1 F_al) :=
 okD (k:=6) (g:=g_al) F (fq Hal 1) rfl fun cdv A outer s H E B G0 hr =>
 have hu:=hr.units
 have hgd:=hr.gd
 (zak (zc9 (pdf d_ai hr (gq Hal 2) (zaa (zac (pq Hal 0)) zah)))
 (zan (zaC (zaB zml (gq Hal 1) T.b_sorted PyProof.Rows.boot_sorted (zaa (zbL (zdl (zal Sal) N_al ["wishes", "asker", "ranks", "rank", "thing"] 4 zjF rfl (zfg (gq Hal 0) T.b_enumerate (zaa (zar (pq Hal 0) zai (fun _ _=>rfl)) zah)) (fun cl C s0 H0 ex=>⟨fun B' G'=>(zb7 rfl (zaK (zap (zao (i:=1) (show (["wishes", "asker", "ranks", "rank", "thing"]:List Str).Nodup by decide +kernel) rfl (za5 rfl) (.inr (zbm rfl)))) (zaK (zap (zao (i:=2) (show (["wishes", "asker", "ranks", "rank", "thing"]:List Str).Nodup by decide +kernel) rfl (za5 rfl) (.inr (zbm rfl)))) zb6))),fun B' G'=>zbp,(zep rfl rfl rfl rfl (fun _=>rfl) (fun B' G'=>(zbx (zac (pvb 2)))) (fun B' G'=>(zap (zao (i:=3) (show (["wishes", "asker", "ranks", "rank", "thing"]:List Str).Nodup by decide +kernel) rfl (za5 rfl) (.inr (zbm rfl))))) (fun B' G'=>zbp) (zep rfl rfl rfl rfl (fun _=>rfl) (fun B' G'=>(zbx (zac (pvb 3)))) (fun B' G'=>(zap (zao (i:=4) (show (["wishes", "asker", "ranks", "rank", "thing"]:List Str).Nodup by decide +kernel) rfl (za5 rfl) (.inr (zbm rfl))))) (fun B' G'=>zbp) (zaY rfl rfl rfl fun B' G'=>(zcA (zaa (zac (pvb 1)) (zaa (zac (pvb 4)) zah))))))⟩) rfl rfl (by decide +kernel))) zah)))))
theorem Kar (F:Fun K "power" "power" Sar f fd):FnOk P w K mg base CX0 1 f fd ["base", "times"] (spD K 2 F_ar) :=
 okD (k:=0) (g:=g_ar) F (fq Har 2) rfl fun cdv A outer s H E B G0 hr =>
 have hu:=hr.units
 have hgd:=hr.gd
 (zak (zaI (i:=2) (nq Har) rfl (lq Har 2) zai)
 (zak (zbT PassesOwn.never rfl (zbG (gq Har 0) T.b_range (zaa (zac (pq Har 1)) zah)) (zap (zao (i:=3) (nq Har) rfl (lq Har 3)))
 (zan (zoI (j:=2) (nq Har) rfl (lq Har 2) znh (zac (pq Har 0)))))
 (zan (zaC (zac (pq Har 2))))))
theorem Kat (d_ar:Def P w K mg base "power" 1 2 F_ar) (F:Fun K "worth_by_turns" "worth_by_turns" Sat f fd):FnOk P w K mg base CX0 2 f fd ["turns", "base", "asker", "rank"] (spD K 4 F_at) :=
 okD (k:=1) (g:=g_at) F (fq Hat 4) rfl fun cdv A outer s H E B G0 hr =>
 have hu:=hr.units
 have hgd:=hr.gd
 (zak (zbi (zbD (zpM hu) (pq Hat 2) (zac (pq Hat 0)) rfl)
 (zan (zaC zai))
 za0)
 (zak (zaI (i:=4) (nq Hat) rfl (lq Hat 4) (zas zcq (zas zcq (zaG (gq Hat 1) T.b_len (pq Hat 0)) zai) (zj8 (zac (pq Hat 0)) (zaa (zac (pq Hat 2)) zah))))
 (zan (zaC (zas zbY (zas zcq (zac (pq Hat 1)) (zac (pq Hat 3))) (pdf d_ar hr (gq Hat 0) (zaa (zac (pq Hat 1)) (zaa (zac (pq Hat 4)) zah))))))))
theorem Kas (d_ar:Def P w K mg base "power" 1 2 F_ar) (F:Fun K "worth_by_order" "worth_by_order" Sas f fd):FnOk P w K mg base CX0 2 f fd ["order", "base", "most", "rank"] (spD K 4 F_as) :=
 okD (k:=1) (g:=g_as) F (fq Has 4) rfl fun cdv A outer s H E B G0 hr =>
 have hu:=hr.units
 have hgd:=hr.gd
 (zak (zbi (zbD (B_eq hu) (pq Has 0) zej (zaZ _))
 (zan (zaC (pdf d_ar hr (gq Has 0) (zaa (zac (pq Has 1)) (zaa (zas zcq (zac (pq Has 2)) (zac (pq Has 3))) zah)))))
 za0)
 (zak (zbi (zbD (B_eq hu) (pq Has 0) zej (zaZ _))
 (zan (zaC (zas zaU (pdf d_ar hr (gq Has 0) (zaa (zac (pq Has 1)) (zaa (zac (pq Has 2)) zah))) (pdf d_ar hr (gq Has 0) (zaa (zac (pq Has 1)) (zaa (zas zcq (zac (pq Has 2)) (zac (pq Has 3))) zah))))))
 za0)
 (zan (zaC (zas zcq (pdf d_ar hr (gq Has 0) (zaa (zac (pq Has 1)) (zaa (zac (pq Has 2)) zah))) (pdf d_ar hr (gq Has 0) (zaa (zac (pq Has 1)) (zaa (zas zcq (zac (pq Has 3)) zai) zah))))))))
theorem Kaj (F:Fun K "rank_in" "rank_in" Saj f fd):FnOk P w K mg base CX0 1 f fd ["ranks", "thing"] (spD K 2 F_aj) :=
 okD (k:=0) (g:=g_aj) F (fq Haj 2) rfl fun cdv A outer s H E B G0 hr =>
 have hu:=hr.units
 have hgd:=hr.gd
 (zak (zbT PassesOwn.never rfl (zlw (gq Haj 0) T.b_enumerate (zaa (zac (pq Haj 0)) zah)) (zb7 rfl (zaK (zap (zao (i:=2) (nq Haj) rfl (lq Haj 2))) (zaK (zap (zao (i:=3) (nq Haj) rfl (lq Haj 3))) zb6)))
 (zan (zbi (zbD (B_in hu) (pq Haj 1) (zac (pq Haj 3)) rfl)
 (zan (zaC (zac (pq Haj 2))))
 za0)))
 (zan (zaC zai)))
theorem Kau (d_ar:Def P w K mg base "power" 1 2 F_ar) (d_at:Def P w K mg base "worth_by_turns" 2 4 F_at) (d_as:Def P w K mg base "worth_by_order" 2 4 F_as) (d_aj:Def P w K mg base "rank_in" 1 2 F_aj) (F:Fun K "worth_by_aim" "worth_by_aim" Sau f fd):FnOk P w K mg base CX0 3 f fd ["wishes", "aim", "most", "asker", "thing"] (spD K 5 F_au) :=
 okD (k:=2) (g:=g_au) F (fq Hau 5) rfl fun cdv A outer s H E B G0 hr =>
 have hu:=hr.units
 have hgd:=hr.gd
 (zak (zdQ (zac (pq Hau 1)) (zb7 rfl (zaK (zap (zao (i:=5) (nq Hau) rfl (lq Hau 5))) (zaK (zap (zao (i:=6) (nq Hau) rfl (lq Hau 6))) (zaK (zap (zao (i:=7) (nq Hau) rfl (lq Hau 7))) zb6)))))
 (zak (zaI (i:=8) (nq Hau) rfl (lq Hau 8) (zar (pq Hau 0) zai (fun _ _=>rfl)))
 (zak (zaI (i:=9) (nq Hau) rfl (lq Hau 9) (pdf d_aj hr (gq Hau 4) (zaa (zar (pq Hau 8) (zac (pq Hau 3)) (fun _ _=>rfl)) (zaa (zac (pq Hau 4)) zah))))
 (zak (zaI (i:=10) (nq Hau) rfl (lq Hau 10) (zas zaU (zaG (gq Hau 0) T.b_len (pq Hau 8)) zai))
 (zak (zaI (i:=11) (nq Hau) rfl (lq Hau 11) (zjp (PW.pt (zgT (zhG (zac (pq Hau 6))) (zff (zbv (B_eq hu) (zar (pq Hau 6) (zac (pq Hau 3)) (fun _ _=>rfl)) (zac (pq Hau 4)) (zaZ _))))) zai zai))
 (zak (zaI (i:=12) (nq Hau) rfl (lq Hau 12) (zas zaU (zas zbY (pdf d_as hr (gq Hau 3) (zaa (zac (pq Hau 5)) (zaa (zac (pq Hau 10)) (zaa (zac (pq Hau 2)) (zaa (zac (pq Hau 9)) zah))))) (zac (pq Hau 10))) (zac (pq Hau 11))))
 (zan (zaC (zas zaU (zas zbY (zac (pq Hau 12)) (pdf d_ar hr (gq Hau 1) (zaa (zas zaU (zac (pq Hau 2)) zai) (zaa (zaG (gq Hau 0) T.b_len (pq Hau 7)) zah)))) (pdf d_at hr (gq Hau 2) (zaa (zac (pq Hau 7)) (zaa (zas zaU (zac (pq Hau 2)) zai) (zaa (zac (pq Hau 3)) (zaa (zac (pq Hau 9)) zah))))))))))))))
theorem Kak (d_ai:Def P w K mg base "look_at_wishes" 6 1 F_ai) (F:Fun K "longest" "longest" Sak f fd):FnOk P w K mg base CX0 7 f fd ["wishes"] (spD K 1 F_ak) :=
 okD (k:=6) (g:=g_ak) F (fq Hak 1) rfl fun cdv A outer s H E B G0 hr =>
 have hu:=hr.units
 have hgd:=hr.gd
 (zak (zc9 (pdf d_ai hr (gq Hak 1) (zaa (zac (pq Hak 0)) zah)))
 (zan (zaC (zaB (zjU rfl) (gq Hak 0) T.b_max boot_max (zaa (zbL (zdl (zal Sak) N_ak ["wishes", "ranks"] 1 zbf rfl (zbx (zar (pq Hak 0) zai (fun _ _=>rfl))) (fun cl C s0 H0 ex=>⟨fun B' G'=>(zap (zao (i:=1) (show (["wishes", "ranks"]:List Str).Nodup by decide +kernel) rfl (za5 rfl) (.inr (zbm rfl)))),fun B' G'=>zbp,(zaY rfl rfl rfl fun B' G'=>(zaG (zcP rfl) T.b_len (pvb 1)))⟩) rfl rfl (by decide +kernel))) zah)))))
theorem Kap (d_ad:Def P w K mg base "is_number_below" 2 2 F_ad) (F:Fun K "is_turns" "is_turns" Sap f fd):FnOk P w K mg base CX0 3 f fd ["thing", "askers"] (spD K 2 F_ap) :=
 okD (k:=2) (g:=g_ap) F (fq Hap 2) rfl fun cdv A outer s H E B G0 hr =>
 have hu:=hr.units
 have hgd:=hr.gd
 (zak (zbi (PW.pt (zcd (za4 (za9 (zaP (c := "list") (by decide) (gq Hap 2) T.b_isinstance (gq Hap 3) T.b_list (by decide +kernel) (zac (pq Hap 0)) (by decide) (by decide)))) (zbK (za4 (za9 (zaB (zgW rfl) (gq Hap 4) T.b_all PyProof.Rows.boot_all (zaa (zbL (zdl (zal Sap) N_ap ["thing", "askers", "asker"] 1 zbf rfl (zbx (zac (pq Hap 0))) (fun cl C s0 H0 ex=>⟨fun B' G'=>(zap (zao (i:=2) (show (["thing", "askers", "asker"]:List Str).Nodup by decide +kernel) rfl (za5 rfl) (.inr (zbm rfl)))),fun B' G'=>zbp,(zaY rfl rfl rfl fun B' G'=>(pdf d_ad hr (zcP rfl) (zaa (zac (pvb 2)) (zaa (zac (pvb 1)) zah))))⟩) rfl rfl (by decide +kernel))) zah)))))))
 (zan (zaC zbo))
 za0)
 (zan (zaC (zfe (B_eq hu) (zeR rfl (gq Hap 0) T.b_len (gq Hap 1) T.b_set (zaa (zac (pq Hap 0)) zah)) (zaG (gq Hap 0) T.b_len (pq Hap 0)) (zaZ _)))))
theorem Kao (d_ad:Def P w K mg base "is_number_below" 2 2 F_ad) (F:Fun K "is_old" "is_old" Sao f fd):FnOk P w K mg base CX0 3 f fd ["thing", "askers", "things"] (spD K 3 F_ao) :=
 okD (k:=2) (g:=g_ao) F (fq Hao 3) rfl fun cdv A outer s H E B G0 hr =>
 have hu:=hr.units
 have hgd:=hr.gd
 (zak (zbi (zm2 (zac (pq Hao 0)))
 (zan (zaC zbo))
 za0)
 (zak (zbi (PW.pt (zcd (za4 (za9 (zaP (c := "list") (by decide) (gq Hao 1) T.b_isinstance (gq Hao 2) T.b_list (by decide +kernel) (zac (pq Hao 0)) (by decide) (by decide)))) (zbK (zbv (B_ne hu) (zaG (gq Hao 3) T.b_len (pq Hao 0)) (zac (pq Hao 1)) (zaZ _)))))
 (zan (zaC zbo))
 za0)
 (zan (zaC (zaB (zgW rfl) (gq Hao 0) T.b_all PyProof.Rows.boot_all (zaa (zbL (zdl (zal Sao) N_ao ["thing", "askers", "things", "kept"] 1 zbf rfl (zbx (zac (pq Hao 0))) (fun cl C s0 H0 ex=>⟨fun B' G'=>(zap (zao (i:=3) (show (["thing", "askers", "things", "kept"]:List Str).Nodup by decide +kernel) rfl (za5 rfl) (.inr (zbm rfl)))),fun B' G'=>zbp,(zaY rfl rfl rfl fun B' G'=>(zor (zm3 (zac (pvb 3))) (zcz (pdf d_ad hr (zcP rfl) (zaa (zac (pvb 3)) (zaa (zac (pvb 2)) zah))))))⟩) rfl rfl (by decide +kernel))) zah))))))
theorem Kam (F:Fun K "is_order" "is_order" Sam f fd):FnOk P w K mg base CX0 1 f fd ["thing"] (spD K 1 F_am) :=
 okD (k:=0) (g:=g_am) F (fq Ham 1) rfl fun cdv A outer s H E B G0 hr =>
 have hu:=hr.units
 have hgd:=hr.gd
 (zan (zaC (zcL (zaP (c := "str") (by decide) (gq Ham 0) T.b_isinstance (gq Ham 1) T.b_str (by decide +kernel) (zac (pq Ham 0)) (by decide) (by decide)) (zcz (zfh (B_in hu) (pq Ham 0) (zpN (gq Ham 2) T.c_ORDERS) rfl)))))
theorem Kan (d_am:Def P w K mg base "is_order" 1 1 F_am) (F:Fun K "look_at_order" "look_at_order" San f fd):FnOk P w K mg base CX0 2 f fd ["thing"] (spD K 1 F_an) :=
 okD (k:=1) (g:=g_an) F (fq Han 1) rfl fun cdv A outer s H E B G0 hr =>
 have hu:=hr.units
 have hgd:=hr.gd
 (zan (zbi (za4 (za9 (pdf d_am hr (gq Han 0) (zaa (zac (pq Han 0)) zah))))
 (zan zb8)
 za0))
theorem Kaq (d_ap:Def P w K mg base "is_turns" 3 2 F_ap) (d_ao:Def P w K mg base "is_old" 3 3 F_ao) (d_an:Def P w K mg base "look_at_order" 2 1 F_an) (d_ai:Def P w K mg base "look_at_wishes" 6 1 F_ai) (F:Fun K "look_at_aim" "look_at_aim" Saq f fd):FnOk P w K mg base CX0 7 f fd ["wishes", "thing"] (spD K 2 F_aq) :=
 okD (k:=6) (g:=g_aq) F (fq Haq 2) rfl fun cdv A outer s H E B G0 hr =>
 have hu:=hr.units
 have hgd:=hr.gd
 (zak (zc9 (pdf d_ai hr (gq Haq 6) (zaa (zac (pq Haq 0)) zah)))
 (zak (zbi (PW.pt (zcd (za4 (za9 (zaP (c := "tuple") (by decide) (gq Haq 4) T.b_isinstance (gq Haq 5) T.b_tuple (by decide +kernel) (zac (pq Haq 1)) (by decide) (by decide)))) (zbK (zbv (B_ne hu) (zaG (gq Haq 0) T.b_len (pq Haq 1)) zai (zaZ _)))))
 (zan zb8)
 za0)
 (zak (zdQ (zac (pq Haq 0)) (zb7 rfl (zaK (zap (zao (i:=2) (nq Haq) rfl (lq Haq 2))) (zaK (zap (zao (i:=3) (nq Haq) rfl (lq Haq 3))) zb6))))
 (zak (zdQ (zac (pq Haq 1)) (zb7 rfl (zaK (zap (zao (i:=4) (nq Haq) rfl (lq Haq 4))) (zaK (zap (zao (i:=5) (nq Haq) rfl (lq Haq 5))) (zaK (zap (zao (i:=6) (nq Haq) rfl (lq Haq 6))) zb6)))))
 (zak (zc9 (pdf d_an hr (gq Haq 3) (zaa (zac (pq Haq 4)) zah)))
 (zak (zbi (za4 (za9 (pdf d_ao hr (gq Haq 2) (zaa (zac (pq Haq 5)) (zaa (zaG (gq Haq 0) T.b_len (pq Haq 3)) (zaa (zaG (gq Haq 0) T.b_len (pq Haq 2)) zah))))))
 (zan zb8)
 za0)
 (zan (zbi (za4 (za9 (pdf d_ap hr (gq Haq 1) (zaa (zac (pq Haq 6)) (zaa (zaG (gq Haq 0) T.b_len (pq Haq 3)) zah)))))
 (zan zb8)
 za0))))))))
theorem Kav (d_al:Def P w K mg base "all_wishes" 7 1 F_al) (d_au:Def P w K mg base "worth_by_aim" 3 5 F_au) (d_ak:Def P w K mg base "longest" 7 1 F_ak) (d_aq:Def P w K mg base "look_at_aim" 7 2 F_aq) (F:Fun K "all_worths" "all_worths" Sav f fd):FnOk P w K mg base CX0 8 f fd ["wishes", "aim"] (spD K 2 F_av) :=
 okD (k:=7) (g:=g_av) F (fq Hav 2) rfl fun cdv A outer s H E B G0 hr =>
 have hu:=hr.units
 have hgd:=hr.gd
 (zak (zc9 (pdf d_aq hr (gq Hav 2) (zaa (zac (pq Hav 0)) (zaa (zac (pq Hav 1)) zah))))
 (zak (zaI (i:=2) (nq Hav) rfl (lq Hav 2) (pdf d_ak hr (gq Hav 1) (zaa (zac (pq Hav 0)) zah)))
 (zan (zaC (zbL (zdl (zal Sav) N_av ["wishes", "aim", "most", "asker", "thing"] 2 zbf rfl (zbx (pdf d_al hr (gq Hav 0) (zaa (zac (pq Hav 0)) zah))) (fun cl C s0 H0 ex=>⟨fun B' G'=>(zb7 rfl (zaK (zap (zao (i:=3) (show (["wishes", "aim", "most", "asker", "thing"]:List Str).Nodup by decide +kernel) rfl (za5 rfl) (.inr (zbm rfl)))) (zaK (zap (zao (i:=4) (show (["wishes", "aim", "most", "asker", "thing"]:List Str).Nodup by decide +kernel) rfl (za5 rfl) (.inr (zbm rfl)))) zb6))),fun B' G'=>zbp,(zaY rfl rfl rfl fun B' G'=>(zcA (zaa (zac (pvb 3)) (zaa (zac (pvb 4)) (zaa (pdf d_au hr (zcP rfl) (zaa (zac (pvb 0)) (zaa (zac (pvb 1)) (zaa (zac (pvb 2)) (zaa (zac (pvb 3)) (zaa (zac (pvb 4)) zah)))))) zah)))))⟩) rfl rfl (by decide +kernel)))))))
theorem Kay (d_ax:Def P w K mg base "has_paper_form" 5 2 F_ax) (d_av:Def P w K mg base "all_worths" 8 2 F_av) (F:Fun K "lets_paper" "lets_paper" Say f fd):FnOk P w K mg base CX0 9 f fd ["wishes", "aim", "thing"] (spD K 3 F_ay) :=
 okD (k:=8) (g:=g_ay) F (fq Hay 3) rfl fun cdv A outer s H E B G0 hr =>
 have hu:=hr.units
 have hgd:=hr.gd
 (zak (zaI (i:=3) (nq Hay) rfl (lq Hay 3) (pdf d_av hr (gq Hay 2) (zaa (zac (pq Hay 0)) (zaa (zac (pq Hay 1)) zah))))
 (zak (zbi (za4 (za9 (pdf d_ax hr (gq Hay 1) (zaa (zac (pq Hay 0)) (zaa (zac (pq Hay 2)) zah)))))
 (zan (zaC zbo))
 za0)
 (zak (zdQ (zac (pq Hay 2)) (zb7 rfl (zaK (zap (zao (i:=4) (nq Hay) rfl (lq Hay 4))) (zaK (zap (zao (i:=5) (nq Hay) rfl (lq Hay 5))) (zaK (zap (zao (i:=6) (nq Hay) rfl (lq Hay 6))) zb6)))))
 (zan (zaC (zaB (zgW rfl) (gq Hay 0) T.b_all PyProof.Rows.boot_all (zaa (zbL (zdl (zal Say) N_ay ["wishes", "aim", "thing", "worths", "times", "asks", "prices", "asker", "number", "worth"] 3 zbf rfl (zbx (zac (pq Hay 3))) (fun cl C s0 H0 ex=>⟨fun B' G'=>(zb7 rfl (zaK (zap (zao (i:=7) (show (["wishes", "aim", "thing", "worths", "times", "asks", "prices", "asker", "number", "worth"]:List Str).Nodup by decide +kernel) rfl (za5 rfl) (.inr (zbm rfl)))) (zaK (zap (zao (i:=8) (show (["wishes", "aim", "thing", "worths", "times", "asks", "prices", "asker", "number", "worth"]:List Str).Nodup by decide +kernel) rfl (za5 rfl) (.inr (zbm rfl)))) (zaK (zap (zao (i:=9) (show (["wishes", "aim", "thing", "worths", "times", "asks", "prices", "asker", "number", "worth"]:List Str).Nodup by decide +kernel) rfl (za5 rfl) (.inr (zbm rfl)))) zb6)))),fun B' G'=>zbp,(zaY rfl rfl rfl fun B' G'=>(zfe B_ge (zas zaU (zar (pvb 5) (zac (pvb 7)) (fun _ _=>rfl)) (zar (pvb 6) (zac (pvb 8)) (fun _ _=>rfl))) (zas zbY (zac (pvb 4)) (zac (pvb 9))) (zaZ _)))⟩) rfl rfl (by decide +kernel))) zah)))))))
theorem Kbo (F:Fun K "_law_changed" "_law_changed" Sbo f fd):FnOk P w K mg base CX0 1 f fd ["_law_paper_here", "_law_at", "_law_step"] (spD K 3 F_bo) :=
 okD (k:=0) (g:=g_bo) F (fq Hbo 3) rfl fun cdv A outer s H E B G0 hr =>
 have hu:=hr.units
 have hgd:=hr.gd
 (zak (zns (i1:=3) (i2:=4) (i3:=5) rfl (nq Hbo) rfl rfl rfl (by decide) (by decide) (by decide) (show (zal Sbo).names.lookup ("_law_times" : Str)=some .local by decide +kernel) (show (zal Sbo).names.lookup ("_law_asks" : Str)=some .local by decide +kernel) (show (zal Sbo).names.lookup ("_law_prices" : Str)=some .local by decide +kernel) (fun B' G'=>(zar (pq Hbo 0) zai (fun _ _=>rfl))) (fun B' G'=>(zfi (gq Hbo 1) T.b_list (zaa (zar (pq Hbo 0) zai (fun _ _=>rfl)) zah))) (fun B' G'=>(zfi (gq Hbo 1) T.b_list (zaa (zar (pq Hbo 0) zai (fun _ _=>rfl)) zah))) rfl)
 (zak (zbi (zbD (B_eq hu) (pq Hbo 1) zai (zaZ _))
 (zan (zaI (i:=3) (nq Hbo) rfl (lq Hbo 3) (zas zaU (zac (pq Hbo 3)) (zac (pq Hbo 2)))))
 (zan (zbi (zbD B_le (pq Hbo 1) (zaG (gq Hbo 0) T.b_len (pq Hbo 4)) (zaZ _))
 (zan (zjJ (zas zaU (zar (pq Hbo 4) (zas zcq (zac (pq Hbo 1)) zai) (fun _ _=>rfl)) (zac (pq Hbo 2))) (pq Hbo 4) (zas zcq (zac (pq Hbo 1)) zai)))
 (zan (zjJ (zas zaU (zar (pq Hbo 5) (zas zcq (zas zcq (zac (pq Hbo 1)) zai) (zaG (gq Hbo 0) T.b_len (pq Hbo 4))) (fun _ _=>rfl)) (zac (pq Hbo 2))) (pq Hbo 5) (zas zcq (zas zcq (zac (pq Hbo 1)) zai) (zaG (gq Hbo 0) T.b_len (pq Hbo 4))))))))
 (zan (zaC (zcA (zaa (zac (pq Hbo 3)) (zaa (zac (pq Hbo 4)) (zaa (zac (pq Hbo 5)) zah))))))))
theorem Kaz (F:Fun K "_law_cell_at" "_law_cell_at" Saz f fd):FnOk P w K mg base CX0 1 f fd ["_law_script", "_law_k"] (spD K 2 F_az) :=
 okD (k:=0) (g:=g_az) F (fq Haz 2) rfl fun cdv A outer s H E B G0 hr =>
 have hu:=hr.units
 have hgd:=hr.gd
 (zak (zbi (zbD B_lt (pq Haz 1) (zaG (gq Haz 0) T.b_len (pq Haz 0)) (zaZ _))
 (zan (zaC (zar (pq Haz 0) (zac (pq Haz 1)) (fun _ _=>rfl))))
 za0)
 (zan (zaC zai)))
theorem Kba (F:Fun K "_law_numbers" "_law_numbers" Sba f fd):FnOk P w K mg base CX0 1 f fd ["_law_cell", "_law_salt", "_law_sizes"] (spD K 3 F_ba) :=
 okD (k:=0) (g:=g_ba) F (fq Hba 3) rfl fun cdv A outer s H E B G0 hr =>
 have hu:=hr.units
 have hgd:=hr.gd
 (zak (zaI (i:=3) (nq Hba) rfl (lq Hba 3) (zaB (zmj rfl) (gq Hba 2) T.b_max boot_max (zaa (zac (pq Hba 0)) (zaa (zas zcq (zdE zai) (zac (pq Hba 0))) zah))))
 (zak (zaI (i:=4) (nq Hba) rfl (lq Hba 4) (zac (pq Hba 3)))
 (zak (zcC (i:=5) (nq Hba) rfl (lq Hba 5) (zcD zah))
 (zak (zbT PassesOwn.never rfl (zbG (gq Hba 1) T.b_range (zaa (zaG (gq Hba 0) T.b_len (pq Hba 2)) zah)) (zap (zao (i:=6) (nq Hba) rfl (lq Hba 6)))
 (zan (zbi (PW.pt (zgT (zbD B_ge (pq Hba 3) (zas zop zai zai) (zaZ _)) (zff (zbD B_gt (pq Hba 4) zai (zaZ _)))))
 (zak (zdg (pq Hba 5) (zas zfZ (zac (pq Hba 4)) (zar (pq Hba 2) (zac (pq Hba 6)) (fun _ _=>rfl))))
 (zan (zaI (i:=4) (nq Hba) rfl (lq Hba 4) (zas zoo (zac (pq Hba 4)) (zar (pq Hba 2) (zac (pq Hba 6)) (fun _ _=>rfl))))))
 (zak (zaI (i:=7) (nq Hba) rfl (lq Hba 7) (zas zfZ (zas zaU (zas zaU (zas zaU (zac (pq Hba 3)) (zas zbY zai (zac (pq Hba 1)))) (zas zbY (zas zbY zai (zac (pq Hba 6))) (zac (pq Hba 6)))) (zac (pq Hba 6))) zai))
 (zak (zaI (i:=7) (nq Hba) rfl (lq Hba 7) (zas zfZ (zas zbY (zac (pq Hba 7)) zai) zai))
 (zak (zaI (i:=7) (nq Hba) rfl (lq Hba 7) (zas zfZ (zas zbY (zas zfZ (zas zbY (zac (pq Hba 7)) (zac (pq Hba 7))) zai) zai) zai))
 (zan (zdg (pq Hba 5) (zas zfZ (zas zoo (zac (pq Hba 7)) zai) (zar (pq Hba 2) (zac (pq Hba 6)) (fun _ _=>rfl)))))))))))
 (zan (zaC (zac (pq Hba 5))))))))
theorem Kbn (d_ba:Def P w K mg base "_law_numbers" 1 3 F_ba) (F:Fun K "_law_paper" "_law_paper" Sbn f fd):FnOk P w K mg base CX0 2 f fd ["_law_wishes_here", "_law_worths_here", "_law_cell", "_law_salt", "_law_lower"] (spD K 5 F_bn) :=
 okD (k:=1) (g:=g_bn) F (fq Hbn 5) rfl fun cdv A outer s H E B G0 hr =>
 have hu:=hr.units
 have hgd:=hr.gd
 (zak (zaI (i:=5) (nq Hbn) rfl (lq Hbn 5) (zas zaU (zas zaU (zas zaU (zba (zaa zai (zaa (zas zop zai zai) zah))) (zas zbY (zba (zaa zai zah)) (zaB zdf (gq Hbn 0) T.b_len boot_len (zaa (zar (pq Hbn 0) zai (fun _ _=>rfl)) zah)))) (zas zbY (zba (zaa zai zah)) (zaB zdf (gq Hbn 0) T.b_len boot_len (zaa (zar (pq Hbn 0) zai (fun _ _=>rfl)) zah)))) (zas zbY (zba (zaa zai zah)) (zaB zdf (gq Hbn 0) T.b_len boot_len (zaa (zar (pq Hbn 0) zai (fun _ _=>rfl)) zah)))))
 (zak (zaI (i:=6) (nq Hbn) rfl (lq Hbn 6) (pdf d_ba hr (gq Hbn 3) (zaa (zac (pq Hbn 2)) (zaa (zac (pq Hbn 3)) (zaa (zac (pq Hbn 5)) zah)))))
 (zak (zaI (i:=7) (nq Hbn) rfl (lq Hbn 7) (zcM (zba (zaa zai (zaa zai (zaa (zas zaU zai (zar (pq Hbn 6) zai (fun _ _=>rfl))) zah)))) (zar (pq Hbn 6) zai (fun _ _=>rfl)) (fun _ _=>rfl)))
 (zak (zaI (i:=8) (nq Hbn) rfl (lq Hbn 8) (zaB zdf (gq Hbn 0) T.b_len boot_len (zaa (zar (pq Hbn 0) zai (fun _ _=>rfl)) zah)))
 (zak (zcC (i:=9) (nq Hbn) rfl (lq Hbn 9) (zcD zah))
 (zak (zbT PassesOwn.never rfl (zbG (gq Hbn 1) T.b_range (zaa (zac (pq Hbn 8)) zah)) (zap (zao (i:=10) (nq Hbn) rfl (lq Hbn 10)))
 (zak (zaI (i:=11) (nq Hbn) rfl (lq Hbn 11) (zas zaU (zba (zaa zai zah)) (zbL (zdl (zal Sbn) N_bn ["_law_wishes_here", "_law_worths_here", "_law_cell", "_law_salt", "_law_lower", "_law_sizes", "_law_digits", "_law_times", "_law_things", "_law_prices", "_law_thing", "_law_some", "_law_price", "_law_asks", "_law_asker", "_law_wants", "_law_ask", "_law_more", "_law_pair"] 1 zbf rfl (zhb (zac (pq Hbn 1))) (fun cl C s0 H0 ex=>⟨fun B' G'=>(zap (zao (i:=18) (show (["_law_wishes_here", "_law_worths_here", "_law_cell", "_law_salt", "_law_lower", "_law_sizes", "_law_digits", "_law_times", "_law_things", "_law_prices", "_law_thing", "_law_some", "_law_price", "_law_asks", "_law_asker", "_law_wants", "_law_ask", "_law_more", "_law_pair"]:List Str).Nodup by decide +kernel) rfl (za5 rfl) (.inr (zbm rfl)))),fun B' G'=>(zgV (zbv (B_eq hu) (zar (pvb 18) zai (fun _ _=>rfl)) (zac (pvb 10)) (zaZ _))),(zaY rfl rfl rfl fun B' G'=>(zas zbY (zac (pvb 7)) (zhc hu (zac (pvb 1)) (zac (pvb 18)))))⟩) rfl rfl (by decide +kernel)))))
 (zak (zaI (i:=12) (nq Hbn) rfl (lq Hbn 12) (zar (pq Hbn 11) (zas zfZ (zar (pq Hbn 6) (zas zaU (zas zaU zai (zac (pq Hbn 8))) (zac (pq Hbn 10))) (fun _ _=>rfl)) (zaG (gq Hbn 0) T.b_len (pq Hbn 11))) (fun _ _=>rfl)))
 (zan (zdg (pq Hbn 9) (zaB (zmj rfl) (gq Hbn 2) T.b_max boot_max (zaa zai (zaa (zas zaU (zac (pq Hbn 12)) (zcM (zba (zaa zai (zaa zai (zaa zai (zaa (zdE zai) (zaa zai (zaa (zar (pq Hbn 6) zai (fun _ _=>rfl)) zah))))))) (zar (pq Hbn 6) (zas zaU zai (zac (pq Hbn 10))) (fun _ _=>rfl)) (fun _ _=>rfl))) zah))))))))
 (zak (zcC (i:=13) (nq Hbn) rfl (lq Hbn 13) (zcD zah))
 (zak (zbT PassesOwn.never rfl (zbG (gq Hbn 1) T.b_range (zaa (zaB zdf (gq Hbn 0) T.b_len boot_len (zaa (zar (pq Hbn 0) zai (fun _ _=>rfl)) zah)) zah)) (zap (zao (i:=14) (nq Hbn) rfl (lq Hbn 14)))
 (zak (sD_1 (j:=15) (zal Sbn) N_bn ["_law_wishes_here", "_law_worths_here", "_law_cell", "_law_salt", "_law_lower", "_law_sizes", "_law_digits", "_law_times", "_law_things", "_law_prices", "_law_thing", "_law_some", "_law_price", "_law_asks", "_law_asker", "_law_wants", "_law_ask", "_law_more", "_law_pair"] 1 zjD (nq Hbn) rfl rfl rfl (zhb (zac (pq Hbn 1))) (fun cl C s0 H0 ex=>⟨fun B' G'=>(zap (zao (i:=18) (show (["_law_wishes_here", "_law_worths_here", "_law_cell", "_law_salt", "_law_lower", "_law_sizes", "_law_digits", "_law_times", "_law_things", "_law_prices", "_law_thing", "_law_some", "_law_price", "_law_asks", "_law_asker", "_law_wants", "_law_ask", "_law_more", "_law_pair"]:List Str).Nodup by decide +kernel) rfl (za5 rfl) (.inr (zbm rfl)))),fun B' G'=>(zgV (zbv (B_eq hu) (zar (pvb 18) zai (fun _ _=>rfl)) (zac (pvb 14)) (zaZ _))),(zaY rfl rfl rfl fun B' G'=>(zas zcq (zas zbY (zac (pvb 7)) (zhc hu (zac (pvb 1)) (zac (pvb 18)))) (zar (pvb 9) (zar (pvb 18) zai (fun _ _=>rfl)) (fun _ _=>rfl))))⟩) rfl rfl (by decide +kernel))
 (zak (zaI (i:=16) (nq Hbn) rfl (lq Hbn 16) (zaB (zjU rfl) (gq Hbn 2) T.b_max boot_max (zaa (zas zaU (zba (zaa zai zah)) (zac (pq Hbn 15))) zah)))
 (zak (zaI (i:=17) (nq Hbn) rfl (lq Hbn 17) (zcM (zba (zaa zai (zaa zai (zaa zai (zaa zai (zaa zai (zaa zai (zaa zai (zaa (zar (pq Hbn 6) zai (fun _ _=>rfl)) (zaa (zas zcq zai (zac (pq Hbn 4))) zah)))))))))) (zar (pq Hbn 6) (zas zaU (zas zaU zai (zas zbY zai (zac (pq Hbn 8)))) (zac (pq Hbn 14))) (fun _ _=>rfl)) (fun _ _=>rfl)))
 (zan (zdg (pq Hbn 13) (zas zaU (zac (pq Hbn 16)) (zac (pq Hbn 17)))))))))
 (zan (zaC (zcA (zaa (zac (pq Hbn 7)) (zaa (zac (pq Hbn 13)) (zaa (zac (pq Hbn 9)) zah))))))))))))))
theorem Kbh (F:Fun K "_law_copy" "_law_copy" Sbh f fd):FnOk P w K mg base CX0 1 f fd ["_law_wishes_here"] (spD K 1 F_bh) :=
 okD (k:=0) (g:=g_bh) F (fq Hbh 1) rfl fun cdv A outer s H E B G0 hr =>
 have hu:=hr.units
 have hgd:=hr.gd
 (zak (zcC (i:=1) (nq Hbh) rfl (lq Hbh 1) (zcD zah))
 (zak (zbT PassesOwn.never rfl (zbx (zar (pq Hbh 0) zai (fun _ _=>rfl))) (zap (zao (i:=2) (nq Hbh) rfl (lq Hbh 2)))
 (zan (zdg (pq Hbh 1) (zbL (zdl (zal Sbh) N_bh ["_law_wishes_here", "_law_lists", "_law_ranks", "_law_row"] 1 zbf rfl (zbx (zac (pq Hbh 2))) (fun cl C s0 H0 ex=>⟨fun B' G'=>(zap (zao (i:=3) (show (["_law_wishes_here", "_law_lists", "_law_ranks", "_law_row"]:List Str).Nodup by decide +kernel) rfl (za5 rfl) (.inr (zbm rfl)))),fun B' G'=>zbp,(zaY rfl rfl rfl fun B' G'=>(zbL (zjL (zcP rfl) T.b_list (pvb 3))))⟩) rfl rfl (by decide +kernel))))))
 (zan (zaC (zcA (zaa (zbL (zfi (gq Hbh 0) T.b_list (zaa (zar (pq Hbh 0) zai (fun _ _=>rfl)) zah))) (zaa (zac (pq Hbh 1)) zah)))))))
theorem Kbe (F:Fun K "_law_wished" "_law_wished" Sbe f fd):FnOk P w K mg base CX0 1 f fd ["_law_wishes_here", "_law_asker"] (spD K 2 F_be) :=
 okD (k:=0) (g:=g_be) F (fq Hbe 2) rfl fun cdv A outer s H E B G0 hr =>
 have hu:=hr.units
 have hgd:=hr.gd
 (zan (zaC (zaB zml (gq Hbe 1) T.b_sorted PyProof.Rows.boot_sorted (zaa (zaB (zoD rfl) (gq Hbe 0) T.b_sum PyProof.Rows.boot_sum (zaa (zcM (zar (pq Hbe 0) zai (fun _ _=>rfl)) (zac (pq Hbe 1)) (fun _ _=>rfl)) (zaa (zba zah) zah))) zah))))
theorem Kbk (d_be:Def P w K mg base "_law_wished" 1 2 F_be) (F:Fun K "_law_wishes_of" "_law_wishes_of" Sbk f fd):FnOk P w K mg base CX0 2 f fd ["_law_wishes_here"] (spD K 1 F_bk) :=
 okD (k:=1) (g:=g_bk) F (fq Hbk 1) rfl fun cdv A outer s H E B G0 hr =>
 have hu:=hr.units
 have hgd:=hr.gd
 (zak (zcC (i:=1) (nq Hbk) rfl (lq Hbk 1) (zcD zah))
 (zak (zbT PassesOwn.never rfl (zbG (gq Hbk 1) T.b_range (zaa (zaB zdf (gq Hbk 0) T.b_len boot_len (zaa (zar (pq Hbk 0) zai (fun _ _=>rfl)) zah)) zah)) (zap (zao (i:=2) (nq Hbk) rfl (lq Hbk 2)))
 (zan (zoJ (pq Hbk 1) (zdl (zal Sbk) N_bk ["_law_wishes_here", "_law_found", "_law_asker", "_law_thing"] 1 zbf rfl (zbx (pdf d_be hr (gq Hbk 2) (zaa (zac (pq Hbk 0)) (zaa (zac (pq Hbk 2)) zah)))) (fun cl C s0 H0 ex=>⟨fun B' G'=>(zap (zao (i:=3) (show (["_law_wishes_here", "_law_found", "_law_asker", "_law_thing"]:List Str).Nodup by decide +kernel) rfl (za5 rfl) (.inr (zbm rfl)))),fun B' G'=>zbp,(zaY rfl rfl rfl fun B' G'=>(zcA (zaa (zac (pvb 2)) (zaa (zac (pvb 3)) zah))))⟩) rfl rfl (by decide +kernel)))))
 (zan (zaC (zac (pq Hbk 1))))))
theorem Kbc (F:Fun K "_law_rank" "_law_rank" Sbc f fd):FnOk P w K mg base CX0 1 f fd ["_law_wishes_here", "_law_asker", "_law_thing"] (spD K 3 F_bc) :=
 okD (k:=0) (g:=g_bc) F (fq Hbc 3) rfl fun cdv A outer s H E B G0 hr =>
 have hu:=hr.units
 have hgd:=hr.gd
 (zak (zbT PassesOwn.never rfl (zfg (gq Hbc 0) T.b_enumerate (zaa (zcM (zar (pq Hbc 0) zai (fun _ _=>rfl)) (zac (pq Hbc 1)) (fun _ _=>rfl)) zah)) (zb7 rfl (zaK (zap (zao (i:=3) (nq Hbc) rfl (lq Hbc 3))) (zaK (zap (zao (i:=4) (nq Hbc) rfl (lq Hbc 4))) zb6)))
 (zan (zbi (zbD (B_in hu) (pq Hbc 2) (zac (pq Hbc 4)) rfl)
 (zan (zaC (zas zaU (zac (pq Hbc 3)) zai)))
 za0)))
 (zan (zaC zai)))
theorem Kbd (F:Fun K "_law_longest" "_law_longest" Sbd f fd):FnOk P w K mg base CX0 1 f fd ["_law_wishes_here"] (spD K 1 F_bd) :=
 okD (k:=0) (g:=g_bd) F (fq Hbd 1) rfl fun cdv A outer s H E B G0 hr =>
 have hu:=hr.units
 have hgd:=hr.gd
 (zan (zaC (zaB (zjU rfl) (gq Hbd 0) T.b_max boot_max (zaa (zbL (zdl (zal Sbd) N_bd ["_law_wishes_here", "_law_ranks"] 1 zbf rfl (zbx (zar (pq Hbd 0) zai (fun _ _=>rfl))) (fun cl C s0 H0 ex=>⟨fun B' G'=>(zap (zao (i:=1) (show (["_law_wishes_here", "_law_ranks"]:List Str).Nodup by decide +kernel) rfl (za5 rfl) (.inr (zbm rfl)))),fun B' G'=>zbp,(zaY rfl rfl rfl fun B' G'=>(zaG (zcP rfl) T.b_len (pvb 1)))⟩) rfl rfl (by decide +kernel))) zah))))
theorem Kbg (d_bc:Def P w K mg base "_law_rank" 1 3 F_bc) (d_bd:Def P w K mg base "_law_longest" 1 1 F_bd) (F:Fun K "_law_worth" "_law_worth" Sbg f fd):FnOk P w K mg base CX0 2 f fd ["_law_wishes_here", "_law_aim_here", "_law_asker", "_law_thing"] (spD K 4 F_bg) :=
 okD (k:=1) (g:=g_bg) F (fq Hbg 4) rfl fun cdv A outer s H E B G0 hr =>
 have hu:=hr.units
 have hgd:=hr.gd
 (zak (zdQ (zac (pq Hbg 1)) (zb7 rfl (zaK (zap (zao (i:=4) (nq Hbg) rfl (lq Hbg 4))) (zaK (zap (zao (i:=5) (nq Hbg) rfl (lq Hbg 5))) (zaK (zap (zao (i:=6) (nq Hbg) rfl (lq Hbg 6))) zb6)))))
 (zak (zaI (i:=7) (nq Hbg) rfl (lq Hbg 7) (zas zaU (zaB zdf (gq Hbg 3) T.b_len boot_len (zaa (zar (pq Hbg 0) zai (fun _ _=>rfl)) zah)) zai))
 (zak (zaI (i:=8) (nq Hbg) rfl (lq Hbg 8) (pdf d_bd hr (gq Hbg 2) (zaa (zac (pq Hbg 0)) zah)))
 (zak (zaI (i:=9) (nq Hbg) rfl (lq Hbg 9) (pdf d_bc hr (gq Hbg 1) (zaa (zac (pq Hbg 0)) (zaa (zac (pq Hbg 2)) (zaa (zac (pq Hbg 3)) zah)))))
 (zak (zcC (i:=10) (nq Hbg) rfl (lq Hbg 10) (zcD (zaa zai zah)))
 (zak (zbT PassesOwn.never rfl (zbG (gq Hbg 0) T.b_range (zaa (zac (pq Hbg 8)) zah)) (zap (zao (i:=11) (nq Hbg) rfl (lq Hbg 11)))
 (zan (zdg (pq Hbg 10) (zas zbY (zar (pq Hbg 10) (zdE zai) (fun _ _=>rfl)) (zac (pq Hbg 7))))))
 (zak (zaI (i:=12) (nq Hbg) rfl (lq Hbg 12) (zar (pq Hbg 10) (zas zcq (zac (pq Hbg 8)) (zac (pq Hbg 9))) (fun _ _=>rfl)))
 (zak (zbi (zbD (B_eq hu) (pq Hbg 4) zej (zaZ _))
 (zan (zaI (i:=12) (nq Hbg) rfl (lq Hbg 12) (zas zaU (zac (pq Hbg 12)) (zar (pq Hbg 10) (zac (pq Hbg 8)) (fun _ _=>rfl)))))
 za0)
 (zak (zbi (zbD (B_eq hu) (pq Hbg 4) zej (zaZ _))
 (zan (zaI (i:=12) (nq Hbg) rfl (lq Hbg 12) (zas zcq (zar (pq Hbg 10) (zac (pq Hbg 8)) (fun _ _=>rfl)) (zar (pq Hbg 10) (zas zcq (zac (pq Hbg 9)) zai) (fun _ _=>rfl)))))
 za0)
 (zak (zaI (i:=12) (nq Hbg) rfl (lq Hbg 12) (zas zbY (zac (pq Hbg 12)) (zac (pq Hbg 7))))
 (zak (zbi (PW.pt (zgT (zhG (zac (pq Hbg 5))) (zff (zbv (B_eq hu) (zar (pq Hbg 5) (zac (pq Hbg 2)) (fun _ _=>rfl)) (zac (pq Hbg 3)) (zaZ _)))))
 (zan (zaI (i:=12) (nq Hbg) rfl (lq Hbg 12) (zas zaU (zac (pq Hbg 12)) zai)))
 za0)
 (zak (zaI (i:=13) (nq Hbg) rfl (lq Hbg 13) zai)
 (zak (zbT PassesOwn.never rfl (zbx (zac (pq Hbg 6))) (zap (zao (i:=14) (nq Hbg) rfl (lq Hbg 14)))
 (zak (zaI (i:=12) (nq Hbg) rfl (lq Hbg 12) (zas zbY (zac (pq Hbg 12)) (zas zaU (zac (pq Hbg 8)) zai)))
 (zak (zaI (i:=13) (nq Hbg) rfl (lq Hbg 13) (zas zbY (zac (pq Hbg 13)) (zas zaU (zac (pq Hbg 8)) zai)))
 (zan (zbi (zbD (B_eq hu) (pq Hbg 14) (zac (pq Hbg 2)) (zaZ _))
 (zan (zaI (i:=13) (nq Hbg) rfl (lq Hbg 13) (zas zcq (zas zaU (zas zaU (zac (pq Hbg 13)) (zac (pq Hbg 8))) zai) (zac (pq Hbg 9)))))
 za0)))))
 (zan (zaC (zas zaU (zac (pq Hbg 12)) (zac (pq Hbg 13))))))))))))))))))
theorem Kbl (d_bk:Def P w K mg base "_law_wishes_of" 2 1 F_bk) (d_bg:Def P w K mg base "_law_worth" 2 4 F_bg) (F:Fun K "_law_worths" "_law_worths" Sbl f fd):FnOk P w K mg base CX0 3 f fd ["_law_wishes_here", "_law_aim_here"] (spD K 2 F_bl) :=
 okD (k:=2) (g:=g_bl) F (fq Hbl 2) rfl fun cdv A outer s H E B G0 hr =>
 have hu:=hr.units
 have hgd:=hr.gd
 (zoQ (j:=2) (i1:=3) (i2:=4) hu PassesOwn.never rfl (nq Hbl) rfl rfl rfl (lq Hbl 2) (lq Hbl 3) (lq Hbl 4) (fun _=>(pq Hbl 2)) (fun _=>(pq Hbl 3)) (fun _=>(pq Hbl 4)) (by decide) (by decide) (by decide)
 (fun B' G'=>(zbx (pdf d_bk hr (gq Hbl 0) (zaa (zac (pq Hbl 0)) zah))))
 (fun B' G'=>(pdf d_bg hr (gq Hbl 1) (zaa (zac (pq Hbl 0)) (zaa (zac (pq Hbl 1)) (zaa (zac (pq Hbl 3)) (zaa (zac (pq Hbl 4)) zah)))))) (by first | exact .inl rfl | exact .inr rfl | assumption) (by first | exact .inl rfl | exact .inr rfl | assumption) (by first | exact .inl rfl | exact .inr rfl | assumption))
theorem Kbf (d_ba:Def P w K mg base "_law_numbers" 1 3 F_ba) (F:Fun K "_law_aim" "_law_aim" Sbf f fd):FnOk P w K mg base CX0 2 f fd ["_law_wishes_here", "_law_cell", "_law_salt"] (spD K 3 F_bf) :=
 okD (k:=1) (g:=g_bf) F (fq Hbf 3) rfl fun cdv A outer s H E B G0 hr =>
 have hu:=hr.units
 have hgd:=hr.gd
 (zak (zaI (i:=3) (nq Hbf) rfl (lq Hbf 3) (zaB zdf (gq Hbf 1) T.b_len boot_len (zaa (zar (pq Hbf 0) zai (fun _ _=>rfl)) zah)))
 (zak (zaI (i:=4) (nq Hbf) rfl (lq Hbf 4) (zas zaU (zba (zaa zai (zaa zai (zaa (zas zaU (zac (pq Hbf 3)) zai) zah)))) (zas zbY (zba (zaa (zas zaU (zaB zdf (gq Hbf 1) T.b_len boot_len (zaa (zar (pq Hbf 0) zai (fun _ _=>rfl)) zah)) zai) zah)) (zac (pq Hbf 3)))))
 (zak (zaI (i:=5) (nq Hbf) rfl (lq Hbf 5) (pdf d_ba hr (gq Hbf 0) (zaa (zac (pq Hbf 1)) (zaa (zac (pq Hbf 2)) (zaa (zas zaU (zac (pq Hbf 4)) (zas zbY (zba (zaa (zac (pq Hbf 3)) zah)) (zac (pq Hbf 3)))) zah)))))
 (zak (zaI (i:=6) (nq Hbf) rfl (lq Hbf 6) zjk)
 (zak (zbi (zbv (B_eq hu) (zar (pq Hbf 5) zai (fun _ _=>rfl)) zai (zaZ _))
 (zan (sD_1 (j:=6) (zal Sbf) N_bf ["_law_wishes_here", "_law_cell", "_law_salt", "_law_askers", "_law_sizes", "_law_digits", "_law_old", "_law_turns", "._law_digit", "_law_digit"] 1 zbf (nq Hbf) rfl rfl rfl (zbx (zdG (zac (pq Hbf 5)) (zcB zai) (zcB (zas zaU zai (zac (pq Hbf 3)))))) (fun cl C s0 H0 ex=>⟨fun B' G'=>(zap (zao (i:=9) (show (["_law_wishes_here", "_law_cell", "_law_salt", "_law_askers", "_law_sizes", "_law_digits", "_law_old", "_law_turns", "._law_digit", "_law_digit"]:List Str).Nodup by decide +kernel) rfl (za5 rfl) (.inr (zbm rfl)))),fun B' G'=>zbp,(zaY rfl rfl rfl fun B' G'=>(zcM (zba (zaa zjk (zaa (zas zcq (zac (pvb 9)) zai) zah))) (zii zoC (zcP rfl) T.b_int PyProof.Rows.boot_int (zaa (zfh B_gt (pvb 9) zai (zaZ _)) zah)) (fun _ _=>rfl)))⟩) rfl rfl (by decide +kernel)))
 za0)
 (zak (zcC (i:=7) (nq Hbf) rfl (lq Hbf 7) (zcD zah))
 (zak (zbT PassesOwn.never rfl (zbx (zdG (zac (pq Hbf 5)) (zcB (zas zaU zai (zac (pq Hbf 3)))) (zcB (zas zaU (zas zaU zai (zac (pq Hbf 3))) (zar (pq Hbf 5) zai (fun _ _=>rfl)))))) (zap (zao (i:=8) (nq Hbf) rfl (lq Hbf 8)))
 (zak (zlz 1000 PassesOwn.never (znl (B_in hu) (zac (pq Hbf 8)) (pq Hbf 7) rfl)
 (zan (zaI (i:=8) (nq Hbf) rfl (lq Hbf 8) (zas zfZ (zas zaU (zac (pq Hbf 8)) zai) (zac (pq Hbf 3))))))
 (zan (zdg (pq Hbf 7) (zac (pq Hbf 8))))))
 (zan (zaC (zcA (zaa (zcM (zba (zaa zej (zaa zej (zaa zej zah)))) (zar (pq Hbf 5) zai (fun _ _=>rfl)) (fun _ _=>rfl)) (zaa (zac (pq Hbf 6)) (zaa (zac (pq Hbf 7)) zah)))))))))))))
theorem Kbb (d_ba:Def P w K mg base "_law_numbers" 1 3 F_ba) (d_az:Def P w K mg base "_law_cell_at" 1 2 F_az) (F:Fun K "_law_wishes" "_law_wishes" Sbb f fd):FnOk P w K mg base CX0 2 f fd ["_law_script", "_law_at", "_law_most_things", "_law_most_askers", "_law_most_ranks"] (spD K 5 F_bb) :=
 okD (k:=1) (g:=g_bb) F (fq Hbb 5) rfl fun cdv A outer s H E B G0 hr =>
 have hu:=hr.units
 have hgd:=hr.gd
 (zak (zaI (i:=5) (nq Hbb) rfl (lq Hbb 5) (zas zaU (zba (zaa (zac (pq Hbb 2)) (zaa (zac (pq Hbb 3)) zah))) (zas zbY (zba (zaa zai zah)) (zac (pq Hbb 2)))))
 (zak (zaI (i:=6) (nq Hbb) rfl (lq Hbb 6) (pdf d_ba hr (gq Hbb 2) (zaa (pdf d_az hr (gq Hbb 3) (zaa (zac (pq Hbb 0)) (zaa (zac (pq Hbb 1)) zah))) (zaa (zac (pq Hbb 1)) (zaa (zac (pq Hbb 5)) zah)))))
 (zak (sD_1 (j:=7) (zal Sbb) N_bb ["_law_script", "_law_at", "_law_most_things", "_law_most_askers", "_law_most_ranks", "_law_sizes", "_law_digits", "_law_copies", "_law_lists", "_law_asker", "_law_cell", "_law_places", "_law_ranks", "_law_rank_here", "_law_row", "_law_digit"] 1 zbf (nq Hbb) rfl rfl rfl (zbx (zdG (zac (pq Hbb 6)) (zcB zai) (zcB (zas zaU zai (zar (pq Hbb 6) zai (fun _ _=>rfl)))))) (fun cl C s0 H0 ex=>⟨fun B' G'=>(zap (zao (i:=15) (show (["_law_script", "_law_at", "_law_most_things", "_law_most_askers", "_law_most_ranks", "_law_sizes", "_law_digits", "_law_copies", "_law_lists", "_law_asker", "_law_cell", "_law_places", "_law_ranks", "_law_rank_here", "_law_row", "_law_digit"]:List Str).Nodup by decide +kernel) rfl (za5 rfl) (.inr (zbm rfl)))),fun B' G'=>zbp,(zaY rfl rfl rfl fun B' G'=>(zcM (zba (zaa zai (zaa zai (zaa zai (zaa zai (zaa zai (zaa zai (zaa zai (zaa zai (zaa zai (zaa zai (zaa zai zah)))))))))))) (zac (pvb 15)) (fun _ _=>rfl)))⟩) rfl rfl (by decide +kernel))
 (zak (zcC (i:=8) (nq Hbb) rfl (lq Hbb 8) (zcD zah))
 (zak (zbT PassesOwn.never rfl (zbG (gq Hbb 0) T.b_range (zaa (zas zaU zai (zar (pq Hbb 6) zai (fun _ _=>rfl))) zah)) (zap (zao (i:=9) (nq Hbb) rfl (lq Hbb 9)))
 (zak (zaI (i:=10) (nq Hbb) rfl (lq Hbb 10) (pdf d_az hr (gq Hbb 3) (zaa (zac (pq Hbb 0)) (zaa (zas zaU (zas zaU (zac (pq Hbb 1)) zai) (zac (pq Hbb 9))) zah))))
 (zak (zaI (i:=11) (nq Hbb) rfl (lq Hbb 11) (pdf d_ba hr (gq Hbb 2) (zaa (zac (pq Hbb 10)) (zaa (zas zaU (zas zaU (zas zbY zai (zac (pq Hbb 1))) (zas zbY zai (zac (pq Hbb 9)))) zai) (zaa (zas zaU (zas zbY (zba (zaa (zas zaU (zac (pq Hbb 4)) zai) zah)) (zac (pq Hbb 2))) (zba (zaa zai zah))) zah)))))
 (zak (zcC (i:=12) (nq Hbb) rfl (lq Hbb 12) (zcD zah))
 (zak (zbT PassesOwn.never rfl (zjs (gq Hbb 0) T.b_range (zaa zai (zaa (zas zaU (zac (pq Hbb 4)) zai) zah))) (zap (zao (i:=13) (nq Hbb) rfl (lq Hbb 13)))
 (zak (sD_1 (j:=14) (zal Sbb) N_bb ["_law_script", "_law_at", "_law_most_things", "_law_most_askers", "_law_most_ranks", "_law_sizes", "_law_digits", "_law_copies", "_law_lists", "_law_asker", "_law_cell", "_law_places", "_law_ranks", "_law_rank_here", "_law_row", "_law_thing"] 1 zbf (nq Hbb) rfl rfl rfl (zbG (gq Hbb 0) T.b_range (zaa (zaG (gq Hbb 1) T.b_len (pq Hbb 7)) zah)) (fun cl C s0 H0 ex=>⟨fun B' G'=>(zap (zao (i:=15) (show (["_law_script", "_law_at", "_law_most_things", "_law_most_askers", "_law_most_ranks", "_law_sizes", "_law_digits", "_law_copies", "_law_lists", "_law_asker", "_law_cell", "_law_places", "_law_ranks", "_law_rank_here", "_law_row", "_law_thing"]:List Str).Nodup by decide +kernel) rfl (za5 rfl) (.inr (zbm rfl)))),fun B' G'=>(zgV (zbv (B_eq hu) (zar (pvb 11) (zac (pvb 15)) (fun _ _=>rfl)) (zac (pvb 13)) (zaZ _))),(zaY rfl rfl rfl fun B' G'=>(zac (pvb 15)))⟩) rfl rfl (by decide +kernel))
 (zan (zbi (zbD (B_ne hu) (pq Hbb 14) (zba zah) (zaZ _))
 (zan (zdg (pq Hbb 12) (zcM (zba (zaa (zac (pq Hbb 14)) (zaa (zna (zac (pq Hbb 14)) zhH zhH (zcB (zdE zai))) zah))) (zar (pq Hbb 11) (zdE zai) (fun _ _=>rfl)) (fun _ _=>rfl))))
 za0))))
 (zan (zdg (pq Hbb 8) (zac (pq Hbb 12)))))))))
 (zan (zaC (zcA (zaa (zac (pq Hbb 7)) (zaa (zac (pq Hbb 8)) zah))))))))))
theorem Kbp (d_bm:Def P w K mg base "_law_lets" 3 3 F_bm) (d_ay:Def P w K mg base "lets_paper" 9 3 F_ay) (d_bo:Def P w K mg base "_law_changed" 1 3 F_bo) (d_az:Def P w K mg base "_law_cell_at" 1 2 F_az) (d_bn:Def P w K mg base "_law_paper" 2 5 F_bn) (d_bh:Def P w K mg base "_law_copy" 1 1 F_bh) (d_bl:Def P w K mg base "_law_worths" 3 2 F_bl) (d_bf:Def P w K mg base "_law_aim" 2 3 F_bf) (d_bb:Def P w K mg base "_law_wishes" 2 5 F_bb) (F:Fun K "law" "law" Sbp f fd):FnOk P w K mg base CX0 10 f fd ["_law_script"] (spD K 1 F_bp) :=
 okD (k:=9) (g:=g_bp) F (fq Hbp 1) rfl fun cdv A outer s H E B G0 hr =>
 have hu:=hr.units
 have hgd:=hr.gd
 (zak (zaI (i:=1) (nq Hbp) rfl (lq Hbp 1) (pdf d_bb hr (gq Hbp 12) (zaa (zac (pq Hbp 0)) (zaa zai (zaa zai (zaa zai (zaa zai zah)))))))
 (zak (zaI (i:=2) (nq Hbp) rfl (lq Hbp 2) (pdf d_bf hr (gq Hbp 11) (zaa (zac (pq Hbp 1)) (zaa (pdf d_az hr (gq Hbp 7) (zaa (zac (pq Hbp 0)) (zaa zai zah))) (zaa zai zah)))))
 (zak (zaI (i:=3) (nq Hbp) rfl (lq Hbp 3) (pdf d_bl hr (gq Hbp 10) (zaa (zac (pq Hbp 1)) (zaa (zac (pq Hbp 2)) zah))))
 (zak (zaI (i:=4) (nq Hbp) rfl (lq Hbp 4) (pdf d_bh hr (gq Hbp 9) (zaa (zac (pq Hbp 1)) zah)))
 (zak (zbT PassesOwn.never rfl (zbG (gq Hbp 0) T.b_range (zaa zai zah)) (zap (zao (i:=5) (nq Hbp) rfl (lq Hbp 5)))
 (zak (zaI (i:=6) (nq Hbp) rfl (lq Hbp 6) (pdf d_bn hr (gq Hbp 8) (zaa (zac (pq Hbp 1)) (zaa (zac (pq Hbp 3)) (zaa (pdf d_az hr (gq Hbp 7) (zaa (zac (pq Hbp 0)) (zaa (zas zaU zai (zac (pq Hbp 5))) zah))) (zaa (zas zaU zai (zac (pq Hbp 5))) (zaa zai zah)))))))
 (zak (zbi (zbv zoR (pdf d_ay hr (gq Hbp 5) (zaa (zac (pq Hbp 4)) (zaa (zac (pq Hbp 2)) (zaa (pdf d_bo hr (gq Hbp 6) (zaa (zac (pq Hbp 6)) (zaa zai (zaa zai zah)))) zah)))) zbo (zaZ _))
 (zan (zaC zbo))
 za0)
 (zan (zbT PassesOwn.never rfl (zbG (gq Hbp 0) T.b_range (zaa (zas zaU (zas zaU zai (zaB zdf (gq Hbp 1) T.b_len boot_len (zaa (zar (pq Hbp 6) zai (fun _ _=>rfl)) zah))) (zaB zdf (gq Hbp 1) T.b_len boot_len (zaa (zar (pq Hbp 6) zai (fun _ _=>rfl)) zah))) zah)) (zap (zao (i:=7) (nq Hbp) rfl (lq Hbp 7)))
 (zan (zbT PassesOwn.never rfl (zbx (zba (zaa zai (zaa (zdE zai) zah)))) (zap (zao (i:=8) (nq Hbp) rfl (lq Hbp 8)))
 (zak (zaI (i:=9) (nq Hbp) rfl (lq Hbp 9) (pdf d_bo hr (gq Hbp 6) (zaa (zac (pq Hbp 6)) (zaa (zac (pq Hbp 7)) (zaa (zac (pq Hbp 8)) zah)))))
 (zak (zaI (i:=10) (nq Hbp) rfl (lq Hbp 10) (pdf d_ay hr (gq Hbp 5) (zaa (zac (pq Hbp 4)) (zaa (zac (pq Hbp 2)) (zaa (zac (pq Hbp 9)) zah)))))
 (zan (zbi (PW.pt (zcd (za4 (za9 (zaP (c := "bool") (by decide) (gq Hbp 2) T.b_isinstance (gq Hbp 3) T.b_bool (by decide +kernel) (zac (pq Hbp 10)) (by decide) (by decide)))) (zbK (zbD (B_ne hu) (pq Hbp 10) (pdf d_bm hr (gq Hbp 4) (zaa (zac (pq Hbp 1)) (zaa (zac (pq Hbp 3)) (zaa (zac (pq Hbp 9)) zah)))) (zaZ _)))))
 (zan (zaC zbo))
 za0)))))))))))
 (zan (zaC (zfh (B_eq hu) (pq Hbp 4) (zac (pq Hbp 1)) (zaZ _)))))))))
end
theorem zaE:recsOf q0=zgt p0 ixL:=by
 show recsOf (PySem.W.view PySem.Challenge.pw_wishdeal_k37_one_number_changed zdZ)=zgt PySem.Challenge.pw_wishdeal_k37_one_number_changed ixL
 rw [PySem.W.Fast.te3399658132070893891,PySem.W.Fast.te11751142909835218258]
 kernel_rfl
theorem zdb:(["all", "bool", "enumerate", "int", "isinstance", "len", "list", "max", "min", "range", "set", "sorted", "str", "sum", "tuple"]:List Str).all (zlF q0 (PySem.W.looseW q0 []))=true:=by
 show List.all _ (zlF (PySem.W.view PySem.Challenge.pw_wishdeal_k37_one_number_changed zdZ) (PySem.W.looseW (PySem.W.view PySem.Challenge.pw_wishdeal_k37_one_number_changed zdZ) []))=true
 k_qdec
theorem zeJ:valOf q0 "MOST_ASKERS" = some (.int 7):=by
 show valOf (PySem.W.view PySem.Challenge.pw_wishdeal_k37_one_number_changed zdZ) _=_
 rw [PySem.W.Fast.te1987589406359920131,PySem.W.Fast.te11751142909835218258]
 kernel_rfl
theorem zeK:valOf q0 "MOST_COPIES" = some (.int 7):=by
 show valOf (PySem.W.view PySem.Challenge.pw_wishdeal_k37_one_number_changed zdZ) _=_
 rw [PySem.W.Fast.te1987589406359920131,PySem.W.Fast.te11751142909835218258]
 kernel_rfl
theorem zfy:valOf q0 "MOST_RANKS" = some (.int 5):=by
 show valOf (PySem.W.view PySem.Challenge.pw_wishdeal_k37_one_number_changed zdZ) _=_
 rw [PySem.W.Fast.te1987589406359920131,PySem.W.Fast.te11751142909835218258]
 kernel_rfl
theorem zeL:valOf q0 "MOST_THINGS" = some (.int 6):=by
 show valOf (PySem.W.view PySem.Challenge.pw_wishdeal_k37_one_number_changed zdZ) _=_
 rw [PySem.W.Fast.te1987589406359920131,PySem.W.Fast.te11751142909835218258]
 kernel_rfl
theorem zkC:tupStrsOf q0 "ORDERS" = some (["firsts", "full", "lasts"]:List Str):=by
 show tupStrsOf (PySem.W.view PySem.Challenge.pw_wishdeal_k37_one_number_changed zdZ) _=_
 rw [PySem.W.Fast.te14491516231548247274,PySem.W.Fast.te11751142909835218258]
 kernel_rfl
theorem zoT {l:PySem.W.OpenLaw} {w:World} {s0:Shared} {mg mb:Str->Option Value} {fa:Addr} {h:Heap} {XP:(Str->Option Value)->Heap->Prop} (G:PySem.W.Ground q0 [] [] XP w s0 mg mb h) (hfa:mg "law" = some (.ref fa)) :
  ∃ fd:FuncData,(∀ (s:Shared) (v:Value),BindsTo s fd ⟨[v],[]⟩ [("_law_script", v)])/\∀ base:Heap,FnOk l.prog w (whole h) mg base CX0 10 fa fd ["_law_script"] (spD (whole h) 1 F_bp):=by
 have T:Txt (whole h) mg:=⟨zbM G.T zdb (.head _),zbM G.T zdb (.tail _ (.head _)),zbM G.T zdb (.tail _ (.tail _ (.head _))),zbM G.T zdb (.tail _ (.tail _ (.tail _ (.head _)))),zbM G.T zdb (.tail _ (.tail _ (.tail _ (.tail _ (.head _))))),zbM G.T zdb (.tail _ (.tail _ (.tail _ (.tail _ (.tail _ (.head _)))))),zbM G.T zdb (.tail _ (.tail _ (.tail _ (.tail _ (.tail _ (.tail _ (.head _))))))),zbM G.T zdb (.tail _ (.tail _ (.tail _ (.tail _ (.tail _ (.tail _ (.tail _ (.head _)))))))),zbM G.T zdb (.tail _ (.tail _ (.tail _ (.tail _ (.tail _ (.tail _ (.tail _ (.tail _ (.head _))))))))),zbM G.T zdb (.tail _ (.tail _ (.tail _ (.tail _ (.tail _ (.tail _ (.tail _ (.tail _ (.tail _ (.head _)))))))))),zbM G.T zdb (.tail _ (.tail _ (.tail _ (.tail _ (.tail _ (.tail _ (.tail _ (.tail _ (.tail _ (.tail _ (.head _))))))))))),zbM G.T zdb (.tail _ (.tail _ (.tail _ (.tail _ (.tail _ (.tail _ (.tail _ (.tail _ (.tail _ (.tail _ (.tail _ (.head _)))))))))))),zbM G.T zdb (.tail _ (.tail _ (.tail _ (.tail _ (.tail _ (.tail _ (.tail _ (.tail _ (.tail _ (.tail _ (.tail _ (.tail _ (.head _))))))))))))),zbM G.T zdb (.tail _ (.tail _ (.tail _ (.tail _ (.tail _ (.tail _ (.tail _ (.tail _ (.tail _ (.tail _ (.tail _ (.tail _ (.tail _ (.head _)))))))))))))),zbM G.T zdb (.tail _ (.tail _ (.tail _ (.tail _ (.tail _ (.tail _ (.tail _ (.tail _ (.tail _ (.tail _ (.tail _ (.tail _ (.tail _ (.tail _ (.head _))))))))))))))),zdt G.T zeJ,zdt G.T zeK,zdt G.T zfy,zdt G.T zeL,zkf G.B zkC (by decide)⟩
 refine zpV G.T zaE 57 "law" rfl rfl hfa (fun _ _ _ _ _ _ _=>rfl) fun base=>?_
 have d_bi:=zbk l.prog w base G.T zaE 50 "_law_is_number" rfl rfl (fun F=>Kbi T  F) fun _ _ _ _ _ _ us hl=>bz1 (us:=us) hl fun _=>rfl
 have d_bj:=zbk l.prog w base G.T zaE 51 "_law_is_row" rfl rfl (fun F=>Kbj T d_bi F) fun _ _ _ _ _ _ us hl=>bz2 (us:=us) hl fun _ _=>rfl
 have d_bm:=zbk l.prog w base G.T zaE 54 "_law_lets" rfl rfl (fun F=>Kbm T d_bj d_bi F) fun _ _ _ _ _ _ us hl=>bz3 (us:=us) hl fun _ _ _=>rfl
 have d_aa:=zbk l.prog w base G.T zaE 1 "is_whole" rfl rfl (fun F=>Kaa T  F) fun _ _ _ _ _ _ us hl=>bz1 (us:=us) hl fun _=>rfl
 have d_ab:=zbk l.prog w base G.T zaE 2 "is_number" rfl rfl (fun F=>Kab T d_aa F) fun _ _ _ _ _ _ us hl=>bz1 (us:=us) hl fun _=>rfl
 have d_ac:=zbk l.prog w base G.T zaE 3 "are_numbers" rfl rfl (fun F=>Kac T d_ab F) fun _ _ _ _ _ _ us hl=>bz2 (us:=us) hl fun _ _=>rfl
 have d_aw:=zbk l.prog w base G.T zaE 37 "is_number_list" rfl rfl (fun F=>Kaw T d_ac F) fun _ _ _ _ _ _ us hl=>bz2 (us:=us) hl fun _ _=>rfl
 have d_ax:=zbk l.prog w base G.T zaE 38 "has_paper_form" rfl rfl (fun F=>Kax T d_aw d_aa F) fun _ _ _ _ _ _ us hl=>bz2 (us:=us) hl fun _ _=>rfl
 have d_ad:=zbk l.prog w base G.T zaE 4 "is_number_below" rfl rfl (fun F=>Kad T d_aa F) fun _ _ _ _ _ _ us hl=>bz2 (us:=us) hl fun _ _=>rfl
 have d_af:=zbk l.prog w base G.T zaE 15 "is_rank" rfl rfl (fun F=>Kaf T d_ad F) fun _ _ _ _ _ _ us hl=>bz2 (us:=us) hl fun _ _=>rfl
 have d_ag:=zbk l.prog w base G.T zaE 16 "is_asker_list" rfl rfl (fun F=>Kag T d_af F) fun _ _ _ _ _ _ us hl=>bz2 (us:=us) hl fun _ _=>rfl
 have d_ah:=zbk l.prog w base G.T zaE 17 "look_at_lists" rfl rfl (fun F=>Kah T d_ag F) fun _ _ _ _ _ _ us hl=>bz2 (us:=us) hl fun _ _=>rfl
 have d_ae:=zbk l.prog w base G.T zaE 14 "look_at_copies" rfl rfl (fun F=>Kae T d_ad F) fun _ _ _ _ _ _ us hl=>bz1 (us:=us) hl fun _=>rfl
 have d_ai:=zbk l.prog w base G.T zaE 18 "look_at_wishes" rfl rfl (fun F=>Kai T d_ah d_ae F) fun _ _ _ _ _ _ us hl=>bz1 (us:=us) hl fun _=>rfl
 have d_al:=zbk l.prog w base G.T zaE 21 "all_wishes" rfl rfl (fun F=>Kal T d_ai F) fun _ _ _ _ _ _ us hl=>bz1 (us:=us) hl fun _=>rfl
 have d_ar:=zbk l.prog w base G.T zaE 31 "power" rfl rfl (fun F=>Kar T  F) fun _ _ _ _ _ _ us hl=>bz2 (us:=us) hl fun _ _=>rfl
 have d_at:=zbk l.prog w base G.T zaE 33 "worth_by_turns" rfl rfl (fun F=>Kat T d_ar F) fun _ _ _ _ _ _ us hl=>bz4 (us:=us) hl fun _ _ _ _=>rfl
 have d_as:=zbk l.prog w base G.T zaE 32 "worth_by_order" rfl rfl (fun F=>Kas T d_ar F) fun _ _ _ _ _ _ us hl=>bz4 (us:=us) hl fun _ _ _ _=>rfl
 have d_aj:=zbk l.prog w base G.T zaE 19 "rank_in" rfl rfl (fun F=>Kaj T  F) fun _ _ _ _ _ _ us hl=>bz2 (us:=us) hl fun _ _=>rfl
 have d_au:=zbk l.prog w base G.T zaE 34 "worth_by_aim" rfl rfl (fun F=>Kau T d_ar d_at d_as d_aj F) fun _ _ _ _ _ _ us hl=>bz5 (us:=us) hl fun _ _ _ _ _=>rfl
 have d_ak:=zbk l.prog w base G.T zaE 20 "longest" rfl rfl (fun F=>Kak T d_ai F) fun _ _ _ _ _ _ us hl=>bz1 (us:=us) hl fun _=>rfl
 have d_ap:=zbk l.prog w base G.T zaE 28 "is_turns" rfl rfl (fun F=>Kap T d_ad F) fun _ _ _ _ _ _ us hl=>bz2 (us:=us) hl fun _ _=>rfl
 have d_ao:=zbk l.prog w base G.T zaE 27 "is_old" rfl rfl (fun F=>Kao T d_ad F) fun _ _ _ _ _ _ us hl=>bz3 (us:=us) hl fun _ _ _=>rfl
 have d_am:=zbk l.prog w base G.T zaE 24 "is_order" rfl rfl (fun F=>Kam T  F) fun _ _ _ _ _ _ us hl=>bz1 (us:=us) hl fun _=>rfl
 have d_an:=zbk l.prog w base G.T zaE 25 "look_at_order" rfl rfl (fun F=>Kan T d_am F) fun _ _ _ _ _ _ us hl=>bz1 (us:=us) hl fun _=>rfl
 have d_aq:=zbk l.prog w base G.T zaE 29 "look_at_aim" rfl rfl (fun F=>Kaq T d_ap d_ao d_an d_ai F) fun _ _ _ _ _ _ us hl=>bz2 (us:=us) hl fun _ _=>rfl
 have d_av:=zbk l.prog w base G.T zaE 35 "all_worths" rfl rfl (fun F=>Kav T d_al d_au d_ak d_aq F) fun _ _ _ _ _ _ us hl=>bz2 (us:=us) hl fun _ _=>rfl
 have d_ay:=zbk l.prog w base G.T zaE 39 "lets_paper" rfl rfl (fun F=>Kay T d_ax d_av F) fun _ _ _ _ _ _ us hl=>bz3 (us:=us) hl fun _ _ _=>rfl
 have d_bo:=zbk l.prog w base G.T zaE 56 "_law_changed" rfl rfl (fun F=>Kbo T  F) fun _ _ _ _ _ _ us hl=>bz3 (us:=us) hl fun _ _ _=>rfl
 have d_az:=zbk l.prog w base G.T zaE 41 "_law_cell_at" rfl rfl (fun F=>Kaz T  F) fun _ _ _ _ _ _ us hl=>bz2 (us:=us) hl fun _ _=>rfl
 have d_ba:=zbk l.prog w base G.T zaE 42 "_law_numbers" rfl rfl (fun F=>Kba T  F) fun _ _ _ _ _ _ us hl=>bz3 (us:=us) hl fun _ _ _=>rfl
 have d_bn:=zbk l.prog w base G.T zaE 55 "_law_paper" rfl rfl (fun F=>Kbn T d_ba F) fun _ _ _ _ _ _ us hl=>bz5 (us:=us) hl fun _ _ _ _ _=>rfl
 have d_bh:=zbk l.prog w base G.T zaE 49 "_law_copy" rfl rfl (fun F=>Kbh T  F) fun _ _ _ _ _ _ us hl=>bz1 (us:=us) hl fun _=>rfl
 have d_be:=zbk l.prog w base G.T zaE 46 "_law_wished" rfl rfl (fun F=>Kbe T  F) fun _ _ _ _ _ _ us hl=>bz2 (us:=us) hl fun _ _=>rfl
 have d_bk:=zbk l.prog w base G.T zaE 52 "_law_wishes_of" rfl rfl (fun F=>Kbk T d_be F) fun _ _ _ _ _ _ us hl=>bz1 (us:=us) hl fun _=>rfl
 have d_bc:=zbk l.prog w base G.T zaE 44 "_law_rank" rfl rfl (fun F=>Kbc T  F) fun _ _ _ _ _ _ us hl=>bz3 (us:=us) hl fun _ _ _=>rfl
 have d_bd:=zbk l.prog w base G.T zaE 45 "_law_longest" rfl rfl (fun F=>Kbd T  F) fun _ _ _ _ _ _ us hl=>bz1 (us:=us) hl fun _=>rfl
 have d_bg:=zbk l.prog w base G.T zaE 48 "_law_worth" rfl rfl (fun F=>Kbg T d_bc d_bd F) fun _ _ _ _ _ _ us hl=>bz4 (us:=us) hl fun _ _ _ _=>rfl
 have d_bl:=zbk l.prog w base G.T zaE 53 "_law_worths" rfl rfl (fun F=>Kbl T d_bk d_bg F) fun _ _ _ _ _ _ us hl=>bz2 (us:=us) hl fun _ _=>rfl
 have d_bf:=zbk l.prog w base G.T zaE 47 "_law_aim" rfl rfl (fun F=>Kbf T d_ba F) fun _ _ _ _ _ _ us hl=>bz3 (us:=us) hl fun _ _ _=>rfl
 have d_bb:=zbk l.prog w base G.T zaE 43 "_law_wishes" rfl rfl (fun F=>Kbb T d_ba d_az F) fun _ _ _ _ _ _ us hl=>bz5 (us:=us) hl fun _ _ _ _ _=>rfl
 exact fun {_ _} F=>Kbp T d_bm d_ay d_bo d_az d_bn d_bh d_bl d_bf d_bb F
abbrev d_bp:DefRec:=⟨"law", zdC Sbp,zcK Sbp,zal Sbp,zpU Sbp⟩
theorem walk {YP:World->Heap->Prop} {XP:(Str->Option Value)->Heap->Prop} (hlaw:∀ ns:List Int,ns.length<=63->F_bp [.list (ns.map PyData.int)]=some (.bool true)):PySem.W.WalkO q0 [] XP YP (PySem.Challenge.rw_wishdeal_k37_one_number_changed).row.toRowW d_bp [] (fun f vs=>PySem.call f vs) :=
 zlG (n:=63) (k:=10) (x := "_law_script") rfl (by decide) rfl ⟨rfl,by decide,by decide,rfl⟩ (fun _ _ _ _ _ _ G hm=>zoT G hm) hlaw
theorem asm {α : Type} {a b : α} (h:a=b):a=b:=h
theorem zoU {i:Nat} {x:Option Sl} {ρ ρ':DEnv} (h : ρ.set i x = ρ') : ρ.set i x = ρ':=h
theorem zoV {i:Nat} {ρ : DEnv} {x:Option (Option Sl)} (h : ρ[i]?=x) : ρ[i]?=x:=h
theorem asmN {ds:List D} {n:Nat} (h:ds.length < n):ds.length < n:=h
theorem zpX {ds:List D} {n:Nat} (h:ds.length<=n):ds.length<=n:=h
theorem zoW {i:Nat} {ρ : DEnv} (h:i < ρ.length):i < ρ.length:=h
local macro_rules | `(tactic| walk_at "set")=>`(tactic| first | (simp only [List.set_cons_succ,List.set_cons_zero];done) | (simp only [List.set_cons_succ,List.set_cons_zero];rfl) | rfl)
local macro_rules | `(tactic| walk_at "side")=>`(tactic| first | assumption | omega | (simp only [List.length_cons,List.length_nil,List.length_map,List.length_append];omega))
local macro_rules | `(tactic| walk_at "st1")=>`(tactic| first
 | with_reducible apply zaM
 | with_reducible apply zbV
 | ((with_reducible apply zdU);exact rfl)
 | with_reducible apply zdo
 | with_reducible apply zg5
 | with_reducible apply zcU
 | with_reducible exact st_nx)
local macro_rules | `(tactic| walk_at "ev1")=>`(tactic| first
 | with_reducible exact zae
 | with_reducible exact zaj
 | ((with_reducible apply zad);exact rfl)
 | with_reducible apply zam
 | with_reducible apply zab
 | with_reducible apply zhL
 | with_reducible apply ev_zip
 | ((with_reducible apply ev_listO);exact rfl)
 | with_reducible apply zaT
 | ((with_reducible apply zbj);exact rfl)
 | ((with_reducible apply zhM);exact rfl)
 | with_reducible apply ev_join
 | with_reducible apply zaW
 | ((with_reducible apply zaV);exact rfl)
 | with_reducible apply zaQ
 | with_reducible apply zeT
 | ((with_reducible apply za2);exact rfl)
 | ((with_reducible apply zeu);exact rfl)
 | with_reducible apply zct
 | with_reducible apply zj1
 | with_reducible apply ev_rng3
 | with_reducible apply zhN
 | with_reducible apply ev_count
 | with_reducible apply zhQ
 | with_reducible apply zev
 | with_reducible apply ev_iter
 | with_reducible apply ev_sl
 | with_reducible apply zcT
 | with_reducible apply zb2
 | with_reducible apply zbq
 | with_reducible apply zcS
 | with_reducible apply zbt
 | with_reducible apply zcF
 | ((with_reducible apply zbE);exact rfl;walk_at "set")
 | ((with_reducible apply zdT);exact rfl)
 | with_reducible apply zat
 | ((with_reducible apply asm);(with_reducible assumption))
 | with_reducible exact zaw
 | with_reducible exact zbd
 | with_reducible exact zoG
 | with_reducible exact zj3
 | with_reducible exact vop_min
 | with_reducible exact zaH
 | with_reducible exact zfn
 | with_reducible exact vop_sl
 | with_reducible exact zd9
 | with_reducible exact zbz
 | with_reducible exact vop_itT
 | with_reducible exact vop_itS
 | with_reducible exact vop_inS
 | with_reducible exact vop_ninS
 | with_reducible exact vop_iter
 | with_reducible exact zdn
 | with_reducible exact zgi
 | with_reducible exact zda
 | with_reducible exact vop_sumI
 | with_reducible exact vop_neT
 | with_reducible exact vop_eqT
 | with_reducible exact zce
 | ((with_reducible apply zg4);walk_at "side")
 | ((with_reducible apply znf) <;> walk_at "side")
 | ((with_reducible apply zb9) <;> walk_at "side")
 | ((with_reducible apply zcG) <;> walk_at "side")
 | ((with_reducible apply zbU);walk_at "side")
 | ((with_reducible apply zoW);exact of_decide_eq_true rfl)
 | ((with_reducible apply zaq);walk_at "st1")
 | ((with_reducible apply zbr);walk_at "st1")
 | walk_at "st1"
 | ((with_reducible apply zoV);exact rfl)
 | ((with_reducible apply asmN);walk_at "side")
 | ((with_reducible apply zpX);walk_at "side")
 | with_reducible apply zax
 | ((with_reducible apply zoU);walk_at "set")
 | ((with_reducible apply zoW);exact of_decide_eq_true rfl)
 | with_reducible apply tg_N
 | with_reducible exact tg_0
 | with_reducible apply tg_C
 | ((with_reducible apply tg_T);exact rfl)
 | ((with_reducible apply asmE);exact rfl))
local macro_rules | `(tactic| walk_at "ev")=>`(tactic| repeat' walk_at "ev1")
theorem ze1 {sizes found:List Int} {z d:Int} (h:∀ (j:Nat) d z,found[j]?=some d->sizes[j]?=some z->0<=d/\d < z) (hz:sizes[found.length]?=some z) (h0:0<=d/\d < z) :
  ∀ (j:Nat) d' z',(found ++ [d])[j]?=some d'->sizes[j]?=some z'->0<=d'/\d' < z':=by
 intro j d' z' e1 e2
 by_cases hj:j < found.length
 ·rw [List.getElem?_append_left hj] at e1
  exact h j d' z' e1 e2
 ·by_cases hj2:j=found.length
  ·subst hj2
   rw [hz] at e2
   cases e2
   rw [List.getElem?_append_right (Nat.le_refl _),Nat.sub_self,List.getElem?_cons_zero] at e1
   cases e1
   exact h0
  ·rw [List.getElem?_eq_none (by rw [List.length_append,List.length_singleton];omega)] at e1
   cases e1
def inv (c s:Int) (sizes:List Int) (n:Int) (i:Nat) (ρ : DEnv):Prop:=∃ left found x6 x7,ρ = [some (Sl.pub (.int c)),some (.pub (.int s)),some (.pub (.list (sizes.map .int))),some (.pub (.int n)),some (.pub (.int left)),some (.own ((found:List Int).map .int)),x6,x7] /\
 found.length=i/\∀ (j:Nat) d z,found[j]?=some d->sizes[j]?=some z->0<=d/\d < z
theorem zkD {c s n:Int} {sizes:List Int} (hs:∀ x ∈ sizes,0 < x/\x < 18446744073709551616) (hl:sizes.length<=1000) {i:Nat} {d:D} {ρ : DEnv} {Q:Out->Prop} (hi:(zbO 0 sizes.length)[i]?=some d) (h:inv c s sizes n i ρ) :
  ∃ ρ2,gN 6 d ρ = some ρ2/\Ho zhe ρ2 (ziA (inv c s sizes n (i+1)) Q):=by
 obtain ⟨left,found,x6,x7,rfl,hf,hfd⟩:=h
 obtain ⟨rfl,hlt⟩:=zbC hi
 obtain ⟨z,hz⟩:∃ z,sizes[i]?=some z:=⟨sizes[i]'(by omega),List.getElem?_eq_getElem _⟩
 obtain ⟨z1,z2⟩:=hs z (List.mem_of_getElem? hz)
 have hix:oIx (.list (sizes.map PyData.int)) (.int (0+(i:Int)))=some (.int z):=by
  rw [Int.zero_add]
  exact za1 (by rw [List.getElem?_map,hz];rfl)
 generalize hk:(0:Int)+(i:Int)=k at hix ⊢
 have hk1:k < 18446744073709551616:=by omega
 have hk2 : -18446744073709551616 < k:=by omega
 have hlen:(found.map PyData.int).length < 1000000:=by rw [List.length_map];omega
 have pw:oPow (.int 10) (.int 18)=some (.int 1000000000000000000):=by rw [zj2 (by decide)];rfl
 refine ⟨_,tg_N (of_decide_eq_true rfl) (by walk_at "set"),?_⟩
 unfold zhe
 apply za7
 case h1 =>
  apply zoE
  case h1=>walk_at "ev"
  case h2=>intro _;walk_at "ev"
 case h2 =>
  intro _
  walk_at "ev"
  refine zbc ?_
  exact ⟨_,found ++ [left % z],_,_,by rw [List.map_append];rfl,by rw [List.length_append,hf];rfl,ze1 hfd (by rw [hf];exact hz) ⟨Int.emod_nonneg _ (by omega),Int.emod_lt_of_pos _ z1⟩⟩
 case h3 =>
  intro _
  walk_at "ev"
  refine zbc ?_
  exact ⟨_,found ++ [_ % z],_,_,by rw [List.map_append];rfl,by rw [List.length_append,hf];rfl,ze1 hfd (by rw [hf];exact hz) ⟨Int.emod_nonneg _ (by omega),Int.emod_lt_of_pos _ z1⟩⟩
theorem zcm (c s:Int) {sizes:List Int} (hs:∀ x ∈ sizes,0 < x/\x < 18446744073709551616) (hl:sizes.length<=1000) :
  ∃ r,F_ba [.int c,.int s,.list (sizes.map PyData.int)]=some r/\∃ ds:List Int,r=.list (ds.map .int)/\ds.length=sizes.length/\∀ (j:Nat) d z,ds[j]?=some d->sizes[j]?=some z->0<=d/\d < z:=by
 refine zeV (ρ:=[some (.pub (.int c)),some (.pub (.int s)),some (.pub (.list (sizes.map PyData.int))),none,none,none,none,none]) rfl ?_
 unfold g_ba
 walk_at "ev"
 apply zaN
 apply zbW (ds:=zbO 0 sizes.length) (inv c s sizes (if -1 - c > c then -1 - c else c))
 case h1 =>
  walk_at "ev"
  rw [List.length_map]
  exact zb0 (by omega) (by omega)
 case h0=>exact ⟨_,[],none,none,rfl,rfl,fun j d z e=>by cases e⟩
 case hst=>exact fun i d ρ e h=>zkD hs hl e h
 case hend =>
  rintro ρ ⟨left,found,x6,x7,rfl,hf,hfd⟩
  refine zau ?_
  walk_at "ev"
  rw [zaX] at hf
  exact ⟨_,rfl,found,rfl,by omega,hfd⟩
mutual
theorem zfz:∀ (d:PyData),d.canLay0=true->PyData.eqv d d=true
 | .none,_=>rfl
 | .bool b,_=>by cases b <;> rfl
 | .int i,_=>by simp [PyData.eqv]
 | .str s,_=>by simp [PyData.eqv]
 | .list xs,h=>eqvAll_refl xs h
 | .tuple xs,h=>eqvAll_refl xs h
 | .dict _,h=>by cases h
theorem eqvAll_refl:∀ (xs:List PyData),PyData.canLayAll0 xs=true->PyData.eqvAll xs xs=true
 | [],_=>rfl
 | x :: r,h=>by
  have h:(PyData.canLay0 x && PyData.canLayAll0 r)=true:=h
  rw [Bool.and_eq_true] at h
  show (PyData.eqv x x && PyData.eqvAll r r)=true
  rw [zfz x h.1,eqvAll_refl r h.2];rfl
end
theorem zcw:∀ {xs:List D},(∀ x ∈ xs,PyData.canLay0 x=true)->PyData.canLayAll0 xs=true
 | [],_=>rfl
 | x :: r,h=>by
  show (PyData.canLay0 x && PyData.canLayAll0 r)=true
  rw [h x List.mem_cons_self,zcw fun y hy=>h y (List.mem_cons_of_mem _ hy)];rfl
theorem zcx {n:Nat}:∀ {xs:List D},(∀ x ∈ xs,PyData.depth x<=n)->PyData.depthAll xs<=n
 | [],_=>by simp [PyData.depthAll]
 | x :: r,h=>by
  have h1:=h x List.mem_cons_self
  have h2:=zcx (n:=n) fun y hy=>h y (List.mem_cons_of_mem _ hy)
  simp only [PyData.depthAll]
  omega
def zbu (r:List Int):D:=.list (r.map PyData.int)
def zaz (rs:List (List Int)):D:=.list (rs.map zbu)
def zaA (cs:List Int) (ls:List (List (List Int))):D:=.tuple [.list (cs.map PyData.int),.list (ls.map zaz)]
structure zcg (n:Nat) (rs:List (List Int)):Prop where
 few:rs.length<=5
 some:∀ r ∈ rs,r ≠ []
 there:∀ r ∈ rs,∀ t ∈ r,0<=t/\t < n
 once:rs.flatten.Nodup
structure Good (cs:List Int) (ls:List (List (List Int))):Prop where
 c1:1<=cs.length
 c6:cs.length<=6
 c7:∀ c ∈ cs,0<=c/\c < 8
 l1:1<=ls.length
 l7:ls.length<=7
 rk:∀ rs ∈ ls,zcg cs.length rs
theorem zfA (r:List Int):(zbu r).canLay0=true:=zcw fun x hx=>by obtain ⟨y,_,rfl⟩:=List.mem_map.mp hx;rfl
theorem zkE (rs:List (List Int)):(zaz rs).canLay0=true:=zcw fun x hx=>by obtain ⟨y,_,rfl⟩:=List.mem_map.mp hx;exact zfA y
theorem zlO (cs:List Int) (ls:List (List (List Int))):(zaA cs ls).canLay0=true:=zcw fun x hx=>by
 have hx:x=.list (cs.map PyData.int) ∨ x=.list (ls.map zaz):=by simpa using hx
 rcases hx with rfl | rfl
 ·exact zfA cs
 ·exact zcw fun x hx=>by obtain ⟨y,_,rfl⟩:=List.mem_map.mp hx;exact zkE y
theorem zkF (i:Int):(PyData.int i).depth<=1:=by simp [PyData.depth]
theorem zfB {n:Nat} {xs:List D} (h:PyData.depthAll xs<=n):(PyData.list xs).depth<=n+1:=by simp only [PyData.depth];omega
theorem zfC (r:List Int):(zbu r).depth<=2:=zfB (zcx fun x hx=>by obtain ⟨y,_,rfl⟩:=List.mem_map.mp hx;exact zkF y)
theorem zkG (rs:List (List Int)):(zaz rs).depth<=3:=zfB (zcx fun x hx=>by obtain ⟨y,_,rfl⟩:=List.mem_map.mp hx;exact zfC y)
theorem zlP (cs:List Int) (ls:List (List (List Int))):(zaA cs ls).depth<=60:=by
 have h:PyData.depthAll [.list (cs.map PyData.int),.list (ls.map zaz)]<=4:=zcx fun x hx=>by
  have hx:x=.list (cs.map PyData.int) ∨ x=.list (ls.map zaz):=by simpa using hx
  rcases hx with rfl | rfl
  ·have:=zfC cs;unfold zbu at this;omega
  ·exact zfB (zcx fun x hx=>by obtain ⟨y,_,rfl⟩:=List.mem_map.mp hx;exact zkG y)
 unfold zaA
 simp only [PyData.depth] at h ⊢
 omega
theorem zkH (i:Int):F_aa [.int i]=some (.bool true):=by
 refine za8 (ρ:=[some (.pub (.int i))]) rfl ?_
 unfold g_aa
 exact zax (zb5 (zaW (zad rfl)) (fun _=>zne (zaW (zad rfl)))) rfl
theorem zdv {i m:Int} (h0:0<=i) (h1:i < m):F_ad [.int i,.int m]=some (.bool true):=by
 refine za8 (ρ:=[some (.pub (.int i)),some (.pub (.int m))]) rfl ?_
 unfold g_ad
 have hb:(decide (0<=i) && decide (i < m))=true:=by simp [h0,h1]
 refine zax (zb5 (t:=true) (u:=true) (zat (zab (zad rfl) zaj) rfl (zkH i)) (fun _=>?_)) rfl
 rw [← hb]
 exact zaW (zfm zae (zad rfl) rfl (fun _=>zad rfl) (fun _=>rfl))
theorem zdw {α : Type} (l:List α):oAll [.list (l.map fun _=>.bool true)]=some (.bool true):=by
 have:(l.map fun _=>PyData.bool true)=(l.map fun _=>true).map PyData.bool:=by rw [List.map_map];rfl
 rw [this,zg7]
 congr 2
 rw [List.all_map]
 induction l with
 | nil=>rfl
 | cons x r ih=>simpa using ih
theorem ziI {r:List Int} {n:Int} (hne:r ≠ []) (hl:r.length<=1000) (h:∀ t ∈ r,0<=t/\t < n):F_af [zbu r,.int n]=some (.bool true):=by
 refine za8 (ρ:=[some (.pub (zbu r)),some (.pub (.int n))]) rfl ?_
 unfold g_af
 apply zaN
 have hlen:oLen [zbu r]=some (.int r.length):=by unfold zbu;rw [zaH,List.length_map]
 have hp:0 < r.length:=List.length_pos_iff.mpr hne
 apply za7
 case h1=>exact zck (ρ1:=[some (.pub (zbu r)),some (.pub (.int n))]) (zbg (zad rfl) rfl) (zam (za2 rfl hlen) zae zce)
 case h2 =>
       intro hh;have:(r.length:Int)=0:=by simpa using hh
       omega
 case h3 =>
  intro _
  refine zbs (zau ?_)
  have hc:zbw (gN 2) (zag true) (dFun 2 F_ad (zaf (dVar 2) (zaf (dVar 1) (mNil)))) (r.map PyData.int) (zaL [some (.pub (zbu r)),some (.pub (.int n))] ++ List.replicate 1 none) []=some (r.map fun _=>.bool true):=by
   rw [zcf (fun _=>true) (fun _=>.bool true) (fun ρ=>∃ x,ρ = [some (.pub (zbu r)),some (.pub (.int n)),x])]
   ·rw [List.filter_eq_self.mpr (fun _ _=>rfl),List.nil_append,List.map_map];rfl
   ·rintro d hm ρ ⟨x,rfl⟩
    obtain ⟨t,ht,rfl⟩:=List.mem_map.mp hm
    exact ⟨_,tg_N (of_decide_eq_true rfl) rfl,rfl,fun _=>zat (zab (zad rfl) (zab (zad rfl) zaj)) rfl (zdv (h t ht).1 (h t ht).2),_,rfl⟩
   ·exact ⟨none,rfl⟩
   ·rw [List.length_map,List.length_nil];omega
  exact zax (zaQ (zab (zaW (zbF (zaT (zad rfl) rfl) hc)) zaj) (zdw r)) rfl
theorem zgv {a b c x3:Option Sl} (ha:zci a=a) (hb:zci b=b) (hc:zci c=c) (hx:zci x3=x3):∀ (ds es:List D) (x4:Option Sl),es.length+ds.length<=1000000 ->
  ∃ y,zb1 (gN 4) (zag true) (dVar 4) ds [a,b,c,x3,x4] es=some (es ++ ds,[a,b,c,x3,y])
 | [],es,x4,_=>⟨x4,by rw [zb1,List.append_nil]⟩
 | d :: r,es,x4,h=>by
  rw [List.length_cons] at h
  obtain ⟨y,e⟩:=zgv ha hb hc hx r (es ++ [d]) (some (.pub d)) (by rw [List.length_append,List.length_singleton];omega)
  refine ⟨y,?_⟩
  rw [zb1]
  have h1:gN 4 d [a,b,c,x3,x4]=some [a,b,c,x3,some (.pub d)]:=tg_N (of_decide_eq_true rfl) rfl
  rw [h1]
  dsimp only [zag]
  rw [if_pos rfl]
  have h2:dVar 4 [a,b,c,x3,some (.pub d)]=.ok d [a,b,c,x3,some (.pub d)]:=zad rfl
  rw [h2]
  dsimp only
  rw [if_pos (by omega)]
  have h3:zaL [a,b,c,x3,some (.pub d)]=[a,b,c,x3,some (.pub d)]:=by
   unfold zaL
   simp only [List.map_cons,List.map_nil,ha,hb,hc,hx]
   rfl
  rw [h3,e,List.append_assoc];rfl
theorem zeD {a b:D}:∀ (rs:List (List Int)) (es:List D) (x3 x4:Option Sl),es.length+rs.flatten.length<=1000000 ->
  zcQ (gN 3) (zag true) (zaS (dVar 3)) (gN 4) (zag true) (dVar 4) (rs.map zbu) [some (.pub a),some (.pub b),none,x3,x4] es=some (es ++ rs.flatten.map PyData.int)
 | [],es,_,_,_=>by rw [List.map_nil,zcQ];simp
 | r :: rs,es,x3,x4,h=>by
  rw [List.flatten_cons,List.length_append] at h
  rw [List.map_cons,zcQ]
  have h1:gN 3 (zbu r) [some (.pub a),some (.pub b),none,x3,x4]=some [some (.pub a),some (.pub b),none,some (.pub (zbu r)),x4]:=tg_N (of_decide_eq_true rfl) rfl
  rw [h1]
  dsimp only [zag]
  rw [if_pos rfl]
  have h2:zaS (dVar 3) [some (.pub a),some (.pub b),none,some (.pub (zbu r)),x4]=.ok (r.map PyData.int) [some (.pub a),some (.pub b),none,some (.pub (zbu r)),x4]:=zaT (zad rfl) rfl
  rw [h2]
  dsimp only
  have h3:zaL [some (.pub a),some (.pub b),none,some (.pub (zbu r)),x4]=[some (.pub a),some (.pub b),none,some (.pub (zbu r)),zci x4]:=rfl
  rw [h3]
  obtain ⟨y,e⟩:=zgv (a:=some (.pub a)) (b:=some (.pub b)) (c:=none) (x3:=some (.pub (zbu r))) rfl rfl rfl rfl (r.map PyData.int) es (zci x4) (by rw [List.length_map];omega)
  rw [e]
  dsimp only
  have ih:=zeD (a:=a) (b:=b) rs (es ++ r.map PyData.int) (some (.pub (zbu r))) y (by rw [List.length_append,List.length_map];omega)
  refine Eq.trans ih ?_
  rw [List.flatten_cons,List.map_append,List.append_assoc]
theorem ze2 {ns:List Int} (h:ns.Nodup):zer ns=ns.length:=by
 unfold zer
 have:∀ i,i<=ns.length->(PyProof.Rows.firstMet (fun i=>ns.getD i 0) i).length=i:=by
  intro i
  induction i with
  | zero=>intro _;rfl
  | succ i ih =>
   intro hi
   rw [PyProof.Rows.firstMet_succ]
   have hany:(PyProof.Rows.firstMet (fun i=>ns.getD i 0) i).any (· == ns.getD i 0)=false:=by
    rw [PyProof.Rows.firstMet_any,List.any_eq_false]
    intro x hx
    obtain ⟨j,hj,rfl⟩:=List.mem_map.mp hx
    have hj:=List.mem_range.mp hj
    intro e
    have e:ns.getD j 0=ns.getD i 0:=by simpa using e
    have l1:j < ns.length:=by omega
    have l2:i < ns.length:=by omega
    simp only [List.getD,List.getElem?_eq_getElem l1,List.getElem?_eq_getElem l2,Option.getD_some] at e
    exact absurd ((List.getElem_inj h).mp e) (by omega)
   unfold PyProof.Rows.step_dedup
   rw [hany]
   rw [if_neg (by decide),List.length_append,ih (by omega)];rfl
 exact this ns.length (Nat.le_refl _)
theorem zhh {rs:List (List Int)} {n:Nat} (g:zcg n rs) (hn:n<=6) (hf:rs.flatten.length<=1000):F_ag [zaz rs,.int n]=some (.bool true):=by
 refine za8 (ρ:=[some (.pub (zaz rs)),some (.pub (.int n)),none]) rfl ?_
 unfold g_ag
 have hlen:oLen [zaz rs]=some (.int rs.length):=by unfold zaz;rw [zaH,List.length_map]
 have h5:=g.few
 have hrl:∀ r ∈ rs,r.length<=1000:=fun r hr=>Nat.le_trans (List.Sublist.length_le (List.sublist_flatten_of_mem hr)) hf
 apply zaN
 apply za7
 case h1=>exact zck (ρ1:=[some (.pub (zaz rs)),some (.pub (.int n)),none]) (zbg (zad rfl) rfl) (zam (za2 rfl hlen) zae rfl)
 case h2 =>
       intro hh;have:(5:Int) < (rs.length:Int):=by simpa using hh
       omega
 case h3 =>
  intro _
  refine zbs (zau ?_)
  have hc:zbw (gN 3) (zag true) (dFun 2 F_af (zaf (dVar 3) (zaf (dVar 1) (mNil)))) (rs.map zbu) (zaL [some (.pub (zaz rs)),some (.pub (.int n)),none] ++ List.replicate 1 none) []=some (rs.map fun _=>.bool true):=by
   rw [zcf (fun _=>true) (fun _=>.bool true) (fun ρ=>∃ x,ρ = [some (.pub (zaz rs)),some (.pub (.int n)),none,x])]
   ·rw [List.filter_eq_self.mpr (fun _ _=>rfl),List.nil_append,List.map_map];rfl
   ·rintro d hm ρ ⟨x,rfl⟩
    obtain ⟨r,hr,rfl⟩:=List.mem_map.mp hm
    exact ⟨_,tg_N (of_decide_eq_true rfl) rfl,rfl,fun _=>zat (zab (zad rfl) (zab (zad rfl) zaj)) rfl (ziI (g.some r hr) (hrl r hr) (g.there r hr)),_,rfl⟩
   ·exact ⟨none,rfl⟩
   ·rw [List.length_map,List.length_nil];omega
  apply zaN
  apply za7
  case h1=>exact zb2 (zbq (zaQ (zab (zaW (zbF (zaT (zad rfl) rfl) hc)) zaj) (zdw rs)))
  case h2=>intro hh;cases hh
  case h3 =>
   intro _
   refine zbs (zau ?_)
   have h2:zf6 (zaS (dVar 0)) 2 (gN 3) (zag true) (zaS (dVar 3)) (gN 4) (zag true) (dVar 4) [some (.pub (zaz rs)),some (.pub (.int n)),none]=.ok (rs.flatten.map PyData.int) [some (.pub (zaz rs)),some (.pub (.int n)),none]:=by
    unfold zf6
    have e1:zaS (dVar 0) [some (.pub (zaz rs)),some (.pub (.int n)),none]=.ok (rs.map zbu) [some (.pub (zaz rs)),some (.pub (.int n)),none]:=zaT (zad rfl) rfl
    rw [e1]
    dsimp only
    have e2:=zeD (a:=zaz rs) (b:=.int n) rs [] none none (by rw [List.length_nil];omega)
    have e3:zcQ (gN 3) (zag true) (zaS (dVar 3)) (gN 4) (zag true) (dVar 4) (rs.map zbu) (zaL [some (.pub (zaz rs)),some (.pub (.int n)),none] ++ List.replicate 2 none) []=some ([] ++ rs.flatten.map PyData.int):=e2
    rw [e3]
    rfl
   refine zaq (zbV h2 (of_decide_eq_true rfl) rfl) ?_
   have hls:zcE [.list (rs.flatten.map PyData.int)]=some (.int rs.flatten.length):=by
    unfold zcE
    dsimp only
    rw [zcc]
    dsimp only
    rw [if_pos (by omega),ze2 g.once]
   refine zax (zaW (zam (zaQ (zab (zbE rfl rfl) zaj) hls) (za2 rfl zaH) zce)) ?_
   rw [List.length_map]
   simp
theorem zc3 {d:D}:∀ {xs:List D} {k i:Nat},(zcN k xs)[i]?=some d->∃ x,xs[i]?=some x/\d=.tuple [.int ((k+i:Nat):Int),x]
 | [],k,i,h=>by cases h
 | x :: r,k,0,h=>by
  cases h
  exact ⟨x,rfl,rfl⟩
 | x :: r,k,i+1,h=>by
  obtain ⟨y,e,q⟩:=zc3 (xs:=r) (k:=k+1) (i:=i) h
  exact ⟨y,e,by rw [q];congr 4;omega⟩
theorem zdx:∀ (n:Nat) (l:List Int),l.Nodup->(∀ x ∈ l,0<=x/\x < n)->l.length<=n
 | 0,[],_,_=>Nat.le_refl _
 | 0,x :: r,_,h=>by have:=h x List.mem_cons_self;omega
 | n+1,l,hn,h=>by
  by_cases hm:(n:Int) ∈ l
  ·have:=zdx n (l.erase (n:Int)) (hn.erase _) fun x hx=>by
    have h1:=(List.Nodup.mem_erase_iff hn).mp hx
    have h2:=h x h1.2
    have h3:=h1.1
    omega
   rw [List.length_erase_of_mem hm] at this
   omega
  ·have:=zdx n l hn fun x hx=>by
    have h2:=h x hx
    have h3:x ≠ (n:Int):=fun e=>hm (e ▸ hx)
    omega
   omega
theorem zea {n:Nat} {rs:List (List Int)} (g:zcg n rs):rs.flatten.length<=n:=zdx n _ g.once fun x hx=>by
 obtain ⟨r,hr,hxr⟩:=List.mem_flatten.mp hx
 exact g.there r hr x hxr
theorem zkI {cs:List Int} (h1:1<=cs.length) (h6:cs.length<=6) (h:∀ c ∈ cs,0<=c/\c < 8):F_ae [.list (cs.map PyData.int)]=some .none:=by
 refine zgh (ρ:=[some (.pub (.list (cs.map PyData.int))),none,none]) rfl ?_
 unfold g_ae
 have hlen:oLen [.list (cs.map PyData.int)]=some (.int cs.length):=by rw [zaH,List.length_map]
 apply zaN
 apply za7
 case h1=>exact zck (ρ1:=[some (.pub (.list (cs.map PyData.int))),none,none]) (zbg (zad rfl) rfl) (zb2 (zfm zae (za2 rfl hlen) rfl (fun _=>zae) (fun _=>rfl)))
 case h2 =>
  intro hh
  have a1:(1:Int)<=(cs.length:Int):=by omega
  have a2:(cs.length:Int)<=6:=by omega
  simp [a1,a2] at hh
 case h3 =>
  intro _
  refine zbs (zau ?_)
  apply zbW (fun _ ρ=>∃ x1 x2,ρ = [some (.pub (.list (cs.map PyData.int))),x1,x2])
  case h1=>exact zev (zab (zad rfl) zaj) zdn
  case h0=>exact ⟨_,_,rfl⟩
  case hst =>
   rintro i d ρ hi ⟨x1,x2,rfl⟩
   obtain ⟨x,hx,rfl⟩:=zc3 hi
   obtain ⟨c,hc,rfl⟩:=List.mem_map.mp (List.mem_of_getElem? hx)
   refine ⟨_,tg_T rfl (tg_C (tg_N (of_decide_eq_true rfl) rfl) (tg_C (tg_N (of_decide_eq_true rfl) rfl) tg_0)),?_⟩
   unfold zkp
   apply za7
   case h1=>exact zb2 (zbq (zat (zab (zad rfl) (zab (zam zae zae zaw) zaj)) rfl (zdv (h c hc).1 (by have:=(h c hc).2;omega))))
   case h2=>intro hh;cases hh
   case h3=>exact fun _=>zbs (zbc ⟨_,_,rfl⟩)
  case hend=>exact fun ρ ⟨x1,x2,e⟩=>⟨_,rfl⟩
theorem zlQ {ls:List (List (List Int))} {n:Nat} (hn:n<=6) (h1:1<=ls.length) (h7:ls.length<=7) (h:∀ rs ∈ ls,zcg n rs):F_ah [.list (ls.map zaz),.int n]=some .none:=by
 refine zgh (ρ:=[some (.pub (.list (ls.map zaz))),some (.pub (.int n)),none,none]) rfl ?_
 unfold g_ah
 have hlen:oLen [.list (ls.map zaz)]=some (.int ls.length):=by rw [zaH,List.length_map]
 apply zaN
 apply za7
 case h1=>exact zck (ρ1:=[some (.pub (.list (ls.map zaz))),some (.pub (.int n)),none,none]) (zbg (zad rfl) rfl) (zb2 (zfm zae (za2 rfl hlen) rfl (fun _=>zae) (fun _=>rfl)))
 case h2 =>
  intro hh
  have a1:(1:Int)<=(ls.length:Int):=by omega
  have a2:(ls.length:Int)<=7:=by omega
  simp [a1,a2] at hh
 case h3 =>
  intro _
  refine zbs (zau ?_)
  apply zbW (fun _ ρ=>∃ x2 x3,ρ = [some (.pub (.list (ls.map zaz))),some (.pub (.int n)),x2,x3])
  case h1=>exact zev (zab (zad rfl) zaj) zdn
  case h0=>exact ⟨_,_,rfl⟩
  case hst =>
   rintro i d ρ hi ⟨x1,x2,rfl⟩
   obtain ⟨x,hx,rfl⟩:=zc3 hi
   obtain ⟨rs,hrs,rfl⟩:=List.mem_map.mp (List.mem_of_getElem? hx)
   refine ⟨_,tg_T rfl (tg_C (tg_N (of_decide_eq_true rfl) rfl) (tg_C (tg_N (of_decide_eq_true rfl) rfl) tg_0)),?_⟩
   unfold zko
   have hfl:=zea (h rs hrs)
   apply za7
   case h1=>exact zb2 (zbq (zat (zab (zad rfl) (zab (zad rfl) zaj)) rfl (zhh (h rs hrs) hn (by omega))))
   case h2=>intro hh;cases hh
   case h3=>exact fun _=>zbs (zbc ⟨_,_,rfl⟩)
  case hend=>exact fun ρ ⟨x1,x2,e⟩=>⟨_,rfl⟩
theorem zeE {cs:List Int} {ls:List (List (List Int))} (g:Good cs ls):F_ai [zaA cs ls]=some .none:=by
 refine zgh (ρ:=[some (.pub (zaA cs ls)),none,none]) rfl ?_
 unfold g_ai
 apply zaN
 apply za7
 case h1=>exact zck (ρ1:=[some (.pub (zaA cs ls)),none,none]) (zbg (zad rfl) rfl) (zam (za2 rfl rfl) zae zda)
 case h2=>intro hh;cases hh
 case h3 =>
  intro _
  refine zbs (zau ?_)
  have hlen:oLen [.list (cs.map PyData.int)]=some (.int (cs.length:Nat)):=by rw [zaH,List.length_map]
  refine zaq (zdo (zad rfl) (tg_T rfl (tg_C (tg_N (of_decide_eq_true rfl) rfl) (tg_C (tg_N (of_decide_eq_true rfl) rfl) tg_0)))) ?_
  refine zaq (zcU (zat (zab (zad rfl) zaj) rfl (zkI g.c1 g.c6 g.c7))) ?_
  exact zbr (zcU (zat (zab (zad rfl) (zab (za2 rfl hlen) zaj)) rfl (zlQ g.c6 g.l1 g.l7 g.rk))) ⟨_,rfl⟩
theorem zh0:∀ (xs ys:List Int),PyData.eqvAll (xs.map PyData.int) (ys.map PyData.int)=decide (xs=ys)
 | [],[]=>rfl
 | [],y :: ys=>by simp [PyData.eqvAll]
 | x :: xs,[]=>by simp [PyData.eqvAll]
 | x :: xs,y :: ys=>by
  have ih:=zh0 xs ys
  show (PyData.eqv (.int x) (.int y) && PyData.eqvAll (xs.map PyData.int) (ys.map PyData.int))=_
  rw [ih]
  have:PyData.eqv (.int x) (.int y)=decide (x=y):=rfl
  rw [this,Bool.eq_iff_iff]
  simp
theorem zkJ {xs:List Int}:oNe (.list (xs.map PyData.int)) (.list [])=some (!decide (xs=[])):=by
 unfold oNe
 have h1:(PyData.list (xs.map PyData.int)).canLay0=true:=zfA xs
 have h3:(PyData.list (xs.map PyData.int)).depth<=60:=by have:=zfC xs;unfold zbu at this;omega
 rw [if_pos ⟨h1,rfl,h3⟩]
 congr 2
 exact zh0 xs []
theorem zkK {xs:List D} {x:D} (h:xs.getLast?=some x):oIx (.list xs) (.int (-1))=some x:=by
 unfold oIx atI
 have hl:xs ≠ []:=by rintro rfl;cases h
 have hp:0 < xs.length:=List.length_pos_iff.mpr hl
 rw [List.getLast?_eq_getElem?] at h
 show (ixN xs.length (-1)).bind _=_
 unfold ixN
 rw [if_neg (by decide),if_pos (by omega)]
 have e2:(-1+(xs.length:Int)).toNat=xs.length - 1:=by omega
 simp only [Option.bind_some]
 rw [e2];exact h
theorem zfD {xs:List Int} {k:Nat} (h:k < xs.length):oIx (.list (xs.map PyData.int)) (.int k)=some (.int (xs.getD k 0)):=by
 refine za1 ?_
 rw [List.getElem?_map,List.getElem?_eq_getElem h]
 simp [List.getD,List.getElem?_eq_getElem h]
theorem zcn (ns:List Int) (k:Nat) (hl:ns.length<=1000):∃ v,F_az [.list (ns.map PyData.int),.int k]=some (.int v):=by
 have hlen:oLen [.list (ns.map PyData.int)]=some (.int ns.length):=by rw [zaH,List.length_map]
 by_cases h:k < ns.length
 ·refine ⟨ns.getD k 0,za8 (ρ:=[some (.pub (.list (ns.map PyData.int))),some (.pub (.int k))]) rfl ?_⟩
  unfold g_az
  apply zaN
  apply za7
  case h1=>exact zbj rfl (za2 rfl hlen) rfl
  case h2=>exact fun _=>zax (zaV rfl (zad rfl) (zfD h)) (za3 rfl)
  case h3 =>
        intro hh;have : ¬ (k:Int) < (ns.length:Int):=by simpa using hh
        omega
 ·refine ⟨0,za8 (ρ:=[some (.pub (.list (ns.map PyData.int))),some (.pub (.int k))]) rfl ?_⟩
  unfold g_az
  apply zaN
  apply za7
  case h1=>exact zbj rfl (za2 rfl hlen) rfl
  case h2 =>
        intro hh;have:(k:Int) < (ns.length:Int):=by simpa using hh
        omega
  case h3=>exact fun _=>zbs (zau (zax zae rfl))
def tab:List Int:=[1,1,2,0,3,7,1,4,5,6,1]
theorem zmo {z:Int} (h0:0<=z) (h1:z < 11):oIx (.list (tab.map PyData.int)) (.int z)=some (.int (tab.getD z.toNat 0))/\0<=tab.getD z.toNat 0/\tab.getD z.toNat 0 < 8:=by
 have e:z=0 ∨ z=1 ∨ z=2 ∨ z=3 ∨ z=4 ∨ z=5 ∨ z=6 ∨ z=7 ∨ z=8 ∨ z=9 ∨ z=10:=by omega
 rcases e with rfl|rfl|rfl|rfl|rfl|rfl|rfl|rfl|rfl|rfl|rfl <;> exact ⟨rfl,by decide,by decide⟩
structure zeF (n:Nat) (pl:List Int) (j:Nat) (rs:List (List Int)):Prop where
 few:rs.length<=j
 some:∀ r ∈ rs,r ≠ []
 there:∀ r ∈ rs,∀ t ∈ r,(0<=t/\t < n)/\pl.getD t.toNat 0 < 1+(j:Int)
 once:rs.flatten.Nodup
def zgw (n:Nat) (pl:List Int) (r:Int):List Int:=((List.range n).filter fun k=>decide (pl.getD k 0=r)).map fun k:Nat=>(k:Int)
theorem zhi (n:Nat) (pl:List Int) (r:Int):(zgw n pl r).Nodup:=by
 unfold zgw
 refine List.Pairwise.map _ (fun a b h e=>h (by omega)) ((List.nodup_range).filter _)
theorem zgx {n:Nat} {pl:List Int} {r t:Int} (h:t ∈ zgw n pl r):(0<=t/\t < n)/\pl.getD t.toNat 0=r:=by
 unfold zgw at h
 obtain ⟨k,hk,rfl⟩:=List.mem_map.mp h
 have hk:=List.mem_filter.mp hk
 have h1:=List.mem_range.mp hk.1
 have h2:pl.getD k 0=r:=by simpa using hk.2
 exact ⟨⟨by omega,by omega⟩,by rw [Int.toNat_natCast];exact h2⟩
theorem zeF.add {n:Nat} {pl:List Int} {j:Nat} {rs:List (List Int)} {row:List Int} (g:zeF n pl j rs) (hne:row ≠ []) (hm:∀ t ∈ row,t ∈ zgw n pl (1+(j:Int))) (hn:row.Nodup):zeF n pl (j+1) (rs ++ [row]) where
 few:=by rw [List.length_append,List.length_singleton];have:=g.few;omega
 some:=fun r hr=>by
  rcases List.mem_append.mp hr with z | z
  ·exact g.some r z
  ·rw [List.mem_singleton.mp z];exact hne
 there:=fun r hr t ht=>by
  rcases List.mem_append.mp hr with z | z
  ·have:=g.there r z t ht;exact ⟨this.1,by omega⟩
  ·rw [List.mem_singleton.mp z] at ht
   have:=zgx (hm t ht)
   exact ⟨this.1,by omega⟩
 once:=by
  rw [List.flatten_append,List.flatten_singleton]
  refine List.nodup_append.mpr ⟨g.once,hn,fun a ha b hb e=>?_⟩
  subst e
  obtain ⟨r,hr,har⟩:=List.mem_flatten.mp ha
  have h1:=(g.there r hr a har).2
  have h2:=(zgx (hm a hb)).2
  omega
theorem zeF.next {n:Nat} {pl:List Int} {j:Nat} {rs:List (List Int)} (g:zeF n pl j rs):zeF n pl (j+1) rs :=
 ⟨by have:=g.few;omega,g.some,fun r hr t ht=>⟨(g.there r hr t ht).1,by have:=(g.there r hr t ht).2;omega⟩,g.once⟩
theorem zkL {x:D} {m:Nat} (h:m<=1000):oMul (.list [x]) (.int m)=some (.list (List.replicate m x)):=by
 rw [zeU ⟨by omega,by omega,by rw [Int.toNat_natCast];show 1 * m<=_;omega⟩,Int.toNat_natCast]
 congr 2
 induction m with
 | zero=>rfl
 | succ m ih=>rw [List.replicate_succ,List.flatten_cons,ih (by omega)];rfl
def szG (T A:Nat):List Int:=(T:Int) :: (A:Int) :: List.replicate T 11
def szPG (T R:Nat):List Int:=List.replicate T ((R:Int)+1) ++ [2]
theorem zkM {T A:Nat}:(szG T A).length=T+2:=by unfold szG;simp
theorem zh1 {T R:Nat}:(szPG T R).length=T+1:=by unfold szPG;simp
theorem zoX {T A:Nat} (h1:1<=T) (h2:T<=6) (h3:1<=A) (h4:A<=7):∀ x ∈ szG T A,0 < x/\x < 18446744073709551616:=fun x hx=>by
 unfold szG at hx
 simp only [List.mem_cons,List.mem_replicate] at hx
 rcases hx with rfl | rfl | ⟨_,rfl⟩ <;> omega
theorem znt {T R:Nat} (h:R<=5):∀ x ∈ szPG T R,0 < x/\x < 18446744073709551616:=fun x hx=>by
 unfold szPG at hx
 simp only [List.mem_append,List.mem_singleton,List.mem_replicate] at hx
 rcases hx with ⟨_,rfl⟩ | rfl <;> omega
theorem zkN {T R:Nat}:(szPG T R)[T]?=some 2:=by unfold szPG;simp
theorem zoY {T A k:Nat} (h:k < T):(szG T A)[2+k]?=some 11:=by
 unfold szG
 rw [show 2+k=k+1+1 by omega,List.getElem?_cons_succ,List.getElem?_cons_succ,List.getElem?_replicate,if_pos h]
def znu (T A R:Nat) (S dz sz:D) (at_ n:Nat) (cs pl:List Int) (ls:List (List (List Int))) (x9 x10:Option Sl) (j:Nat) (ρ : DEnv):Prop:=∃ (rs:List (List Int)) (x13 x14:Option Sl),
 ρ = [some (.pub S),some (.pub (.int at_)),some (.pub (.int (T:Nat))),some (.pub (.int (A:Nat))),some (.pub (.int (R:Nat))),some (.pub sz),some (.pub dz),some (.own (cs.map PyData.int)),some (.own (ls.map zaz)),x9,x10,some (.pub (.list (pl.map PyData.int))),some (.own (rs.map zbu)),x13,x14]/\zeF n pl j rs
theorem ziJ {T A R:Nat} {S dz sz:D} {at_ n:Nat} {cs pl:List Int} {ls:List (List (List Int))} {v9 v10:D} {j:Nat} {d:D} {ρ : DEnv} {Q:Out->Prop} (hcs:cs.length=n) (hT:T<=6) (hR:R<=5) (hn:n<=T) (hpl:pl.length=T+1) (hlast:pl.getD T 0=0 ∨ pl.getD T 0=1)
  (hj:(zbO 1 ((R:Int)+1))[j]?=some d) (h:znu T A R S dz sz at_ n cs pl ls (some (.pub v9)) (some (.pub v10)) j ρ) :
  ∃ ρ2,gN 13 d ρ = some ρ2/\Ho zhf ρ2 (ziA (znu T A R S dz sz at_ n cs pl ls (some (.pub v9)) (some (.pub v10)) (j+1)) Q):=by
 obtain ⟨rs,x13,x14,rfl,g⟩:=h
 obtain ⟨rfl,hlt⟩:=zbC hj
 have hj5:j < R:=by omega
 refine ⟨_,tg_N (of_decide_eq_true rfl) (by walk_at "set"),?_⟩
 unfold zhf
 have hrd:zbO 0 ((n:Nat):Int)=(List.range n).map fun k=>.int (k:Int):=by
  unfold zbO
  have:((n:Int) - 0).toNat=n:=by omega
  rw [this]
  apply List.map_congr_left
  intro k _
  rw [Int.zero_add]
 have hc:zbw (gN 15) (dBin oEq (dIxN 11 (dVar 15)) (dVar 13)) (dVar 15) (zbO 0 ((n:Nat):Int)) (zaL [some (.pub S),some (.pub (.int at_)),some (.pub (.int (T:Nat))),some (.pub (.int (A:Nat))),some (.pub (.int (R:Nat))),some (.pub sz),some (.pub dz),some (.own (cs.map PyData.int)),some (.own (ls.map zaz)),some (.pub v9),some (.pub v10),some (.pub (.list (pl.map PyData.int))),some (.own (rs.map zbu)),some (.pub (.int (1+(j:Int)))),x14] ++ List.replicate 1 none) []=some ((zgw n pl (1+(j:Int))).map PyData.int):=by
  rw [hrd,zcf (fun d=>match d with | .int k=>decide (pl.getD k.toNat 0=1+(j:Int)) | _=>false) (fun d=>d) (fun ρ=>∃ x,ρ = [some (.pub S),some (.pub (.int at_)),some (.pub (.int (T:Nat))),some (.pub (.int (A:Nat))),some (.pub (.int (R:Nat))),some (.pub sz),some (.pub dz),none,none,some (.pub v9),some (.pub v10),some (.pub (.list (pl.map PyData.int))),none,some (.pub (.int (1+(j:Int)))),zci x14,x])]
  ·rw [List.nil_append,List.map_id',List.filter_map]
   unfold zgw
   rw [List.map_map]
   rfl
  ·rintro d hm ρ ⟨x,rfl⟩
   obtain ⟨k,hk,rfl⟩:=List.mem_map.mp hm
   have hk:=List.mem_range.mp hk
   refine ⟨_,tg_N (of_decide_eq_true rfl) rfl,zam (zaV rfl (zad rfl) (zfD (by omega))) (zad rfl) zce,fun _=>zad rfl,some (.pub (.int k)),?_⟩
   unfold zaL
   cases x14 with
   | none=>rfl
   | some sl=>cases sl <;> rfl
  ·exact ⟨none,rfl⟩
  ·rw [List.length_map,List.length_range,List.length_nil];omega
 have hlen:(cs.map PyData.int).length=n:=by rw [List.length_map,hcs]
 refine zaq (zbV (zbF (zct (zab (zeu rfl) zaj) (by rw [hlen];exact zb0 (by omega) (by omega))) hc) (of_decide_eq_true rfl) rfl) ?_
 generalize hrow:zgw n pl (1+(j:Int))=row
 apply za7
 case h1=>exact zhM rfl (zbt zaj (by decide)) rfl zkJ
 case h2 =>
  intro hh
  have hne:row ≠ []:=by simpa using hh
  have hlx:oIx (.list (pl.map PyData.int)) (.int (-1))=some (.int (pl.getD T 0)):=zkK (by
   rw [List.getLast?_eq_getElem?,List.length_map,hpl,List.getElem?_map,Nat.add_sub_cancel,List.getElem?_eq_getElem (show T < pl.length by omega)]
   simp [List.getD,List.getElem?_eq_getElem (show T < pl.length by omega)])
  obtain ⟨row',hix,hrow'⟩:∃ row':List Int,oIx (.list [.list (row.map PyData.int),.list (row.map PyData.int).reverse]) (.int (pl.getD T 0))=some (zbu row')/\(row'=row ∨ row'=row.reverse):=by
   rcases hlast with e | e
   ·rw [e];exact ⟨row,rfl,.inl rfl⟩
   ·rw [e];exact ⟨row.reverse,by show some (PyData.list (row.map PyData.int).reverse)=_;unfold zbu;rw [List.map_reverse],.inr rfl⟩
  have hrl:(rs.map zbu).length < 1000000:=by rw [List.length_map];have:=g.few;omega
  refine zbr (zdU rfl (zam (zbt (zab (zbE rfl rfl) (zab (zoH (zad rfl) zae zae (zcT (zeT zae))) zaj)) (of_decide_eq_true rfl)) (zaV rfl (zeT zae) hlx) hix) rfl hrl rfl) ?_
  refine zbc ⟨rs ++ [row'],some (.pub (.int (1+(j:Int)))),some (.pub (.list (row.map PyData.int))),by rw [List.map_append];rfl,g.add ?_ ?_ ?_⟩
  ·rcases hrow' with e | e <;> rw [e]
   ·exact hne
   ·exact fun z=>hne (List.reverse_eq_nil_iff.mp z)
  ·intro t ht
   rw [hrow]
   rcases hrow' with e | e <;> rw [e] at ht
   ·exact ht
   ·exact List.mem_reverse.mp ht
  ·have hnd:=zhi n pl (1+(j:Int))
   rw [hrow] at hnd
   rcases hrow' with e | e <;> rw [e]
   ·exact hnd
   ·exact (List.reverse_perm row).nodup_iff.mpr hnd
 case h3=>exact fun _=>zbs (zbc ⟨rs,_,_,rfl,g.next⟩)
def znv (T A R:Nat) (S dz sz:D) (at_ n:Nat) (cs:List Int) (i:Nat) (ρ : DEnv):Prop:=∃ (ls:List (List (List Int))) (x9 x10 x11 x12 x13 x14:Option Sl),
 ρ = [some (.pub S),some (.pub (.int at_)),some (.pub (.int (T:Nat))),some (.pub (.int (A:Nat))),some (.pub (.int (R:Nat))),some (.pub sz),some (.pub dz),some (.own (cs.map PyData.int)),some (.own (ls.map zaz)),x9,x10,x11,x12,x13,x14]/\ls.length=i/\∀ rs ∈ ls,zcg n rs/\rs.length<=R
theorem zhj {T A R:Nat} {ns:List Int} {dz sz:D} {at_ n:Nat} {cs:List Int} {i:Nat} {m:Int} {d:D} {ρ : DEnv} {Q:Out->Prop} (hns:ns.length<=1000) (hT:T<=6) (hR:R<=5) (hcs:cs.length=n) (hn:n<=T) (hm:m<=100)
  (hi:(zbO 0 m)[i]?=some d) (h:znv T A R (.list (ns.map PyData.int)) dz sz at_ n cs i ρ) :
  ∃ ρ2,gN 9 d ρ = some ρ2/\Ho zhg ρ2 (ziA (znv T A R (.list (ns.map PyData.int)) dz sz at_ n cs (i+1)) Q):=by
 obtain ⟨ls,x9,x10,x11,x12,x13,x14,rfl,hl,hg⟩:=h
 obtain ⟨rfl,hlt⟩:=zbC hi
 refine ⟨_,tg_N (of_decide_eq_true rfl) (by walk_at "set"),?_⟩
 unfold zhg
 obtain ⟨v,hv⟩:=zcn ns (at_+1+i) hns
 have ev:((at_:Int)+1+(0+(i:Int)))=((at_+1+i:Nat):Int):=by omega
 rw [← ev] at hv
 refine zaq (zaM (zat (zab (zad rfl) (zab (zam (zam (zad rfl) zae zaw) (zad rfl) zaw) zaj)) rfl hv) (of_decide_eq_true rfl) rfl) ?_
 obtain ⟨r,hF,pl,rfl,hpl,hpb⟩:=zcm v (11 * (at_:Int)+3 * (0+(i:Int))+1) (sizes:=szPG T R) (znt hR) (by rw [zh1];omega)
 have hpl7:pl.length=T+1:=by rw [hpl,zh1]
 have hmul:oMul (.list [.int ((R:Int)+1)]) (.int (T:Nat))=some (.list (List.replicate T (.int ((R:Int)+1)))):=zkL (by omega)
 have hadd:oAdd (.list (List.replicate T (.int ((R:Int)+1)))) (.list [.int 2])=some (.list ((szPG T R).map PyData.int)):=by
  rw [zbU (by rw [List.length_replicate];show T+1<=_;omega)]
  unfold szPG
  rw [List.map_append,List.map_replicate]
  rfl
 refine zaq (zaM (zat (zab (zad rfl) (zab (zam (zam (zam zae (zad rfl) (zcG (by decide) (by decide))) (zam zae (zad rfl) (zcG (by decide) (by decide))) zaw) zae zaw) (zab (zam (zam (zbt (zab (zam (zad rfl) zae zaw) zaj) (of_decide_eq_true rfl)) (zad rfl) hmul) (zbt (zab zae zaj) (of_decide_eq_true rfl)) hadd) zaj))) rfl hF) (of_decide_eq_true rfl) rfl) ?_
 refine zaq (zbV (zcF zaj (of_decide_eq_true rfl)) (of_decide_eq_true rfl) rfl) ?_
 have hlast:pl.getD T 0=0 ∨ pl.getD T 0=1:=by
  have e:pl[T]?=some pl[T]:=List.getElem?_eq_getElem (by omega)
  have:=hpb T pl[T] 2 e zkN
  have e2:pl.getD T 0=pl[T]:=by simp [List.getD,e]
  rw [e2];omega
 apply zaN
 apply zbW (znu T A R (.list (ns.map PyData.int)) dz sz at_ n cs pl ls (some (.pub (.int (0+(i:Int))))) (some (.pub (.int v))))
 case h1=>exact zj1 (zab zae (zab (zam (zad rfl) zae zaw) zaj)) (zlx (by omega) (by omega) (by decide) (by decide))
 case h0=>exact ⟨[],x13,x14,rfl,⟨Nat.le_refl _,fun _ h=>(by cases h),fun _ h=>(by cases h),List.nodup_nil⟩⟩
 case hst=>exact fun j d ρ e h=>ziJ hcs hT hR hn hpl7 hlast e h
 case hend =>
  rintro ρ ⟨rs,y13,y14,rfl,g⟩
  refine zau ?_
  have hl5:(zbO 1 ((R:Int)+1)).length=R:=by rw [zaX];omega
  rw [hl5] at g
  have hll:(ls.map zaz).length < 1000000:=by rw [List.length_map];omega
  refine zbr (zdU rfl (zbE rfl rfl) rfl hll rfl) ?_
  refine zbc ⟨ls ++ [rs],some (.pub (.int (0+(i:Int)))),some (.pub (.int v)),some (.pub (.list (pl.map PyData.int))),some (.pub (.list (rs.map zbu))),y13,y14,by rw [List.map_append];rfl,by rw [List.length_append,hl];rfl,fun x hx=>?_⟩
  rcases List.mem_append.mp hx with z | z
  ·exact hg x z
  ·rw [List.mem_singleton.mp z];exact ⟨⟨by have:=g.few;omega,g.some,fun r hr t ht=>(g.there r hr t ht).1,g.once⟩,g.few⟩
theorem zgy (T A R:Nat) {ns:List Int} (hns:ns.length<=1000) (at_:Nat) (hT1:1<=T:=by decide) (hT:T<=6:=by decide) (hA1:1<=A:=by decide) (hA:A<=7:=by decide) (hR:R<=5:=by decide):∃ r,F_bb [.list (ns.map PyData.int),.int at_,.int (T:Nat),.int (A:Nat),.int (R:Nat)]=some r/\∃ cs ls,r=zaA cs ls/\Good cs ls/\cs.length<=T/\ls.length<=A/\∀ rs ∈ ls,rs.length<=R:=by
 obtain ⟨v,hv⟩:=zcn ns at_ hns
 obtain ⟨r,hF,ds,rfl,hl,hd⟩:=zcm v at_ (sizes:=szG T A) (zoX hT1 hT hA1 hA) (by rw [zkM];omega)
 have hl8:ds.length=T+2:=by rw [hl,zkM]
 have at':∀ (j:Nat) (k z:Int),k=j->(szG T A)[j]?=some z->∃ d,oIx (.list (ds.map PyData.int)) (.int k)=some (.int d)/\ds[j]?=some d/\0<=d/\d < z:=fun j k z hk hz=>by
  subst hk
  have hj:j < ds.length:=by rw [hl];exact (List.getElem?_eq_some_iff.mp hz).1
  have e:ds[j]?=some ds[j]:=List.getElem?_eq_getElem hj
  obtain ⟨p0,p1⟩:=hd j ds[j] z e hz
  exact ⟨ds[j],za1 (by rw [List.getElem?_map,e];rfl),e,p0,p1⟩
 obtain ⟨d0,x0,e0,p0,q0⟩:=at' 0 0 T rfl rfl
 obtain ⟨d1,x1,e1,p1,q1⟩:=at' 1 1 A rfl rfl
 have hmul:oMul (.list [.int 11]) (.int (T:Nat))=some (.list (List.replicate T (.int 11))):=zkL (by omega)
 have hadd:oAdd (.list [.int (T:Nat),.int (A:Nat)]) (.list (List.replicate T (.int 11)))=some (.list ((szG T A).map PyData.int)):=by
  rw [zbU (by rw [List.length_replicate];show 2+T<=_;omega)]
  unfold szG
  rw [List.map_cons,List.map_cons,List.map_replicate]
  rfl
 obtain ⟨n,hn⟩:∃ n:Nat,1+d0=n:=⟨(1+d0).toNat,by omega⟩
 refine zeV (ρ:=[some (.pub (.list (ns.map PyData.int))),some (.pub (.int at_)),some (.pub (.int (T:Nat))),some (.pub (.int (A:Nat))),some (.pub (.int (R:Nat))),none,none,none,none,none,none,none,none,none,none]) rfl ?_
 unfold g_bb
 refine zaq (zaM (zam (zbt (zab (zad rfl) (zab (zad rfl) zaj)) (of_decide_eq_true rfl)) (zam (zbt (zab zae zaj) (of_decide_eq_true rfl)) (zad rfl) hmul) hadd) (of_decide_eq_true rfl) rfl) ?_
 refine zaq (zaM (zat (zab (zat (zab (zad rfl) (zab (zad rfl) zaj)) rfl hv) (zab (zad rfl) (zab (zad rfl) zaj))) rfl hF) (of_decide_eq_true rfl) rfl) ?_
 have hcut:DL.cutD (ds.map PyData.int) (some 2) (some (3+d0))=((ds.drop 2).take n).map PyData.int:=by
  rw [zfp (by decide) (by omega) (by omega)]
  have:(3+d0).toNat - (2:Int).toNat=n:=by omega
  rw [this];rfl
 have hrowl:((ds.drop 2).take n).length=n:=by rw [List.length_take,List.length_drop,hl8];omega
 have each:∀ z ∈ (ds.drop 2).take n,0<=z/\z < 11:=fun z hz=>by
  have hz:=List.mem_of_mem_take hz
  obtain ⟨k,hk,e⟩:=List.getElem_of_mem hz
  rw [List.length_drop,hl8] at hk
  rw [List.getElem_drop] at e
  have e2:ds[2+k]?=some z:=by rw [← e];exact List.getElem?_eq_getElem _
  refine hd (2+k) z 11 e2 (zoY ?_)
  omega
 let cs:List Int:=((ds.drop 2).take n).map fun z=>tab.getD z.toNat 0
 have hcl:cs.length=n:=by show (List.map _ _).length=n;rw [List.length_map,hrowl]
 have hc:∀ xs:List (Option Sl),zaL xs=xs->xs.length=15->zbw (gN 15) (zag true) (dBin oIx (mLst (zaf (zag (.int 1)) (zaf (zag (.int 1)) (zaf (zag (.int 2)) (zaf (zag (.int 0)) (zaf (zag (.int 3)) (zaf (zag (.int 7)) (zaf (zag (.int 1)) (zaf (zag (.int 4)) (zaf (zag (.int 5)) (zaf (zag (.int 6)) (zaf (zag (.int 1)) (mNil))))))))))))) (dVar 15)) (((ds.drop 2).take n).map PyData.int) (zaL xs ++ List.replicate 1 none) []=some (cs.map PyData.int):=by
  intro xs hx hxl
  rw [hx,zcf (fun _=>true) (fun d=>match d with | .int z=>.int (tab.getD z.toNat 0) | _=>.none) (fun ρ=>∃ x,ρ = xs ++ [x])]
  ·rw [List.filter_eq_self.mpr (fun _ _=>rfl),List.nil_append,List.map_map]
   show _=some ((((ds.drop 2).take n).map fun z=>tab.getD z.toNat 0).map PyData.int)
   rw [List.map_map]
   rfl
  ·rintro d hm ρ ⟨x,rfl⟩
   obtain ⟨z,hz,rfl⟩:=List.mem_map.mp hm
   have ht:=zmo (each z hz).1 (each z hz).2
   have hset:(xs ++ [x]).set 15 (some (Sl.pub (.int z)))=xs ++ [some (.pub (.int z))]:=by
    rw [List.set_append_right _ _ (by omega),hxl];rfl
   have hget:(xs ++ [some (Sl.pub (.int z))])[15]?=some (some (Sl.pub (.int z))):=by
    rw [List.getElem?_append_right (by omega),hxl];rfl
   refine ⟨_,tg_N (by rw [List.length_append,hxl];exact of_decide_eq_true rfl) hset,rfl,fun _=>?_,some (.pub (.int z)),?_⟩
   ·exact zam (zbt (zab zae (zab zae (zab zae (zab zae (zab zae (zab zae (zab zae (zab zae (zab zae (zab zae (zab zae zaj))))))))))) (of_decide_eq_true rfl)) (zad hget) ht.1
   ·unfold zaL at hx ⊢
    rw [List.map_append,hx];rfl
  ·exact ⟨none,rfl⟩
  ·rw [List.length_map,hrowl,List.length_nil];omega
 refine zaq (zbV (zbF (zaT (zhL (zad rfl) (zcT zae) (zcT (zam zae (zaV rfl zae x0) zaw)) (by rw [zd9,hcut])) zbz) (hc _ rfl rfl)) (of_decide_eq_true rfl) rfl) ?_
 refine zaq (zbV (zcF zaj (of_decide_eq_true rfl)) (of_decide_eq_true rfl) rfl) ?_
 apply zaN
 apply zbW (znv T A R (.list (ns.map PyData.int)) (.list (ds.map PyData.int)) (.list ((szG T A).map PyData.int)) at_ n cs)
 case h1=>exact zct (zab (zam zae (zaV rfl zae x1) zaw) zaj) (zb0 (by omega) (by omega))
 case h0=>exact ⟨[],_,_,_,_,_,_,rfl,rfl,fun _ h=>by cases h⟩
 case hst=>exact fun i d ρ e h=>zhj hns hT hR hcl (by omega) (by omega) e h
 case hend =>
  rintro ρ ⟨ls,y9,y10,y11,y12,y13,y14,rfl,hll,hg⟩
  rw [zaX] at hll
  refine zau (zax (zcS (zab (zbE rfl rfl) (zab (zbE rfl rfl) zaj)) (of_decide_eq_true rfl)) ⟨_,rfl,cs,ls,rfl,⟨?_,by omega,by omega,fun rs hrs=>(hg rs hrs).2⟩⟩)
  exact ⟨by omega,by omega,fun c hc=>by
   obtain ⟨z,hz,rfl⟩:=List.mem_map.mp hc
   exact (zmo (each z hz).1 (each z hz).2).2,by omega,by omega,fun rs hrs=>by rw [hcl];exact (hg rs hrs).1⟩
def za6 (t:Int) (rs:List (List Int)):Nat:=if rs.findIdx (fun r=>r.contains t) < rs.length then rs.findIdx (fun r=>r.contains t)+1 else 0
theorem znw (a b:Int):PyData.eqv (.int a) (.int b)=(a == b):=by simp [PyData.eqv]
theorem zhk (t:Int) (r:List Int):oIn (.int t) (zbu r)=some (r.contains t):=by
 have h1:PyData.canLayAll0 (r.map PyData.int)=true:=by
  induction r with
  | nil=>rfl
  | cons x r ih=>rw [List.map_cons];unfold PyData.canLayAll0;rw [ih];rfl
 unfold oIn zbu
 dsimp only
 rw [if_pos ⟨rfl,h1,Nat.zero_le _⟩]
 congr 1
 rw [List.any_map]
 clear h1
 induction r with
 | nil=>rfl
 | cons x r ih =>
  rw [List.any_cons,ih,List.contains_cons]
  congr 1
  show PyData.eqv (.int x) (.int t)=(t == x)
  rw [znw]
  exact Bool.eq_iff_iff.2 ⟨fun h=>beq_iff_eq.2 (beq_iff_eq.1 h).symm,fun h=>beq_iff_eq.2 (beq_iff_eq.1 h).symm⟩
theorem zgz {t:Int} {rs:List (List Int)} {i:Nat} {r:List Int} (hr:rs[i]?=some r) (h:r.contains t=true) (hb:∀ j r,j < i->rs[j]?=some r->r.contains t=false):za6 t rs=1+i:=by
 obtain ⟨hi,e⟩:=List.getElem?_eq_some_iff.1 hr
 have hf:rs.findIdx (fun r=>r.contains t)=i:=(List.findIdx_eq hi).2 ⟨by rw [e];exact h,fun j hj=>hb j _ hj (List.getElem?_eq_getElem (Nat.lt_trans hj hi))⟩
 unfold za6
 rw [hf,if_pos hi,Nat.add_comm]
theorem zgA {t:Int} {rs:List (List Int)} (hb:∀ j r,j < rs.length->rs[j]?=some r->r.contains t=false):za6 t rs=0:=by
 have hf:rs.findIdx (fun r=>r.contains t)=rs.length:=List.findIdx_eq_length.2 fun r hr=>by
  obtain ⟨j,hj,e⟩:=List.mem_iff_getElem.1 hr
  exact hb j r hj (by rw [List.getElem?_eq_getElem hj,e])
 unfold za6
 rw [hf,if_neg (Nat.lt_irrefl _)]
theorem ziK (t:Int) (rs:List (List Int)):F_aj [zaz rs,.int t]=some (.int (za6 t rs:Nat)):=by
 refine za8 (ρ:=[some (.pub (zaz rs)),some (.pub (.int t)),none,none]) rfl ?_
 unfold g_aj
 apply zaN
 apply zbW (fun i ρ=>(∃ x2 x3,ρ = [some (.pub (zaz rs)),some (.pub (.int t)),x2,x3])/\∀ j r,j < i->rs[j]?=some r->r.contains t=false)
 case h1=>exact zhN (zab (zad rfl) zaj) zgi
 case h0=>exact ⟨⟨_,_,rfl⟩,fun j r h=>absurd h (Nat.not_lt_zero _)⟩
 case hst =>
  rintro i d ρ hi ⟨⟨x2,x3,rfl⟩,hb⟩
  obtain ⟨x,hx,rfl⟩:=zc3 hi
  rw [List.getElem?_map] at hx
  cases hr:rs[i]? with
  | none=>rw [hr] at hx;cases hx
  | some r =>
   rw [hr] at hx
   cases hx
   refine ⟨_,tg_T rfl (tg_C (tg_N (of_decide_eq_true rfl) rfl) (tg_C (tg_N (of_decide_eq_true rfl) rfl) tg_0)),?_⟩
   unfold zkr
   apply za7
   case h1=>exact zbj rfl (zad rfl) (zhk t r)
   case h2 =>
    intro hh
    refine zax (zad rfl) (zfo ?_)
    rw [zgz hr hh hb]
    exact ⟨rfl⟩
   case h3 =>
    intro hh
    refine zbs (zbc ⟨⟨_,_,rfl⟩,fun j r' hj hr'=>?_⟩)
    rcases Nat.lt_succ_iff_lt_or_eq.1 hj with h | rfl
    ·exact hb j r' h hr'
    ·rw [hr] at hr';cases hr';exact hh
 case hend =>
  rintro ρ ⟨⟨x2,x3,rfl⟩,hb⟩
  rw [zbl,List.length_map] at hb
  refine zau ?_
  rw [zgA hb]
  exact zax zae rfl
def optD:Option Int->D
 | none=>.none
 | some t=>.int t
def ziL (ws:List (Option Int)):D:=.list (ws.map optD)
theorem ze3 {t:Int} {rs:List (List Int)} (h:t ∈ rs.flatten):za6 t rs ≠ 0:=by
 obtain ⟨r,hr,ht⟩:=List.mem_flatten.mp h
 have:rs.findIdx (fun r=>r.contains t) < rs.length:=List.findIdx_lt_length_of_exists ⟨r,hr,by simpa using ht⟩
 unfold za6
 rw [if_pos this]
 omega
theorem znx (a b:Option Int):PyData.eqv (optD a) (optD b)=decide (a=b):=by
 rw [Bool.eq_iff_iff]
 cases a <;> cases b <;> simp [optD,PyData.eqv]
theorem zlR {f:M (List D)} {k:Nat} {s:D->DEnv->Option DEnv} {t:M Bool} {g:M D} {ρ ρ1:DEnv} {ds es:List D} (h1:f ρ = .ok ds ρ1) (h2:zbw s t g ds (zc6 ρ1 ++ List.replicate k none) []=some es) (h3:es.all flat=true):zf5 f k s t g ρ = .ok es ρ1:=by
 unfold zf5;rw [h1];dsimp only;rw [h2];dsimp only;rw [if_pos h3]
theorem zkO {cs:List Int} {ls:List (List (List Int))} {rs:List (List Int)} {i:Nat} (hi:ls[i]?=some rs) (hl:rs.flatten.length < 64):F_be [zaA cs ls,.int i]=some (.list ((zcs rs.flatten).map PyData.int)):=by
 refine za8 (ρ:=[some (.pub (zaA cs ls)),some (.pub (.int i))]) rfl ?_
 unfold g_be
 have i1:oIx (zaA cs ls) (.int 1)=some (.list (ls.map zaz)):=za1 (j:=1) rfl
 have i2:oIx (.list (ls.map zaz)) (.int i)=some (zaz rs):=za1 (by rw [List.getElem?_map,hi];rfl)
 have hs:zix [zaz rs,.list []]=some (.list (rs.flatten.map PyData.int)):=by
  have e:zaz rs=.list ((rs.map fun r=>r.map PyData.int).map PyData.list):=by unfold zaz;rw [List.map_map];rfl
  have e2:(rs.map fun r=>r.map PyData.int).flatten=rs.flatten.map PyData.int:=by rw [List.map_flatten]
  rw [e]
  unfold zix
  dsimp only
  rw [ziw]
  dsimp only
  rw [e2,if_pos (by rw [List.length_map];omega)]
 exact zax (zaQ (zab (zaQ (zab (zam (zaV rfl zae i1) (zad rfl) i2) (zab (zbt zaj (of_decide_eq_true rfl)) zaj)) hs) zaj) (zeZ hl)) rfl
theorem zmp {os:List (Option Int)} {k:Nat} (h:k < os.length):oIx (.list (os.map optD)) (.int k)=some (optD os[k]):=za1 (by rw [List.getElem?_map,List.getElem?_eq_getElem h];rfl)
theorem zbI {s:D->DEnv->Option DEnv} {t:M Bool} {g:M D} (I:DEnv->Prop):∀ (ds qs:List D) (ρ : DEnv) (es:List D),qs.length=ds.length ->
  (∀ (i:Nat) d e,ds[i]?=some d->qs[i]?=some e->∀ ρ,I ρ -> ∃ ρ1,s d ρ = some ρ1/\t ρ1=.ok true ρ1/\g ρ1=.ok e ρ1/\I (zaL ρ1))->I ρ -> es.length+ds.length<=1000000->zbw s t g ds ρ es=some (es ++ qs)
 | [],[],ρ,es,_,_,_,_=>by rw [zbw,List.append_nil]
 | d :: r,e :: q,ρ,es,hl,st,h0,hz=>by
  obtain ⟨ρ1,e1,e2,e3,h1⟩:=st 0 d e rfl rfl ρ h0
  rw [List.length_cons] at hz
  rw [zbw,e1]
  dsimp only
  rw [e2]
  dsimp only
  rw [if_pos rfl,e3]
  dsimp only
  rw [if_pos (by omega),zbI I r q (zaL ρ1) (es ++ [e]) (by simpa using hl) (fun i d' e' x y=>st (i+1) d' e' (by simpa using x) (by simpa using y)) h1 (by rw [List.length_append,List.length_singleton];omega),List.append_assoc]
  rfl
def lng (ls:List (List (List Int))):Nat:=(most (ls.map fun rs=>(rs.length:Int))).toNat
theorem zhl {ls:List (List (List Int))} (h:1<=ls.length):most (ls.map fun rs=>(rs.length:Int))=(lng ls:Nat):=by
 have hm:most (ls.map fun rs=>(rs.length:Int)) ∈ ls.map fun rs=>(rs.length:Int):=zd8 (by rw [List.length_map];omega)
 obtain ⟨rs,_,e⟩:=List.mem_map.mp hm
 unfold lng
 omega
theorem zmq {ls:List (List (List Int))} {rs:List (List Int)} (h:rs ∈ ls):rs.length<=lng ls:=by
 have h1:((rs.length:Nat):Int)<=most (ls.map fun rs=>(rs.length:Int)):=zfk (List.mem_map.mpr ⟨rs,h,rfl⟩)
 have h2:=zhl (ls:=ls) (List.length_pos_of_mem h)
 omega
theorem zkP {ls:List (List (List Int))} {n:Nat} (h1:1<=ls.length) (h:∀ rs ∈ ls,rs.length<=n):lng ls<=n:=by
 have hm:most (ls.map fun rs=>(rs.length:Int)) ∈ ls.map fun rs=>(rs.length:Int):=zd8 (by rw [List.length_map];omega)
 obtain ⟨rs,hr,e⟩:=List.mem_map.mp hm
 have:=h rs hr
 unfold lng
 omega
theorem zeG (t:Int) (rs:List (List Int)):za6 t rs<=rs.length:=by
 unfold za6
 split <;> omega
section
variable {cs:List Int} {ls:List (List (List Int))} {ws:List (Option Int)}
theorem ziM:oIx (zaA cs ls) (.int 0)=some (.list (cs.map PyData.int)):=za1 (j:=0) rfl
theorem zd4:oIx (zaA cs ls) (.int 1)=some (.list (ls.map zaz)):=za1 (j:=1) rfl
theorem zoZ {i:Nat} {rs:List (List Int)} (h:ls[i]?=some rs):oIx (.list (ls.map zaz)) (.int i)=some (zaz rs):=za1 (by rw [List.getElem?_map,h];rfl)
theorem zgB (rs:List (List Int)):oLen [zaz rs]=some (.int rs.length):=by unfold zaz;rw [zaH,List.length_map]
theorem ziN (g:Good cs ls):F_ak [zaA cs ls]=some (.int (lng ls:Nat)):=by
 refine za8 (ρ:=[some (.pub (zaA cs ls))]) rfl ?_
 unfold g_ak
 have hw:=zeE g
 have hc:zbw (gN 1) (zag true) (zbh 1) (ls.map zaz) (zaL [some (.pub (zaA cs ls))] ++ List.replicate 1 none) []=some ((ls.map fun rs=>(rs.length:Int)).map PyData.int):=by
  refine zbI (fun ρ=>∃ x,ρ = [some (.pub (zaA cs ls)),x]) _ _ _ _ (by rw [List.length_map,List.length_map,List.length_map]) ?_ ⟨none,rfl⟩ (by rw [List.length_map,List.length_nil];have:=g.l7;omega)
  rintro i d e hd he ρ ⟨x,rfl⟩
  rw [List.getElem?_map] at hd
  rw [List.getElem?_map,List.getElem?_map] at he
  cases hl:ls[i]? with
  | none=>rw [hl] at hd;cases hd
  | some rs =>
  rw [hl] at hd he
  cases hd
  cases he
  exact ⟨_,tg_N (of_decide_eq_true rfl) rfl,rfl,za2 rfl (zgB rs),_,rfl⟩
 refine zaq (zcU (zat (zab (zad rfl) zaj) rfl hw)) ?_
 refine zax (zaQ (zab (zaW (zbF (zaT (zaV rfl zae zd4) zbz) hc)) zaj) (zfl (by rw [List.length_map];have:=g.l1;omega))) ?_
 rw [zhl g.l1]
end
theorem zny {d:D} (h1:d.canLay0=true) (h2:d.depth<=60):oNe d d=some false:=by
 unfold oNe
 rw [if_pos ⟨h1,h1,h2⟩,zfz _ h1];rfl
theorem zmr {a b:Option Int}:oEq (optD a) (optD b)=some (decide (a=b)):=by
 unfold oEq
 rw [if_pos ⟨by cases a <;> rfl,by cases b <;> rfl,by cases a <;> simp [optD,PyData.depth]⟩,znx]
section
variable {cs:List Int} {ls:List (List (List Int))} {ws:List (Option Int)} {a:Nat} {o had:Option Int} {rs:List (List Int)} {t:Int}
end
theorem ze4 {s:D->DEnv->Option DEnv} {t:M Bool} {g:M D} (I:DEnv->Prop):∀ (ds qs:List D) (ρ : DEnv) (es:List D),qs.length=ds.length ->
  (∀ (i:Nat) d e,ds[i]?=some d->qs[i]?=some e->∀ ρ,I ρ -> ∃ ρ1,s d ρ = some ρ1/\t ρ1=.ok true ρ1/\g ρ1=.ok e ρ1/\I (zaL ρ1))->I ρ -> es.length+ds.length<=1000000->∃ ρ',zb1 s t g ds ρ es=some (es ++ qs,ρ')/\I ρ'
 | [],[],ρ,es,_,_,h0,_=>⟨ρ,by rw [zb1,List.append_nil],h0⟩
 | d :: r,e :: q,ρ,es,hl,st,h0,hz=>by
  obtain ⟨ρ1,e1,e2,e3,h1⟩:=st 0 d e rfl rfl ρ h0
  rw [List.length_cons] at hz
  obtain ⟨ρ',e',h'⟩:=ze4 I r q (zaL ρ1) (es ++ [e]) (by simpa using hl) (fun i d' e' x y=>st (i+1) d' e' (by simpa using x) (by simpa using y)) h1 (by rw [List.length_append,List.length_singleton];omega)
  refine ⟨ρ',?_,h'⟩
  rw [zb1,e1]
  dsimp only
  rw [e2]
  dsimp only
  rw [if_pos rfl,e3]
  dsimp only
  rw [if_pos (by omega),e',List.append_assoc]
  rfl
theorem zdL {s:D->DEnv->Option DEnv} {t:M Bool} {f:M (List D)} {Rd:List D->DEnv->List D->Option (List D × DEnv)} (I:DEnv->Prop):∀ (ds:List D) (qs:List (List D)) (ρ : DEnv) (es:List D),qs.length=ds.length ->
  (∀ (i:Nat) d q,ds[i]?=some d->qs[i]?=some q->∀ ρ es,I ρ -> es.length+q.length<=1000000->∃ ρ1 xs ρ2 ρ3,s d ρ = some ρ1/\t ρ1=.ok true ρ1/\f ρ1=.ok xs ρ2/\Rd xs (zaL ρ2) es=some (es ++ q,ρ3)/\I ρ3)->I ρ -> es.length+qs.flatten.length<=1000000->∃ ρ',zcj s t f Rd ds ρ es=some (es ++ qs.flatten,ρ')/\I ρ'
 | [],[],ρ,es,_,_,h0,_=>⟨ρ,by rw [zcj,List.flatten_nil,List.append_nil],h0⟩
 | d :: r,q :: qr,ρ,es,hl,st,h0,hz=>by
  rw [List.flatten_cons,List.length_append] at hz
  obtain ⟨ρ1,xs,ρ2,ρ3,e1,e2,e3,e4,h1⟩:=st 0 d q rfl rfl ρ es h0 (by omega)
  obtain ⟨ρ',e',h'⟩:=zdL I r qr ρ3 (es ++ q) (by simpa using hl) (fun i d' e' x y=>st (i+1) d' e' (by simpa using x) (by simpa using y)) h1 (by rw [List.length_append];omega)
  refine ⟨ρ',?_,h'⟩
  rw [zcj,e1]
  dsimp only
  rw [e2]
  dsimp only
  rw [if_pos rfl,e3]
  dsimp only
  rw [e4]
  dsimp only
  rw [e',List.flatten_cons,List.append_assoc]
def zeM (i:Nat) (rs:List (List Int)):List (Int × Int):=rs.flatten.map fun t=>((i:Int),t)
def rawW (k:Nat):List (List (List Int))->List (Int × Int)
 | []=>[]
 | rs :: ls=>zeM k rs ++ rawW (k+1) ls
def allW (k:Nat):List (List (List Int))->List (Int × Int)
 | []=>[]
 | rs :: ls=>(zcs rs.flatten).map (fun t=>((k:Int),t)) ++ allW (k+1) ls
theorem zcy:∀ (ls:List (List (List Int))) (k:Nat),(allW k ls).Perm (rawW k ls)
 | [],_=>.nil
 | rs :: ls,k=>((zbP rs.flatten).map _).append (zcy ls (k+1))
theorem zfE:∀ (ls:List (List (List Int))) (k:Nat),∀ q ∈ allW k ls,(k:Int)<=q.1
 | [],_,q,h=>by cases h
 | rs :: ls,k,q,h=>by
  rcases List.mem_append.mp h with h | h
  ·obtain ⟨t,_,rfl⟩:=List.mem_map.mp h;exact Int.le_refl _
  ·have:=zfE ls (k+1) q h;omega
theorem zco:∀ {ls:List (List (List Int))} {k:Nat} {q:Int × Int},q ∈ allW k ls->∃ i rs,ls[i]?=some rs/\q.1=((k+i:Nat):Int)/\q.2 ∈ rs.flatten
 | [],_,q,h=>by cases h
 | rs :: ls,k,q,h=>by
  rcases List.mem_append.mp h with h | h
  ·obtain ⟨t,ht,rfl⟩:=List.mem_map.mp h
   exact ⟨0,rs,rfl,rfl,(zbP _).mem_iff.mp ht⟩
  ·obtain ⟨i,rs',h1,h2,h3⟩:=zco h
   exact ⟨i+1,rs',by simpa using h1,by rw [h2];congr 1;omega,h3⟩
theorem zh2 {n:Nat} (hn:n<=6):∀ (ls:List (List (List Int))) (k:Nat),(∀ rs ∈ ls,∀ t ∈ rs.flatten,0<=t/\t < n)->(allW k ls).Pairwise fun x y=>keyP x<=keyP y
 | [],_,_=>.nil
 | rs :: ls,k,h=>by
  refine List.pairwise_append.mpr ⟨?_,zh2 hn ls (k+1) fun rs' hr=>h rs' (List.mem_cons_of_mem _ hr),fun x hx y hy=>?_⟩
  ·rw [List.pairwise_map]
   refine (zgd rs.flatten).imp fun {a b} hab=>?_
   unfold keyP
   dsimp only
   omega
  ·obtain ⟨t,ht,rfl⟩:=List.mem_map.mp hx
   have h1:=zfE ls (k+1) y hy
   have h2:=h rs List.mem_cons_self t ((zbP _).mem_iff.mp ht)
   obtain ⟨i,rs',g1,g2,g3⟩:=zco hy
   have h3:=h rs' (List.mem_cons_of_mem _ (List.mem_of_getElem? g1)) y.2 g3
   unfold keyP
   dsimp only
   omega
theorem zcg.flat {n:Nat} {rs:List (List Int)} (g:zcg n rs):∀ t ∈ rs.flatten,0<=t/\t < n:=fun t ht=>by
 obtain ⟨r,h1,h2⟩:=List.mem_flatten.mp ht
 exact g.there r h1 t h2
section
variable {cs:List Int} {ls:List (List (List Int))}
theorem zfF (n:Nat):∀ (ls:List (List (List Int))) (k:Nat),(∀ rs ∈ ls,rs.flatten.length<=n)->(rawW k ls).length<=ls.length * n
 | [],_,_=>by simp [rawW]
 | rs :: ls,k,h=>by
  have h1:=zfF n ls (k+1) fun r hr=>h r (List.mem_cons_of_mem _ hr)
  have h2:=h rs List.mem_cons_self
  show (zeM k rs ++ rawW (k+1) ls).length<=_
  rw [List.length_append,List.length_cons,Nat.succ_mul]
  unfold zeM
  rw [List.length_map]
  omega
theorem ziO (g:Good cs ls):zfs (rawW 0 ls)=allW 0 ls:=by
 have hf:∀ rs ∈ ls,∀ t ∈ rs.flatten,0<=t/\t < cs.length:=fun rs hr=>(g.rk rs hr).flat
 have ok:∀ q ∈ allW 0 ls,okP q:=fun q hq=>by
  obtain ⟨i,rs,h1,h2,h3⟩:=zco hq
  have:=hf rs (List.mem_of_getElem? h1) q.2 h3
  have:=g.c6
  exact ⟨by omega,by omega⟩
 exact (zft ok ((zcy ls 0).trans (zeY _).symm) (zh2 g.c6 ls 0 hf) (zgo _)).symm
theorem zo0 (g:Good cs ls):∀ q ∈ rawW 0 ls,okP q:=fun q hq=>by
 obtain ⟨i,rs,h1,h2,h3⟩:=zco ((zcy ls 0).mem_iff.mpr hq)
 have:=(g.rk rs (List.mem_of_getElem? h1)).flat q.2 h3
 have:=g.c6
 exact ⟨by omega,by omega⟩
theorem zfG (g:Good cs ls):(rawW 0 ls).length<=42:=by
 have h:=zfF 6 ls 0 fun rs hr=>Nat.le_trans (zea (g.rk rs hr)) g.c6
 have:=g.l7
 omega
theorem zhm:∀ (ls:List (List (List Int))) (k:Nat),((ls.zipIdx k).map fun p=>(zeM p.2 p.1).map duoD).flatten=(rawW k ls).map duoD
 | [],_=>rfl
 | rs :: ls,k=>by
  rw [List.zipIdx_cons,List.map_cons,List.flatten_cons,zhm ls (k+1)]
  show _=(zeM k rs ++ rawW (k+1) ls).map duoD
  rw [List.map_append]
theorem zfH (g:Good cs ls):F_al [zaA cs ls]=some (.list ((allW 0 ls).map duoD)):=by
 refine za8 (ρ:=[some (.pub (zaA cs ls))]) rfl ?_
 unfold g_al
 refine zaq (zcU (zat (zab (zad rfl) zaj) rfl (zeE g))) ?_
 have hc:∃ ρ',zcj (gT 2 (gNC (gN 1) (gNC (gN 2) (gN0)))) (zag true) (zaS (dVar 2)) (zcj (gN 3) (zag true) (zaS (dVar 3)) (zb1 (gN 4) (zag true) (mTup (zaf (dVar 1) (zaf (dVar 4) (mNil)))))) (zcN 0 (ls.map zaz)) (zaL [some (.pub (zaA cs ls))] ++ List.replicate 4 none) []=some ((rawW 0 ls).map duoD,ρ'):=by
  have key:=zdL (s:=gT 2 (gNC (gN 1) (gNC (gN 2) (gN0)))) (t:=zag true) (f:=zaS (dVar 2)) (Rd:=zcj (gN 3) (zag true) (zaS (dVar 3)) (zb1 (gN 4) (zag true) (mTup (zaf (dVar 1) (zaf (dVar 4) (mNil))))))
   (fun ρ=>∃ x1 x2 x3 x4,ρ = [some (.pub (zaA cs ls)),x1,x2,x3,x4]) (zcN 0 (ls.map zaz)) ((ls.zipIdx 0).map fun p=>(zeM p.2 p.1).map duoD) (zaL [some (.pub (zaA cs ls))] ++ List.replicate 4 none) [] (by rw [List.length_map,List.length_zipIdx,zbl,List.length_map]) ?_ ⟨none,none,none,none,rfl⟩ (by
    rw [zhm,List.length_map,List.length_nil];have:=zfG g;omega)
  ·obtain ⟨ρ',e,_⟩:=key
   rw [zhm,List.nil_append] at e
   exact ⟨ρ',e⟩
  rintro i d q hd hq ρ es ⟨x1,x2,x3,x4,rfl⟩ hlen
  obtain ⟨z,hz,rfl⟩:=zc3 hd
  rw [List.getElem?_map] at hz
  rw [List.getElem?_map,List.getElem?_zipIdx] at hq
  cases hls:ls[i]? with
  | none=>rw [hls] at hz;cases hz
  | some rs =>
  rw [hls] at hz hq
  cases hz
  cases hq
  rw [Nat.zero_add] at *
  dsimp only at hlen ⊢
  have inner:=zdL (s:=gN 3) (t:=zag true) (f:=zaS (dVar 3)) (Rd:=zb1 (gN 4) (zag true) (mTup (zaf (dVar 1) (zaf (dVar 4) (mNil)))))
   (fun ρ=>∃ x3 x4,ρ = [some (.pub (zaA cs ls)),some (.pub (.int i)),some (.pub (zaz rs)),x3,x4]) (rs.map zbu) (rs.map fun r=>r.map fun t=>duoD ((i:Int),t)) (zaL [some (.pub (zaA cs ls)),some (.pub (.int i)),some (.pub (zaz rs)),x3,x4]) es (by rw [List.length_map,List.length_map]) ?_ ⟨zci x3,zci x4,rfl⟩ ?_
  ·obtain ⟨ρ3,e3,y3,y4,h3⟩:=inner
   have ef:(rs.map fun r=>r.map fun t=>duoD ((i:Int),t)).flatten=(zeM i rs).map duoD:=by
    unfold zeM
    rw [List.map_map,List.map_flatten];rfl
   rw [ef] at e3
   exact ⟨_,_,_,ρ3,tg_T rfl (tg_C (tg_N (of_decide_eq_true rfl) rfl) (tg_C (tg_N (of_decide_eq_true rfl) rfl) tg_0)),rfl,zaT (zad rfl) rfl,e3,_,_,_,_,h3⟩
  ·rintro j d q hd hq ρ es' ⟨y3,y4,rfl⟩ hlen'
   rw [List.getElem?_map] at hd hq
   cases hr:rs[j]? with
   | none=>rw [hr] at hd;cases hd
   | some r =>
   rw [hr] at hd hq
   cases hd
   cases hq
   obtain ⟨ρ3,e3,z4,h3⟩:=ze4 (s:=gN 4) (t:=zag true) (g:=mTup (zaf (dVar 1) (zaf (dVar 4) (mNil)))) (fun ρ=>∃ x4,ρ = [some (.pub (zaA cs ls)),some (.pub (.int i)),some (.pub (zaz rs)),some (.pub (zbu r)),x4]) (r.map PyData.int) (r.map fun t=>duoD ((i:Int),t)) (zaL [some (.pub (zaA cs ls)),some (.pub (.int i)),some (.pub (zaz rs)),some (.pub (zbu r)),y4]) es' (by rw [List.length_map,List.length_map]) (by
    rintro m d e hd he ρ ⟨x4,rfl⟩
    rw [List.getElem?_map] at hd he
    cases hm:r[m]? with
    | none=>rw [hm] at hd;cases hd
    | some t =>
    rw [hm] at hd he
    cases hd
    cases he
    exact ⟨_,tg_N (of_decide_eq_true rfl) rfl,rfl,zcS (zab (zad rfl) (zab (zad rfl) zaj)) (of_decide_eq_true rfl),_,rfl⟩) ⟨zci y4,rfl⟩ (by rw [List.length_map] at hlen' ⊢;exact hlen')
   exact ⟨_,_,_,ρ3,tg_N (of_decide_eq_true rfl) rfl,rfl,zaT (zad rfl) rfl,e3,_,_,h3⟩
  ·have ef:(rs.map fun r=>r.map fun t=>duoD ((i:Int),t)).flatten=(zeM i rs).map duoD:=by
    unfold zeM
    rw [List.map_map,List.map_flatten];rfl
   rw [ef];exact hlen
 obtain ⟨ρ',hc⟩:=hc
 have hs:=zkc (qs:=rawW 0 ls) (by have:=zfG g;omega) (zo0 g)
 rw [ziO g] at hs
 exact zax (zaQ (zab (zaW (zlp (zev (zab (zaV rfl zae zd4) zaj) zdn) hc)) zaj) hs) rfl
end
inductive Ord where | firsts | full | lasts
def Ord.tx:Ord->Str
 | .firsts => "firsts" | .full => "full" | .lasts => "lasts"
def Ord.isF:Ord->Bool
 | .firsts=>true | _=>false
def Ord.isU:Ord->Bool
 | .full=>true | _=>false
theorem zo1 (o:Ord):oEq (.str o.tx) (.str "firsts")=some o.isF:=by cases o <;> decide +kernel
theorem zms (o:Ord):oEq (.str o.tx) (.str "full")=some o.isU:=by cases o <;> decide +kernel
theorem zfI (o:Ord):F_am [.str o.tx]=some (.bool true):=by
 refine za8 (ρ:=[some (.pub (.str o.tx))]) rfl ?_
 unfold g_am
 have h:oIn (.str o.tx) (.tuple ((["firsts", "full", "lasts"]:List Str).map PyData.str))=some true:=by cases o <;> decide +kernel
 exact zax (zb5 (zaW (k:=fun d=>PyData.bool (isTy d "str")) (zad rfl)) (fun _=>zaW (zbj rfl zae h))) rfl
theorem zkQ (o:Ord):F_an [.str o.tx]=some .none:=by
 refine zgh (ρ:=[some (.pub (.str o.tx))]) rfl ?_
 unfold g_an
 apply za7
 case h1=>exact zb2 (zbq (zat (zab (zad rfl) zaj) rfl (zfI o)))
 case h2=>intro h;cases h
 case h3=>exact fun _=>zbs ⟨_,rfl⟩
def oldD:Option (List (Option Int))->D
 | none=>.none
 | some ws=>ziL ws
def aimD (o:Ord) (old:Option (List (Option Int))) (ts:List Int):D:=.tuple [.str o.tx,oldD old,.list (ts.map PyData.int)]
structure zch (n m:Nat) (old:Option (List (Option Int))) (ts:List Int):Prop where
 len:∀ ws,old=some ws->ws.length=m
 old:∀ ws t,old=some ws->some t ∈ ws->0<=t/\t < n
 once:ts.Nodup
 there:∀ a ∈ ts,0<=a/\a < m
theorem zch.few {n m:Nat} {old:Option (List (Option Int))} {ts:List Int} (g:zch n m old ts):ts.length<=m:=zdx m ts g.once g.there
theorem zkR {n m:Nat} {old:Option (List (Option Int))} (h1:∀ ws,old=some ws->ws.length=m) (h2:∀ ws t,old=some ws->some t ∈ ws->0<=t/\t < n) (hm:m<=1000):F_ao [oldD old,.int m,.int n]=some (.bool true):=by
 refine za8 (ρ:=[some (.pub (oldD old)),some (.pub (.int m)),some (.pub (.int n))]) rfl ?_
 unfold g_ao
 apply zaN
 cases old with
 | none =>
  apply za7
  case h1=>exact zaW (zad rfl)
  case h2=>exact fun _=>zax zae (za3 rfl)
  case h3=>intro hh;cases hh
 | some ws =>
  have hl:=h1 ws rfl
  have hlen:oLen [ziL ws]=some (.int m):=by unfold ziL;rw [zaH,List.length_map,hl]
  apply za7
  case h1=>exact zaW (zad rfl)
  case h2=>intro hh;cases hh
  case h3 =>
   intro _
   refine zbs (zau ?_)
   apply zaN
   apply za7
   case h1=>exact zck (ρ1:=[some (.pub (ziL ws)),some (.pub (.int m)),some (.pub (.int n))]) (zbg (zad rfl) rfl) (zam (za2 rfl hlen) (zad rfl) zda)
   case h2=>intro hh;simp at hh
   case h3 =>
    intro _
    refine zbs (zau ?_)
    have hc:zbw (gN 3) (zag true) (mOrV (mMap (fun d=>.bool (isNon d)) (dVar 3)) (dFun 2 F_ad (zaf (dVar 3) (zaf (dVar 2) (mNil))))) (ws.map optD) (zaL [some (.pub (ziL ws)),some (.pub (.int m)),some (.pub (.int n))] ++ List.replicate 1 none) []=some (ws.map fun _=>.bool true):=by
     refine zbI (fun ρ=>∃ x,ρ = [some (.pub (ziL ws)),some (.pub (.int m)),some (.pub (.int n)),x]) _ _ _ _ (by simp only [List.length_map]) ?_ ⟨none,rfl⟩ (by rw [List.length_map,List.length_nil];omega)
     rintro i d e hd he ρ ⟨x,rfl⟩
     rw [List.getElem?_map] at hd he
     cases hw:ws[i]? with
     | none=>rw [hw] at hd;cases hd
     | some o =>
     rw [hw] at hd he
     cases hd
     cases he
     refine ⟨_,tg_N (of_decide_eq_true rfl) rfl,rfl,?_,_,rfl⟩
     cases o with
     | none=>exact zmk (t:=true) (u:=true) (zaW (k:=fun d=>PyData.bool (isNon d)) (x:=.none) (zad rfl)) (fun h=>nomatch h)
     | some t =>
      have hb:=h2 ws t rfl (List.mem_of_getElem? hw)
      exact zmk (t:=false) (u:=true) (zaW (k:=fun d=>PyData.bool (isNon d)) (x:=.int t) (zad rfl)) (fun _=>zat (zab (zad rfl) (zab (zad rfl) zaj)) rfl (zdv hb.1 hb.2))
    exact zax (zaQ (zab (zaW (zbF (zaT (zad rfl) rfl) hc)) zaj) (zdw ws)) rfl
theorem zhn {m:Nat} {ts:List Int} (h1:ts.Nodup) (h2:∀ a ∈ ts,0<=a/\a < m) (hm:m<=1000):F_ap [.list (ts.map PyData.int),.int m]=some (.bool true):=by
 refine za8 (ρ:=[some (.pub (.list (ts.map PyData.int))),some (.pub (.int m))]) rfl ?_
 unfold g_ap
 have hl:=zdx m ts h1 h2
 apply zaN
 have hc:zbw (gN 2) (zag true) (dFun 2 F_ad (zaf (dVar 2) (zaf (dVar 1) (mNil)))) (ts.map PyData.int) (zaL [some (.pub (.list (ts.map PyData.int))),some (.pub (.int m))] ++ List.replicate 1 none) []=some (ts.map fun _=>.bool true):=by
  refine zbI (fun ρ=>∃ x,ρ = [some (.pub (.list (ts.map PyData.int))),some (.pub (.int m)),x]) _ _ _ _ (by simp only [List.length_map]) ?_ ⟨none,rfl⟩ (by rw [List.length_map,List.length_nil];omega)
  rintro i d e hd he ρ ⟨x,rfl⟩
  rw [List.getElem?_map] at hd he
  cases hw:ts[i]? with
  | none=>rw [hw] at hd;cases hd
  | some t =>
  rw [hw] at hd he
  cases hd
  cases he
  have hb:=h2 t (List.mem_of_getElem? hw)
  exact ⟨_,tg_N (of_decide_eq_true rfl) rfl,rfl,zat (zab (zad rfl) (zab (zad rfl) zaj)) rfl (zdv hb.1 hb.2),_,rfl⟩
 apply za7
 case h1=>exact zck (ρ1:=[some (.pub (.list (ts.map PyData.int))),some (.pub (.int m))]) (zbg (zad rfl) rfl) (zb2 (zbq (zaQ (zab (zaW (zbF (zaT (zad rfl) zbz) hc)) zaj) (zdw ts))))
 case h2=>intro hh;cases hh
 case h3 =>
  intro _
  refine zbs (zau ?_)
  have hs:zcE [.list (ts.map PyData.int)]=some (.int ts.length):=by
   unfold zcE
   dsimp only
   rw [zcc]
   dsimp only
   rw [if_pos (by omega),ze2 h1]
  have hlen:oLen [.list (ts.map PyData.int)]=some (.int ts.length):=by rw [zaH,List.length_map]
  refine zax (zaW (zam (zaQ (zab (zad rfl) zaj) hs) (za2 rfl hlen) zce)) ?_
  simp
section
variable {cs:List Int} {ls:List (List (List Int))} {o:Ord} {old:Option (List (Option Int))} {ts:List Int}
theorem zo2 (g:Good cs ls) (ga:zch cs.length ls.length old ts):F_aq [zaA cs ls,aimD o old ts]=some .none:=by
 refine zgh (ρ:=[some (.pub (zaA cs ls)),some (.pub (aimD o old ts)),none,none,none,none,none]) rfl ?_
 unfold g_aq
 have l7:=g.l7;have c6:=g.c6
 have hll:oLen [.list (ls.map zaz)]=some (.int ls.length):=by rw [zaH,List.length_map]
 have hlc:oLen [.list (cs.map PyData.int)]=some (.int cs.length):=by rw [zaH,List.length_map]
 refine zaq (zcU (zat (zab (zad rfl) zaj) rfl (zeE g))) ?_
 apply zaN
 apply za7
 case h1=>exact zck (ρ1:=[some (.pub (zaA cs ls)),some (.pub (aimD o old ts)),none,none,none,none,none]) (zbg (zad rfl) rfl) (zam (za2 rfl (show oLen [aimD o old ts]=some (.int 3) from rfl)) zae zda)
 case h2=>intro hh;simp at hh
 case h3 =>
  intro _
  refine zbs (zau ?_)
  refine zaq (zdo (zad rfl) (tg_T rfl (tg_C (tg_N (of_decide_eq_true rfl) rfl) (tg_C (tg_N (of_decide_eq_true rfl) rfl) tg_0)))) ?_
  refine zaq (zdo (zad rfl) (tg_T rfl (tg_C (tg_N (of_decide_eq_true rfl) rfl) (tg_C (tg_N (of_decide_eq_true rfl) rfl) (tg_C (tg_N (of_decide_eq_true rfl) rfl) tg_0))))) ?_
  refine zaq (zcU (zat (zab (zad rfl) zaj) rfl (zkQ o))) ?_
  apply zaN
  apply za7
  case h1=>exact zb2 (zbq (zat (zab (zad rfl) (zab (za2 rfl hll) (zab (za2 rfl hlc) zaj))) rfl (zkR ga.len ga.old (by omega))))
  case h2=>intro hh;cases hh
  case h3 =>
   intro _
   refine zbs (zau ?_)
   apply za7
   case h1=>exact zb2 (zbq (zat (zab (zad rfl) (zab (za2 rfl hll) zaj)) rfl (zhn ga.once ga.there (by omega))))
   case h2=>intro hh;cases hh
   case h3=>exact fun _=>zbs ⟨_,rfl⟩
end
theorem zho {t:Int} {r:List Int}:oIn (.int t) (.list (r.map PyData.int))=some (r.contains t):=zhk t r
theorem ze5 {c s w sz dg x6:Option Sl} {m:Nat} {T:List Int} (hm:0 < m):∀ (k fuel d:Nat),(∀ j,j < k->(((d+j) % m:Nat):Int) ∈ T)->(((d+k) % m:Nat):Int) ∉ T->d < m->k < fuel ->
  zc8 (ziF oIn (dVar 8) 7) zfx fuel [w,c,s,some (.pub (.int m)),sz,dg,x6,some (.own (T.map PyData.int)),some (.pub (.int d))]=.nx [w,c,s,some (.pub (.int m)),sz,dg,x6,some (.own (T.map PyData.int)),some (.pub (.int (((d+k) % m:Nat):Int)))]
 | 0,fuel+1,d,_,hn,hd,_=>by
  have e0:(d+0) % m=d:=by rw [Nat.add_zero];exact Nat.mod_eq_of_lt hd
  rw [e0] at hn ⊢
  have e:(T.contains (d:Int))=false:=by simpa using hn
  rw [zc8,zhX (r:=false) (zad rfl) rfl (by rw [zho,e])]
  rfl
 | k+1,fuel+1,d,hj,hn,hd,hf=>by
  have h0:=hj 0 (by omega)
  rw [Nat.add_zero,Nat.mod_eq_of_lt hd] at h0
  have e:(T.contains (d:Int))=true:=by simpa using h0
  rw [zc8,zhX (r:=true) (zad rfl) rfl (by rw [zho,e])]
  dsimp only
  rw [if_pos rfl]
  have hst:zfx [w,c,s,some (.pub (.int m)),sz,dg,x6,some (.own (T.map PyData.int)),some (.pub (.int d))]=.nx [w,c,s,some (.pub (.int m)),sz,dg,x6,some (.own (T.map PyData.int)),some (.pub (.int (((d+1) % m:Nat):Int)))]:=by
   unfold zfx
   refine zaM (zam (zam (zad rfl) zae zaw) (zad rfl) (zg4 (by omega))) (of_decide_eq_true rfl) ?_
   have e1:((d+1:Nat):Int)=(d:Int)+1:=by omega
   have:((d:Int)+1) % (m:Int)=(((d+1) % m:Nat):Int):=by rw [Int.natCast_emod,e1]
   rw [this];rfl
  rw [hst]
  dsimp only
  have e2:∀ j,((d+1) % m+j) % m=(d+(j+1)) % m:=fun j=>by rw [Nat.mod_add_mod];congr 1;omega
  have:=ze5 (c:=c) (s:=s) (w:=w) (sz:=sz) (dg:=dg) (x6:=x6) (T:=T) hm k fuel ((d+1) % m) (fun j hjk=>by rw [e2];exact hj (j+1) (by omega)) (by rw [e2];exact hn) (Nat.mod_lt _ hm) (by omega)
  rw [e2] at this
  exact this
theorem zgC:∀ (a b:List Int),a.Nodup->(∀ x ∈ a,x ∈ b)->a.length<=b.length
 | [],_,_,_=>Nat.zero_le _
 | x :: a,b,hn,h=>by
  have hx:=h x List.mem_cons_self
  have hn':=List.nodup_cons.mp hn
  have:=zgC a (b.erase x) hn'.2 fun y hy=>by
   have hne:y ≠ x:=fun e=>hn'.1 (e ▸ hy)
   exact (List.mem_erase_of_ne hne).mpr (h y (List.mem_cons_of_mem _ hy))
  rw [List.length_erase_of_mem hx] at this
  have hp:=List.length_pos_of_mem hx
  rw [List.length_cons]
  omega
theorem ziP {m:Nat} {T:List Int} (d:Nat) (hl:T.length < m) (hn:T.Nodup):∃ k,k < m/\(∀ j,j < k->(((d+j) % m:Nat):Int) ∈ T)/\(((d+k) % m:Nat):Int) ∉ T:=by
 have ex:∃ k,k < m/\(((d+k) % m:Nat):Int) ∉ T:=by
  refine Classical.byContradiction fun hno=>?_
  have all:∀ k,k < m->(((d+k) % m:Nat):Int) ∈ T:=fun k hk=>Classical.byContradiction fun z=>hno ⟨k,hk,z⟩
  have hsub:∀ x:Nat,x < m->((x:Nat):Int) ∈ T:=fun x hx=>by
   have h1:=all ((x+m - d % m) % m) (Nat.mod_lt _ (by omega))
   have e:(d+(x+m - d % m) % m) % m=x:=by
    have hdm:d % m < m:=Nat.mod_lt _ (by omega)
    rw [Nat.add_mod_mod,← Nat.mod_add_mod]
    rw [show d % m+(x+m - d % m)=x+m by omega,Nat.add_mod_right,Nat.mod_eq_of_lt hx]
   rw [e] at h1
   exact h1
  have:=zgC ((List.range m).map fun x:Nat=>(x:Int)) T (List.Pairwise.map _ (fun a b h e=>h (by omega)) List.nodup_range) (fun t ht=>by
   obtain ⟨x,hx,rfl⟩:=List.mem_map.mp ht
   exact hsub x (List.mem_range.mp hx))
  rw [List.length_map,List.length_range] at this
  omega
 obtain ⟨k,hk,hkn⟩:=ex
 induction k using Nat.strongRecOn with
 | _ k ih =>
  by_cases h:∀ j,j < k->(((d+j) % m:Nat):Int) ∈ T
  ·exact ⟨k,hk,h,hkn⟩
  ·obtain ⟨j,hj⟩:=Classical.not_forall.mp h
   obtain ⟨hj1,hj2⟩:=Classical.not_imp.mp hj
   exact ih j hj1 (by omega) hj2
theorem zgD {x:D} {m:Nat} (h:m<=1000):oMul (.list [x]) (.int m)=some (.list (List.replicate m x)):=by
 rw [zeU ⟨by omega,by omega,by show 1 * _<=_;omega⟩]
 congr 2
 rw [Int.toNat_natCast]
 clear h
 induction m with
 | zero=>rfl
 | succ n ih=>rw [List.replicate_succ,List.flatten_cons,ih,List.replicate_succ];rfl
def szA (n m:Nat):List Int:=[3,2,(m:Int)+1] ++ List.replicate m ((n:Int)+1) ++ List.replicate m (m:Int)
theorem zkS (n m:Nat):(szA n m).length=3+m+m:=by unfold szA;rw [List.length_append,List.length_append,List.length_replicate,List.length_replicate];rfl
theorem znz {n m j:Nat} (h:j < m):(szA n m)[3+j]?=some ((n:Int)+1):=by
 unfold szA
 rw [List.getElem?_append_left (by rw [List.length_append,List.length_replicate];show 3+j < 3+m;omega),List.getElem?_append_right (by show 3<=3+j;omega)]
 show (List.replicate m ((n:Int)+1))[3+j - 3]?=_
 rw [Nat.add_sub_cancel_left,List.getElem?_replicate,if_pos h]
theorem zlS {n m j:Nat} (h:j < m):(szA n m)[3+m+j]?=some (m:Int):=by
 unfold szA
 have e:([3,2,(m:Int)+1] ++ List.replicate m ((n:Int)+1)).length=3+m:=by rw [List.length_append,List.length_replicate];rfl
 rw [List.getElem?_append_right (by rw [e];omega),e,Nat.add_sub_cancel_left,List.getElem?_replicate,if_pos h]
section
variable {cs:List Int} {ls:List (List (List Int))}
def zkT (d:Int):Option Int:=if 0 < d then some (d - 1) else none
theorem zlT (d:Int):oIx (.list [.none,.int (d - 1)]) (.int (if decide (0 < d)=true then 1 else 0))=some (optD (zkT d)):=by
 unfold zkT
 by_cases h:0 < d
 ·rw [decide_eq_true h,if_pos rfl,if_pos h];exact za1 (j:=1) rfl
 ·rw [decide_eq_false h,if_neg (by decide),if_neg h];exact za1 (j:=0) rfl
theorem zlU (g:Good cs ls) (c s:Int):∃ r,F_bf [zaA cs ls,.int c,.int s]=some r/\∃ o old ts,r=aimD o old ts/\zch cs.length ls.length old ts:=by
 refine zeV (ρ:=[some (.pub (zaA cs ls)),some (.pub (.int c)),some (.pub (.int s)),none,none,none,none,none,none]) rfl ?_
 unfold g_bf
 have l7:=g.l7;have l1:=g.l1;have c6:=g.c6;have c1:=g.c1
 have hll:oLen [.list (ls.map zaz)]=some (.int ls.length):=by rw [zaH,List.length_map]
 have hlc:oLen [.list (cs.map PyData.int)]=some (.int cs.length):=by rw [zaH,List.length_map]
 generalize hm:ls.length=m at *
 generalize hn:cs.length=n at *
 refine zaq (zaM (zaQ (zab (zaV rfl zae zd4) zaj) hll) (of_decide_eq_true rfl) rfl) ?_
 have s1:oAdd (.list [.int 3,.int 2,.int ((m:Int)+1)]) (.list (List.replicate m (.int ((n:Int)+1))))=some (.list (([3,2,(m:Int)+1] ++ List.replicate m ((n:Int)+1)).map PyData.int)):=by
  rw [zbU (by rw [List.length_replicate];show 3+m<=_;omega),List.map_append,List.map_replicate];rfl
 refine zaq (zaM (zam (zbt (zab zae (zab zae (zab (zam (zad rfl) zae zaw) zaj))) (of_decide_eq_true rfl)) (zam (zbt (zab (zam (zaQ (zab (zaV rfl zae ziM) zaj) hlc) zae zaw) zaj) (of_decide_eq_true rfl)) (zad rfl) (zgD (by omega))) s1) (of_decide_eq_true rfl) rfl) ?_
 have s2:oAdd (.list (([3,2,(m:Int)+1] ++ List.replicate m ((n:Int)+1)).map PyData.int)) (.list (List.replicate m (.int (m:Int))))=some (.list ((szA n m).map PyData.int)):=by
  rw [zbU (by rw [List.length_map,List.length_append,List.length_replicate,List.length_replicate];show 3+m+m<=_;omega)]
  unfold szA
  rw [List.map_append (l₂:=List.replicate m (m:Int)),List.map_replicate (n:=m) (a:=(m:Int))]
 obtain ⟨r,hF,dg,rfl,hdl,hdb⟩:=zcm c s (sizes:=szA n m) (fun x hx=>by
  unfold szA at hx
  rcases List.mem_append.mp hx with hx | hx
  ·rcases List.mem_append.mp hx with hx | hx
   ·have hx:x=3 ∨ x=2 ∨ x=(m:Int)+1:=by simpa using hx
    omega
   ·rw [(List.mem_replicate.mp hx).2];omega
  ·rw [(List.mem_replicate.mp hx).2];omega) (by rw [zkS];omega)
 rw [zkS] at hdl
 refine zaq (zaM (zat (zab (zad rfl) (zab (zad rfl) (zab (zam (zad rfl) (zam (zbt (zab (zad rfl) zaj) (of_decide_eq_true rfl)) (zad rfl) (zgD (by omega))) s2) zaj))) rfl hF) (of_decide_eq_true rfl) rfl) ?_
 have get:∀ j,j < 3+m+m->∃ d,dg[j]?=some d:=fun j hj=>⟨dg[j]'(by omega),List.getElem?_eq_getElem _⟩
 obtain ⟨d0,e0⟩:=get 0 (by omega)
 obtain ⟨d1,e1⟩:=get 1 (by omega)
 obtain ⟨d2,e2⟩:=get 2 (by omega)
 have b0:=hdb 0 d0 3 e0 rfl
 have b1:=hdb 1 d1 2 e1 rfl
 have b2:=hdb 2 d2 ((m:Int)+1) e2 rfl
 have i0:oIx (.list (dg.map PyData.int)) (.int 0)=some (.int d0):=za1 (j:=0) (by rw [List.getElem?_map,e0];rfl)
 have i1:oIx (.list (dg.map PyData.int)) (.int 1)=some (.int d1):=za1 (j:=1) (by rw [List.getElem?_map,e1];rfl)
 have i2:oIx (.list (dg.map PyData.int)) (.int 2)=some (.int d2):=za1 (j:=2) (by rw [List.getElem?_map,e2];rfl)
 refine zaq (zaM zae (of_decide_eq_true rfl) rfl) ?_
 let ol:List Int:=(dg.drop 3).take m
 have oll:ol.length=m:=by show ((dg.drop 3).take m).length=m;rw [List.length_take,List.length_drop];omega
 have olb:∀ d ∈ ol,0<=d/\d < (n:Int)+1:=fun d hd=>by
  obtain ⟨j,hj,e⟩:=List.mem_iff_getElem.mp hd
  have hjm:j < m:=by omega
  refine hdb (3+j) d _ ?_ (znz hjm)
  have:ol[j]?=some d:=by rw [List.getElem?_eq_getElem hj,e]
  show dg[3+j]?=_
  rw [← this]
  show _=((dg.drop 3).take m)[j]?
  rw [List.getElem?_take,if_pos hjm,List.getElem?_drop]
 have hcut:DL.cutD (dg.map PyData.int) (some 3) (some (3+(m:Int)))=ol.map PyData.int:=by
  rw [zfp (by decide) (by omega) (by omega)]
  have t1:(3:Int).toNat=3:=rfl
  have t2:(3+(m:Int)).toNat - (3:Int).toNat=m:=by omega
  rw [t2,t1]
 have step:Ho (sIf (dBin oEq (dIxN 5 (zag (.int 1))) (zag (.int 1))) (zb4 6 (zcr (zaS (dSlA (dVar 5) (zav (zag (.int 3)) fun x=>mOpt (zel x)) (zav (dBin oAdd (zag (.int 3)) (dVar 3)) fun x=>mOpt (zel x)))) 1 (gN 9) (zag true) (dBin oIx (mLst (zaf (zag .none) (zaf (dBin oSub (dVar 9) (zag (.int 1))) (mNil)))) (zbe zjM (zaf (mMap PyData.bool (zbQ (oIB fun i j=>decide (j < i)) 9 (zag (.int 0)))) (mNil)))))) (sNx))
   [some (.pub (zaA cs ls)),some (.pub (.int c)),some (.pub (.int s)),some (.pub (.int m)),some (.pub (.list (([3,2,(m:Int)+1] ++ List.replicate m ((n:Int)+1)).map PyData.int))),some (.pub (.list (dg.map PyData.int))),some (.pub .none),none,none]
   (fun r=>∃ old x6,r=.nx [some (.pub (zaA cs ls)),some (.pub (.int c)),some (.pub (.int s)),some (.pub (.int m)),some (.pub (.list (([3,2,(m:Int)+1] ++ List.replicate m ((n:Int)+1)).map PyData.int))),some (.pub (.list (dg.map PyData.int))),x6,none,none] /\
    (x6=some (.pub (oldD old)) ∨ ∃ ws,old=some ws/\x6=some (.own (ws.map optD)))/\(∀ ws,old=some ws->ws.length=m)/\∀ ws t,old=some ws->some t ∈ ws->0<=t/\t < n):=by
  have hc:∀ a b:Option Sl,zbw (gN 9) (zag true) (dBin oIx (mLst (zaf (zag .none) (zaf (dBin oSub (dVar 9) (zag (.int 1))) (mNil)))) (zbe zjM (zaf (mMap PyData.bool (zbQ (oIB fun i j=>decide (j < i)) 9 (zag (.int 0)))) (mNil)))) (ol.map PyData.int) (zaL [some (.pub (zaA cs ls)),some (.pub (.int c)),some (.pub (.int s)),some (.pub (.int m)),some (.pub (.list (([3,2,(m:Int)+1] ++ List.replicate m ((n:Int)+1)).map PyData.int))),some (.pub (.list (dg.map PyData.int))),some (.pub .none),none,none] ++ List.replicate 1 none) []=some ((ol.map zkT).map optD):=fun _ _=>by
   refine zbI (fun ρ=>∃ x,ρ = [some (.pub (zaA cs ls)),some (.pub (.int c)),some (.pub (.int s)),some (.pub (.int m)),some (.pub (.list (([3,2,(m:Int)+1] ++ List.replicate m ((n:Int)+1)).map PyData.int))),some (.pub (.list (dg.map PyData.int))),some (.pub .none),none,none,x]) _ _ _ _ (by simp only [List.length_map]) ?_ ⟨none,rfl⟩ (by rw [List.length_map,List.length_nil];omega)
   rintro i d e hd he ρ ⟨x,rfl⟩
   rw [List.getElem?_map] at hd
   rw [List.getElem?_map,List.getElem?_map] at he
   cases hw:ol[i]? with
   | none=>rw [hw] at hd;cases hd
   | some z =>
   rw [hw] at hd he
   cases hd
   cases he
   exact ⟨_,tg_N (of_decide_eq_true rfl) rfl,rfl,zam (zbt (zab zae (zab (zam (zad rfl) zae zbd) zaj)) (of_decide_eq_true rfl)) (zaQ (zab (zaW (zbj rfl zae rfl)) zaj) rfl) (zlT z),_,rfl⟩
  apply za7
  case h1=>exact zam (zaV rfl zae i1) zae zce
  case h2 =>
   intro _
   refine zbr (zbV (zbF (zaT (zhL (zad rfl) (zcT zae) (zcT (zam zae (zad rfl) zaw)) (by rw [zd9,hcut])) zbz) (hc none none)) (of_decide_eq_true rfl) rfl) ?_
   refine ⟨some (ol.map zkT),_,rfl,.inr ⟨_,rfl,rfl⟩,fun ws e=>?_,fun ws t e ht=>?_⟩
   ·cases e;rw [List.length_map];exact oll
   ·cases e
    obtain ⟨d,hd,e⟩:=List.mem_map.mp ht
    have:=olb d hd
    unfold zkT at e
    split at e
    ·cases e;omega
    ·cases e
  case h3=>exact fun _=>zbs ⟨none,_,rfl,.inl rfl,(fun ws e=>by cases e),(fun ws t e=>by cases e)⟩
 refine zaN (zj4 step fun r hr=>?_)
 obtain ⟨old,x6,rfl,hx6,hol,hob⟩:=hr
 refine zau ?_
 refine zaq (zbV (zcF zaj (of_decide_eq_true rfl)) (of_decide_eq_true rfl) rfl) ?_
 obtain ⟨k2,rfl⟩:∃ k:Nat,d2=k:=⟨d2.toNat,by omega⟩
 let tl:List Int:=(dg.drop (3+m)).take k2
 have tll:tl.length=k2:=by show ((dg.drop (3+m)).take k2).length=k2;rw [List.length_take,List.length_drop];omega
 have tlb:∀ j d,tl[j]?=some d->0<=d/\d < (m:Int):=fun j d hj=>by
  have hjl:j < k2:=by have:=(List.getElem?_eq_some_iff.mp hj).1;omega
  refine hdb (3+m+j) d _ ?_ (zlS (by omega))
  rw [← hj]
  show _=((dg.drop (3+m)).take k2)[j]?
  rw [List.getElem?_take,if_pos hjl,List.getElem?_drop]
 have hcut2:DL.cutD (dg.map PyData.int) (some (3+(m:Int))) (some (3+(m:Int)+(k2:Int)))=tl.map PyData.int:=by
  rw [zfp (by omega) (by omega) (by omega)]
  have t1:(3+(m:Int)).toNat=3+m:=by omega
  have t2:(3+(m:Int)+(k2:Int)).toNat - (3+(m:Int)).toNat=k2:=by omega
  rw [t2,t1]
 apply zaN
 apply zbW (fun i ρ=>∃ (T:List Int) (x8:Option Sl),ρ = [some (.pub (zaA cs ls)),some (.pub (.int c)),some (.pub (.int s)),some (.pub (.int m)),some (.pub (.list (([3,2,(m:Int)+1] ++ List.replicate m ((n:Int)+1)).map PyData.int))),some (.pub (.list (dg.map PyData.int))),x6,some (.own (T.map PyData.int)),x8]/\T.length=i/\T.Nodup/\∀ a ∈ T,0<=a/\a < (m:Int))
 case h1=>exact zaT (zhL (zad rfl) (zcT (zam zae (zad rfl) zaw)) (zcT (zam (zam zae (zad rfl) zaw) (zaV rfl zae i2) zaw)) (by rw [zd9,hcut2])) zbz
 case h0=>exact ⟨[],_,rfl,rfl,List.nodup_nil,fun _ h=>by cases h⟩
 case hst =>
  rintro i d ρ hi ⟨T,x8,rfl,hT,hTn,hTb⟩
  rw [List.getElem?_map] at hi
  cases hw:tl[i]? with
  | none=>rw [hw] at hi;cases hi
  | some z =>
  rw [hw] at hi
  cases hi
  have hz:=tlb i z hw
  have hil:i < k2:=by have:=(List.getElem?_eq_some_iff.mp hw).1;omega
  obtain ⟨zz,rfl⟩:∃ k:Nat,z=k:=⟨z.toNat,by omega⟩
  refine ⟨_,tg_N (of_decide_eq_true rfl) (by walk_at "set"),?_⟩
  unfold zky
  obtain ⟨k,hk,hk1,hk2⟩:=ziP (m:=m) (T:=T) zz (by omega) hTn
  refine zaq (ze5 (by omega) k 1000 zz hk1 hk2 (by omega) (by omega)) ?_
  refine zbr (zdU rfl (zad rfl) rfl (by rw [List.length_map];omega) rfl) ?_
  refine zbc ⟨T ++ [(((zz+k) % m:Nat):Int)],_,by rw [List.map_append (l₁:=T) (f:=PyData.int)];rfl,by rw [List.length_append,hT];rfl,?_,fun a ha=>?_⟩
  ·refine List.nodup_append.mpr ⟨hTn,List.nodup_cons.mpr ⟨(by simp),List.nodup_nil⟩,fun a ha b hb e=>?_⟩
   rw [List.mem_singleton.mp hb] at e
   exact hk2 (e ▸ ha)
  ·rcases List.mem_append.mp ha with h | h
   ·exact hTb a h
   ·rw [List.mem_singleton.mp h]
    have:=Nat.mod_lt (zz+k) (show 0 < m by omega)
    exact ⟨by omega,by omega⟩
 case hend =>
  rintro ρ ⟨T,x8,rfl,hT,hTn,hTb⟩
  refine zau ?_
  obtain ⟨o,ho⟩:∃ o:Ord,oIx (.list [.str "firsts", .str "full", .str "lasts"]) (.int d0)=some (.str o.tx):=by
   have:d0=0 ∨ d0=1 ∨ d0=2:=by omega
   rcases this with rfl | rfl | rfl
   ·exact ⟨.firsts,za1 (j:=0) rfl⟩
   ·exact ⟨.full,za1 (j:=1) rfl⟩
   ·exact ⟨.lasts,za1 (j:=2) rfl⟩
  have ga:zch n m old T:=⟨hol,hob,hTn,hTb⟩
  rcases hx6 with rfl | ⟨ws,rfl,rfl⟩
  ·exact zax (zcS (zab (zam (zbt (zab zae (zab zae (zab zae zaj))) (of_decide_eq_true rfl)) (zaV rfl zae i0) ho) (zab (zad rfl) (zab (zbE rfl rfl) zaj))) (of_decide_eq_true rfl)) ⟨_,rfl,o,_,T,rfl,ga⟩
  ·exact zax (zcS (zab (zam (zbt (zab zae (zab zae (zab zae zaj))) (of_decide_eq_true rfl)) (zaV rfl zae i0) ho) (zab (zbE rfl rfl) (zab (zbE rfl rfl) zaj))) (of_decide_eq_true rfl)) ⟨_,rfl,o,some ws,T,rfl,ga⟩
end
theorem znA {op:Int->Int->Option D} {j:Nat} {f:M D} {ρ ρ1 ρ':DEnv} {a b:Int} {d:D} (h0 : ρ[j]?=some (some (.pub (.int a)))) (h1:f ρ = .ok (.int b) ρ1) (h2:op a b=some d) (h3:j < ρ1.length) (h4 : ρ1.set j (some (.pub d)) = ρ'):sAug op j f ρ = .nx ρ':=by
 unfold sAug
 rw [h0]
 dsimp only [sB]
 rw [h1]
 dsimp only
 rw [h2]
 dsimp only
 rw [if_pos h3,h4]
theorem mulN {i j:Int} (h : -1000 < j/\j < 1000):gMul i j=some (.int (i * j)):=by unfold gMul;exact if_pos (.inr ⟨by omega,by omega⟩)
theorem zdy {b n:Int} (hb : -1000 < b/\b < 1000) (hn : -1000<=n/\n<=1000):F_ar [.int b,.int n]=some (.int (b ^ n.toNat)):=by
 refine za8 (ρ:=[some (.pub (.int b)),some (.pub (.int n)),none,none]) rfl ?_
 unfold g_ar
 refine zaq (zaM zae (of_decide_eq_true rfl) rfl) ?_
 apply zaN
 apply zbW (fun i ρ=>∃ x3,ρ = [some (.pub (.int b)),some (.pub (.int n)),some (.pub (.int (b ^ i))),x3])
 case h1=>exact zct (zab (zad rfl) zaj) (zb0 (by omega) (by omega))
 case h0=>exact ⟨_,by rw [Int.pow_zero];rfl⟩
 case hst =>
  rintro i d ρ hi ⟨x3,rfl⟩
  refine ⟨_,tg_N (of_decide_eq_true rfl) (by walk_at "set"),?_⟩
  unfold zkq
  refine zbr (znA rfl (zad rfl) (mulN hb) (of_decide_eq_true rfl) rfl) ?_
  exact zbc ⟨_,by rw [Int.pow_succ];rfl⟩
 case hend =>
  rintro ρ ⟨x3,rfl⟩
  refine zau (zax (zad rfl) ?_)
  rw [zaX]
  congr 4
  omega
def ordW:Ord->Int->Int->Int->Int
 | .firsts,b,M,r=>b ^ (M - r).toNat
 | .full,b,M,r=>b ^ M.toNat+b ^ (M - r).toNat
 | .lasts,b,M,r=>b ^ M.toNat - b ^ (r - 1).toNat
theorem zhp (o:Ord) {b M r:Int} (hb : -1000 < b/\b < 1000) (hM:0<=M/\M<=100) (hr:0<=r/\r<=100):F_as [.str o.tx,.int b,.int M,.int r]=some (.int (ordW o b M r)):=by
 refine za8 (ρ:=[some (.pub (.str o.tx)),some (.pub (.int b)),some (.pub (.int M)),some (.pub (.int r))]) rfl ?_
 unfold g_as
 have p1:F_ar [.int b,.int (M - r)]=some (.int (b ^ (M - r).toNat)):=zdy hb ⟨by omega,by omega⟩
 have p2:F_ar [.int b,.int M]=some (.int (b ^ M.toNat)):=zdy hb ⟨by omega,by omega⟩
 have p3:F_ar [.int b,.int (r - 1)]=some (.int (b ^ (r - 1).toNat)):=zdy hb ⟨by omega,by omega⟩
 apply zaN
 apply za7
 case h1=>exact zbj rfl zae (zo1 o)
 case h2 =>
  intro h
  cases o with
  | firsts=>exact zax (zat (zab (zad rfl) (zab (zam (zad rfl) (zad rfl) zbd) zaj)) rfl p1) (za3 rfl)
  | full=>cases h
  | lasts=>cases h
 case h3 =>
  intro h
  refine zbs (zau ?_)
  apply zaN
  apply za7
  case h1=>exact zbj rfl zae (zms o)
  case h2 =>
   intro h'
   cases o with
   | full=>exact zax (zam (zat (zab (zad rfl) (zab (zad rfl) zaj)) rfl p2) (zat (zab (zad rfl) (zab (zam (zad rfl) (zad rfl) zbd) zaj)) rfl p1) zaw) (za3 rfl)
   | firsts=>cases h
   | lasts=>cases h'
  case h3 =>
   intro h'
   refine zbs (zau ?_)
   cases o with
   | firsts=>cases h
   | full=>cases h'
   | lasts=>exact zax (zam (zat (zab (zad rfl) (zab (zad rfl) zaj)) rfl p2) (zat (zab (zad rfl) (zab (zam (zad rfl) zae zbd) zaj)) rfl p3) zbd) rfl
def zdz (ts:List Int) (b i r:Int):Int:=if i ∈ ts then (b - r) * b ^ (ts.length - 1 - ts.idxOf i) else 0
theorem zdX {n:Nat}:∀ {xs:List D},(∀ x ∈ xs,PyData.weight x<=n)->PyData.weightAll xs<=xs.length * (n+1)
 | [],_=>by simp [PyData.weightAll]
 | x :: xs,h=>by
  have h1:=h x List.mem_cons_self
  have h2:=zdX (xs:=xs) fun y hy=>h y (List.mem_cons_of_mem _ hy)
  rw [PyData.weightAll,List.length_cons,Nat.succ_mul]
  omega
theorem ziQ {i:Int} (h:0<=i/\i < 1000):(PyData.int i).weight<=10:=by
 simp only [PyData.weight]
 split
 ·omega
 ·rename_i hne
  have h0:i.natAbs ≠ 0:=by intro e;exact hne (by simpa using e)
  have:=(Nat.log2_lt h0 (k:=10)).mpr (by omega)
  omega
theorem zgE {ts:List Int} (h:∀ a ∈ ts,0<=a/\a < 1000) (hl:ts.length<=1000):PyData.layable0 (.list (ts.map PyData.int))=true:=by
 unfold PyData.layable0
 have h1:(PyData.list (ts.map PyData.int)).canLay0=true:=zcw fun x hx=>by obtain ⟨y,_,rfl⟩:=List.mem_map.mp hx;rfl
 have h2:(PyData.list (ts.map PyData.int)).depth<=64:=Nat.le_trans (zfB (n:=1) (zcx fun x hx=>by obtain ⟨y,_,rfl⟩:=List.mem_map.mp hx;exact zkF y)) (by decide)
 have h3:(PyData.list (ts.map PyData.int)).weight<=2 ^ 20:=by
  have:=zdX (n:=10) (xs:=ts.map PyData.int) fun x hx=>by obtain ⟨y,hy,rfl⟩:=List.mem_map.mp hx;exact ziQ (h y hy)
  rw [List.length_map] at this
  simp only [PyData.weight]
  omega
 rw [h1,decide_eq_true h2,decide_eq_true h3]
 rfl
theorem zlV {ts:List Int} {k:Int} (hb:∀ a ∈ ts,0<=a/\a < 1000) (hl:ts.length<=1000) (h:k ∈ ts):zdH (.list (ts.map PyData.int)) [.int k]=some (.int (ts.idxOf k:Nat)):=by
 unfold zdH
 dsimp only
 rw [zcc]
 dsimp only
 exact if_pos ⟨zgE hb hl,h⟩
theorem zlW {t:Int} {r:List Int}:oNin (.int t) (.list (r.map PyData.int))=some (!r.contains t):=by
 unfold oNin
 rw [zho]
 rfl
theorem zhq {ts:List Int} {b i r:Int} (hb : -1000 < b/\b < 1000) (hr : -1000 < r/\r < 1000) (hl:ts.length<=100) (ht:∀ a ∈ ts,0<=a/\a < 1000):F_at [.list (ts.map PyData.int),.int b,.int i,.int r]=some (.int (zdz ts b i r)):=by
 refine za8 (ρ:=[some (.pub (.list (ts.map PyData.int))),some (.pub (.int b)),some (.pub (.int i)),some (.pub (.int r)),none]) rfl ?_
 unfold g_at zdz
 apply zaN
 apply za7
 case h1=>exact zbj rfl (zad rfl) zlW
 case h2 =>
  intro h
  have : ¬ i ∈ ts:=by simpa using h
  rw [if_neg this]
  exact zax zae (za3 rfl)
 case h3 =>
  intro h
  have hm:i ∈ ts:=by simpa using h
  rw [if_pos hm]
  refine zbs (zau ?_)
  have hi:=List.idxOf_lt_length_of_mem hm
  have hlen:oLen [.list (ts.map PyData.int)]=some (.int ts.length):=by rw [zaH,List.length_map]
  refine zaq (zaM (zam (zam (za2 rfl hlen) zae zbd) (zhQ (zad rfl) (zab (zad rfl) zaj) (zlV ht (by omega) hm)) zbd) (of_decide_eq_true rfl) rfl) ?_
  have hp:=zdy (b:=b) (n:=(ts.length:Int) - 1 - (ts.idxOf i:Nat)) hb ⟨by omega,by omega⟩
  have e:((ts.length:Int) - 1 - (ts.idxOf i:Nat)).toNat=ts.length - 1 - ts.idxOf i:=by omega
  rw [e] at hp
  exact zax (zam (zam (zad rfl) (zad rfl) zbd) (zat (zab (zad rfl) (zab (zad rfl) zaj)) rfl hp) (zcG (by omega) (by omega))) rfl
def zcW (old:Option (List (Option Int))) (i:Nat) (t:Int):Int:=match old with
 | none=>0
 | some ws=>if ws[i]?=some (some t) then 1 else 0
section
variable {cs:List Int} {ls:List (List (List Int))} {o:Ord} {old:Option (List (Option Int))} {ts:List Int}
def worW (ls:List (List (List Int))) (o:Ord) (old:Option (List (Option Int))) (ts:List Int) (i:Nat) (rs:List (List Int)) (t:Int):Int :=
 (ordW o (ls.length+1) (lng ls) (za6 t rs) * (ls.length+1)+zcW old i t) * ((lng ls:Int)+1) ^ ts.length+zdz ts (lng ls+1) i (za6 t rs)
theorem zgF {b:Int} (h0:0<=b) (h:b<=8):∀ {n k:Nat},n<=k->b ^ n<=8 ^ k:=fun {n k} hk=>by
 have e:b=((b.toNat:Nat):Int):=by omega
 rw [e]
 have h1:b.toNat ^ n<=8 ^ n:=Nat.pow_le_pow_left (by omega) n
 have h2:8 ^ n<=8 ^ k:=Nat.pow_le_pow_right (by omega) hk
 have h3:((b.toNat ^ n:Nat):Int)<=((8 ^ k:Nat):Int):=by omega
 rw [Int.natCast_pow,Int.natCast_pow] at h3
 exact h3
theorem zkU (g:Good cs ls) (ga:zch cs.length ls.length old ts) {i:Nat} {rs:List (List Int)} (hi:ls[i]?=some rs) (t:Int):F_au [zaA cs ls,aimD o old ts,.int (lng ls:Nat),.int i,.int t]=some (.int (worW ls o old ts i rs t)):=by
 have l7:=g.l7;have l1:=g.l1
 have hL:lng ls<=5:=zkP l1 fun rs h=>(g.rk rs h).few
 have hrk:za6 t rs<=5:=by have:=zeG t rs;have:=(g.rk rs (List.mem_of_getElem? hi)).few;omega
 have htl:=ga.few
 have hlt:i < ls.length:=(List.getElem?_eq_some_iff.mp hi).1
 refine za8 (ρ:=[some (.pub (zaA cs ls)),some (.pub (aimD o old ts)),some (.pub (.int (lng ls:Nat))),some (.pub (.int i)),some (.pub (.int t)),none,none,none,none,none,none,none,none]) rfl ?_
 unfold g_au worW
 refine zaq (zdo (zad rfl) (tg_T rfl (tg_C (tg_N (of_decide_eq_true rfl) rfl) (tg_C (tg_N (of_decide_eq_true rfl) rfl) (tg_C (tg_N (of_decide_eq_true rfl) rfl) tg_0))))) ?_
 refine zaq (zaM (zaV rfl zae zd4) (of_decide_eq_true rfl) rfl) ?_
 refine zaq (zaM (zat (zab (zaV rfl (zad rfl) (zoZ hi)) (zab (zad rfl) zaj)) rfl (ziK t rs)) (of_decide_eq_true rfl) rfl) ?_
 have hll:oLen [.list (ls.map zaz)]=some (.int ls.length):=by rw [zaH,List.length_map]
 have htl':oLen [.list (ts.map PyData.int)]=some (.int ts.length):=by rw [zaH,List.length_map]
 refine zaq (zaM (zam (za2 rfl hll) zae zaw) (of_decide_eq_true rfl) rfl) ?_
 have hk:∀ ρ : DEnv,ρ[6]?=some (some (.pub (oldD old))) -> ρ[3]?=some (some (.pub (.int i))) -> ρ[4]?=some (some (.pub (.int t))) ->
   mIf (mAnd (mMap (fun d=>!isNon d) (dVar 6)) (dBin oEq (dIxN 6 (dVar 3)) (dVar 4))) (zag (PyData.int 1)) (zag (.int 0)) ρ = .ok (.int (zcW old i t)) ρ:=fun ρ r6 r3 r4=>by
  cases old with
  | none =>
   exact zoF (zj5 (zaW (zad r6))) zae
  | some ws =>
   have hw:ws.length=ls.length:=ga.len ws rfl
   have hwi:ws[i]?=some ws[i]:=List.getElem?_eq_getElem (by omega)
   have hx:oIx (.list (ws.map optD)) (.int i)=some (optD ws[i]):=zmp (by omega)
   have ht:(mAnd (mMap (fun d=>!isNon d) (dVar 6)) (dBin oEq (dIxN 6 (dVar 3)) (dVar 4))) ρ = .ok (decide (ws[i]=some t)) ρ :=
    zj6 (zaW (zad r6)) (zam (zaV r6 (zad r3) hx) (zad r4) (zmr (b:=some t)))
   rw [zpP ht zae zae]
   congr 1
   unfold zcW
   dsimp only
   rw [hwi]
   by_cases h:ws[i]=some t
   ·rw [decide_eq_true h,if_pos rfl,if_pos (by rw [h])]
   ·rw [decide_eq_false h,if_neg (by decide),if_neg (fun e=>h (Option.some.inj e))]
 refine zaq (zaM (hk _ rfl rfl rfl) (of_decide_eq_true rfl) rfl) ?_
 have h1:=zhp o (b:=(ls.length:Int)+1) (M:=(lng ls:Nat)) (r:=(za6 t rs:Nat)) ⟨by omega,by omega⟩ ⟨by omega,by omega⟩ ⟨by omega,by omega⟩
 have h2:=zdy (b:=(lng ls:Int)+1) (n:=(ts.length:Nat)) ⟨by omega,by omega⟩ ⟨by omega,by omega⟩
 have h3:=zhq (ts:=ts) (b:=(lng ls:Int)+1) (i:=i) (r:=(za6 t rs:Nat)) ⟨by omega,by omega⟩ ⟨by omega,by omega⟩ (by omega) (fun a ha=>by have:=ga.there a ha;omega)
 rw [Int.toNat_natCast] at h2
 refine zaq (zaM (zam (zam (zat (zab (zad rfl) (zab (zad rfl) (zab (zad rfl) (zab (zad rfl) zaj)))) rfl h1) (zad rfl) (zb9 (by omega) (by omega))) (zad rfl) zaw) (of_decide_eq_true rfl) rfl) ?_
 have hp:((lng ls:Int)+1) ^ ts.length<=8 ^ 7:=zgF (by omega) (by omega) (by omega)
 have hp0:0<=((lng ls:Int)+1) ^ ts.length:=Int.pow_nonneg (by omega)
 exact zax (zam (zam (zad rfl) (zat (zab (zam (zad rfl) zae zaw) (zab (za2 rfl htl') zaj)) rfl h2) (zb9 (by omega) (by omega))) (zat (zab (zad rfl) (zab (zam (zad rfl) zae zaw) (zab (zad rfl) (zab (zad rfl) zaj)))) rfl h3) zaw) rfl
end
theorem zeH {s:D->DEnv->Option DEnv} {t:M Bool} {g:M D} (I:DEnv->Prop):∀ (ds:List D) (qs:List (Option D)) (ρ : DEnv) (es:List D),qs.length=ds.length ->
  (∀ (i:Nat) d e,ds[i]?=some d->qs[i]?=some e->∀ ρ,I ρ -> ∃ ρ1,s d ρ = some ρ1/\t ρ1=.ok e.isSome ρ1/\(∀ x,e=some x->g ρ1=.ok x ρ1)/\I (zaL ρ1))->I ρ -> es.length+ds.length<=1000000->zbw s t g ds ρ es=some (es ++ qs.filterMap id)
 | [],[],ρ,es,_,_,_,_=>by rw [zbw];simp
 | d :: r,e :: q,ρ,es,hl,st,h0,hz=>by
  obtain ⟨ρ1,e1,e2,e3,h1⟩:=st 0 d e rfl rfl ρ h0
  rw [List.length_cons] at hz
  have ih:=fun es' hz'=>zeH I r q (zaL ρ1) es' (by simpa using hl) (fun i d' e' x y=>st (i+1) d' e' (by simpa using x) (by simpa using y)) h1 hz'
  rw [zbw,e1]
  dsimp only
  rw [e2]
  dsimp only
  cases e with
  | none =>
   rw [if_neg (show ¬ (none:Option D).isSome=true by simp),ih es (by omega)]
   rfl
  | some x =>
   rw [if_pos (show (some x).isSome=true from rfl),e3 x rfl]
   dsimp only
   rw [if_pos (by omega),ih (es ++ [x]) (by rw [List.length_append,List.length_singleton];omega),List.append_assoc]
   rfl
section
variable {cs:List Int} {ls:List (List (List Int))} {o:Ord} {old:Option (List (Option Int))} {ts:List Int} {ws:List (Option Int)}
def worV (ls:List (List (List Int))) (o:Ord) (old:Option (List (Option Int))) (ts:List Int) (a t:Int):Int:=worW ls o old ts a.toNat (ls.getD a.toNat []) t
def zkV (V:Int->Int->Int) (q:Int × Int):D:=.tuple [.int q.1,.int q.2,.int (V q.1 q.2)]
theorem zfJ (g:Good cs ls) (ga:zch cs.length ls.length old ts):F_av [zaA cs ls,aimD o old ts]=some (.list ((allW 0 ls).map (zkV (worV ls o old ts)))):=by
 refine za8 (ρ:=[some (.pub (zaA cs ls)),some (.pub (aimD o old ts)),none]) rfl ?_
 unfold g_av
 refine zaq (zcU (zat (zab (zad rfl) (zab (zad rfl) zaj)) rfl (zo2 g ga))) ?_
 refine zaq (zaM (zat (zab (zad rfl) zaj) rfl (ziN g)) (of_decide_eq_true rfl) rfl) ?_
 have few:(allW 0 ls).length<=42:=by rw [(zcy ls 0).length_eq];exact zfG g
 have hc:zbw (gT 2 (gNC (gN 3) (gNC (gN 4) (gN0)))) (zag true) (mTup (zaf (dVar 3) (zaf (dVar 4) (zaf (dFun 5 F_au (zaf (dVar 0) (zaf (dVar 1) (zaf (dVar 2) (zaf (dVar 3) (zaf (dVar 4) (mNil))))))) (mNil))))) ((allW 0 ls).map duoD) (zaL [some (.pub (zaA cs ls)),some (.pub (aimD o old ts)),some (.pub (.int (lng ls:Nat)))] ++ List.replicate 2 none) []=some ((allW 0 ls).map (zkV (worV ls o old ts))):=by
  refine zbI (fun ρ=>∃ x y,ρ = [some (.pub (zaA cs ls)),some (.pub (aimD o old ts)),some (.pub (.int (lng ls:Nat))),x,y]) _ _ _ _ (by simp only [List.length_map]) ?_ ⟨none,none,rfl⟩ (by rw [List.length_map,List.length_nil];omega)
  rintro i d e hd he ρ ⟨x,y,rfl⟩
  rw [List.getElem?_map] at hd he
  cases hw:(allW 0 ls)[i]? with
  | none=>rw [hw] at hd;cases hd
  | some q =>
  rw [hw] at hd he
  cases hd
  cases he
  obtain ⟨a,t⟩:=q
  obtain ⟨j,rs,hj,ha,ht⟩:=zco (List.mem_of_getElem? hw)
  have ha:a=(j:Int):=by rw [Nat.zero_add] at ha;exact ha
  subst ha
  have hv:worV ls o old ts j t=worW ls o old ts j rs t:=by unfold worV;rw [Int.toNat_natCast,List.getD_eq_getElem?_getD,hj];rfl
  refine ⟨_,tg_T rfl (tg_C (tg_N (of_decide_eq_true rfl) rfl) (tg_C (tg_N (of_decide_eq_true rfl) rfl) tg_0)),rfl,?_,_,_,rfl⟩
  unfold zkV
  dsimp only
  rw [hv]
  exact zcS (zab (zad rfl) (zab (zad rfl) (zab (zat (zab (zad rfl) (zab (zad rfl) (zab (zad rfl) (zab (zad rfl) (zab (zad rfl) zaj))))) rfl (zkU g ga hj t)) zaj))) (of_decide_eq_true rfl)
 exact zax (zaW (zbF (zaT (zat (zab (zad rfl) zaj) rfl (zfH g)) zbz) hc)) rfl
end
section
variable {cs:List Int} {ls:List (List (List Int))}
theorem znB (g:Good cs ls):F_bh [zaA cs ls]=some (zaA cs ls):=by
 refine za8 (ρ:=[some (.pub (zaA cs ls)),none,none]) rfl ?_
 unfold g_bh
 have l7:=g.l7
 refine zaq (zbV (zcF zaj (of_decide_eq_true rfl)) (of_decide_eq_true rfl) rfl) ?_
 apply zaN
 apply zbW (fun i ρ=>∃ x2,ρ = [some (.pub (zaA cs ls)),some (.own ((ls.take i).map zaz)),x2])
 case h1=>exact zaT (zaV rfl zae zd4) zbz
 case h0=>exact ⟨_,rfl⟩
 case hst =>
  rintro i d ρ hi ⟨x2,rfl⟩
  rw [List.getElem?_map] at hi
  cases hw:ls[i]? with
  | none=>rw [hw] at hi;cases hi
  | some rs =>
  rw [hw] at hi
  cases hi
  have hrs:rs.length<=5:=(g.rk rs (List.mem_of_getElem? hw)).few
  refine ⟨_,tg_N (of_decide_eq_true rfl) (by walk_at "set"),?_⟩
  unfold zku
  have hc:∀ x1:Option Sl,zbw (gN 3) (zag true) (mMap PyData.list (zeQ 3)) (rs.map zbu) (zaL [some (.pub (zaA cs ls)),x1,some (.pub (zaz rs))] ++ List.replicate 1 none) []=some (rs.map zbu):=fun x1=>by
   refine zbI (fun ρ=>∃ a x,ρ = [some (.pub (zaA cs ls)),a,some (.pub (zaz rs)),x]) _ _ _ _ rfl ?_ ⟨_,none,rfl⟩ (by rw [List.length_map,List.length_nil];omega)
   rintro j d e hd he ρ ⟨a,x,rfl⟩
   rw [hd] at he
   cases he
   rw [List.getElem?_map] at hd
   cases hwj:rs[j]? with
   | none=>rw [hwj] at hd;cases hd
   | some r =>
   rw [hwj] at hd
   cases hd
   exact ⟨_,tg_N (of_decide_eq_true rfl) rfl,rfl,zaW (zly rfl (show zd3 [zbu r]=some (r.map PyData.int) from rfl)),_,_,rfl⟩
  refine zbr (zdU rfl (zaW (zbF (zaT (zad rfl) zbz) (hc _))) rfl (by rw [List.length_map,List.length_take];omega) rfl) ?_
  refine zbc ⟨some (.pub (zaz rs)),?_⟩
  rw [List.take_succ,hw,List.map_append]
  rfl
 case hend =>
  rintro ρ ⟨x2,rfl⟩
  rw [List.length_map,List.take_length]
  exact zau (zax (zcS (zab (zaW (zay (zab (zaV rfl zae ziM) zaj) (zby (show zd3 [.list (cs.map PyData.int)]=some (cs.map PyData.int) from rfl)))) (zab (zbE rfl rfl) zaj)) (of_decide_eq_true rfl)) rfl)
end
section
variable {cs:List Int} {ls:List (List (List Int))} {ws:List (Option Int)}
theorem zeN (g:Good cs ls):F_bd [zaA cs ls]=some (.int (lng ls:Nat)):=by
 refine za8 (ρ:=[some (.pub (zaA cs ls))]) rfl ?_
 unfold g_bd
 have hc:zbw (gN 1) (zag true) (zbh 1) (ls.map zaz) (zaL [some (.pub (zaA cs ls))] ++ List.replicate 1 none) []=some ((ls.map fun rs=>(rs.length:Int)).map PyData.int):=by
  refine zbI (fun ρ=>∃ x,ρ = [some (.pub (zaA cs ls)),x]) _ _ _ _ (by rw [List.length_map,List.length_map,List.length_map]) ?_ ⟨none,rfl⟩ (by rw [List.length_map,List.length_nil];have:=g.l7;omega)
  rintro i d e hd he ρ ⟨x,rfl⟩
  rw [List.getElem?_map] at hd
  rw [List.getElem?_map,List.getElem?_map] at he
  cases hl:ls[i]? with
  | none=>rw [hl] at hd;cases hd
  | some rs =>
  rw [hl] at hd he
  cases hd
  cases he
  exact ⟨_,tg_N (of_decide_eq_true rfl) rfl,rfl,za2 rfl (zgB rs),_,rfl⟩
 refine zax (zaQ (zab (zaW (zbF (zaT (zaV rfl zae zd4) zbz) hc)) zaj) (zfl (by rw [List.length_map];have:=g.l1;omega))) ?_
 rw [zhl g.l1]
theorem zhr {i:Nat} {rs:List (List Int)} (h:ls[i]?=some rs) (t:Int):F_bc [zaA cs ls,.int i,.int t]=some (.int (za6 t rs:Nat)):=by
 refine za8 (ρ:=[some (.pub (zaA cs ls)),some (.pub (.int i)),some (.pub (.int t)),none,none]) rfl ?_
 unfold g_bc
 apply zaN
 apply zbW (fun i' ρ=>(∃ x2 x3,ρ = [some (.pub (zaA cs ls)),some (.pub (.int i)),some (.pub (.int t)),x2,x3])/\∀ j r,j < i'->rs[j]?=some r->r.contains t=false)
 case h1=>exact zev (zab (zam (zaV rfl zae zd4) (zad rfl) (zoZ h)) zaj) zdn
 case h0=>exact ⟨⟨_,_,rfl⟩,fun j r h=>absurd h (Nat.not_lt_zero _)⟩
 case hst =>
  rintro k d ρ hi ⟨⟨x2,x3,rfl⟩,hb⟩
  obtain ⟨x,hx,rfl⟩:=zc3 hi
  rw [List.getElem?_map] at hx
  cases hr:rs[k]? with
  | none=>rw [hr] at hx;cases hx
  | some r =>
   rw [hr] at hx
   cases hx
   refine ⟨_,tg_T rfl (tg_C (tg_N (of_decide_eq_true rfl) rfl) (tg_C (tg_N (of_decide_eq_true rfl) rfl) tg_0)),?_⟩
   unfold zkw
   apply za7
   case h1=>exact zbj rfl (zad rfl) (zhk t r)
   case h2 =>
    intro hh
    refine zax (zam (zad rfl) zae zaw) (zfo ?_)
    rw [zgz hr hh hb]
    refine ⟨?_⟩
    congr 2
    omega
   case h3 =>
    intro hh
    refine zbs (zbc ⟨⟨_,_,rfl⟩,fun j r' hj e=>?_⟩)
    rcases Nat.lt_succ_iff_lt_or_eq.mp hj with hj | rfl
    ·exact hb j r' hj e
    ·rw [hr] at e;cases e;exact hh
 case hend =>
  rintro ρ ⟨⟨x2,x3,rfl⟩,hb⟩
  refine zau (zax zae ?_)
  rw [zgA (fun j r hj e=>hb j r (by rw [zbl,List.length_map];exact hj) e)]
  rfl
end
section
variable {cs:List Int} {ls:List (List (List Int))} {ws us:List (Option Int)}
end
def whB:D->Bool
 | .int _=>true
 | _=>false
def whI:D->Option Int
 | .int i=>some i
 | _=>none
def itI:D->List Int
 | .list xs=>xs.filterMap whI
 | _=>[]
theorem zdA (d:D):F_aa [d]=some (.bool (whB d)):=by
 cases d with
 | dict kvs=>exact za8 (ρ:=[some (.pub (.dict kvs))]) rfl (zax (zb5 (t:=false) (u:=false) (zkg (zad rfl)) fun z=>by cases z) rfl)
 | _=>rfl
theorem zgG {q:D->Bool} (xs:List D):oAll [.list (xs.map fun d=>.bool (q d))]=some (.bool (xs.all q)):=by
 have:(xs.map fun d=>PyData.bool (q d))=(xs.map q).map PyData.bool:=by rw [List.map_map];rfl
 rw [this,zg7]
 congr 2
 rw [List.all_map]
 rfl
theorem znC {d:D} (h1:d.canLay0=true) (h2:d.depth<=60):oEq d d=some true:=by
 unfold oEq
 rw [if_pos ⟨h1,h1,h2⟩,zfz _ h1]
theorem znD {j:Nat} {f:M (List D)} {ρ ρ1 ρ':DEnv} {ds0 ds es:List D} (h0 : ρ[j]?=some (some (.own ds0))) (h1:f ρ = .ok es ρ1) (h2 : ρ1[j]?=some (some (.own ds))) (h3:ds.length+es.length<=1000000) (h4 : ρ1.set j (some (.own (ds ++ es))) = ρ'):sExt j f ρ = .nx ρ':=by
 unfold sExt
 rw [zhO h0]
 dsimp only
 unfold sB
 rw [h1]
 dsimp only
 rw [zhO h2]
 dsimp only
 rw [if_pos h3,h4]
theorem zh3:∀ (a b:List (List (List Int))) (k:Nat),allW k (a ++ b)=allW k a ++ allW (k+a.length) b
 | [],b,k=>rfl
 | rs :: a,b,k=>by
  show _ ++ allW (k+1) (a ++ b)=_
  rw [zh3 a b (k+1)]
  show _=(_ ++ allW (k+1) a) ++ allW (k+(a.length+1)) b
  rw [List.append_assoc,show k+1+a.length=k+(a.length+1) by omega]
theorem zlX {n:Nat} (ls:List (List (List Int))) (k:Nat) (h:∀ rs ∈ ls,rs.flatten.length<=n):(allW k ls).length<=ls.length * n:=by
 rw [(zcy ls k).length_eq]
 exact zfF n ls k h
section
variable {cs:List Int} {ls:List (List (List Int))} {o:Ord} {old:Option (List (Option Int))} {ts:List Int}
theorem zgH (g:Good cs ls):F_bk [zaA cs ls]=some (.list ((allW 0 ls).map duoD)):=by
 have l7:=g.l7
 have c6:=g.c6
 refine za8 (ρ:=[some (.pub (zaA cs ls)),none,none]) rfl ?_
 unfold g_bk
 refine zaq (zbV (zcF zaj (of_decide_eq_true rfl)) (of_decide_eq_true rfl) rfl) ?_
 apply zaN
 apply zbW (fun i ρ=>∃ x2,ρ = [some (.pub (zaA cs ls)),some (.own ((allW 0 (ls.take i)).map duoD)),x2])
 case h1=>exact zct (zab (zaQ (zab (zaV rfl zae zd4) zaj) zaH) zaj) (zb0 (by rw [List.length_map];omega) (by omega))
 case h0=>exact ⟨_,rfl⟩
 case hst =>
  rintro i d ρ hi ⟨x2,rfl⟩
  obtain ⟨rfl,hlt⟩:=zbC hi
  rw [List.length_map] at hlt
  have hls:ls[i]?=some ls[i]:=List.getElem?_eq_getElem (by omega)
  have gr:=g.rk _ (List.mem_of_getElem? hls)
  have hfl:=zea gr
  refine ⟨_,tg_N (of_decide_eq_true rfl) (by walk_at "set"),?_⟩
  unfold zkv
  rw [Int.zero_add]
  have hw:=zkO (cs:=cs) hls (by omega)
  have hc:zbw (gN 3) (zag true) (mTup (zaf (dVar 2) (zaf (dVar 3) (mNil)))) ((zcs ls[i].flatten).map PyData.int) (zaL [some (.pub (zaA cs ls)),some (.own ((allW 0 (ls.take i)).map duoD)),some (.pub (.int i))] ++ List.replicate 1 none) []=some ((zcs ls[i].flatten).map fun t=>duoD ((i:Int),t)):=by
   have hsl:(zcs ls[i].flatten).length<=6:=by rw [(zbP _).length_eq];omega
   refine (zbI (fun ρ=>∃ x,ρ = [some (Sl.pub (zaA cs ls)),none,some (Sl.pub (.int i)),x]) _ ((zcs ls[i].flatten).map fun t=>duoD ((i:Int),t)) _ _ (by rw [List.length_map,List.length_map]) ?_ ⟨none,rfl⟩ (by rw [List.length_map,List.length_nil];omega)).trans (by rw [List.nil_append])
   rintro j d e hd he ρ ⟨x,rfl⟩
   rw [List.getElem?_map] at hd he
   cases z:(zcs ls[i].flatten)[j]? with
   | none=>rw [z] at hd;cases hd
   | some t =>
    rw [z] at hd he
    cases hd
    cases he
    exact ⟨_,tg_N (of_decide_eq_true rfl) rfl,rfl,zcS (zab (zad rfl) (zab (zad rfl) zaj)) (of_decide_eq_true rfl),_,rfl⟩
  have ha:(allW 0 (ls.take i)).length<=42:=by
   have:=zlX (n:=6) (ls.take i) 0 fun rs hrs=>by have:=zea (g.rk rs (List.mem_of_mem_take hrs));omega
   rw [List.length_take] at this
   have:min i ls.length<=7:=by omega
   omega
  refine zbr (znD rfl (zbF (zaT (zat (zab (zad rfl) (zab (zad rfl) zaj)) rfl hw) zbz) hc) rfl ?_ rfl) (zbc ⟨some (.pub (.int i)),?_⟩)
  ·rw [List.length_map,List.length_map,(zbP _).length_eq];omega
  ·have e:allW 0 (ls.take (i+1))=allW 0 (ls.take i) ++ (zcs ls[i].flatten).map fun t=>((i:Int),t):=by
    rw [List.take_succ_eq_append_getElem (by omega),zh3,List.length_take,Nat.min_eq_left (by omega),Nat.zero_add]
    show _ ++ ((zcs ls[i].flatten).map (fun t=>((i:Int),t)) ++ [])=_
    rw [List.append_nil]
   rw [e,List.map_append,List.map_map]
   rfl
 case hend =>
  rintro ρ ⟨x2,rfl⟩
  rw [zaX,List.length_map]
  refine zau (zax (zbE rfl rfl) ?_)
  rw [show ((ls.length:Int) - 0).toNat=ls.length by omega,List.take_length]
theorem ze6 {ts:List Int} {b a r x:Int} (hn:(ts ++ [x]).Nodup):zdz (ts ++ [x]) b a r=zdz ts b a r * b+if x=a then b - r else 0:=by
 have hx:x ∉ ts:=fun z=>(List.nodup_append.mp hn).2.2 x z x (List.mem_singleton.mpr rfl) rfl
 unfold zdz
 by_cases h:a ∈ ts
 ·have hxa : ¬ x=a:=fun e=>hx (e ▸ h)
  have hlt:=List.idxOf_lt_length_of_mem h
  rw [if_pos (List.mem_append_left _ h),if_pos h,if_neg hxa,List.idxOf_append,if_pos h,List.length_append,List.length_singleton,show ts.length+1 - 1 - ts.idxOf a=(ts.length - 1 - ts.idxOf a)+1 by omega,Int.pow_succ,Int.add_zero,Int.mul_assoc]
 ·rw [if_neg h,Int.zero_mul,Int.zero_add]
  by_cases e:x=a
  ·subst e
   rw [if_pos (by simp),if_pos rfl,List.idxOf_append,if_neg h,List.length_append,List.length_singleton,List.idxOf_cons_self,show ts.length+1 - 1 - (0+ts.length)=0 by omega,Int.pow_zero,Int.mul_one]
  ·rw [if_neg (by simp [h];exact fun z=>e z.symm),if_neg e]
def pwL (b:Int) (n:Nat):List Int:=(List.range (n+1)).map fun j:Nat=>b ^ j
theorem zkW {b:Int} {n j:Nat} (h:j<=n):(pwL b n)[j]?=some (b ^ j):=by
 unfold pwL
 rw [List.getElem?_map,List.getElem?_range (by omega)]
 rfl
theorem zkX {b:Int} {n:Nat}:(pwL b n).length=n+1:=by unfold pwL;rw [List.length_map,List.length_range]
theorem zlY {b:Int} {n:Nat}:pwL b (n+1)=pwL b n ++ [b ^ n * b]:=by
 unfold pwL
 rw [List.range_succ,List.map_append,← Int.pow_succ]
 rfl
theorem zkY {b:Int} {n:Nat} {k:Int} (h0:0<=k) (h:k<=n):oIx (.list ((pwL b n).map PyData.int)) (.int k)=some (.int (b ^ k.toNat)):=by
 have e:k=((k.toNat:Nat):Int):=by omega
 rw [e]
 refine za1 ?_
 rw [List.getElem?_map,zkW (by omega)]
 rfl
theorem zlZ {ws:List (Option Int)} {i:Nat} {t:Int} (h:i < ws.length):oEq (optD ws[i]) (.int t)=some (decide (ws[i]=some t)):=zmr (b:=some t)
def Ord.isL:Ord->Bool
 | .lasts=>true
 | _=>false
theorem zo3 (o:Ord):oEq (.str o.tx) (.str "lasts")=some o.isL:=by cases o <;> decide +kernel
theorem zgI (g:Good cs ls) (ga:zch cs.length ls.length old ts) {i:Nat} {rs:List (List Int)} (hi:ls[i]?=some rs) {t:Int} (ht:t ∈ rs.flatten):F_bg [zaA cs ls,aimD o old ts,.int i,.int t]=some (.int (worW ls o old ts i rs t)):=by
 have l7:=g.l7;have l1:=g.l1
 have hL:lng ls<=5:=zkP l1 fun rs h=>(g.rk rs h).few
 have hrs:rs ∈ ls:=List.mem_of_getElem? hi
 have hrl:=zmq hrs
 have hrk:za6 t rs<=lng ls:=by have:=zeG t rs;omega
 have hrp:1<=za6 t rs:=by have:=ze3 ht;omega
 have htl:=ga.few
 have hlt:i < ls.length:=(List.getElem?_eq_some_iff.mp hi).1
 refine za8 (ρ:=[some (.pub (zaA cs ls)),some (.pub (aimD o old ts)),some (.pub (.int i)),some (.pub (.int t)),none,none,none,none,none,none,none,none,none,none,none]) rfl ?_
 unfold g_bg
 refine zaq (zdo (zad rfl) (tg_T rfl (tg_C (tg_N (of_decide_eq_true rfl) rfl) (tg_C (tg_N (of_decide_eq_true rfl) rfl) (tg_C (tg_N (of_decide_eq_true rfl) rfl) tg_0))))) ?_
 have hll:oLen [.list (ls.map zaz)]=some (.int ls.length):=by rw [zaH,List.length_map]
 refine zaq (zaM (zam (zaQ (zab (zaV rfl zae zd4) zaj) hll) zae zaw) (of_decide_eq_true rfl) rfl) ?_
 refine zaq (zaM (zat (zab (zad rfl) zaj) rfl (zeN g)) (of_decide_eq_true rfl) rfl) ?_
 refine zaq (zaM (zat (zab (zad rfl) (zab (zad rfl) (zab (zad rfl) zaj))) rfl (zhr hi t)) (of_decide_eq_true rfl) rfl) ?_
 refine zaq (zbV (zcF (zab zae zaj) (of_decide_eq_true rfl)) (of_decide_eq_true rfl) rfl) ?_
 let S0:Option Sl:=some (.pub (zaA cs ls))
 let S1:Option Sl:=some (.pub (aimD o old ts))
 let S2:Option Sl:=some (.pub (.int i))
 let S3:Option Sl:=some (.pub (.int t))
 let S4:Option Sl:=some (.pub (.str o.tx))
 let S5:Option Sl:=some (.pub (oldD old))
 let S6:Option Sl:=some (.pub (.list (ts.map PyData.int)))
 let b:Int:=(ls.length:Int)+1
 let M:Nat:=lng ls
 let r:Nat:=za6 t rs
 let S7:Option Sl:=some (.pub (.int b))
 let S8:Option Sl:=some (.pub (.int (M:Int)))
 let S9:Option Sl:=some (.pub (.int (r:Int)))
 apply zaN
 apply zbW (fun j ρ=>∃ x11,ρ = [S0,S1,S2,S3,S4,S5,S6,S7,S8,S9,some (.own ((pwL b j).map PyData.int)),x11,none,none,none])
 case h1=>exact zct (zab (zad rfl) zaj) (zb0 (by omega) (by omega))
 case h0=>exact ⟨_,rfl⟩
 case hst =>
  rintro j d ρ hj ⟨x11,rfl⟩
  refine ⟨_,tg_N (of_decide_eq_true rfl) (by walk_at "set"),?_⟩
  unfold zkx
  obtain ⟨_,hjl⟩:=zbC hj
  have hlast:oIx (.list ((pwL b j).map PyData.int)) (.int (-1))=some (.int (b ^ j)):=zkK (by
   rw [List.getLast?_eq_getElem?,List.length_map,zkX,List.getElem?_map,Nat.add_sub_cancel,zkW (Nat.le_refl j)]
   rfl)
  refine zbr (zdU rfl (zam (zdT rfl (zeT zae) rfl hlast) (zad rfl) (zb9 (by omega) (by omega))) rfl (by rw [List.length_map,zkX];omega) rfl) (zbc ⟨some (.pub d),?_⟩)
  rw [zlY,List.map_append]
  rfl
 case hend =>
  rintro ρ ⟨x11,rfl⟩
  have er:(zbO 0 (M:Int)).length=M:=by rw [zaX];omega
  rw [er]
  refine zau ?_
  let S10:Option Sl:=some (.own ((pwL b M).map PyData.int))
  have e1:((M:Int) - (r:Int)).toNat=M - r:=by omega
  have p1:oIx (.list ((pwL b M).map PyData.int)) (.int ((M:Int) - (r:Int)))=some (.int (b ^ (M - r))):=by rw [zkY (by omega) (by omega),e1]
  have p2:oIx (.list ((pwL b M).map PyData.int)) (.int (M:Int))=some (.int (b ^ M)):=by rw [zkY (by omega) (by omega)];rfl
  have p3:oIx (.list ((pwL b M).map PyData.int)) (.int ((r:Int) - 1))=some (.int (b ^ (r - 1))):=by rw [zkY (by omega) (by omega),show ((r:Int) - 1).toNat=r - 1 by omega]
  refine zaq (ρ1:=[S0,S1,S2,S3,S4,S5,S6,S7,S8,S9,S10,x11,some (.pub (.int (b ^ (M - r)))),none,none]) (zaM (zdT rfl (zam (zad rfl) (zad rfl) zbd) rfl p1) (of_decide_eq_true rfl) rfl) ?_
  have eo:ordW o b M r=match o with | .firsts=>b ^ (M - r) | .full=>b ^ (M - r)+b ^ M | .lasts=>b ^ M - b ^ (r - 1):=by
   cases o with
   | firsts=>show b ^ ((M:Int) - (r:Int)).toNat=_;rw [e1]
   | full=>show b ^ ((M:Int)).toNat+b ^ ((M:Int) - (r:Int)).toNat=_;rw [e1,Int.add_comm];rfl
   | lasts=>show b ^ ((M:Int)).toNat - b ^ ((r:Int) - 1).toNat=_;rw [show ((r:Int) - 1).toNat=r - 1 by omega];rfl
  have done:∀ w:Int,w=ordW o b M r->Ho (sSeq (sSet 12 (dBin oMul (dVar 12) (dVar 7)))
    (sSeq (sIf (mAnd (mMap (fun d=>!isNon d) (dVar 5)) (dBin oEq (dIxN 5 (dVar 2)) (dVar 3)))
    (sSet 12 (dBin oAdd (dVar 12) (zag (.int 1))))
    (sNx))
    (sSeq (sSet 13 (zag (.int 0)))
    (sSeq (sFor (zaS (dVar 6)) (gN 14) zfw)
    (sRet (dBin oAdd (dVar 12) (dVar 13))))))) [S0,S1,S2,S3,S4,S5,S6,S7,S8,S9,S10,x11,some (.pub (.int w)),none,none] (fun o'=>o'=.rt (.int (worW ls o old ts i rs t))):=by
   rintro w rfl
   refine zaq (ρ1:=[S0,S1,S2,S3,S4,S5,S6,S7,S8,S9,S10,x11,some (.pub (.int (ordW o b M r * b))),none,none]) (zaM (zam (zad rfl) (zad rfl) (zb9 (by omega) (by omega))) (of_decide_eq_true rfl) rfl) ?_
   have rest:∀ v:Int,v=ordW o b M r * b+zcW old i t->Ho (sSeq (sSet 13 (zag (.int 0)))
    (sSeq (sFor (zaS (dVar 6)) (gN 14) zfw)
    (sRet (dBin oAdd (dVar 12) (dVar 13))))) [S0,S1,S2,S3,S4,S5,S6,S7,S8,S9,S10,x11,some (.pub (.int v)),none,none] (fun o'=>o'=.rt (.int (worW ls o old ts i rs t))):=by
    intro v hv
    refine zaq (zaM zae (of_decide_eq_true rfl) rfl) ?_
    apply zaN
    apply zbW (fun j ρ=>∃ x14,ρ = [S0,S1,S2,S3,S4,S5,S6,S7,S8,S9,S10,x11,some (.pub (.int (v * ((M:Int)+1) ^ j))),some (.pub (.int (zdz (ts.take j) ((M:Int)+1) i r))),x14])
    case h1=>exact zaT (zad rfl) zbz
    case h0=>exact ⟨none,by rw [Int.pow_zero,Int.mul_one];rfl⟩
    case hst =>
     rintro j d ρ hj ⟨x14,rfl⟩
     rw [List.getElem?_map] at hj
     cases hz:ts[j]? with
     | none=>rw [hz] at hj;cases hj
     | some a =>
     rw [hz] at hj
     cases hj
     have hjl:j < ts.length:=(List.getElem?_eq_some_iff.mp hz).1
     have ha:ts[j]=a:=(List.getElem?_eq_some_iff.mp hz).2
     have hts:ts.take (j+1)=ts.take j ++ [a]:=by rw [List.take_succ_eq_append_getElem hjl,ha]
     have hnd:(ts.take j ++ [a]).Nodup:=by rw [← hts];exact List.Nodup.sublist (List.take_sublist _ _) ga.once
     refine ⟨_,tg_N (of_decide_eq_true rfl) (by walk_at "set"),?_⟩
     unfold zfw
     refine zaq (ρ1:=[S0,S1,S2,S3,S4,S5,S6,S7,S8,S9,S10,x11,some (.pub (.int (v * ((M:Int)+1) ^ (j+1)))),some (.pub (.int (zdz (ts.take j) ((M:Int)+1) i r))),some (.pub (.int a))]) (zaM (zam (zad rfl) (zam (zad rfl) zae zaw) (zb9 (by omega) (by omega))) (of_decide_eq_true rfl) (by rw [Int.mul_assoc,← Int.pow_succ];rfl)) ?_
     refine zaq (ρ1:=[S0,S1,S2,S3,S4,S5,S6,S7,S8,S9,S10,x11,some (.pub (.int (v * ((M:Int)+1) ^ (j+1)))),some (.pub (.int (zdz (ts.take j) ((M:Int)+1) i r * ((M:Int)+1)))),some (.pub (.int a))]) (zaM (zam (zad rfl) (zam (zad rfl) zae zaw) (zb9 (by omega) (by omega))) (of_decide_eq_true rfl) rfl) ?_
     refine za7 (zbj rfl (zad rfl) zce) (fun hh=>?_) (fun hh=>?_)
     ·have e:a=(i:Int):=by simpa using hh
      refine zbr (zaM (zam (zam (zam (zad rfl) (zad rfl) zaw) zae zaw) (zad rfl) zbd) (of_decide_eq_true rfl) rfl) (zbc ⟨some (.pub (.int a)),?_⟩)
      rw [hts,ze6 hnd,if_pos e]
      have:zdz (ts.take j) ((M:Int)+1) i r * ((M:Int)+1)+(M:Int)+1 - (r:Int)=zdz (ts.take j) ((M:Int)+1) i r * ((M:Int)+1)+((M:Int)+1 - (r:Int)):=by omega
      rw [← this]
      rfl
     ·have e : ¬ a=(i:Int):=by simpa using hh
      refine zbs (zbc ⟨some (.pub (.int a)),?_⟩)
      rw [hts,ze6 hnd,if_neg e,Int.add_zero]
    case hend =>
     rintro ρ ⟨x14,rfl⟩
     refine zau (zax (zam (zad rfl) (zad rfl) zaw) ?_)
     rw [List.length_map,List.take_length,hv]
     rfl
   have hkk:mAnd (mMap (fun d=>!isNon d) (dVar 5)) (dBin oEq (dIxN 5 (dVar 2)) (dVar 3)) [S0,S1,S2,S3,S4,S5,S6,S7,S8,S9,S10,x11,some (.pub (.int (ordW o b M r * b))),none,none]=.ok (decide (zcW old i t=1)) [S0,S1,S2,S3,S4,S5,S6,S7,S8,S9,S10,x11,some (.pub (.int (ordW o b M r * b))),none,none]:=by
    cases old with
    | none=>exact zj5 (zaW (k:=fun d=>!isNon d) (x:=PyData.none) (zad rfl))
    | some ws =>
     have hw:ws.length=ls.length:=ga.len ws rfl
     have hwi:ws[i]?=some ws[i]:=List.getElem?_eq_getElem (by omega)
     have hx:oIx (.list (ws.map optD)) (.int i)=some (optD ws[i]):=zmp (by omega)
     have e:decide (zcW (some ws) i t=1)=decide (ws[i]=some t):=by
      refine decide_eq_decide.mpr ?_
      show (if ws[i]?=some (some t) then (1:Int) else 0)=1 ↔ _
      rw [hwi]
      by_cases z:ws[i]=some t
      ·rw [if_pos (by rw [z])];simp [z]
      ·rw [if_neg (fun y=>z (Option.some.inj y))];simp [z]
     rw [e]
     exact zj6 (zaW (k:=fun d=>!isNon d) (x:=oldD (some ws)) (zad rfl)) (zam (zaV rfl (zad rfl) hx) (zad rfl) (zlZ (by omega)))
   apply zaN
   refine za7 hkk (fun hh=>?_) (fun hh=>?_)
   ·have e:zcW old i t=1:=by simpa using hh
    exact zbr (zaM (zam (zad rfl) zae zaw) (of_decide_eq_true rfl) rfl) (zau (rest _ (by rw [e])))
   ·have e:zcW old i t=0:=by
     have hn : ¬ zcW old i t=1:=by simpa using hh
     unfold zcW at hn ⊢
     split at hn
     ·rfl
     ·split at hn
      ·exact absurd rfl hn
      ·rename_i hz;rw [if_neg hz]
    exact zbs (zau (rest _ (by rw [e,Int.add_zero])))
  have f2:=zo3 o
  apply zaN
  refine za7 (zbj rfl zae (zms o)) (fun hh=>?_) (fun hh=>?_)
  ·cases o with
   | full =>
    refine zbr (zaM (zam (zad rfl) (zdT rfl (zad rfl) rfl p2) zaw) (of_decide_eq_true rfl) rfl) (zau ?_)
    apply zaN
    exact za7 (b:=false) (zbj rfl zae f2) (fun z=>by cases z) fun _=>zbs (zau (done _ eo.symm))
   | firsts=>cases hh
   | lasts=>cases hh
  ·refine zbs (zau ?_)
   apply zaN
   refine za7 (zbj rfl zae f2) (fun h2=>?_) (fun h2=>?_)
   ·cases o with
    | lasts=>exact zbr (zaM (zam (zdT rfl (zad rfl) rfl p2) (zdT rfl (zam (zad rfl) zae zbd) rfl p3) zbd) (of_decide_eq_true rfl) rfl) (zau (done _ eo.symm))
    | firsts=>cases h2
    | full=>cases h2
   ·cases o with
    | firsts=>exact zbs (zau (done _ eo.symm))
    | full=>cases hh
    | lasts=>cases h2
end
theorem ze7 {α β : Type} {f : α -> β} (hf:∀ a b,f a=f b->a=b) {l:List α} (h:l.Nodup):(l.map f).Nodup:=by
 unfold List.Nodup at h ⊢
 rw [List.pairwise_map]
 exact h.imp fun hne e=>hne (hf _ _ e)
def pk (q:Int × Int):List Key:=[.inl q.1,.inl q.2]
theorem zmt {a b:Int × Int} (h:pk a=pk b):a=b:=by
 unfold pk at h
 injection h with h1 h2
 injection h2 with h2 _
 injection h1 with h1
 injection h2 with h2
 exact Prod.ext h1 h2
theorem zh4 {i1 i2:Nat} {g:M D} {V:Int × Int->D} (I:DEnv->Prop):∀ (qs:List (Int × Int)) (acc:List (List Key × D)) (ρ : DEnv),I ρ ->
  (∀ q ∈ qs,∀ ρ,I ρ -> ∃ ρ',g ((ρ.set i1 (some (.pub (.int q.1)))).set i2 (some (.pub (.int q.2))))=.ok (V q) ρ'/\zcb ρ'=true/\I ρ')->acc.length+qs.length<=1000000->(acc.map (·.1) ++ qs.map pk).Nodup ->
  zeB i1 i2 g (qs.map duoD) acc ρ = some (acc ++ qs.map fun q=>(pk q,V q))
 | [],acc,ρ,_,_,_,_=>by rw [List.map_nil,zeB,List.map_nil,List.append_nil]
 | q :: r,acc,ρ,h0,st,hl,hn=>by
  obtain ⟨ρ',e1,e2,e3⟩:=st q List.mem_cons_self ρ h0
  rw [List.length_cons] at hl
  have hk:zkj acc (pk q)=true:=by
   unfold zkj
   rw [List.all_eq_true]
   intro p hp
   refine decide_eq_true fun z=>?_
   exact (List.nodup_append.mp hn).2.2 p.1 (List.mem_map.mpr ⟨p,hp,rfl⟩) (pk q) (List.mem_map.mpr ⟨q,List.mem_cons_self,rfl⟩) z
  have ih:=zh4 I r (acc ++ [(pk q,V q)]) ρ' e3 (fun q' hq=>st q' (List.mem_cons_of_mem _ hq)) (by rw [List.length_append,List.length_singleton];omega) (by rw [List.map_append,List.append_assoc];exact hn)
  rw [List.map_cons]
  show zeB i1 i2 g (.tuple [.int q.1,.int q.2] :: r.map duoD) acc ρ = _
  rw [zeB]
  show (match g ((ρ.set i1 (some (.pub (.int q.1)))).set i2 (some (.pub (.int q.2)))) with
   | .ok v ρ'=>if acc.length < 1000000/\zkj acc (pk q)=true/\zcb ρ'=true then zeB i1 i2 g (r.map duoD) (acc ++ [(pk q,v)]) ρ' else none
   | .bad=>none)=_
  rw [e1]
  dsimp only
  rw [if_pos ⟨by omega,hk,e2⟩,ih,List.append_assoc]
  rfl
def wtD (V:Int->Int->Int) (qs:List (Int × Int)):D:=prsD (qs.map fun q=>(pk q,.int (V q.1 q.2)))
theorem zmu (V:Int->Int->Int) (qs:List (Int × Int)):wtD V qs=.dict ((.bool true,.none) :: qs.map fun q=>(duoD q,.int (V q.1 q.2))):=by
 unfold wtD prsD pdD
 congr 2
 rw [List.map_map,List.map_map,List.map_map,List.zip_map',List.map_congr_left]
 intro q _
 rfl
theorem zhs {V:Int->Int->Int} {qs:List (Int × Int)}:zki (wtD V qs)=some (qs.map duoD):=by
 rw [zmu]
 show some ((qs.map fun q=>(duoD q,PyData.int (V q.1 q.2))).map (·.1))=_
 rw [List.map_map]
 rfl
theorem zkZ {V:Int->Int->Int} {qs:List (Int × Int)} {q:Int × Int} (h:q ∈ qs):zgu (wtD V qs) (duoD q)=some (.int (V q.1 q.2)):=by
 rw [zmu]
 show ((qs.map fun q=>(duoD q,PyData.int (V q.1 q.2))).find? fun p=>decide (kOf p.1=some (pk q))).map (·.2)=_
 have key:∀ (l:List (Int × Int)),q ∈ l->(l.map fun q=>(duoD q,PyData.int (V q.1 q.2))).find? (fun p=>decide (kOf p.1=some (pk q)))=some (duoD q,.int (V q.1 q.2)):=by
  intro l
  induction l with
  | nil=>intro h;cases h
  | cons a r ih =>
   intro h
   rw [List.map_cons]
   by_cases e:a=q
   ·subst e
    exact List.find?_cons_of_pos (decide_eq_true rfl)
   ·rw [List.find?_cons_of_neg (by
     intro z
     have z:kOf (duoD a)=some (pk q):=of_decide_eq_true z
     have z:some (pk a)=some (pk q):=z
     exact e (zmt (Option.some.inj z)))]
    exact ih ((List.mem_cons.mp h).resolve_left fun z=>e z.symm)
 rw [key qs h]
 rfl
theorem zht {f:M D} {ρ ρ1:DEnv} {x:D} {r:List D} (h1:f ρ = .ok x ρ1) (h2:zki x=some r):ziH f ρ = .ok r ρ1:=by unfold ziH;exact zay h1 (zby h2)
theorem ze8:∀ (ls:List (List (List Int))) (k:Nat),(∀ rs ∈ ls,rs.flatten.Nodup)->(allW k ls).Nodup
 | [],_,_=>List.nodup_nil
 | rs :: ls,k,h=>by
  show ((zcs rs.flatten).map (fun t=>((k:Int),t)) ++ allW (k+1) ls).Nodup
  rw [List.nodup_append]
  refine ⟨?_,ze8 ls (k+1) fun r hr=>h r (List.mem_cons_of_mem _ hr),fun a ha b hb e=>?_⟩
  ·exact ze7 (fun x y e=>(Prod.mk.inj e).2) ((zbP _).nodup_iff.mpr (h rs List.mem_cons_self))
  ·subst e
   obtain ⟨t,_,rfl⟩:=List.mem_map.mp ha
   have:=zfE ls (k+1) _ hb
   simp at this
   omega
section
variable {cs:List Int} {ls:List (List (List Int))} {o:Ord} {old:Option (List (Option Int))} {ts:List Int}
theorem zhu (g:Good cs ls):(allW 0 ls).length<=42:=by rw [(zcy ls 0).length_eq];exact zfG g
theorem zfK (g:Good cs ls) (ga:zch cs.length ls.length old ts):F_bl [zaA cs ls,aimD o old ts]=some (wtD (worV ls o old ts) (allW 0 ls)):=by
 refine za8 (ρ:=[some (.pub (zaA cs ls)),some (.pub (aimD o old ts)),none,none,none]) rfl ?_
 unfold g_bl
 constructor
 have hf:zaS (dFun 1 F_bk (zaf (dVar 0) (mNil))) [some (.pub (zaA cs ls)),some (.pub (aimD o old ts)),none,none,none]=.ok ((allW 0 ls).map duoD) [some (.pub (zaA cs ls)),some (.pub (aimD o old ts)),none,none,none]:=zaT (zat (zab (zad rfl) zaj) rfl (zgH g)) zbz
 have h42:=zhu g
 have hp:=zh4 (i1:=3) (i2:=4) (g:=dFun 4 F_bg (zaf (dVar 0) (zaf (dVar 1) (zaf (dVar 3) (zaf (dVar 4) (mNil)))))) (V:=fun q=>.int (worV ls o old ts q.1 q.2))
  (fun ρ=>∃ x y,ρ = [some (.pub (zaA cs ls)),some (.pub (aimD o old ts)),none,x,y]) (allW 0 ls) [] [some (.pub (zaA cs ls)),some (.pub (aimD o old ts)),none,none,none] ⟨_,_,rfl⟩ (fun q hq ρ ⟨x,y,e⟩=>by
   subst e
   obtain ⟨i,rs,h1,h2,h3⟩:=zco hq
   rw [Nat.zero_add] at h2
   refine ⟨[some (.pub (zaA cs ls)),some (.pub (aimD o old ts)),none,some (.pub (.int q.1)),some (.pub (.int q.2))],?_,rfl,_,_,rfl⟩
   have hw:=zgI (o:=o) g ga h1 h3
   have e:worV ls o old ts q.1 q.2=worW ls o old ts i rs q.2:=by
    unfold worV
    rw [h2,Int.toNat_natCast]
    congr 1
    simp [List.getD,h1]
   rw [e]
   refine zat (zab (zad rfl) (zab (zad rfl) (zab (zad rfl) (zab (zad rfl) zaj)))) rfl ?_
   rw [h2]
   exact hw) (by rw [List.length_nil];omega) (by
   show ((allW 0 ls).map pk).Nodup
   exact ze7 (fun a b e=>zmt e) (ze8 ls 0 fun rs hrs=>(g.rk rs hrs).once))
 unfold sPrs
 rw [if_pos ⟨rfl,rfl,of_decide_eq_true rfl,of_decide_eq_true rfl⟩,hf]
 dsimp only
 rw [if_pos (show zcb _=true from rfl),hp]
 rfl
end
theorem zcX {zs:List Int} {k:Nat} {v:Int} (h:zs[k]?=some v):oIx (.list (zs.map PyData.int)) (.int k)=some (.int v):=za1 (by rw [List.getElem?_map,h];rfl)
theorem zh5 {zs:List Int} {k:Int} (h0:0<=k) (h1:k < zs.length):∃ v ∈ zs,oIx (.list (zs.map PyData.int)) (.int k)=some (.int v):=by
 obtain ⟨n,rfl⟩:∃ n:Nat,k=n:=⟨k.toNat,by omega⟩
 have hl:n < zs.length:=by omega
 exact ⟨zs[n],List.getElem_mem hl,zcX (List.getElem?_eq_getElem hl)⟩
def selW (p:Int × Int->Bool) (f:Int × Int->Int) (qs:List (Int × Int)):List Int:=qs.filterMap fun q=>if p q then some (f q) else none
theorem zfL (p:Int × Int->Bool) (f:Int × Int->Int):∀ (qs:List (Int × Int)),(qs.map fun q=>if p q then some (PyData.int (f q)) else none).filterMap id=(selW p f qs).map PyData.int
 | []=>rfl
 | q :: r=>by
  have ih:=zfL p f r
  unfold selW at ih ⊢
  rw [List.map_cons]
  cases h:p q with
  | true=>simp only [List.filterMap_cons,h,if_true,id,List.map_cons];rw [ih]
  | false=>simp only [List.filterMap_cons,h,id];exact ih
theorem zl0 {p:Int × Int->Bool} {f:Int × Int->Int} {qs:List (Int × Int)} {q:Int × Int} (h:q ∈ qs) (hp:p q=true):f q ∈ selW p f qs:=by
 unfold selW
 rw [List.mem_filterMap]
 exact ⟨q,h,by rw [hp];rfl⟩
theorem zh6 {p:Int × Int->Bool} {f:Int × Int->Int} {qs:List (Int × Int)}:(selW p f qs).length<=qs.length:=List.length_filterMap_le _ _
theorem zk0 (l:List Int):(l.map PyData.int).all flat=true:=by
 rw [List.all_eq_true];intro x hx;obtain ⟨y,_,rfl⟩:=List.mem_map.mp hx;rfl
def papD (tm:Int) (as ps:List Int):D:=.tuple [.int tm,.list (as.map PyData.int),.list (ps.map PyData.int)]
structure Pap (n m:Nat) (V:Int->Int->Int) (qs:List (Int × Int)) (lo tm:Int) (as ps:List Int):Prop where
 t1:1<=tm
 t2:tm<=1000000001
 la:as.length=m
 lp:ps.length=n
 pp:∀ p ∈ ps,0<=p
 aa:∀ a ∈ as, -lo<=a
 le:∀ q ∈ qs,tm * V q.1 q.2<=as.getD q.1.toNat 0+ps.getD q.2.toNat 0+lo
def szp (n m:Nat):List Int:=[3,1000000000] ++ List.replicate n 6 ++ List.replicate n 8 ++ List.replicate m 9
theorem zhv (n m:Nat):(szp n m).length=2+n+n+m:=by unfold szp;simp only [List.length_append,List.length_replicate,List.length_cons,List.length_nil]
theorem zpY {n m j:Nat} (h:j < n):(szp n m)[2+j]?=some 6:=by
 unfold szp
 rw [List.append_assoc,List.append_assoc,List.getElem?_append_right (by simp),List.getElem?_append_left (by simp;omega)]
 rw [List.getElem?_replicate,if_pos (by simp;omega)]
theorem zpZ {n m j:Nat} (h:j < n):(szp n m)[2+n+j]?=some 8:=by
 unfold szp
 rw [List.append_assoc,List.getElem?_append_right (by simp;omega),List.getElem?_append_left (by simp;omega)]
 rw [List.getElem?_replicate,if_pos (by simp;omega)]
theorem zp0 {n m j:Nat} (h:j < m):(szp n m)[2+n+n+j]?=some 9:=by
 unfold szp
 rw [List.getElem?_append_right (by simp;omega),List.getElem?_replicate,if_pos (by simp;omega)]
section
variable {cs:List Int} {ls:List (List (List Int))}
theorem ziR (g:Good cs ls) {V:Int->Int->Int} {qs:List (Int × Int)} (hq:∀ q ∈ qs,(0<=q.1/\q.1 < ls.length)/\0<=q.2/\q.2 < cs.length) (hqs:qs.length<=1000) (c s:Int) {lo:Int} (hlo:0<=lo) :
  ∃ r,F_bn [zaA cs ls,wtD V qs,.int c,.int s,.int lo]=some r/\∃ tm as ps,r=papD tm as ps/\Pap cs.length ls.length V qs lo tm as ps:=by
 have l7:=g.l7;have l1:=g.l1;have c6:=g.c6;have c1:=g.c1
 refine zeV (ρ:=[some (.pub (zaA cs ls)),some (.pub (wtD V qs)),some (.pub (.int c)),some (.pub (.int s)),some (.pub (.int lo)),none,none,none,none,none,none,none,none,none,none,none,none,none]) rfl ?_
 unfold g_bn
 have hn:oLen [.list (cs.map PyData.int)]=some (.int cs.length):=by rw [zaH,List.length_map]
 have hm:oLen [.list (ls.map zaz)]=some (.int ls.length):=by rw [zaH,List.length_map]
 have e0:∀ ρ : DEnv,ρ[0]?=some (some (.pub (zaA cs ls)))->dBin oAdd (dBin oAdd (dBin oAdd (mLst (zaf (zag (.int 3)) (zaf (dBin oPow (zag (.int 10)) (zag (.int 9))) (mNil)))) (dBin oMul (mLst (zaf (zag (.int 6)) (mNil))) (zbe oLen (zaf (dIxN 0 (zag (.int 0))) (mNil))))) (dBin oMul (mLst (zaf (zag (.int 8)) (mNil))) (zbe oLen (zaf (dIxN 0 (zag (.int 0))) (mNil))))) (dBin oMul (mLst (zaf (zag (.int 9)) (mNil))) (zbe oLen (zaf (dIxN 0 (zag (.int 1))) (mNil)))) ρ = .ok (.list ((szp cs.length ls.length).map PyData.int)) ρ:=by
  intro ρ h0
  have a1:=zgD (x:=.int 6) (m:=cs.length) (by omega)
  have a2:=zgD (x:=.int 8) (m:=cs.length) (by omega)
  have a3:=zgD (x:=.int 9) (m:=ls.length) (by omega)
  have b1:=zam (zbt (zab zae (zab (zam zae zae (zj2 (i:=10) (j:=9) (by decide))) zaj)) (of_decide_eq_true rfl)) (zam (zbt (zab zae zaj) (of_decide_eq_true rfl)) (zaQ (zab (zaV h0 zae ziM) zaj) hn) a1) (zbU (x:=[.int 3,.int (10 ^ (9:Int).toNat)]) (y:=List.replicate cs.length (.int 6)) (by simp;omega))
  have b2:=zam b1 (zam (zbt (zab zae zaj) (of_decide_eq_true rfl)) (zaQ (zab (zaV h0 zae ziM) zaj) hn) a2) (zbU (by simp;omega))
  have b3:=zam b2 (zam (zbt (zab zae zaj) (of_decide_eq_true rfl)) (zaQ (zab (zaV h0 zae zd4) zaj) hm) a3) (zbU (by simp;omega))
  refine Eq.trans b3 ?_
  unfold szp
  simp only [List.map_append,List.map_replicate,List.map_cons,List.map_nil]
  rfl
 refine zaq (zaM (e0 _ rfl) (of_decide_eq_true rfl) rfl) ?_
 obtain ⟨r,hF,dg,rfl,hdl,hdb⟩:=zcm c s (sizes:=szp cs.length ls.length) (fun x hx=>by
  unfold szp at hx
  simp only [List.mem_append,List.mem_replicate,List.mem_cons] at hx
  rcases hx with (((rfl | rfl | hx) | ⟨_,rfl⟩) | ⟨_,rfl⟩) | ⟨_,rfl⟩ <;> first | omega | cases hx) (by rw [zhv];omega)
 rw [zhv] at hdl
 have dgt:∀ {j:Nat} {z:Int},(szp cs.length ls.length)[j]?=some z->∃ d,dg[j]?=some d/\0<=d/\d < z:=fun {j z} hz=>by
  have hj:j < dg.length:=by rw [hdl,← zhv];exact (List.getElem?_eq_some_iff.mp hz).1
  exact ⟨dg[j],List.getElem?_eq_getElem hj,hdb j _ _ (List.getElem?_eq_getElem hj) hz⟩
 refine zaq (zaM (zat (zab (zad rfl) (zab (zad rfl) (zab (zad rfl) zaj))) rfl hF) (of_decide_eq_true rfl) rfl) ?_
 obtain ⟨d0,hd0,b0,b0'⟩:=dgt (j:=0) (z:=3) rfl
 obtain ⟨d1,hd1,b1,b1'⟩:=dgt (j:=1) (z:=1000000000) rfl
 obtain ⟨tm,htm,etm⟩:=zh5 (zs:=[1,1,2+d1]) (k:=d0) b0 b0'
 have t12:1<=tm/\tm<=1000000001:=by
  simp only [List.mem_cons,List.not_mem_nil,or_false] at htm
  rcases htm with rfl | rfl | rfl <;> omega
 refine zaq (zaM (zam (zbt (zab zae (zab zae (zab (zam zae (zaV rfl zae (zcX hd1)) zaw) zaj))) (of_decide_eq_true rfl)) (zaV rfl zae (zcX hd0)) etm) (of_decide_eq_true rfl) rfl) ?_
 refine zaq (zaM (zaQ (zab (zaV rfl zae ziM) zaj) hn) (of_decide_eq_true rfl) rfl) ?_
 refine zaq (zbV (zcF zaj (of_decide_eq_true rfl)) (of_decide_eq_true rfl) rfl) ?_
 let S0:Option Sl:=some (.pub (zaA cs ls))
 let S1:Option Sl:=some (.pub (wtD V qs))
 let S2:Option Sl:=some (.pub (.int c))
 let S3:Option Sl:=some (.pub (.int s))
 let S4:Option Sl:=some (.pub (.int lo))
 let S5:Option Sl:=some (.pub (.list ((szp cs.length ls.length).map PyData.int)))
 let S6:Option Sl:=some (.pub (.list (dg.map PyData.int)))
 let S7:Option Sl:=some (.pub (.int tm))
 let S8:Option Sl:=some (.pub (.int (cs.length:Int)))
 apply zaN
 apply zbW (fun j ρ=>∃ (ps:List Int) (x10 x11 x12:Option Sl),ρ = [S0,S1,S2,S3,S4,S5,S6,S7,S8,some (.own (ps.map PyData.int)),x10,x11,x12,none,none,none,none,none]/\ps.length=j/\∀ p ∈ ps,0<=p)
 case h1=>exact zct (zab (zad rfl) zaj) (zb0 (by omega) (by omega))
 case h0=>exact ⟨[],none,none,none,rfl,rfl,fun p h=>by cases h⟩
 case hst =>
  rintro j d ρ hj ⟨ps,x10,x11,x12,rfl,hpl,hpp⟩
  obtain ⟨rfl,hjl⟩:=zbC hj
  refine ⟨_,tg_N (of_decide_eq_true rfl) (by walk_at "set"),?_⟩
  unfold zkt
  rw [Int.zero_add]
  have hjn:j < cs.length:=by omega
  have hc:zbw (gN 18) (dBin oEq (dIxN 18 (zag (.int 1))) (dVar 10)) (dBin oMul (dVar 7) (dBin zgu (dVar 1) (dVar 18))) (qs.map duoD) (zaL [S0,S1,S2,S3,S4,S5,S6,S7,S8,some (.own (ps.map PyData.int)),some (.pub (.int j)),x11,x12,none,none,none,none,none] ++ List.replicate 1 none) []=some ((selW (fun q=>decide (q.2=(j:Int))) (fun q=>tm * V q.1 q.2) qs).map PyData.int):=by
   rw [← zfL]
   refine (zeH (fun ρ=>∃ y11 y12 x,ρ = [S0,S1,S2,S3,S4,S5,S6,S7,S8,none,some (.pub (.int j)),y11,y12,none,none,none,none,none,x]) _ (qs.map fun q=>if decide (q.2=(j:Int)) then some (PyData.int (tm * V q.1 q.2)) else none) _ _ (by rw [List.length_map,List.length_map]) ?_ ⟨zci x11,zci x12,none,rfl⟩ (by rw [List.length_map,List.length_nil];omega)).trans (by rw [List.nil_append])
   rintro i d e hd he ρ ⟨y11,y12,x,rfl⟩
   rw [List.getElem?_map] at hd he
   cases z:qs[i]? with
   | none=>rw [z] at hd;cases hd
   | some q =>
    rw [z] at hd he
    cases hd
    have he:(if decide (q.2=(j:Int))=true then some (PyData.int (tm * V q.1 q.2)) else none)=e:=Option.some.inj he
    have ht:dBin oEq (dIxN 18 (zag (.int 1))) (dVar 10) [S0,S1,S2,S3,S4,S5,S6,S7,S8,none,some (.pub (.int j)),y11,y12,none,none,none,none,none,some (.pub (duoD q))]=.ok (decide (q.2=(j:Int))) [S0,S1,S2,S3,S4,S5,S6,S7,S8,none,some (.pub (.int j)),y11,y12,none,none,none,none,none,some (.pub (duoD q))]:=zam (zaV rfl zae (za1 (j:=1) rfl)) (zad rfl) zce
    refine ⟨_,tg_N (of_decide_eq_true rfl) rfl,?_,?_,zci y11,zci y12,_,rfl⟩
    ·refine Eq.trans ht ?_
     rw [← he]
     cases decide (q.2=(j:Int)) <;> rfl
    ·intro v hv
     rw [hv] at he
     have:decide (q.2=(j:Int))=true:=by
      cases h:decide (q.2=(j:Int)) with
      | true=>rfl
      | false=>rw [h] at he;cases he
     rw [this] at he
     cases he
     exact zam (zad rfl) (zam (zad rfl) (zad rfl) (zkZ (List.mem_of_getElem? z))) (zcG (by omega) (by omega))
  let zs:List Int:=0 :: selW (fun q=>decide (q.2=(j:Int))) (fun q=>tm * V q.1 q.2) qs
  have hzl:zs.length<=1001:=by have:=zh6 (p:=fun q=>decide (q.2=(j:Int))) (f:=fun q=>tm * V q.1 q.2) (qs:=qs);show _+1<=1001;omega
  have hz1:1<=zs.length:=Nat.succ_pos _
  refine zaq (ρ1:=[S0,S1,S2,S3,S4,S5,S6,S7,S8,some (.own (ps.map PyData.int)),some (.pub (.int j)),some (.pub (.list (zs.map PyData.int))),x12,none,none,none,none,none]) (zaM (zam (zbt (zab zae zaj) (of_decide_eq_true rfl)) (zaW (zbF (zht (zad rfl) zhs) hc)) (zbU (by rw [List.length_map];have:([PyData.int 0]:List D).length=1:=rfl;have:(selW (fun q=>decide (q.2=(j:Int))) (fun q=>tm * V q.1 q.2) qs).length+1=zs.length:=rfl;omega))) (of_decide_eq_true rfl) rfl) ?_
  obtain ⟨db,hdb2,bb,bb'⟩:=dgt (zpZ (n:=cs.length) (m:=ls.length) hjn)
  obtain ⟨pv,_,epv⟩:=zh5 (zs:=zs) (k:=db % (zs.length:Int)) (Int.emod_nonneg _ (by omega)) (Int.emod_lt_of_pos _ (by omega))
  have hix:oIx (.list (dg.map PyData.int)) (.int (2+(cs.length:Int)+(j:Int)))=some (.int db):=by
   have e:(2+(cs.length:Int)+(j:Int))=((2+cs.length+j:Nat):Int):=by omega
   rw [e];exact zcX hdb2
  refine zaq (ρ1:=[S0,S1,S2,S3,S4,S5,S6,S7,S8,some (.own (ps.map PyData.int)),some (.pub (.int j)),some (.pub (.list (zs.map PyData.int))),some (.pub (.int pv)),none,none,none,none,none]) (zaM (zaV rfl (zam (zaV rfl (zam (zam zae (zad rfl) zaw) (zad rfl) zaw) hix) (za2 rfl (by rw [zaH,List.length_map])) (zg4 (by omega))) epv) (of_decide_eq_true rfl) rfl) ?_
  obtain ⟨da,hda2,ba,ba'⟩:=dgt (zpY (n:=cs.length) (m:=ls.length) hjn)
  obtain ⟨mv,_,emv⟩:=zh5 (zs:=[0,0,0, -1,1,d1]) (k:=da) ba ba'
  have hix2:oIx (.list (dg.map PyData.int)) (.int (2+(j:Int)))=some (.int da):=by
   have e:(2+(j:Int))=((2+j:Nat):Int):=by omega
   rw [e];exact zcX hda2
  refine zbr (zdU rfl (zaQ (zab zae (zab (zam (zad rfl) (zam (zbt (zab zae (zab zae (zab zae (zab (zeT zae) (zab zae (zab (zaV rfl zae (zcX hd1)) zaj)))))) (of_decide_eq_true rfl)) (zaV rfl (zam zae (zad rfl) zaw) hix2) emv) zaw) zaj)) zj3) rfl (by rw [List.length_map];omega) rfl) (zbc ⟨ps ++ [if pv+mv > 0 then pv+mv else 0],some (.pub (.int j)),some (.pub (.list (zs.map PyData.int))),some (.pub (.int pv)),?_,?_,?_⟩)
  ·rw [List.map_append];rfl
  ·rw [List.length_append,hpl];rfl
  ·intro p hp
   rcases List.mem_append.mp hp with h | h
   ·exact hpp p h
   ·rw [List.mem_singleton] at h
    subst h
    split <;> omega
 case hend =>
  rintro ρ ⟨ps,x10,x11,x12,rfl,hpl,hpp⟩
  rw [zaX,show ((cs.length:Int) - 0).toNat=cs.length by omega] at hpl
  refine zau ?_
  refine zaq (zbV (zcF zaj (of_decide_eq_true rfl)) (of_decide_eq_true rfl) rfl) ?_
  apply zaN
  apply zbW (fun j ρ=>∃ (as:List Int) (x14 x15 x16 x17:Option Sl),ρ = [S0,S1,S2,S3,S4,S5,S6,S7,S8,some (.own (ps.map PyData.int)),x10,x11,x12,some (.own (as.map PyData.int)),x14,x15,x16,x17]/\as.length=j/\(∀ a ∈ as, -lo<=a)/\∀ q ∈ qs,q.1.toNat < j->tm * V q.1 q.2<=as.getD q.1.toNat 0+ps.getD q.2.toNat 0+lo)
  case h1=>exact zct (zab (zaQ (zab (zaV rfl zae zd4) zaj) hm) zaj) (zb0 (by omega) (by omega))
  case h0=>exact ⟨[],none,none,none,none,rfl,rfl,(fun p h=>by cases h),fun q _ h=>absurd h (Nat.not_lt_zero _)⟩
  case hst =>
   rintro j d ρ hj ⟨as,x14,x15,x16,x17,rfl,hal,haa,hle⟩
   obtain ⟨rfl,hjl⟩:=zbC hj
   refine ⟨_,tg_N (of_decide_eq_true rfl) (by walk_at "set"),?_⟩
   unfold zks
   rw [Int.zero_add]
   have hjm:j < ls.length:=by omega
   let fw:Int × Int->Int:=fun q=>tm * V q.1 q.2 - ps.getD q.2.toNat 0
   have hc:zbw (gN 18) (dBin oEq (dIxN 18 (zag (.int 0))) (dVar 14)) (dBin oSub (dBin oMul (dVar 7) (dBin zgu (dVar 1) (dVar 18))) (dIxN 9 (dIxN 18 (zag (.int 1))))) (qs.map duoD) (zc6 [S0,S1,S2,S3,S4,S5,S6,S7,S8,some (.own (ps.map PyData.int)),x10,x11,x12,some (.own (as.map PyData.int)),some (.pub (.int j)),x15,x16,x17] ++ List.replicate 1 none) []=some ((selW (fun q=>decide (q.1=(j:Int))) fw qs).map PyData.int):=by
    rw [← zfL]
    refine (zeH (fun ρ=>∃ y10 y11 y12 y13 y15 y16 y17 x,ρ = [S0,S1,S2,S3,S4,S5,S6,S7,S8,some (.pub (.list (ps.map PyData.int))),y10,y11,y12,y13,some (.pub (.int j)),y15,y16,y17,x]) _ (qs.map fun q=>if decide (q.1=(j:Int)) then some (PyData.int (fw q)) else none) _ _ (by rw [List.length_map,List.length_map]) ?_ ⟨_,_,_,_,_,_,_,none,rfl⟩ (by rw [List.length_map,List.length_nil];omega)).trans (by rw [List.nil_append])
    rintro i d e hd he ρ ⟨y10,y11,y12,y13,y15,y16,y17,x,rfl⟩
    rw [List.getElem?_map] at hd he
    cases z:qs[i]? with
    | none=>rw [z] at hd;cases hd
    | some q =>
     rw [z] at hd he
     cases hd
     have hqi:=List.mem_of_getElem? z
     have he:(if decide (q.1=(j:Int))=true then some (PyData.int (fw q)) else none)=e:=Option.some.inj he
     have ht:dBin oEq (dIxN 18 (zag (.int 0))) (dVar 14) [S0,S1,S2,S3,S4,S5,S6,S7,S8,some (.pub (.list (ps.map PyData.int))),y10,y11,y12,y13,some (.pub (.int j)),y15,y16,y17,some (.pub (duoD q))]=.ok (decide (q.1=(j:Int))) [S0,S1,S2,S3,S4,S5,S6,S7,S8,some (.pub (.list (ps.map PyData.int))),y10,y11,y12,y13,some (.pub (.int j)),y15,y16,y17,some (.pub (duoD q))]:=zam (zaV rfl zae (za1 (j:=0) rfl)) (zad rfl) zce
     refine ⟨_,tg_N (of_decide_eq_true rfl) rfl,?_,?_,zci y10,zci y11,zci y12,zci y13,zci y15,zci y16,zci y17,_,rfl⟩
     ·refine Eq.trans ht ?_
      rw [← he]
      cases decide (q.1=(j:Int)) <;> rfl
     ·intro v hv
      rw [hv] at he
      have:decide (q.1=(j:Int))=true:=by
       cases h:decide (q.1=(j:Int)) with
       | true=>rfl
       | false=>rw [h] at he;cases he
      rw [this] at he
      cases he
      have hq2:=(hq q hqi).2
      have hpx:oIx (.list (ps.map PyData.int)) (.int q.2)=some (.int (ps.getD q.2.toNat 0)):=by
       have e:q.2=((q.2.toNat:Nat):Int):=by omega
       have:=zfD (xs:=ps) (k:=q.2.toNat) (by omega)
       rw [← e] at this
       exact this
      exact zam (zam (zad rfl) (zam (zad rfl) (zad rfl) (zkZ hqi)) (zcG (by omega) (by omega))) (zaV rfl (zaV rfl zae (za1 (j:=1) rfl)) hpx) zbd
   let ws:List Int:=selW (fun q=>decide (q.1=(j:Int))) fw qs
   have hwl:ws.length<=1000:=by have:=zh6 (p:=fun q=>decide (q.1=(j:Int))) (f:=fw) (qs:=qs);show (selW _ _ _).length<=1000;omega
   refine zaq (ρ1:=[S0,S1,S2,S3,S4,S5,S6,S7,S8,some (.own (ps.map PyData.int)),x10,x11,x12,some (.own (as.map PyData.int)),some (.pub (.int j)),some (.own (ws.map PyData.int)),x16,x17]) (zbV (zlR (zht (zad rfl) zhs) hc (zk0 _)) (of_decide_eq_true rfl) rfl) ?_
   refine zaq (ρ1:=[S0,S1,S2,S3,S4,S5,S6,S7,S8,some (.own (ps.map PyData.int)),x10,x11,x12,some (.own (as.map PyData.int)),some (.pub (.int j)),some (.pub (.list (ws.map PyData.int))),some (.pub (.int (most (0 :: ws)))),x17]) (zaM (zaQ (zab (zam (zbt (zab zae zaj) (of_decide_eq_true rfl)) (zbE rfl rfl) (zbU (by rw [List.length_map];have:([PyData.int 0]:List D).length=1:=rfl;omega))) zaj) (zfl (ns:=0 :: ws) (Nat.succ_pos _))) (of_decide_eq_true rfl) rfl) ?_
   obtain ⟨dc,hdc2,bc,bc'⟩:=dgt (zp0 (n:=cs.length) (m:=ls.length) hjm)
   obtain ⟨mv,hmv,emv⟩:=zh5 (zs:=[0,0,0,0,0,0,1,d1,0 - lo]) (k:=dc) bc bc'
   have hmv : -lo<=mv:=by
    simp only [List.mem_cons,List.not_mem_nil,or_false] at hmv
    omega
   have hix:oIx (.list (dg.map PyData.int)) (.int (2+2 * (cs.length:Int)+(j:Int)))=some (.int dc):=by
    have e:(2+2 * (cs.length:Int)+(j:Int))=((2+cs.length+cs.length+j:Nat):Int):=by omega
    rw [e];exact zcX hdc2
   refine zaq (ρ1:=[S0,S1,S2,S3,S4,S5,S6,S7,S8,some (.own (ps.map PyData.int)),x10,x11,x12,some (.own (as.map PyData.int)),some (.pub (.int j)),some (.pub (.list (ws.map PyData.int))),some (.pub (.int (most (0 :: ws)))),some (.pub (.int mv))]) (zaM (zam (zbt (zab zae (zab zae (zab zae (zab zae (zab zae (zab zae (zab zae (zab (zaV rfl zae (zcX hd1)) (zab (zam zae (zad rfl) zbd) zaj))))))))) (of_decide_eq_true rfl)) (zaV rfl (zam (zam zae (zam zae (zad rfl) (zcG (by omega) (by omega))) zaw) (zad rfl) zaw) hix) emv) (of_decide_eq_true rfl) rfl) ?_
   have hmost:∀ w ∈ 0 :: ws,w<=most (0 :: ws):=fun w hw=>zfk hw
   refine zbr (zdU rfl (zam (zad rfl) (zad rfl) zaw) rfl (by rw [List.length_map];omega) rfl) (zbc ⟨as ++ [most (0 :: ws)+mv],_,_,_,_,(by rw [List.map_append];rfl),(by rw [List.length_append,hal];rfl),?_,?_⟩)
   ·intro a ha
    rcases List.mem_append.mp ha with h | h
    ·exact haa a h
    ·rw [List.mem_singleton] at h
     have:=hmost 0 List.mem_cons_self
     omega
   ·intro q hqm hqj
    by_cases hh:q.1.toNat < j
    ·have:=hle q hqm hh
     rw [List.getD_eq_getElem?_getD,List.getElem?_append_left (by omega),← List.getD_eq_getElem?_getD]
     exact this
    ·have hqe:q.1=(j:Int):=by have:=(hq q hqm).1;omega
     have hj2:q.1.toNat=as.length:=by omega
     have hg:(as ++ [most (0 :: ws)+mv]).getD q.1.toNat 0=most (0 :: ws)+mv:=by
      rw [List.getD_eq_getElem?_getD,List.getElem?_append_right (by omega),hj2,Nat.sub_self]
      rfl
     rw [hg]
     have:=hmost (fw q) (List.mem_cons_of_mem _ (zl0 hqm (decide_eq_true hqe)))
     have hfw:fw q=tm * V q.1 q.2 - ps.getD q.2.toNat 0:=rfl
     omega
  case hend =>
   rintro ρ ⟨as,x14,x15,x16,x17,rfl,hal,haa,hle⟩
   rw [zaX,show ((ls.length:Int) - 0).toNat=ls.length by omega] at hal hle
   refine zau (zax (zcS (zab (zad rfl) (zab (zbE rfl rfl) (zab (zbE rfl rfl) zaj))) (of_decide_eq_true rfl)) ⟨_,rfl,tm,as,ps,rfl,?_⟩)
   exact ⟨t12.1,t12.2,hal,hpl,hpp,haa,fun q hqm=>hle q hqm (by have:=(hq q hqm).1;omega)⟩
end
section
variable {cs:List Int} {ls:List (List (List Int))} {tm:Int} {as ps:List Int}
theorem zp1:oIx (papD tm as ps) (.int 0)=some (.int tm):=za1 (j:=0) rfl
theorem zo4:oIx (papD tm as ps) (.int 1)=some (.list (as.map PyData.int)):=za1 (j:=1) rfl
theorem zo5:oIx (papD tm as ps) (.int 2)=some (.list (ps.map PyData.int)):=za1 (j:=2) rfl
end
theorem zhw {cs:List Int} {ls:List (List (List Int))} (g:Good cs ls):∀ q ∈ allW 0 ls,(0<=q.1/\q.1 < ls.length)/\0<=q.2/\q.2 < cs.length:=fun q hq=>by
 obtain ⟨i,rs,h1,h2,h3⟩:=zco hq
 have:=(g.rk rs (List.mem_of_getElem? h1)).flat q.2 h3
 have:=(List.getElem?_eq_some_iff.mp h1).1
 omega
def natB:D->Bool
 | .int i=>decide (0<=i)
 | _=>false
def nlB (n:Nat):D->Bool
 | .list xs=>decide (xs.length=n) && xs.all natB
 | _=>false
def posB:D->Bool
 | .int i=>decide (1<=i)
 | _=>false
def papB (n m:Nat):D->Bool
 | .tuple [t,a,p]=>posB t && (nlB m a && nlB n p)
 | _=>false
def nthI (d:D) (k:Int):Int:=(itI d).getD k.toNat 0
def zp2 (V:Int->Int->Int) (qs:List (Int × Int)):D->Bool
 | .tuple [.int tm,a,p]=>qs.all fun q=>decide (tm * V q.1 q.2<=nthI a q.1+nthI p q.2)
 | _=>false
def letB (n m:Nat) (V:Int->Int->Int) (qs:List (Int × Int)) (d:D):Bool:=papB n m d && zp2 V qs d
def ShP (d:D):Prop:=∀ t a p,d=.tuple [t,a,p]->(∀ xs,a=.list xs->xs.length<=1000)/\∀ xs,p=.list xs->xs.length<=1000
theorem zmv {c:String} {f:M D} {ρ ρ1:DEnv} {d:D} {t:Bool} (h:f ρ = .ok d ρ1) (ht:isTy d c=t):mMap (fun d=>PyData.bool (isTy d c)) f ρ = .ok (.bool t) ρ1:=by
 subst ht;exact zaW (k:=fun d=>PyData.bool (isTy d c)) h
theorem zk1 {f:M D} {ρ ρ1:DEnv} {b:Bool} (h:f ρ = .ok (.bool b) ρ1) (hb:b=false):mNot (zbb f) ρ = .ok true ρ1:=by
 subst hb;exact zb2 (zbq h)
theorem ziS (d:D):F_ab [d]=some (.bool (natB d)):=by
 refine za8 (ρ:=[some (.pub d)]) rfl ?_
 unfold g_ab
 cases d with
 | int i=>exact zax (zb5 (t:=true) (u:=decide (0<=i)) (zat (zab (zad rfl) zaj) rfl (zdA (.int i))) (fun _=>zaW (zbj rfl zae rfl))) rfl
 | _=>exact zax (zb5 (t:=false) (u:=false) (zat (zab (zad rfl) zaj) rfl (zdA _)) (fun z=>by cases z)) rfl
theorem zhx {xs:List D} {n:Int} (hl:xs.length<=1000):F_ac [.list xs,.int n]=some (.bool (decide ((xs.length:Int)=n) && xs.all natB)):=by
 refine za8 (ρ:=[some (.pub (.list xs)),some (.pub (.int n))]) rfl ?_
 unfold g_ac
 have hc:zbw (gN 2) (zag true) (dFun 1 F_ab (zaf (dVar 2) (mNil))) xs (zaL [some (.pub (.list xs)),some (.pub (.int n))] ++ List.replicate 1 none) []=some (xs.map fun d=>.bool (natB d)):=by
  rw [zcf (fun _=>true) (fun d=>.bool (natB d)) (fun ρ=>∃ x,ρ = [some (.pub (.list xs)),some (.pub (.int n)),x])]
  ·rw [List.filter_eq_self.mpr (fun _ _=>rfl),List.nil_append]
  ·rintro d hm ρ ⟨x,rfl⟩
   exact ⟨_,tg_N (of_decide_eq_true rfl) rfl,rfl,fun _=>zat (zab (zad rfl) zaj) rfl (ziS d),_,rfl⟩
  ·exact ⟨none,rfl⟩
  ·rw [List.length_nil];omega
 exact zax (zb5 (zaW (zam (za2 rfl zaH) (zad rfl) zce)) (fun _=>zaQ (zab (zaW (zbF (zaT (zad rfl) zbz) hc)) zaj) (zgG xs))) rfl
theorem zcY {d:D} {n:Nat} (hl:∀ xs,d=.list xs->xs.length<=1000):F_aw [d,.int n]=some (.bool (nlB n d)):=by
 refine za8 (ρ:=[some (.pub d),some (.pub (.int n))]) rfl ?_
 unfold g_aw
 cases d with
 | list xs =>
  refine zax (zb5 (t:=true) (zmv (zad rfl) rfl) (fun _=>zat (zab (zad rfl) (zab (zad rfl) zaj)) rfl (zhx (hl xs rfl)))) ?_
  show Out.rt _=Out.rt (.bool (decide (xs.length=n) && xs.all natB))
  rw [Bool.true_and,show decide ((xs.length:Int)=(n:Int))=decide (xs.length=n) from decide_eq_decide.mpr (by omega)]
 | dict kvs=>exact zax (zb5 (t:=false) (u:=false) (zkg (zad rfl)) fun z=>by cases z) rfl
 | _=>exact zax (zb5 (t:=false) (u:=false) (zmv (zad rfl) rfl) fun z=>by cases z) rfl
theorem zh7 {xs:List D} (h:xs.length=3):∃ a b c,xs=[a,b,c]:=by
 match xs,h with
 | [a,b,c],_=>exact ⟨a,b,c,rfl⟩
theorem zh8 {n m:Nat} {xs:List D} (h : ¬ xs.length=3):papB n m (.tuple xs)=false:=by
 unfold papB
 split
 ·rename_i heq;cases heq;exact absurd rfl h
 ·rfl
theorem zl1 {d:D} (h:posB d=true):∃ i,d=.int i/\1<=i:=by
 cases d with
 | int i=>exact ⟨i,rfl,of_decide_eq_true h⟩
 | _=>cases h
theorem zh9:∀ {xs:List D},xs.all natB=true->∃ ns:List Int,xs=ns.map PyData.int/\∀ i ∈ ns,0<=i
 | [],_=>⟨[],rfl,fun _ h=>by cases h⟩
 | x :: r,h=>by
  rw [List.all_cons,Bool.and_eq_true] at h
  obtain ⟨ns,rfl,hn⟩:=zh9 h.2
  cases x with
  | int i=>exact ⟨i :: ns,rfl,fun j hj=>by
    rcases List.mem_cons.mp hj with rfl | hj
    ·exact of_decide_eq_true h.1
    ·exact hn j hj⟩
  | _=>have z:=h.1;cases z
theorem zfM {n:Nat} {d:D} (h:nlB n d=true):∃ ns:List Int,d=.list (ns.map PyData.int)/\ns.length=n/\∀ i ∈ ns,0<=i:=by
 cases d with
 | list xs =>
  have h:(decide (xs.length=n) && xs.all natB)=true:=h
  rw [Bool.and_eq_true] at h
  obtain ⟨ns,rfl,hn⟩:=zh9 h.2
  exact ⟨ns,rfl,by have:=of_decide_eq_true h.1;rw [List.length_map] at this;exact this,hn⟩
 | _=>cases h
theorem zl2 {n m:Nat} {d:D} (h:papB n m d=true):∃ tm as ps,d=papD tm as ps/\1<=tm/\(as.length=m/\∀ i ∈ as,0<=i)/\ps.length=n/\∀ i ∈ ps,0<=i:=by
 unfold papB at h
 split at h
 ·rename_i t a p
  rw [Bool.and_eq_true,Bool.and_eq_true] at h
  obtain ⟨i,rfl,hi⟩:=zl1 h.1
  obtain ⟨as,rfl,h1⟩:=zfM h.2.1
  obtain ⟨ps,rfl,h2⟩:=zfM h.2.2
  exact ⟨i,as,ps,rfl,hi,h1,h2⟩
 ·cases h
theorem zl3 (ns:List Int):itI (.list (ns.map PyData.int))=ns:=by
 show (ns.map PyData.int).filterMap whI=ns
 rw [List.filterMap_map]
 show ns.filterMap (fun i=>some i)=ns
 simp
theorem zcZ {ns:List Int} {k:Int}:nthI (.list (ns.map PyData.int)) k=ns.getD k.toNat 0:=by unfold nthI;rw [zl3]
theorem zdM {ns:List Int} {k:Int} (h0:0<=k) (h1:k < ns.length):oIx (.list (ns.map PyData.int)) (.int k)=some (.int (ns.getD k.toNat 0)):=by
 obtain ⟨j,rfl⟩:∃ j:Nat,k=j:=⟨k.toNat,by omega⟩
 rw [Int.toNat_natCast]
 exact zfD (by omega)
section
variable {cs:List Int} {ls:List (List (List Int))} {o:Ord} {old:Option (List (Option Int))} {ts:List Int}
theorem zl4 {d:D} (hs:ShP d):F_ax [zaA cs ls,d]=some (.bool (papB cs.length ls.length d)):=by
 refine za8 (ρ:=[some (.pub (zaA cs ls)),some (.pub d),none,none,none,none,none]) rfl ?_
 unfold g_ax
 apply zaN
 cases d with
 | tuple xs =>
  refine za7 (b:=!decide (xs.length=3)) (ρ1:=[some (.pub (zaA cs ls)),some (.pub (.tuple xs)),none,none,none,none,none]) ?_ (fun hh=>?_) (fun hh=>?_)
  ·refine (zck (zbg (zad rfl) rfl) (zam (za2 rfl zfn) zae zda)).trans ?_
   rw [show decide ((xs.length:Int)=3)=decide (xs.length=3) from decide_eq_decide.mpr (by omega)]
  ·have h3 : ¬ xs.length=3:=by simpa using hh
   refine zax zae (za3 ?_)
   rw [zh8 h3]
  ·have h3:xs.length=3:=by simpa using hh
   obtain ⟨t,a,p,rfl⟩:=zh7 h3
   obtain ⟨ha,hp⟩:=hs t a p rfl
   refine zbs (zau ?_)
   refine zaq (zdo (zad rfl) (tg_T rfl (tg_C (tg_N (of_decide_eq_true rfl) rfl) (tg_C (tg_N (of_decide_eq_true rfl) rfl) tg_0)))) ?_
   refine zaq (zdo (zad rfl) (tg_T rfl (tg_C (tg_N (of_decide_eq_true rfl) rfl) (tg_C (tg_N (of_decide_eq_true rfl) rfl) (tg_C (tg_N (of_decide_eq_true rfl) rfl) tg_0))))) ?_
   have hfin:posB t=true->Ho (sRet (zd0 (dFun 2 F_aw (zaf (dVar 5) (zaf (zbh 3) (mNil)))) (dFun 2 F_aw (zaf (dVar 6) (zaf (zbh 2) (mNil)))))) [some (.pub (zaA cs ls)),some (.pub (.tuple [t,a,p])),some (.pub (.list (cs.map PyData.int))),some (.pub (.list (ls.map zaz))),some (.pub t),some (.pub a),some (.pub p)] (fun o'=>o'=.rt (.bool (papB cs.length ls.length (.tuple [t,a,p])))):=by
    intro h1
    have h5:=zcY (n:=ls.length) ha
    have h6:=zcY (n:=cs.length) hp
    refine zax (zb5 (zat (zab (zad rfl) (zab (za2 rfl (by rw [zaH,List.length_map])) zaj)) rfl h5) (fun _=>zat (zab (zad rfl) (zab (za2 rfl (by rw [zaH,List.length_map])) zaj)) rfl h6)) ?_
    show _=Out.rt (.bool (posB t && _))
    rw [h1]
    rfl
   apply zaN
   cases t with
   | int i =>
    refine za7 (b:=decide (i < 1)) (zck (zb2 (zbq (zat (zab (zad rfl) zaj) rfl (zdA (.int i))))) (zbj rfl zae rfl)) (fun hh=>?_) (fun hh=>?_)
    ·have:i < 1:=of_decide_eq_true hh
     refine zax zae (za3 ?_)
     show _=Out.rt (.bool (decide (1<=i) && _))
     rw [decide_eq_false (by omega)]
     rfl
    ·have : ¬ i < 1:=of_decide_eq_false hh
     exact zbs (zau (hfin (decide_eq_true (by omega))))
   | _=>exact za7 (b:=true) (zdV (zk1 (zat (zab (zad rfl) zaj) rfl (zdA _)) rfl)) (fun _=>zax zae (za3 rfl)) (fun z=>by cases z)
 | dict kvs=>exact za7 (b:=true) (zdV (zha (zad rfl))) (fun _=>zax zae (za3 rfl)) (fun z=>by cases z)
 | _=>exact za7 (b:=true) (zdV (zbg (zad rfl) rfl)) (fun _=>zax zae (za3 rfl)) (fun z=>by cases z)
theorem zia (g:Good cs ls) (ga:zch cs.length ls.length old ts) {q:Int × Int} (hq:q ∈ allW 0 ls):0<=worV ls o old ts q.1 q.2/\worV ls o old ts q.1 q.2 < 18446744073709551616:=by
 obtain ⟨i,rs,h1,h2,h3⟩:=zco hq
 have l7:=g.l7;have l1:=g.l1
 have hL:lng ls<=5:=zkP l1 fun rs h=>(g.rk rs h).few
 have hrl:=zmq (List.mem_of_getElem? h1)
 have hr1:1<=za6 q.2 rs:=by have:=ze3 h3;omega
 have hr2:za6 q.2 rs<=lng ls:=by have:=zeG q.2 rs;omega
 have htl:=ga.few
 have e:worV ls o old ts q.1 q.2=worW ls o old ts i rs q.2:=by
  unfold worV
  rw [h2,Nat.zero_add,Int.toNat_natCast]
  congr 1
  simp [List.getD,h1]
 rw [e]
 unfold worW
 have pw:∀ {b:Int} {n k:Nat},1<=b->b<=8->n<=k->1<=b ^ n/\b ^ n<=8 ^ k:=fun {b n k} h0 h8 hk=>⟨Int.pow_pos h0,zgF (by omega) h8 hk⟩
 have hb1:(1:Int)<=(ls.length:Int)+1:=by omega
 have hb8:(ls.length:Int)+1<=8:=by omega
 have hM1:(1:Int)<=(lng ls:Int)+1:=by omega
 have hM8:(lng ls:Int)+1<=8:=by omega
 have a1:=pw hb1 hb8 (n:=lng ls) (k:=5) hL
 have a2:=pw hb1 hb8 (n:=((lng ls:Int) - (za6 q.2 rs:Nat)).toNat) (k:=5) (by omega)
 have a3:=pw hb1 hb8 (n:=((za6 q.2 rs:Nat) - 1:Int).toNat) (k:=5) (by omega)
 have a4:((ls.length:Int)+1) ^ ((za6 q.2 rs:Nat) - 1:Int).toNat<=((ls.length:Int)+1) ^ lng ls:=by
  have:((za6 q.2 rs:Nat) - 1:Int).toNat<=lng ls:=by omega
  obtain ⟨k,hk⟩:=Nat.exists_eq_add_of_le this
  rw [hk,Int.pow_add]
  have:=(pw hb1 hb8 (n:=k) (k:=5) (by omega)).1
  have hm:=Int.mul_le_mul_of_nonneg_left this (show 0<=((ls.length:Int)+1) ^ ((za6 q.2 rs:Nat) - 1:Int).toNat by omega)
  rw [Int.mul_one] at hm
  exact hm
 have b1:0<=ordW o (ls.length+1) (lng ls) (za6 q.2 rs)/\ordW o (ls.length+1) (lng ls) (za6 q.2 rs)<=65536:=by
  cases o with
  | firsts=>show 0<=_ ^ _/\_ ^ _<=65536;omega
  | full =>
   show 0<=_ ^ ((lng ls:Int)).toNat+_ ^ _/\_ ^ ((lng ls:Int)).toNat+_ ^ _<=65536
   rw [Int.toNat_natCast];omega
  | lasts =>
   show 0<=_ ^ ((lng ls:Int)).toNat - _ ^ _/\_ ^ ((lng ls:Int)).toNat - _ ^ _<=65536
   rw [Int.toNat_natCast];omega
 have b2:0<=zcW old i q.2/\zcW old i q.2<=1:=by
  unfold zcW
  split
  ·omega
  ·split <;> omega
 have b3:=pw hM1 hM8 (n:=ts.length) (k:=7) (by omega)
 have b4:0<=zdz ts ((lng ls:Int)+1) i (za6 q.2 rs)/\zdz ts ((lng ls:Int)+1) i (za6 q.2 rs)<=8 * 8 ^ 7:=by
  unfold zdz
  split
  ·have b5:=pw hM1 hM8 (n:=ts.length - 1 - ts.idxOf (i:Int)) (k:=7) (by omega)
   refine ⟨Int.mul_nonneg (by omega) (by omega),?_⟩
   exact Int.mul_le_mul (by omega) b5.2 (by omega) (by decide)
  ·exact ⟨by omega,by decide⟩
 have c1:0<=ordW o (ls.length+1) (lng ls) (za6 q.2 rs) * (ls.length+1)+zcW old i q.2/\ordW o (ls.length+1) (lng ls) (za6 q.2 rs) * (ls.length+1)+zcW old i q.2<=600000:=by
  have d1:0<=ordW o (ls.length+1) (lng ls) (za6 q.2 rs) * ((ls.length:Int)+1):=Int.mul_nonneg b1.1 (by omega)
  have d2:ordW o (ls.length+1) (lng ls) (za6 q.2 rs) * ((ls.length:Int)+1)<=65536 * 8:=Int.mul_le_mul b1.2 hb8 (by omega) (by decide)
  omega
 have d3:0<=(ordW o (ls.length+1) (lng ls) (za6 q.2 rs) * (ls.length+1)+zcW old i q.2) * ((lng ls:Int)+1) ^ ts.length:=Int.mul_nonneg c1.1 (by omega)
 have d4:(ordW o (ls.length+1) (lng ls) (za6 q.2 rs) * (ls.length+1)+zcW old i q.2) * ((lng ls:Int)+1) ^ ts.length<=600000 * 8 ^ 7:=Int.mul_le_mul c1.2 b3.2 (by omega) (by decide)
 omega
theorem zib (g:Good cs ls) (ga:zch cs.length ls.length old ts) {d:D} (hs:ShP d):F_ay [zaA cs ls,aimD o old ts,d]=some (.bool (letB cs.length ls.length (worV ls o old ts) (allW 0 ls) d)):=by
 refine za8 (ρ:=[some (.pub (zaA cs ls)),some (.pub (aimD o old ts)),some (.pub d),none,none,none,none]) rfl ?_
 unfold g_ay
 refine zaq (zaM (zat (zab (zad rfl) (zab (zad rfl) zaj)) rfl (zfJ g ga)) (of_decide_eq_true rfl) rfl) ?_
 apply zaN
 refine za7 (b:=!papB cs.length ls.length d) (zb2 (zbq (zat (zab (zad rfl) (zab (zad rfl) zaj)) rfl (zl4 hs)))) (fun hh=>?_) (fun hh=>?_)
 ·have e:papB cs.length ls.length d=false:=by simpa using hh
  refine zax zae (za3 ?_)
  unfold letB
  rw [e]
  rfl
 ·have e:papB cs.length ls.length d=true:=by simpa using hh
  obtain ⟨tm,as,ps,rfl,h1,⟨h2,h2'⟩,h3,h3'⟩:=zl2 e
  refine zbs (zau ?_)
  refine zaq (zdo (zad rfl) (tg_T rfl (tg_C (tg_N (of_decide_eq_true rfl) rfl) (tg_C (tg_N (of_decide_eq_true rfl) rfl) (tg_C (tg_N (of_decide_eq_true rfl) rfl) tg_0))))) ?_
  let S0:Option Sl:=some (.pub (zaA cs ls))
  let S1:Option Sl:=some (.pub (aimD o old ts))
  let S2:Option Sl:=some (.pub (papD tm as ps))
  let S3:Option Sl:=some (.pub (.list ((allW 0 ls).map (zkV (worV ls o old ts)))))
  let S4:Option Sl:=some (.pub (.int tm))
  let S5:Option Sl:=some (.pub (.list (as.map PyData.int)))
  let S6:Option Sl:=some (.pub (.list (ps.map PyData.int)))
  let tq:Int × Int->Bool:=fun q=>decide (tm * worV ls o old ts q.1 q.2<=as.getD q.1.toNat 0+ps.getD q.2.toNat 0)
  have h42:=zhu g
  have hc:zbw (gT 3 (gNC (gN 7) (gNC (gN 8) (gNC (gN 9) (gN0))))) (zag true) (mMap PyData.bool (dBin (oIB fun i j=>decide (j<=i)) (dBin oAdd (dIxN 5 (dVar 7)) (dIxN 6 (dVar 8))) (dBin oMul (dVar 4) (dVar 9)))) ((allW 0 ls).map (zkV (worV ls o old ts))) (zaL [S0,S1,S2,S3,S4,S5,S6] ++ List.replicate 3 none) []=some (((allW 0 ls).map tq).map PyData.bool):=by
   refine (zbI (fun ρ=>∃ x y z,ρ = [S0,S1,S2,S3,S4,S5,S6,x,y,z]) _ (((allW 0 ls).map tq).map PyData.bool) _ _ (by rw [List.length_map,List.length_map,List.length_map]) ?_ ⟨none,none,none,rfl⟩ (by rw [List.length_map,List.length_nil];omega)).trans (by rw [List.nil_append])
   rintro j d e hd he ρ ⟨x,y,z,rfl⟩
   rw [List.getElem?_map] at hd he
   rw [List.getElem?_map] at he
   cases hz:(allW 0 ls)[j]? with
   | none=>rw [hz] at hd;cases hd
   | some q =>
    rw [hz] at hd he
    cases hd
    cases he
    have hq:=List.mem_of_getElem? hz
    have hin:=zhw g q hq
    have hb:=zia (o:=o) g ga hq
    exact ⟨_,tg_T rfl (tg_C (tg_N (of_decide_eq_true rfl) rfl) (tg_C (tg_N (of_decide_eq_true rfl) rfl) (tg_C (tg_N (of_decide_eq_true rfl) rfl) tg_0))),rfl,zaW (zam (zam (zaV rfl (zad rfl) (zdM hin.1.1 (by omega))) (zaV rfl (zad rfl) (zdM hin.2.1 (by omega))) zaw) (zam (zad rfl) (zad rfl) (zb9 (by omega) (by omega))) rfl),_,_,_,rfl⟩
  refine zax (zaQ (zab (zaW (zbF (zaT (zad rfl) zbz) hc)) zaj) zg7) ?_
  unfold letB
  rw [e,Bool.true_and]
  show _=Out.rt (.bool ((allW 0 ls).all fun q=>decide (tm * worV ls o old ts q.1 q.2<=nthI (.list (as.map PyData.int)) q.1+nthI (.list (ps.map PyData.int)) q.2)))
  rw [List.all_map]
  congr 3
  funext q
  rw [zcZ,zcZ]
  rfl
end
theorem zdc (d:D):F_bi [d]=some (.bool (whB d)):=by
 cases d with
 | dict kvs=>exact za8 (ρ:=[some (.pub (.dict kvs))]) rfl (zax (zb5 (t:=false) (u:=false) (zkg (zad rfl)) fun z=>by cases z) rfl)
 | _=>rfl
def rowB (n:Nat):D->Bool
 | .list xs=>decide (xs.length=n) && xs.all whB
 | _=>false
theorem zdB (n:Nat) (xs:List D):rowB n (.list xs)=(decide (xs.length=n) && xs.all whB):=rfl
theorem zic {d:D} {n:Nat} (hl:∀ xs,d=.list xs->xs.length<=1000):F_bj [d,.int n]=some (.bool (rowB n d)):=by
 refine za8 (ρ:=[some (.pub d),some (.pub (.int n))]) rfl ?_
 unfold g_bj
 apply zaN
 cases d with
 | list xs =>
  have hl:=hl xs rfl
  refine za7 (b:=!decide ((xs.length:Int)=(n:Int))) (ρ1:=[some (.pub (.list xs)),some (.pub (.int n))]) (zck (zbg (zad rfl) rfl) (zam (za2 rfl zaH) (zad rfl) zda)) (fun hh=>?_) (fun hh=>?_)
  ·have h3 : ¬ (xs.length:Int)=(n:Int):=by simpa using hh
   refine zax zae (za3 ?_)
   rw [zdB,decide_eq_false (by omega)]
   rfl
  ·have h3:(xs.length:Int)=(n:Int):=by simpa using hh
   refine zbs (zau ?_)
   have hc:zbw (gN 2) (zag true) (dFun 1 F_bi (zaf (dVar 2) (mNil))) xs (zaL [some (.pub (.list xs)),some (.pub (.int n))] ++ List.replicate 1 none) []=some (xs.map fun d=>.bool (whB d)):=by
    rw [zcf (fun _=>true) (fun d=>.bool (whB d)) (fun ρ=>∃ x,ρ = [some (.pub (.list xs)),some (.pub (.int n)),x])]
    ·rw [List.filter_eq_self.mpr (fun _ _=>rfl),List.nil_append]
    ·rintro d hm ρ ⟨x,rfl⟩
     exact ⟨_,tg_N (of_decide_eq_true rfl) rfl,rfl,fun _=>zat (zab (zad rfl) zaj) rfl (zdc d),_,rfl⟩
    ·exact ⟨none,rfl⟩
    ·rw [List.length_nil];omega
   refine zax (zaQ (zab (zaW (zbF (zaT (zad rfl) zbz) hc)) zaj) (zgG xs)) ?_
   rw [zdB,decide_eq_true (by omega)]
   rfl
 | dict kvs=>exact za7 (b:=true) (zdV (zha (zad rfl))) (fun _=>zax zae (za3 rfl)) (fun z=>by cases z)
 | _=>exact za7 (b:=true) (zdV (zbg (zad rfl) rfl)) (fun _=>zax zae (za3 rfl)) (fun z=>by cases z)
theorem zdN:∀ {xs:List D},xs.all whB=true->∃ ns:List Int,xs=ns.map PyData.int
 | [],_=>⟨[],rfl⟩
 | x :: r,h=>by
  rw [List.all_cons,Bool.and_eq_true] at h
  obtain ⟨ns,rfl⟩:=zdN h.2
  cases x with
  | int i=>exact ⟨i :: ns,rfl⟩
  | _=>have z:=h.1;cases z
theorem zeb (ns:List Int):(ns.map PyData.int).all natB=ns.all fun i=>decide (0<=i):=by rw [List.all_map];rfl
section
variable {cs:List Int} {ls:List (List (List Int))} {V:Int->Int->Int} {qs:List (Int × Int)}
theorem zgJ (g:Good cs ls) (hq:∀ q ∈ qs,(0<=q.1/\q.1 < ls.length)/\0<=q.2/\q.2 < cs.length) (hV:∀ q ∈ qs,0<=V q.1 q.2/\V q.1 q.2 < 18446744073709551616) {d:D} (hs:ShP d):F_bm [zaA cs ls,wtD V qs,d]=some (.bool (letB cs.length ls.length V qs d)):=by
 refine za8 (ρ:=[some (.pub (zaA cs ls)),some (.pub (wtD V qs)),some (.pub d),none,none]) rfl ?_
 unfold g_bm letB
 have c1:=g.c1
 have l1:=g.l1
 have c6:=g.c6
 have l7:=g.l7
 apply zaN
 cases d with
 | tuple xs =>
  refine za7 (b:=!decide (xs.length=3)) (ρ1:=[some (.pub (zaA cs ls)),some (.pub (wtD V qs)),some (.pub (.tuple xs)),none,none]) ?_ (fun hh=>?_) (fun hh=>?_)
  ·refine (zck (zbg (zad rfl) rfl) (zam (za2 rfl zfn) zae zda)).trans ?_
   rw [show decide ((xs.length:Int)=3)=decide (xs.length=3) from decide_eq_decide.mpr (by omega)]
  ·have h3 : ¬ xs.length=3:=by simpa using hh
   refine zax zae (za3 ?_)
   rw [zh8 h3]
   rfl
  ·have h3:xs.length=3:=by simpa using hh
   obtain ⟨t,a,p,rfl⟩:=zh7 h3
   obtain ⟨ha,hp⟩:=hs t a p rfl
   refine zbs (zau ?_)
   have i0:oIx (.tuple [t,a,p]) (.int 0)=some t:=za1 (j:=0) rfl
   have i1:oIx (.tuple [t,a,p]) (.int 1)=some a:=za1 (j:=1) rfl
   have i2:oIx (.tuple [t,a,p]) (.int 2)=some p:=za1 (j:=2) rfl
   have hpb:papB cs.length ls.length (.tuple [t,a,p])=(posB t && (nlB ls.length a && nlB cs.length p)):=rfl
   apply zaN
   cases t with
   | int tm =>
    refine za7 (b:=decide (tm < 1)) (ρ1:=[some (.pub (zaA cs ls)),some (.pub (wtD V qs)),some (.pub (.tuple [.int tm,a,p])),none,none]) (zck (zb2 (zbq (zat (zab (zaV rfl zae i0) zaj) rfl (zdc (.int tm))))) (zam (zaV rfl zae i0) zae rfl)) (fun hh=>?_) (fun hh=>?_)
    ·have:tm < 1:=of_decide_eq_true hh
     refine zax zae (za3 ?_)
     rw [hpb]
     show _=Out.rt (.bool ((decide (1<=tm) && _) && _))
     rw [decide_eq_false (by omega)]
     rfl
    ·have htm : ¬ tm < 1:=of_decide_eq_false hh
     have hpos:posB (.int tm)=true:=decide_eq_true (by omega)
     refine zbs (zau ?_)
     have r1:=zic (n:=ls.length) ha
     have r2:=zic (n:=cs.length) hp
     apply zaN
     refine za7 (b:=!rowB ls.length a || !rowB cs.length p) (ρ1:=[some (.pub (zaA cs ls)),some (.pub (wtD V qs)),some (.pub (.tuple [.int tm,a,p])),none,none])
      (zpO (zb2 (zbq (zat (zab (zaV rfl zae i1) (zab (zaQ (zab (zaV rfl zae zd4) zaj) (by rw [zaH,List.length_map])) zaj)) rfl r1))) (fun _=>zb2 (zbq (zat (zab (zaV rfl zae i2) (zab (zaQ (zab (zaV rfl zae ziM) zaj) (by rw [zaH,List.length_map])) zaj)) rfl r2)))) (fun hh=>?_) (fun hh=>?_)
     ·refine zax zae (za3 ?_)
      have hno:(nlB ls.length a && nlB cs.length p)=false:=by
       cases hb:(nlB ls.length a && nlB cs.length p) with
       | false=>rfl
       | true =>
        rw [Bool.and_eq_true] at hb
        obtain ⟨as,rfl,h1,_⟩:=zfM hb.1
        obtain ⟨ps,rfl,h2,_⟩:=zfM hb.2
        have e1:(as.map PyData.int).all whB=true:=by rw [List.all_map];exact List.all_eq_true.mpr fun _ _=>rfl
        have e2:(ps.map PyData.int).all whB=true:=by rw [List.all_map];exact List.all_eq_true.mpr fun _ _=>rfl
        rw [zdB,zdB,List.length_map,List.length_map,h1,h2,e1,e2] at hh
        simp at hh
      rw [hpb,hno,Bool.and_false]
      rfl
     ·rw [Bool.or_eq_false_iff] at hh
      obtain ⟨hh1,hh2⟩:=hh
      have ga:∃ as:List Int,a=.list (as.map PyData.int)/\as.length=ls.length:=by
       cases a with
       | list xs =>
        have hh1:(!(decide (xs.length=ls.length) && xs.all whB))=false:=hh1
        simp only [Bool.not_eq_false',Bool.and_eq_true,decide_eq_true_eq] at hh1
        obtain ⟨ns,rfl⟩:=zdN hh1.2
        exact ⟨ns,rfl,by have:=hh1.1;rw [List.length_map] at this;exact this⟩
       | _=>cases hh1
      have gp:∃ ps:List Int,p=.list (ps.map PyData.int)/\ps.length=cs.length:=by
       cases p with
       | list xs =>
        have hh2:(!(decide (xs.length=cs.length) && xs.all whB))=false:=hh2
        simp only [Bool.not_eq_false',Bool.and_eq_true,decide_eq_true_eq] at hh2
        obtain ⟨ns,rfl⟩:=zdN hh2.2
        exact ⟨ns,rfl,by have:=hh2.1;rw [List.length_map] at this;exact this⟩
       | _=>cases hh2
      obtain ⟨as,rfl,hal⟩:=ga
      obtain ⟨ps,rfl,hpl⟩:=gp
      refine zbs (zau ?_)
      have hmin:zhd [.list ((as ++ ps).map PyData.int)]=some (.int (zcI (as ++ ps))):=zlN (by rw [List.length_append];omega)
      have hadd:oAdd (.list (as.map PyData.int)) (.list (ps.map PyData.int))=some (.list ((as ++ ps).map PyData.int)):=by
       rw [List.map_append]
       exact zbU (by rw [List.length_map,List.length_map];omega)
      have hnl:(nlB ls.length (.list (as.map PyData.int)) && nlB cs.length (.list (ps.map PyData.int)))=decide (¬ zcI (as ++ ps) < 0):=by
       show ((decide ((as.map PyData.int).length=ls.length) && (as.map PyData.int).all natB) && (decide ((ps.map PyData.int).length=cs.length) && (ps.map PyData.int).all natB))=_
       rw [List.length_map,List.length_map,hal,hpl,zeb,zeb,decide_eq_true rfl,decide_eq_true rfl,Bool.true_and,Bool.true_and,← List.all_append]
       by_cases hneg:zcI (as ++ ps) < 0
       ·rw [decide_eq_false (by omega)]
        refine Bool.eq_false_iff.mpr fun hall=>?_
        have hm:=zeC (ns:=as ++ ps) (by rw [List.length_append];omega)
        have:=of_decide_eq_true (List.all_eq_true.mp hall _ hm)
        omega
       ·rw [decide_eq_true hneg]
        refine List.all_eq_true.mpr fun x hx=>decide_eq_true ?_
        have:=zfv hx
        omega
      apply zaN
      refine za7 (b:=decide (zcI (as ++ ps) < 0)) (ρ1:=[some (.pub (zaA cs ls)),some (.pub (wtD V qs)),some (.pub (papD tm as ps)),none,none]) (zam (zaQ (zab (zam (zaV rfl zae i1) (zaV rfl zae i2) hadd) zaj) hmin) zae rfl) (fun hh=>?_) (fun hh=>?_)
      ·have hneg:zcI (as ++ ps) < 0:=of_decide_eq_true hh
       refine zax zae (za3 ?_)
       rw [hpb,hnl,decide_eq_false (by omega),Bool.and_false]
       rfl
      ·have hneg : ¬ zcI (as ++ ps) < 0:=of_decide_eq_false hh
       rw [hpb,hnl,decide_eq_true hneg,hpos]
       refine zbs (zau ?_)
       show Ho _ _ (fun o'=>o'=.rt (.bool (qs.all fun q=>decide (tm * V q.1 q.2<=nthI (.list (as.map PyData.int)) q.1+nthI (.list (ps.map PyData.int)) q.2))))
       have key:∀ q:Int × Int,(decide (tm * V q.1 q.2<=nthI (.list (as.map PyData.int)) q.1+nthI (.list (ps.map PyData.int)) q.2)) = !decide (as.getD q.1.toNat 0+ps.getD q.2.toNat 0 < tm * V q.1 q.2):=fun q=>by
        rw [zcZ,zcZ]
        by_cases z:tm * V q.1 q.2<=as.getD q.1.toNat 0+ps.getD q.2.toNat 0
        ·rw [decide_eq_true z,decide_eq_false (by omega)];rfl
        ·rw [decide_eq_false z,decide_eq_true (by omega)];rfl
       simp only [key]
       apply zaN
       apply zbW (fun j ρ=>(∃ x y,ρ = [some (.pub (zaA cs ls)),some (.pub (wtD V qs)),some (.pub (papD tm as ps)),x,y])/\∀ q ∈ qs.take j,¬ as.getD q.1.toNat 0+ps.getD q.2.toNat 0 < tm * V q.1 q.2)
       case h1=>exact zht (zad rfl) zhs
       case h0=>exact ⟨⟨none,none,rfl⟩,fun q h=>by simp at h⟩
       case hst =>
        rintro j d ρ hj ⟨⟨x,y,rfl⟩,hb⟩
        rw [List.getElem?_map] at hj
        cases hz:qs[j]? with
        | none=>rw [hz] at hj;cases hj
        | some q =>
        rw [hz] at hj
        cases hj
        have hqm:=List.mem_of_getElem? hz
        have hin:=hq q hqm
        have hv:=hV q hqm
        refine ⟨_,tg_T rfl (tg_C (tg_N (of_decide_eq_true rfl) rfl) (tg_C (tg_N (of_decide_eq_true rfl) rfl) tg_0)),?_⟩
        unfold zkn
        refine za7 (b:=decide (as.getD q.1.toNat 0+ps.getD q.2.toNat 0 < tm * V q.1 q.2)) (ρ1:=[some (.pub (zaA cs ls)),some (.pub (wtD V qs)),some (.pub (papD tm as ps)),some (.pub (.int q.1)),some (.pub (.int q.2))]) (zam (zam (zam (zaV rfl zae i1) (zad rfl) (zdM hin.1.1 (by omega))) (zam (zaV rfl zae i2) (zad rfl) (zdM hin.2.1 (by omega))) zaw) (zam (zaV rfl zae i0) (zam (zad rfl) (zcS (zab (zad rfl) (zab (zad rfl) zaj)) (of_decide_eq_true rfl)) (zkZ hqm)) (zb9 (by omega) (by omega))) rfl) (fun hh=>?_) (fun hh=>?_)
        ·refine zax zae (zfo (za3 ?_))
         congr 2
         symm
         refine Bool.eq_false_iff.mpr fun hall=>?_
         have:=List.all_eq_true.mp hall q hqm
         rw [hh] at this
         cases this
        ·refine zbs (zbc ⟨⟨_,_,rfl⟩,fun q' hq'=>?_⟩)
         have hjl:j < qs.length:=(List.getElem?_eq_some_iff.mp hz).1
         rw [List.take_succ_eq_append_getElem hjl] at hq'
         rcases List.mem_append.mp hq' with h | h
         ·exact hb q' h
         ·rw [List.mem_singleton] at h
          have:qs[j]=q:=(List.getElem?_eq_some_iff.mp hz).2
          rw [h,this]
          exact of_decide_eq_false hh
       case hend =>
        rintro ρ ⟨⟨x,y,rfl⟩,hb⟩
        rw [List.length_map,List.take_length] at hb
        refine zau (zax zae ?_)
        congr 2
        symm
        exact List.all_eq_true.mpr fun q hqm=>by rw [decide_eq_false (hb q hqm)];rfl
   | _=>exact za7 (b:=true) (zdV (zk1 (zat (zab (zaV rfl zae i0) zaj) rfl (zdc _)) rfl)) (fun _=>zax zae (za3 rfl)) (fun z=>by cases z)
 | dict kvs=>exact za7 (b:=true) (zdV (zha (zad rfl))) (fun _=>zax zae (za3 rfl)) (fun z=>by cases z)
 | _=>exact za7 (b:=true) (zdV (zbg (zad rfl) rfl)) (fun _=>zax zae (za3 rfl)) (fun z=>by cases z)
end
theorem zk2 {tm:Int} {as ps:List Int} (h1:as.length<=1000) (h2:ps.length<=1000):ShP (papD tm as ps):=by
 intro t a p e
 have e:PyData.tuple [.int tm,.list (as.map PyData.int),.list (ps.map PyData.int)]=.tuple [t,a,p]:=e
 injection e with e
 injection e with _ e
 injection e with ea e
 injection e with ep _
 subst ea ep
 exact ⟨fun xs e=>by cases e;rw [List.length_map];exact h1,fun xs e=>by cases e;rw [List.length_map];exact h2⟩
theorem znE {b:Bool}:oNe (.bool b) (.bool b)=some false:=zny rfl (by simp [PyData.depth])
structure OkP (n m:Nat) (V:Int->Int->Int) (qs:List (Int × Int)) (tm:Int) (as ps:List Int):Prop where
 t0:0<=tm
 la:as.length=m
 lp:ps.length=n
 aa:∀ a ∈ as,0<=a
 pp:∀ p ∈ ps,0<=p
 le:∀ q ∈ qs,tm * V q.1 q.2<=as.getD q.1.toNat 0+ps.getD q.2.toNat 0
theorem znF {n m:Nat} {V:Int->Int->Int} {qs:List (Int × Int)} {tm:Int} {as ps:List Int}:letB n m V qs (papD tm as ps)=true ↔ 1<=tm/\OkP n m V qs tm as ps:=by
 have e:letB n m V qs (papD tm as ps)=((decide (1<=tm) && ((decide ((as.map PyData.int).length=m) && (as.map PyData.int).all natB) && (decide ((ps.map PyData.int).length=n) && (ps.map PyData.int).all natB))) && qs.all fun q=>decide (tm * V q.1 q.2<=nthI (.list (as.map PyData.int)) q.1+nthI (.list (ps.map PyData.int)) q.2)):=rfl
 rw [e,zeb,zeb,List.length_map,List.length_map]
 simp only [Bool.and_eq_true,decide_eq_true_eq,List.all_eq_true,zcZ]
 constructor
 ·rintro ⟨⟨h1,⟨h2,h3⟩,h4,h5⟩,h6⟩
  exact ⟨h1,⟨by omega,h2,h4,h3,h5,h6⟩⟩
 ·rintro ⟨h1,h⟩
  exact ⟨⟨h1,⟨h.la,h.aa⟩,h.lp,h.pp⟩,h.le⟩
section
variable {cs:List Int} {ls:List (List (List Int))} {o:Ord} {old:Option (List (Option Int))} {ts:List Int} {ws:List (Option Int)}
end
theorem znG {i1 i2 i3:Nat} {f1:M D} {f2 f3:M (List D)} {ρ ρ1 ρ2 ρ3 ρ':DEnv} {d1:D} {d2 d3:List D} (c0:zcb ρ = true) (h1:f1 ρ = .ok d1 ρ1) (c1:zcb ρ1=true) (h2:f2 ρ1=.ok d2 ρ2) (c2:zcb ρ2=true) (h3:f3 ρ2=.ok d3 ρ3) (c3:zcb ρ3=true) (l:i1 < ρ3.length/\i2 < ρ3.length/\i3 < ρ3.length) (e:((ρ3.set i1 (some (.pub d1))).set i2 (some (.own d2))).set i3 (some (.own d3)) = ρ'):zkm i1 i2 i3 f1 f2 f3 ρ = .nx ρ':=by
 unfold zkm
 rw [if_pos c0,h1]
 dsimp only
 rw [if_pos c1,h2]
 dsimp only
 rw [if_pos c2,h3]
 dsimp only
 rw [if_pos ⟨c3,l⟩,e]
theorem zdY {tm:Int} {as ps:List Int} {at_ st:Int} (h0:0<=at_) (h1:at_ < 1+as.length+ps.length):∃ r,F_bo [papD tm as ps,.int at_,.int st]=some r/\∃ tm' as' ps',r=papD tm' as' ps'/\as'.length=as.length/\ps'.length=ps.length/\(at_=0->tm'=tm+st/\as'=as/\ps'=ps):=by
 refine zeV (ρ:=[some (.pub (papD tm as ps)),some (.pub (.int at_)),some (.pub (.int st)),none,none,none]) rfl ?_
 unfold g_bo
 let S0:Option Sl:=some (.pub (papD tm as ps))
 let S1:Option Sl:=some (.pub (.int at_))
 let S2:Option Sl:=some (.pub (.int st))
 let A:Option Sl:=some (.own (as.map PyData.int))
 let P:Option Sl:=some (.own (ps.map PyData.int))
 refine zaq (ρ1:=[S0,S1,S2,some (.pub (.int tm)),A,P]) (znG rfl (zaV rfl zae zp1) rfl (zay (zab (zaV rfl zae zo4) zaj) (zby rfl)) rfl (zay (zab (zaV rfl zae zo5) zaj) (zby rfl)) rfl ⟨of_decide_eq_true rfl,of_decide_eq_true rfl,of_decide_eq_true rfl⟩ rfl) ?_
 have fin:∀ (tm':Int) (as' ps':List Int),as'.length=as.length->ps'.length=ps.length->(at_=0->tm'=tm+st/\as'=as/\ps'=ps)->Ho (sRet (mTup (zaf (dVar 3) (zaf (dVar 4) (zaf (dVar 5) (mNil)))))) [S0,S1,S2,some (.pub (.int tm')),some (.own (as'.map PyData.int)),some (.own (ps'.map PyData.int))] (fun o=>∃ d,o=.rt d/\∃ tm' as' ps',d=papD tm' as' ps'/\as'.length=as.length/\ps'.length=ps.length/\(at_=0->tm'=tm+st/\as'=as/\ps'=ps)):=fun tm' as' ps' e1 e2 e3 =>
  zax (zcS (zab (zad rfl) (zab (zbE rfl rfl) (zab (zbE rfl rfl) zaj))) (of_decide_eq_true rfl)) ⟨_,rfl,tm',as',ps',rfl,e1,e2,e3⟩
 have hla:(as.map PyData.int).length=as.length:=List.length_map _
 have hlp:(ps.map PyData.int).length=ps.length:=List.length_map _
 apply zaN
 refine za7 (ρ1:=[S0,S1,S2,some (.pub (.int tm)),A,P]) (zbj rfl zae zce) (fun hh=>?_) (fun hh=>?_)
 ·exact zbr (zaM (zam (zad rfl) (zad rfl) zaw) (of_decide_eq_true rfl) rfl) (zau (fin _ as ps rfl rfl fun _=>⟨rfl,rfl,rfl⟩))
 ·have hn : ¬ at_=0:=of_decide_eq_false hh
  refine za7 (b:=decide (at_<=((as.map PyData.int).length:Nat))) (ρ1:=[S0,S1,S2,some (.pub (.int tm)),A,P]) (zbj rfl (zeu rfl) rfl) (fun hh=>?_) (fun hh=>?_)
  ·have hle:at_<=((as.map PyData.int).length:Nat):=of_decide_eq_true hh
   rw [hla] at hle
   have hx:=zdM (ns:=as) (k:=at_ - 1) (by omega) (by omega)
   refine zbr (zg5 (ρ':=[S0,S1,S2,some (.pub (.int tm)),some (.own ((as.set (at_ - 1).toNat (as.getD (at_ - 1).toNat 0+st)).map PyData.int)),P]) (zam (zdT rfl (zam (zad rfl) zae zbd) rfl hx) (zad rfl) zaw) rfl (zam (zad rfl) zae zbd) rfl ⟨by omega,by rw [hla];omega⟩ ?_) (zau (fin _ _ ps (List.length_set ..) rfl fun e=>absurd e hn))
   rw [List.map_set]
   rfl
  ·have hle : ¬ at_<=((as.map PyData.int).length:Nat):=of_decide_eq_false hh
   rw [hla] at hle
   have hx:=zdM (ns:=ps) (k:=at_ - 1 - (as.map PyData.int).length) (by rw [hla];omega) (by rw [hla];omega)
   refine zbr (zg5 (ρ':=[S0,S1,S2,some (.pub (.int tm)),A,some (.own ((ps.set (at_ - 1 - ((as.map PyData.int).length:Nat)).toNat (ps.getD (at_ - 1 - ((as.map PyData.int).length:Nat)).toNat 0+st)).map PyData.int))]) (zam (zdT rfl (zam (zam (zad rfl) zae zbd) (zeu rfl) zbd) rfl hx) (zad rfl) zaw) rfl (zam (zam (zad rfl) zae zbd) (zeu rfl) zbd) rfl ⟨by rw [hla];omega,by rw [hla,hlp];omega⟩ ?_) (zau (fin _ as _ rfl (List.length_set ..) fun e=>absurd e hn))
   rw [List.map_set]
   rfl
theorem zl5:∀ ns:List Int,ns.length<=63->F_bp [.list (ns.map PyData.int)]=some (.bool true):=by
 intro ns hns
 refine za8 (ρ:=[some (.pub (.list (ns.map PyData.int))),none,none,none,none,none,none,none,none,none,none]) rfl ?_
 unfold g_bp
 obtain ⟨r,hr,cs,ls,rfl,g,_⟩:=zgy 4 4 4 (ns:=ns) (by omega) 1
 have l7:=g.l7;have c6:=g.c6
 refine zaq (zaM (zat (zab (zad rfl) (zab zae (zab zae (zab zae (zab zae zaj))))) rfl hr) (of_decide_eq_true rfl) rfl) ?_
 obtain ⟨v,hv⟩:=zcn ns 0 (by omega)
 obtain ⟨r,ha,o,old,ts,rfl,ga⟩:=zlU g v 5
 refine zaq (zaM (zat (zab (zad rfl) (zab (zat (zab (zad rfl) (zab zae zaj)) rfl hv) (zab zae zaj))) rfl ha) (of_decide_eq_true rfl) rfl) ?_
 refine zaq (zaM (zat (zab (zad rfl) (zab (zad rfl) zaj)) rfl (zfK g ga)) (of_decide_eq_true rfl) rfl) ?_
 refine zaq (zaM (zat (zab (zad rfl) zaj) rfl (znB g)) (of_decide_eq_true rfl) rfl) ?_
 let V:=worV ls o old ts
 let qs:=allW 0 ls
 let S0:Option Sl:=some (.pub (.list (ns.map PyData.int)))
 let S1:Option Sl:=some (.pub (zaA cs ls))
 let S2:Option Sl:=some (.pub (aimD o old ts))
 let S3:Option Sl:=some (.pub (wtD V qs))
 apply zaN
 apply zbW (fun _ ρ=>∃ y5 y6 y7 y8 y9 y10,ρ = [S0,S1,S2,S3,S1,y5,y6,y7,y8,y9,y10])
 case h1=>exact zct (zab zae zaj) (zb0 (by decide) (by decide))
 case h0=>exact ⟨_,_,_,_,_,_,rfl⟩
 case hst =>
  rintro i d ρ hi ⟨y5,y6,y7,y8,y9,y10,rfl⟩
  obtain ⟨rfl,_⟩:=zbC hi
  refine ⟨_,tg_N (of_decide_eq_true rfl) (by walk_at "set"),?_⟩
  unfold zkB
  rw [Int.zero_add]
  obtain ⟨c,hc⟩:=zcn ns (6+i) (by omega)
  have hc':F_az [.list (ns.map PyData.int),.int (6+(i:Int))]=some (.int c):=by rw [← hc];congr 3
  obtain ⟨r,hp,tm,as,ps,rfl,pp⟩:=ziR (V:=V) g (zhw g) (by have:=zhu g;omega) c (31+(i:Int)) (lo:=0) (by decide)
  have hla:=pp.la;have hlp:=pp.lp
  let S5:Option Sl:=some (.pub (.int i))
  let S6:Option Sl:=some (.pub (papD tm as ps))
  refine zaq (ρ1:=[S0,S1,S2,S3,S1,S5,S6,y7,y8,y9,y10]) (zaM (zat (zab (zad rfl) (zab (zad rfl) (zab (zat (zab (zad rfl) (zab (zam zae (zad rfl) zaw) zaj)) rfl hc') (zab (zam zae (zad rfl) zaw) (zab zae zaj))))) rfl hp) (of_decide_eq_true rfl) rfl) ?_
  have hok:letB cs.length ls.length V qs (papD tm as ps)=true:=znF.mpr ⟨pp.t1,⟨by have:=pp.t1;omega,pp.la,pp.lp,fun a h=>by have:=pp.aa a h;omega,pp.pp,fun q h=>by have:=pp.le q h;omega⟩⟩
  have hz:F_bo [papD tm as ps,.int 0,.int 0]=some (papD tm as ps):=by
   obtain ⟨r,h1,tm',as',ps',rfl,_,_,e⟩:=zdY (tm:=tm) (as:=as) (ps:=ps) (at_:=0) (st:=0) (Int.le_refl _) (by omega)
   obtain ⟨e1,e2,e3⟩:=e rfl
   rw [h1,e1,e2,e3,Int.add_zero]
  have hl:=zib (o:=o) g ga (d:=papD tm as ps) (zk2 (by omega) (by omega))
  have hl:F_ay [zaA cs ls,aimD o old ts,papD tm as ps]=some (.bool true):=by rw [hl];exact congrArg (fun b=>some (PyData.bool b)) hok
  apply zaN
  refine za7 (b:=false) (ρ1:=[S0,S1,S2,S3,S1,S5,S6,y7,y8,y9,y10]) (zam (zat (zab (zad rfl) (zab (zad rfl) (zab (zat (zab (zad rfl) (zab zae (zab zae zaj))) rfl hz) zaj))) rfl hl) zae rfl) (fun z=>by cases z) fun _=>zbs (zau ?_)
  apply zbW (fun _ ρ=>∃ y7 y8 y9 y10,ρ = [S0,S1,S2,S3,S1,S5,S6,y7,y8,y9,y10])
  case h1=>exact zct (zab (zam (zam zae (zaQ (zab (zaV rfl zae zo4) zaj) zaH) zaw) (zaQ (zab (zaV rfl zae zo5) zaj) zaH) zaw) zaj) (zb0 (by rw [List.length_map,List.length_map];omega) (by omega))
  case h0=>exact ⟨_,_,_,_,rfl⟩
  case hst =>
   rintro j d ρ hj ⟨y7,y8,y9,y10,rfl⟩
   obtain ⟨rfl,hjl⟩:=zbC hj
   rw [List.length_map,List.length_map] at hjl
   refine ⟨_,tg_N (of_decide_eq_true rfl) (by walk_at "set"),?_⟩
   unfold zkA
   rw [Int.zero_add]
   let S7:Option Sl:=some (.pub (.int j))
   apply zbW (fun _ ρ=>∃ y8 y9 y10,ρ = [S0,S1,S2,S3,S1,S5,S6,S7,y8,y9,y10])
   case h1=>exact zaT (zbt (zab zae (zab (zeT zae) zaj)) (of_decide_eq_true rfl)) zbz
   case h0=>exact ⟨_,_,_,rfl⟩
   case hst =>
    rintro b d ρ hb ⟨y8,y9,y10,rfl⟩
    obtain ⟨st,rfl⟩:∃ st:Int,d=.int st:=by
     have hm:=List.mem_of_getElem? hb
     simp only [List.mem_cons,List.not_mem_nil,or_false] at hm
     rcases hm with rfl | rfl <;> exact ⟨_,rfl⟩
    refine ⟨_,tg_N (of_decide_eq_true rfl) (by walk_at "set"),?_⟩
    unfold zkz
    obtain ⟨r,hch,tm',as',ps',rfl,ea,ep,_⟩:=zdY (tm:=tm) (as:=as) (ps:=ps) (at_:=(j:Int)) (st:=st) (by omega) (by omega)
    have hs:ShP (papD tm' as' ps'):=zk2 (by omega) (by omega)
    let S8:Option Sl:=some (.pub (.int st))
    let S9:Option Sl:=some (.pub (papD tm' as' ps'))
    let q:Bool:=letB cs.length ls.length V qs (papD tm' as' ps')
    refine zaq (ρ1:=[S0,S1,S2,S3,S1,S5,S6,S7,S8,S9,y10]) (zaM (zat (zab (zad rfl) (zab (zad rfl) (zab (zad rfl) zaj))) rfl hch) (of_decide_eq_true rfl) rfl) ?_
    refine zaq (ρ1:=[S0,S1,S2,S3,S1,S5,S6,S7,S8,S9,some (.pub (.bool q))]) (zaM (zat (zab (zad rfl) (zab (zad rfl) (zab (zad rfl) zaj))) rfl (zib g ga hs)) (of_decide_eq_true rfl) rfl) ?_
    exact za7 (b:=false) (ρ1:=[S0,S1,S2,S3,S1,S5,S6,S7,S8,S9,some (.pub (.bool q))]) (zck (zbg (zad rfl) rfl) (zbj rfl (zat (zab (zad rfl) (zab (zad rfl) (zab (zad rfl) zaj))) rfl (zgJ g (zhw g) (fun q hq=>zia g ga hq) hs)) znE)) (fun z=>by cases z) fun _=>zbs (zbc ⟨_,_,_,rfl⟩)
   case hend =>
    rintro ρ ⟨y8,y9,y10,rfl⟩
    exact zbc ⟨_,_,_,_,rfl⟩
  case hend =>
   rintro ρ ⟨y7,y8,y9,y10,rfl⟩
   exact zbc ⟨_,_,_,_,_,_,rfl⟩
 case hend =>
  rintro ρ ⟨y5,y6,y7,y8,y9,y10,rfl⟩
  refine zau ?_
  exact zax (zaW (x:=true) (zbj rfl (zad rfl) (znC (zlO cs ls) (zlP cs ls)))) rfl
end W
open PySem PySem.W PyProof.Rows
set_option maxRecDepth 100000 in
set_option maxHeartbeats 0 in
theorem PySem.Challenge.cw_wishdeal_k37_one_number_changed_holds : PySem.Challenge.rw_wishdeal_k37_one_number_changed.Holds := by
 w_on;o_law
 refine holds_open (q:=W.q0) (loose:=[]) (Xt:=fun s=>xlAt W.q0 [] s && recOk [] s) (XP:=XL W.q0 []) (Yf:=Hook.obs .none) (Ya:=Hook.val .none) (YP:=Hook.says .none) (N:=4318) (d:=W.d_bp) (kwd:=[])
  W.zo8 (Hook.of .none) (Hook.keeps .none) (fun s e=>xl_of s (Bool.and_eq_true_iff.mp e).1) XL.keeps (by rfl) (by rfl) (by rfl)
  (fun s e=>recFacts_of (Bool.and_eq_true_iff.mp e).2) (by rfl) (by assumption) (by decide +kernel) ⟨rfl,rfl,rfl,rfl,rfl,by decide +kernel⟩ ?hw (W.walk W.zl5)
 case hw=>w_witness2


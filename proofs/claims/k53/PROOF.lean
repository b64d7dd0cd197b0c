import PyProof.Rows.All
import Wide.All
import OpenK.AllK
import Wide.FinOn
import Lean
import PyProof.EqAt
import PyProof.EqKinds
import PyProof.TupleCall
import PyProof.EnumMake
import PyProof.ZipIter
import PyProof.ExcClass2
import PyProof.ExcInit
import PyProof.ExcBaseAll.ValueError
import PyProof.FString2
import PyProof.ExcArgsOwn
import PyProof.InstStoreFacts
import ObjForm.Fk.InstStore
import ObjForm.Fk.InstLoad
import PyProof.StationsW
import PyProof.RulesAs
import PyProof.NsDelKeeps
import OpenK.KMore
import PyProof.IsiBase
import OpenK.KNot
import PyProof.Rows.RuleN_isinstance
import PyProof.NeData
import PyProof.P3In
import PyProof.StrWalks
import PyProof.ConsumeWalk
import PyProof.SliceStr2
import PyProof.MeetsStr
import KE.KItem
import KE.KUnpack
import KE.KRevSl
import PyProof.Rows.SetFrom
import PyProof.SetRoads
import PyProof.Rows.Range3
import PyProof.CallType
import PyProof.Rows.CallKwBuiltin
import PyProof.Rows.MinMaxN
import PyProof.SumWalkG
import PyProof.Rows.SeqMore
import PyProof.Rows.SortWalk
import PyProof.Rows.SumAny
import PyProof.Rows.SeqMore2
import KE.KSortTup
import PyProof.Rows.SortShellK
import PyProof.ReprRoads
import PyProof.ReprBulk
import PyProof.CallFns
import PyProof.NeKinds
import PyProof.Rows.StrJoinMade
import PyProof.StrCalls
import KE.KIntText
import PyProof.ReprDict
import PyProof.DictIter
import PyProof.Rows.DictUnroll
import PySem.Challenge.RW_wishdeal_k53_whole_no_dealing_beyond_a_c
set_option Elab.async false
set_option linter.all false
set_option maxRecDepth 100000
set_option maxHeartbeats 4000000
namespace DL
open PySem PySem.Spec PySem.W PyProof.Rows
def topRunT (tb:String->Option Builtin) (p:Program) (w:World) (m:Nat) (ann:Option Value):Nat->SharedT->Thread->Option SharedT
 | 0,_,_=>none
 | n+1,s,t=>match through t,stepOk m ann t with
  | true,_=>some s
  | false,false=>none
  | false,true=>match stepT (denote tb) p w s t with
   | some x=>topRunT tb p w m ann n x.1 x.2
   | none=>none
theorem zeb {tb:String->Option Builtin} {p:Program} {w:World} {m:Nat} {ann:Option Value}:∀ {n:Nat} {s s':SharedT} {t:Thread},topRunT tb p w m ann n s t=some s'->topRun tb p w m ann n s.abs t=some s'.abs
 | 0,_,_,_,h=>by cases h
 | n+1,s,s',t,h=>by
  rw [topRunT] at h
  rw [topRun]
  cases ht:through t with
  | true=>rw [ht] at h;cases h;rfl
  | false =>
   rw [ht] at h
   cases hk:stepOk m ann t with
   | false=>rw [hk] at h;cases h
   | true =>
    rw [hk] at h
    dsimp only at h ⊢
    cases hs:stepT (denote tb) p w s t with
    | none=>rw [hs] at h;cases h
    | some x=>rw [hs] at h;rw [stepT_spec hs];exact zeb h
def btOf (l:List Obj):BT:=(l.foldl (fun (x:BT × Nat) o=>(x.1.ins x.2 o,x.2+1)) (.nil,0)).1
noncomputable def T0 (w:World) (os:OsState):SharedT:=⟨btOf (boot_heap w.params).objs.toList,11,(boot_heap w.params).life,#[],boot_drawn,boot_toks,os⟩
theorem zli (w:World) (os:OsState):(T0 w os).abs=⟨boot_heap w.params,#[],boot_drawn,boot_toks,os⟩:=by kernel_rfl
theorem zje (w:World):((boot_heap w.params).isNs mainGlobals && (#[]:Array GenState).size == 0,(boot_heap w.params).objs.size,(boot_heap w.params).nsMap mainGlobals "__annotations__")=(true,11,some (.ref 6)):=by kernel_rfl
noncomputable abbrev zo0 (p q:Program) (loose:List Str) (Xt:Shared->Bool) (w:World) (t:SharedT) :=
 ((staticsOk (importedModules p.main.body) (boot_heap w.params) t.abs.heap && namesBound p t.abs.heap && gensDone t.abs && laidKept (boot_heap w.params) t.abs.heap),openSeen q loose (importedModules p.main.body) Xt true t.abs)
theorem zmK {p q:Program} {loose:List Str} {Xt:Shared->Bool} {N M:Nat} (e:opening p=plainProg p.main.scope.names) (hN:Nat.ble 600 N=true) (f:∀ s,fenceModules? p s=some s) (le:Nat.ble M N=true)
  (run:∀ (w:World) (os:OsState),(topRunT treeTable p w 11 (some (.ref 6)) M (T0 w os) (topStub p)).map (zo0 p q loose Xt w)=some (true,openGood q loose)):LeftO p q loose Xt (Hook.obs .none) (Hook.val .none) N:=fun w=>by
 obtain ⟨⟨h,gs,d,k,os⟩,e0,e'⟩:=Option.map_eq_some_iff.mp (boot_open e hN f w)
 have e':(h,gs,d,k)=(boot_heap w.params,#[],boot_drawn,boot_toks):=e'
 obtain ⟨rfl,rfl,rfl,rfl⟩:h=boot_heap w.params/\gs = #[]/\d=boot_drawn/\k=boot_toks:=by simpa only [Prod.mk.injEq] using e'
 obtain ⟨t,ht,l⟩:=Option.map_eq_some_iff.mp (run w os)
 have hr:=zeb ht
 rw [zli] at hr
 have r:=topRun_mono (N - M) _ _ _ _ hr
 rw [show M+(N - M)=N by have:=Nat.le_of_ble_eq_true le;omega] at r
 obtain ⟨l1,l2⟩:=Prod.mk.inj l
 have z:=zje w
 obtain ⟨z1,z2,z3⟩:_/\_/\_:=by simpa only [Prod.mk.injEq] using z
 have tf:topFrom treeTable p w N ⟨boot_heap w.params,#[],boot_drawn,boot_toks,os⟩=some t.abs:=by
  unfold topFrom
  dsimp only
  rw [z1,z2,z3,r]
  show (match staticsOk (importedModules p.main.body) (boot_heap w.params) t.abs.heap && namesBound p t.abs.heap && gensDone t.abs && laidKept (boot_heap w.params) t.abs.heap with | true=>some t.abs | false=>none)=_
  rw [l1]
 unfold openEnds
 rw [e0]
 show (topFrom treeTable p w N _).map _=_
 rw [tf]
 exact congrArg some (Prod.ext l2 rfl)
end DL
open PySem in
lay_quick PySem.Challenge.pw_wishdeal_k53_whole_no_dealing_beyond_a_c DL.topRunT PySem.W.openGood PySem.W.staticsOk PySem.W.namesBound PySem.W.laidKept PySem.W.xlAt
namespace W
open PySem PySem.Spec DL
abbrev p0:Program:=PySem.Challenge.pw_wishdeal_k53_whole_no_dealing_beyond_a_c
def zev:List Nat:=[1,2,4,5,7,8,9,10,11,12,13,14,15,16,17,19,21,23,24,25,26,27,28,29,30,31,32,34,35,36,38,39,40,42,43,44,45,46,47,48,49,50,51,52,53,54,55]
def ixL:List Nat:=[1,2,11,12,13,14,15,16,17,19,21,23,24,25,26,27,28,29,30,31,32,34,35,36,38,39,40,42,43,44,45,46,47,48,49,50,51,52,53,54,55]
abbrev q0:Program:=PySem.W.view p0 zev
theorem zo1:∀ (w:World) (os:OsState),(PySem.W.Fast.tw10708255244068714335 PySem.W.Fast.tw14364793385576792824 PySem.W.Fast.tw18214400947036521647 w 11 (some (.ref 6)) 1910 (T0 w os) (PySem.W.topStub PySem.W.Fast.tw18214400947036521647)).map (fun t=>((PySem.W.Fast.tw13471830651028734593 (PySem.W.Fast.tw5923862056798008813 (Program.main PySem.W.Fast.tw18214400947036521647).body) (PySem.W.boot_heap w.params) t.abs.heap && PySem.W.Fast.tw4683006035507612052 PySem.W.Fast.tw18214400947036521647 t.abs.heap && PySem.W.gensDone t.abs && PySem.W.Fast.tw16898566250750103049 (PySem.W.boot_heap w.params) t.abs.heap),PySem.W.Fast.tw4187177175401517315 (PySem.W.view PySem.W.Fast.tw18214400947036521647 zev) [] (PySem.W.Fast.tw5923862056798008813 (Program.main PySem.W.Fast.tw18214400947036521647).body) (fun s=>PySem.W.Fast.tw4757257242682413121 (PySem.W.view PySem.W.Fast.tw18214400947036521647 zev) [] s && PySem.W.recOk [] s) true t.abs))=some (true,PySem.W.Fast.tw3486900944545009338 (PySem.W.view PySem.W.Fast.tw18214400947036521647 zev) []):=by
 intro w os
 kernel_rfl
theorem zo2:PySem.W.LeftO p0 q0 [] (fun s=>PySem.W.xlAt q0 [] s && PySem.W.recOk [] s) (PySem.W.Hook.obs .none) (PySem.W.Hook.val .none) 3720:=by
 refine zmK (M:=1910) (by kernel_rfl) rfl (fun s=>by kernel_rfl) rfl fun w os=>?_
 have h:=zo1 w os
 rw [← PySem.W.Fast.te10708255244068714335,← PySem.W.Fast.te14364793385576792824,← PySem.W.Fast.te4187177175401517315,← PySem.W.Fast.te5923862056798008813,← PySem.W.Fast.te13471830651028734593,← PySem.W.Fast.te4683006035507612052,← PySem.W.Fast.te16898566250750103049,← PySem.W.Fast.te4757257242682413121,← PySem.W.Fast.te3486900944545009338,← PySem.W.Fast.te18214400947036521647] at h
 exact h
end W
namespace L2
open PySem PySem.Spec PyProof.Rows
abbrev Key:=Sum Int Str
def znE:Key->Value->Bool
 | .inl k,v=>Value.isInt k v
 | .inr x,v=>Value.isStrOf x v
def keyH (w:World):Key->Int
 | .inl k=>hashInt k
 | .inr x=>hashStr w x
theorem zbq:∀ {k:Key} {v:Value},znE k v=true->(∃ i t,k=Sum.inl i/\v=Value.int i t) ∨ (∃ x t,k=Sum.inr x/\v=Value.str x t)
 | .inl i,v,h=>by
  obtain ⟨t,e⟩:=Value.isInt_shape (k:=i) (v:=v) h
  exact .inl ⟨i,t,rfl,e⟩
 | .inr x,v,h=>by
  obtain ⟨t,e⟩:=Value.isStrOf_shape (x:=x) (v:=v) h
  exact .inr ⟨x,t,rfl,e⟩
theorem znF (a b:Int):decide ((Sum.inl a:Key)=Sum.inl b)=(a == b):=by
 by_cases e:a=b
 ·subst e;simp
 ·have h : ¬ (Sum.inl a:Key)=Sum.inl b:=fun q=>e (Sum.inl.inj q)
  rw [decide_eq_false h]
  exact (beq_eq_false_iff_ne.mpr e).symm
theorem znG (a b:Str):decide ((Sum.inr a:Key)=Sum.inr b)=decide (a=b):=by
 by_cases e:a=b
 ·subst e;simp
 ·have h : ¬ (Sum.inr a:Key)=Sum.inr b:=fun q=>e (Sum.inr.inj q)
  rw [decide_eq_false h,decide_eq_false e]
theorem znH (a:Int) (b:Str):decide ((Sum.inl a:Key)=Sum.inr b)=false:=decide_eq_false (fun q=>nomatch q)
theorem znI (a:Str) (b:Int):decide ((Sum.inr a:Key)=Sum.inl b)=false:=decide_eq_false (fun q=>nomatch q)
def zg8 (prog:Program) (w:World):PySem.KeyKind prog w Key where
 is:=znE
 hash:=keyH w
 inj:=fun v a b ha hb=>by
  rcases zbq ha with ⟨i,t,rfl,rfl⟩ | ⟨x,t,rfl,rfl⟩
  ·rcases zbq hb with ⟨j,u,rfl,e⟩ | ⟨y,u,rfl,e⟩
   ·injection e with e1 _;rw [e1]
   ·exact nomatch e
  ·rcases zbq hb with ⟨j,u,rfl,e⟩ | ⟨y,u,rfl,e⟩
   ·exact nomatch e
   ·injection e with e1 _;rw [e1]
 byValue:=fun k v h=>by
  rcases zbq h with ⟨i,t,rfl,rfl⟩ | ⟨x,t,rfl,rfl⟩ <;> rfl
 pyHash:=fun hv h=>by
  rcases zbq hv with ⟨i,t,rfl,rfl⟩ | ⟨x,t,rfl,rfl⟩
  ·exact wpAny_pyHash_int h
  ·exact wpAny_pyHash_str h
 eqBool:=fun hu hv h=>by
  rcases zbq hu with ⟨i,t,rfl,rfl⟩ | ⟨x,t,rfl,rfl⟩
  ·rcases zbq hv with ⟨j,u,rfl,rfl⟩ | ⟨y,u,rfl,rfl⟩
   ·rw [znF] at h;exact wpAny_eqBool_int h
   ·rw [znH] at h;exact SeqAt.EqAt.int_str i t y u _ _ _ _ h
  ·rcases zbq hv with ⟨j,u,rfl,rfl⟩ | ⟨y,u,rfl,rfl⟩
   ·rw [znI] at h;exact SeqAt.EqAt.str_int x t j u _ _ _ _ h
   ·rw [znG] at h;exact wpAny_eqBool_str h
 «strs»:=fun k x t v h=>by
  rcases zbq h with ⟨i,u,rfl,e⟩ | ⟨y,u,rfl,e⟩
  ·exact nomatch e
  ·injection e with e1 _
   subst e1
   cases v <;> rfl
inductive V where
 | non | bl (b:Bool) | int (i:Int) | str (x:Str) | byt (b:Array UInt8) | flt (b:UInt64) | ref (a:Addr) | ty (n:String)
 deriving DecidableEq
def RelV:V->Value->Prop
 | .non,u=>u=Value.none
 | .bl b,u=>u=Value.bool b
 | .int i,u=>∃ t,u=Value.int i t
 | .str x,u=>∃ t,u=Value.str x t
 | .byt b,u=>∃ t,u=Value.bytes b t
 | .flt b,u=>∃ t,u=Value.float b t
 | .ref a,u=>u=Value.ref a
 | .ty n,u=>u=Value.type n
abbrev Vals:List V->List Value->Prop:=Paired RelV
theorem Vals.length {xs:List V} {us:List Value} (r:Vals xs us):xs.length=us.length:=Paired.length r
theorem Vals.get:∀ {xs:List V} {us:List Value} {i:Nat} {x:V},Vals xs us->xs[i]?=some x->∃ u,us[i]?=some u/\RelV x u
 | _,_,_,_,.nil,e=>by simp at e
 | _,_,0,_,.cons r _,e=>by simp at e;subst e;exact ⟨_,rfl,r⟩
 | _,_,i+1,x,.cons _ t,e=>by
  obtain ⟨u,h1,h2⟩:=Vals.get (i:=i) (x:=x) t (by simpa using e)
  exact ⟨u,by simpa using h1,h2⟩
theorem Vals.set {x:V} {u:Value} (r:RelV x u):∀ {xs:List V} {us:List Value} (i:Nat),Vals xs us->Vals (xs.set i x) (us.set i u)
 | _,_,_,.nil=>.nil
 | _,_,0,.cons _ t=>.cons r t
 | _,_,i+1,.cons q t=>.cons q (Vals.set r i t)
theorem Vals.append:∀ {xs ys:List V} {us ws:List Value},Vals xs us->Vals ys ws->Vals (xs ++ ys) (us ++ ws)
 | _,_,_,_,.nil,s=>s
 | _,_,_,_,.cons r t,s=>.cons r (Vals.append t s)
theorem Vals.take:∀ {xs:List V} {us:List Value} (n:Nat),Vals xs us->Vals (xs.take n) (us.take n)
 | _,_,0,_=>.nil
 | _,_,_+1,.nil=>.nil
 | _,_,n+1,.cons r t=>.cons r (Vals.take n t)
theorem Vals.drop:∀ {xs:List V} {us:List Value} (n:Nat),Vals xs us->Vals (xs.drop n) (us.drop n)
 | _,_,0,r=>r
 | _,_,_+1,.nil=>.nil
 | _,_,n+1,.cons _ t=>Vals.drop n t
def RelO:Option V->Option Value->Prop
 | some v,some u=>RelV v u
 | none,none=>True
 | _,_=>False
def KV {κ : Type}:List (κ × V)->List (κ × Value)->Prop:=Paired fun (p : κ × V) (q : κ × Value)=>p.1=q.1/\RelV p.2 q.2
def kV:Key->V
 | .inl i=>.int i
 | .inr x=>.str x
inductive HO where
  | lst (xs:List V)
  | tup (xs:List V)
  | dK (kvs:List (Key × V)) | dT (kvs:List (List Key × V))
  | set (S:Int->Bool) (n:Nat)
  | ins (C dx:Addr) (fs:List (Str × V))
  | own (x:Addr)
  | xd (fs:List (Str × V))
  | met (f x:Addr)
  | rng (lo hi:Int)
  | frz (o:Obj) (u:HO)
  | tbl (ps:Array Value)
  | ext (φ : Heap->Prop)
abbrev Hp:=Addr->Option HO
def upd (H:Hp) (a:Addr) (o:HO):Hp:=fun b=>if b=a then some o else H b
theorem zaL {H:Hp} {a:Addr} {o:HO}:upd H a o a=some o:=by unfold upd;rw [if_pos rfl]
theorem zaR {H:Hp} {a b:Addr} {o:HO} (h:b ≠ a):upd H a o b=H b:=by unfold upd;rw [if_neg h]
theorem za5 {H:Hp} {a b:Addr} {o:HO} (h:H a=some o) (h':H b=none):a ≠ b:=by
 intro e;subst e;rw [h] at h';cases h'
section
variable (P:Program) (w:World)
def zcw (H:Hp) (h:Heap) (a:Addr):HO->Prop
 | .lst xs=>xs.length<=sizeLine/\∃ (its:List Value) (n:Nat),Vals xs its/\h.get? a=some { cls:=.type "list", data:=.seq its.toArray n }
 | .tup xs=>xs.length<=sizeLine/\∃ its:List Value,Vals xs its/\IsTup h a its.toArray
 | .dK kvs=>kvs.length<=sizeLine/\(a == sysModules)=false/\∃ vs,KV kvs vs/\h.DictOf (zg8 P w) a vs
 | .dT kvs=>kvs.length<=sizeLine/\(a == sysModules)=false/\∃ xs:List (List Key × Addr × Value),
   Paired (fun (p:List Key × V) (q:List Key × Addr × Value)=>p.1=q.1/\H q.2.1=some (.tup (p.1.map kV))/\RelV p.2 q.2.2) kvs xs /\
   ∃ o es ep,h.get? a=some o/\o.ExactDict/\o.data=.dict es ep/\es.toList=xs.map (entryOfKey (tupleKind (zg8 P w)))/\(xs.map (·.1)).Nodup
 | .set S n=>h.SetOf (intKind P w) a S n
 | .ins C dx fs=>H dx=some (.own a)/\fs.length<=1000/\dx ≠ a/\h.get? a=some (PySem.W.instObj C dx) /\
   ∃ mA,h.Ns1 dx mA/\(∀ f,RelO (fs.lookup f) (mA f))/\PySem.Within mA (fs.map (·.1))
 | .own _=>∃ o,h.get? a=some o
 | .xd fs=>∃ mA,h.Ns1 a mA/\∀ f,RelO (fs.lookup f) (mA f)
 | .rng lo hi=>∃ t u v,h.get? a=some { cls:=.type "range", data:=.fields #[.int lo t,.int hi u,.int 1 v] }
 | .frz o u=>h.get? a=some o/\zcw H h a u
 | .tbl ps=>h.get? a=some { cls:=.none,data:=.fields ps }
 | .met f x=>h.get? a=some (PySem.W.methodObj (.ref f) (.ref x))
 | .ext φ=>φ h/\(∃ o,h.get? a=some o)/\∀ h1 h2:Heap,φ h1->(∀ o,h1.get? a=some o->h2.get? a=some o) -> φ h2
def HOk (H:Hp) (h:Heap):Prop:=∀ a o,H a=some o->zcw P w H h a o
end
section
variable {P:Program} {w:World} {H H':Hp} {h h':Heap} {a:Addr} {o:HO}
theorem zcw.lt (x:zcw P w H h a o):a < h.objs.size:=by
 cases o with
 | lst xs=>obtain ⟨_,_,_,_,e⟩:=x;exact Heap.lt_size e
 | tup xs=>obtain ⟨_,_,_,p⟩:=x;exact p.lt
 | dK kvs=>obtain ⟨_,_,_,_,o,_,_,e,_⟩:=x;exact Heap.lt_size e
 | dT kvs=>obtain ⟨_,_,_,_,o,_,_,e,_⟩:=x;exact Heap.lt_size e
 | set S n=>obtain ⟨o,_,_,_,e,_⟩:=x;exact Heap.lt_size e
 | ins C dx fs=>obtain ⟨_,_,_,e,_⟩:=x;exact Heap.lt_size e
 | own y=>obtain ⟨_,e⟩:=x;exact Heap.lt_size e
 | xd fs=>obtain ⟨_,⟨_,_,_,e,_⟩,_⟩:=x;exact Heap.lt_size e
 | rng lo hi=>obtain ⟨_,_,_,e⟩:=x;exact Heap.lt_size e
 | frz ob u=>obtain ⟨e,_⟩:=x;exact Heap.lt_size e
 | tbl ps=>exact Heap.lt_size (show h.get? a=some _ from x)
 | met f y=>exact Heap.lt_size (show h.get? a=some _ from x)
 | ext φ=>obtain ⟨_,⟨_,e⟩,_⟩:=x;exact Heap.lt_size e
theorem Paired.mapP {α β : Type} {F G : α -> β -> Prop}:∀ {l₁ : List α} {l₂ : List β},Paired F l₁ l₂ -> (∀ a b,F a b->G a b)->Paired G l₁ l₂
 | _,_,.nil,_=>.nil
 | _,_,.cons r t,f=>.cons (f _ _ r) (Paired.mapP t f)
theorem zcw.stay (x:zcw P w H h a o) (k:∀ b u,(b=a ∨ H b=some (.own a))->h.get? b=some u->h'.get? b=some u)
  (ho:∀ b,H b=some (.own a)->H' b=some (.own a)) (ht:∀ b xs,H b=some (.tup xs)->H' b=some (.tup xs)):zcw P w H' h' a o:=by
 induction o with
 | lst xs=>obtain ⟨z,its,n,r,e⟩:=x;exact ⟨z,its,n,r,k _ _ (.inl rfl) e⟩
 | tup xs=>obtain ⟨z,its,r,ob,e,c⟩:=x;exact ⟨z,its,r,ob,k _ _ (.inl rfl) e,c⟩
 | dK kvs=>obtain ⟨z,y,vs,r,ob,es,ep,e,c⟩:=x;exact ⟨z,y,vs,r,ob,es,ep,k _ _ (.inl rfl) e,c⟩
 | dT kvs =>
  obtain ⟨z,y,xs,r,ob,es,ep,e,c⟩:=x
  exact ⟨z,y,xs,Paired.mapP r fun p q z=>⟨z.1,ht _ _ z.2.1,z.2.2⟩,ob,es,ep,k _ _ (.inl rfl) e,c⟩
 | set S n=>obtain ⟨ob,es,ep,t,e,c⟩:=x;exact ⟨ob,es,ep,t,k _ _ (.inl rfl) e,c⟩
 | ins C dx fs =>
  obtain ⟨d,z,ne,e,mA,⟨od,es,ep,e2,c⟩,r⟩:=x
  exact ⟨ho _ d,z,ne,k _ _ (.inl rfl) e,mA,⟨od,es,ep,k _ _ (.inr d) e2,c⟩,r⟩
 | own y=>obtain ⟨ob,e⟩:=x;exact ⟨ob,k _ _ (.inl rfl) e⟩
 | xd fs=>obtain ⟨mA,⟨od,es,ep,e,c⟩,r⟩:=x;exact ⟨mA,⟨od,es,ep,k _ _ (.inl rfl) e,c⟩,r⟩
 | rng lo hi=>obtain ⟨t,u,v,e⟩:=x;exact ⟨t,u,v,k _ _ (.inl rfl) e⟩
 | frz ob u ih=>obtain ⟨e,q⟩:=x;exact ⟨k _ _ (.inl rfl) e,ih q⟩
 | tbl ps =>
  have e:h.get? a=some { cls:=.none,data:=.fields ps }:=x
  show h'.get? a=some { cls:=.none,data:=.fields ps }
  exact k a _ (.inl rfl) e
 | met f y =>
  have e:h.get? a=some (PySem.W.methodObj (.ref f) (.ref y)):=x
  show h'.get? a=some (PySem.W.methodObj (.ref f) (.ref y))
  exact k a _ (.inl rfl) e
 | ext φ=>obtain ⟨p,⟨o,e⟩,st⟩:=x;exact ⟨st _ _ p fun o q=>k _ _ (.inl rfl) q,⟨o,k _ _ (.inl rfl) e⟩,st⟩
theorem HOk.lt (x:HOk P w H h) (e:H a=some o):a < h.objs.size:=(x a o e).lt
theorem HOk.fresh (x:HOk P w H h) (e:h.objs.size<=a):H a=none:=by
 cases q:H a with
 | none=>rfl
 | some u=>exact absurd (Nat.lt_of_lt_of_le (x.lt q) e) (Nat.lt_irrefl _)
theorem HOk.kept (x:HOk P w H h) (k:∀ b u,h.get? b=some u->h'.get? b=some u):HOk P w H h':=fun a o e =>
 (x a o e).stay (fun b u _ q=>k b u q) (fun _ q=>q) fun _ _ q=>q
theorem HOk.laid (x:HOk P w H h) (k:∀ b u,h.get? b=some u->h'.get? b=some u) (hp:h.objs.size<=a) (new:zcw P w (upd H a o) h' a o):HOk P w (upd H a o) h':=fun b u e=>by
 have hn:=x.fresh hp
 by_cases hb:b=a
 ·subst hb;rw [zaL] at e;cases e;exact new
 ·rw [zaR hb] at e
  exact (x b u e).stay (fun c v _ q=>k c v q) (fun c q=>by rw [zaR (za5 q hn)];exact q) fun c xs q=>by rw [zaR (za5 q hn)];exact q
end
def Rd (H:Hp) (a:Addr) (u:HO):Prop:=H a=some u ∨ ∃ o,H a=some (.frz o u)
theorem Rd.ok {P:Program} {w:World} {H:Hp} {h:Heap} {a:Addr} {u:HO} (r:Rd H a u) (x:HOk P w H h):zcw P w H h a u:=by
 rcases r with r | ⟨o,r⟩
 ·exact x a u r
 ·obtain ⟨_,q⟩:=x a _ r
  exact q
def Mut:Option HO->Prop
 | some (.lst _)=>True
 | some (.dK _)=>True
 | some (.dT _)=>True
 | some (.set _ _)=>True
 | some (.ins _ _ _)=>True
 | some (.ext _)=>True
 | _=>False
section
variable {P:Program} {w:World} {H:Hp} {h h':Heap} {x e:Addr} {o':HO}
theorem HOk.write (ok:HOk P w H h) (mu:Mut (H x)) (he:e=x ∨ H e=some (.own x)) (k:∀ b u,b ≠ e->h.get? b=some u->h'.get? b=some u) (heo:∃ u,h'.get? e=some u)
  (new:zcw P w (upd H x o') h' x o'):HOk P w (upd H x o') h':=fun b u q=>by
 have nown:∀ c y,H c=some (.own y)->c ≠ x:=fun c y r z=>by subst z;rw [r] at mu;exact mu
 have ntup:∀ c xs,H c=some (.tup xs)->c ≠ x:=fun c xs r z=>by subst z;rw [r] at mu;exact mu
 by_cases hb:b=x
 ·subst hb;rw [zaL] at q;cases q;exact new
 ·rw [zaR hb] at q
  by_cases hbe:b=e
  ·have q':H b=some (.own x):=by
    rcases he with z | z
    ·exact absurd (hbe.trans z) hb
    ·rw [hbe];exact z
   rw [q] at q';cases q'
   obtain ⟨v,hv⟩:=heo
   exact ⟨v,by rw [hbe];exact hv⟩
  ·refine (ok b u q).stay (fun c v hc r=>k c v ?_ r) (fun c r=>by rw [zaR (nown c b r)];exact r) fun c xs r=>by rw [zaR (ntup c xs r)];exact r
   rcases hc with rfl | hc
   ·exact hbe
   ·rintro rfl
    rcases he with z | z
    ·exact nown c b hc z
    ·rw [hc] at z;cases z;exact hb rfl
end
structure Un (fs ex:List Addr) (H H':Hp) (h h':Heap):Prop where
 keep:∀ b o,h.get? b=some o->H b=none->b ∉ fs->b ∉ ex->h'.get? b=some o
 slot:∀ b o,h.get? b=some o->H b=none->b ∈ fs->b ∉ ex->∃ sl,h'.get? b=some { o with slots:=sl }
 free:∀ b o,h.get? b=some o->H b=none->b ∉ ex->H' b=none
 there:∀ b o,h.get? b=some o->b ∉ ex->∃ o',h'.get? b=some o'
 tups:∀ b xs,H b=some (.tup xs)->H' b=some (.tup xs)
 frzs:∀ b o u,H b=some (.frz o u)->H' b=some (.frz o u)
 tbls:∀ b ps,H b=some (.tbl ps)->∃ more,H' b=some (.tbl (ps ++ more))
section
variable {fs fs' ex ex':List Addr} {H H1 H2:Hp} {h h1 h2 h':Heap} {a x e:Addr} {o:HO}
theorem Un.any (u:Un fs ex H H1 h h1) {b:Addr} {ob:Obj} (q:h.get? b=some ob) (n:H b=none) (hx:b ∉ ex):∃ sl,h1.get? b=some { ob with slots:=sl }:=by
 by_cases hb:b ∈ fs
 ·exact u.slot b ob q n hb hx
 ·exact ⟨ob.slots,u.keep b ob q n hb hx⟩
theorem Un.kept (k:∀ b u,h.get? b=some u->h'.get? b=some u):Un fs ex H H h h' :=
 ⟨fun b ob q _ _ _=>k b ob q,fun b ob q _ _ _=>⟨ob.slots,k b ob q⟩,fun _ _ _ n _=>n,fun b ob q _=>⟨ob,k b ob q⟩,fun _ _ q=>q,fun _ _ _ q=>q,fun _ ps q=>⟨#[],by rw [q];simp⟩⟩
theorem Un.refl:Un fs ex H H h h:=Un.kept fun _ _ q=>q
theorem Un.laid (k:∀ b u,h.get? b=some u->h'.get? b=some u) (hp:h.objs.size<=a) (hn:H a=none):Un fs ex H (upd H a o) h h' where
 keep:=fun b u q _ _ _=>k b u q
 slot:=fun b u q _ _ _=>⟨u.slots,k b u q⟩
 free:=fun b u q n _=>by rw [zaR (Nat.ne_of_lt (Nat.lt_of_lt_of_le (Heap.lt_size q) hp))];exact n
 there:=fun b u q _=>⟨u,k b u q⟩
 tups:=fun b xs q=>by rw [zaR (za5 q hn)];exact q
 frzs:=fun b u xs q=>by rw [zaR (za5 q hn)];exact q
 tbls:=fun b ps q=>⟨#[],by rw [zaR (za5 q hn),q];simp⟩
theorem Un.write (mu:Mut (H x)) (he:e=x ∨ H e=some (.own x)) (k:∀ b u,b ≠ e->h.get? b=some u->h'.get? b=some u) (heo:∃ u,h'.get? e=some u):Un fs ex H (upd H x o) h h':=by
 have hx:∀ b,H b=none->b ≠ x:=fun b n z=>by subst z;rw [n] at mu;exact mu
 have hb:∀ b,H b=none->b ≠ e:=fun b n z=>by
  subst z
  rcases he with r | r
  ·exact hx b n r
  ·rw [n] at r;cases r
 have hm:∀ b u,H b=some u -> ¬ Mut (some u)->b ≠ x:=fun b u q nm z=>by subst z;rw [q] at mu;exact nm mu
 refine ⟨fun b u q n _ _=>k b u (hb b n) q,fun b u q n _ _=>⟨u.slots,k b u (hb b n) q⟩,fun b u q n _=>by rw [zaR (hx b n)];exact n,fun b u q _=>?_,
  fun b xs q=>by rw [zaR (hm b _ q fun z=>z)];exact q,fun b u xs q=>by rw [zaR (hm b _ q fun z=>z)];exact q,fun b ps q=>⟨#[],by rw [zaR (hm b _ q fun z=>z),q];simp⟩⟩
 by_cases hbe:b=e
 ·subst hbe;exact heo
 ·exact ⟨u,k b u hbe q⟩
end
def trk (h:Heap) (H:Hp):List Addr:=(List.range h.objs.size).filter fun a=>(H a).isSome
def hidT (h:Heap) (H:Hp):Heap:=PySem.W.hideAll h (trk h H)
theorem zjf (h:Heap) (H:Hp):(hidT h H).objs.size=h.objs.size:=PySem.W.hideAll_size _ _
theorem zlj {h:Heap} {H:Hp} {b:Addr} {o:Obj} (e:h.get? b=some o) (n:H b=none):(hidT h H).get? b=some o :=
 PySem.W.hideAll_get _ e fun hm=>by
  have q:(H b).isSome=true:=(List.mem_filter.mp hm).2
  rw [n] at q;simp at q
theorem zmL {h:Heap} {H:Hp} {b:Addr} {o:Obj} (e:(hidT h H).get? b=some o):h.get? b=some o/\H b=none:=by
 have e':h.get? b=some o:=PySem.W.of_hideAll (trk h H) e
 refine ⟨e',?_⟩
 cases q:H b with
 | none=>rfl
 | some x =>
  have hm:b ∈ trk h H:=List.mem_filter.mpr ⟨List.mem_range.mpr (Heap.lt_size e'),by simp [q]⟩
  have z:(hidT h H).get? b=none:=PySem.W.hideAll_none (trk h H) hm
  rw [z] at e;cases e
structure Mod (K:PySem.W.Frag) (mg:Str->Option Value) (base:Heap):Prop where
 kin:K.In base
 glob:base.Ns mainGlobals mg
 blt:∃ mb,base.Ns builtinsNs mb/\∀ x:Str,x ≠ "__name__" -> mb x=bootBuiltins x
 nolimit:base.NoLimit
structure Cx where
 prog:Program
 w:World
 K:PySem.W.Frag
 mg:Str->Option Value
 base:Heap
 A:Around
 N:List Str
 s₀ : Shared
 H₀ : Hp
 env:Env
 outer:List Env
 stack:List Env
 ex:List Addr
 fn:Str->Bool
 calm:Bool
 pn:List (Addr × Obj)
 xe:Value->Shared->Prop
def frs (l:List Env):List Addr:=l.filterMap (·.frame)
abbrev Cx.fs (X:Cx):List Addr:=frs X.outer
def Vis (sc:Scope) (x:Str):Prop:=sc.names.lookup x=some .local ∨ sc.names.lookup x=some .cell ∨ sc.names.lookup x=some .free
def Loc (sc:Scope) (x:Str):Prop:=sc.names.lookup x=some .local ∨ sc.names.lookup x=some .cell
def Look (env:Env) (h:Heap) (m:Str->Option Value) (x:Str) (u:Value):Prop :=
 (env.kindOf x=some .local/\m x=some u) ∨ ((env.kindOf x=some .cell ∨ env.kindOf x=some .free)/\∃ c,env.cells.lookup x=some c/\h.IsCell c (some u))
structure Cx.Ok (X:Cx):Prop where
 mod:Mod X.K X.mg X.base
 kind:X.env.scope.kind=.function
 glob:X.env.globals=mainGlobals
 blt:X.env.builtins=builtinsNs
 above:X.s₀.heap.objs.size<=X.env.locals
 inj:∀ x y c,X.env.cells.lookup x=some c->X.env.cells.lookup y=some c->x=y
 has:∀ x,(X.env.kindOf x=some .cell ∨ X.env.kindOf x=some .free)->∃ c,X.env.cells.lookup x=some c
 cab:∀ x c,X.fn x=true->X.env.cells.lookup x=some c->X.s₀.heap.objs.size<=c
 hd:X.calm=true->X.A.handled=none
 frames:X.A.frames=some X.stack
 stk:X.stack=X.outer ∨ (X.stack=X.env :: X.outer/\X.env.frame=some X.env.locals)
 exf:∀ b ∈ X.ex,b ≠ X.env.locals/\∀ x c,X.env.cells.lookup x=some c->c ≠ b
 bs:∀ b o,X.base.get? b=some o->X.s₀.heap.get? b=some o/\X.H₀ b=none
 bsz:X.base.objs.size<=X.s₀.heap.objs.size
 noex:∀ b o,X.base.get? b=some o->b ∉ X.ex
 exfs:∀ b ∈ X.ex,b ∉ X.fs
 funs:X.s₀.heap.FunFrames X.base X.outer
 frf:∀ b ∈ X.fs,X.H₀ b=none
structure Inv (X:Cx) (pins:List (Addr × Obj)) (σ : List (Option V)) (H:Hp) (s:Shared):Prop where
 ok:X.Ok
 os:s.os=X.s₀.os
 bare:AllBare s.gens
 base:Un X.fs X.ex X.H₀ H X.s₀.heap s.heap
 loc:∃ m,s.heap.Ns X.env.locals m/\∀ (i:Nat) (x:Str) (v:V),X.N[i]?=some x -> σ[i]?=some (some v)->Vis X.env.scope x->∃ u,RelV v u/\Look X.env s.heap m x u
 cell:∀ x c,X.env.cells.lookup x=some c->∃ v,s.heap.IsCell c v
 free:H X.env.locals=none
 freeC:∀ x c,X.env.cells.lookup x=some c->H c=none
 pin:∀ p ∈ X.pn ++ pins,s.heap.get? p.1=some p.2/\H p.1=none/\p.1 ≠ X.env.locals/\p.1 ∉ X.fs/\∀ v,p.2.data ≠ .cell v
 hok:HOk X.prog X.w H s.heap
 len : σ.length=X.N.length
section
variable {X:Cx} {pins:List (Addr × Obj)} {σ : List (Option V)} {H H':Hp} {s:Shared} {h':Heap}
theorem Cx.Ok.nofr (ok:X.Ok) {b:Addr} {o:Obj} (e:X.base.get? b=some o):b ∉ X.fs:=fun hb=>by
 have:=(ok.funs.mem hb).1
 rw [e] at this;cases this
theorem Inv.bs (I:Inv X pins σ H s):∀ b o,X.base.get? b=some o->s.heap.get? b=some o/\H b=none:=fun b o e =>
 ⟨I.base.keep b o (I.ok.bs b o e).1 (I.ok.bs b o e).2 (I.ok.nofr e) (I.ok.noex b o e),I.base.free b o (I.ok.bs b o e).1 (I.ok.bs b o e).2 (I.ok.noex b o e)⟩
theorem Inv.bk (I:Inv X pins σ H s):∀ b o,X.base.get? b=some o->s.heap.get? b=some o:=fun b o e=>(I.bs b o e).1
theorem Inv.mod (I:Inv X pins σ H s):Mod X.K X.mg X.base:=I.ok.mod
theorem Inv.kIn (I:Inv X pins σ H s):X.K.In s.heap:=I.ok.mod.kin.keeps I.bk
theorem Inv.lt (I:Inv X pins σ H s):X.env.locals < s.heap.objs.size:=let ⟨_,hn,_⟩:=I.loc;hn.lt
theorem Inv.sz (I:Inv X pins σ H s):X.s₀.heap.objs.size<=s.heap.objs.size:=Nat.le_trans I.ok.above (Nat.le_of_lt I.lt)
theorem Inv.nofs (I:Inv X pins σ H s) {a:Addr} (h:s.heap.objs.size<=a):a ∉ X.fs:=fun hb=>by
 obtain ⟨_,o,ho,_⟩:=I.ok.funs.mem hb
 exact absurd (Nat.lt_of_lt_of_le (Heap.lt_size ho) (Nat.le_trans I.sz h)) (Nat.lt_irrefl _)
theorem Inv.cne (I:Inv X pins σ H s):∀ x c,X.env.cells.lookup x=some c->c ≠ X.env.locals:=fun x c e z=>by
 obtain ⟨v,o,ho,hd⟩:=I.cell x c e
 obtain ⟨m,⟨o',es,ep,ho',hd',_⟩,_⟩:=I.loc
 rw [z,ho'] at ho;cases ho;rw [hd'] at hd;cases hd
theorem Inv.funs (I:Inv X pins σ H s):s.heap.FunFrames X.base X.outer:=by
 have all:∀ (l:List Env),(∀ b ∈ frs l,b ∈ X.fs)->X.s₀.heap.FunFrames X.base l->s.heap.FunFrames X.base l:=by
  intro l
  induction l with
  | nil=>intro _ _;trivial
  | cons env r ih =>
   intro hs hl
   obtain ⟨hk,⟨L,o,hf,hn,ho,hd⟩,hr⟩:=hl
   have hL:L ∈ X.fs:=hs L (by unfold frs;rw [List.filterMap_cons,hf];exact List.mem_cons_self)
   obtain ⟨sl,e⟩:=I.base.slot L o ho (I.ok.frf L hL) hL fun z=>I.ok.exfs L z hL
   exact ⟨hk,⟨L,_,hf,hn,e,hd⟩,ih (fun b hb=>hs b (by unfold frs;rw [List.filterMap_cons,hf];exact List.mem_cons_of_mem _ hb)) hr⟩
 exact all X.outer (fun _ hb=>hb) I.ok.funs
theorem Inv.stack (I:Inv X pins σ H s):s.heap.FunFrames X.base X.stack:=by
 rcases I.ok.stk with e | ⟨e,hf⟩
 ·rw [e];exact I.funs
 ·rw [e]
  obtain ⟨m,hn,_⟩:=I.loc
  refine .cons (by rw [I.ok.kind];decide) hf hn ?_ I.funs
  exact Heap.get?_none_of_le (Nat.le_trans I.ok.bsz I.ok.above)
theorem Inv.stkSub (I:Inv X pins σ H s):∀ b ∈ frs X.stack,b ∈ X.env.locals :: X.fs:=fun b hb=>by
 rcases I.ok.stk with e | ⟨e,hf⟩
 ·rw [e] at hb;exact List.mem_cons_of_mem _ hb
 ·rw [e] at hb
  unfold frs at hb
  rw [List.filterMap_cons,hf] at hb
  exact hb
theorem Inv.stkFree (I:Inv X pins σ H s):∀ b ∈ frs X.stack,H b=none:=fun b hb=>by
 rcases List.mem_cons.mp (I.stkSub b hb) with e | hb
 ·rw [e];exact I.free
 ·obtain ⟨_,o,ho,_⟩:=I.ok.funs.mem hb
  exact I.base.free b o ho (I.ok.frf b hb) fun z=>I.ok.exfs b z hb
theorem Inv.step {g':Array GenState} {t':Nat} {d':Drawn} {ch:List Addr} (I:Inv X pins σ H s)
  (hch:∀ b ∈ ch,(b ∈ X.ex ∨ X.s₀.heap.objs.size<=b)/\b ≠ X.env.locals/\(∀ x c,X.env.cells.lookup x=some c->c ≠ b)/\∀ p ∈ X.pn ++ pins,p.1 ≠ b)
  (keep:∀ b o,b ≠ X.env.locals->b ∉ X.fs->b ∉ ch->s.heap.get? b=some o->H b=none->h'.get? b=some o)
  (slot:∀ b o,b ≠ X.env.locals->b ∈ X.fs->b ∉ ch->s.heap.get? b=some o->H b=none->∃ sl,h'.get? b=some { o with slots:=sl }) (free:∀ b o,b ∉ ch->s.heap.get? b=some o->H b=none->H' b=none)
  (there:∀ b o,b ∉ ch->s.heap.get? b=some o->∃ o',h'.get? b=some o')
  (tups:∀ b xs,H b=some (.tup xs)->H' b=some (.tup xs)) (frzs:∀ b o u,H b=some (.frz o u)->H' b=some (.frz o u)) (tbls:∀ b ps,H b=some (.tbl ps)->∃ more,H' b=some (.tbl (ps ++ more)))
  (ns:∀ m,s.heap.Ns X.env.locals m->h'.Ns X.env.locals m) (hok:HOk X.prog X.w H' h') (hg:AllBare g') :
  Inv X pins σ H' { s with heap:=h',gens:=g',drawn:=d',toks:=t' }:=by
 have neL:∀ b o,X.s₀.heap.get? b=some o->b ≠ X.env.locals:=fun b o e=>Nat.ne_of_lt (Nat.lt_of_lt_of_le (Heap.lt_size e) I.ok.above)
 have neC:∀ b o,X.s₀.heap.get? b=some o->b ∉ X.ex->b ∉ ch:=fun b o e hx hb=>by
  rcases (hch b hb).1 with z | z
  ·exact hx z
  ·exact absurd (Nat.lt_of_lt_of_le (Heap.lt_size e) z) (Nat.lt_irrefl _)
 have cellK:∀ x c,X.env.cells.lookup x=some c->∀ v,s.heap.IsCell c v->h'.IsCell c v:=fun x c e v ⟨o,ho,hd⟩=>by
  have nch:c ∉ ch:=fun z=>(hch c z).2.2.1 x c e rfl
  by_cases hc:c ∈ X.fs
  ·obtain ⟨sl,q⟩:=slot c o (I.cne x c e) hc nch ho (I.freeC x c e)
   exact ⟨_,q,hd⟩
  ·exact ⟨o,keep c o (I.cne x c e) hc nch ho (I.freeC x c e),hd⟩
 refine ⟨I.ok,I.os,hg,⟨fun b o e n hb hx=>?_,fun b o e n hb hx=>?_,fun b o e n hx=>?_,fun b o e hx=>?_,fun b xs e=>tups b xs (I.base.tups b xs e),fun b o xs e=>frzs b o xs (I.base.frzs b o xs e),fun b ps e=>?_⟩,?_,fun x c e=>?_,?_,fun x c e=>?_,fun p hp=>?_,hok,I.len⟩
 ·exact keep b o (neL b o e) hb (neC b o e hx) (I.base.keep b o e n hb hx) (I.base.free b o e n hx)
 ·obtain ⟨sl,e1⟩:=I.base.slot b o e n hb hx
  obtain ⟨sl',e2⟩:=slot b _ (neL b o e) hb (neC b o e hx) e1 (I.base.free b o e n hx)
  exact ⟨sl',e2⟩
 ·obtain ⟨o',e1⟩:=I.base.there b o e hx
  exact free b o' (neC b o e hx) e1 (I.base.free b o e n hx)
 ·obtain ⟨o',e1⟩:=I.base.there b o e hx
  exact there b o' (neC b o e hx) e1
 ·obtain ⟨m1,e1⟩:=I.base.tbls b ps e
  obtain ⟨m2,e2⟩:=tbls b _ e1
  exact ⟨m1 ++ m2,by rw [e2,Array.append_assoc]⟩
 ·obtain ⟨m,hn,hl⟩:=I.loc
  refine ⟨m,ns m hn,fun i x v e1 e2 e3=>?_⟩
  obtain ⟨u,r,l⟩:=hl i x v e1 e2 e3
  refine ⟨u,r,?_⟩
  rcases l with l | ⟨k,c,e,z⟩
  ·exact .inl l
  ·exact .inr ⟨k,c,e,cellK x c e _ z⟩
 ·obtain ⟨v,z⟩:=I.cell x c e
  exact ⟨v,cellK x c e v z⟩
 ·obtain ⟨m,⟨o,_,_,ho,_⟩,_⟩:=I.loc
  exact free _ o (fun z=>(hch _ z).2.1 rfl) ho I.free
 ·obtain ⟨v,o,ho,hd⟩:=I.cell x c e
  exact free c o (fun z=>(hch c z).2.2.1 x c e rfl) ho (I.freeC x c e)
 ·obtain ⟨e,n,ne,nf,d⟩:=I.pin p hp
  have nch:p.1 ∉ ch:=fun z=>(hch p.1 z).2.2.2 p hp rfl
  exact ⟨keep p.1 p.2 ne nf nch e n,free p.1 p.2 nch e n,ne,nf,d⟩
theorem Inv.un {t':Nat} (I:Inv X pins σ H s) (u:Un X.fs [] H H' s.heap h') (hok:HOk X.prog X.w H' h'):Inv X pins σ H' { s with heap:=h',toks:=t' }:=by
 obtain ⟨m,⟨o,es,ep,ho,r⟩,_⟩:=id I.loc
 obtain ⟨sl,hL⟩:=u.any ho I.free (by simp)
 exact I.step (g':=s.gens) (d':=s.drawn) (ch:=[]) (fun _ z=>nomatch z) (fun b o _ hb _ e n=>u.keep b o e n hb (by simp)) (fun b o _ hb _ e n=>u.slot b o e n hb (by simp)) (fun b o _ e n=>u.free b o e n (by simp)) (fun b o _ e=>u.there b o e (by simp)) u.tups u.frzs u.tbls (fun m' hm=>by
  obtain ⟨o',es',ep',ho',r'⟩:=hm
  rw [ho] at ho';cases ho'
  exact ⟨_,es',ep',hL,r'⟩) hok I.bare
theorem Inv.call {g':Array GenState} {t':Nat} {d':Drawn} {ch:List Addr} (I:Inv X pins σ H s) (u:Un (frs X.stack) ch H H' s.heap h') (hok:HOk X.prog X.w H' h') (hg:AllBare g')
  (hch:∀ b ∈ ch,(b ∈ X.ex ∨ X.s₀.heap.objs.size<=b)/\b ≠ X.env.locals/\(∀ x c,X.env.cells.lookup x=some c->c ≠ b)/\∀ p ∈ X.pn ++ pins,p.1 ≠ b) :
  Inv X pins σ H' { s with heap:=h',gens:=g',drawn:=d',toks:=t' }:=by
 obtain ⟨m,⟨o,es,ep,ho,r⟩,_⟩:=id I.loc
 obtain ⟨sl,hL⟩:=u.any ho I.free fun z=>(hch _ z).2.1 rfl
 exact I.step (ch:=ch) hch (fun b o hL hb hc e n=>u.keep b o e n (fun z=>(List.mem_cons.mp (I.stkSub b z)).elim hL hb) hc) (fun b o _ _ hc e n=>u.any e n hc) (fun b o hc e n=>u.free b o e n hc) (fun b o hc e=>u.there b o e hc) u.tups u.frzs u.tbls (fun m' hm=>by
  obtain ⟨o',es',ep',ho',r'⟩:=hm
  rw [ho] at ho';cases ho'
  exact ⟨_,es',ep',hL,r'⟩) hok hg
theorem Inv.turned {t':Nat} {it:Addr} (I:Inv X pins σ H s) (k:∀ b o,b ≠ it->s.heap.get? b=some o->h'.get? b=some o) (hn:H it=none) (hL:it ≠ X.env.locals)
  (h1:it ∈ X.ex ∨ X.s₀.heap.objs.size<=it) (h2:∀ x c,X.env.cells.lookup x=some c->c ≠ it) (h3:∀ p ∈ X.pn ++ pins,p.1 ≠ it):Inv X pins σ H { s with heap:=h',toks:=t' }:=by
 have nit:∀ b u,H b=some u->b ≠ it:=fun b u e z=>by rw [z,hn] at e;cases e
 refine I.step (g':=s.gens) (d':=s.drawn) (ch:=[it]) (fun b hb=>?_) (fun b o _ _ hc e _=>k b o (fun z=>hc (by simp [z])) e) (fun b o _ _ hc e _=>⟨o.slots,k b o (fun z=>hc (by simp [z])) e⟩) (fun _ _ _ _ n=>n)
  (fun b o hc e=>⟨o,k b o (fun z=>hc (by simp [z])) e⟩) (fun _ _ e=>e) (fun _ _ _ e=>e) (fun b ps e=>⟨#[],by rw [e];simp⟩) (fun m hm=>?_) (fun b u e=>?_) I.bare
 ·have e:b=it:=by simpa using hb
  subst e
  exact ⟨h1,hL,h2,h3⟩
 ·obtain ⟨o,es,ep,ho,r⟩:=hm
  exact ⟨o,es,ep,k _ o (Ne.symm hL) ho,r⟩
 ·refine (I.hok b u e).stay (fun c v hc q=>k c v ?_ q) (fun _ q=>q) fun _ _ q=>q
  rcases hc with z | z
  ·rw [z];exact nit b u e
  ·exact nit c _ z
theorem Inv.tok (I:Inv X pins σ H s) (t:Nat):Inv X pins σ H { s with toks:=t }:=I.un (h':=s.heap) (t':=t) Un.refl I.hok
theorem Inv.kept {t':Nat} (I:Inv X pins σ H s) (k:∀ b u,s.heap.get? b=some u->h'.get? b=some u):Inv X pins σ H { s with heap:=h',toks:=t' }:=I.un (Un.kept k) (I.hok.kept k)
theorem Inv.laid {a:Addr} {o:HO} {t':Nat} (I:Inv X pins σ H s) (k:∀ b u,s.heap.get? b=some u->h'.get? b=some u) (hp:s.heap.objs.size<=a) (new:zcw X.prog X.w (upd H a o) h' a o) :
  Inv X pins σ (upd H a o) { s with heap:=h',toks:=t' }:=I.un (Un.laid k hp (I.hok.fresh hp)) (I.hok.laid k hp new)
theorem Inv.write {x e:Addr} {o:HO} {t':Nat} (I:Inv X pins σ H s) (mu:Mut (H x)) (he:e=x ∨ H e=some (.own x)) (k:∀ b u,b ≠ e->s.heap.get? b=some u->h'.get? b=some u) (heo:∃ u,h'.get? e=some u)
  (new:zcw X.prog X.w (upd H x o) h' x o):Inv X pins σ (upd H x o) { s with heap:=h',toks:=t' }:=I.un (Un.write mu he k heo) (I.hok.write mu he k heo new)
theorem Inv.pins_of {pins':List (Addr × Obj)} (I:Inv X pins σ H s) (h:∀ p ∈ pins',s.heap.get? p.1=some p.2/\H p.1=none/\p.1 ≠ X.env.locals/\p.1 ∉ X.fs/\∀ v,p.2.data ≠ .cell v):Inv X pins' σ H s :=
 ⟨I.ok,I.os,I.bare,I.base,I.loc,I.cell,I.free,I.freeC,fun p hp=>(List.mem_append.mp hp).elim (fun z=>I.pin p (List.mem_append_left _ z)) (h p),I.hok,I.len⟩
theorem zhO {N:List Str} (hN:N.Nodup) {i j:Nat} {x:Str} (a:N[i]?=some x) (b:N[j]?=some x):i=j:=by
 obtain ⟨h1,e1⟩:=List.getElem?_eq_some_iff.mp a
 obtain ⟨h2,e2⟩:=List.getElem?_eq_some_iff.mp b
 exact (List.getElem_inj hN).mp (e1.trans e2.symm)
theorem zew {M:Model} {A:Around} {E:Value->Shared->Prop} {i:Nat} {x:Str} {v:V} {u:Value} {Q:Unit->Shared->Prop} (I:Inv X pins σ H s) (hN:X.N.Nodup) (hi:X.N[i]?=some x) (hx:Loc X.env.scope x) (r:RelV v u)
  (h:∀ s',Inv X pins (σ.set i (some v)) H s'->(∃ a,Heap.SameBut a s.heap s'.heap/\(a=X.env.locals ∨ X.env.cells.lookup x=some a))->Q () s') (hf:X.fn x=true ∨ X.env.scope.names.lookup x=some .local:=by first | exact .inl rfl | exact .inr rfl | assumption):wpAny M A (storeName X.env x u) Q E s:=by
 obtain ⟨m,hn,hl⟩:=id I.loc
 have hcls:(X.env.scope.kind == .class || (X.env.scope.kind == .module && X.env.locals != X.env.globals))=false:=by rw [I.ok.kind];rfl
 have hiσ : i < σ.length:=by rw [I.len];exact (List.getElem?_eq_some_iff.mp hi).1
 have cne:=I.cne
 have tracked:∀ {a:Addr} {h':Heap},(∃ o,s.heap.get? a=some o/\H a=none)->Heap.SameBut a s.heap h'->HOk X.prog X.w H h':=fun {a h'} ha hs b ob e=>by
  obtain ⟨_,_,hfree⟩:=ha
  refine (I.hok b ob e).stay (fun c w' hc q=>(hs.2 c ?_).trans q) (fun _ q=>q) fun _ _ q=>q
  rintro rfl
  rcases hc with rfl | hc
  ·rw [hfree] at e;cases e
  ·rw [hfree] at hc;cases hc
 rcases hx with hk | hk
 ·refine wpAny_storeName_local hk hn (fun h' hn' hs=>?_) hcls
  obtain ⟨oL,_,_,hoL,_⟩:=id hn
  refine h _ ⟨I.ok,I.os,I.bare,⟨fun b o e n hb hx=>?_,fun b o e n hb hx=>?_,I.base.free,fun b o e hx=>?_,I.base.tups,I.base.frzs,I.base.tbls⟩,⟨_,hn',fun j y v' e1 e2 e3=>?_⟩,fun y c e=>?_,I.free,I.freeC,fun p hp=>?_,tracked ⟨oL,hoL,I.free⟩ hs,by simpa using I.len⟩ ⟨_,hs,.inl rfl⟩
  ·exact (hs.2 b (Nat.ne_of_lt (Nat.lt_of_lt_of_le (Heap.lt_size e) I.ok.above))).trans (I.base.keep b o e n hb hx)
  ·obtain ⟨sl,e1⟩:=I.base.slot b o e n hb hx
   exact ⟨sl,(hs.2 b (Nat.ne_of_lt (Nat.lt_of_lt_of_le (Heap.lt_size e) I.ok.above))).trans e1⟩
  ·obtain ⟨o',e1⟩:=I.base.there b o e hx
   exact ⟨o',(hs.2 b (Nat.ne_of_lt (Nat.lt_of_lt_of_le (Heap.lt_size e) I.ok.above))).trans e1⟩
  ·by_cases hj:j=i
   ·subst hj
    rw [hi] at e1;cases e1
    rw [List.getElem?_set_self hiσ] at e2
    cases e2
    exact ⟨u,r,.inl ⟨hk,by simp⟩⟩
   ·rw [List.getElem?_set_ne (Ne.symm hj)] at e2
    obtain ⟨u',r',q⟩:=hl j y v' e1 e2 e3
    refine ⟨u',r',?_⟩
    rcases q with ⟨k,e⟩ | ⟨k,c,e,z⟩
    ·refine .inl ⟨k,?_⟩
     have:y ≠ x:=fun e=>hj (zhO hN e1 (e ▸ hi))
     simp [this,e]
    ·exact .inr ⟨k,c,e,z.sameBut hs (cne y c e)⟩
  ·obtain ⟨w',z⟩:=I.cell y c e
   exact ⟨w',z.sameBut hs (cne y c e)⟩
  ·obtain ⟨e,n,ne,nf,d⟩:=I.pin p hp
   exact ⟨(hs.2 p.1 ne).trans e,n,ne,nf,d⟩
 ·have hfn:X.fn x=true:=by
   rcases hf with z | z
   ·exact z
   ·rw [z] at hk;cases hk
  obtain ⟨c,hc⟩:=I.ok.has x (.inl hk)
  obtain ⟨w',z⟩:=I.cell x c hc
  refine wpAny_storeName_cell I.ok.kind hk hc z (fun h' hc' hs=>?_)
  obtain ⟨oc,hoc,hocd⟩:=id z
  refine h { s with heap:=h' } ⟨I.ok,I.os,I.bare,⟨fun b o e n hb hx=>?_,fun b o e n hb hx=>?_,I.base.free,fun b o e hx=>?_,I.base.tups,I.base.frzs,I.base.tbls⟩,⟨m,hn.sameBut hs (Ne.symm (cne x c hc)),fun j y v' e1 e2 e3=>?_⟩,fun y c' e=>?_,I.free,I.freeC,fun p hp=>?_,tracked ⟨oc,hoc,I.freeC x c hc⟩ hs,by simpa using I.len⟩ ⟨c,hs,.inr hc⟩
  ·exact (hs.2 b (Nat.ne_of_lt (Nat.lt_of_lt_of_le (Heap.lt_size e) (I.ok.cab x c hfn hc)))).trans (I.base.keep b o e n hb hx)
  ·obtain ⟨sl,e1⟩:=I.base.slot b o e n hb hx
   exact ⟨sl,(hs.2 b (Nat.ne_of_lt (Nat.lt_of_lt_of_le (Heap.lt_size e) (I.ok.cab x c hfn hc)))).trans e1⟩
  ·obtain ⟨o',e1⟩:=I.base.there b o e hx
   exact ⟨o',(hs.2 b (Nat.ne_of_lt (Nat.lt_of_lt_of_le (Heap.lt_size e) (I.ok.cab x c hfn hc)))).trans e1⟩
  ·by_cases hj:j=i
   ·subst hj
    rw [hi] at e1;cases e1
    rw [List.getElem?_set_self hiσ] at e2
    cases e2
    exact ⟨u,r,.inr ⟨.inl hk,c,hc,hc'⟩⟩
   ·rw [List.getElem?_set_ne (Ne.symm hj)] at e2
    obtain ⟨u',r',q⟩:=hl j y v' e1 e2 e3
    refine ⟨u',r',?_⟩
    rcases q with q | ⟨k,c',e,z'⟩
    ·exact .inl q
    ·refine .inr ⟨k,c',e,z'.sameBut hs ?_⟩
     rintro rfl
     exact hj (zhO hN e1 (I.ok.inj _ _ _ e hc ▸ hi))
  ·by_cases hcc:c'=c
   ·subst hcc;exact ⟨_,hc'⟩
   ·obtain ⟨w2,z2⟩:=I.cell y c' e
    exact ⟨w2,z2.sameBut hs hcc⟩
  ·obtain ⟨e,n,ne,nf,d⟩:=I.pin p hp
   refine ⟨(hs.2 p.1 ?_).trans e,n,ne,nf,d⟩
   intro q
   rw [q,hoc] at e
   have q':oc=p.2:=Option.some.inj e
   exact d w' (by rw [← q'];exact hocd)
theorem zhP {M:Model} {A:Around} {E:Value->Shared->Prop} {i:Nat} {x:Str} {v:V} {u:Value} {Q:Unit->Shared->Prop} (I:Inv X pins σ H s) (hN:X.N.Nodup) (hi:X.N[i]?=some x) (hx:Loc X.env.scope x) (r:RelV v u)
  (h:∀ s',Inv X pins (σ.set i (some v)) H s'->Q () s') (hf:X.fn x=true ∨ X.env.scope.names.lookup x=some .local:=by first | exact .inl rfl | exact .inr rfl | assumption):wpAny M A (storeName X.env x u) Q E s :=
 zew I hN hi hx r (fun s' I' _=>h s' I') hf
theorem Inv.call' {s':Shared} {ch:List Addr} (I:Inv X pins σ H s) (ho:s'.os=s.os) (u:Un (frs X.stack) ch H H' s.heap s'.heap) (hok:HOk X.prog X.w H' s'.heap) (hg:AllBare s'.gens)
  (hch:∀ b ∈ ch,(b ∈ X.ex ∨ X.s₀.heap.objs.size<=b)/\b ≠ X.env.locals/\(∀ x c,X.env.cells.lookup x=some c->c ≠ b)/\∀ p ∈ X.pn ++ pins,p.1 ≠ b):Inv X pins σ H' s':=by
 obtain ⟨h',g',d',t',o'⟩:=s'
 have e:o'=s.os:=ho
 subst e
 exact I.call (g':=g') (t':=t') (d':=d') u hok hg hch
end
abbrev XK:=Value->Option Addr->Hp->Prop
abbrev St:=List (Option V)
abbrev VK:=V->Hp->Prop
abbrev TE:=St->Hp->VK->Prop
abbrev TT:=St->Hp->(Bool->Hp->Prop)->Prop
abbrev TA:=St->Hp->(List V->Hp->Prop)->Prop
structure Ends where
 nx:St->Hp->Prop
 rt:VK
 bk:St->Hp->Prop:=fun _ _=>False
 ct:St->Hp->Prop:=fun _ _=>False
abbrev TS:=Ends->St->Hp->Prop
def EP (X:Cx) (pins:List (Addr × Obj)) (σ : St) (Q:VK) (u:Value) (s':Shared):Prop:=∃ v H',Inv X pins σ H' s'/\RelV v u/\Q v H'
def TP (X:Cx) (pins:List (Addr × Obj)) (σ : St) (Q:Bool->Hp->Prop) (b:Bool) (s':Shared):Prop:=∃ H',Inv X pins σ H' s'/\Q b H'
def AP (X:Cx) (pins:List (Addr × Obj)) (σ : St) (Q:List V->Hp->Prop) (us:List Value) (s':Shared):Prop:=∃ vs H',Inv X pins σ H' s'/\Vals vs us/\Q vs H'
def SP (X:Cx) (pins:List (Addr × Obj)) (D:Ends) (f:Flow) (s':Shared):Prop :=
 match f with
 | .next=>∃ σ' H',Inv X pins σ' H' s'/\D.nx σ' H'
 | .brk=>∃ σ' H',Inv X pins σ' H' s'/\D.bk σ' H'
 | .cont=>∃ σ' H',Inv X pins σ' H' s'/\D.ct σ' H'
 | .ret u=>∃ v σ' H',Inv X pins σ' H' s'/\RelV v u/\D.rt v H'
def PE (X:Cx) (e:Expr) (t:TE):Prop :=
 ∀ (pins:List (Addr × Obj)) (s:Shared) (σ : St) (H:Hp) (Q:VK),Inv X pins σ H s->t σ H Q->wpAny (model X.prog X.w) X.A (eval e X.env) (EP X pins σ Q) X.xe s
def PT (X:Cx) (e:Expr) (t:TT):Prop :=
 ∀ (pins:List (Addr × Obj)) (s:Shared) (σ : St) (H:Hp) (Q:Bool->Hp->Prop),Inv X pins σ H s->t σ H Q->wpAny (model X.prog X.w) X.A (isTrue e X.env (eval e X.env)) (TP X pins σ Q) X.xe s
def PW (X:Cx) (e:Expr) (t:TT):Prop :=
 ∀ (whole:Sem Value) (pins:List (Addr × Obj)) (s:Shared) (σ : St) (H:Hp) (Q:Bool->Hp->Prop),Inv X pins σ H s->t σ H Q->wpAny (model X.prog X.w) X.A (isTrue e X.env whole) (TP X pins σ Q) X.xe s
theorem PW.pt {X:Cx} {e:Expr} {t:TT} (h:PW X e t):PT X e t:=h _
def PA (X:Cx) (es:List Expr) (t:TA):Prop :=
 ∀ (pos:Pos) (pins:List (Addr × Obj)) (s:Shared) (σ : St) (H:Hp) (Q:List V->Hp->Prop),Inv X pins σ H s->t σ H Q->wpAny (model X.prog X.w) X.A (spliced (backTo pos (starEach es X.env))) (AP X pins σ Q) X.xe s
def PS (X:Cx) (st:Stmt) (t:TS):Prop :=
 ∀ (pins:List (Addr × Obj)) (s:Shared) (σ : St) (H:Hp) (D:Ends),Inv X pins σ H s->t D σ H->wpAny (model X.prog X.w) X.A (exec st X.env) (SP X pins D) X.xe s
def PSs (X:Cx) (st:List Stmt) (t:TS):Prop :=
 ∀ (pins:List (Addr × Obj)) (s:Shared) (σ : St) (H:Hp) (D:Ends),Inv X pins σ H s->t D σ H->wpAny (model X.prog X.w) X.A (execs st X.env) (SP X pins D) X.xe s
theorem thn {α : Type} {t:Sem α} {Q Q' : α -> Shared->Prop} {M:Model} {A:Around} {E:Value->Shared->Prop} {s:Shared} (h:wpAny M A t Q E s) (hQ:∀ a s,Q a s->Q' a s):wpAny M A t Q' E s:=wpAny_mono h hQ fun _ _ x=>x
section
variable {X:Cx}
def tVar (i:Nat):TE:=fun σ H Q=>∃ v,σ[i]?=some (some v)/\Q v H
def tC (v:V):TE:=fun _ H Q=>Q v H
theorem zmq {i:Nat} {x:Str} {pos:Pos} (hN:X.N[i]?=some x) (hv:Vis X.env.scope x) (hd:(x == ("__debug__" : Str))=false:=by decide) (hcd:(x == ("__classdict__" : Str))=false:=by decide):PE X (.Name x pos) (tVar i):=by
 intro pins s σ H Q I h
 obtain ⟨v,e,h⟩:=h
 obtain ⟨m,hn,hl⟩:=I.loc
 obtain ⟨u,r,l⟩:=hl i x v hN e hv
 have fin:EP X pins σ Q u s:=⟨v,H,I,r,h⟩
 rcases l with ⟨hk,hm⟩ | ⟨hk,c,hc,hcell⟩
 ·exact wpAny_Name (wpAny_loadName_local I.ok.kind hk hn hm fin) hd
 ·rcases hk with hk | hk
  ·exact wpAny_Name (wpAny_loadName_cell I.ok.kind hk hc hcell fin) hd
  ·exact wpAny_Name (wpAny_loadName_free I.ok.kind hk hc hcell fin hcd) hd
theorem znJ {i j pos}:PE X (.Constant (.int i) j pos) (tC (.int i)):=fun _ _ _ H _ I h=>wpAny_Constant_int ⟨.int i,H,I.tok _,⟨_,rfl⟩,h⟩
theorem zo3 {b j pos}:PE X (.Constant (.bool b) j pos) (tC (.bl b)):=fun _ _ _ H _ I h=>Constant_bool ⟨.bl b,H,I,rfl,h⟩
theorem znK {j pos}:PE X (.Constant .none j pos) (tC .non):=fun _ _ _ H _ I h=>Constant_none ⟨.non,H,I,rfl,h⟩
def Gl (X:Cx) (x:Str):Prop:=X.env.kindOf x=some .globalImplicit
theorem zjg {E:Value->Shared->Prop} {pins:List (Addr × Obj)} {s:Shared} {σ : St} {H:Hp} {x:Str} {u:Value} {pos:Pos} {Q:Value->Shared->Prop} (I:Inv X pins σ H s) (hg:Gl X x) (hm:X.mg x=some u) (h:Q u s)
  (hd:(x == ("__debug__" : Str))=false:=by decide):wpAny (model X.prog X.w) X.A (eval (.Name x pos) X.env) Q E s :=
 Calls.Name_function_global I.ok.kind hg (Calls.loadGlobal_global (by rw [I.ok.glob];exact I.mod.glob.keeps I.bk) hm h) hd
theorem zec {E:Value->Shared->Prop} {pins:List (Addr × Obj)} {s:Shared} {σ : St} {H:Hp} {x:Str} {u:Value} {pos:Pos} {Q:Value->Shared->Prop} (I:Inv X pins σ H s) (hg:Gl X x) (hm:X.mg x=none) (hv:bootBuiltins x=some u) (h:Q u s)
  (hn:x ≠ "__name__" := by decide) (hd:(x == ("__debug__" : Str))=false:=by decide):wpAny (model X.prog X.w) X.A (eval (.Name x pos) X.env) Q E s:=by
 obtain ⟨mb,h1,h2⟩:=I.mod.blt
 exact Calls.Name_function_global I.ok.kind hg (Calls.loadGlobal_builtin (by rw [I.ok.glob];exact I.mod.glob.keeps I.bk) hm (by rw [I.ok.blt];exact h1.keeps I.bk) ((h2 x hn).trans hv) h) hd
theorem zmM {x:Str} {v:V} {u:Value} {pos:Pos} (hg:Gl X x) (hm:X.mg x=some u) (r:RelV v u) (hd:(x == ("__debug__" : Str))=false:=by decide):PE X (.Name x pos) (tC v) :=
 fun _ _ _ H _ I h=>zjg I hg hm ⟨v,H,I,r,h⟩ hd
theorem zmN {x:Str} {v:V} {u:Value} {pos:Pos} (hg:Gl X x) (hm:X.mg x=none) (hv:bootBuiltins x=some u) (r:RelV v u) (hn:x ≠ "__name__" := by decide) (hd:(x == ("__debug__" : Str))=false:=by decide):PE X (.Name x pos) (tC v) :=
 fun _ _ _ H _ I h=>zec I hg hm hv ⟨v,H,I,r,h⟩ hn hd
variable {a b:Expr} {ta tb:TE} {pos:Pos}
def PC (X:Cx) (op:CmpOp) (a b:Expr) (t:TE):Prop :=
 ∀ (pins:List (Addr × Obj)) (s:Shared) (σ : St) (H:Hp) (Q:VK),Inv X pins σ H s->t σ H Q ->
  wpAny (model X.prog X.w) X.A (eval a X.env) (fun v s₁=>wpAny (model X.prog X.w) X.A (eval b X.env) (fun u s₂=>wpAny (model X.prog X.w) X.A (compareOp op v u) (EP X pins σ Q) X.xe s₂) X.xe s₁) X.xe s
theorem zlk (b:Expr) {op:CmpOp} (h:op ≠ .In) (h2:op ≠ .NotIn):behindInMarks op b=false:=by
 have e1:(op == CmpOp.In)=false:=by cases op <;> first | rfl | exact absurd rfl h
 have e2:(op == CmpOp.NotIn)=false:=by cases op <;> first | rfl | exact absurd rfl h2
 cases b <;> simp [behindInMarks,e1,e2]
def tIsN (ta:TE):TE:=fun σ H Q=>ta σ H fun x H1=>Q (.bl (decide (x=.non))) H1
def zo4 (ta:TE):TE:=fun σ H Q=>ta σ H fun x H1=>Q (.bl (!decide (x=.non))) H1
theorem RelV.none_iff {x:V} {v:Value} (r:RelV x v):(v == Value.none)=decide (x=.non):=by
 cases x with
 | non=>cases r;rfl
 | bl _=>cases r;rfl
 | int _=>obtain ⟨t,rfl⟩:=r;rfl
 | str _=>obtain ⟨t,rfl⟩:=r;rfl
 | byt _=>obtain ⟨t,rfl⟩:=r;rfl
 | flt _=>obtain ⟨t,rfl⟩:=r;rfl
 | ref _=>cases r;rfl
 | ty _=>cases r;rfl
theorem znL {j pos'} (ha:PE X a ta):PC X .Is a (.Constant .none j pos') (tIsN ta):=by
 intro pins s σ H Q I h
 refine thn (ha pins s σ H _ I h) fun v s1 ⟨x,H1,I1,r1,q1⟩=>?_
 exact Constant_none (is_none_gen ⟨.bl _,H1,I1,by rw [r1.none_iff];rfl,q1⟩)
theorem zmO {j pos'} (ha:PE X a ta):PC X .IsNot a (.Constant .none j pos') (zo4 ta):=by
 intro pins s σ H Q I h
 refine thn (ha pins s σ H _ I h) fun v s1 ⟨x,H1,I1,r1,q1⟩=>?_
 exact Constant_none (isnot_none_gen ⟨.bl _,H1,I1,by rw [r1.none_iff];rfl,q1⟩)
def tB (t:TE):TT:=fun σ H Q=>t σ H fun x H1=>∃ c,x=.bl c/\Q c H1
theorem zmr {op:CmpOp} {t:TE} (h:PC X op a b t) (h1:behindInMarks op b=false:=by first | exact zlk _ (by decide) (by decide) | rfl):PT X (.Compare a [op] [b] pos) (tB t):=by
 intro pins s σ H Q I hw
 refine wpAny_isTrue_Compare1 (thn (h pins s σ H _ I hw) fun v s1 h1=>thn h1 fun u s2 h2=>thn h2 fun c s3 ⟨x,H1,I1,r1,q1⟩=>?_) h1
 obtain ⟨d,rfl,q⟩:=q1
 cases r1
 exact wpAny_truthy_bool ⟨H1,I1,q⟩
theorem znM {e:Expr} {t:TE} (h:PE X e t) (he:∀ whole,isTrue e X.env whole=(do let v ← whole;standAt e.pos;holding [v] (truthy v)):=by intro _;rfl):PT X e (tB t):=by
 intro pins s σ H Q I hw
 refine isTrue_plain (thn (h pins s σ H _ I hw) fun v s1 ⟨x,H1,I1,r1,q1⟩=>?_) (he _)
 obtain ⟨d,rfl,q⟩:=q1
 cases r1
 exact wpAny_truthy_bool ⟨H1,I1,q⟩
variable {tA tB':TT} {rest:List Expr}
def tAnd (t u:TT):TT:=fun σ H Q=>t σ H fun c H1=>if c=true then u σ H1 Q else Q false H1
def tOr (t u:TT):TT:=fun σ H Q=>t σ H fun c H1=>if c=true then Q true H1 else u σ H1 Q
def tNot (t:TT):TT:=fun σ H Q=>t σ H fun c H1=>Q (!c) H1
theorem zmP (ha:PT X a tA):PW X (.BoolOp .And [a] pos) tA:=by
 intro wh pins s σ H Q I h
 refine isTrue_and (thn (ha pins s σ H Q I h) fun c s1 e=>?_)
 cases c with
 | true=>exact isTrue_and_nil e
 | false=>exact e
theorem znN (ha:PT X a tA):PW X (.BoolOp .Or [a] pos) tA:=by
 intro wh pins s σ H Q I h
 refine isTrue_or (thn (ha pins s σ H Q I h) fun c s1 e=>?_)
 cases c with
 | false=>exact isTrue_or_nil e
 | true=>exact e
theorem znO (ha:PT X a tA) (hb:PW X (.BoolOp .And (b :: rest) pos) tB'):PW X (.BoolOp .And (a :: b :: rest) pos) (tAnd tA tB'):=by
 intro wh pins s σ H Q I h
 refine isTrue_and (thn (ha pins s σ H _ I h) fun c s1 ⟨H1,I1,q1⟩=>?_)
 cases c with
 | true=>exact hb wh pins s1 σ H1 Q I1 q1
 | false=>exact ⟨H1,I1,q1⟩
theorem zo5 (ha:PT X a tA) (hb:PW X (.BoolOp .Or (b :: rest) pos) tB'):PW X (.BoolOp .Or (a :: b :: rest) pos) (tOr tA tB'):=by
 intro wh pins s σ H Q I h
 refine isTrue_or (thn (ha pins s σ H _ I h) fun c s1 ⟨H1,I1,q1⟩=>?_)
 cases c with
 | true=>exact ⟨H1,I1,q1⟩
 | false=>exact hb wh pins s1 σ H1 Q I1 q1
theorem znP (ha:PT X a tA):PT X (.UnaryOp .Not a pos) (tNot tA):=by
 intro pins s σ H Q I h
 exact isTrue_not (ha pins s σ H (fun c H1=>Q (!c) H1) I h)
def zo6 (ta tb:TE):TE:=fun σ H Q=>ta σ H fun x H1=>∃ c,x=.bl c/\if c=true then tb σ H1 Q else Q (.bl false) H1
def tOrV (ta tb:TE):TE:=fun σ H Q=>ta σ H fun x H1=>∃ c,x=.bl c/\if c=true then Q (.bl true) H1 else tb σ H1 Q
def zo7 (ta:TE):TE:=fun σ H Q=>ta σ H fun x H1=>∃ c,x=.bl c/\Q (.bl (!c)) H1
theorem znQ {op} {t:TE} (h:PE X a t):PE X (.BoolOp op [a] pos) t:=fun pins s σ H Q I hw=>BoolOp_one (h pins s σ H Q I hw)
theorem znR (ha:PE X a ta) (hb:PE X (.BoolOp .And (b :: rest) pos) tb):PE X (.BoolOp .And (a :: b :: rest) pos) (zo6 ta tb):=by
 intro pins s σ H Q I h
 refine BoolOp_and (thn (ha pins s σ H _ I h) fun v s1 ⟨x,H1,I1,r1,q1⟩=>?_)
 obtain ⟨c,rfl,q1⟩:=q1
 cases r1
 refine wpAny_truthy_bool ?_
 cases c with
 | true=>exact hb pins s1 σ H1 Q I1 q1
 | false=>exact ⟨.bl false,H1,I1,rfl,q1⟩
theorem zo8 (ha:PE X a ta) (hb:PE X (.BoolOp .Or (b :: rest) pos) tb):PE X (.BoolOp .Or (a :: b :: rest) pos) (tOrV ta tb):=by
 intro pins s σ H Q I h
 refine BoolOp_or (thn (ha pins s σ H _ I h) fun v s1 ⟨x,H1,I1,r1,q1⟩=>?_)
 obtain ⟨c,rfl,q1⟩:=q1
 cases r1
 refine wpAny_truthy_bool ?_
 cases c with
 | false=>exact hb pins s1 σ H1 Q I1 q1
 | true=>exact ⟨.bl true,H1,I1,rfl,q1⟩
theorem znS (ha:PE X a ta):PE X (.UnaryOp .Not a pos) (zo7 ta):=by
 intro pins s σ H Q I h
 refine UnaryOp_ (thn (ha pins s σ H _ I h) fun v s1 ⟨x,H1,I1,r1,q1⟩=>?_)
 obtain ⟨c,rfl,q1⟩:=q1
 cases r1
 exact not_of (wpAny_truthy_bool ⟨.bl (!c),H1,I1,rfl,q1⟩)
def tIf (t:TT) (ta tb:TE):TE:=fun σ H Q=>t σ H fun c H1=>if c=true then ta σ H1 Q else tb σ H1 Q
theorem zll {c:Expr} (hc:PT X c tA) (ha:PE X a ta) (hb:PE X b tb):PE X (.IfExp c a b pos) (tIf tA ta tb):=by
 intro pins s σ H Q I h
 refine wpAny_IfExp (thn (hc pins s σ H _ I h) fun d s1 ⟨H1,I1,q1⟩=>?_)
 cases d with
 | true=>exact ha pins s1 σ H1 Q I1 q1
 | false=>exact hb pins s1 σ H1 Q I1 q1
end
def SqL (K:PySem.W.Frag) (H:Hp) (a:Addr) (xs:List V):Prop :=
 Rd H a (.lst xs) ∨
  ∃ (o:Obj) (its:Array Value) (n:Nat),K.lookup a=some o/\o.cls=.type "list" /\ o.dict=none/\o.data=.seq its n/\its.size<=sizeLine/\Vals xs its.toList
def SqT (K:PySem.W.Frag) (H:Hp) (a:Addr) (xs:List V):Prop :=
 Rd H a (.tup xs) ∨
  ∃ (o:Obj) (its:Array Value) (n:Nat),K.lookup a=some o/\o.cls=.type "tuple" /\ o.data=.seq its n/\its.size<=sizeLine/\Vals xs its.toList
def absV:Value->Option V
 | .none=>some .non
 | .bool b=>some (.bl b)
 | .int i _=>some (.int i)
 | .str x _=>some (.str x)
 | .bytes b _=>some (.byt b)
 | .float b _=>some (.flt b)
 | .ref a=>some (.ref a)
 | .type n=>some (.ty n)
 | _=>none
theorem RelV.abs {x:V} {u:Value} (r:RelV x u):absV u=some x:=by
 cases x with
 | non=>cases r;rfl
 | bl _=>cases r;rfl
 | int _=>obtain ⟨t,rfl⟩:=r;rfl
 | str _=>obtain ⟨t,rfl⟩:=r;rfl
 | byt _=>obtain ⟨t,rfl⟩:=r;rfl
 | flt _=>obtain ⟨t,rfl⟩:=r;rfl
 | ref _=>cases r;rfl
 | ty _=>cases r;rfl
theorem RelV.inj {x y:V} {u:Value} (r:RelV x u) (q:RelV y u):x=y:=Option.some.inj (r.abs.symm.trans q.abs)
theorem Vals.inj:∀ {xs ys:List V} {us:List Value},Vals xs us->Vals ys us->xs=ys
 | _,_,_,.nil,.nil=>rfl
 | _,_,_,.cons r t,.cons r' t'=>by rw [r.inj r',Vals.inj t t']
section
variable {X:Cx} {pins:List (Addr × Obj)} {σ : St} {H:Hp} {s:Shared} {a:Addr} {xs ys:List V}
theorem SqL.of {K:PySem.W.Frag} (h:H a=some (.lst xs)):SqL K H a xs:=.inl (.inl h)
theorem SqT.of {K:PySem.W.Frag} (h:H a=some (.tup xs)):SqT K H a xs:=.inl (.inl h)
theorem Inv.list (I:Inv X pins σ H s) (h:SqL X.K H a xs):∃ its:List Value,Vals xs its/\PlainL s.heap a its.toArray/\xs.length<=sizeLine:=by
 rcases h with h | ⟨o,its,n,hk,hc,hd,hs,hz,r⟩
 ·obtain ⟨z,its,n,r,e⟩:=h.ok I.hok
  exact ⟨its,r,⟨_,n,e,rfl,rfl,rfl⟩,z⟩
 ·refine ⟨its.toList,r,⟨o,n,I.kIn a o hk,hc,hd,by simpa using hs⟩,?_⟩
  have e:=r.length
  simp only [Array.length_toList] at e
  omega
theorem Inv.tuple (I:Inv X pins σ H s) (h:SqT X.K H a xs):∃ its:List Value,Vals xs its/\IsTup s.heap a its.toArray/\xs.length<=sizeLine:=by
 rcases h with h | ⟨o,its,n,hk,hc,hs,hz,r⟩
 ·obtain ⟨z,its,r,p⟩:=h.ok I.hok
  exact ⟨its,r,p,z⟩
 ·refine ⟨its.toList,r,⟨o,I.kIn a o hk,hc,n,by simpa using hs⟩,?_⟩
  have e:=r.length
  simp only [Array.length_toList] at e
  omega
theorem Inv.list_inj (I:Inv X pins σ H s) (h:SqL X.K H a xs) (h':SqL X.K H a ys):xs=ys:=by
 obtain ⟨its,r,⟨o,n,e,_,_,d⟩,_⟩:=I.list h
 obtain ⟨its',r',⟨o',n',e',_,_,d'⟩,_⟩:=I.list h'
 rw [e] at e';cases e'
 rw [d] at d'
 injection d' with d1 _
 have:its=its':=by simpa using congrArg Array.toList d1
 subst this
 exact r.inj r'
theorem Inv.tuple_inj (I:Inv X pins σ H s) (h:SqT X.K H a xs) (h':SqT X.K H a ys):xs=ys:=by
 obtain ⟨its,r,⟨o,e,_,n,d⟩,_⟩:=I.tuple h
 obtain ⟨its',r',⟨o',e',_,n',d'⟩,_⟩:=I.tuple h'
 rw [e] at e';cases e'
 rw [d] at d'
 injection d' with d1 _
 have:its=its':=by simpa using congrArg Array.toList d1
 subst this
 exact r.inj r'
end
abbrev Cx.wish (X:Cx) (E:Value->Shared->Prop):Cx:={ X with xe:=E }
abbrev Cx.nox (X:Cx):Cx:=X.wish fun _ _=>False
theorem Cx.Ok.wish {X:Cx} (ok:X.Ok) (E:Value->Shared->Prop):(X.wish E).Ok :=
 ⟨ok.mod,ok.kind,ok.glob,ok.blt,ok.above,ok.inj,ok.has,ok.cab,ok.hd,ok.frames,ok.stk,ok.exf,ok.bs,ok.bsz,ok.noex,ok.exfs,ok.funs,ok.frf⟩
theorem Cx.Ok.unwish {X:Cx} {E:Value->Shared->Prop} (ok:(X.wish E).Ok):X.Ok :=
 ⟨ok.mod,ok.kind,ok.glob,ok.blt,ok.above,ok.inj,ok.has,ok.cab,ok.hd,ok.frames,ok.stk,ok.exf,ok.bs,ok.bsz,ok.noex,ok.exfs,ok.funs,ok.frf⟩
section
variable {X:Cx} {pins:List (Addr × Obj)} {σ : St} {H:Hp} {s:Shared} {E:Value->Shared->Prop}
theorem Inv.wish (I:Inv X pins σ H s) (E:Value->Shared->Prop):Inv (X.wish E) pins σ H s:=⟨I.ok.wish E,I.os,I.bare,I.base,I.loc,I.cell,I.free,I.freeC,I.pin,I.hok,I.len⟩
theorem Inv.unwish (I:Inv (X.wish E) pins σ H s):Inv X pins σ H s:=⟨I.ok.unwish,I.os,I.bare,I.base,I.loc,I.cell,I.free,I.freeC,I.pin,I.hok,I.len⟩
theorem SP.unwish {D:Ends} {f:Flow} {s':Shared} (h:SP (X.wish E) pins D f s'):SP X pins D f s':=by
 cases f with
 | next=>obtain ⟨σ',H',I,q⟩:=h;exact ⟨σ',H',I.unwish,q⟩
 | brk=>obtain ⟨σ',H',I,q⟩:=h;exact ⟨σ',H',I.unwish,q⟩
 | cont=>obtain ⟨σ',H',I,q⟩:=h;exact ⟨σ',H',I.unwish,q⟩
 | ret u=>obtain ⟨v,σ',H',I,r,q⟩:=h;exact ⟨v,σ',H',I.unwish,r,q⟩
theorem PSs.nox {st:List Stmt} {t:TS} (h:PSs X.nox st t):PSs X st t:=fun pins s σ H D I hw =>
 wpAny_mono (h pins s σ H D (I.wish _) hw) (fun _ _ q=>q.unwish) fun _ _ z=>False.elim z
end
section
variable {X:Cx} {st:Stmt} {rest:List Stmt} {t u:TS} {e:Expr} {te:TE} {pos:Pos}
def zo9:TS:=fun D σ H=>D.nx σ H
def tSeq (t u:TS):TS:=fun D σ H=>t { D with nx:=u D } σ H
theorem zmQ:PSs X [] zo9:=fun _ _ σ H _ I h=>wpAny_execs_nil ⟨σ,H,I,h⟩
theorem zlm (h1:PS X st t) (h2:PSs X rest u):PSs X (st :: rest) (tSeq t u):=by
 intro pins s σ H D I h
 refine wpAny_execs_cons (thn (h1 pins s σ H { D with nx:=u D } I h) fun f s1 q=>?_)
 cases f with
 | next =>
  obtain ⟨σ',H',I',q⟩:=q
  exact h2 pins s1 σ' H' D I' q
 | ret v=>exact q
 | brk=>exact q
 | cont=>exact q
theorem zmR (h1:PS X st t):PSs X [st] t:=by
 intro pins s σ H D I h
 refine wpAny_execs_cons (thn (h1 pins s σ H D I h) fun f s1 q=>?_)
 cases f with
 | next=>exact wpAny_execs_nil q
 | ret v=>exact q
 | brk=>exact q
 | cont=>exact q
theorem Inv.quiet {pins:List (Addr × Obj)} {σ : St} {H:Hp} {s:Shared} (I:Inv X pins σ H s):interactive X.env=false:=by simp [interactive,I.ok.kind]
def zpa (te:TE):TS:=fun D σ H=>te σ H fun _ H1=>D.nx σ H1
theorem zjh (he:PE X e te) (hs:swapsWith e none pos.line X.env=pure false:=by rfl):PS X (.Expr e pos) (zpa te):=by
 intro pins s σ H D I h
 exact wpAny_Expr_any (thn (he pins s σ H _ I h) fun v s1 ⟨x,H1,I1,r1,q1⟩=>⟨σ,H1,I1,q1⟩) I.quiet hs
def tRet (te:TE):TS:=fun D σ H=>te σ H D.rt
theorem znT (he:PE X e te):PS X (.Return (some e) pos) (tRet te):=by
 intro pins s σ H D I h
 exact wpAny_Return_some (thn (he pins s σ H _ I h) fun v s1 ⟨x,H1,I1,r1,q1⟩=>⟨x,σ,H1,I1,r1,q1⟩)
def tIfS (c:TT) (t u:TS):TS:=fun D σ H=>c σ H fun b H1=>if b=true then t D σ H1 else u D σ H1
theorem zpb {c:Expr} {a b:List Stmt} {tc:TT} (hc:PT X c tc) (ha:PSs X a t) (hb:PSs X b u):PS X (.If c a b pos) (tIfS tc t u):=by
 intro pins s σ H D I h
 refine wpAny_If (thn (hc pins s σ H _ I h) fun d s1 ⟨H1,I1,q1⟩=>?_)
 cases d with
 | true=>exact ha pins s1 σ H1 D I1 q1
 | false=>exact hb pins s1 σ H1 D I1 q1
end
abbrev TG:=V->St->Hp->(St->Hp->Prop)->Prop
abbrev TGs:=List V->St->Hp->(St->Hp->Prop)->Prop
def PG (X:Cx) (target:Expr) (t:TG):Prop :=
 ∀ (pins:List (Addr × Obj)) (s:Shared) (σ : St) (H:Hp) (v:V) (u:Value) (Q:St->Hp->Prop),Inv X pins σ H s->RelV v u->t v σ H Q ->
  wpAny (model X.prog X.w) X.A (assign target X.env u) (fun _ s'=>∃ σ' H',Inv X pins σ' H' s'/\Q σ' H') X.xe s
def PGs (X:Cx) (ts:List Expr) (t:TGs):Prop :=
 ∀ (pins:List (Addr × Obj)) (s:Shared) (σ : St) (H:Hp) (vs:List V) (us:List Value) (Q:St->Hp->Prop),Inv X pins σ H s->Vals vs us->t vs σ H Q ->
  wpAny (model X.prog X.w) X.A (assignInOrder ((assignEach ts X.env).map (·.2)) us) (fun _ s'=>∃ σ' H',Inv X pins σ' H' s'/\Q σ' H') X.xe s
section
variable {X:Cx} {pos:Pos}
def zmS (i:Nat):TG:=fun v σ H Q=>Q (σ.set i (some v)) H
theorem zam {i:Nat} {x:Str} (hN:X.N.Nodup) (hi:X.N[i]?=some x) (hx:Loc X.env.scope x) (hf:X.fn x=true ∨ X.env.scope.names.lookup x=some .local:=by first | exact .inl rfl | exact .inr rfl | assumption):PG X (.Name x pos) (zmS i):=by
 intro pins s σ H v u Q I r h
 exact wpAny_assign_Name (zhP I hN hi hx r (fun s' I'=>⟨_,H,I',h⟩) hf)
def gNil:TGs:=fun vs σ H Q=>vs=[]/\Q σ H
def zpc (t:TG) (u:TGs):TGs:=fun vs σ H Q=>∃ v r,vs=v :: r/\t v σ H fun σ' H'=>u r σ' H' Q
theorem zmT:PGs X [] gNil:=by
 intro pins s σ H vs us Q I r h
 obtain ⟨e,h⟩:=h
 subst e
 cases r
 exact assignInOrder_nil ⟨σ,H,I,h⟩
theorem zln {e:Expr} {es:List Expr} {t:TG} {u:TGs} (h1:PG X e t) (h2:PGs X es u)
  (hs:(assignEach (e :: es) X.env).map (·.2)=assign e X.env :: (assignEach es X.env).map (·.2):=by rfl):PGs X (e :: es) (zpc t u):=by
 intro pins s σ H vs us Q I r h
 obtain ⟨v,vr,e1,h⟩:=h
 subst e1
 cases r with
 | cons r rr =>
  rw [hs]
  refine assignInOrder_cons (thn (h1 pins s σ H _ _ _ I r h) fun _ s1 ⟨σ1,H1,I1,q1⟩=>?_)
  exact h2 pins s1 σ1 H1 _ _ Q I1 rr q1
def gTup (K:PySem.W.Frag) (n:Nat) (t:TGs):TG:=fun v σ H Q=>∃ a xs,v=.ref a/\SqT K H a xs/\xs.length=n/\t xs σ H Q
theorem znU {es:List Expr} {k:Nat} {t:TGs} {n:Nat} (hc:X.calm=true) (h:PGs X es t)
  (hn:(assignEach es X.env).length=n:=by rfl) (hst:(assignEach es X.env).findIdx? (·.1)=none:=by rfl):PG X (.Tuple es k pos) (gTup X.K n t):=by
 intro pins s σ H v u Q I r hw
 obtain ⟨a,xs,e1,hq,hl,hw⟩:=hw
 subst e1
 cases r
 obtain ⟨its,rv,ht,hz⟩:=I.tuple hq
 refine assign_Tuple_tuple (I.ok.hd hc) ht (by simp [hn,← hl,rv.length]) hst fun h' hx=>?_
 have I1:Inv X pins σ H { s with heap:=h' }:=I.kept (t':=s.toks) fun b o e=>hx b o (Nat.ne_of_lt (Heap.lt_size e)) e
 exact h pins _ σ H xs _ Q I1 (by simpa using rv) hw
def tAsg (te:TE) (g:TG):TS:=fun D σ H=>te σ H fun x H1=>g x σ H1 D.nx
theorem znV {tg e:Expr} {te:TE} {g:TG} (he:PE X e te) (hg:PG X tg g) (hs:swapsWithSole [tg] e pos.line X.env=pure false:=by rfl) (hw:swappedStores [tg] e X.env=pure none:=by rfl)
  (h1:(assignEach [tg] X.env).map (·.2)=[assign tg X.env]:=by rfl):PS X (.Assign [tg] e pos) (tAsg te g):=by
 intro pins s σ H D I h
 refine wpAny_Assign_stores (thn (he pins s σ H _ I h) fun v s1 ⟨x,H1,I1,r1,q1⟩=>?_) hs hw
 rw [h1]
 exact thn (hg pins s1 σ H1 x v _ I1 r1 q1) fun _ s2 q=>q
theorem zms {i:Nat} {x:Str} {e:Expr} {te:TE} {pos':Pos} (hN:X.N.Nodup) (hi:X.N[i]?=some x) (hx:Loc X.env.scope x) (he:PE X e te) (hs:swapsWith e (some (.Name x pos')) pos.line X.env=pure false:=by rfl) (hf:X.fn x=true ∨ X.env.scope.names.lookup x=some .local:=by first | exact .inl rfl | exact .inr rfl | assumption) :
  PS X (.Assign [.Name x pos'] e pos) (tAsg te (zmS i)):=by
 intro pins s σ H D I h
 refine wpAny_Assign_Name (thn (he pins s σ H _ I h) fun v s1 ⟨y,H1,I1,r1,q1⟩=>?_) hs
 exact zhP I1 hN hi hx r1 (fun s2 I2=>⟨_,H1,I2,q1⟩) hf
end
section
variable {X:Cx} {pos:Pos}
def znW (c:TT) (tb:TS):TS:=fun D σ H=>∃ W:Nat->St->Hp->Prop,(∃ m,W m σ H)/\∀ m σ H,W m σ H ->
 c σ H fun b H1=>if b=true then ∃ N:St->Hp->Prop,(∀ σ' H',N σ' H'->∃ m',m' < m/\W m' σ' H')/\tb { D with nx:=N,ct:=N,bk:=D.nx } σ H1 else D.nx σ H1
theorem zlo {c:Expr} {body:List Stmt} {tc:TT} {tb:TS} (hp:PassesOwn (model X.prog X.w) X.A X.env X.xe) (hc:PT X c tc) (hb:PSs X body tb):PS X (.While c body [] pos) (znW tc tb):=by
 intro pins s σ H D I h
 obtain ⟨W,⟨m0,w0⟩,turn⟩:=h
 refine wpAny_While (codeAny_whileLoop (fun n s'=>∃ σ' H',Inv X pins σ' H' s'/\W n σ' H') ?_ m0 ⟨σ,H,I,w0⟩)
 rintro n s1 ⟨σ1,H1,I1,w1⟩
 refine wpAny_passesOwn hp (thn (hc pins s1 σ1 H1 _ I1 (turn n σ1 H1 w1)) fun b s2 ⟨H2,I2,q2⟩=>?_)
 cases b with
 | true =>
  obtain ⟨N,hN,q2⟩:=q2
  rw [if_pos rfl]
  refine wpAny_passesOwn hp (thn (hb pins s2 σ1 H2 _ I2 q2) fun f s3 q3=>?_)
  cases f with
  | next =>
   obtain ⟨σ3,H3,I3,n3⟩:=q3
   obtain ⟨m',hm,w3⟩:=hN σ3 H3 n3
   exact ⟨m',hm,σ3,H3,I3,w3⟩
  | cont =>
   obtain ⟨σ3,H3,I3,n3⟩:=q3
   obtain ⟨m',hm,w3⟩:=hN σ3 H3 n3
   exact ⟨m',hm,σ3,H3,I3,w3⟩
  | brk=>exact q3
  | ret v=>exact q3
 | false =>
  rw [if_neg Bool.false_ne_true]
  exact wpAny_execs_nil ⟨σ1,H2,I2,q2⟩
end
structure It where
 go:Nat->Hp->Prop
 yld:Nat->Hp->V->Hp->Prop
 stop:Nat->Hp->Prop
def FpOk (X:Cx) (pins:List (Addr × Obj)) (H:Hp) (b:Addr):Prop :=
 H b=none/\b ≠ X.env.locals/\b ∉ X.fs/\(b ∈ X.ex ∨ X.s₀.heap.objs.size<=b)/\(∀ x c,X.env.cells.lookup x=some c->c ≠ b)/\∀ p ∈ X.pn ++ pins,p.1 ≠ b
theorem Inv.fpOk {X:Cx} {pins:List (Addr × Obj)} {σ : St} {H H':Hp} {s:Shared} {b:Addr} (I:Inv X pins σ H s) (hb:s.heap.objs.size<=b) (hn:H' b=none):FpOk X pins H' b:=by
 refine ⟨hn,Nat.ne_of_gt (Nat.lt_of_lt_of_le I.lt hb),I.nofs hb,.inr (Nat.le_trans I.sz hb),fun x c e z=>?_,fun p hp z=>?_⟩
 ·obtain ⟨v,q⟩:=I.cell x c e
  exact absurd (Nat.lt_of_lt_of_le q.lt (by rw [z];exact hb)) (Nat.lt_irrefl _)
 ·exact absurd (Nat.lt_of_lt_of_le (Heap.lt_size (I.pin p hp).1) (by rw [z];exact hb)) (Nat.lt_irrefl _)
structure Turn (P:Program) (w:World) (K:PySem.W.Frag) (tg:Expr) (J:It) (fp:List Addr) (it:Addr) (tn:Nat->Heap->Prop):Prop where
 mem:it ∈ fp
 obj:∀ i h,tn i h->∀ b ∈ fp,∃ o,h.get? b=some o/\∀ v,o.data ≠ .cell v
 keep:∀ i h h',tn i h->(∀ b ∈ fp,∀ o,h.get? b=some o->h'.get? b=some o)->tn i h'
 item:∀ (X:Cx),X.prog=P->X.w=w->X.K=K->X.calm=true->∀ (i:Nat) (pins:List (Addr × Obj)) (s:Shared) (σ : St) (H:Hp) (E:Value->Shared->Prop),Inv X pins σ H s->(∀ b ∈ fp,FpOk X pins H b)->tn i s.heap->J.go i H ->
  wpAny (model P w) X.A (pyNext (.ref it)) (fun r s1=>∃ u,r=some u /\
   wpAny (model P w) X.A (letOwnedTupleGo tg (.ref it) u) (fun _ s2=>∃ x H',Inv X pins σ H' s2/\RelV x u/\J.yld i H x H'/\tn (i+1) s2.heap/\∀ b ∈ fp,H' b=none) E s1) E s
 done:∀ (X:Cx),X.prog=P->X.w=w->X.K=K->X.calm=true->∀ (i:Nat) (pins:List (Addr × Obj)) (s:Shared) (σ : St) (H:Hp) (E:Value->Shared->Prop),Inv X pins σ H s->(∀ b ∈ fp,FpOk X pins H b)->tn i s.heap->J.stop i H ->
  wpAny (model P w) X.A (pyNext (.ref it)) (fun r s1=>r=none/\Inv X pins σ H s1) E s
 self:∀ (A:Around) (i:Nat) (s:Shared) (Q:Value->Shared->Prop) (E:Value->Shared->Prop),tn i s.heap->Q (.ref it) s->wpAny (model P w) A (pyIter (.ref it)) Q E s
abbrev TI:=St->Hp->(It->Hp->Prop)->Prop
def PIE (X:Cx) (pins:List (Addr × Obj)) (σ : St) (tg:Expr) (R:It->Hp->Prop) (itv:Value) (s2:Shared):Prop :=
 ∃ (it:Addr) (fp:List Addr) (tn:Nat->Heap->Prop) (J:It) (H':Hp),itv=.ref it/\Inv X pins σ H' s2/\Turn X.prog X.w X.K tg J fp it tn/\tn 0 s2.heap/\(∀ b ∈ fp,FpOk X pins H' b)/\R J H'
def PI (X:Cx) (tg iter:Expr) (wi:TI):Prop :=
 ∀ (pins:List (Addr × Obj)) (s:Shared) (σ : St) (H:Hp) (R:It->Hp->Prop),Inv X pins σ H s->wi σ H R ->
  wpAny (model X.prog X.w) X.A (eval iter X.env) (fun v s1=>wpAny (model X.prog X.w) X.A (pyIter v) (PIE X pins σ tg R) X.xe s1) X.xe s
theorem zlp {M:Model} {A:Around} {E:Value->Shared->Prop} {s:Shared} {tg:Expr} {it:Addr} {u:Value} {o:Obj} {n:String} {vs:Array Value} {Q:Unit->Shared->Prop} (ho:s.heap.get? it=some o) (hc:o.cls=.type n) (hd:o.data=.fields vs)
  (hn:["enumerate", "zip", "dict_itemiterator", "dict_reverseitemiterator", "odict_iterator", "itertools.zip_longest", "itertools.pairwise"].contains n=false) (hQ:Q () s):wpAny M A (letOwnedTupleGo tg (.ref it) u) Q E s:=by
 unfold letOwnedTupleGo
 cases tg <;> first
  | exact wpAny_pure hQ
  | (cases u <;> first
    | exact wpAny_pure hQ
    | (
      refine wpAny_bind (wpAny_load ho ?_)
      rw [hc,hd]
      show wpAny M A (if (["enumerate", "zip", "dict_itemiterator", "dict_reverseitemiterator", "odict_iterator", "itertools.zip_longest", "itertools.pairwise"].contains n && vs[0]? == some (rawInt _))=true then _ else _) Q E s
      rw [if_neg (by intro h;rw [hn,Bool.false_and] at h;cases h)]
      exact wpAny_pure hQ))
def Itl (K:PySem.W.Frag) (a:Addr):It :=
 ⟨fun i H=>∃ xs x,SqL K H a xs/\xs[i]?=some x,fun i H x H'=>H'=H/\∀ xs,SqL K H a xs->xs[i]?=some x,fun i H=>∃ xs,SqL K H a xs/\xs.length<=i⟩
def Itt (K:PySem.W.Frag) (a:Addr):It :=
 ⟨fun i H=>∃ xs x,SqT K H a xs/\xs[i]?=some x,fun i H x H'=>H'=H/\∀ xs,SqT K H a xs->xs[i]?=some x,fun i H=>∃ xs,SqT K H a xs/\xs.length<=i⟩
def Itr (lo:Int) (n:Nat):It:=⟨fun i _=>i < n,fun i H x H'=>H'=H/\x=.int (lo+i),fun i _=>n<=i⟩
theorem zji {P:Program} {w:World} {K:PySem.W.Frag} {tg:Expr} (a it:Addr):Turn P w K tg (Itl K a) [it] it (fun i h=>h.IsListIter it a i) where
 mem:=by simp
 obj:=fun i h st b hb=>by
  have e:b=it:=by simpa using hb
  subst e
  obtain ⟨o,e,c,d⟩:=st
  exact ⟨o,e,fun v z=>by rw [d] at z;cases z⟩
 keep:=fun i h h' st k=>st.at fun o e=>k it (by simp) o e
 item:=by
  intro X hP hw hK hc i pins s σ H E I hf st hg
  subst hP hw hK
  obtain ⟨xs,x,hq,hx⟩:=hg
  obtain ⟨its,rv,p,hz⟩:=I.list hq
  obtain ⟨u,hu,ru⟩:=rv.get hx
  obtain ⟨f0,f1,f2,f3,f4,f5⟩:=hf it (by simp)
  refine wpAny_pyNext_list_item st p.isList (x:=u) (by simpa using hu) fun h' st' sb=>?_
  have I1:Inv X pins σ H { s with heap:=h' }:=I.turned (t':=s.toks) (fun b o hb e=>(sb.2 b hb).trans e) f0 f1 f3 f4 f5
  obtain ⟨o,e,c,d⟩:=id st'
  exact ⟨u,rfl,zlp (s:={ s with heap:=h' }) e c d (by decide) ⟨x,H,I1,ru,⟨rfl,fun ys hy=>by rw [I.list_inj hy hq];exact hx⟩,st',fun b hb=>(hf b hb).1⟩⟩
 done:=by
  intro X hP hw hK hc i pins s σ H E I hf st hg
  subst hP hw hK
  obtain ⟨xs,hq,hx⟩:=hg
  obtain ⟨its,rv,p,hz⟩:=I.list hq
  obtain ⟨f0,f1,f2,f3,f4,f5⟩:=hf it (by simp)
  have hl:=rv.length
  exact wpAny_pyNext_list_end (I.ok.hd hc) st p.isList (by simp;omega) fun h' eb=>⟨rfl,I.turned (t':=s.toks) (fun b o hb e=>eb b o hb e) f0 f1 f3 f4 f5⟩
 self:=fun _ _ _ _ _ st h=>wpAny_pyIter_listiter st h
theorem zir {P:Program} {w:World} {K:PySem.W.Frag} {tg:Expr} (a it:Addr):Turn P w K tg (Itt K a) [it] it (fun i h=>h.IsTupleIter it a i) where
 mem:=by simp
 obj:=fun i h st b hb=>by
  have e:b=it:=by simpa using hb
  subst e
  obtain ⟨o,e,c,d⟩:=st
  exact ⟨o,e,fun v z=>by rw [d] at z;cases z⟩
 keep:=fun i h h' st k=>st.at fun o e=>k it (by simp) o e
 item:=by
  intro X hP hw hK hc i pins s σ H E I hf st hg
  subst hP hw hK
  obtain ⟨xs,x,hq,hx⟩:=hg
  obtain ⟨its,rv,p,hz⟩:=I.tuple hq
  obtain ⟨u,hu,ru⟩:=rv.get hx
  obtain ⟨f0,f1,f2,f3,f4,f5⟩:=hf it (by simp)
  refine wpAny_pyNext_tuple_item st (show s.heap.IsTuple a its.toArray from p) (x:=u) (by simpa using hu) fun h' st' sb=>?_
  have I1:Inv X pins σ H { s with heap:=h' }:=I.turned (t':=s.toks) (fun b o hb e=>(sb.2 b hb).trans e) f0 f1 f3 f4 f5
  obtain ⟨o,e,c,d⟩:=id st'
  exact ⟨u,rfl,zlp (s:={ s with heap:=h' }) e c d (by decide) ⟨x,H,I1,ru,⟨rfl,fun ys hy=>by rw [I.tuple_inj hy hq];exact hx⟩,st',fun b hb=>(hf b hb).1⟩⟩
 done:=by
  intro X hP hw hK hc i pins s σ H E I hf st hg
  subst hP hw hK
  obtain ⟨xs,hq,hx⟩:=hg
  obtain ⟨its,rv,p,hz⟩:=I.tuple hq
  obtain ⟨f0,f1,f2,f3,f4,f5⟩:=hf it (by simp)
  have hl:=rv.length
  exact wpAny_pyNext_tuple_end (I.ok.hd hc) st (show s.heap.IsTuple a its.toArray from p) (by simp;omega) fun h' eb=>⟨rfl,I.turned (t':=s.toks) (fun b o hb e=>eb b o hb e) f0 f1 f3 f4 f5⟩
 self:=fun _ _ _ _ _ st h=>wpAny_pyIter_tupleiter st h
theorem zis {P:Program} {w:World} {K:PySem.W.Frag} {tg:Expr} (it:Addr) (lo:Int) (n:Nat):Turn P w K tg (Itr lo n) [it] it (fun i h=>IsRangeIter h it (lo+(i:Nat) * 1) ((n:Int) - (i:Nat)) 1) where
 mem:=by simp
 obj:=fun i h st b hb=>by
  have e:b=it:=by simpa using hb
  subst e
  exact ⟨_,st,fun v z=>by
   have z':Data.fields _=Data.cell v:=z
   cases z'⟩
 keep:=fun i h h' st k=>k it (by simp) _ st
 item:=by
  intro X hP hw hK hc i pins s σ H E I hf st hg
  subst hP hw hK
  obtain ⟨f0,f1,f2,f3,f4,f5⟩:=hf it (by simp)
  have W:=Walks.range (prog:=X.prog) (w:=X.w) (I.ok.hd hc) it lo 1 n
  refine W.item i s _ _ hg st fun v h' tk hv st' kk=>?_
  obtain ⟨t,rfl⟩:=hv
  have I1:Inv X pins σ H { s with heap:=h',toks:=tk }:=I.turned (fun b o hb e=>kk b o (by simpa using hb) e) f0 f1 f3 f4 f5
  refine ⟨_,rfl,zlp (s:={ s with heap:=h',toks:=tk }) (n := "range_iterator") st' rfl rfl (by decide) ⟨.int (lo+i),H,I1,⟨t,?_⟩,⟨rfl,rfl⟩,st',fun b hb=>(hf b hb).1⟩⟩
  rw [Int.mul_one]
 done:=by
  intro X hP hw hK hc i pins s σ H E I hf st hg
  subst hP hw hK
  obtain ⟨f0,f1,f2,f3,f4,f5⟩:=hf it (by simp)
  exact wpAny_pyNext_range_end (I.ok.hd hc) st (by have:n<=i:=hg;omega) fun h' eb=>⟨rfl,I.turned (t':=s.toks) (fun b o hb e=>eb b o hb e) f0 f1 f3 f4 f5⟩
 self:=fun _ _ _ _ _ st h=>wpAny_pyIter_rangeiter st h
section
variable {X:Cx} {tg:Expr}
theorem zhQ {pins:List (Addr × Obj)} {σ : St} {H:Hp} {s:Shared} {R:It->Hp->Prop} {E:Value->Shared->Prop} {lo hi:Int} {t u v:Tok} {tk:Nat} (I:Inv X pins σ H s) (h1 : -(2 ^ 62)<=lo) (h2:lo < 2 ^ 62) (h3 : -(2 ^ 62)<=hi) (h4:hi < 2 ^ 62)
  (q:R (Itr lo (hi - lo).toNat) H):wpAny (model X.prog X.w) X.A (pyIter (.ref s.heap.objs.size)) (PIE X pins σ tg R) E { s with heap:=s.heap.push { cls:=.type "range", data:=.fields #[.int lo t,.int hi u,.int 1 v] },toks:=tk }:=by
 refine wpAny_pyIter_range (IsRange.new ..) (small_one h1 h2 h3 h4) ?_
 have I1:Inv X pins σ H { s with heap:=s.heap.push { cls:=.type "range", data:=.fields #[.int lo t,.int hi u,.int 1 v] },toks:=tk }:=I.kept fun b o e=>Heap.get?_push_of_some _ e
 refine ⟨(s.heap.push { cls:=.type "range", data:=.fields #[.int lo t,.int hi u,.int 1 v] }).objs.size,[(s.heap.push { cls:=.type "range", data:=.fields #[.int lo t,.int hi u,.int 1 v] }).objs.size],_,_,H,rfl,
  I1.kept (t':=tk) fun b o e=>Heap.get?_push_of_some _ e,zis _ lo (hi - lo).toNat,?_,fun b hb=>?_,q⟩
 ·have e1:lo+((0:Nat):Int) * 1=lo:=by simp
  have e2:(((hi - lo).toNat:Nat):Int) - ((0:Nat):Int)=Builtin.Range.rangeSize lo hi 1:=by rw [rangeSize_one];split <;> omega
  show IsRangeIter _ _ (lo+((0:Nat):Int) * 1) ((((hi - lo).toNat:Nat):Int) - ((0:Nat):Int)) 1
  rw [e1,e2]
  exact Heap.get?_push_size _ rfl
 ·have e:b=(s.heap.push { cls:=.type "range", data:=.fields #[.int lo t,.int hi u,.int 1 v] }).objs.size:=by simpa using hb
  subst e
  exact I1.fpOk (Nat.le_refl _) (I1.hok.fresh (Nat.le_refl _))
def zpd (ta:TA):TI:=fun σ H R=>ta σ H fun vs H1=>∃ j:Int,vs=[.int j] /\ -(2 ^ 62)<=j/\j < 2 ^ 62/\R (Itr 0 j.toNat) H1
def zpe (ta:TA):TI:=fun σ H R=>ta σ H fun vs H1=>∃ i j:Int,vs=[.int i,.int j]/\(-(2 ^ 62)<=i/\i < 2 ^ 62 /\ -(2 ^ 62)<=j/\j < 2 ^ 62)/\R (Itr i (j - i).toNat) H1
theorem zjj {a:Expr} {ta:TA} {p pos:Pos} (hg:Gl X "range") (hm:X.mg "range" = none) (ha:PA X [a] ta) (hs:starEach [a] X.env=[(false,eval a X.env)]:=by rfl):PI X tg (.Call (.Name "range" p) [a] [] pos) (zpd ta):=by
 intro pins s σ H R I h
 refine Call_ (zec I hg hm boot_range (PyProof.Rows.callWith_type1 (thn (ha pos pins s σ H _ I h) fun us s1 ⟨vs,H1,I1,r1,q1⟩=>?_) hs rfl))
 obtain ⟨j,e,q1,q2,q⟩:=q1
 subst e
 cases r1 with
 | cons r rr =>
  cases rr
  obtain ⟨t,rfl⟩:=r
  exact call_range_1 (zhQ I1 (by omega) (by omega) q1 q2 (by simpa using q))
theorem zjk {a b:Expr} {ta:TA} {p pos:Pos} (hg:Gl X "range") (hm:X.mg "range" = none) (ha:PA X [a,b] ta) (hs:starEach [a,b] X.env=[(false,eval a X.env),(false,eval b X.env)]:=by rfl) (hs2:starEach [b] X.env=[(false,eval b X.env)]:=by rfl) :
  PI X tg (.Call (.Name "range" p) [a,b] [] pos) (zpe ta):=by
 intro pins s σ H R I h
 refine Call_ (zec I hg hm boot_range (PyProof.Rows.callWith_type1 (thn (ha pos pins s σ H _ I h) fun us s1 ⟨vs,H1,I1,r1,q1⟩=>?_) (by rw [hs,hs2]) (by rw [hs2];rfl)))
 obtain ⟨i,j,e,⟨q1,q2,q3,q4⟩,q⟩:=q1
 subst e
 cases r1 with
 | cons r rr =>
  cases rr with
  | cons r' rr =>
   cases rr
   obtain ⟨t,rfl⟩:=r
   obtain ⟨t',rfl⟩:=r'
   exact call_range_2 (zhQ I1 q1 q2 q3 q4 q)
def tFor (wi:TI) (g:TG) (tb:TS):TS:=fun D σ H=>wi σ H fun J H1=>∃ W:Nat->Nat->St->Hp->Prop,(∃ m,W 0 m σ H1)/\∀ i m σ H,W i m σ H ->
 (J.stop i H/\D.nx σ H) ∨ (J.go i H/\∃ N:St->Hp->Prop,(∀ σ' H',N σ' H'->∃ m',m' < m/\W (i+1) m' σ' H')/\∀ x H',J.yld i H x H'->g x σ H' fun σ2 H2=>tb { D with nx:=N,ct:=N,bk:=D.nx } σ2 H2)
def zf6 (fp:List Addr) (h:Heap):List (Addr × Obj):=fp.filterMap fun b=>(h.get? b).map fun o=>(b,o)
theorem zc8 {fp:List Addr} {h:Heap} {b:Addr} {o:Obj} (hb:b ∈ fp) (e:h.get? b=some o):(b,o) ∈ zf6 fp h:=List.mem_filterMap.mpr ⟨b,hb,by rw [e];rfl⟩
theorem zjl {fp:List Addr} {h:Heap} {p:Addr × Obj} (hp:p ∈ zf6 fp h):p.1 ∈ fp/\h.get? p.1=some p.2:=by
 obtain ⟨b,hb,e⟩:=List.mem_filterMap.mp hp
 cases q:h.get? b with
 | none=>rw [q] at e;cases e
 | some o =>
  rw [q] at e
  have e':(b,o)=p:=Option.some.inj e
  subst e'
  exact ⟨hb,q⟩
theorem Inv.pinned {pins:List (Addr × Obj)} {σ : St} {H:Hp} {s:Shared} {fp:List Addr} (I:Inv X pins σ H s) (hf:∀ b ∈ fp,FpOk X pins H b) (ho:∀ b ∈ fp,∃ o,s.heap.get? b=some o/\∀ v,o.data ≠ .cell v):Inv X (pins ++ zf6 fp s.heap) σ H s :=
 I.pins_of fun p hp=>(List.mem_append.mp hp).elim (fun z=>I.pin p (List.mem_append_right _ z)) fun z=>by
  obtain ⟨hb,e⟩:=zjl z
  obtain ⟨f0,f1,f2,_⟩:=hf p.1 hb
  obtain ⟨o,e',d⟩:=ho p.1 hb
  rw [e] at e';cases e'
  exact ⟨e,f0,f1,f2,d⟩
theorem Inv.unpinned {pins pl:List (Addr × Obj)} {σ : St} {H:Hp} {s:Shared} (I:Inv X (pins ++ pl) σ H s):Inv X pins σ H s:=I.pins_of fun p hp=>I.pin p (List.mem_append_right _ (List.mem_append_left _ hp))
theorem znX {iter:Expr} {body:List Stmt} {wi:TI} {g:TG} {tb:TS} {pos:Pos} (hp:PassesOwn (model X.prog X.w) X.A X.env X.xe) (hc:X.calm=true) (hi:PI X tg iter wi) (hg:PG X tg g) (hb:PSs X body tb)
  (hs:∀ x,foldedSetIterable iter X.env x=pure x:=by intro _;rfl):PS X (.For tg iter body [] pos) (tFor wi g tb):=by
 intro pins s σ H D I h
 refine wpAny_For (thn (hi pins s σ H _ I h) fun v s1 h1=>thn h1 fun itv s2 h2=>?_) hs
 obtain ⟨it,fp,tn,J,H2,e,I2,T,st2,f2,W,⟨m0,w0⟩,turn⟩:=h2
 subst e
 have stat:∀ {H':Hp},(∀ b ∈ fp,H' b=none)->∀ b ∈ fp,FpOk X pins H' b:=fun hn b hb=>⟨hn b hb,(f2 b hb).2⟩
 refine codeAny_forLoop_any (fun n s'=>∃ i σ' H',Inv X pins σ' H' s'/\tn i s'.heap/\(∀ b ∈ fp,H' b=none)/\W i n σ' H') ?_ m0 ⟨0,σ,H2,I2,st2,fun b hb=>(f2 b hb).1,w0⟩
 rintro n s3 ⟨i,σ3,H3,I3,st3,fr3,w3⟩
 rcases turn i n σ3 H3 w3 with ⟨stop,qn⟩ | ⟨go,N,hN,step⟩
 ·refine wpAny_passesOwn hp (thn (T.done X rfl rfl rfl hc i pins s3 σ3 H3 X.xe I3 (stat fr3) st3 stop) fun r s4 ⟨hr,I4⟩=>?_)
  subst hr
  exact wpAny_execs_nil ⟨σ3,H3,I4,qn⟩
 ·refine wpAny_passesOwn hp (thn (T.item X rfl rfl rfl hc i pins s3 σ3 H3 X.xe I3 (stat fr3) st3 go) fun r s4 ⟨u,hr,h4⟩=>?_)
  subst hr
  refine wpAny_passesOwn hp (thn h4 fun _ s5 ⟨x,H5,I5,r5,y5,st5,fr5⟩=>?_)
  have I5':=I5.pinned (stat fr5) (T.obj _ _ st5)
  refine wpAny_passesOwn hp (thn (hg _ s5 σ3 H5 x u _ I5' r5 (step x H5 y5)) fun _ s6 ⟨σ6,H6,I6,q6⟩=>?_)
  refine wpAny_passesOwn hp (thn (hb _ s6 σ6 H6 _ I6 q6) fun f s7 q7=>?_)
  have again:∀ {σ7:St} {H7:Hp},Inv X (pins ++ zf6 fp s5.heap) σ7 H7 s7->N σ7 H7->∃ m,m < n/\∃ i σ' H',Inv X pins σ' H' s7/\tn i s7.heap/\(∀ b ∈ fp,H' b=none)/\W i m σ' H':=fun {σ7 H7} I7 n7=>by
   obtain ⟨m',hm,w7⟩:=hN σ7 H7 n7
   refine ⟨m',hm,i+1,σ7,H7,I7.unpinned,T.keep _ _ _ st5 fun b hb o e=>(I7.pin (b,o) (List.mem_append_right _ (List.mem_append_right _ (zc8 hb e)))).1,fun b hb=>?_,w7⟩
   obtain ⟨o,e,d⟩:=T.obj _ _ st5 b hb
   exact (I7.pin (b,o) (List.mem_append_right _ (List.mem_append_right _ (zc8 hb e)))).2.1
  cases f with
  | next=>obtain ⟨σ7,H7,I7,n7⟩:=q7;exact again I7 n7
  | cont=>obtain ⟨σ7,H7,I7,n7⟩:=q7;exact again I7 n7
  | brk=>obtain ⟨σ7,H7,I7,q7⟩:=q7;exact ⟨σ7,H7,I7.unpinned,q7⟩
  | ret v=>obtain ⟨x7,σ7,H7,I7,r7,q7⟩:=q7;exact ⟨x7,σ7,H7,I7.unpinned,r7,q7⟩
end
abbrev R2:=V->V->Hp->VK->Prop
def OpR (X:Cx) (f:Value->Value->Sem Value) (r:R2):Prop :=
 ∀ (pins:List (Addr × Obj)) (s:Shared) (σ : St) (H:Hp) (x y:V) (v u:Value) (Q:VK),Inv X pins σ H s->RelV x v->RelV y u->r x y H Q ->
  wpAny (model X.prog X.w) X.A (f v u) (EP X pins σ Q) X.xe s
def UnR (X:Cx) (f:Value->Sem Value) (r:V->Hp->VK->Prop):Prop :=
 ∀ (pins:List (Addr × Obj)) (s:Shared) (σ : St) (H:Hp) (x:V) (v:Value) (Q:VK),Inv X pins σ H s->RelV x v->r x H Q ->
  wpAny (model X.prog X.w) X.A (f v) (EP X pins σ Q) X.xe s
def zdj (X:Cx) (f:Value) (r:List V->Hp->VK->Prop):Prop :=
 ∀ (pins:List (Addr × Obj)) (s:Shared) (σ : St) (H:Hp) (xs:List V) (us:List Value) (Q:VK),Inv X pins σ H s->Vals xs us->r xs H Q ->
  wpAny (model X.prog X.w) X.A (call f us) (EP X pins σ Q) X.xe s
def TruR (X:Cx) (r:V->Hp->(Bool->Hp->Prop)->Prop):Prop :=
 ∀ (pins:List (Addr × Obj)) (s:Shared) (σ : St) (H:Hp) (x:V) (v:Value) (Q:Bool->Hp->Prop),Inv X pins σ H s->RelV x v->r x H Q ->
  wpAny (model X.prog X.w) X.A (truthy v) (TP X pins σ Q) X.xe s
def tOp (r:R2) (ta tb:TE):TE:=fun σ H Q=>ta σ H fun x H1=>tb σ H1 fun y H2=>r x y H2 Q
def tUn (r:V->Hp->VK->Prop) (ta:TE):TE:=fun σ H Q=>ta σ H fun x H1=>r x H1 Q
def rI (C:Int->Int->Prop) (g:Int->Int->V):R2:=fun x y H Q=>∃ i j,x=.int i/\y=.int j/\C i j/\Q (g i j) H
def rI0 (g:Int->Int->V):R2:=fun x y H Q=>∃ i j,x=.int i/\y=.int j/\Q (g i j) H
def rU (g:Int->V):V->Hp->VK->Prop:=fun x H Q=>∃ i,x=.int i/\Q (g i) H
section
variable {X:Cx} {a b c:Expr} {ta tb tc:TE} {pos:Pos}
theorem binT (ha:PE X a ta) (hb:PE X b tb) {pins:List (Addr × Obj)} {s:Shared} {σ : St} {H:Hp} {R:V->V->Hp->Prop} (I:Inv X pins σ H s)
  (h:ta σ H fun x H1=>tb σ H1 fun y H2=>R x y H2) {Q:Value->Shared->Prop} {f:Value->Value->Sem Value}
  (hf:∀ v u s2 x y H2,Inv X pins σ H2 s2->RelV x v->RelV y u->R x y H2->wpAny (model X.prog X.w) X.A (f v u) Q X.xe s2) :
  wpAny (model X.prog X.w) X.A (eval a X.env) (fun v s₁=>wpAny (model X.prog X.w) X.A (eval b X.env) (fun u s₂=>wpAny (model X.prog X.w) X.A (f v u) Q X.xe s₂) X.xe s₁) X.xe s:=by
 refine thn (ha pins s σ H _ I h) fun v s1 ⟨x,H1,I1,r1,q1⟩=>?_
 refine thn (hb pins s1 σ H1 _ I1 q1) fun u s2 ⟨y,H2,I2,r2,q2⟩=>?_
 exact hf v u s2 x y H2 I2 r1 r2 q2
theorem znY {op:Operator} {r:R2} (ho:OpR X (binaryOp op) r) (ha:PE X a ta) (hb:PE X b tb):PE X (.BinOp a op b pos) (tOp r ta tb):=by
 intro pins s σ H Q I h
 exact wpAny_BinOp (binT ha hb I h fun v u s2 x y H2 I2 rx ry q=>ho pins s2 σ H2 x y v u Q I2 rx ry q)
theorem zpf {op:UnaryOp} {r:V->Hp->VK->Prop} (ho:UnR X (unaryOp op) r) (ha:PE X a ta):PE X (.UnaryOp op a pos) (tUn r ta):=by
 intro pins s σ H Q I h
 exact UnaryOp_ (thn (ha pins s σ H _ I h) fun v s1 ⟨x,H1,I1,r1,q1⟩=>ho pins s1 σ H1 x v Q I1 r1 q1)
theorem opI {f:Value->Value->Sem Value} {C:Int->Int->Prop} {g:Int->Int->Int}
  (rule:∀ (i j:Int) (t u:Tok) (s:Shared) (Q:Value->Shared->Prop) (E:Value->Shared->Prop),C i j->Q (.int (g i j) s.toks) { s with toks:=s.toks+1 }->wpAny (model X.prog X.w) X.A (f (.int i t) (.int j u)) Q E s) :
  OpR X f (rI C fun i j=>.int (g i j)):=by
 intro pins s σ H x y v u Q I rx ry h
 obtain ⟨i,j,rfl,rfl,hc,q⟩:=h
 obtain ⟨t,rfl⟩:=rx
 obtain ⟨t',rfl⟩:=ry
 exact rule i j t t' s _ _ hc ⟨.int (g i j),H,I.tok _,⟨_,rfl⟩,q⟩
theorem opI0 {f:Value->Value->Sem Value} {g:Int->Int->Int}
  (rule:∀ (i j:Int) (t u:Tok) (s:Shared) (Q:Value->Shared->Prop) (E:Value->Shared->Prop),Q (.int (g i j) s.toks) { s with toks:=s.toks+1 }->wpAny (model X.prog X.w) X.A (f (.int i t) (.int j u)) Q E s) :
  OpR X f (rI0 fun i j=>.int (g i j)):=by
 intro pins s σ H x y v u Q I rx ry h
 obtain ⟨i,j,rfl,rfl,q⟩:=h
 obtain ⟨t,rfl⟩:=rx
 obtain ⟨t',rfl⟩:=ry
 exact rule i j t t' s _ _ ⟨.int (g i j),H,I.tok _,⟨_,rfl⟩,q⟩
theorem opB0 {f:Value->Value->Sem Value} {g:Int->Int->Bool}
  (rule:∀ (i j:Int) (t u:Tok) (s:Shared) (Q:Value->Shared->Prop) (E:Value->Shared->Prop),Q (.bool (g i j)) s->wpAny (model X.prog X.w) X.A (f (.int i t) (.int j u)) Q E s) :
  OpR X f (rI0 fun i j=>.bl (g i j)):=by
 intro pins s σ H x y v u Q I rx ry h
 obtain ⟨i,j,rfl,rfl,q⟩:=h
 obtain ⟨t,rfl⟩:=rx
 obtain ⟨t',rfl⟩:=ry
 exact rule i j t t' s _ _ ⟨.bl (g i j),H,I,rfl,q⟩
def CPow (i j:Int):Prop:=0<=j/\j<=1000000/\i.natAbs < 2 ^ 64
def CMul (i j:Int):Prop:=(-(2 ^ 64) < i/\i < 2 ^ 64) ∨ (-(2 ^ 64) < j/\j < 2 ^ 64)
theorem CMul.ok {i j:Int} (h:CMul i j):IntMulOk i j:=by
 rcases h with ⟨h1,h2⟩ | ⟨h1,h2⟩
 ·exact .of_left (intBits_le_64 h1 h2)
 ·exact .of_right (intBits_le_64 h1 h2)
theorem znZ:OpR X (binaryOp .Add) (rI0 fun i j=>.int (i+j)):=opI0 fun _ _ _ _ _ _ _ q=>add_int q
theorem zn0:OpR X (binaryOp .Sub) (rI0 fun i j=>.int (i - j)):=opI0 fun _ _ _ _ _ _ _ q=>sub_int q
theorem zn1:OpR X (binaryOp .Mult) (rI CMul fun i j=>.int (i * j)):=opI fun _ _ _ _ _ _ _ hc q=>mul_int q hc.ok
theorem zn2:OpR X (binaryOp .Mod) (rI (fun _ j=>0 < j) fun i j=>.int (i % j)):=opI fun i j _ _ _ _ _ hc q=>by
 have h1:(0:Int) < j:=hc
 exact mod_int' (by omega) (by rw [Int.fmod_eq_emod_of_nonneg i (by omega)];exact q)
theorem zn3:OpR X (binaryOp .Pow) (rI CPow fun i j=>.int (i ^ j.toNat)):=opI fun _ _ _ _ _ _ _ hc q=>pow_int_small hc.1 hc.2.1 hc.2.2 q
theorem unI {f:Value->Sem Value} {g:Int->Int}
  (rule:∀ (i:Int) (t:Tok) (s:Shared) (Q:Value->Shared->Prop) (E:Value->Shared->Prop),Q (.int (g i) s.toks) { s with toks:=s.toks+1 }->wpAny (model X.prog X.w) X.A (f (.int i t)) Q E s) :
  UnR X f (rU fun i=>.int (g i)):=by
 intro pins s σ H x v Q I rx h
 obtain ⟨i,rfl,q⟩:=h
 obtain ⟨t,rfl⟩:=rx
 exact rule i t s _ _ ⟨.int (g i),H,I.tok _,⟨_,rfl⟩,q⟩
theorem zn4:UnR X (unaryOp .USub) (rU fun i=>.int (-i)):=unI fun _ _ _ _ _ q=>neg_int q
end
section
variable {X:Cx} {a b c:Expr} {ta tb tc:TE} {pos:Pos}
theorem zmt {pins:List (Addr × Obj)} {σ : St} {H:Hp} {s:Shared} {Q:VK} {k k':Bool} (I:Inv X pins σ H s) (q:Q (.bl k) H) (e:k=k'):EP X pins σ Q (.bool k') s:=by
 subst e
 exact ⟨.bl k,H,I,rfl,q⟩
theorem zpg:OpR X (compareOp .Lt) (rI0 fun i j=>.bl (decide (i < j))):=opB0 fun _ _ _ _ _ _ _ q=>lt_int q
theorem zph:OpR X (compareOp .LtE) (rI0 fun i j=>.bl (decide (i<=j))):=opB0 fun _ _ _ _ _ _ _ q=>le_int q
theorem zpi:OpR X (compareOp .Gt) (rI0 fun i j=>.bl (decide (j < i))):=opB0 fun _ _ _ _ _ _ _ q=>gt_int q
theorem zpj:OpR X (compareOp .GtE) (rI0 fun i j=>.bl (decide (j<=i))):=opB0 fun _ _ _ _ _ _ _ q=>ge_int q
theorem zjm:OpR X (compareOp .In) (fun x y H Q=>∃ i j,x=.str i/\y=.str j/\Q (.bl (!(Builtin.Str.occurrences j i 0 j.length 1).isEmpty)) H):=by
 intro pins s σ H x y v u Q I rx ry h
 obtain ⟨i,j,rfl,rfl,q⟩:=h
 obtain ⟨t,rfl⟩:=rx
 obtain ⟨t',rfl⟩:=ry
 exact in_str (zmt I q rfl)
theorem zf7:OpR X (compareOp .NotIn) (fun x y H Q=>∃ i j,x=.str i/\y=.str j/\Q (.bl (!(!(Builtin.Str.occurrences j i 0 j.length 1).isEmpty))) H):=by
 intro pins s σ H x y v u Q I rx ry h
 obtain ⟨i,j,rfl,rfl,q⟩:=h
 obtain ⟨t,rfl⟩:=rx
 obtain ⟨t',rfl⟩:=ry
 exact notIn_str (zmt I q rfl)
theorem OpR.or {f:Value->Value->Sem Value} {r r':R2} (h:OpR X f r) (h':OpR X f r'):OpR X f (fun x y H Q=>r x y H Q ∨ r' x y H Q):=by
 intro pins s σ H x y v u Q I rx ry q
 rcases q with q | q
 ·exact h pins s σ H x y v u Q I rx ry q
 ·exact h' pins s σ H x y v u Q I rx ry q
theorem zaZ (b:Expr) {op:CmpOp} (h:op ≠ .In:=by decide) (h2:op ≠ .NotIn:=by decide):behindInMarks op b=false:=by
 have e1:(op == CmpOp.In)=false:=by cases op <;> first | rfl | exact absurd rfl h
 have e2:(op == CmpOp.NotIn)=false:=by cases op <;> first | rfl | exact absurd rfl h2
 cases b <;> simp [behindInMarks,e1,e2]
theorem zjn {op:CmpOp} {r:R2} (ho:OpR X (compareOp op) r) (ha:PE X a ta) (hb:PE X b tb) (hm:behindInMarks op b=false):PE X (.Compare a [op] [b] pos) (tOp r ta tb):=by
 intro pins s σ H Q I h
 exact wpAny_Compare1 (binT ha hb I h fun v u s2 x y H2 I2 rx ry q=>ho pins s2 σ H2 x y v u Q I2 rx ry q) hm
def zn5 (t:TE):TT:=fun σ H Q=>t σ H fun x H'=>∃ k,x=.bl k/\Q k H'
theorem zjo {op:CmpOp} {r:R2} (ho:OpR X (compareOp op) r) (ha:PE X a ta) (hb:PE X b tb) (hm:behindInMarks op b=false):PT X (.Compare a [op] [b] pos) (zn5 (tOp r ta tb)):=by
 intro pins s σ H Q I h
 refine wpAny_isTrue_Compare1 (thn (ha pins s σ H _ I h) fun v s1 ⟨x,H1,I1,r1,q1⟩=>thn (hb pins s1 σ H1 _ I1 q1) fun u s2 ⟨y,H2,I2,r2,q2⟩ =>
  thn (ho pins s2 σ H2 x y v u _ I2 r1 r2 q2) fun c s3 ⟨z,H3,I3,r3,k,e,q3⟩=>?_) hm
 subst e
 cases r3
 exact wpAny_truthy_bool ⟨H3,I3,q3⟩
def zmu (r r':R2) (ta tb tc:TE):TE:=fun σ H Q=>ta σ H fun x H1=>tb σ H1 fun y H2=>r x y H2 fun z H3=>∃ k,z=.bl k /\
 (if k=true then tc σ H3 fun w' H4=>r' y w' H4 Q else Q (.bl false) H3)
theorem zlq {op op':CmpOp} {r r':R2} (ho:OpR X (compareOp op) r) (ho':OpR X (compareOp op') r') (ha:PE X a ta) (hb:PE X b tb) (hc:PE X c tc)
  (hm:lastMarks [op,op'] [b,c]=false:=by with_unfolding_all rfl):PE X (.Compare a [op,op'] [b,c] pos) (zmu r r' ta tb tc):=by
 intro pins s σ H Q I h
 refine Compare_chain (thn (ha pins s σ H _ I h) fun v s1 ⟨x,H1,I1,r1,q1⟩=>chain_link (thn (hb pins s1 σ H1 _ I1 q1) fun u s2 ⟨y,H2,I2,r2,q2⟩ =>
  thn (ho pins s2 σ H2 x y v u _ I2 r1 r2 q2) fun d s3 ⟨z,H3,I3,r3,k,e,q3⟩=>?_)) hm
 subst e
 cases r3
 refine wpAny_truthy_bool ?_
 cases k with
 | false=>exact ite_ff ⟨.bl false,H3,I3,rfl,q3⟩
 | true=>exact ite_tt (chain_last (thn (hc pins s3 σ H3 _ I3 q3) fun w' s4 ⟨z',H4,I4,r4,q4⟩=>ho' pins s4 σ H4 y z' u w' Q I4 r2 r4 q4))
theorem zlr {op op':CmpOp} {r r':R2} (ho:OpR X (compareOp op) r) (ho':OpR X (compareOp op') r') (ha:PE X a ta) (hb:PE X b tb) (hc:PE X c tc)
  (hm:lastMarks [op,op'] [b,c]=false:=by with_unfolding_all rfl):PT X (.Compare a [op,op'] [b,c] pos) (zn5 (zmu r r' ta tb tc)):=by
 intro pins s σ H Q I h
 refine isTrue_chain (thn (ha pins s σ H _ I h) fun v s1 ⟨x,H1,I1,r1,q1⟩=>test_link (thn (hb pins s1 σ H1 _ I1 q1) fun u s2 ⟨y,H2,I2,r2,q2⟩ =>
  thn (ho pins s2 σ H2 x y v u _ I2 r1 r2 q2) fun d s3 ⟨z,H3,I3,r3,k,e,q3⟩=>?_)) hm
 subst e
 cases r3
 refine wpAny_truthy_bool ?_
 cases k with
 | false =>
  obtain ⟨k',e',q'⟩:=q3
  cases e'
  exact ite_ff ⟨H3,I3,q'⟩
 | true =>
  refine ite_tt (test_last (thn (hc pins s3 σ H3 _ I3 q3) fun w' s4 ⟨z',H4,I4,r4,q4⟩=>thn (ho' pins s4 σ H4 y z' u w' _ I4 r2 r4 q4) fun d' s5 ⟨z2,H5,I5,r5,k2,e2,q5⟩=>?_))
  subst e2
  cases r5
  exact wpAny_truthy_bool ⟨H5,I5,q5⟩
def TruV (K:PySem.W.Frag) (x:V) (H:Hp) (k:Bool):Prop :=
 match x with
 | .non=>k=false
 | .bl b=>k=b
 | .int i=>k=(i != 0)
 | .str y=>y.length<=sizeLine/\k=((y.length:Int) != 0)
 | .byt y=>y.size<=sizeLine/\k=((y.size:Int) != 0)
 | .ref p=>(∃ xs,SqL K H p xs/\k = !xs.isEmpty) ∨ (∃ xs,SqT K H p xs/\k = !xs.isEmpty) ∨ ∃ kvs,H p=some (.dK kvs)/\k = !kvs.isEmpty
 | _=>False
theorem zit {κ : Type} {kvs:List (κ × V)} {vs:List (κ × Value)} (r:KV kvs vs):(!vs.isEmpty) = !kvs.isEmpty:=by
 cases r <;> rfl
theorem zff {xs:List V} {its:List Value} (r:Vals xs its):(!its.toArray.isEmpty) = !xs.isEmpty:=by
 cases r <;> simp
theorem zf8:(sizeLine:Nat) < 2 ^ 63:=by rw [sizeLine_eq];decide
theorem zn6:TruR X (fun x H Q=>∃ k,TruV X.K x H k/\Q k H):=by
 intro pins s σ H x v Q I rx h
 obtain ⟨k,e,q⟩:=h
 have hl:=zf8
 have hs:sizeLine=16777216:=sizeLine_eq
 cases x with
 | non =>
  cases rx
  have e':k=false:=e
  subst e'
  exact truthy_none ⟨H,I,q⟩
 | bl b =>
  cases rx
  have e':k=b:=e
  subst e'
  exact wpAny_truthy_bool ⟨H,I,q⟩
 | int i =>
  obtain ⟨t,rfl⟩:=rx
  have e':k=(i != 0):=e
  subst e'
  exact PySem.P.truthy_int ⟨H,I,q⟩
 | str y =>
  obtain ⟨t,rfl⟩:=rx
  obtain ⟨hy,e'⟩:y.length<=sizeLine/\k=((y.length:Int) != 0):=e
  subst e'
  exact PySem.P.truthy_str (by omega) ⟨H,I.tok _,q⟩
 | byt y =>
  obtain ⟨t,rfl⟩:=rx
  obtain ⟨hy,e'⟩:y.size<=sizeLine/\k=((y.size:Int) != 0):=e
  subst e'
  exact PySem.W.truthy_bytes (by omega) ⟨H,I.tok _,q⟩
 | ref p =>
  cases rx
  have e':(∃ xs,SqL X.K H p xs/\k = !xs.isEmpty) ∨ (∃ xs,SqT X.K H p xs/\k = !xs.isEmpty) ∨ ∃ kvs,H p=some (.dK kvs)/\k = !kvs.isEmpty:=e
  rcases e' with ⟨xs,hx,e'⟩ | ⟨xs,hx,e'⟩ | ⟨kvs,hx,e'⟩
  ·subst e'
   obtain ⟨its,r,pl,hz⟩:=I.list hx
   have hlen:=r.length
   exact wpAny_truthy_list pl.isList (by simp only [List.size_toArray];omega) ⟨H,I.tok _,by rw [zff r];exact q⟩
  ·subst e'
   obtain ⟨its,r,pl,hz⟩:=I.tuple hx
   have hlen:=r.length
   exact truthy_tuple pl (by simp only [List.size_toArray];omega) ⟨H,I.tok _,by rw [zff r];exact q⟩
  ·subst e'
   obtain ⟨hz,hS,vs,r,m⟩:kvs.length<=sizeLine/\(p == sysModules)=false/\∃ vs,KV kvs vs/\s.heap.DictOf (zg8 X.prog X.w) p vs:=I.hok p _ hx
   have hlen:kvs.length=vs.length:=Paired.length r
   exact wpAny_truthy_dict hS m (by omega) ⟨H,I.tok _,by rw [zit r];exact q⟩
 | _=>exact (show False from e).elim
theorem zls (ha:PE X a ta) (he:∀ whole,isTrue a X.env whole=(do let v ← whole;standAt a.pos;holding [v] (truthy v))) :
  PT X a (fun σ H Q=>ta σ H fun x H'=>∃ k,TruV X.K x H' k/\Q k H'):=by
 intro pins s σ H Q I h
 exact isTrue_plain (thn (ha pins s σ H _ I h) fun v s1 ⟨x,H1,I1,r1,q1⟩=>zn6 pins s1 σ H1 x v Q I1 r1 q1) (he _)
theorem ziu:OpR X (binaryOp .Add) (fun x y H Q=>∃ i j,x=.str i/\y=.str j/\i.length+j.length<=sizeLine/\Q (.str (i ++ j)) H):=by
 intro pins s σ H x y v u Q I rx ry h
 obtain ⟨i,j,rfl,rfl,hz,q⟩:=h
 obtain ⟨t,rfl⟩:=rx
 obtain ⟨t',rfl⟩:=ry
 exact add_str (fun t' tk=>⟨.str (i ++ j),H,I.tok _,⟨_,rfl⟩,q⟩) hz
theorem zn7 {x:V} {us:List Value} (r:Vals [x] us):∃ u,us=[u]/\RelV x u:=by
 cases r with
 | cons r1 r2=>cases r2;exact ⟨_,rfl,r1⟩
theorem zmU {x y:V} {us:List Value} (r:Vals [x,y] us):∃ u w',us=[u,w']/\RelV x u/\RelV y w':=by
 cases r with
 | cons r1 r2 =>
  cases r2 with
  | cons r3 r4=>cases r4;exact ⟨_,_,rfl,r1,r3⟩
theorem zjp (hc:X.calm=true):zdj X (.builtin "max") (fun xs H Q=>∃ i j,xs=[.int i,.int j]/\Q (.int (if j > i then j else i)) H):=by
 intro pins s σ H xs us Q I r h
 obtain ⟨i,j,rfl,q⟩:=h
 obtain ⟨u,w',rfl,⟨t,rfl⟩,⟨t',rfl⟩⟩:=zmU r
 refine max_two_ints (I.ok.hd hc) fun h' tk k=>⟨_,H,I.kept k,?_,q⟩
 by_cases hj:j > i
 ·rw [if_pos hj,if_pos hj];exact ⟨_,rfl⟩
 ·rw [if_neg hj,if_neg hj];exact ⟨_,rfl⟩
def LenV (K:PySem.W.Frag) (x:V) (H:Hp) (n:Nat):Prop :=
 match x with
 | .str y=>y.length<=sizeLine/\n=y.length
 | .byt y=>y.size<=sizeLine/\n=y.size
 | .ref p=>(∃ xs,SqL K H p xs/\n=xs.length) ∨ ∃ xs,SqT K H p xs/\n=xs.length
 | _=>False
theorem zhR:zdj X (.builtin "len") (fun xs H Q=>∃ x n,xs=[x]/\LenV X.K x H n/\Q (.int n) H):=by
 intro pins s σ H xs us Q I r h
 obtain ⟨x,n,rfl,e,q⟩:=h
 obtain ⟨u,rfl,rx⟩:=zn7 r
 have hl:=zf8
 have hs:sizeLine=16777216:=sizeLine_eq
 cases x with
 | str y =>
  obtain ⟨t,rfl⟩:=rx
  obtain ⟨hy,e'⟩:y.length<=sizeLine/\n=y.length:=e
  subst e'
  exact len_str (by omega) ⟨.int _,H,I.tok _,⟨_,rfl⟩,q⟩
 | byt y =>
  obtain ⟨t,rfl⟩:=rx
  obtain ⟨hy,e'⟩:y.size<=sizeLine/\n=y.size:=e
  subst e'
  exact PySem.W.len_bytes (by omega) ⟨.int _,H,I.tok _,⟨_,rfl⟩,q⟩
 | ref p =>
  cases rx
  have e':(∃ xs,SqL X.K H p xs/\n=xs.length) ∨ ∃ xs,SqT X.K H p xs/\n=xs.length:=e
  rcases e' with ⟨xs,hx,e'⟩ | ⟨xs,hx,e'⟩
  ·subst e'
   obtain ⟨its,r',pl,hz⟩:=I.list hx
   have hlen:=r'.length
   exact Calls.call_len_list pl.isList (by simp only [List.size_toArray];omega) ⟨.int xs.length,H,I.tok _,⟨_,by simp only [List.size_toArray];rw [hlen]⟩,q⟩
  ·subst e'
   obtain ⟨its,r',pl,hz⟩:=I.tuple hx
   have hlen:=r'.length
   exact len_tuple pl (by simp only [List.size_toArray];omega) ⟨.int xs.length,H,I.tok _,⟨_,by simp only [List.size_toArray];rw [hlen]⟩,q⟩
 | _=>exact (show False from e).elim
end
section
variable {prog:Program} {w:World} {A:Around} {E:Value->Shared->Prop} {s:Shared} {K:PySem.W.Frag} {x dx C f:Addr} {mA:Str->Option Value} {name:Str} {v:Value}
end
section
variable {P:Program} {w:World} {H H':Hp} {h h':Heap} {a C dx:Addr} {fs fs':List (Str × V)}
end
section
variable {X:Cx} {pins:List (Addr × Obj)} {σ : St} {H:Hp} {s:Shared} {a C dx:Addr} {fs:List (Str × V)} {f:Str} {v:V} {A:Around} {E:Value->Shared->Prop}
end
section
variable {X:Cx} {o e value:Expr} {f:Str} {pos pos' tpos:Pos} {ta tv:TE}
end
section
variable {X:Cx} {pins:List (Addr × Obj)} {σ : St} {H:Hp} {s:Shared} {A:Around} {E:Value->Shared->Prop} {Q:Value->Shared->Prop} {c:Value} {b:Bool}
end
structure Room (k:Nat) (A:Around):Prop where
 hd:A.handled=none
 dp:A.depth+3 * k+5 < recursionLimit
 un:A.units+16 * k+200 < cLine
 gd:A.guards=some []
theorem Room.mono {j k:Nat} {A:Around} (r:Room k A) (h:j<=k):Room j A:=⟨r.hd,by have:=r.dp;omega,by have:=r.un;omega,r.gd⟩
theorem Room.deeper {k:Nat} {A:Around} (r:Room (k+1) A) (env:Env):Room k (A.deeper env) :=
 ⟨r.hd,by have:=r.dp;show A.depth+1+3 * k+5 < _;omega,by have:=r.un;show A.units+3+16 * k+200 < _;omega,r.gd⟩
theorem Room.depth {k:Nat} {A:Around} (r:Room k A):A.depth < recursionLimit:=by have:=r.dp;omega
theorem Room.units {k:Nat} {A:Around} (r:Room k A):A.units+64 < cLine:=by have:=r.un;omega
def tNil:TA:=fun _ H Q=>Q [] H
def zpk (ta:TE) (tr:TA):TA:=fun σ H Q=>ta σ H fun x H1=>tr σ H1 fun xs H2=>Q (x :: xs) H2
section
variable {X:Cx} {e:Expr} {es:List Expr} {te:TE} {t:TA} {pos:Pos}
theorem zex:PA X [] tNil:=fun _ _ _ _ H Q I h=>Calls.spliced_nil ⟨[],H,I,.nil,h⟩
theorem zcL (ha:PE X e te) (hr:PA X es t) (hs:starEach (e :: es) X.env=(false,eval e X.env) :: starEach es X.env:=by rfl):PA X (e :: es) (zpk te t):=by
 intro pos pins s σ H Q I h
 rw [hs]
 show wpAny _ _ (spliced ((false,eval e X.env) :: backTo pos (starEach es X.env))) _ _ s
 refine Calls.spliced_cons (thn (ha pins s σ H _ I h) fun u s1 ⟨x,H1,I1,r1,q1⟩=>?_)
 exact thn (hr pos pins s1 σ H1 _ I1 q1) fun us s2 ⟨xs,H2,I2,r2,q2⟩=>⟨x :: xs,H2,I2,.cons r1 r2,q2⟩
def tTup (t:TA):TE:=fun σ H Q=>t σ H fun xs H1=>xs.length<=sizeLine/\∀ p,H1 p=none->Q (.ref p) (upd H1 p (.tup xs))
def tLst (t:TA):TE:=fun σ H Q=>t σ H fun xs H1=>xs.length<=sizeLine/\∀ p,H1 p=none->Q (.ref p) (upd H1 p (.lst xs))
theorem zn8 {x1} (h:PA X es t):PE X (.Tuple es x1 pos) (tTup t):=by
 intro pins s σ H Q I hq
 refine wpAny_Tuple_spliced (thn (h pos pins s σ H _ I hq) fun us s1 ⟨xs,H1,I1,r,z,q⟩=>⟨by rw [← r.length];exact z,?_⟩)
 have hf:H1 s1.heap.objs.size=none:=I1.hok.fresh (Nat.le_refl _)
 refine ⟨.ref s1.heap.objs.size,upd H1 s1.heap.objs.size (.tup xs),I1.laid (t':=s1.toks) (fun b u e=>Heap.get?_push_of_some _ e) (Nat.le_refl _) ?_,rfl,q _ hf⟩
 exact ⟨z,us,r,⟨_,Heap.get?_push_size _ rfl,rfl,_,rfl⟩⟩
theorem zmv (h:PA X es t):PE X (.List es pos) (tLst t):=by
 intro pins s σ H Q I hq
 refine wpAny_List_spliced (thn (h pos pins s σ H _ I hq) fun us s1 ⟨xs,H1,I1,r,z,q⟩=>⟨by rw [← r.length];exact z,?_⟩)
 have hf:H1 s1.heap.objs.size=none:=I1.hok.fresh (Nat.le_refl _)
 refine ⟨.ref s1.heap.objs.size,upd H1 s1.heap.objs.size (.lst xs),I1.laid (t':=s1.toks) (fun b u e=>Heap.get?_push_of_some _ e) (Nat.le_refl _) ?_,rfl,q _ hf⟩
 exact ⟨z,us,0,r,Heap.get?_push_size _ rfl⟩
end
abbrev Sp:=List V->Hp->VK->XK->Prop
abbrev CXT:=List Env->Hp->Shared->XK->Value->Shared->Prop
structure Env0 (P:Program) (w:World) (K:PySem.W.Frag) (mg:Str->Option Value) (base:Heap) (A:Around) (outer:List Env) (s:Shared) (H:Hp):Prop where
 frames:A.frames=some outer
 mod:Mod K mg base
 bs:∀ b o,base.get? b=some o->s.heap.get? b=some o/\H b=none
 bsz:base.objs.size<=s.heap.objs.size
 funs:s.heap.FunFrames base outer
 frf:∀ b ∈ frs outer,H b=none
 hok:HOk P w H s.heap
 bare:AllBare s.gens
def CE (outer:List Env) (P:Program) (w:World) (H:Hp) (s:Shared) (Q:VK) (u:Value) (s':Shared):Prop :=
 ∃ v H',s'.os=s.os/\AllBare s'.gens/\Un (frs outer) [] H H' s.heap s'.heap/\HOk P w H' s'.heap/\RelV v u/\Q v H'
def CR (CX:CXT) (outer:List Env) (P:Program) (w:World) (H:Hp) (s:Shared) (Q:VK) (E:XK) (r:Result) (s':Shared):Prop :=
 match r with
 | .ok (.ret u)=>CE outer P w H s Q u s'
 | .ok _=>False
 | .error e=>CX outer H s E e s'
structure FnOk (P:Program) (w:World) (K:PySem.W.Frag) (mg:Str->Option Value) (base:Heap) (CX:CXT) (k:Nat) (f:Addr) (fd:FuncData) (ps:List Str) (sp:Sp):Prop where
 len:∀ vs H Q E,sp vs H Q E->vs.length=ps.length
 run:∀ (A:Around) (outer:List Env) (s:Shared) (H:Hp) (args:Args) (us:List Value) (vs:List V) (Q:VK) (E:XK),Room k A->Env0 P w K mg base A outer s H->BindsTo s fd args (ps.zip us)->Vals vs us->sp vs H Q E ->
  codeAny (model P w) A (.call (.ref f) args) (CR CX outer P w H s Q E) s
section
variable {X:Cx} {pins:List (Addr × Obj)} {σ : St} {H:Hp} {s s':Shared}
theorem Inv.env0 (I:Inv X pins σ H s):Env0 X.prog X.w X.K X.mg X.base X.A X.stack s H :=
 ⟨I.ok.frames,I.ok.mod,I.bs,Nat.le_trans I.ok.bsz I.sz,I.stack,I.stkFree,I.hok,I.bare⟩
theorem Inv.after {Q:VK} {u:Value} (I:Inv X pins σ H s) (h:CE X.stack X.prog X.w H s Q u s'):EP X pins σ Q u s':=by
 obtain ⟨v,H',os,bare,un,hok,r,q⟩:=h
 obtain ⟨hh,g,d,t,os'⟩:=s'
 obtain rfl:os'=s.os:=os
 exact ⟨v,H',I.call (h':=hh) (g':=g) (d':=d) (t':=t) (ch:=[]) un hok bare (fun b z=>absurd z (by simp)),r,q⟩
end
def zpl (sp:Sp) (dvs:List V) (E:XK) (t:TA):TE:=fun σ H Q=>t σ H fun vs H1=>sp (vs ++ dvs) H1 Q E
def zf9 (K:PySem.W.Frag) (fd:FuncData) (ps:List Str) (ds:List Value):Prop :=
 ∀ (s:Shared) (us:List Value),K.In s.heap->(us ++ ds).length=ps.length->BindsTo s fd ⟨us,[]⟩ (ps.zip (us ++ ds))
theorem zf9.all {K:PySem.W.Frag} {fd:FuncData} {ps:List Str} (h:∀ us:List Value,us.length=ps.length->bindArgs fd ⟨us,[]⟩=pure (ps.zip us)):zf9 K fd ps []:=fun s us _ hl=>by
 rw [List.append_nil] at hl ⊢
 exact .of_eq (h us hl)
def zjq (CX:CXT) (X:Cx) (E:XK):Prop:=∀ (pins:List (Addr × Obj)) (σ : St) (H:Hp) (s:Shared) (e:Value) (s':Shared),Inv X pins σ H s->CX X.stack H s E e s'->X.xe e s'
section
variable {X:Cx} {CX:CXT} {k:Nat} {f C:Addr} {fd:FuncData} {ps:List Str} {sp:Sp} {dvs:List V} {ds:List Value} {E:XK} {x m:Str} {p pos apos:Pos} {e o:Expr} {es:List Expr} {ta:TE} {t:TA}
theorem zn9 {pins:List (Addr × Obj)} {σ : St} {H:Hp} {s:Shared} {Q:VK} {us:List Value} {vs:List V} (F:FnOk X.prog X.w X.K X.mg X.base CX k f fd ps sp) (hr:Room k X.A) (hb:zf9 X.K fd ps ds) (hd:Vals dvs ds) (hx:zjq CX X E)
  (I:Inv X pins σ H s) (r:Vals vs us) (h:sp (vs ++ dvs) H Q E):wpAny (model X.prog X.w) X.A (call (.ref f) us) (EP X pins σ Q) X.xe s:=by
 have r2:Vals (vs ++ dvs) (us ++ ds):=r.append hd
 have hl:(us ++ ds).length=ps.length:=by rw [← r2.length];exact F.len _ _ _ _ h
 refine wpAny_call (codeAny_mono (F.run X.A X.stack s H ⟨us,[]⟩ (us ++ ds) (vs ++ dvs) Q E hr I.env0 (hb s us I.kIn hl) r2 h) fun r s' hq=>?_)
 cases r with
 | error e=>exact hx pins σ H s e s' I hq
 | ok fl =>
  cases fl with
  | ret u=>exact I.after hq
  | next=>exact False.elim hq
  | brk=>exact False.elim hq
  | cont=>exact False.elim hq
theorem zjr (F:FnOk X.prog X.w X.K X.mg X.base CX k f fd ps sp) (hr:Room k X.A) (hg:Gl X x) (hm:X.mg x=some (.ref f)) (hk:PySem.W.keepIn X.K (.ref f)=true) (hb:zf9 X.K fd ps ds) (hd:Vals dvs ds) (hx:zjq CX X E)
  (ha:PA X (e :: es) t) (hdb:(x == ("__debug__" : Str))=false:=by decide) (he:starEach (e :: es) X.env=(false,eval e X.env) :: starEach es X.env:=by rfl) (hpl:(backTo pos (starEach es X.env)).any (·.1)=false:=by rfl) :
  PE X (.Call (.Name x p) (e :: es) [] pos) (zpl sp dvs E t):=by
 intro pins s σ H Q I h
 refine wpAny_Call_Name_kw (zjg I hg hm ?_ hdb)
 refine PySem.W.callWith_K (h₀:=X.base) I.ok.mod.kin hk (thn (ha pos pins s σ H _ I h) fun us s1 ⟨vs,H1,I1,r,q⟩=>⟨I1.kIn,?_⟩) he hpl
 exact zn9 F hr hb hd hx I1 r q
end
section
variable {X:Cx} {CX:CXT} {k:Nat} {f C:Addr} {fd:FuncData} {ps ks:List Str} {sp:Sp} {E:XK} {x m:Str} {p pos apos kpos:Pos} {e o:Expr} {es:List Expr} {kws:List Keyword} {te ta:TE} {t tk:TA} {nm:Option Str}
variable {g:List Value->List Value->List Value} {gV:List V->List V->List V}
end
structure zey (N P:List Str) (sc:Scope):Prop where
 kind:sc.kind=.function
 co:sc.isCoroutine=false
 gen:sc.isGenerator=false
 nd:N.Nodup
 pre:N.take P.length=P
 par:∀ x ∈ P,sc.names.lookup x=some .local ∨ sc.names.lookup x=some .cell
 nofree:∀ y ∈ sc.names,y.2 ≠ .free
theorem zga {kindOf:Str->Option NameKind} {x:Str}:∀ {binds:List (Str × Value)} {m:Str->Option Value},(∀ v,(x,v) ∉ binds)->bindL kindOf binds m x=m x
 | [],_,_=>rfl
 | (n,v) :: r,m,h=>by
  unfold bindL
  rw [zga fun w hw=>h w (List.mem_cons_of_mem _ hw)]
  split
  ·have:x ≠ n:=by rintro rfl;exact h v List.mem_cons_self
   simp [this]
  ·rfl
theorem zgb {kindOf:Str->Option NameKind} {x:Str}:∀ {binds:List (Str × Value)} {m:Str->Option Value},(∀ v,(x,v) ∉ binds)->bindC kindOf binds m x=m x
 | [],_,_=>rfl
 | (n,v) :: r,m,h=>by
  unfold bindC
  rw [zgb fun w hw=>h w (List.mem_cons_of_mem _ hw)]
  split
  ·rfl
  ·have:x ≠ n:=by rintro rfl;exact h v List.mem_cons_self
   simp [this]
theorem zgc {kindOf:Str->Option NameKind} {x:Str} {v:Value}:∀ {P:List Str} {vs:List Value} {i:Nat} {m:Str->Option Value},P.Nodup->P[i]?=some x->vs[i]?=some v->kindOf x=some .local ->
  bindL kindOf (P.zip vs) m x=some v
 | [],_,_,_,_,h,_,_=>by simp at h
 | _ :: _,[],_,_,_,_,h,_=>by simp at h
 | p :: P,w :: vs,0,m,nd,h1,h2,hk=>by
  simp at h1 h2;subst h1;subst h2
  show bindL kindOf ((p,w) :: P.zip vs) m p=_
  unfold bindL
  rw [zga fun v hv=>(List.nodup_cons.mp nd).1 (List.of_mem_zip hv).1,if_pos hk]
  simp
 | p :: P,w :: vs,i+1,m,nd,h1,h2,hk=>by
  show bindL kindOf ((p,w) :: P.zip vs) m x=_
  unfold bindL
  exact zgc (i:=i) (List.nodup_cons.mp nd).2 (by simpa using h1) (by simpa using h2) hk
theorem zgd {kindOf:Str->Option NameKind} {x:Str} {v:Value}:∀ {P:List Str} {vs:List Value} {i:Nat} {m:Str->Option Value},P.Nodup->P[i]?=some x->vs[i]?=some v->kindOf x ≠ some .local ->
  bindC kindOf (P.zip vs) m x=some v
 | [],_,_,_,_,h,_,_=>by simp at h
 | _ :: _,[],_,_,_,_,h,_=>by simp at h
 | p :: P,w :: vs,0,m,nd,h1,h2,hk=>by
  simp at h1 h2;subst h1;subst h2
  show bindC kindOf ((p,w) :: P.zip vs) m p=_
  unfold bindC
  rw [zgb fun v hv=>(List.nodup_cons.mp nd).1 (List.of_mem_zip hv).1,if_neg hk]
  simp
 | p :: P,w :: vs,i+1,m,nd,h1,h2,hk=>by
  show bindC kindOf ((p,w) :: P.zip vs) m x=_
  unfold bindC
  exact zgd (i:=i) (List.nodup_cons.mp nd).2 (by simpa using h1) (by simpa using h2) hk
def zez (N:List Str) (vs:List V):St:=vs.map some ++ List.replicate (N.length - vs.length) none
def cxOf (CX:CXT) (P:Program) (w:World) (K:PySem.W.Frag) (mg:Str->Option Value) (base:Heap) (N:List Str) (qual:Str) (scope:Scope) (f:Addr) (cd:Value) (A:Around) (outer:List Env) (s:Shared) (H:Hp) (E:XK):Cx where
 prog:=P
 w:=w
 K:=K
 mg:=mg
 base:=base
 A:=A.deeper (envOfC qual scope s.heap.objs.size f cd)
 N:=N
 s₀:=s
 H₀:=H
 env:=envOfC qual scope s.heap.objs.size f cd
 outer:=outer
 stack:=envOfC qual scope s.heap.objs.size f cd :: outer
 ex:=[]
 calm:=true
 fn:=fun _=>true
 pn:=[]
 xe:=fun e s'=>wpAny (model P w) (A.deeper (envOfC qual scope s.heap.objs.size f cd)) (leaving (envOfC qual scope s.heap.objs.size f cd) e) (fun _ s''=>CX outer H s E e s'') (fun e' s''=>CX outer H s E e' s'') s'
theorem zhS {sc:Scope} {n:Nat} {x:Str} (h:sc.names.lookup x=some .cell):∃ c,(cellsFrom n sc.names []).lookup x=some c:=by
 have q:=PySem.W.cellsFrom_some sc.names n [] (.inl h)
 exact Option.isSome_iff_exists.mp q
theorem zjs {CX:CXT} {P:Program} {w:World} {K:PySem.W.Frag} {mg:Str->Option Value} {base:Heap} {N ps:List Str} {qual:Str} {scope:Scope} {f:Addr} {cd:Value} {A:Around} {outer:List Env} {s s1:Shared} {H:Hp} {E:XK} {us:List Value} {vs:List V}
  (S:zey N ps scope) (hd:A.handled=none) (e0:Env0 P w K mg base A outer s H) (hl:vs.length=ps.length) (r:Vals vs us)
  (x:InCallC s s.heap.objs.size (bindL (envOfC qual scope s.heap.objs.size f cd).kindOf (ps.zip us) fun _=>none) (cellsFrom (s.heap.objs.size+1) scope.names []) (bindC (envOfC qual scope s.heap.objs.size f cd).kindOf (ps.zip us) fun _=>none) s1) :
  Inv (cxOf CX P w K mg base N qual scope f cd A outer s H E) [] (zez N vs) H s1:=by
 have hpl:ps.length<=N.length:=by have:=congrArg List.length S.pre;rw [List.length_take] at this;omega
 obtain ⟨h1,tk,rfl,hk⟩:=x.done
 have noA:∀ b:Addr,b ∉ (cxOf CX P w K mg base N qual scope f cd A outer s H E).ex:=fun b z=>absurd (show b ∈ ([]:List Addr) from z) (by simp)
 refine ⟨⟨e0.mod,S.kind,rfl,rfl,Nat.le_refl _,fun y z c h1 h2=>?_,fun y hy=>?_,fun y c _ h=>?_,fun _=>hd,Around.frames_deeper e0.frames,.inr ⟨rfl,rfl⟩,fun b z=>absurd z (noA b),e0.bs,e0.bsz,fun b _ _=>noA b,fun b z=>absurd z (noA b),e0.funs,e0.frf⟩,
  rfl,e0.bare,Un.kept hk,⟨_,x.toInCall.ns,fun i y v h1 h2 h3=>?_⟩,fun y c h=>⟨_,x.cell y c h⟩,e0.hok.fresh (Nat.le_refl _),fun y c h=>?_,fun p hp=>absurd (show p ∈ ([]:List (Addr × Obj)) from hp) (by simp),e0.hok.kept hk,?_⟩
 ·exact name_of_addr x.apart (PySem.mem_of_lookup h1) (PySem.mem_of_lookup h2)
 ·have hy:scope.names.lookup y=some .cell ∨ scope.names.lookup y=some .free:=hy
  rcases hy with hy | hy
  ·exact zhS hy
  ·exact absurd rfl (S.nofree _ (PySem.mem_of_lookup hy))
 ·exact Nat.le_of_lt (x.above y c (PySem.mem_of_lookup h))
 ·have hi:i < vs.length:=by
   unfold zez at h2
   by_cases hi:i < vs.length
   ·exact hi
   ·rw [List.getElem?_append_right (by simpa using hi)] at h2
    rw [List.getElem?_replicate] at h2
    split at h2 <;> cases h2
  have ha:vs[i]?=some v:=by
   unfold zez at h2
   rw [List.getElem?_append_left (by simpa using hi),List.getElem?_map] at h2
   cases e:vs[i]? with
   | none=>rw [e] at h2;cases h2
   | some a=>rw [e] at h2;cases h2;rfl
  obtain ⟨u,hu,rv⟩:=r.get ha
  have hp:ps[i]?=some y:=by
   rw [← S.pre,List.getElem?_take_of_lt (by omega)];exact h1
  have ndP:ps.Nodup:=by rw [← S.pre];exact S.nd.sublist (List.take_sublist _ _)
  refine ⟨u,rv,?_⟩
  rcases S.par y (List.mem_of_getElem? hp) with k | k
  ·exact .inl ⟨k,zgc ndP hp hu k⟩
  ·obtain ⟨c,e⟩:=zhS (n:=s.heap.objs.size+1) k
   refine .inr ⟨.inl k,c,e,?_⟩
   have q:=x.cell y c e
   rw [zgd ndP hp hu (by show scope.names.lookup y ≠ _;rw [k];decide)] at q
   exact q
 ·exact e0.hok.fresh (Nat.le_of_lt (x.above y c (PySem.mem_of_lookup h)))
 ·unfold zez
  show _=N.length
  rw [List.length_append,List.length_map,List.length_replicate]
  omega
theorem zpm {CX:CXT} {P:Program} {w:World} {K:PySem.W.Frag} {mg:Str->Option Value} {base:Heap} {k:Nat} {f:Addr} {name qual:Str} {params:Arguments} {body:List Stmt} {scope:Scope} {dV kV doc pm cdv ct oc:Value} {an od:Option Addr}
  {osl:Array (Option Value)} {N ps:List Str} {sp:Sp} (lk:K.lookup f=some ⟨oc,od,.func (PySem.W.fnOf name qual params body scope dV kV doc pm an cdv ct),osl⟩) (hcd:PySem.W.codeIn K cdv qual=true) (S:zey N ps scope)
  (len:∀ vs H Q E,sp vs H Q E->vs.length=ps.length)
  (hbody:∀ (A:Around) (outer:List Env) (s:Shared) (H:Hp) (vs:List V) (Q:VK) (E:XK),Room k (A.deeper (envOfC qual scope s.heap.objs.size f cdv))->sp vs H Q E ->
   ∃ t,PSs (cxOf CX P w K mg base N qual scope f cdv A outer s H E) body t/\t { nx:=fun _ H'=>Q .non H',rt:=Q } (zez N vs) H) :
  FnOk P w K mg base CX (k+1) f (PySem.W.fnOf name qual params body scope dV kV doc pm an cdv ct) ps sp:=by
 refine ⟨len,fun A outer s H args us vs Q E hr e0 hb r hsp=>?_⟩
 have hl:=len _ _ _ _ hsp
 have KX:K.In s.heap:=e0.mod.kin.keeps fun b o e=>(e0.bs b o e).1
 have lim:s.heap.NoLimit:=e0.mod.nolimit.keeps fun b o e=>(e0.bs b o e).1
 have hkind:∀ y ∈ ps.zip us,scope.names.lookup y.1=some .local ∨ (scope.names.lookup y.1=some .cell/\((cellsFrom (s.heap.objs.size+1) scope.names []).lookup y.1).isSome=true):=fun ⟨n,v⟩ hy=>by
  rcases S.par n (List.of_mem_zip hy).1 with q | q
  ·exact .inl q
  ·exact .inr ⟨q,PySem.W.cellsFrom_some _ _ _ (.inl q)⟩
 refine codeAny_call_function hr.depth (KX _ _ lk) rfl S.co S.gen rfl (PySem.W.codeRec_of KX hcd) (hb _ _ _ _ ?_)
 refine wpAny_newFunctionEnv_cells S.kind hkind fun env he s1 x=>?_
 subst he
 refine ⟨lim.keeps x.toInCall.keep,codeAny_func ?_⟩
 obtain ⟨t,ht,hq⟩:=hbody A outer s H vs Q E (hr.deeper _) hsp
 have I:Inv (cxOf CX P w K mg base N qual scope f cdv A outer s H E) [] (zez N vs) H s1:=zjs S hr.hd e0 hl r x
 refine wpAny_mono (ht [] s1 (zez N vs) H _ I hq) (fun fl s' hs=>?_) fun e s' hs=>hs
 have fin:∀ {σ':St} {H':Hp} {v:V} {u:Value},Inv (cxOf CX P w K mg base N qual scope f cdv A outer s H E) [] σ' H' s'->RelV v u->Q v H'->CE outer P w H s Q u s' :=
  fun {σ' H' v u} J rv q=>⟨v,H',J.os,J.bare,J.base,J.hok,rv,q⟩
 cases fl with
 | ret u =>
  obtain ⟨v,σ',H',J,rv,q⟩:=hs
  exact fin J rv q
 | next =>
  obtain ⟨σ',H',J,q⟩:=hs
  exact fin (v:=V.non) (u:=Value.none) J rfl q
 | brk =>
  obtain ⟨_,_,_,q⟩:=hs
  exact False.elim q
 | cont =>
  obtain ⟨_,_,_,q⟩:=hs
  exact False.elim q
section
variable {X:Cx} {x:Str} {p pos:Pos} {e:Expr} {es:List Expr} {t:TA} {id T:String} {r:List V->Hp->VK->Prop}
def tCB (r:List V->Hp->VK->Prop) (t:TA):TE:=fun σ H Q=>t σ H fun vs H1=>r vs H1 Q
theorem zep (hc:zdj X (.builtin id) r) (hg:Gl X x) (hm:X.mg x=none) (hv:bootBuiltins x=some (.builtin id)) (ha:PA X (e :: es) t) (hn:x ≠ "__name__" := by decide) (hdb:(x == ("__debug__" : Str))=false:=by decide)
  (he:starEach (e :: es) X.env=(false,eval e X.env) :: starEach es X.env:=by rfl) (hpl:(backTo pos (starEach es X.env)).any (·.1)=false:=by rfl):PE X (.Call (.Name x p) (e :: es) [] pos) (tCB r t):=by
 intro pins s σ H Q I h
 refine wpAny_Call_Name_kw (zec I hg hm hv ?_ hn hdb)
 exact PyProof.Rows.callWith_builtin1 (thn (ha pos pins s σ H _ I h) fun us s1 ⟨vs,H1,I1,r1,q1⟩=>hc pins s1 σ H1 vs us Q I1 r1 q1) he hpl
theorem zeA (hc:zdj X (.type T) r) (hg:Gl X x) (hm:X.mg x=none) (hv:bootBuiltins x=some (.type T)) (ha:PA X (e :: es) t) (hn:x ≠ "__name__" := by decide) (hdb:(x == ("__debug__" : Str))=false:=by decide)
  (he:starEach (e :: es) X.env=(false,eval e X.env) :: starEach es X.env:=by rfl) (hpl:(backTo pos (starEach es X.env)).any (·.1)=false:=by rfl):PE X (.Call (.Name x p) (e :: es) [] pos) (tCB r t):=by
 intro pins s σ H Q I h
 refine wpAny_Call_Name_kw (zec I hg hm hv ?_ hn hdb)
 exact PyProof.Rows.callWith_type1 (thn (ha pos pins s σ H _ I h) fun us s1 ⟨vs,H1,I1,r1,q1⟩=>hc pins s1 σ H1 vs us Q I1 r1 q1) he hpl
end
end L2
namespace HT
open PySem PyProof.Rows
section
open PySem.SeqAt
open PySem.AutoSeq1 (wpAny_loadPart')
open PySem.MeetsSeq PySem.MeetsSeq2 PySem.MeetsSeq3
end
section
variable {prog:Program} {w:World} {A:Around} {E:Value->Shared->Prop} {s:Shared}
def sIx (n d:Nat):Option Int->Nat
 | none=>d
 | some v=>if v < 0 then (v+(n:Int)).toNat else min v.toNat n
end
end HT
namespace L2
open PySem PySem.Spec PyProof.Rows
abbrev TO:=St->Hp->(Option Int->Hp->Prop)->Prop
def PO (X:Cx) (e:Option Expr) (t:TO):Prop :=
 ∀ (pins:List (Addr × Obj)) (s:Shared) (σ : St) (H:Hp) (Q:Option Int->Hp->Prop),Inv X pins σ H s->t σ H Q ->
  wpAny (model X.prog X.w) X.A (evalPart e X.env) (fun u s'=>∃ o H',Inv X pins σ H' s'/\IsPart u o/\Q o H') X.xe s
def zmV:TO:=fun _ H Q=>Q none H
def zpn (t:TE):TO:=fun σ H Q=>t σ H fun x H1=>∃ i,x=.int i/\Q (some i) H1
section
variable {X:Cx} {e:Expr} {te:TE} {lo hi:Option Expr} {tl th:TO} {pos p2:Pos}
theorem zmW:PO X none zmV:=by
 intro pins s σ H Q I h
 rw [evalPart_none]
 exact wpAny_pure ⟨none,H,I,.none,h⟩
theorem zmX (h:PE X e te):PO X (some e) (zpn te):=by
 intro pins s σ H Q I hw
 rw [evalPart_some]
 refine thn (h pins s σ H _ I hw) fun u s1 ⟨x,H1,I1,r1,q1⟩=>?_
 obtain ⟨i,rfl,q⟩:=q1
 obtain ⟨t,rfl⟩:=r1
 exact ⟨some i,H1,I1,.int i t,q⟩
def SlR (X:Cx) (r:V->Option Int->Option Int->Hp->VK->Prop):Prop :=
 ∀ (pins:List (Addr × Obj)) (s:Shared) (σ : St) (H:Hp) (x:V) (v vl vu:Value) (lo hi:Option Int) (sl:Addr) (Q:VK),Inv X pins σ H s->RelV x v->s.heap.IsSliceOf sl vl vu .none->IsPart vl lo->IsPart vu hi->r x lo hi H Q ->
  ∃ T id,typeLookup (.type T) "__getitem__" = pure (some (.builtin id))/\s.TypeIs v T/\wpAny (model X.prog X.w) X.A (getItem v (.ref sl)) (EP X pins σ Q) X.xe s
theorem SlR.or {r r':V->Option Int->Option Int->Hp->VK->Prop} (h:SlR X r) (h':SlR X r'):SlR X (fun x lo hi H Q=>r x lo hi H Q ∨ r' x lo hi H Q):=by
 intro pins s σ H x v vl vu lo hi sl Q I rx hs pl pu q
 rcases q with q | q
 ·exact h pins s σ H x v vl vu lo hi sl Q I rx hs pl pu q
 ·exact h' pins s σ H x v vl vu lo hi sl Q I rx hs pl pu q
def tSl (r:V->Option Int->Option Int->Hp->VK->Prop) (te:TE) (tl th:TO):TE:=fun σ H Q=>te σ H fun x H1=>tl σ H1 fun l H2=>th σ H2 fun u H3=>r x l u H3 Q
theorem zlt {r:V->Option Int->Option Int->Hp->VK->Prop} (hr:SlR X r) (he:PE X e te) (hl:PO X lo tl) (hu:PO X hi th):PE X (.Subscript e (.Slice lo hi none p2) pos) (tSl r te tl th):=by
 intro pins s σ H Q I h
 refine Subscript_ (thn (he pins s σ H _ I h) fun v s1 ⟨x,H1,I1,r1,q1⟩=>?_)
 refine wpAny_Slice (thn (hl pins s1 σ H1 _ I1 q1) fun vl s2 ⟨l,H2,I2,pl,q2⟩=>thn (hu pins s2 σ H2 _ I2 q2) fun vu s3 ⟨u,H3,I3,pu,q3⟩=>?_)
 rw [evalPart_none]
 refine wpAny_pure ?_
 have I4:Inv X pins σ H3 { s3 with heap:=s3.heap.push { cls:=.type "slice", data:=.fields #[vl,vu,.none] } }:=I3.kept (t':=s3.toks) fun b ob q=>Heap.get?_push_of_some _ q
 obtain ⟨T,id,hT,ht,hg⟩:=hr pins { s3 with heap:=s3.heap.push { cls:=.type "slice", data:=.fields #[vl,vu,.none] } } σ H3 x v vl vu l u s3.heap.objs.size Q I4 r1 (Heap.IsSliceOf.new ..) pl pu q3
 show wpAny (model X.prog X.w) X.A (subscriptTail e (.Slice lo hi none p2) v (.ref s3.heap.objs.size)) (EP X pins σ Q) X.xe { s3 with heap:=s3.heap.push { cls:=.type "slice", data:=.fields #[vl,vu,.none] } }
 exact tail_any (ops:=[.ref s3.heap.objs.size,v]) ht hT hg (by with_unfolding_all rfl)
def cutV (xs:List V) (lo hi:Option Int):List V:=(xs.drop (HT.sIx xs.length 0 lo)).take (HT.sIx xs.length xs.length hi - HT.sIx xs.length 0 lo)
theorem zg9 (xs:List V) (lo hi:Option Int):(cutV xs lo hi).length<=xs.length:=by
 unfold cutV
 rw [List.length_take,List.length_drop]
 omega
end
def ixN (n:Nat) (i:Int):Option Nat:=if 0<=i then (if i < n then some i.toNat else none) else if -(n:Int)<=i then some (i+n).toNat else none
def atI {α : Type} (xs:List α) (i:Int):Option α:=(ixN xs.length i).bind fun j=>xs[j]?
theorem zmY {n:Nat} {i:Int} {j:Nat} (h:ixN n i=some j):seqIndex? i n=some j/\j < n /\ -(n:Int)<=i/\i < n:=by
 unfold ixN at h
 by_cases h0:0<=i
 ·rw [if_pos h0] at h
  by_cases h1:i < n
  ·rw [if_pos h1] at h
   have e:i.toNat=j:=Option.some.inj h
   exact ⟨by rw [seqIndex_of h0 h1,e],by omega,by omega,h1⟩
  ·rw [if_neg h1] at h;cases h
 ·rw [if_neg h0] at h
  by_cases h1 : -(n:Int)<=i
  ·rw [if_pos h1] at h
   have e:(i+n).toNat=j:=Option.some.inj h
   exact ⟨by rw [seqIndex_neg (by omega) h1,e],by omega,h1,by omega⟩
  ·rw [if_neg h1] at h;cases h
theorem zha {α : Type} {xs:List α} {i:Int} {v : α} (h:atI xs i=some v):∃ j,seqIndex? i xs.length=some j/\xs[j]?=some v/\j < xs.length /\ -(xs.length:Int)<=i/\i < xs.length:=by
 unfold atI at h
 cases e:ixN xs.length i with
 | none=>rw [e] at h;cases h
 | some j =>
  rw [e] at h
  obtain ⟨h1,h2,h3,h4⟩:=zmY e
  exact ⟨j,h1,h,h2,h3,h4⟩
theorem zaW {α : Type} {xs:List α} {j:Nat} {v : α} (h:xs[j]?=some v):atI xs (j:Int)=some v:=by
 have hj:j < xs.length:=(List.getElem?_eq_some_iff.mp h).1
 have e:ixN xs.length (j:Int)=some j:=by
  unfold ixN
  rw [if_pos (by omega),if_pos (by omega)];simp
 unfold atI;rw [e];exact h
def zhb (b:Expr):Prop:=∀ o i,subscripted b false o i=operate [o,i] (getItem o i)
def IxR (X:Cx) (r:R2):Prop :=
 ∀ (value slice:Expr) (pins:List (Addr × Obj)) (s:Shared) (σ : St) (H:Hp) (x y:V) (v u:Value) (Q:VK),Inv X pins σ H s->RelV x v->RelV y u->r x y H Q ->
  subscripted slice false v u=operate [v,u] (getItem v u)->wpAny (model X.prog X.w) X.A (subscriptTail value slice v u) (EP X pins σ Q) X.xe s
def MtR (X:Cx) (id:String) (r:V->List V->Hp->VK->Prop):Prop :=
 ∀ (pins:List (Addr × Obj)) (s:Shared) (σ : St) (H:Hp) (x:V) (xs:List V) (v:Value) (us:List Value) (Q:VK),Inv X pins σ H s->RelV x v->Vals xs us->r x xs H Q ->
  wpAny (model X.prog X.w) X.A (call (.builtin id) (v :: us)) (EP X pins σ Q) X.xe s
section
variable {X:Cx} {a b:Expr} {ta tb:TE} {pos:Pos}
theorem IxR.or {r r':R2} (h:IxR X r) (h':IxR X r'):IxR X (fun x y H Q=>r x y H Q ∨ r' x y H Q):=by
 intro value slice pins s σ H x y v u Q I rx ry q hs
 rcases q with q | q
 ·exact h value slice pins s σ H x y v u Q I rx ry q hs
 ·exact h' value slice pins s σ H x y v u Q I rx ry q hs
theorem zoa {r:R2} (hr:IxR X r) (ha:PE X a ta) (hb:PE X b tb) (hs:zhb b):PE X (.Subscript a b pos) (tOp r ta tb):=by
 intro pins s σ H Q I h
 exact Subscript_ (binT ha hb I h fun v u s2 x y H2 I2 rx ry q=>hr a b pins s2 σ H2 x y v u Q I2 rx ry q (hs _ _))
def rIxL (K:PySem.W.Frag):R2:=fun x y H Q=>∃ p xs i v,x=.ref p/\y=.int i/\SqL K H p xs/\atI xs i=some v/\Q v H
def rIxT (K:PySem.W.Frag):R2:=fun x y H Q=>∃ p xs i v,x=.ref p/\y=.int i/\SqT K H p xs/\atI xs i=some v/\Q v H
def rIxS:R2:=fun x y H Q=>∃ z i c,x=.str z/\y=.int i/\z.length<=sizeLine/\atI z.cps.toList i=some c/\Q (.str ⟨#[c]⟩) H
theorem zmZ:IxR X (rIxL X.K):=by
 intro value slice pins s σ H x y v u Q I rx ry h hs
 obtain ⟨p,xs,i,z,rfl,rfl,hq,he,q⟩:=h
 cases rx
 obtain ⟨t,rfl⟩:=ry
 obtain ⟨its,r,pl,hz⟩:=I.list hq
 obtain ⟨j,h1,h2,h3,h4,h5⟩:=zha he
 obtain ⟨w,ew,rw'⟩:=r.get h2
 have hl:=r.length
 have hn:=zf8
 have fin:EP X pins σ Q w s:=⟨z,H,I,rw',q⟩
 by_cases h0:0<=i
 ·have hj:i.toNat=j:=by
   rw [seqIndex_of h0 h5] at h1
   exact Option.some.inj h1
  exact item_listR pl.isList h0 (by omega) (by rw [hj];simpa using ew) fin hs
 ·have hj:(i+(its.toArray.size:Int)).toNat=j:=by
   rw [seqIndex_neg (by omega) h4] at h1
   rw [List.size_toArray,← hl]
   exact Option.some.inj h1
  exact subscriptTail_builtinR (x:=w) pl.isList.typeIs slot_list_getitem.lookup
   (wpAny_getItem_list_neg (Q:=fun r s'=>r=w/\EP X pins σ Q r s') pl.isList (by omega) (by rw [List.size_toArray] <;> omega) (by omega) (by rw [hj];simpa using ew) ⟨rfl,fin⟩) hs
theorem zob:IxR X (rIxT X.K):=by
 intro value slice pins s σ H x y v u Q I rx ry h hs
 obtain ⟨p,xs,i,z,rfl,rfl,hq,he,q⟩:=h
 cases rx
 obtain ⟨t,rfl⟩:=ry
 obtain ⟨its,r,pl,hz⟩:=I.tuple hq
 obtain ⟨j,h1,h2,h3,h4,h5⟩:=zha he
 obtain ⟨w,ew,rw'⟩:=r.get h2
 have hl:=r.length
 have hn:=zf8
 have fin:EP X pins σ Q w s:=⟨z,H,I,rw',q⟩
 exact subscriptTail_builtinR (x:=w) pl.typeIs slot_tuple_getitem.lookup
  (getItem_tuple (j:=j) (Q:=fun r s'=>r=w/\EP X pins σ Q r s') pl (by omega) (by omega) (by rw [List.size_toArray,← hl];exact h1) (by simpa using ew) ⟨rfl,fin⟩) hs
theorem zoc:IxR X rIxS:=by
 intro value slice pins s σ H x y v u Q I rx ry h hs
 obtain ⟨z,i,c,rfl,rfl,hz,he,q⟩:=h
 obtain ⟨t,rfl⟩:=rx
 obtain ⟨t',rfl⟩:=ry
 obtain ⟨j,h1,h2,h3,h4,h5⟩:=zha he
 have hl:z.cps.toList.length=z.length:=by simp [Str.length]
 rw [hl] at h1 h4 h5
 have hn:=zf8
 exact tail_any (typeIs_str s z t) slot_str_getitem.lookup (getItem_str (c:=c) (by
  have e1:decide (i < -(2 ^ 63:Int))=false:=decide_eq_false (by omega)
  have e2:decide (i ≥ 2 ^ 63)=false:=decide_eq_false (by omega)
  rw [e1,e2,Bool.or_false]) (by rw [h1];simpa using h2) ⟨.str ⟨#[c]⟩,H,I.tok _,⟨_,rfl⟩,q⟩) hs
def rIx (K:PySem.W.Frag):R2:=fun x y H Q=>rIxL K x y H Q ∨ rIxT K x y H Q ∨ rIxS x y H Q
theorem zmw:IxR X (rIx X.K):=zmZ.or (zob.or zoc)
theorem zge (lo hi:Option Int) (n:Nat):(sliceBounds lo hi none n).1=((HT.sIx n 0 lo:Nat):Int)/\(sliceBounds lo hi none n).2.1=((HT.sIx n n hi:Nat):Int)/\(sliceBounds lo hi none n).2.2=1:=by
 refine ⟨?_,?_,rfl⟩
 ·cases lo with
  | none=>simp [sliceBounds,HT.sIx]
  | some i =>
   simp only [sliceBounds,HT.sIx,Option.getD_none,show (1:Int) > 0 by decide,if_true]
   by_cases h:i < 0
   ·simp only [h,if_true] <;> omega
   ·simp only [h,if_false] <;> omega
 ·cases hi with
  | none=>simp [sliceBounds,HT.sIx]
  | some i =>
   simp only [sliceBounds,HT.sIx,Option.getD_none,show (1:Int) > 0 by decide,if_true]
   by_cases h:i < 0
   ·simp only [h,if_true] <;> omega
   ·simp only [h,if_false] <;> omega
theorem zfB (its:List Value) (lo hi:Option Int):slicePick its.toArray lo hi none=((its.drop (HT.sIx its.length 0 lo)).take (HT.sIx its.length its.length hi - HT.sIx its.length 0 lo)).toArray:=by
 obtain ⟨h1,h2,h3⟩:=zge lo hi its.toArray.size
 unfold slicePick
 rw [h1,h2,h3]
 simp only [sliceRange_one,pick_run,List.size_toArray] <;> rfl
def rSlL (K:PySem.W.Frag):V->Option Int->Option Int->Hp->VK->Prop:=fun x lo hi H Q=>∃ a xs,x=.ref a/\SqL K H a xs/\∀ p,H p=none->Q (.ref p) (upd H p (.lst (cutV xs lo hi)))
theorem zm0:SlR X (rSlL X.K):=by
 intro pins s σ H x v vl vu lo hi sl Q I rx hs pl pu h
 obtain ⟨a,xs,rfl,hx,q⟩:=h
 cases rx
 obtain ⟨its,r,ht,hz⟩:=I.list hx
 have hlen:=r.length
 refine ⟨"list", _,slot_list_getitem.lookup,ht.isList.typeIs,?_⟩
 refine wpAny_getItem_list_slice ht.isList hs pl pu .none (by simp) ?_ (by rw [List.size_toArray] <;> omega)
 rw [zfB,← hlen]
 refine ⟨.ref s.heap.objs.size,_,I.laid (t':=s.toks) (o:=.lst (cutV xs lo hi)) (fun b ob q=>Heap.get?_push_of_some _ q) (Nat.le_refl _) ?_,rfl,q _ (I.hok.fresh (Nat.le_refl _))⟩
 exact ⟨Nat.le_trans (zg9 xs lo hi) hz,_,0,(r.drop (HT.sIx xs.length 0 lo)).take (HT.sIx xs.length xs.length hi - HT.sIx xs.length 0 lo),Heap.get?_push_size _ rfl⟩
theorem zed:zdj X (.type "list") (fun xs H Q=>∃ p ys,xs=[.ref p]/\(SqL X.K H p ys ∨ SqT X.K H p ys)/\∀ l,H l=none->Q (.ref l) (upd H l (.lst ys))):=by
 intro pins s σ H xs us Q I r h
 obtain ⟨p,ys,rfl,hq,q⟩:=h
 obtain ⟨u,rfl,rx⟩:=zn7 r
 cases rx
 have fin:∀ (its:List Value),Vals ys its->ys.length<=sizeLine->∀ (h':Heap) (c':Nat),(∀ b o',s.heap.get? b=some o'->h'.get? b=some o') ->
   h'.get? s.heap.objs.size=some { cls:=.type "list", dict:=none,data:=.seq its.toArray c',slots:=#[] }->EP X pins σ Q (.ref s.heap.objs.size) { s with heap:=h' }:=fun its r' hz h' c' kp e =>
  ⟨.ref s.heap.objs.size,_,I.laid (t':=s.toks) kp (Nat.le_refl _) (show zcw X.prog X.w _ h' _ (.lst ys) from ⟨hz,its,c',r',e⟩),rfl,q _ (I.hok.fresh (Nat.le_refl _))⟩
 rcases hq with hq | hq
 ·obtain ⟨its,r',pl,hz⟩:=I.list hq
  have hlen:=r'.length
  obtain ⟨o,ho,hc,n,hd⟩:=pl.isList
  exact call_list_seq p (.inl rfl) ho hc hd (fun h' c' kp e=>fin its r' hz h' c' kp e) (by simp only [List.size_toArray] <;> omega)
 ·obtain ⟨its,r',pl,hz⟩:=I.tuple hq
  have hlen:=r'.length
  obtain ⟨o,ho,hc,n,hd⟩:=pl
  exact call_list_seq p (.inr rfl) ho hc hd (fun h' c' kp e=>fin its r' hz h' c' kp e) (by simp only [List.size_toArray] <;> omega)
def tyV (K:PySem.W.Frag) (T:String) (x:V) (H:Hp):Prop:=match x with
 | .str _=>T = "str"
 | .int _=>T = "int"
 | .ref p=>(T = "list" /\ ∃ xs,SqL K H p xs) ∨ (T = "tuple" /\ ∃ o,K.lookup p=some o/\o.cls=.type "tuple" /\ o.dict=none) ∨
   (T = "dict" /\ ((∃ kvs,H p=some (.dK kvs)) ∨ ∃ kvs,H p=some (.dT kvs))) ∨ (T = "set" /\ ∃ S n,H p=some (.set S n))
 | _=>False
theorem zod {pins:List (Addr × Obj)} {σ : St} {H:Hp} {s:Shared} {T:String} {x:V} {v:Value} (I:Inv X pins σ H s) (r:RelV x v) (ty:tyV X.K T x H) :
  s.TypeIs v T/\∀ a,v=.ref a->∃ ob,s.heap.get? a=some ob/\ob.dict=none:=by
 cases x with
 | str z =>
  obtain ⟨t,rfl⟩:=r
  cases (show T = "str" from ty)
  exact ⟨typeIs_str s z t,fun _ e=>nomatch e⟩
 | int i =>
  obtain ⟨t,rfl⟩:=r
  cases (show T = "int" from ty)
  exact ⟨typeIs_int s i t,fun _ e=>nomatch e⟩
 | ref p =>
  cases r
  rcases ty with ⟨rfl,xs,hq⟩ | ⟨rfl,o,hk,hc,hd⟩ | ⟨rfl,hk⟩ | ⟨rfl,S,n,hk⟩
  ·obtain ⟨its,_,pl,_⟩:=I.list hq
   refine ⟨pl.isList.typeIs,fun a e=>?_⟩
   cases e
   obtain ⟨o,n,e,c,hd,_⟩:=pl
   exact ⟨o,e,hd⟩
  ·refine ⟨⟨o,I.kIn p o hk,hc⟩,fun a e=>?_⟩
   cases e
   exact ⟨o,I.kIn _ o hk,hd⟩
  ·have z:∃ o,s.heap.get? p=some o/\o.ExactDict:=by
    rcases hk with ⟨kvs,hk⟩ | ⟨kvs,hk⟩
    ·obtain ⟨_,_,_,_,o,_,_,e,ex,_⟩:=I.hok p _ hk
     exact ⟨o,e,ex⟩
    ·obtain ⟨_,_,_,_,o,_,_,e,ex,_⟩:=I.hok p _ hk
     exact ⟨o,e,ex⟩
   obtain ⟨o,e,ex⟩:=z
   refine ⟨⟨o,e,ex.1⟩,fun a e2=>?_⟩
   cases e2
   exact ⟨o,e,ex.2.1⟩
  ·obtain ⟨o,_,_,_,e,ex,_⟩:=I.hok p _ hk
   refine ⟨⟨o,e,ex.1⟩,fun a e2=>?_⟩
   cases e2
   exact ⟨o,e,ex.2.1⟩
 | _=>exact False.elim ty
def tBM (K:PySem.W.Frag) (T:String) (r:V->List V->Hp->VK->Prop) (to:TE) (t:TA):TE:=fun σ H Q=>to σ H fun x H1=>tyV K T x H1/\t σ H1 fun xs H2=>r x xs H2 Q
variable {o e:Expr} {es:List Expr} {to:TE} {t:TA} {name:Str} {apos cpos:Pos} {T id:String} {r:V->List V->Hp->VK->Prop}
theorem zoe (pa:PlainAttrs T) (slot:Slot T name id) (hty:typeOf (.builtin id)=pure (.type "method_descriptor")) (hm:MtR X id r) (ho:PE X o to) (ha:PA X (e :: es) t)
  (hbase:attributeBase o name X.env (eval o X.env)=eval o X.env:=by rfl)
  (hfew:((backTo cpos (starEach (e :: es) X.env)).all (fun x=>!x.1) && (backToKw cpos (keywordEach [] X.env)).all (fun x=>x.1.isSome)
   && decide ((e :: es).length+([]:List Keyword).length+(if ([]:List Keyword).isEmpty then 0 else 1) < 30))=true:=by rfl)
  (hline:(apos.endLine == cpos.line)=true:=by rfl) (hs:starEach (e :: es) X.env=(false,eval e X.env) :: starEach es X.env:=by rfl) (hplain:(backTo cpos (starEach es X.env)).any (·.1)=false:=by rfl) :
  PE X (.Call (.Attribute o name apos) (e :: es) [] cpos) (tBM X.K T r to t):=by
 intro pins s σ H Q I h
 refine wpAny_Call_method_late hbase hfew hline rfl (thn (ho pins s σ H _ I h) fun v s1 ⟨x,H1,I1,r1,ty,q1⟩=>?_)
 obtain ⟨h1,h2⟩:=zod I1 r1 ty
 refine ⟨T,id,pa,slot,hty,h1,h2,?_⟩
 have hA:=ha cpos pins s1 σ H1 _ I1 q1
 rw [hs] at hA ⊢
 refine Calls.callWith_builtin (by show (false || (backTo cpos (starEach es X.env)).any (·.1))=false;rw [hplain] <;> rfl) (Calls.evalArgs_plain ?_)
 exact thn hA fun us s2 ⟨vs,H2,I2,r2,q2⟩=>hm pins s2 σ H2 x vs v us Q I2 r1 r2 q2
end
def MtM (X:Cx) (id:String) (r:V->List V->Hp->VK->Prop):Prop :=
 ∀ (pins:List (Addr × Obj)) (s:Shared) (σ : St) (H:Hp) (x:V) (xs:List V) (v:Value) (us:List Value) (Q:VK),Inv X pins σ H s->RelV x v->Vals xs us->r x xs H Q ->
  wpAny (model X.prog X.w) X.A (call (.builtin id) (v :: us)) (EP X pins σ Q) X.xe s
theorem Vals.one:∀ {x:V} {us:List Value},Vals [x] us->∃ u,us=[u]/\RelV x u
 | _,_,.cons r .nil=>⟨_,rfl,r⟩
theorem Vals.two:∀ {x y:V} {us:List Value},Vals [x,y] us->∃ u v,us=[u,v]/\RelV x u/\RelV y v
 | _,_,_,.cons r (.cons q .nil)=>⟨_,_,rfl,r,q⟩
theorem Vals.reverse {xs:List V} {us:List Value} (h:Vals xs us):Vals xs.reverse us.reverse:=by
 induction h with
 | nil=>exact .nil
 | cons r t ih=>rw [List.reverse_cons,List.reverse_cons];exact Vals.append ih (.cons r .nil)
theorem Vals.rep {xs:List V} {us:List Value} (h:Vals xs us):∀ k:Nat,Vals (List.replicate k xs).flatten (List.replicate k us).flatten
 | 0=>.nil
 | k+1=>by
  rw [List.replicate_succ,List.replicate_succ,List.flatten_cons,List.flatten_cons]
  exact Vals.append h (Vals.rep h k)
theorem zgf (its:List Value):∀ (k:Nat) (acc:List Value),
  List.foldl (fun x1 x2=>x1 ++ x2) acc.toArray (List.replicate k its.toArray)=(acc ++ (List.replicate k its).flatten).toArray
 | 0,acc=>by simp
 | k+1,acc=>by
  have e:acc.toArray ++ its.toArray=(acc ++ its).toArray:=by simp
  have e2:(acc ++ its) ++ (List.replicate k its).flatten=acc ++ (List.replicate (k+1) its).flatten:=by
   rw [List.replicate_succ,List.flatten_cons,List.append_assoc]
  rw [← e2,← zgf its k (acc ++ its),← e,List.replicate_succ,List.foldl_cons]
section
variable {X:Cx} {pins:List (Addr × Obj)} {σ : St} {H:Hp} {s:Shared} {l b:Addr} {xs ys zs:List V}
theorem Inv.lset {its its':List Value} {n:Nat} {f:Array Value->Array Value} {t':Nat} (I:Inv X pins σ H s) (hH:H l=some (.lst xs))
  (e:s.heap.get? l=some { cls:=.type "list", data:=.seq its.toArray n }) (hf:f its.toArray=its'.toArray) (hv:Vals ys its') (hz:ys.length<=sizeLine) :
  Inv X pins σ (upd H l (.lst ys)) { s with heap:=s.heap.update l (Obj.mapSeq f),toks:=t' }:=by
 have q:=PySem.IsL.update e f
 rw [hf] at q
 refine I.write (x:=l) (e:=l) (by rw [hH];exact trivial) (.inl rfl) (fun b' u hb hu=>(Heap.get?_update_other s.heap (Obj.mapSeq f) (Ne.symm hb)).trans hu) ⟨_,q⟩ ?_
 exact ⟨hz,its',_,hv,q⟩
theorem Inv.lnew {its:List Value} {t':Nat} (I:Inv X pins σ H s) (hv:Vals ys its) (hz:ys.length<=sizeLine) :
  Inv X pins σ (upd H s.heap.objs.size (.lst ys)) { s with heap:=s.heap.push { cls:=.type "list", data:=.seq its.toArray },toks:=t' } :=
 I.laid (fun _ _ q=>Heap.get?_push_of_some _ q) (Nat.le_refl _) ⟨hz,its,0,hv,Heap.get?_push_size _ rfl⟩
theorem Inv.fresh (I:Inv X pins σ H s):H s.heap.objs.size=none:=I.hok.fresh (Nat.le_refl _)
theorem Inv.lstM (I:Inv X pins σ H s) (hH:H l=some (.lst xs)):xs.length<=sizeLine/\∃ (its:List Value) (n:Nat),Vals xs its/\xs.length=its.length/\s.heap.get? l=some { cls:=.type "list", data:=.seq its.toArray n }:=by
 obtain ⟨z,its,n,r,e⟩:=I.hok l _ hH
 exact ⟨z,its,n,r,r.length,e⟩
theorem zlu {n:Nat} (h:n<=sizeLine):Builtin.List.listTooLong n=false:=by
 unfold Builtin.List.listTooLong
 exact decide_eq_false (by omega)
end
section
variable {X:Cx}
def zm1:V->List V->Hp->VK->Prop:=fun x vs H Q=>∃ l xs y,x=.ref l/\vs=[y]/\H l=some (.lst xs)/\xs.length < sizeLine/\Q .non (upd H l (.lst (xs ++ [y])))
theorem zgg:MtM X "list.append" zm1:=by
 intro pins s σ H x vs v us Q I rx rv h
 obtain ⟨l,xs,y,rfl,rfl,hH,hz,q⟩:=h
 cases rx
 obtain ⟨u,rfl,ru⟩:=rv.one
 obtain ⟨z,its,n,r,hl,e⟩:=I.lstM hH
 refine call_meets F.slot_list_append ⟨_,e,rfl⟩ F.entry_list_append (F.args_list_append_2 _ _) (PySem.list_append l its.toArray n u (by rw [List.size_toArray];omega)) ⟨e,?_⟩
 refine ⟨.non,_,I.lset (its':=its ++ [u]) hH e (by simp) (r.append (.cons ru .nil)) ?_,rfl,q⟩
 rw [List.length_append,List.length_singleton]
 omega
theorem zm2 {α : Type} (xs:List α) (k:Nat):(List.replicate k xs).flatten.length=k * xs.length:=by
 induction k with
 | zero=>simp
 | succ k ih=>rw [List.replicate_succ,List.flatten_cons,List.length_append,ih,Nat.succ_mul,Nat.add_comm]
end
section
variable {prog:Program} {w:World} {A:Around} {E:Value->Shared->Prop} {s:Shared}
set_option maxRecDepth 100000 in
end
section
variable {X:Cx}
end
end L2
namespace Att
open PySem PySem.W PySem.Calls PyProof.Rows
theorem zeB {P:Params} {h:Heap}:∀ (ns:List Int) (vs:List Value),WellAll P h vs (ns.map WData.int)->IntsAre vs ns:=by
 intro ns
 induction ns with
 | nil =>
  intro vs w
  rw [List.map_nil] at w
  cases w
  exact .nil
 | cons n ns ih =>
  intro vs w
  rw [List.map_cons] at w
  cases w with
  | cons a b =>
   cases a
   exact .cons _ _ (ih _ b)
theorem zjt {l:OpenLaw} {n:Nat} (hn:l.most=some n) {P:Params} {h:Heap} {args:List WData} {vals:List Value}
  (hpre:l.row.toRowW.claim.pre args=true) (hwl:WellAll P h vals args) :
  ∃ a vs ns,vals=[Value.ref a]/\args=[WData.list (ns.map WData.int)]/\h.get? a=some { cls:=.type "list", data:=.seq vs.toArray }/\IntsAre vs ns/\ns.length<=n:=by
 have hsh:WShape.hasAll [] args [.list .int]=true:=(pre_splitW hpre).1
 have hc:l.pre.holds [] { args:=args }=true:=(pre_splitW hpre).2
 obtain ⟨d,r,rfl,h1,h2⟩:=hasAllW_cons hsh
 obtain rfl:=hasAllW_nil h2
 obtain ⟨xs,rfl,h3⟩:=hasW_list h1
 obtain ⟨ns,rfl⟩:=items_int h3
 have hlen:ns.length<=n:=by
  unfold OpenLaw.pre at hc
  have h4:(WTm.not (.lt (.lit (.int (n:Int))) (.len (.arg 0)))).holds [] { args:=[.list (ns.map .int)] }=true:=by
   have h4:=(holds_andW hc).1
   rw [hn] at h4
   exact h4
  have h5:=condW_of h4 (w_not (w_lt w_lit (w_len_list (w_arg rfl))))
  rw [List.length_map] at h5
  refine Nat.le_of_not_lt fun q=>?_
  have q':(n:Int) < ((ns.length:Nat):Int):=by omega
  first
   | (rw [decide_eq_true q'] at h5;exact absurd h5 (by decide))
   | (simp at h5;omega)
 cases hwl with
 | cons w1 w2 =>
  cases w2
  cases w1 with
  | list ho hall=>exact ⟨_,_,ns,rfl,rfl,ho,zeB ns _ hall,hlen⟩
theorem zju (l:OpenLaw) (args:List WData):l.row.toRowW.claim.post args (.bool true) args=true :=
 postW_of (r:=l.row.toRowW) (X:=(true == true))
  (show WShape.has [] (.bool true) .bool=true by first | rfl | decide | simp [WShape.has,WShape.arms,WShape.armsAll])
  (show (WTm.eq .res (.lit (.bool true))).value [] { args:=args,res:=some (.bool true),after:=args }=some (.bool (true == true)) from w_eq_bool (w_res rfl) w_lit) rfl
theorem attach_call {l:OpenLaw} {n:Nat} {q:Program} {loose:List Str} {XP:(Str->Option Value)->Heap->Prop} {YP:World->Heap->Prop} {d:DefRec}
  (hn:l.most=some n) (hdf:d.params.defaults=[])
  (call:∀ (w:World) (s₀ s₁ : Shared) (mg mb:Str->Option Value) (fa:Addr) (o:Obj) (pm cd doc:Value) (a:Addr) (vs:List Value) (ns:List Int),
   Ground q loose [] XP w s₀ mg mb s₁.heap->YP w s₁.heap ->
   s₁.heap.get? fa=some o->o.data=.func (docDef d.name d.params d.body d.scope pm cd doc)->s₁.heap.CodeRec cd d.name->mg d.name=some (.ref fa) ->
   s₁.heap.get? a=some { cls:=.type "list", data:=.seq vs.toArray }->IntsAre vs ns->ns.length<=n->s₁.gens = #[] ->
   codeAny (model l.prog w) callerA (.call (.ref fa) ⟨[.ref a],[]⟩) (fun r s'=>r=.ok (.ret (.bool true))/\OldK s₁.heap s'.heap/\s'.os=s₁.os/\AllBare s'.gens) s₁) :
  WalkO q loose XP YP l.row.toRowW d [] (fun f vs=>PySem.call f vs):=by
 intro w s₀ s₁ mg mb G Y fa o pm cd doc dV kV ho hd hcd hD hmg hg args vals as hpre hlay hrd hwl hlo
 obtain rfl:dV=.none:=Dflts.none hD hdf
 obtain rfl:kV=.none:=Dflts.noKw hD
 obtain ⟨a,vs,ns,rfl,rfl,hobj,hints,hlen⟩:=zjt hn hpre hwl
 refine enter_call (codeAny_mono (call w s₀ s₁ mg mb fa o pm cd doc a vs ns G Y ho (fd_plain hd) hcd hmg hobj hints hlen hg) fun r s' hq=>?_)
 obtain ⟨rfl,h2,h3,h4⟩:=hq
 exact ⟨.inl ⟨.bool true,.bool true,[],rfl,fun _=>rfl,.bool true,zju l _,fun _=>⟨List.Pairwise.nil,fun _ hm=>(nomatch hm)⟩⟩,h2,h3,h4⟩
section
variable {prog:Program} {w:World} {A:Around} {E:Value->Shared->Prop} {s:Shared} {K:Frag}
end
end Att
namespace L2
open PySem PySem.Spec PyProof.Rows
theorem zcc:∀ {vs:List Value} {ns:List Int},IntsAre vs ns->Vals (ns.map V.int) vs
 | _,_,.nil=>.nil
 | _,_,.cons n t h=>.cons ⟨t,rfl⟩ (zcc h)
def Only (H:Hp):Prop:=∀ b,H b=none ∨ ∃ o xs,H b=some (.frz o (.lst xs))
theorem zlv {P:Program} {w:World} {K:PySem.W.Frag} {mg mb:Str->Option Value} {CX:CXT} {k:Nat} {fa a:Addr} {fd:FuncData} {x:Str} {sp:Sp} {s₁ : Shared} {vs:List Value} {ns:List Int}
  (KX:K.In s₁.heap) (hns:s₁.heap.Ns mainGlobals mg) (hb:s₁.heap.Ns builtinsNs mb) (hbb:∀ x:Str,x ≠ "__name__" -> mb x=bootBuiltins x) (hlim:s₁.heap.NoLimit) (hg:s₁.gens = #[])
  (ha:s₁.heap.get? a=some { cls:=.type "list", data:=.seq vs.toArray }) (hi:IntsAre vs ns) (hl:ns.length<=sizeLine) (hr:Room k callerA)
  (F:∀ base:Heap,K.In base->base.Ns mainGlobals mg->FnOk P w K mg base CX k fa fd [x] sp) (hbind:∀ (s:Shared) (u:Value),BindsTo s fd ⟨[u],[]⟩ [(x,u)])
  (hsp:∀ H:Hp,Only H->SqL K H a (ns.map V.int)->sp [.ref a] H (fun v _=>v=.bl true) fun _ _ _=>False)
  (hCX:∀ H e s',CX [] H s₁ (fun _ _ _=>False) e s'->False) :
  codeAny (model P w) callerA (.call (.ref fa) ⟨[.ref a],[]⟩) (fun r s'=>r=.ok (.ret (.bool true))/\OldK s₁.heap s'.heap/\s'.os=s₁.os/\AllBare s'.gens) s₁:=by
 have rv:=zcc hi
 have lenV:=hi.length
 have core:∀ H:Hp,Only H->SqL K H a (ns.map V.int)->HOk P w H s₁.heap->(∀ b,H b ≠ none->b=a)->(H a ≠ none->K.lookup a=none) ->
   codeAny (model P w) callerA (.call (.ref fa) ⟨[.ref a],[]⟩) (fun r s'=>r=.ok (.ret (.bool true))/\OldK s₁.heap s'.heap/\s'.os=s₁.os/\AllBare s'.gens) s₁:=by
  intro H hO hS hok hA hK
  have base_of:∀ {b:Addr} {o:Obj},s₁.heap.get? b=some o->H b=none->(hidT s₁.heap H).get? b=some o:=fun e n=>zlj e n
  have noA:∀ {b:Addr} {o:Obj} {es:Array DictEntry} {ep:Nat},s₁.heap.get? b=some o->o.data=.dict es ep->H b=none:=fun {b o es ep} e d=>by
   cases q:H b with
   | none=>rfl
   | some u =>
    have e':b=a:=hA b (by rw [q];simp)
    subst e'
    rw [ha] at e;cases e
    have d':Data.seq vs.toArray _=Data.dict es ep:=d
    cases d'
  have nsK:∀ {b:Addr} {m:Str->Option Value},s₁.heap.Ns b m->(hidT s₁.heap H).Ns b m:=fun {b m} ⟨o,es,ep,e,d,r⟩=>⟨o,es,ep,base_of e (noA e d),d,r⟩
  have hKb:K.In (hidT s₁.heap H):=fun b o e=>base_of (KX b o e) (by
   cases q:H b with
   | none=>rfl
   | some u =>
    have e':b=a:=hA b (by rw [q];simp)
    subst e'
    rw [hK (by rw [q];simp)] at e;cases e)
  have hM:Mod K mg (hidT s₁.heap H):=⟨hKb,nsK hns,⟨mb,nsK hb,hbb⟩,let ⟨mc,h1,h2⟩:=hlim;⟨mc,nsK h1,h2⟩⟩
  have e0:Env0 P w K mg (hidT s₁.heap H) callerA [] s₁ H:=⟨rfl,hM,fun b o e=>zmL e,Nat.le_of_eq (zjf _ _),trivial,fun b hb=>absurd (show b ∈ ([]:List Addr) from hb) (by simp),hok,.of_eq hg⟩
  refine codeAny_mono ((F _ hKb (nsK hns)).run callerA [] s₁ H ⟨[.ref a],[]⟩ [.ref a] [.ref a] _ _ hr e0 (hbind s₁ (.ref a)) (.cons rfl .nil) (hsp H hO hS)) fun r s' h=>?_
  cases r with
  | error e=>exact (hCX H e s' h).elim
  | ok fl =>
   cases fl with
   | next=>exact False.elim h
   | brk=>exact False.elim h
   | cont=>exact False.elim h
   | ret u =>
    obtain ⟨v,H',os,bare,un,hok',r',q⟩:=h
    have q':v=.bl true:=q
    subst q'
    obtain rfl:u=Value.bool true:=r'
    refine ⟨rfl,OldK.of_keep fun b o e=>?_,os,bare⟩
    cases q:H b with
    | none=>exact un.keep b o e q (by intro z;exact absurd (show b ∈ ([]:List Addr) from z) (by simp)) (by simp)
    | some u =>
     rcases hO b with z | ⟨ob,xs,z⟩
     ·rw [q] at z;cases z
     ·have z2:=un.frzs b ob _ z
      obtain ⟨e1,_⟩:=hok b _ z
      obtain ⟨e2,_⟩:=hok' b _ z2
      rw [e] at e1;cases e1
      exact e2
 cases hk:K.lookup a with
 | some o =>
  have e:=KX a o hk
  rw [ha] at e
  cases e
  refine core (fun _=>none) (fun _=>.inl rfl) (.inr ⟨_,vs.toArray,_,hk,rfl,rfl,rfl,by rw [List.size_toArray,lenV];exact hl,by simpa using rv⟩) (fun b u z=>by have z':(none:Option HO)=some u:=z;cases z') (fun b z=>absurd rfl z) fun z=>absurd rfl z
 | none =>
  refine core (fun b=>if b=a then some (.frz { cls:=.type "list", data:=.seq vs.toArray } (.lst (ns.map V.int))) else none) (fun b=>?_) (.inl (.inr ⟨{ cls:=.type "list", data:=.seq vs.toArray },if_pos rfl⟩)) (fun b u z=>?_) (fun b z=>?_) fun _=>hk
  ·by_cases hb:b=a
   ·exact .inr ⟨_,_,if_pos hb⟩
   ·exact .inl (if_neg hb)
  ·by_cases hb:b=a
   ·have z':=(if_pos hb).symm.trans z
    cases z'
    subst hb
    exact ⟨ha,by rw [List.length_map];exact hl,vs,_,rv,ha⟩
   ·have z':=(if_neg hb).symm.trans z
    cases z'
  ·by_cases hb:b=a
   ·exact hb
   ·exact absurd (if_neg hb) z
def zdX (s:Stmt):Arguments:=match s with
 | .FunctionDef _ a _ _ _ _ _ _ _ _=>a
 | _=>{ posonlyargs:=[],args:=[],vararg:=none,kwonlyargs:=[],kw_defaults:=[],kwarg:=none,defaults:=[] }
def zcW (s:Stmt):List Stmt:=match s with
 | .FunctionDef _ _ b _ _ _ _ _ _ _=>b
 | _=>[]
def zal (s:Stmt):Scope:=match s with
 | .FunctionDef _ _ _ _ _ _ sc _ _ _=>sc
 | _=>{ kind:=.function,names:=[],isGenerator:=false,isCoroutine:=false }
abbrev CX0:CXT:=fun _ _ _ _ _ _=>False
abbrev E0:XK:=fun _ _ _=>False
theorem zof {X:Cx}:zjq CX0 X E0:=fun _ _ _ _ _ _ _ h=>h.elim
structure Fun (K:PySem.W.Frag) (x qual:Str) (st:Stmt) (f:Addr) (fd:FuncData):Prop where
 ex:∃ (oc:Value) (od:Option Addr) (kV doc pm:Value) (an:Option Addr) (cdv ct:Value) (osl:Array (Option Value)),
  fd=PySem.W.fnOf x qual (zdX st) (zcW st) (zal st) .none kV doc pm an cdv ct/\K.lookup f=some ⟨oc,od,.func fd,osl⟩/\PySem.W.codeIn K cdv qual=true
 kp:PySem.W.keepIn K (.ref f)=true
section
variable {P:Program} {w:World} {K:PySem.W.Frag} {mg:Str->Option Value} {base:Heap}
theorem Fun.ok {x qual:Str} {st:Stmt} {f:Addr} {fd:FuncData} {N ps:List Str} {k:Nat} {sp:Sp} (F:Fun K x qual st f fd) (S:zey N ps (zal st)) (len:∀ vs H Q E,sp vs H Q E->vs.length=ps.length)
  (hbody:∀ (cdv:Value) (A:Around) (outer:List Env) (s:Shared) (H:Hp) (vs:List V) (Q:VK) (E:XK),Room k (A.deeper (envOfC qual (zal st) s.heap.objs.size f cdv))->sp vs H Q E ->
   ∃ t,PSs (cxOf CX0 P w K mg base N qual (zal st) f cdv A outer s H E).nox (zcW st) t/\t { nx:=fun _ H'=>Q .non H',rt:=Q } (zez N vs) H):FnOk P w K mg base CX0 (k+1) f fd ps sp:=by
 obtain ⟨oc,od,kV,doc,pm,an,cdv,ct,osl,rfl,lk,hcd⟩:=F.ex
 refine zpm lk hcd S len fun A outer s H vs Q E hr hsp=>?_
 obtain ⟨t,h,q⟩:=hbody cdv A outer s H vs Q E hr hsp
 exact ⟨t,h.nox,q⟩
theorem Fun.binds {x qual:Str} {st:Stmt} {f:Addr} {fd:FuncData} {ps:List Str} (F:Fun K x qual st f fd)
  (h:∀ (kV doc pm:Value) (an:Option Addr) (cdv ct:Value) (us:List Value),us.length=ps.length->bindArgs (PySem.W.fnOf x qual (zdX st) (zcW st) (zal st) .none kV doc pm an cdv ct) ⟨us,[]⟩=pure (ps.zip us)):zf9 K fd ps []:=by
 obtain ⟨oc,od,kV,doc,pm,an,cdv,ct,osl,rfl,lk,hcd⟩:=F.ex
 exact .all (h kV doc pm an cdv ct)
end
section
variable {X:Cx}
end
def Same (H H':Hp):Prop:=∀ b o,H b=some o->H' b=some o
theorem Same.refl (H:Hp):Same H H:=fun _ _ h=>h
theorem Same.trans {H H1 H2:Hp} (a:Same H H1) (b:Same H1 H2):Same H H2:=fun c o h=>b c o (a c o h)
theorem Same.free {H H':Hp} (e:Same H H') {l:Addr} (h:H' l=Option.none):H l=Option.none:=by
 cases q:H l with
 | none=>rfl
 | some o =>
  rw [e l o q] at h
  cases h
theorem Same.seq {K:PySem.W.Frag} {H H':Hp} {a:Addr} {xs:List V} (e:Same H H') (h:SqL K H a xs):SqL K H' a xs:=by
 rcases h with (h | ⟨o,h⟩) | h
 ·exact .inl (.inl (e _ _ h))
 ·exact .inl (.inr ⟨o,e _ _ h⟩)
 ·exact .inr h
section
variable {X:Cx} {pins:List (Addr × Obj)} {σ : St} {H:Hp} {s:Shared} {h':Heap}
theorem Inv.turnedNew {t':Nat} {fp:List Addr} {p:Addr} {o:HO} (I:Inv X pins σ H s) (hf:∀ b ∈ fp,FpOk X pins H b)
  (k:∀ b o,b ∉ fp->s.heap.get? b=some o->h'.get? b=some o) (hp:s.heap.objs.size<=p) (new:zcw X.prog X.w (upd H p o) h' p o) :
  Inv X pins σ (upd H p o) { s with heap:=h',toks:=t' }:=by
 have hn:H p=none:=I.hok.fresh hp
 have trk:∀ b u,H b=some u->b ∉ fp:=fun b u e z=>by rw [(hf b z).1] at e;cases e
 refine I.step (g':=s.gens) (d':=s.drawn) (ch:=fp) (fun b hb=>?_) (fun b o _ _ hc e _=>k b o hc e) (fun b o _ _ hc e _=>⟨o.slots,k b o hc e⟩)
  (fun b o _ e n=>by rw [zaR (Nat.ne_of_lt (Nat.lt_of_lt_of_le (Heap.lt_size e) hp))];exact n) (fun b o hc e=>⟨o,k b o hc e⟩)
  (fun b xs e=>by rw [zaR (za5 e hn)];exact e) (fun b ob u e=>by rw [zaR (za5 e hn)];exact e) (fun b ps e=>⟨#[],by rw [zaR (za5 e hn),e];simp⟩)
  (fun m hm=>?_) (fun b u e=>?_) I.bare
 ·obtain ⟨_,f1,_,f3,f4,f5⟩:=hf b hb
  exact ⟨f3,f1,f4,f5⟩
 ·obtain ⟨ob,es,ep,ho,r⟩:=hm
  exact ⟨ob,es,ep,k _ ob (fun z=>(hf _ z).2.1 rfl) ho,r⟩
 ·by_cases hb:b=p
  ·subst hb;rw [zaL] at e;cases e;exact new
  ·rw [zaR hb] at e
   refine (I.hok b u e).stay (fun c v hc q=>k c v ?_ q) (fun c q=>by rw [zaR (za5 q hn)];exact q) fun c xs q=>by rw [zaR (za5 q hn)];exact q
   rcases hc with z | z
   ·rw [z];exact trk b u e
   ·exact trk c _ z
theorem Inv.turnedL {t':Nat} {fp:List Addr} (I:Inv X pins σ H s) (hf:∀ b ∈ fp,FpOk X pins H b)
  (k:∀ b o,b ∉ fp->s.heap.get? b=some o->h'.get? b=some o):Inv X pins σ H { s with heap:=h',toks:=t' }:=by
 have trk:∀ b u,H b=some u->b ∉ fp:=fun b u e z=>by rw [(hf b z).1] at e;cases e
 refine I.step (g':=s.gens) (d':=s.drawn) (ch:=fp) (fun b hb=>?_) (fun b o _ _ hc e _=>k b o hc e) (fun b o _ _ hc e _=>⟨o.slots,k b o hc e⟩)
  (fun _ _ _ _ n=>n) (fun b o hc e=>⟨o,k b o hc e⟩) (fun _ _ e=>e) (fun _ _ _ e=>e) (fun b ps e=>⟨#[],by rw [e];simp⟩) (fun m hm=>?_) (fun b u e=>?_) I.bare
 ·obtain ⟨_,f1,_,f3,f4,f5⟩:=hf b hb
  exact ⟨f3,f1,f4,f5⟩
 ·obtain ⟨ob,es,ep,ho,r⟩:=hm
  exact ⟨ob,es,ep,k _ ob (fun z=>(hf _ z).2.1 rfl) ho,r⟩
 ·refine (I.hok b u e).stay (fun c v hc q=>k c v ?_ q) (fun c q=>q) fun c xs q=>q
  rcases hc with z | z
  ·rw [z];exact trk b u e
  ·exact trk c _ z
end
def Ite (K:PySem.W.Frag) (a:Addr):It :=
 ⟨fun i H=>∃ xs x,SqL K H a xs/\xs[i]?=some x,
  fun i H v H'=>∃ p x,H p=none/\v=.ref p/\(∀ xs,SqL K H a xs->xs[i]?=some x)/\H'=upd H p (.tup [.int i,x]),
  fun i H=>∃ xs,SqL K H a xs/\xs.length<=i⟩
theorem zjv {P:Program} {w:World} {K:PySem.W.Frag} {elts:List Expr} {x1} {tp:Pos} (a e it:Addr) (hne:e ≠ it) :
  Turn P w K (.Tuple elts x1 tp) (Ite K a) [e,it] e (fun i h=>(∃ old,IsEnum h e it i old)/\h.IsListIter it a i) where
 mem:=by simp
 obj:=fun i h st b hb=>by
  obtain ⟨⟨old,he⟩,o,ho,c,d⟩:=st
  have hb':b=e ∨ b=it:=by simpa using hb
  rcases hb' with rfl | rfl
  ·exact ⟨_,he,fun v z=>by
    have z':Data.fields _=Data.cell v:=z
    cases z'⟩
  ·exact ⟨o,ho,fun v z=>by rw [d] at z;cases z⟩
 keep:=fun i h h' st k=>by
  obtain ⟨⟨old,he⟩,hi⟩:=st
  exact ⟨⟨old,k e (by simp) _ he⟩,hi.at fun o q=>k it (by simp) o q⟩
 item:=by
  intro X hP hw hK hc i pins s σ H E I hf st hg
  subst hP hw hK
  obtain ⟨⟨old,he⟩,hi⟩:=st
  obtain ⟨xs,x,hq,hx⟩:=hg
  obtain ⟨its,rv,p,hz⟩:=I.list hq
  obtain ⟨u,hu,ru⟩:=rv.get hx
  refine wpAny_pyNext_enum_item he hi p.isList (x:=u) (by simpa using hu) hne fun h1 out hi1 ht hsz kk=>?_
  refine ⟨_,rfl,wpAny_letOwnedTupleGo_enum out fun h2 he2 hs2=>?_⟩
  have hel:e < s.heap.objs.size:=Heap.lt_size he
  have hs2':Heap.SameBut e h1 h2:=hs2
  have ht2:h2.get? s.heap.objs.size=some { cls:=.type "tuple", data:=.seq #[.int i s.toks,u] }:=(hs2'.2 _ (Nat.ne_of_gt hel)).trans ht
  have kk2:∀ b o,b ∉ [e,it]->s.heap.get? b=some o->h2.get? b=some o:=fun b o hb q=>by
   have hbe:b ≠ e:=fun z=>hb (by simp [z])
   have hbi:b ≠ it:=fun z=>hb (by simp [z])
   exact (hs2'.2 b hbe).trans (kk b o hbe hbi q)
  have hn:H s.heap.objs.size=none:=I.hok.fresh (Nat.le_refl _)
  have I2:Inv X pins σ (upd H s.heap.objs.size (.tup [.int i,x])) { s with heap:=h2,toks:=s.toks+1 } :=
   I.turnedNew (fp:=[e,it]) hf kk2 (Nat.le_refl _) ⟨by show 2<=sizeLine;decide,[.int i s.toks,u],.cons ⟨_,rfl⟩ (.cons ru .nil),⟨_,ht2,rfl,_,rfl⟩⟩
  refine ⟨.ref s.heap.objs.size,_,I2,rfl,⟨_,x,hn,rfl,fun ys hy=>by rw [I.list_inj hy hq];exact hx,rfl⟩,⟨⟨u,?_⟩,?_⟩,fun b hb=>?_⟩
  ·have:=he2
   simpa using this
  ·have hi2:h2.IsListIter it a (i+1):=hi1.at fun o q=>(hs2'.2 it (Ne.symm hne)).trans q
   exact hi2
  ·have fr:=(hf b hb)
   have hlt:b < s.heap.objs.size:=by
    have hb':b=e ∨ b=it:=by simpa using hb
    rcases hb' with rfl | rfl
    ·exact hel
    ·obtain ⟨o,ho,_⟩:=hi;exact Heap.lt_size ho
   rw [zaR (Nat.ne_of_lt hlt)]
   exact fr.1
 done:=by
  intro X hP hw hK hc i pins s σ H E I hf st hg
  subst hP hw hK
  obtain ⟨⟨old,he⟩,hi⟩:=st
  obtain ⟨xs,hq,hx⟩:=hg
  obtain ⟨its,rv,p,hz⟩:=I.list hq
  have hl:=rv.length
  exact wpAny_pyNext_enum_end (I.ok.hd hc) he hi p.isList (by simp;omega) fun h' eb=>⟨rfl,I.turnedL (t':=s.toks) hf fun b o hb q=>eb b o (fun z=>hb (by simp [z])) q⟩
 self:=fun _ _ _ _ _ st h=>by
  obtain ⟨⟨old,he⟩,_⟩:=st
  exact wpAny_pyIter_enum he h
section
variable {X:Cx}
def zpo (K:PySem.W.Frag) (ta:TA):TI:=fun σ H R=>ta σ H fun vs H1=>∃ a xs,vs=[.ref a]/\SqL K H1 a xs/\R (Ite K a) H1
theorem zm3 {a:Expr} {ta:TA} {p pos:Pos} {elts:List Expr} {x1} {tp:Pos} (hg:Gl X "enumerate") (hm:X.mg "enumerate" = none) (ha:PA X [a] ta)
  (hs:starEach [a] X.env=[(false,eval a X.env)]:=by rfl):PI X (.Tuple elts x1 tp) (.Call (.Name "enumerate" p) [a] [] pos) (zpo X.K ta):=by
 intro pins s σ H R I h
 refine Call_ (zec I hg hm boot_enumerate (PyProof.Rows.callWith_type1 (thn (ha pos pins s σ H _ I h) fun us s1 ⟨vs,H1,I1,r1,q1⟩=>?_) hs rfl))
 obtain ⟨l,xs,e,hq,q⟩:=q1
 subst e
 cases r1 with
 | cons r rr =>
  cases rr
  cases (show _=Value.ref l from r)
  obtain ⟨its,rv,pl,hz⟩:=I1.list hq
  refine call_enumerate_list pl.isList fun h' he hi hsz kk=>?_
  have I2:Inv X pins σ H1 { s1 with heap:=h' }:=I1.kept (t':=s1.toks) kk
  refine wpAny_pyIter_enum he ?_
  refine ⟨s1.heap.objs.size+1,[s1.heap.objs.size+1,s1.heap.objs.size],_,_,H1,rfl,I2,zjv l _ _ (Nat.succ_ne_self _),⟨⟨_,he⟩,hi⟩,fun b hb=>?_,q⟩
  have hb':b=s1.heap.objs.size+1 ∨ b=s1.heap.objs.size:=by simpa using hb
  rcases hb' with rfl | rfl
  ·exact I1.fpOk (Nat.le_succ _) (I1.hok.fresh (Nat.le_succ _))
  ·exact I1.fpOk (Nat.le_refl _) (I1.hok.fresh (Nat.le_refl _))
end
section
variable {κ : Type} [DecidableEq κ]
end
section
variable {P:Program} {w:World} {H:Hp} {h:Heap} {a:Addr}
end
section
variable {X:Cx} {pins:List (Addr × Obj)} {σ : St} {H:Hp} {s:Shared} {a:Addr} {y v:V} {u r:Value} {o:Option V} {A:Around} {E:Value->Shared->Prop}
end
section
variable {X:Cx} {pins:List (Addr × Obj)} {σ : St} {H:Hp} {s:Shared} {a:Addr} {kvs:List (Key × V)} {k:Key} {u:Value} {A:Around} {E:Value->Shared->Prop}
end
section
variable {X:Cx} {o i e value:Expr} {pos pos' tpos:Pos} {td ty tv:TE}
end
section
variable {X:Cx} {pos:Pos}
end
end L2
namespace L2
open PySem PySem.Spec
def Tail (bmB bm:List Value):Prop:=∀ (X:String) (b:Bool),bmB.contains (.type X)=b->bm.contains (.type X)=b
section
variable {prog:Program} {w:World} {A:Around} {E:Value->Shared->Prop} {h:Heap} {g:Array GenState} {d:Drawn} {t:Nat} {os:OsState} {R:Result->Shared->Prop}
variable {nm q:Str} {C N:Addr} {bs bm bmB:List Value} {hdct:Bool} {sn:List Str} {sub:List Value} {ab:Bool} {col:Option Bool} {dd:Option Addr} {k0 k1 k2 k3 k5:Option Value} {B newId initId:String}
end
def zcx (M:Model) (C:Addr) (name:Str) (r:Option Value) (h:Heap):Prop:=∀ (A:Around) (E:Value->Shared->Prop) (Q:Option Value->Shared->Prop) (h':Heap) (g:Array GenState) (d:Drawn) (t:Nat) (os:OsState),
 (∀ b o,h.get? b=some o->h'.get? b=some o)->Q r ⟨h',g,d,t,os⟩->wpAny M A (typeLookup (.ref C) name) Q E ⟨h',g,d,t,os⟩
theorem zcx.keeps {M:Model} {C:Addr} {name:Str} {r:Option Value} {h h':Heap} (x:zcx M C name r h) (k:∀ b o,h.get? b=some o->h'.get? b=some o):zcx M C name r h' :=
 fun A E Q h2 g d t os k2 q=>x A E Q h2 g d t os (fun b o e=>k2 b o (k b o e)) q
theorem zcx.at {M:Model} {A:Around} {E:Value->Shared->Prop} {Q:Option Value->Shared->Prop} {C:Addr} {name:Str} {r:Option Value} {h:Heap} {g:Array GenState} {d:Drawn} {t:Nat} {os:OsState} (x:zcx M C name r h) (q:Q r ⟨h,g,d,t,os⟩):wpAny M A (typeLookup (.ref C) name) Q E ⟨h,g,d,t,os⟩ :=
 x A E Q h g d t os (fun _ _ e=>e) q
section
variable {prog:Program} {w:World} {A:Around} {E:Value->Shared->Prop} {h:Heap} {g:Array GenState} {d:Drawn} {t:Nat} {os:OsState} {R:Result->Shared->Prop}
variable {nm q:Str} {C N x:Addr} {bs bm bmB:List Value} {hdct:Bool} {sn:List Str} {sub:List Value} {ab:Bool} {col:Option Bool} {dd:Option Addr} {k0 k1 k2 k3 k5:Option Value} {B newId sa owner:String} {mN mA:Str->Option Value} {name:Str} {v:Value}
theorem zjw {M:Model} {o:Obj} {nameV:Value} {Q:Unit->Shared->Prop} (T:Tail bmB bm) (hb:bmB.contains (.type "BaseException")=true) (hC:h.get? C=some (excClassObj nm q C N bs bm hdct sn sub ab col dd k0 k1 k2 k3 k5 newId))
  (hx:h.get? x=some o) (hc:o.cls=.ref C) (hq:Q () ⟨h,g,d,t,os⟩):wpAny M A (checkBuiltinCall "BaseException.__getattribute__" ⟨[.ref x,nameV],[]⟩) Q E ⟨h,g,d,t,os⟩:=by
 have hk:builtinKind "BaseException.__getattribute__" = some .slot:=by decide +kernel
 have hsplit:splitId "BaseException.__getattribute__" = some ("BaseException", "__getattribute__"):=by decide +kernel
 have hcB:(Value.ref C :: bm).contains (.type "BaseException")=true:=by rw [List.contains_cons,T _ _ hb];rfl
 have ha:=PySem.F.args_bexc_ga (.ref x) nameV
 simp only [checkBuiltinCall,hk,hsplit]
 refine wpAny_bind ?_
 ·unfold isInstance
  repeat (first | (with_reducible refine wpAny_loadPart_at hx ?_;rw [hc]) | (with_reducible refine wpAny_isSubtype_exc hC ?_;rw [hcB]) | wp_step)
  exact hq
end
section
variable {M:Model} {A:Around} {E:Value->Shared->Prop} {s:Shared} {base:Heap} {env:Env} {outer:List Env} {L e:Addr}
end
end L2
namespace L2
open PySem PySem.Spec PyProof.Rows PySem.Calls PyProof.V
def XO (fr:Bool) (e C:Addr) (dd:Option Addr):Heap->Prop:=fun h=>∃ vs sl,h.get? e=some { cls:=.ref C,dict:=dd,data:=.fields vs,slots:=sl }/\(fr=true->vs[1]?=some .none/\∃ t0,vs[0]?=some (.ref t0))
section
variable {X:Cx} {pins:List (Addr × Obj)} {σ : St} {H:Hp} {s:Shared} {e C:Addr} {dd:Option Addr} {h':Heap}
end
abbrev VB:List Value:=[.type "ValueError", .type "Exception", .type "BaseException", .type "object"]
structure XCls (M:Model) (base:Heap) (C:Addr) (bm:List Value) (fI:Addr):Prop where
 obj:∃ nm q N bs sn sub ab col dd k0 k1 k2 k3 k5,base.get? C=some (excClassObj nm q C N bs bm true sn sub ab col dd k0 k1 k2 k3 k5 "ValueError.__new__")
 tail:Tail VB bm
 init:zcx M C "__init__" (some (.ref fI)) base
 fn:∃ o,base.get? fI=some o/\o.cls=.type "function"
 sa:zcx M C "__setattr__" (some (.builtin "object.__setattr__")) base
 ga:zcx M C "__getattribute__" (some (.builtin "BaseException.__getattribute__")) base
 gh:zcx M C "__getattr__" none base
 cl:zcx M C "__class__" (some (.builtin "object.__class__")) base
 pass:∀ v,refuseLoop v "__setattr__" bm=pure ()
section
variable {X:Cx} {k:Nat} {f C:Addr} {fd:FuncData} {ps:List Str} {sp:Sp} {x:Str} {p pos cpos:Pos} {e:Expr} {es:List Expr} {t:TA} {bm:List Value}
end
section
variable {M:Model} {A:Around} {E:Value->Shared->Prop} {h:Heap} {g:Array GenState} {d:Drawn} {t:Nat} {os:OsState}
variable {nm q nm' q':Str} {C N D N' a:Addr} {bs bm bs' bm':List Value} {hdct hdct':Bool} {sn sn':List Str} {sub sub':List Value} {ab ab':Bool} {col col':Option Bool} {dd dd':Option Addr} {k0 k1 k2 k3 k5 j0 j1 j2 j3 j5:Option Value} {newId newId':String}
end
section
variable {X:Cx} {k:Nat} {f:Addr} {fd:FuncData} {ps:List Str} {sp:Sp} {x n:Str} {p pos np hpos:Pos} {e:Expr} {es:List Expr} {t:TA} {KX:V->St->Hp->Prop}
end
section
variable {prog:Program} {w:World} {A:Around} {E:Value->Shared->Prop} {h:Heap} {g:Array GenState} {d:Drawn} {t:Nat} {os:OsState}
variable {nm q:Str} {C N a:Addr} {bs bm bmB:List Value} {hdct:Bool} {sn:List Str} {sub:List Value} {ab:Bool} {col:Option Bool} {dd:Option Addr} {k0 k1 k2 k3 k5:Option Value} {B newId initId nid:String}
end
section
variable {X:Cx} {k:Nat} {f D:Addr} {fd:FuncData} {ps:List Str} {sp:Sp} {x:Str} {p pos apos:Pos} {e:Expr} {es:List Expr} {t:TA}
end
section
variable {X:Cx} {k:Nat} {f D:Addr} {fd:FuncData} {ps:List Str} {sp:Sp} {x m:Str} {p pos apos:Pos} {e:Expr} {es:List Expr} {t:TA}
end
def XD (dx:Addr) (fs:List (Str × V)):Heap->Prop:=fun h=>∃ mA,h.Ns1 dx mA/\h.ExactDictFk dx/\(∀ f,RelO (fs.lookup f) (mA f))/\PySem.Within mA (fs.map (·.1))
section
variable {X:Cx} {pins:List (Addr × Obj)} {σ : St} {H:Hp} {s:Shared} {a C dx:Addr} {h':Heap} {t':Nat}
end
section
variable {X:Cx} {o value:Expr} {f:Str} {pos pos':Pos} {ta tv:TE} {KC:Addr->List Value->Prop}
end
section
variable {X:Cx} {value:Expr} {te:TE} {pos:Pos}
end
section
variable {X:Cx} {e:Expr} {f:Str} {pos:Pos} {ta:TE} {KC:Addr->List Value->Prop}
end
end L2
namespace L2
open PySem PySem.Spec
section
variable {prog:Program} {w:World} {A:Around} {E:Value->Shared->Prop} {h:Heap} {g:Array GenState} {d:Drawn} {t:Nat} {os:OsState} {R:Result->Shared->Prop}
variable {nm q:Str} {C N a:Addr} {bs bm bmB:List Value} {hdct:Bool} {sn:List Str} {sub:List Value} {ab:Bool} {col:Option Bool} {dd:Option Addr} {k0 k1 k2 k3 k5:Option Value} {newId:String} {o:Obj}
theorem ziv (T:Tail bmB bm) (ho:bmB.contains (.type "object")=true) (hC:h.get? C=some (excClassObj nm q C N bs bm hdct sn sub ab col dd k0 k1 k2 k3 k5 newId)) (hx:h.get? a=some o) (hc:o.cls=.ref C) (hq:R (.ok (.ret (.ref C))) ⟨h,g,d,t,os⟩) :
  codeAny (model prog w) A (.call (.builtin "getset_descriptor.__get__") ⟨[.builtin "object.__class__", .ref a,.ref C],[]⟩) R ⟨h,g,d,t,os⟩:=by
 have hT5:(⟨h,g,d,t,os⟩:Shared).TypeIs (.builtin "object.__class__") "getset_descriptor" := PySem.F.typeOf_object_class
 have hcB:(Value.ref C :: bm).contains (.type (".".intercalate ("object.__class__".cutAt '.').dropLast))=true:=by
  rw [PySem.F.owner_object_class,List.contains_cons,T _ _ ho];rfl
 refine codeAny_call_builtin PySem.F.slot_gs_get.plain PySem.F.entry_gs_get (PySem.F.slot_gs_get.check _ _ _ _ _ _ _ _ hT5 (PySem.F.args_gs_get _ _ _) ?_)
 repeat (any_goals (first | assumption | (with_reducible refine wpAny_loadPart_at hx ?_;rw [hc]) | (with_reducible refine wpAny_isSubtype_exc hC ?_;rw [hcB]) | wp_step))
 refine ⟨Code.quiet_builtin _ (by decide +kernel),codeAny_builtin PySem.F.entry_object_class ?_⟩
 unfold Builtin.«object.__class__»
 repeat (any_goals (first | assumption | (with_reducible refine wpAny_loadPart_at hx ?_;rw [hc]) | wp_step))
theorem zgh {tk:Tok} {Q:PySem.Fin->Shared->Prop} (T:Tail bmB bm) (ho:bmB.contains (.type "object")=true) (hC:h.get? C=some (excClassObj nm q C N bs bm hdct sn sub ab col dd k0 k1 k2 k3 k5 newId)) (fc:zcx (model prog w) C "__class__" (some (.builtin "object.__class__")) h) (hx:h.get? a=some o) (hc:o.cls=.ref C) (hq:Q (.done (.ret (.ref C))) ⟨h,g,d,t,os⟩) :
  wpAny (model prog w) A (Builtin.«object.__getattribute__» ⟨[.ref a,.str "__class__" tk],[]⟩) Q E ⟨h,g,d,t,os⟩:=by
 have hT5:(⟨h,g,d,t,os⟩:Shared).TypeIs (.builtin "object.__class__") "getset_descriptor" := PySem.F.typeOf_object_class
 have f5:=PySem.F.typeOf_object_class
 have f6:=PySem.F.slot_gs_get.lookup
 have f7:=PySem.F.slot_gs_set.lookup
 repeat (any_goals (first | assumption | (with_reducible refine wpAny_loadPart_at hx ?_;rw [hc]) | with_reducible refine fc.at ?_ | wp_step))
 refine ziv T ho hC hx hc ?_
 repeat (any_goals (first | assumption | wp_step))
theorem zeC {Q:Option Value->Shared->Prop} (FB:ExcAttrFacts "ValueError") (T:Tail VB bm) (hC:h.get? C=some (excClassObj nm q C N bs bm hdct sn sub ab col dd k0 k1 k2 k3 k5 newId)) (fc:zcx (model prog w) C "__class__" (some (.builtin "object.__class__")) h)
  (fg:zcx (model prog w) C "__getattribute__" (some (.builtin "BaseException.__getattribute__")) h) (fa:zcx (model prog w) C "__getattr__" none h) (hx:h.get? a=some o) (hc:o.cls=.ref C) (hq:Q (some (.ref C)) ⟨h,g,d,t+1,os⟩) :
  wpAny (model prog w) A (getAttr? (.ref a) "__class__") Q E ⟨h,g,d,t,os⟩:=by
 have f3:=FB.ga.bind (.ref a)
 have hx0:(false && onTheHeap (Value.builtin "BaseException.__getattribute__"))=false:=rfl
 have hx2:(Value.builtin "BaseException.__getattribute__" == Value.builtin "object.__getattribute__")=false:=by decide +kernel
 have hx1:(onTheHeap (Value.ref C) && Value.builtin "BaseException.__getattribute__" == Value.builtin "object.__getattribute__")=false:=by rw [hx2];rfl
 unfold getAttr? getAttrBy?
 refine wpAny_bind (wpAny_mkText (wpAny_bind (wpAny_attempt ?_)))
 repeat (any_goals (first | assumption | (with_reducible refine wpAny_loadPart_at hx ?_;rw [hc]) | with_reducible refine fg.at ?_ | with_reducible refine fa.at ?_ | wp_step))
 refine codeAny_call_builtin FB.ga.plain PySem.F.entry_bexc_ga (zjw T rfl hC hx hc (zgh T rfl hC fc hx hc ?_))
 repeat (any_goals (first | assumption | wp_step))
end
end L2
namespace L2
open PySem PySem.Spec PyProof.Rows
section
variable {prog:Program} {w:World} {A:Around} {E:Value->Shared->Prop} {h:Heap} {g:Array GenState} {d:Drawn} {t:Nat} {os:OsState}
variable {nm q nm' q':Str} {C N D N' a:Addr} {bs bm bs' bm':List Value} {hdct hdct':Bool} {sn sn':List Str} {sub sub':List Value} {ab ab':Bool} {col col':Option Bool} {dd dd':Option Addr} {k0 k1 k2 k3 k5 j0 j1 j2 j3 j5:Option Value} {newId newId':String} {o:Obj} {b:Bool}
theorem zm4 {Q:Value->Shared->Prop} (T:Tail VB bm) (hC:h.get? C=some (excClassObj nm q C N bs bm hdct sn sub ab col dd k0 k1 k2 k3 k5 newId)) (hD:h.get? D=some (excClassObj nm' q' D N' bs' bm' hdct' sn' sub' ab' col' dd' j0 j1 j2 j3 j5 newId'))
  (fc:zcx (model prog w) C "__class__" (some (.builtin "object.__class__")) h) (fg:zcx (model prog w) C "__getattribute__" (some (.builtin "BaseException.__getattribute__")) h) (fa:zcx (model prog w) C "__getattr__" none h)
  (hx:h.get? a=some o) (hc:o.cls=.ref C) (hb:(Value.ref C :: bm).contains (.ref D)=b) (hq:∀ tk,Q (.bool b) ⟨h,g,d,tk,os⟩):wpAny (model prog w) A (call (.builtin "isinstance") [.ref a,.ref D]) Q E ⟨h,g,d,t,os⟩:=by
 have hT:(⟨h,g,d,t,os⟩:Shared).TypeIs (.ref D) "type" := ⟨_,hD,rfl⟩
 have f2:=tc_sub
 refine call_isinstance_of ?_ (fun z=>nomatch z)
 unfold Builtin.«isinstance.nested»
 refine wpAny_bind ?_
 unfold typeOf
 refine wpAny_bind (wpAny_loadPart_at hx (wpAny_pure ?_))
 rw [hc]
 by_cases e:C=D
 ·subst e
  have hb1:b=true:=by rw [← hb];simp
  subst hb1
  rw [if_pos (by simp)]
  exact wpAny_bind (wpAny_rule (wpAny_pure (hq t)))
 ·rw [if_neg (by simp [e])]
  refine wpAny_bind (wpAny_bind (wpAny_loadPart_at hD (wpAny_pure ?_)))
  rw [if_pos (show (Value.type "type" == Value.type "type")=true by decide)]
  k_delta "plainIsInstance"
  unfold isType isInstance
  repeat (first | (with_reducible refine wpAny_loadPart_at hx ?_;rw [hc]) | with_reducible refine wpAny_loadPart_at hD ?_ | with_reducible refine wpAny_loadPart_at hC ?_ | (with_reducible refine wpAny_isSubtype_exc hC ?_;rw [hb]) | wp_step)
  cases b with
  | true=>wp_walk;exact hq t
  | false =>
   rw [if_neg (by decide)]
   refine wpAny_bind (zeC PySem.F.excAttr_ValueError T hC fc fg fa hx hc ?_)
   repeat (first | with_reducible refine wpAny_loadPart_at hC ?_ | (with_reducible refine wpAny_isSubtype_exc hC ?_;rw [hb]) | wp_step)
   exact hq _
theorem zog {Q:Value->Shared->Prop} {X:String} (T:Tail VB bm) (hC:h.get? C=some (excClassObj nm q C N bs bm hdct sn sub ab col dd k0 k1 k2 k3 k5 newId)) (hX:typeOf (.type X)=pure (.type "type"))
  (fc:zcx (model prog w) C "__class__" (some (.builtin "object.__class__")) h) (fg:zcx (model prog w) C "__getattribute__" (some (.builtin "BaseException.__getattribute__")) h) (fa:zcx (model prog w) C "__getattr__" none h)
  (hx:h.get? a=some o) (hc:o.cls=.ref C) (hb:(Value.ref C :: bm).contains (.type X)=b) (hq:∀ tk,Q (.bool b) ⟨h,g,d,tk,os⟩):wpAny (model prog w) A (call (.builtin "isinstance") [.ref a,.type X]) Q E ⟨h,g,d,t,os⟩:=by
 refine call_isinstance_of ?_ (fun z=>nomatch z)
 unfold Builtin.«isinstance.nested»
 refine wpAny_bind ?_
 have ty:∀ {M:Model} {A:Around} {Q:Value->Shared->Prop} {E:Value->Shared->Prop},Q (.ref C) ⟨h,g,d,t,os⟩->wpAny M A (typeOf (.ref a)) Q E ⟨h,g,d,t,os⟩:=fun q=>by
  unfold typeOf
  refine wpAny_bind (wpAny_loadPart_at hx (wpAny_pure ?_))
  rw [hc];exact q
 refine ty ?_
 rw [if_neg (by simp)]
 refine wpAny_bind (wpAny_of_eq hX ?_)
 rw [if_pos (show (Value.type "type" == Value.type "type")=true by decide)]
 k_delta "plainIsInstance"
 unfold isType isInstance
 repeat (first | (with_reducible refine wpAny_loadPart_at hx ?_;rw [hc]) | with_reducible refine wpAny_loadPart_at hC ?_ | (with_reducible refine wpAny_isSubtype_exc hC ?_;rw [hb]) | wp_step)
 cases b with
 | true=>wp_walk;exact hq t
 | false =>
  rw [if_neg (by decide)]
  refine wpAny_bind (zeC PySem.F.excAttr_ValueError T hC fc fg fa hx hc ?_)
  repeat (first | with_reducible refine wpAny_loadPart_at hC ?_ | (with_reducible refine wpAny_isSubtype_exc hC ?_;rw [hb]) | wp_step)
  exact hq _
end
def rIsX (KC:Addr->List Value->Prop):List V->Hp->VK->Prop:=fun xs H Q=>∃ a C dd bm fr c b,xs=[.ref a,c]/\KC C bm/\H a=some (.ext (XO fr a C dd)) /\
 ((∃ D bm',c=.ref D/\KC D bm'/\(Value.ref C :: bm).contains (.ref D)=b) ∨ ∃ T,c=.ty T/\typeOf (.type T)=pure (.type "type")/\(Value.ref C :: bm).contains (.type T)=b)/\Q (.bl b) H
theorem zlw {X:Cx} {KC:Addr->List Value->Prop} (hcls:∀ C bm,KC C bm->∃ fI,XCls (model X.prog X.w) X.base C bm fI):zdj X (.builtin "isinstance") (rIsX KC):=by
 rintro pins s σ H xs us Q I r ⟨a,C,dd,bm,fr,c,b,rfl,kc,hx,hD,q⟩
 cases r with
 | cons ra r =>
 cases r with
 | cons rc r =>
 cases r
 have ra':_=Value.ref a:=ra
 subst ra'
 obtain ⟨fI,XC⟩:=hcls C bm kc
 obtain ⟨nm,qn,N,bs,sn,sub,ab,col,dd1,k0,k1,k2,k3,k5,hC⟩:=XC.obj
 obtain ⟨⟨vs,sl,ga,_⟩,_,_⟩:=I.hok a _ hx
 obtain ⟨hp,g,d,tk,os⟩:=s
 rcases hD with ⟨D,bm',rfl,kd,hb⟩ | ⟨T,rfl,hT,hb⟩
 ·have rc':_=Value.ref D:=rc
  subst rc'
  obtain ⟨fI',XD'⟩:=hcls D bm' kd
  obtain ⟨nm',qn',N',bs',sn',sub',ab',col',dd2,j0,j1,j2,j3,j5,hD'⟩:=XD'.obj
  exact zm4 XC.tail (I.bk _ _ hC) (I.bk _ _ hD') (XC.cl.keeps I.bk) (XC.ga.keeps I.bk) (XC.gh.keeps I.bk) ga rfl hb fun tk'=>⟨.bl b,H,I.tok tk',rfl,q⟩
 ·have rc':_=Value.type T:=rc
  subst rc'
  exact zog XC.tail (I.bk _ _ hC) hT (XC.cl.keeps I.bk) (XC.ga.keeps I.bk) (XC.gh.keeps I.bk) ga rfl hb fun tk'=>⟨.bl b,H,I.tok tk',rfl,q⟩
def zpp (nm:Str):List Str:=if nm = "NoWishes" then ["part", "number"] else if nm = "NoAim" then ["part"] else if nm = "NoText" then ["row"] else []
def zoh (K:PySem.W.Frag) (nm:Str):Option Addr:=match PySem.W.nsIn K mainGlobals nm with | some (some (.ref C))=>some C | _=>none
def NmAt (K:PySem.W.Frag) (nm:Str) (C:Addr):Prop:=∃ o cd,K.lookup C=some o/\o.data=.cls cd/\cd.name=nm
structure ClsK (K:PySem.W.Frag) (nm:Str) (C:Addr) (bm:List Value):Prop where
 ad:zoh K nm=some C
 nmd:NmAt K nm C
 up:nm = "DealError" /\ bm=VB ∨ nm ≠ "DealError" /\ ∃ D,zoh K "DealError" = some D/\bm=.ref D :: VB/\NmAt K "DealError" D
 cls:∀ (M:Model) (h:Heap),K.In h->∃ fI,XCls M h C bm fI
 fld:∀ (M:Model) (h:Heap),K.In h->∀ f ∈ (["part", "number", "row"]:List Str),zcx M C f none h
def KC (K:PySem.W.Frag):Addr->List Value->Prop:=fun C bm=>∃ nm,ClsK K nm C bm
section
variable {K:PySem.W.Frag} {nm x:Str} {C D:Addr} {bm bm':List Value}
theorem ClsK.ty (c:ClsK K nm C bm) (T:String):(Value.ref C :: bm).contains (.type T)=VB.contains (.type T):=by
 rcases c.up with ⟨_,rfl⟩ | ⟨_,D',g,rfl,n⟩
 ·rfl
 ·rfl
end
section
variable {X:Cx} {e:Expr} {st:Stmt} {sts:List Stmt} {t:TE} {ts:TS}
theorem zpq (k:X.K.In X.base):∀ C bm,KC X.K C bm->∃ fI,XCls (model X.prog X.w) X.base C bm fI:=fun _ _ ⟨_,c⟩=>c.cls _ _ k
end
end L2
namespace DL
open PySem PySem.Spec L2
open PyProof.Rows hiding St
abbrev D:=PyData
abbrev XW:=V->St->Hp->Prop
abbrev KX0:XW:=fun _ _ _=>False
def XFs (G:Hp) (dd:Option Addr) (fs:List Str) (vs:List V):Prop:=match dd with
 | none=>fs=[]/\vs=[]
 | some dx=>fs.length=vs.length/\G dx=some (.ext (XD dx (fs.zip vs)))
theorem XFs.mono {G G1:Hp} {dd:Option Addr} {fs:List Str} {vs:List V} (e:Same G G1) (h:XFs G dd fs vs):XFs G1 dd fs vs:=by
 cases dd with
 | none=>exact h
 | some dx=>exact ⟨h.1,e _ _ h.2⟩
def kD:Key->D
 | .inl i=>.int i
 | .inr x=>.str x
def tkD (k:List Key):D:=.tuple (k.map kD)
def pdD (ks:List (List Key)) (ds:List D):List (D × D):=(.bool true,.none) :: (ks.map tkD).zip ds
mutual
inductive Rep (K:PySem.W.Frag) (G:Hp):V->D->Prop where
 | non:Rep K G .non .none
 | bl (b:Bool):Rep K G (.bl b) (.bool b)
 | int (i:Int):Rep K G (.int i) (.int i)
 | str (x:Str):Rep K G (.str x) (.str x)
 | lst {a:Addr} {vs:List V} {ds:List D} (h:SqL K G a vs) (r:Reps K G vs ds):Rep K G (.ref a) (.list ds)
 | tup {a:Addr} {vs:List V} {ds:List D} (h:SqT K G a vs) (r:Reps K G vs ds):Rep K G (.ref a) (.tuple ds)
 | dic {a:Addr} (h:G a=some (.dK [])):Rep K G (.ref a) (.dict [])
 | exc {a C:Addr} {dd:Option Addr} {bm:List Value} {nm:Str} {vs:List V} {ds:List D} (c:ClsK K nm C bm) (h:G a=some (.ext (XO false a C dd))) (hd:XFs G dd (zpp nm) vs) (r:Reps K G vs ds):Rep K G (.ref a) (.dict [(.none,.tuple [.str nm,.list ds])])
 | dct {a:Addr} {ks:List Key} {vs:List V} {ds:List D} {kvs:List (D × D)} (e:kvs=(ks.map kD).zip ds) (hne:ks ≠ []) (hl:ks.length=ds.length) (h:G a=some (.dK (ks.zip vs))) (r:Reps K G vs ds):Rep K G (.ref a) (.dict kvs)
 | dtt {a:Addr} {o:Obj} {ks:List (List Key)} {vs:List V} {ds:List D} {kvs:List (D × D)} (e:kvs=pdD ks ds) (hl:ks.length=ds.length) (h:G a=some (.frz o (.dT (ks.zip vs)))) (r:Reps K G vs ds):Rep K G (.ref a) (.dict kvs)
inductive Reps (K:PySem.W.Frag) (G:Hp):List V->List D->Prop where
 | nil:Reps K G [] []
 | cons {v:V} {d:D} {vs:List V} {ds:List D} (h:Rep K G v d) (t:Reps K G vs ds):Reps K G (v :: vs) (d :: ds)
end
variable {K:PySem.W.Frag} {B G0 G G1 G2 H H1 H2:Hp}
theorem zdu {a:Addr} {xs:List V} (e:Same G G1) (h:SqT K G a xs):SqT K G1 a xs:=by
 rcases h with (h | ⟨o,h⟩) | h
 ·exact .inl (.inl (e _ _ h))
 ·exact .inl (.inr ⟨o,e _ _ h⟩)
 ·exact .inr h
mutual
theorem Rep.mono (e:Same G G1):∀ {v:V} {d:D},Rep K G v d->Rep K G1 v d
 | _,_,.non=>.non
 | _,_,.bl b=>.bl b
 | _,_,.int i=>.int i
 | _,_,.str x=>.str x
 | _,_,.lst h r=>.lst (e.seq h) (Reps.mono e r)
 | _,_,.tup h r=>.tup (zdu e h) (Reps.mono e r)
 | _,_,.dic h=>.dic (e _ _ h)
 | _,_,.exc c h hd r=>.exc c (e _ _ h) (hd.mono e) (Reps.mono e r)
 | _,_,.dct z n l h r=>.dct z n l (e _ _ h) (Reps.mono e r)
 | _,_,.dtt z l h r=>.dtt z l (e _ _ h) (Reps.mono e r)
theorem Reps.mono (e:Same G G1):∀ {vs:List V} {ds:List D},Reps K G vs ds->Reps K G1 vs ds
 | _,_,.nil=>.nil
 | _,_,.cons h t=>.cons (Rep.mono e h) (Reps.mono e t)
end
section
variable {v:V} {vs ws:List V} {ds es:List D}
theorem Rep.bl_inv {b:Bool} (h:Rep K G v (.bool b)):v=.bl b:=by cases h;rfl
theorem Rep.int_inv {i:Int} (h:Rep K G v (.int i)):v=.int i:=by cases h;rfl
theorem Rep.str_inv {x:Str} (h:Rep K G v (.str x)):v=.str x:=by cases h;rfl
theorem Rep.lst_inv (h:Rep K G v (.list ds)):∃ a vs,v=.ref a/\SqL K G a vs/\Reps K G vs ds:=by
 cases h with
 | lst h r=>exact ⟨_,_,rfl,h,r⟩
theorem Rep.tup_inv (h:Rep K G v (.tuple ds)):∃ a vs,v=.ref a/\SqT K G a vs/\Reps K G vs ds:=by
 cases h with
 | tup h r=>exact ⟨_,_,rfl,h,r⟩
theorem Reps.length:∀ {vs:List V} {ds:List D},Reps K G vs ds->vs.length=ds.length
 | _,_,.nil=>rfl
 | _,_,.cons _ t=>by rw [List.length_cons,List.length_cons,Reps.length t]
theorem Reps.get:∀ {vs:List V} {ds:List D} {i:Nat} {d:D},Reps K G vs ds->ds[i]?=some d->∃ v,vs[i]?=some v/\Rep K G v d
 | _,_,_,_,.nil,e=>by simp at e
 | _,_,0,_,.cons h _,e=>by simp at e;subst e;exact ⟨_,rfl,h⟩
 | _,_,i+1,d,.cons _ t,e=>by
  obtain ⟨u,h1,h2⟩:=Reps.get (i:=i) (d:=d) t (by simpa using e)
  exact ⟨u,by simpa using h1,h2⟩
theorem Reps.append:∀ {vs ws:List V} {ds es:List D},Reps K G vs ds->Reps K G ws es->Reps K G (vs ++ ws) (ds ++ es)
 | _,_,_,_,.nil,s=>s
 | _,_,_,_,.cons r t,s=>.cons r (Reps.append t s)
theorem Reps.take:∀ {vs:List V} {ds:List D} (n:Nat),Reps K G vs ds->Reps K G (vs.take n) (ds.take n)
 | _,_,0,_=>by rw [List.take_zero,List.take_zero];exact .nil
 | _,_,_+1,.nil=>.nil
 | _,_,n+1,.cons r t=>.cons r (Reps.take n t)
theorem Reps.drop:∀ {vs:List V} {ds:List D} (n:Nat),Reps K G vs ds->Reps K G (vs.drop n) (ds.drop n)
 | _,_,0,r=>r
 | _,_,_+1,.nil=>.nil
 | _,_,n+1,.cons _ t=>Reps.drop n t
theorem Reps.reverse:∀ {vs:List V} {ds:List D},Reps K G vs ds->Reps K G vs.reverse ds.reverse
 | _,_,.nil=>.nil
 | _,_,.cons r t=>by rw [List.reverse_cons,List.reverse_cons];exact Reps.append (Reps.reverse t) (.cons r .nil)
theorem Reps.set {v:V} {d:D} (r:Rep K G v d):∀ {vs:List V} {ds:List D} (i:Nat),Reps K G vs ds->Reps K G (vs.set i v) (ds.set i d)
 | _,_,_,.nil=>.nil
 | _,_,0,.cons _ t=>.cons r t
 | _,_,i+1,.cons q t=>.cons q (Reps.set r i t)
theorem Reps.ints:∀ (ns:List Int),Reps K G (ns.map V.int) (ns.map PyData.int)
 | []=>.nil
 | n :: ns=>.cons (.int n) (Reps.ints ns)
end
inductive MO where
 | l (vs:List V) | k (kvs:List (Key × V)) | t (kvs:List (List Key × V))
def MO.ho:MO->HO
 | .l vs=>.lst vs
 | .k kvs=>.dK kvs
 | .t kvs=>.dT kvs
structure Ext (G H G' H':Hp):Prop where
 h:Same H H'
 g:Same G G'
 gh:Same G' H'
 np:∀ a (u:MO),H a=some u.ho->G a=none->G' a=none
theorem Ext.refl (e:Same G H):Ext G H G H:=⟨.refl _,.refl _,e,fun _ _ _ q=>q⟩
theorem zaM {p:Addr} {o:HO} (h:H p=none):Same H (upd H p o):=fun b u e=>by rw [zaR (za5 e h)];exact e
theorem Ext.new {p:Addr} {o:HO} (e:Same G H) (h:H p=none):Ext G H (upd G p o) (upd H p o):=by
 have hg:G p=none:=e.free h
 refine ⟨zaM h,zaM hg,fun b u q=>?_,fun a u q n=>?_⟩
 ·by_cases z:b=p
  ·subst z;rw [zaL] at q ⊢;exact q
  ·rw [zaR z] at q ⊢;exact e b u q
 ·rw [zaR (za5 q h)];exact n
theorem Ext.hid {p:Addr} {o:HO} (e:Same G H) (h:H p=none):Ext G H G (upd H p o) :=
 ⟨zaM h,.refl _,e.trans (zaM h),fun _ _ _ n=>n⟩
inductive Pat where
 | leaf | lst (p:Pat) | tup (ps:List Pat)
mutual
inductive RepO (K:PySem.W.Frag) (G H:Hp):Pat->V->D->List Addr->Prop where
 | leaf {v:V} {d:D} (r:Rep K G v d):RepO K G H .leaf v d []
 | lst {p:Pat} {a:Addr} {vs:List V} {ds:List D} {fp:List Addr} (h:H a=some (.lst vs)) (r:RepOl K G H p vs ds fp):RepO K G H (.lst p) (.ref a) (.list ds) (a :: fp)
 | tup {ps:List Pat} {a:Addr} {vs:List V} {ds:List D} {fp:List Addr} (h:H a=some (.tup vs)) (r:RepOs K G H ps vs ds fp):RepO K G H (.tup ps) (.ref a) (.tuple ds) fp
inductive RepOl (K:PySem.W.Frag) (G H:Hp):Pat->List V->List D->List Addr->Prop where
 | nil {p:Pat}:RepOl K G H p [] [] []
 | cons {p:Pat} {v:V} {d:D} {vs:List V} {ds:List D} {f1 f2:List Addr} (h:RepO K G H p v d f1) (t:RepOl K G H p vs ds f2):RepOl K G H p (v :: vs) (d :: ds) (f1 ++ f2)
inductive RepOs (K:PySem.W.Frag) (G H:Hp):List Pat->List V->List D->List Addr->Prop where
 | nil:RepOs K G H [] [] [] []
 | cons {p:Pat} {ps:List Pat} {v:V} {d:D} {vs:List V} {ds:List D} {f1 f2:List Addr} (h:RepO K G H p v d f1) (t:RepOs K G H ps vs ds f2):RepOs K G H (p :: ps) (v :: vs) (d :: ds) (f1 ++ f2)
end
mutual
theorem RepO.mono (sg:Same G G1) (sh:Same H H1):∀ {p:Pat} {v:V} {d:D} {fp:List Addr},RepO K G H p v d fp->RepO K G1 H1 p v d fp
 | _,_,_,_,.leaf r=>.leaf (r.mono sg)
 | _,_,_,_,.lst h r=>.lst (sh _ _ h) (RepOl.mono sg sh r)
 | _,_,_,_,.tup h r=>.tup (sh _ _ h) (RepOs.mono sg sh r)
theorem RepOl.mono (sg:Same G G1) (sh:Same H H1):∀ {p:Pat} {v:List V} {d:List D} {fp:List Addr},RepOl K G H p v d fp->RepOl K G1 H1 p v d fp
 | _,_,_,_,.nil=>.nil
 | _,_,_,_,.cons h t=>.cons (RepO.mono sg sh h) (RepOl.mono sg sh t)
theorem RepOs.mono (sg:Same G G1) (sh:Same H H1):∀ {p:List Pat} {v:List V} {d:List D} {fp:List Addr},RepOs K G H p v d fp->RepOs K G1 H1 p v d fp
 | _,_,_,_,.nil=>.nil
 | _,_,_,_,.cons h t=>.cons (RepO.mono sg sh h) (RepOs.mono sg sh t)
end
mutual
theorem RepO.upd {a:Addr} {o:HO} (nt:∀ vs,H a ≠ some (.tup vs)):∀ {p:Pat} {v:V} {d:D} {fp:List Addr},RepO K G H p v d fp->a ∉ fp->RepO K G (upd H a o) p v d fp
 | _,_,_,_,.leaf r,_=>.leaf r
 | _,_,_,_,.lst h r,n=>.lst (by rw [zaR (fun z=>n (by rw [z];exact List.mem_cons_self))];exact h) (RepOl.upd nt r fun z=>n (List.mem_cons_of_mem _ z))
 | _,_,_,_,.tup h r,n=>.tup (by rw [zaR (fun z=>by subst z;exact nt _ h)];exact h) (RepOs.upd nt r n)
theorem RepOl.upd {a:Addr} {o:HO} (nt:∀ vs,H a ≠ some (.tup vs)):∀ {p:Pat} {v:List V} {d:List D} {fp:List Addr},RepOl K G H p v d fp->a ∉ fp->RepOl K G (upd H a o) p v d fp
 | _,_,_,_,.nil,_=>.nil
 | _,_,_,_,.cons h t,n=>.cons (RepO.upd nt h fun z=>n (List.mem_append_left _ z)) (RepOl.upd nt t fun z=>n (List.mem_append_right _ z))
theorem RepOs.upd {a:Addr} {o:HO} (nt:∀ vs,H a ≠ some (.tup vs)):∀ {p:List Pat} {v:List V} {d:List D} {fp:List Addr},RepOs K G H p v d fp->a ∉ fp->RepOs K G (upd H a o) p v d fp
 | _,_,_,_,.nil,_=>.nil
 | _,_,_,_,.cons h t,n=>.cons (RepO.upd nt h fun z=>n (List.mem_append_left _ z)) (RepOs.upd nt t fun z=>n (List.mem_append_right _ z))
end
mutual
theorem RepO.rep (gh:Same G H):∀ {p:Pat} {v:V} {d:D} {fp:List Addr},RepO K G H p v d fp->Rep K H v d
 | _,_,_,_,.leaf r=>r.mono gh
 | _,_,_,_,.lst h r=>.lst (SqL.of h) (RepOl.rep gh r)
 | _,_,_,_,.tup h r=>.tup (SqT.of h) (RepOs.rep gh r)
theorem RepOl.rep (gh:Same G H):∀ {p:Pat} {v:List V} {d:List D} {fp:List Addr},RepOl K G H p v d fp->Reps K H v d
 | _,_,_,_,.nil=>.nil
 | _,_,_,_,.cons h t=>.cons (RepO.rep gh h) (RepOl.rep gh t)
theorem RepOs.rep (gh:Same G H):∀ {p:List Pat} {v:List V} {d:List D} {fp:List Addr},RepOs K G H p v d fp->Reps K H v d
 | _,_,_,_,.nil=>.nil
 | _,_,_,_,.cons h t=>.cons (RepO.rep gh h) (RepOs.rep gh t)
end
mutual
theorem RepO.isl:∀ {p:Pat} {v:V} {d:D} {fp:List Addr},RepO K G H p v d fp->∀ a ∈ fp,∃ vs,H a=some (.lst vs)
 | _,_,_,_,.leaf r,a,m=>by cases m
 | _,_,_,_,.lst h r,a,m=>by
  rcases List.mem_cons.mp m with rfl | m
  ·exact ⟨_,h⟩
  ·exact RepOl.isl r a m
 | _,_,_,_,.tup h r,a,m=>RepOs.isl r a m
theorem RepOl.isl:∀ {p:Pat} {v:List V} {d:List D} {fp:List Addr},RepOl K G H p v d fp->∀ a ∈ fp,∃ vs,H a=some (.lst vs)
 | _,_,_,_,.nil,a,m=>by cases m
 | _,_,_,_,.cons h t,a,m=>by
  rcases List.mem_append.mp m with m | m
  ·exact RepO.isl h a m
  ·exact RepOl.isl t a m
theorem RepOs.isl:∀ {p:List Pat} {v:List V} {d:List D} {fp:List Addr},RepOs K G H p v d fp->∀ a ∈ fp,∃ vs,H a=some (.lst vs)
 | _,_,_,_,.nil,a,m=>by cases m
 | _,_,_,_,.cons h t,a,m=>by
  rcases List.mem_append.mp m with m | m
  ·exact RepO.isl h a m
  ·exact RepOs.isl t a m
end
mutual
theorem RepO.uniq (sh:Same H H1):∀ {p:Pat} {v:V} {d d':D} {fp fp':List Addr},RepO K G H p v d fp->RepO K G1 H1 p v d' fp'->fp=fp'
 | _,_,_,_,_,_,.leaf _,.leaf _=>rfl
 | _,_,_,_,_,_,.lst h r,.lst h' r'=>by
  have e:=sh _ _ h
  rw [h'] at e
  cases e
  rw [RepOl.uniq sh r r']
 | _,_,_,_,_,_,.tup h r,.tup h' r'=>by
  have e:=sh _ _ h
  rw [h'] at e
  cases e
  exact RepOs.uniq sh r r'
theorem RepOl.uniq (sh:Same H H1):∀ {p:Pat} {v:List V} {d d':List D} {fp fp':List Addr},RepOl K G H p v d fp->RepOl K G1 H1 p v d' fp'->fp=fp'
 | _,_,_,_,_,_,.nil,.nil=>rfl
 | _,_,_,_,_,_,.cons h t,.cons h' t'=>by rw [RepO.uniq sh h h',RepOl.uniq sh t t']
theorem RepOs.uniq (sh:Same H H1):∀ {p:List Pat} {v:List V} {d d':List D} {fp fp':List Addr},RepOs K G H p v d fp->RepOs K G1 H1 p v d' fp'->fp=fp'
 | _,_,_,_,_,_,.nil,.nil=>rfl
 | _,_,_,_,_,_,.cons h t,.cons h' t'=>by rw [RepO.uniq sh h h',RepOs.uniq sh t t']
end
inductive Sl where
 | pub (d:D) | own (ds:List D) | deep (p:Pat) (d:D)
abbrev DEnv:=List (Option Sl)
def DpOk (K:PySem.W.Frag) (B G H:Hp) (σ : St) (ρ : DEnv):Prop:=∃ ω : Addr->Nat,
 (∀ (i:Nat) p d,ρ[i]?=some (some (.deep p d))->∃ v fp,σ[i]?=some (some v)/\RepO K G H p v d fp/\fp.Nodup/\∀ a ∈ fp,B a=none/\G a=none /\ ω a=i) /\
 (∀ (i:Nat) ds a,ρ[i]?=some (some (.own ds)) -> σ[i]?=some (some (.ref a)) -> ω a=i)
theorem DpOk.of {σ : St} {ρ : DEnv} (h1:∀ (i:Nat) p d,ρ[i]?=some (some (.deep p d))->False) (h2:∀ (i:Nat) ds,ρ[i]?=some (some (.own ds))->False):DpOk K B G H σ ρ :=
 ⟨fun _=>0,fun i p d q=>(h1 i p d q).elim,fun i ds a q=>(h2 i ds q).elim⟩
theorem DpOk.map {B1:Hp} {σ σ1:St} {ρ ρ1:DEnv} (k:DpOk K B G H σ ρ)
  (h1:∀ (i:Nat) p d,ρ1[i]?=some (some (.deep p d)) -> ρ[i]?=some (some (.deep p d)) /\ σ1[i]? = σ[i]?)
  (h2:∀ (i:Nat) ds,ρ1[i]?=some (some (.own ds))->∃ es,ρ[i]?=some (some (.own es)) /\ σ1[i]? = σ[i]?)
  (h3:∀ (i:Nat) p d v fp,ρ[i]?=some (some (.deep p d)) -> σ[i]?=some (some v)->RepO K G H p v d fp->(∀ a ∈ fp,B a=none/\G a=none)->(∀ (j:Nat) ds a,ρ[j]?=some (some (.own ds)) -> σ[j]?=some (some (.ref a))->a ∉ fp)->RepO K G1 H1 p v d fp/\∀ a ∈ fp,B1 a=none/\G1 a=none):DpOk K B1 G1 H1 σ1 ρ1:=by
 obtain ⟨ω,k1,k2⟩:=k
 refine ⟨ω,fun i p d q=>?_,fun i ds a q s=>?_⟩
 ·obtain ⟨q1,e1⟩:=h1 i p d q
  obtain ⟨v,fp,s,r,n,w⟩:=k1 i p d q1
  obtain ⟨r1,w1⟩:=h3 i p d v fp q1 s r (fun a m=>⟨(w a m).1,(w a m).2.1⟩) fun j ds a qj sj m=>by
   have z1:=k2 j ds a qj sj
   have z2:=(w a m).2.2
   rw [z1] at z2
   subst z2
   rw [q1] at qj
   cases qj
  exact ⟨v,fp,by rw [e1];exact s,r1,n,fun a m=>⟨(w1 a m).1,(w1 a m).2,(w a m).2.2⟩⟩
 ·obtain ⟨es,q1,e1⟩:=h2 i ds q
  rw [e1] at s
  exact k2 i es a q1 s
structure EOk (K:PySem.W.Frag) (B G0 G H:Hp) (σ : St) (ρ : DEnv):Prop where
 bh:Same B H
 gh:Same G H
 g0:Same G0 G
 np:∀ a (u:MO),B a=some u.ho->G0 a=none->G a=none
 len : ρ.length = σ.length
 pub:∀ (i:Nat) d,ρ[i]?=some (some (.pub d))->∃ v,σ[i]?=some (some v)/\Rep K G v d
 own:∀ (i:Nat) ds,ρ[i]?=some (some (.own ds))->∃ a vs,σ[i]?=some (some (.ref a))/\B a=none/\G a=none/\H a=some (.lst vs)/\Reps K G vs ds
 sep:∀ (i j:Nat) a ds es,ρ[i]?=some (some (.own ds)) -> ρ[j]?=some (some (.own es)) -> σ[i]?=some (some (.ref a)) -> σ[j]?=some (some (.ref a))->i=j
 dp:DpOk K B G H σ ρ
theorem EOk.ext {G' H':Hp} {σ : St} {ρ : DEnv} (k:EOk K B G0 G H σ ρ) (e:Ext G H G' H'):EOk K B G0 G' H' σ ρ where
 bh:=k.bh.trans e.h
 gh:=e.gh
 g0:=k.g0.trans e.g
 np:=fun a o q n=>e.np a o (k.bh a _ q) (k.np a o q n)
 len:=k.len
 pub:=fun i d q=>let ⟨v,h1,h2⟩:=k.pub i d q;⟨v,h1,h2.mono e.g⟩
 own:=fun i ds q=>let ⟨a,vs,h1,h2,h3,h4,h5⟩:=k.own i ds q;⟨a,vs,h1,h2,e.np a (.l _) h4 h3,e.h a _ h4,h5.mono e.g⟩
 sep:=k.sep
 dp:=k.dp.map (fun _ _ _ q=>⟨q,rfl⟩) (fun _ ds q=>⟨ds,q,rfl⟩) fun i p d v fp q s r w n=>⟨r.mono e.g e.h,fun a m=>let ⟨_,hl⟩:=r.isl a m;⟨(w a m).1,e.np a (.l _) hl (w a m).2⟩⟩
theorem EOk.publish {σ : St} {ρ : DEnv} {i:Nat} {ds:List D} (k:EOk K B G0 G H σ ρ) (h : ρ[i]?=some (some (.own ds))) :
  ∃ a G',σ[i]?=some (some (.ref a))/\Same G G'/\Rep K G' (.ref a) (.list ds)/\EOk K B G0 G' H σ (ρ.set i (some (.pub (.list ds)))):=by
 obtain ⟨a,vs,h1,h2,h3,h4,h5⟩:=k.own i ds h
 have sg:Same G (upd G a (.lst vs)):=zaM h3
 have hr:Rep K (upd G a (.lst vs)) (.ref a) (.list ds):=.lst (SqL.of zaL) (h5.mono sg)
 refine ⟨a,upd G a (.lst vs),h1,sg,hr,⟨k.bh,fun b u q=>?_,k.g0.trans sg,fun b o q n=>?_,by rw [List.length_set];exact k.len,fun j d q=>?_,fun j es q=>?_,fun j l c es fs q1 q2 s1 s2=>?_,?_⟩⟩
 ·by_cases z:b=a
  ·subst z;rw [zaL] at q;cases q;exact h4
  ·rw [zaR z] at q;exact k.gh b u q
 ·have z:b ≠ a:=fun z=>by subst z;rw [h2] at q;cases q
  rw [zaR z];exact k.np b o q n
 ·by_cases z:i=j
  ·subst z
   have hl:i < ρ.length:=(List.getElem?_eq_some_iff.mp h).1
   rw [List.getElem?_set_self hl] at q
   cases q
   exact ⟨.ref a,h1,hr⟩
  ·rw [List.getElem?_set_ne z] at q
   obtain ⟨v,g1,g2⟩:=k.pub j d q
   exact ⟨v,g1,g2.mono sg⟩
 ·by_cases z:i=j
  ·subst z
   have hl:i < ρ.length:=(List.getElem?_eq_some_iff.mp h).1
   rw [List.getElem?_set_self hl] at q
   cases q
  ·rw [List.getElem?_set_ne z] at q
   obtain ⟨b,ws,g1,g2,g3,g4,g5⟩:=k.own j es q
   have zb:b ≠ a:=fun e=>z (k.sep i j a ds es h q h1 (by rw [← e];exact g1))
   exact ⟨b,ws,g1,g2,by rw [zaR zb];exact g3,g4,g5.mono sg⟩
 ·have nz:∀ {m:Nat} {ts:List D},(ρ.set i (some (Sl.pub (.list ds))))[m]?=some (some (.own ts)) -> ρ[m]?=some (some (.own ts)):=fun {m ts} q=>by
   by_cases z:i=m
   ·subst z
    have hl:i < ρ.length:=(List.getElem?_eq_some_iff.mp h).1
    rw [List.getElem?_set_self hl] at q
    cases q
   ·rw [List.getElem?_set_ne z] at q;exact q
  exact k.sep j l c es fs (nz q1) (nz q2) s1 s2
 ·have hl:i < ρ.length:=(List.getElem?_eq_some_iff.mp h).1
  have nz:∀ {m:Nat} {s:Sl},(ρ.set i (some (Sl.pub (.list ds))))[m]?=some (some s)->(∃ d,s=.pub d) ∨ ρ[m]?=some (some s):=fun {m s} q=>by
   by_cases z:i=m
   ·subst z
    rw [List.getElem?_set_self hl] at q
    cases q
    exact .inl ⟨_,rfl⟩
   ·rw [List.getElem?_set_ne z] at q;exact .inr q
  refine k.dp.map (fun m p d q=>?_) (fun m es q=>?_) fun m p d v fp q s r w n=>⟨r.mono sg (.refl _),fun b mb=>⟨(w b mb).1,?_⟩⟩
  ·rcases nz q with ⟨_,e⟩ | q
   ·cases e
   ·exact ⟨q,rfl⟩
  ·rcases nz q with ⟨_,e⟩ | q
   ·cases e
   ·exact ⟨es,q,rfl⟩
  ·rw [zaR (fun z=>by subst z;exact n i ds b h h1 mb)];exact (w b mb).2
inductive Res (α : Type) where
 | ok (a : α) (ρ : DEnv) | bad
abbrev M (α : Type):=DEnv->Res α
def zah {α : Type} (a : α):M α:=fun ρ=>.ok a ρ
def mOpt {α : Type} (o:Option α):M α:=fun ρ=>match o with | some a=>.ok a ρ | none=>.bad
def zas {α β : Type} (f:M α) (k : α -> M β):M β:=fun ρ=>match f ρ with | .ok a ρ'=>k a ρ' | .bad=>.bad
section
variable (K:PySem.W.Frag) (B G0:Hp)
def aft {α γ : Type} (R:Hp -> γ -> α -> Prop) (r:Res α) (G:Hp) (σ : St) (Q : γ -> Hp->Prop):Prop :=
 match r with
 | .ok d ρ'=>∀ v G' H',EOk K B G0 G' H' σ ρ'->Same G G'->R G' v d->Q v H'
 | .bad=>False
def tM {α γ : Type} (R:Hp -> γ -> α -> Prop) (f:M α):St->Hp->(γ -> Hp->Prop)->Prop:=fun σ H Q =>
 ∃ G ρ,EOk K B G0 G H σ ρ /\ aft K B G0 R (f ρ) G σ Q
abbrev tD (f:M D):TE:=tM K B G0 (Rep K) f
abbrev tDs (f:M (List D)):TA:=tM K B G0 (Reps K) f
abbrev tBo (f:M Bool):TT:=tM K B G0 (fun _ b c=>b=c) f
abbrev tOi (f:M (Option Int)):TO:=tM K B G0 (fun _ b c=>b=c) f
end
section
variable {K:PySem.W.Frag} {B G0:Hp} {α β γ δ ε : Type} {R:Hp -> γ -> α -> Prop} {S:Hp -> δ -> β -> Prop} {T:Hp -> ε -> α -> Prop} {σ : St} {H:Hp}
theorem aft.mono {r:Res α} {G G':Hp} {Q : γ -> Hp->Prop} (e:Same G G') (h:aft K B G0 R r G σ Q):aft K B G0 R r G' σ Q:=by
 cases r with
 | ok d ρ=>exact fun v G2 H2 k s q=>h v G2 H2 k (e.trans s) q
 | bad=>exact h
theorem aft.done {d : α} {ρ : DEnv} {G G' H H':Hp} {v : γ} {Q : γ -> Hp->Prop} (h:aft K B G0 R (.ok d ρ) G σ Q) (k:EOk K B G0 G H σ ρ) (e:Ext G H G' H') (r:R G' v d):Q v H' :=
 h v G' H' (k.ext e) e.g r
theorem aft.now {d : α} {ρ : DEnv} {G H:Hp} {v : γ} {Q : γ -> Hp->Prop} (h:aft K B G0 R (.ok d ρ) G σ Q) (k:EOk K B G0 G H σ ρ) (r:R G v d):Q v H :=
 h v G H k (.refl _) r
theorem aft.opt {o:Option α} {ρ : DEnv} {G:Hp} {Q : γ -> Hp->Prop} (h:aft K B G0 R (mOpt o ρ) G σ Q):∃ d,o=some d/\aft K B G0 R (.ok d ρ) G σ Q:=by
 cases o with
 | none=>exact h.elim
 | some d=>exact ⟨d,rfl,h⟩
theorem tM.bind {f:M α} {k : α -> M β} {Q : δ -> Hp->Prop} (h:tM K B G0 S (zas f k) σ H Q) :
  tM K B G0 R f σ H (fun v H1=>∃ G ρ d,EOk K B G0 G H1 σ ρ /\ R G v d/\aft K B G0 S (k d ρ) G σ Q):=by
 obtain ⟨G,ρ,e,a⟩:=h
 refine ⟨G,ρ,e,?_⟩
 unfold zas at a
 cases q:f ρ with
 | bad=>rw [q] at a;exact a.elim
 | ok d ρ1 =>
  rw [q] at a
  exact fun v G' H' e' s r=>⟨G',ρ1,d,e',r,aft.mono s a⟩
theorem tM.bind2 {α' γ':Type} {R':Hp -> γ' -> α'->Prop} {f:M α} {g : α -> M α'} {k : α -> α'->M β} {Q : δ -> Hp->Prop} (mo:∀ G G' v d,Same G G'->R G v d->R G' v d)
  (h:tM K B G0 S (zas f fun x=>zas (g x) fun y=>k x y) σ H Q) :
  tM K B G0 R f σ H (fun v H1=>∃ x,tM K B G0 R' (g x) σ H1 fun u H2=>∃ G ρ y,EOk K B G0 G H2 σ ρ /\ R G v x/\R' G u y/\aft K B G0 S (k x y ρ) G σ Q):=by
 obtain ⟨G,ρ,e,a⟩:=tM.bind (R:=R) h
 refine ⟨G,ρ,e,?_⟩
 cases q:f ρ with
 | bad=>rw [q] at a;exact a.elim
 | ok d ρ1 =>
  rw [q] at a
  intro v G' H' e' s r
  obtain ⟨G2,ρ2,d2,e2,r2,a2⟩:=a v G' H' e' s r
  refine ⟨d2,G2,ρ2,e2,?_⟩
  unfold zas at a2
  cases q2:g d2 ρ2 with
  | bad=>rw [q2] at a2;exact a2.elim
  | ok d3 ρ3 =>
   rw [q2] at a2
   exact fun u G3 H3 e3 s3 r3=>⟨G3,ρ3,d3,e3,mo _ _ _ _ s3 r2,r3,aft.mono s3 a2⟩
end
theorem zjx {K:PySem.W.Frag} (G G':Hp) (v:V) (d:D) (e:Same G G') (r:Rep K G v d):Rep K G' v d:=r.mono e
theorem tM.two {K:PySem.W.Frag} {B G0:Hp} {β δ : Type} {S:Hp -> δ -> β -> Prop} {σ : St} {H:Hp} {f g:M D} {k:D->D->M β} {Q : δ -> Hp->Prop} {P:V->V->Hp->Prop}
  (h:tM K B G0 S (zas f fun x=>zas g fun y=>k x y) σ H Q)
  (i:∀ v u H2 G ρ x y,EOk K B G0 G H2 σ ρ -> Rep K G v x->Rep K G u y->aft K B G0 S (k x y ρ) G σ Q->P v u H2) :
  tD K B G0 f σ H (fun v H1=>tD K B G0 g σ H1 fun u H2=>P v u H2):=by
 obtain ⟨G,ρ,e,a⟩:=tM.bind2 (R:=Rep K) (R':=Rep K) zjx h
 refine ⟨G,ρ,e,?_⟩
 cases q:f ρ with
 | bad=>rw [q] at a;exact a.elim
 | ok d ρ1 =>
  rw [q] at a
  intro v G' H' e' s r
  obtain ⟨x,G2,ρ2,e2,a2⟩:=a v G' H' e' s r
  refine ⟨G2,ρ2,e2,?_⟩
  cases q2:g ρ2 with
  | bad=>rw [q2] at a2;exact a2.elim
  | ok d3 ρ3 =>
   rw [q2] at a2
   intro u G3 H3 e3 s3 r3
   obtain ⟨G4,ρ4,y,e4,r4,r5,a5⟩:=a2 u G3 H3 e3 s3 r3
   exact i v u H3 G4 ρ4 x y e4 r4 r5 a5
theorem tM.one {K:PySem.W.Frag} {B G0:Hp} {α β γ δ : Type} {R:Hp -> γ -> α -> Prop} {S:Hp -> δ -> β -> Prop} {σ : St} {H:Hp} {f:M α} {k : α -> M β} {Q : δ -> Hp->Prop} {P : γ -> Hp->Prop}
  (h:tM K B G0 S (zas f k) σ H Q) (i:∀ v H2 G ρ x,EOk K B G0 G H2 σ ρ -> R G v x->aft K B G0 S (k x ρ) G σ Q->P v H2):tM K B G0 R f σ H P:=by
 obtain ⟨G,ρ,e,a⟩:=tM.bind (R:=R) h
 refine ⟨G,ρ,e,?_⟩
 cases q:f ρ with
 | bad=>rw [q] at a;exact a.elim
 | ok d ρ1 =>
  rw [q] at a
  intro v G' H' e' s r
  obtain ⟨G2,ρ2,d2,e2,r2,a2⟩:=a v G' H' e' s r
  exact i v H' G2 ρ2 d2 e2 r2 a2
section
variable {X:Cx} {B G0:Hp} {e a b:Expr} {pos:Pos}
theorem peof {t t':TE} (h:PE X e t) (i:∀ σ H Q,t' σ H Q->t σ H Q):PE X e t':=fun pins s σ H Q I q=>h pins s σ H Q I (i σ H Q q)
theorem ptof {t t':TT} (h:PT X e t) (i:∀ σ H Q,t' σ H Q->t σ H Q):PT X e t':=fun pins s σ H Q I q=>h pins s σ H Q I (i σ H Q q)
theorem paof {es:List Expr} {t t':TA} (h:PA X es t) (i:∀ σ H Q,t' σ H Q->t σ H Q):PA X es t':=fun ps pins s σ H Q I q=>h ps pins s σ H Q I (i σ H Q q)
theorem poof {eo:Option Expr} {t t':TO} (h:PO X eo t) (i:∀ σ H Q,t' σ H Q->t σ H Q):PO X eo t':=fun pins s σ H Q I q=>h pins s σ H Q I (i σ H Q q)
theorem psof {st:Stmt} {t t':TS} (h:PS X st t) (i:∀ D σ H,t' D σ H->t D σ H):PS X st t':=fun pins s σ H D I q=>h pins s σ H D I (i D σ H q)
theorem zoi {st:List Stmt} {t t':TS} (h:PSs X st t) (i:∀ D σ H,t' D σ H->t D σ H):PSs X st t':=fun pins s σ H D I q=>h pins s σ H D I (i D σ H q)
def dVar (i:Nat):M D:=fun ρ=>match ρ[i]? with
 | some (some (.pub d))=>.ok d ρ
 | some (some (.own ds))=>.ok (.list ds) (ρ.set i (some (.pub (.list ds))))
 | _=>.bad
theorem zac {i:Nat} (h:PE X e (tVar i)):PE X e (tD X.K B G0 (dVar i)):=peof h fun σ H Q ⟨G,ρ,k,a⟩=>by
 unfold dVar at a
 cases q : ρ[i]? with
 | none=>rw [q] at a;exact a.elim
 | some o =>
  cases o with
  | none=>rw [q] at a;exact a.elim
  | some sl =>
   cases sl with
   | deep _ _=>rw [q] at a;exact a.elim
   | pub d =>
    rw [q] at a
    obtain ⟨v,h1,h2⟩:=k.pub i d q
    exact ⟨v,h1,a.now k h2⟩
   | own ds =>
    rw [q] at a
    obtain ⟨ad,G',h1,h2,h3,h4⟩:=k.publish q
    exact ⟨.ref ad,h1,a (.ref ad) G' H h4 h2 h3⟩
theorem zjy {v:V} {d:D} (h:PE X e (tC v)) (r:∀ G,Rep X.K G v d):PE X e (tD X.K B G0 (zah d)):=peof h fun σ H Q ⟨G,ρ,k,a⟩=>a.now k (r G)
theorem zaj {i:Int} {j}:PE X (.Constant (.int i) j pos) (tD X.K B G0 (zah (.int i))):=zjy znJ fun _=>.int i
theorem zch {i:Bool} {j}:PE X (.Constant (.bool i) j pos) (tD X.K B G0 (zah (.bool i))):=zjy zo3 fun _=>.bl i
theorem zdo {j}:PE X (.Constant .none j pos) (tD X.K B G0 (zah .none)):=zjy znK fun _=>.non
def dBin {β : Type} (op:D->D->Option β) (f g:M D):M β:=zas f fun x=>zas g fun y=>mOpt (op x y)
def OpD (X:Cx) (f:Value->Value->Sem Value) (op:D->D->Option D):Prop :=
 ∃ r:R2,OpR X f r/\∀ v u G H x y d Q,Same G H->Rep X.K G v x->Rep X.K G u y->op x y=some d->(∀ w G' H',Ext G H G' H'->Rep X.K G' w d->Q w H')->r v u H Q
theorem zaF {op:Operator} {p:D->D->Option D} {f g:M D} (o:OpD X (binaryOp op) p) (ha:PE X a (tD X.K B G0 f)) (hb:PE X b (tD X.K B G0 g)):PE X (.BinOp a op b pos) (tD X.K B G0 (dBin p f g)):=by
 obtain ⟨r,h,i⟩:=o
 refine peof (znY h ha hb) fun σ H Q q=>?_
 refine tM.two q fun v u H2 G ρ x y k rx ry a=>?_
 obtain ⟨d,e,a⟩:=a.opt
 exact i v u G H2 x y d Q k.gh rx ry e fun w G' H' ex rw=>a.done k ex rw
theorem OpD.or {f:Value->Value->Sem Value} {p q:D->D->Option D} (h:OpD X f p) (h':OpD X f q):OpD X f (fun x y=>(p x y).orElse fun _=>q x y):=by
 obtain ⟨r,h1,i1⟩:=h
 obtain ⟨r',h2,i2⟩:=h'
 refine ⟨_,h1.or h2,fun v u G H x y d Q s rx ry e k=>?_⟩
 dsimp only at e
 cases z:p x y with
 | some d' =>
  rw [z] at e
  have e':d'=d:=Option.some.inj e
  subst e'
  exact .inl (i1 v u G H x y d' Q s rx ry z k)
 | none =>
  rw [z] at e
  exact .inr (i2 v u G H x y d Q s rx ry e k)
def oII (g:Int->Int->Option D):D->D->Option D
 | .int i,.int j=>g i j
 | _,_=>none
theorem zjz {g:Int->Int->Option D} {x y d:D} (e:oII g x y=some d):∃ i j,x=.int i/\y=.int j/\g i j=some d:=by
 unfold oII at e
 split at e
 ·exact ⟨_,_,rfl,rfl,e⟩
 ·cases e
theorem OpD.int {f:Value->Value->Sem Value} {C:Int->Int->Prop} {g:Int->Int->V} {p:Int->Int->Option D} (h:OpR X f (rI C g)) (i:∀ i j d,p i j=some d->C i j/\∀ G,Rep X.K G (g i j) d):OpD X f (oII p):=by
 refine ⟨_,h,fun v u G H x y d Q s rx ry e k=>?_⟩
 obtain ⟨a,b,rfl,rfl,e⟩:=zjz e
 obtain ⟨c,r⟩:=i a b d e
 exact ⟨a,b,rx.int_inv,ry.int_inv,c,k _ G H (.refl s) (r G)⟩
theorem OpD.int0 {f:Value->Value->Sem Value} {g:Int->Int->V} {p:Int->Int->D} (h:OpR X f (rI0 g)) (i:∀ i j G,Rep X.K G (g i j) (p i j)):OpD X f (oII fun i j=>some (p i j)):=by
 refine ⟨_,h,fun v u G H x y d Q s rx ry e k=>?_⟩
 obtain ⟨a,b,rfl,rfl,e⟩:=zjz e
 cases e
 exact ⟨a,b,rx.int_inv,ry.int_inv,k _ G H (.refl s) (i a b G)⟩
end
section
variable {X:Cx} {B G0:Hp} {e a b c:Expr} {pos:Pos}
theorem zoj:OpD X (binaryOp .Add) (oII fun i j=>some (.int (i+j))):=.int0 znZ fun _ _ _=>.int _
theorem zok:OpD X (binaryOp .Sub) (oII fun i j=>some (.int (i - j))):=.int0 zn0 fun _ _ _=>.int _
def gMul (i j:Int):Option D:=if (-(2 ^ 64) < i/\i < 2 ^ 64) ∨ (-(2 ^ 64) < j/\j < 2 ^ 64) then some (.int (i * j)) else none
theorem zm5:OpD X (binaryOp .Mult) (oII gMul):=.int zn1 fun i j d h=>by
 unfold gMul at h
 split at h
 ·rename_i c
  cases h
  exact ⟨c,fun _=>.int _⟩
 ·cases h
def gMod (i j:Int):Option D:=if 0 < j then some (.int (i % j)) else none
theorem zol:OpD X (binaryOp .Mod) (oII gMod):=.int zn2 fun i j d h=>by
 unfold gMod at h
 split at h
 ·rename_i c
  cases h
  exact ⟨c,fun _=>.int _⟩
 ·cases h
theorem zlx:OpR X (binaryOp .FloorDiv) (rI (fun i j=>0 < j/\j < 2 ^ 64) fun i j=>.int (i / j)):=opI fun i j _ _ _ _ _ hc q=>by
 have h1:(0:Int) < j:=hc.1
 have h2:j < 2 ^ 64:=hc.2
 refine floordiv_int (by omega) (by rw [Int.fdiv_eq_ediv_of_nonneg i (by omega)];exact q) (.inl (PyProof.noPylong_of_log2 ?_))
 have h0:j.natAbs ≠ 0:=by omega
 have:j.natAbs.log2 < 64:=(Nat.log2_lt h0).mpr (by omega)
 omega
def gDiv (i j:Int):Option D:=if 0 < j/\j < 2 ^ 64 then some (.int (i / j)) else none
theorem zom:OpD X (binaryOp .FloorDiv) (oII gDiv):=.int zlx fun i j d h=>by
 unfold gDiv at h
 split at h
 ·rename_i c
  cases h
  exact ⟨c,fun _=>.int _⟩
 ·cases h
def gPow (i j:Int):Option D:=if 0<=j/\j<=1000000/\i.natAbs < 2 ^ 64 then some (.int (i ^ j.toNat)) else none
theorem zon:OpD X (binaryOp .Pow) (oII gPow):=.int zn3 fun i j d h=>by
 unfold gPow at h
 split at h
 ·rename_i c
  cases h
  exact ⟨c,fun _=>.int _⟩
 ·cases h
theorem lim:(1000000:Nat)<=sizeLine:=by decide
def zly:D->D->Option D
 | .str x,.str y=>if x.length+y.length<=1000000 then some (.str (x ++ y)) else none
 | _,_=>none
theorem zm6:OpD X (binaryOp .Add) zly:=by
 refine ⟨_,ziu,fun v u G H x y d Q s rx ry e k=>?_⟩
 unfold zly at e
 split at e
 ·split at e
  ·rename_i c
   cases e
   exact ⟨_,_,rx.str_inv,ry.str_inv,Nat.le_trans c lim,k _ G H (.refl s) (.str _)⟩
  ·cases e
 ·cases e
def zpr (K:PySem.W.Frag):R2:=fun x y H Q=>∃ l b xs zs,x=.ref l/\y=.ref b/\SqL K H l xs/\SqL K H b zs/\xs.length+zs.length<=sizeLine/\∀ p,H p=none->Q (.ref p) (upd H p (.lst (xs ++ zs)))
theorem zm7:OpR X (binaryOp .Add) (zpr X.K):=by
 intro pins s σ H x y v u Q I rx ry h
 obtain ⟨l,b,xs,zs,rfl,rfl,hH,hB,hz,q⟩:=h
 cases rx
 cases ry
 obtain ⟨its,r,⟨⟨c1,d1,t1,s1⟩,n1,e1,ec1,ed1,et1⟩,z1⟩:=I.list hH
 obtain ⟨its2,r2,⟨⟨c2,d2,t2,s2⟩,n2,e2,ec2,ed2,et2⟩,z2⟩:=I.list hB
 simp only at ec1 ed1 et1 ec2 ed2 et2
 subst ec1 ed1 et1 ec2 ed2 et2
 have hl:=r.length
 have hl2:=r2.length
 refine concat_meets ⟨_,e1,rfl⟩ ⟨_,e2,rfl⟩ noFill_list_add seq_list_add PySem.F.slot_list_add PySem.F.entry_list_add (PySem.F.args_list_add_2 _ _) (list_addW l b its.toArray its2.toArray n1 n2 none none s1 s2 (by rw [List.size_toArray,List.size_toArray];omega)) ⟨e1,e2,?_⟩
 have ea:its.toArray ++ its2.toArray=(its ++ its2).toArray:=by simp
 rw [ea]
 exact ⟨.ref _,_,I.lnew (t':=s.toks) (r.append r2) (by rw [List.length_append];omega),rfl,q _ I.fresh⟩
theorem zps (a:Int) (t:Tok) (l:Addr) (items:Array Value) (n:Nat) (sl:Array (Option Value)) :
  Meets (Builtin.«int.__rmul__» ⟨[.int a t,.ref l],[]⟩) (fun _ R s=>s.heap.get? l=some { cls:=.type "list", dict:=none,data:=.seq items n,slots:=sl }/\R (.ok (.ret Value.notImplemented)) s) :=
 .of_wp fun prog w A R s h=>by obtain ⟨hp,g,d,tk,os⟩:=s;obtain ⟨hl,h⟩:=h;wp_walk;exact ⟨_,rfl,h⟩
theorem mulW (l:Addr) (items:Array Value) (n:Nat) (x:Int) (u:Tok) (sl:Array (Option Value)) (hc0 : ¬(!Builtin.List.listFitsIndex x)=true) (hc1 : ¬items.size * x.toNat > (2 ^ 63 - 1) / 8) (hc2 : ¬Builtin.List.listTooLong (items.size * x.toNat)=true) :
  Meets (Builtin.«list.__mul__» ⟨[.ref l,.int x u],[]⟩) (fun _ R s=>s.heap.get? l=some { cls:=.type "list", dict:=none,data:=.seq items n,slots:=sl }/\R (.ok (.ret (Value.ref s.heap.objs.size))) { s with heap:=s.heap.push { cls:=Value.type "list", data:=Data.seq (List.foldl (fun x1 x2=>x1 ++ x2) #[] (List.replicate (if items.isEmpty=true then 0 else x.toNat) items)) },toks:=s.toks }) :=
 .of_wp fun prog w A R s h=>by
  obtain ⟨hp,g,d,tk,os⟩:=s;obtain ⟨hl,h⟩:=h
  have hsz:=AutoListH.joined_fits hc2
  wp_walk;refine wpAny_ite_false (decide_eq_false (Nat.not_lt.mpr hsz)) ?_;wp_walk;exact ⟨_,rfl,h⟩
def zpt (K:PySem.W.Frag):R2:=fun x y H Q=>∃ l k xs,x=.ref l/\y=.int k/\SqL K H l xs /\ -(2 ^ 63)<=k/\k < 2 ^ 63/\xs.length * k.toNat<=sizeLine /\
 ∀ p,H p=none->Q (.ref p) (upd H p (.lst (List.replicate k.toNat xs).flatten))
theorem zjA:OpR X (binaryOp .Mult) (zpt X.K):=by
 intro pins s σ H x y v u Q I rx ry h
 obtain ⟨l,k,xs,rfl,rfl,hH,h1,h2,hz,q⟩:=h
 cases rx
 obtain ⟨t,rfl⟩:=ry
 obtain ⟨its,r,⟨⟨c1,d1,t1,sl⟩,n,e,ec1,ed1,et1⟩,z⟩:=I.list hH
 simp only at ec1 ed1 et1
 subst ec1 ed1 et1
 have hl:=r.length
 have hlen:its.toArray.size * k.toNat<=sizeLine:=by rw [List.size_toArray,← hl];exact hz
 have hcap : ¬ its.toArray.size * k.toNat > (2 ^ 63 - 1) / 8:=by
  have:(sizeLine:Nat)<=(2 ^ 63 - 1) / 8:=by decide
  omega
 have hfit : ¬ (!Builtin.List.listFitsIndex k)=true:=by
  rw [fitsIndex_both h1 h2]
  exact Bool.false_ne_true
 have hlong : ¬ Builtin.List.listTooLong (its.toArray.size * k.toNat)=true:=by
  rw [zlu hlen]
  exact Bool.false_ne_true
 have hnew:List.foldl (fun x1 x2=>x1 ++ x2) #[] (List.replicate (if its.toArray.isEmpty=true then 0 else k.toNat) its.toArray)=(List.replicate k.toNat its).flatten.toArray:=by
  have f0:∀ m:Nat,List.foldl (fun x1 x2=>x1 ++ x2) #[] (List.replicate m its.toArray)=(List.replicate m its).flatten.toArray:=fun m=>by
   have:=zgf its m []
   rw [List.nil_append] at this
   exact this
  rw [f0]
  cases its with
  | nil=>simp
  | cons a r'=>rw [if_neg (by simp)]
 refine wpAny_binaryOp_repeat_ref (T := "list") (U := "int") (by decide) ⟨_,e,rfl⟩ (fun s'=>typeIs_int s' k t) noFill_list_mul F.fills_int_mul F.slot_int_rmul repeat_list F.slot_int_index.lookup
  (call_meets F.slot_int_rmul (typeIs_int s k t) F.entry_int_rmul (F.args_int_rmul_2 _ _) (zps k t l its.toArray n sl)
   ⟨e,rfl,⟨_,e,rfl⟩,call_meets F.slot_list_mul ⟨_,e,rfl⟩ F.entry_list_mul (F.args_list_mul_2 _ _) (mulW l its.toArray n k t sl hfit hcap hlong) ⟨e,?_⟩⟩)
 rw [hnew]
 exact ⟨.ref _,_,I.lnew (t':=s.toks) (r.rep k.toNat) (by rw [zm2,Nat.mul_comm];exact hz),rfl,q _ I.fresh⟩
def zlz:D->D->Option D
 | .list x,.list y=>if x.length+y.length<=1000000 then some (.list (x ++ y)) else none
 | _,_=>none
theorem zm8:OpD X (binaryOp .Add) zlz:=by
 refine ⟨_,zm7,fun v u G H x y d Q s rx ry e k=>?_⟩
 unfold zlz at e
 split at e
 ·split at e
  ·rename_i c
   cases e
   obtain ⟨l,vs,rfl,h1,r1⟩:=rx.lst_inv
   obtain ⟨b,ws,rfl,h2,r2⟩:=ry.lst_inv
   refine ⟨l,b,vs,ws,rfl,rfl,s.seq h1,s.seq h2,by rw [r1.length,r2.length];exact Nat.le_trans c lim,fun p hp=>k _ _ _ (Ext.new s hp) ?_⟩
   exact .lst (SqL.of zaL) ((r1.append r2).mono (zaM (s.free hp)))
  ·cases e
 ·cases e
theorem Reps.rep {K:PySem.W.Frag} {G:Hp} {vs:List V} {ds:List D} (r:Reps K G vs ds):∀ n:Nat,Reps K G (List.replicate n vs).flatten (List.replicate n ds).flatten
 | 0=>.nil
 | n+1=>by rw [List.replicate_succ,List.replicate_succ,List.flatten_cons,List.flatten_cons];exact r.append (r.rep n)
def zlA:D->D->Option D
 | .list x,.int k=>if -1000000<=k/\k<=1000000/\x.length * k.toNat<=1000000 then some (.list (List.replicate k.toNat x).flatten) else none
 | _,_=>none
theorem zm9:OpD X (binaryOp .Mult) zlA:=by
 refine ⟨_,zjA,fun v u G H x y d Q s rx ry e k=>?_⟩
 unfold zlA at e
 split at e
 ·split at e
  ·rename_i c
   cases e
   obtain ⟨l,vs,rfl,h1,r1⟩:=rx.lst_inv
   refine ⟨l,_,vs,rfl,ry.int_inv,s.seq h1,by omega,by omega,by rw [r1.length];exact Nat.le_trans c.2.2 lim,fun p hp=>k _ _ _ (Ext.new s hp) ?_⟩
   exact .lst (SqL.of zaL) ((r1.rep _).mono (zaM (s.free hp)))
  ·cases e
 ·cases e
def oAdd:D->D->Option D
 | .int i,.int j=>some (.int (i+j))
 | .str x,.str y=>if x.length+y.length<=1000000 then some (.str (x ++ y)) else none
 | .list x,.list y=>if x.length+y.length<=1000000 then some (.list (x ++ y)) else none
 | _,_=>none
def oSub:D->D->Option D
 | .int i,.int j=>some (.int (i - j))
 | _,_=>none
def oMul:D->D->Option D
 | .int i,.int j=>gMul i j
 | .list x,.int k=>if -1000000<=k/\k<=1000000/\x.length * k.toNat<=1000000 then some (.list (List.replicate k.toNat x).flatten) else none
 | _,_=>none
def oMod:D->D->Option D
 | .int i,.int j=>gMod i j
 | _,_=>none
def oDiv:D->D->Option D
 | .int i,.int j=>gDiv i j
 | _,_=>none
def oPow:D->D->Option D
 | .int i,.int j=>gPow i j
 | _,_=>none
theorem OpD.congr {f:Value->Value->Sem Value} {p q:D->D->Option D} (h:OpD X f p) (e:∀ x y,q x y=p x y):OpD X f q:=by
 have:q=p:=by funext x y;exact e x y
 rw [this];exact h
theorem zbh:OpD X (binaryOp .Add) oAdd:=(zoj.or (zm6.or zm8)).congr fun x y=>by cases x <;> cases y <;> first | rfl | (simp only [oAdd,oII,zly,zlz,Option.orElse];done) | (simp only [oAdd,oII,zly,zlz,Option.orElse];split <;> rfl)
theorem zlB:OpD X (binaryOp .Sub) oSub:=zok.congr fun x y=>by cases x <;> cases y <;> rfl
theorem zdp:OpD X (binaryOp .Mult) oMul:=(zm5.or zm9).congr fun x y=>by
 cases x <;> cases y <;> first | rfl | (simp only [oMul,oII,zlA,Option.orElse];done) | (simp only [oMul,oII,zlA,Option.orElse];split <;> first | rfl | assumption)
theorem zei:OpD X (binaryOp .Mod) oMod:=zol.congr fun x y=>by cases x <;> cases y <;> rfl
theorem zoo:OpD X (binaryOp .FloorDiv) oDiv:=zom.congr fun x y=>by cases x <;> cases y <;> rfl
theorem zop:OpD X (binaryOp .Pow) oPow:=zon.congr fun x y=>by cases x <;> cases y <;> rfl
end
section
variable {X:Cx} {B G0:Hp} {e a b c:Expr} {pos:Pos}
def OpB (X:Cx) (f:Value->Value->Sem Value) (op:D->D->Option Bool):Prop :=
 ∃ r:R2,OpR X f r/\∀ v u G H x y d Q,Same G H->Rep X.K G v x->Rep X.K G u y->op x y=some d->Q (.bl d) H->r v u H Q
theorem OpB.or {f:Value->Value->Sem Value} {p q:D->D->Option Bool} (h:OpB X f p) (h':OpB X f q):OpB X f (fun x y=>(p x y).orElse fun _=>q x y):=by
 obtain ⟨r,h1,i1⟩:=h
 obtain ⟨r',h2,i2⟩:=h'
 refine ⟨_,h1.or h2,fun v u G H x y d Q s rx ry e k=>?_⟩
 dsimp only at e
 cases z:p x y with
 | some d' =>
  rw [z] at e
  have e':d'=d:=Option.some.inj e
  subst e'
  exact .inl (i1 v u G H x y d' Q s rx ry z k)
 | none =>
  rw [z] at e
  exact .inr (i2 v u G H x y d Q s rx ry e k)
theorem OpB.congr {f:Value->Value->Sem Value} {p q:D->D->Option Bool} (h:OpB X f p) (e:∀ x y,q x y=p x y):OpB X f q:=by
 have:q=p:=by funext x y;exact e x y
 rw [this];exact h
theorem za7 {op:CmpOp} {p:D->D->Option Bool} {f g:M D} (o:OpB X (compareOp op) p) (ha:PE X a (tD X.K B G0 f)) (hb:PE X b (tD X.K B G0 g)) (hm:behindInMarks op b=false) :
  PT X (.Compare a [op] [b] pos) (tBo X.K B G0 (dBin p f g)):=by
 obtain ⟨r,h,i⟩:=o
 refine ptof (zjo h ha hb hm) fun σ H Q q=>?_
 refine tM.two q fun v u H2 G ρ x y k rx ry a=>?_
 obtain ⟨d,e,a⟩:=a.opt
 exact i v u G H2 x y d _ k.gh rx ry e ⟨d,rfl,a.now k rfl⟩
def mMap {α β : Type} (h : α -> β) (f:M α):M β:=zas f fun x=>zah (h x)
theorem tM.map {K:PySem.W.Frag} {α β γ δ : Type} {R:Hp -> γ -> α -> Prop} {S:Hp -> δ -> β -> Prop} {σ : St} {H:Hp} {h : α -> β} {f:M α} {Q : δ -> Hp->Prop} (j : γ -> δ) (q:tM K B G0 S (mMap h f) σ H Q)
  (i:∀ G v x,R G v x->S G (j v) (h x)):tM K B G0 R f σ H (fun v H'=>Q (j v) H') :=
 tM.one (R:=R) (f:=f) q fun v H2 G ρ x k r a=>aft.now (show aft K B G0 S (.ok (h x) ρ) G σ Q from a) k (i G v x r)
theorem tBo.val {K:PySem.W.Frag} {σ : St} {H:Hp} {f:M Bool} {Q:VK} (q:tD K B G0 (mMap PyData.bool f) σ H Q):tBo K B G0 f σ H (fun b H'=>Q (.bl b) H') :=
 tM.map (R:=fun _ b c=>b=c) V.bl q fun G v x e=>by rw [e];exact .bl x
theorem zna {op:CmpOp} {p:D->D->Option Bool} {f g:M D} (o:OpB X (compareOp op) p) (ha:PE X a (tD X.K B G0 f)) (hb:PE X b (tD X.K B G0 g)) (hm:behindInMarks op b=false) :
  PE X (.Compare a [op] [b] pos) (tD X.K B G0 (mMap PyData.bool (dBin p f g))):=by
 obtain ⟨r,h,i⟩:=o
 refine peof (zjn h ha hb hm) fun σ H Q q=>?_
 refine tM.two (tBo.val q) fun v u H2 G ρ x y k rx ry a=>?_
 obtain ⟨d,e,a⟩:=a.opt
 exact i v u G H2 x y d _ k.gh rx ry e (a.now k rfl)
def zeD (p q:D->D->Option Bool) (f g h:M D):M Bool:=zas f fun x=>zas g fun y=>zas (mOpt (p x y)) fun t=>if t=true then zas h fun z=>mOpt (q y z) else zah false
theorem zgi {op op':CmpOp} {p q:D->D->Option Bool} {f g h:M D} (o:OpB X (compareOp op) p) (o':OpB X (compareOp op') q) (ha:PE X a (tD X.K B G0 f)) (hb:PE X b (tD X.K B G0 g)) (hc:PE X c (tD X.K B G0 h))
  (hm:lastMarks [op,op'] [b,c]=false:=by with_unfolding_all rfl):PT X (.Compare a [op,op'] [b,c] pos) (tBo X.K B G0 (zeD p q f g h)):=by
 obtain ⟨r,h1,i⟩:=o
 obtain ⟨r',h2,i'⟩:=o'
 refine ptof (zlr h1 h2 ha hb hc hm) fun σ H Q w=>?_
 refine tM.two w fun v u H2 G ρ x y k rx ry a=>?_
 cases z:p x y with
 | none=>rw [z] at a;exact a.elim
 | some t =>
  rw [z] at a
  refine i v u G H2 x y t _ k.gh rx ry z ⟨t,rfl,?_⟩
  cases t with
  | false =>
   rw [if_neg Bool.false_ne_true]
   exact ⟨false,rfl,aft.now a k rfl⟩
  | true =>
   rw [if_pos rfl]
   refine ⟨G,ρ,k,?_⟩
   have a4:aft X.K B G0 (fun _ (b:Bool) c=>b=c) ((zas h fun z=>mOpt (q y z)) ρ) G σ Q:=a
   unfold zas at a4
   cases z2:h ρ with
   | bad=>rw [z2] at a4;exact a4.elim
   | ok d ρ1 =>
    rw [z2] at a4
    intro w G5 H5 k5 s5 r5
    obtain ⟨t2,e2,a6⟩:=a4.opt
    exact i' u w G5 H5 y d t2 _ k5.gh (ry.mono s5) r5 e2 ⟨t2,rfl,a6 t2 G5 H5 k5 s5 rfl⟩
theorem zjB {op op':CmpOp} {p q:D->D->Option Bool} {f g h:M D} (o:OpB X (compareOp op) p) (o':OpB X (compareOp op') q) (ha:PE X a (tD X.K B G0 f)) (hb:PE X b (tD X.K B G0 g)) (hc:PE X c (tD X.K B G0 h))
  (hm:lastMarks [op,op'] [b,c]=false:=by with_unfolding_all rfl):PE X (.Compare a [op,op'] [b,c] pos) (tD X.K B G0 (mMap PyData.bool (zeD p q f g h))):=by
 obtain ⟨r,h1,i⟩:=o
 obtain ⟨r',h2,i'⟩:=o'
 refine peof (zlq h1 h2 ha hb hc hm) fun σ H Q w=>?_
 refine tM.two (tBo.val w) fun v u H2 G ρ x y k rx ry a=>?_
 cases z:p x y with
 | none=>rw [z] at a;exact a.elim
 | some t =>
  rw [z] at a
  refine i v u G H2 x y t _ k.gh rx ry z ⟨t,rfl,?_⟩
  cases t with
  | false =>
   rw [if_neg Bool.false_ne_true]
   exact aft.now (v:=false) a k rfl
  | true =>
   rw [if_pos rfl]
   refine ⟨G,ρ,k,?_⟩
   have a4:aft X.K B G0 (fun _ (b:Bool) c=>b=c) ((zas h fun z=>mOpt (q y z)) ρ) G σ (fun b H'=>Q (.bl b) H'):=a
   unfold zas at a4
   cases z2:h ρ with
   | bad=>rw [z2] at a4;exact a4.elim
   | ok d ρ1 =>
    rw [z2] at a4
    intro w G5 H5 k5 s5 r5
    obtain ⟨t2,e2,a6⟩:=a4.opt
    exact i' u w G5 H5 y d t2 _ k5.gh (ry.mono s5) r5 e2 (a6 t2 G5 H5 k5 s5 rfl)
def oIB (g:Int->Int->Bool):D->D->Option Bool
 | .int i,.int j=>some (g i j)
 | _,_=>none
theorem OpB.int {f:Value->Value->Sem Value} {g:Int->Int->Bool} (h:OpR X f (rI0 fun i j=>.bl (g i j))):OpB X f (oIB g):=by
 refine ⟨_,h,fun v u G H x y d Q s rx ry e k=>?_⟩
 unfold oIB at e
 split at e
 ·cases e
  exact ⟨_,_,rx.int_inv,ry.int_inv,k⟩
 ·cases e
theorem B_lt:OpB X (compareOp .Lt) (oIB fun i j=>decide (i < j)):=.int zpg
theorem B_le:OpB X (compareOp .LtE) (oIB fun i j=>decide (i<=j)):=.int zph
theorem B_gt:OpB X (compareOp .Gt) (oIB fun i j=>decide (j < i)):=.int zpi
theorem B_ge:OpB X (compareOp .GtE) (oIB fun i j=>decide (j<=i)):=.int zpj
mutual
theorem zbr {pins:List (Addr × Obj)} {s:Shared} {σ : St} {G H:Hp} (I:Inv X pins σ H s) (sg:Same G H):∀ {v:V} {d:D} {u:Value},Rep X.K G v d->RelV v u->d.canLay0=true->∃ as,Reads s.heap u d as
 | _,_,_,.non,r,_=>by cases r;exact ⟨_,.none⟩
 | _,_,_,.bl b,r,_=>by cases r;exact ⟨_,.bool b⟩
 | _,_,_,.int i,r,_=>by obtain ⟨t,rfl⟩:=r;exact ⟨_,.int i t⟩
 | _,_,_,.str x,r,_=>by obtain ⟨t,rfl⟩:=r;exact ⟨_,.str x t⟩
 | _,_,_,.lst h q,r,c=>by
  cases r
  obtain ⟨its,rv,⟨o,n,e,hc,_,hd⟩,hz⟩:=I.list (sg.seq h)
  obtain ⟨as,ra⟩:=readsAll_of I sg q rv (show PyData.canLayAll0 _=true by simpa [PyData.canLay0] using c)
  exact ⟨_,.list e hc hd (by simpa using ra)⟩
 | _,_,_,.tup h q,r,c=>by
  cases r
  obtain ⟨its,rv,p,hz⟩:=I.tuple (zdu sg h)
  obtain ⟨o,e,hc,n,hd⟩:=p
  obtain ⟨as,ra⟩:=readsAll_of I sg q rv (show PyData.canLayAll0 _=true by simpa [PyData.canLay0] using c)
  exact ⟨_,.tuple e hc hd (by simpa using ra)⟩
 | _,_,_,.dic h,r,c=>by simp [PyData.canLay0] at c
 | _,_,_,.exc _ _ _ _,r,c=>by simp [PyData.canLay0] at c
 | _,_,_,.dct _ _ _ _ _,r,c=>by simp [PyData.canLay0] at c
 | _,_,_,.dtt _ _ _ _,r,c=>by simp [PyData.canLay0] at c
theorem readsAll_of {pins:List (Addr × Obj)} {s:Shared} {σ : St} {G H:Hp} (I:Inv X pins σ H s) (sg:Same G H):∀ {vs:List V} {ds:List D} {us:List Value},Reps X.K G vs ds->Vals vs us->PyData.canLayAll0 ds=true->∃ as,ReadsAll s.heap us ds as
 | _,_,_,.nil,r,_=>by cases r;exact ⟨_,.nil⟩
 | _,_,_,.cons h t,r,c=>by
  cases r with
  | cons r1 r2 =>
   have c':=c
   rw [PyData.canLayAll0,Bool.and_eq_true] at c'
   obtain ⟨as,ra⟩:=zbr I sg h r1 c'.1
   obtain ⟨bs,rb⟩:=readsAll_of I sg t r2 c'.2
   exact ⟨_,.cons ra rb⟩
end
def oEq (x y:D):Option Bool:=if x.canLay0=true/\y.canLay0=true/\x.depth<=60 then some (PyData.eqv x y) else none
def oNe (x y:D):Option Bool:=if x.canLay0=true/\y.canLay0=true/\x.depth<=60 then some (!PyData.eqv x y) else none
theorem B_eq (hu:X.A.units+64 < cLine):OpB X (compareOp .Eq) oEq:=by
 refine ⟨fun v u H Q=>∃ G x y d,Same G H/\Rep X.K G v x/\Rep X.K G u y/\oEq x y=some d/\Q (.bl d) H,?_,fun v u G H x y d Q s rx ry e k=>⟨G,x,y,d,s,rx,ry,e,k⟩⟩
 intro pins s σ H x y v u Q I rx ry ⟨G,dx,dy,d,sg,px,py,e,q⟩
 unfold oEq at e
 split at e
 ·rename_i c
  cases e
  obtain ⟨as,ra⟩:=zbr I sg px rx c.1
  obtain ⟨bs,rb⟩:=zbr I sg py ry c.2.1
  exact SeqAt.compareEq_reads ra rb c.1 c.2.1 (by have:=c.2.2;omega) ⟨.bl _,H,I,rfl,q⟩
 ·cases e
theorem B_ne (hu:X.A.units+64 < cLine):OpB X (compareOp .NotEq) oNe:=by
 refine ⟨fun v u H Q=>∃ G x y d,Same G H/\Rep X.K G v x/\Rep X.K G u y/\oNe x y=some d/\Q (.bl d) H,?_,fun v u G H x y d Q s rx ry e k=>⟨G,x,y,d,s,rx,ry,e,k⟩⟩
 intro pins s σ H x y v u Q I rx ry ⟨G,dx,dy,d,sg,px,py,e,q⟩
 unfold oNe at e
 split at e
 ·rename_i c
  cases e
  obtain ⟨as,ra⟩:=zbr I sg px rx c.1
  obtain ⟨bs,rb⟩:=zbr I sg py ry c.2.1
  exact SeqAt.compareNe_reads ra rb c.1 c.2.1 (by have:=c.2.2;omega) ⟨.bl _,H,I,rfl,q⟩
 ·cases e
def isNon:D->Bool
 | .none=>true
 | _=>false
theorem Rep.isNon {K:PySem.W.Frag} {G:Hp} {v:V} {d:D} (r:Rep K G v d):DL.isNon d=decide (v=.non):=by
 cases r <;> simp [DL.isNon]
end
section
variable {X:Cx} {B G0:Hp} {e a b c:Expr} {pos:Pos} {es rest:List Expr}
theorem tM.nx {K:PySem.W.Frag} {α β γ δ : Type} {R:Hp -> γ -> α -> Prop} {S:Hp -> δ -> β -> Prop} {σ : St} {G H:Hp} {ρ : DEnv} {f:M α} {g : α -> M β} {Q : δ -> Hp->Prop} {P : γ -> Hp->Prop}
  (k:EOk K B G0 G H σ ρ) (a:aft K B G0 S (zas f g ρ) G σ Q) (i:∀ v H' G' ρ' x,EOk K B G0 G' H' σ ρ'->Same G G'->R G' v x->aft K B G0 S (g x ρ') G' σ Q->P v H'):tM K B G0 R f σ H P:=by
 refine ⟨G,ρ,k,?_⟩
 unfold zas at a
 cases q:f ρ with
 | bad=>rw [q] at a;exact a.elim
 | ok d ρ1 =>
  rw [q] at a
  exact fun v G' H' e s r=>i v H' G' ρ1 d e s r (aft.mono s a)
def mAnd (f g:M Bool):M Bool:=zas f fun t=>if t=true then g else zah false
def mOr (f g:M Bool):M Bool:=zas f fun t=>if t=true then zah true else g
def mNot (f:M Bool):M Bool:=mMap (fun t=>!t) f
theorem znb {K:PySem.W.Frag} {f g:M Bool} {σ : St} {H:Hp} {Q:Bool->Hp->Prop} (q:tBo K B G0 (mAnd f g) σ H Q):tAnd (tBo K B G0 f) (tBo K B G0 g) σ H Q :=
 tM.one (R:=fun _ b c=>b=c) q fun v H2 G ρ x k r a=>by
  have r:v=x:=r
  subst r
  cases v with
  | true=>exact ⟨G,ρ,k,a⟩
  | false=>exact aft.now (v:=false) a k rfl
theorem zoq {K:PySem.W.Frag} {f g:M Bool} {σ : St} {H:Hp} {Q:Bool->Hp->Prop} (q:tBo K B G0 (mOr f g) σ H Q):tOr (tBo K B G0 f) (tBo K B G0 g) σ H Q :=
 tM.one (R:=fun _ b c=>b=c) q fun v H2 G ρ x k r a=>by
  have r:v=x:=r
  subst r
  cases v with
  | false=>exact ⟨G,ρ,k,a⟩
  | true=>exact aft.now (v:=true) a k rfl
theorem pwof {t t':TT} (h:PW X e t) (i:∀ σ H Q,t' σ H Q->t σ H Q):PW X e t':=fun wh pins s σ H Q I q=>h wh pins s σ H Q I (i σ H Q q)
theorem zc9 {f:M Bool} (ha:PT X a (tBo X.K B G0 f)):PW X (.BoolOp .And [a] pos) (tBo X.K B G0 f):=zmP ha
theorem zb9 {f:M Bool} (ha:PT X a (tBo X.K B G0 f)):PW X (.BoolOp .Or [a] pos) (tBo X.K B G0 f):=znN ha
theorem zdY {f g:M Bool} (ha:PT X a (tBo X.K B G0 f)) (hb:PW X (.BoolOp .And (b :: rest) pos) (tBo X.K B G0 g)):PW X (.BoolOp .And (a :: b :: rest) pos) (tBo X.K B G0 (mAnd f g)):=pwof (znO ha hb) fun _ _ _ q=>znb q
theorem zct {f g:M Bool} (ha:PT X a (tBo X.K B G0 f)) (hb:PW X (.BoolOp .Or (b :: rest) pos) (tBo X.K B G0 g)):PW X (.BoolOp .Or (a :: b :: rest) pos) (tBo X.K B G0 (mOr f g)):=pwof (zo5 ha hb) fun _ _ _ q=>zoq q
theorem zbF {f:M Bool} (ha:PT X a (tBo X.K B G0 f)):PT X (.UnaryOp .Not a pos) (tBo X.K B G0 (mNot f)):=ptof (znP ha) fun σ H Q q=>tM.map (R:=fun _ b c=>b=c) (fun t=>!t) q fun _ v x e=>by rw [e]
def zbN (f:M D):M Bool:=zas f fun x=>match x with | .bool t=>zah t | _=>fun _=>.bad
theorem zbG {f:M D} (h:PE X e (tD X.K B G0 f)) (he:∀ whole,isTrue e X.env whole=(do let v ← whole;standAt e.pos;holding [v] (truthy v)):=by intro _;rfl):PT X e (tBo X.K B G0 (zbN f)) :=
 ptof (znM h he) fun σ H Q q=>tM.one (R:=Rep X.K) q fun v H2 G ρ x k r a=>by
  cases x with
  | bool t=>exact ⟨t,r.bl_inv,aft.now (v:=t) a k rfl⟩
  | _=>exact a.elim
def ziw (f g:M D):M D:=zas f fun x=>match x with | .bool true=>g | .bool false=>zah (.bool false) | _=>fun _=>.bad
def mOrV (f g:M D):M D:=zas f fun x=>match x with | .bool true=>zah (.bool true) | .bool false=>g | _=>fun _=>.bad
def zjC (f:M D):M D:=zas f fun x=>match x with | .bool t=>zah (.bool (!t)) | _=>fun _=>.bad
theorem zhc {f g:M D} (ha:PE X a (tD X.K B G0 f)) (hb:PE X (.BoolOp .And (b :: rest) pos) (tD X.K B G0 g)):PE X (.BoolOp .And (a :: b :: rest) pos) (tD X.K B G0 (ziw f g)) :=
 peof (znR ha hb) fun σ H Q q=>tM.one (R:=Rep X.K) q fun v H2 G ρ x k r a=>by
  cases x with
  | bool t =>
   refine ⟨t,r.bl_inv,?_⟩
   cases t with
   | true=>exact ⟨G,ρ,k,a⟩
   | false=>exact aft.now a k (.bl false)
  | _=>exact a.elim
theorem zor {f g:M D} (ha:PE X a (tD X.K B G0 f)) (hb:PE X (.BoolOp .Or (b :: rest) pos) (tD X.K B G0 g)):PE X (.BoolOp .Or (a :: b :: rest) pos) (tD X.K B G0 (mOrV f g)) :=
 peof (zo8 ha hb) fun σ H Q q=>tM.one (R:=Rep X.K) q fun v H2 G ρ x k r a=>by
  cases x with
  | bool t =>
   refine ⟨t,r.bl_inv,?_⟩
   cases t with
   | false=>exact ⟨G,ρ,k,a⟩
   | true=>exact aft.now a k (.bl true)
  | _=>exact a.elim
theorem zfC {op} {f:M D} (h:PE X a (tD X.K B G0 f)):PE X (.BoolOp op [a] pos) (tD X.K B G0 f):=znQ h
theorem zjD {f:M D} (ha:PE X a (tD X.K B G0 f)):PE X (.UnaryOp .Not a pos) (tD X.K B G0 (zjC f)) :=
 peof (znS ha) fun σ H Q q=>tM.one (R:=Rep X.K) q fun v H2 G ρ x k r a=>by
  cases x with
  | bool t=>exact ⟨t,r.bl_inv,aft.now a k (.bl _)⟩
  | _=>exact a.elim
def mIf {α : Type} (f:M Bool) (g h:M α):M α:=zas f fun t=>if t=true then g else h
theorem zgj {f:M Bool} {g h:M D} (hc:PT X c (tBo X.K B G0 f)) (ha:PE X a (tD X.K B G0 g)) (hb:PE X b (tD X.K B G0 h)):PE X (.IfExp c a b pos) (tD X.K B G0 (mIf f g h)) :=
 peof (zll hc ha hb) fun σ H Q q=>tM.one (R:=fun _ b c=>b=c) q fun v H2 G ρ x k r a=>by
  have r:v=x:=r
  subst r
  cases v with
  | true=>exact ⟨G,ρ,k,a⟩
  | false=>exact ⟨G,ρ,k,a⟩
theorem zjE {f:M D} {j p2} (ha:PE X a (tD X.K B G0 f)):PT X (.Compare a [.Is] [.Constant .none j p2] pos) (tBo X.K B G0 (mMap isNon f)) :=
 ptof (zmr (znL ha)) fun σ H Q q=>tM.one (R:=Rep X.K) q fun v H2 G ρ x k r a=>⟨_,rfl,aft.now a k (by rw [r.isNon])⟩
theorem zda {f:M D} {j p2} (ha:PE X a (tD X.K B G0 f)):PT X (.Compare a [.IsNot] [.Constant .none j p2] pos) (tBo X.K B G0 (mMap (fun d=>!isNon d) f)) :=
 ptof (zmr (zmO ha)) fun σ H Q q=>tM.one (R:=Rep X.K) q fun v H2 G ρ x k r a=>⟨_,rfl,aft.now a k (by dsimp only;rw [r.isNon])⟩
def mNil:M (List D):=zah []
def zae (f:M D) (g:M (List D)):M (List D):=zas f fun x=>zas g fun xs=>zah (x :: xs)
theorem zaf:PA X [] (tDs X.K B G0 mNil):=paof zex fun σ H Q ⟨G,ρ,k,a⟩=>aft.now a k .nil
theorem tM.twoA {K:PySem.W.Frag} {σ : St} {H:Hp} {f:M D} {g:M (List D)} {β δ : Type} {S:Hp -> δ -> β -> Prop} {k:D->List D->M β} {Q : δ -> Hp->Prop} {P:V->List V->Hp->Prop}
  (h:tM K B G0 S (zas f fun x=>zas g fun y=>k x y) σ H Q)
  (i:∀ v u H2 G ρ x y,EOk K B G0 G H2 σ ρ -> Rep K G v x->Reps K G u y->aft K B G0 S (k x y ρ) G σ Q->P v u H2) :
  tD K B G0 f σ H (fun v H1=>tDs K B G0 g σ H1 fun u H2=>P v u H2):=by
 obtain ⟨G,ρ,e,a⟩:=tM.bind2 (R:=Rep K) (R':=Reps K) zjx h
 refine ⟨G,ρ,e,?_⟩
 cases q:f ρ with
 | bad=>rw [q] at a;exact a.elim
 | ok d ρ1 =>
  rw [q] at a
  intro v G' H' e' s r
  obtain ⟨x,G2,ρ2,e2,a2⟩:=a v G' H' e' s r
  refine ⟨G2,ρ2,e2,?_⟩
  cases q2:g ρ2 with
  | bad=>rw [q2] at a2;exact a2.elim
  | ok d3 ρ3 =>
   rw [q2] at a2
   intro u G3 H3 e3 s3 r3
   obtain ⟨G4,ρ4,y,e4,r4,r5,a5⟩:=a2 u G3 H3 e3 s3 r3
   exact i v u H3 G4 ρ4 x y e4 r4 r5 a5
theorem zaa {f:M D} {g:M (List D)} (ha:PE X e (tD X.K B G0 f)) (hr:PA X es (tDs X.K B G0 g)) (hs:starEach (e :: es) X.env=(false,eval e X.env) :: starEach es X.env:=by rfl) :
  PA X (e :: es) (tDs X.K B G0 (zae f g)):=paof (zcL ha hr hs) fun σ H Q q=>tM.twoA q fun v u H2 G ρ x y k r1 r2 a=>aft.now a k (.cons r1 r2)
def mTup (f:M (List D)):M D:=zas f fun xs=>if xs.length<=1000000 then zah (.tuple xs) else fun _=>.bad
def mLst (f:M (List D)):M D:=zas f fun xs=>if xs.length<=1000000 then zah (.list xs) else fun _=>.bad
theorem zci {x1} {f:M (List D)} (h:PA X es (tDs X.K B G0 f)):PE X (.Tuple es x1 pos) (tD X.K B G0 (mTup f)) :=
 peof (zn8 h) fun σ H Q q=>tM.one (R:=Reps X.K) q fun v H2 G ρ x k r a=>by
  split at a
  ·rename_i c
   refine ⟨by rw [r.length];exact Nat.le_trans c lim,fun p hp=>?_⟩
   exact aft.done a k (Ext.new k.gh hp) (.tup (SqT.of zaL) (r.mono (zaM (k.gh.free hp))))
  ·exact a.elim
theorem zaX {f:M (List D)} (h:PA X es (tDs X.K B G0 f)):PE X (.List es pos) (tD X.K B G0 (mLst f)) :=
 peof (zmv h) fun σ H Q q=>tM.one (R:=Reps X.K) q fun v H2 G ρ x k r a=>by
  split at a
  ·rename_i c
   refine ⟨by rw [r.length];exact Nat.le_trans c lim,fun p hp=>?_⟩
   exact aft.done a k (Ext.new k.gh hp) (.lst (SqL.of zaL) (r.mono (zaM (k.gh.free hp))))
  ·exact a.elim
def oIx:D->D->Option D
 | .list xs,.int i=>atI xs i
 | .tuple xs,.int i=>atI xs i
 | .str z,.int i=>if z.length<=1000000 then (atI z.cps.toList i).map fun c=>.str ⟨#[c]⟩ else none
 | _,_=>none
theorem Reps.atI {K:PySem.W.Frag} {G:Hp} {vs:List V} {ds:List D} {i:Int} {d:D} (r:Reps K G vs ds) (h:L2.atI ds i=some d):∃ v,L2.atI vs i=some v/\Rep K G v d:=by
 unfold L2.atI at h ⊢
 rw [r.length]
 cases z:ixN ds.length i with
 | none=>rw [z] at h;cases h
 | some j =>
  rw [z] at h
  exact r.get (i:=j) h
theorem zmx {K:PySem.W.Frag} {v u:V} {G H:Hp} {x y d:D} {Q:VK} (s:Same G H) (rx:Rep K G v x) (ry:Rep K G u y) (e:oIx x y=some d) (k:∀ w,Rep K G w d->Q w H):rIx K v u H Q:=by
 unfold oIx at e
 split at e
 ·obtain ⟨l,vs,rfl,h1,r1⟩:=rx.lst_inv
  obtain ⟨w,e1,r2⟩:=r1.atI e
  exact .inl ⟨l,vs,_,w,rfl,ry.int_inv,s.seq h1,e1,k w r2⟩
 ·obtain ⟨l,vs,rfl,h1,r1⟩:=rx.tup_inv
  obtain ⟨w,e1,r2⟩:=r1.atI e
  exact .inr (.inl ⟨l,vs,_,w,rfl,ry.int_inv,zdu s h1,e1,k w r2⟩)
 ·split at e
  ·rename_i z i hz
   cases q:L2.atI z.cps.toList i with
   | none=>rw [q] at e;cases e
   | some ch =>
    rw [q] at e
    cases e
    exact .inr (.inr ⟨z,i,ch,rx.str_inv,ry.int_inv,Nat.le_trans hz lim,q,k _ (.str _)⟩)
  ·cases e
 ·cases e
theorem zdl {f g:M D} (ha:PE X a (tD X.K B G0 f)) (hb:PE X b (tD X.K B G0 g)) (hs:zhb b):PE X (.Subscript a b pos) (tD X.K B G0 (dBin oIx f g)) :=
 peof (zoa zmw ha hb hs) fun σ H Q q=>tM.two q fun v u H2 G ρ x y k rx ry a=>by
  obtain ⟨d,e,a⟩:=a.opt
  exact zmx k.gh rx ry e fun w r=>a.now k r
def dIxN (i:Nat) (g:M D):M D:=fun ρ=>match ρ[i]? with
 | some (some (.pub d))=>(zas g fun y=>mOpt (oIx d y)) ρ
 | some (some (.own _))=>(zas g fun y=>fun ρ'=>match ρ'[i]? with | some (some (.own ds))=>mOpt (oIx (.list ds) y) ρ' | _=>.bad) ρ
 | _=>.bad
theorem zaq {i:Nat} {g:M D} (ha:PE X a (tVar i)) (hb:PE X b (tD X.K B G0 g)) (hs:zhb b):PE X (.Subscript a b pos) (tD X.K B G0 (dIxN i g)) :=
 peof (zoa zmw ha hb hs) fun σ H Q ⟨G,ρ,k,a⟩=>by
  unfold dIxN at a
  cases q : ρ[i]? with
  | none=>rw [q] at a;exact a.elim
  | some o =>
   cases o with
   | none=>rw [q] at a;exact a.elim
   | some sl =>
    cases sl with
    | deep _ _=>rw [q] at a;exact a.elim
    | pub d =>
     rw [q] at a
     obtain ⟨v,h1,h2⟩:=k.pub i d q
     refine ⟨v,h1,G,ρ,k,?_⟩
     dsimp only [zas] at a
     cases z:g ρ with
     | bad=>rw [z] at a;exact a.elim
     | ok y ρ1 =>
      rw [z] at a
      intro u G' H' k' s' r'
      obtain ⟨d',e',a'⟩:=aft.opt a
      exact zmx k'.gh (h2.mono s') r' e' fun w r=>a' w G' H' k' s' r
    | own ds =>
     rw [q] at a
     obtain ⟨ad,vs,h1,h2,h3,h4,h5⟩:=k.own i ds q
     refine ⟨.ref ad,h1,G,ρ,k,?_⟩
     dsimp only [zas] at a
     cases z:g ρ with
     | bad=>rw [z] at a;exact a.elim
     | ok y ρ1 =>
      rw [z] at a
      dsimp only at a
      intro u G' H' k' s' r'
      cases z2 : ρ1[i]? with
      | none=>rw [z2] at a;exact a.elim
      | some o2 =>
       cases o2 with
       | none=>rw [z2] at a;exact a.elim
       | some sl2 =>
        cases sl2 with
        | deep _ _=>rw [z2] at a;exact a.elim
        | pub d2=>rw [z2] at a;exact a.elim
        | own es2 =>
         rw [z2] at a
         obtain ⟨d',e',a'⟩:=aft.opt a
         obtain ⟨ad',vs',g1,g2,g3,g4,g5⟩:=k'.own i es2 z2
         rw [h1] at g1
         cases g1
         unfold oIx at e'
         cases y with
         | int j =>
          obtain ⟨w,e1,r2⟩:=g5.atI e'
          exact .inl ⟨ad,vs',j,w,rfl,r'.int_inv,SqL.of g4,e1,a' w G' H' k' s' r2⟩
         | _=>cases e'
def cutD (xs:List D) (lo hi:Option Int):List D:=(xs.drop (HT.sIx xs.length 0 lo)).take (HT.sIx xs.length xs.length hi - HT.sIx xs.length 0 lo)
theorem Reps.cut {K:PySem.W.Frag} {G:Hp} {vs:List V} {ds:List D} (r:Reps K G vs ds) (lo hi:Option Int):Reps K G (cutV vs lo hi) (cutD ds lo hi):=by
 unfold cutV cutD
 rw [r.length]
 exact (r.drop _).take _
def zcq:D->Option (Option Int)
 | .int i=>some (some i)
 | _=>none
theorem zcb:PO X none (tOi X.K B G0 (zah none)):=poof zmW fun σ H Q ⟨G,ρ,k,a⟩=>aft.now a k rfl
theorem zbs {f:M D} (h:PE X e (tD X.K B G0 f)):PO X (some e) (tOi X.K B G0 (zas f fun x=>mOpt (zcq x))):=poof (zmX h) fun σ H Q q=>tM.one (R:=Rep X.K) q fun v H2 G ρ x k r a=>by
 cases x with
 | int i=>exact ⟨i,r.int_inv,aft.now (v:=some i) a k rfl⟩
 | _=>exact a.elim
end
def excK:List (D × D)->Bool
 | (.none,_) :: _=>true
 | _=>false
def tyOf:D->String
 | .none => "NoneType"
 | .bool _ => "bool"
 | .int _ => "int"
 | .str _ => "str"
 | .list _ => "list"
 | .tuple _ => "tuple"
 | .dict kvs=>if excK kvs=true then "" else "dict"
def isTy (d:D) (c:String):Bool:=tyOf d == c || (tyOf d == "bool" && c == "int")
def zjF:D->Bool
 | .dict kvs=>excK kvs
 | _=>false
theorem zmy {ks:List Key} {ds:List D}:tyOf (.dict ((ks.map kD).zip ds)) = "dict" /\ zjF (.dict ((ks.map kD).zip ds))=false:=by
 cases ks with
 | nil=>exact ⟨rfl,rfl⟩
 | cons k ks =>
  cases ds with
  | nil=>exact ⟨rfl,rfl⟩
  | cons d ds=>cases k <;> exact ⟨rfl,rfl⟩
theorem znc (K:PySem.W.Frag) (d:D) (c:String) (nx:zjF d=false) (hc:c = "int" ∨ c = "bool" ∨ c = "str" ∨ c = "list" ∨ c = "tuple" ∨ c = "dict"):PySem.W.kitOne K (.type (tyOf d)) (.type c)=some (isTy d c):=by
 cases d with
 | dict kvs =>
  have e:tyOf (.dict kvs) = "dict" := by
   have nx:excK kvs=false:=nx
   show (if excK kvs=true then "" else "dict")=_
   rw [nx];rfl
  unfold isTy
  rw [e]
  rcases hc with rfl | rfl | rfl | rfl | rfl | rfl <;> rfl
 | _=>rcases hc with rfl | rfl | rfl | rfl | rfl | rfl <;> rfl
section
variable {X:Cx} {B G0:Hp} {e a b c:Expr} {pos:Pos} {es rest:List Expr}
def zdv (X:Cx) (f:Value) (p:List D->Option D):Prop :=
 ∃ r,zdj X f r/\∀ vs G H ds d Q,Same G H->Reps X.K G vs ds->p ds=some d->(∀ w G' H',Ext G H G' H'->Rep X.K G' w d->Q w H')->r vs H Q
def zbg (p:List D->Option D) (f:M (List D)):M D:=zas f fun xs=>mOpt (p xs)
theorem zav {x:Str} {p2:Pos} {id:String} {p:List D->Option D} {f:M (List D)} (hc:zdv X (.builtin id) p) (hg:Gl X x) (hm:X.mg x=none) (hv:bootBuiltins x=some (.builtin id)) (ha:PA X (e :: es) (tDs X.K B G0 f)) (hn:x ≠ "__name__" := by decide) (hdb:(x == ("__debug__" : Str))=false:=by decide)
  (he:starEach (e :: es) X.env=(false,eval e X.env) :: starEach es X.env:=by rfl) (hpl:(backTo pos (starEach es X.env)).any (·.1)=false:=by rfl):PE X (.Call (.Name x p2) (e :: es) [] pos) (tD X.K B G0 (zbg p f)):=by
 obtain ⟨r,h,i⟩:=hc
 refine peof (zep h hg hm hv ha hn hdb he hpl) fun σ H Q q=>tM.one (R:=Reps X.K) q fun v H2 G ρ x k rr a=>?_
 obtain ⟨d,e,a⟩:=a.opt
 exact i v G H2 x d Q k.gh rr e fun w G' H' ex rw=>a.done k ex rw
theorem Reps.nil_inv {K:PySem.W.Frag} {G:Hp} {vs:List V} (r:Reps K G vs []):vs=[]:=by cases r;rfl
theorem Reps.one_inv {K:PySem.W.Frag} {G:Hp} {vs:List V} {d:D} (r:Reps K G vs [d]):∃ v,vs=[v]/\Rep K G v d:=by
 cases r with
 | cons h t=>cases t;exact ⟨_,rfl,h⟩
theorem Reps.two_inv {K:PySem.W.Frag} {G:Hp} {vs:List V} {d d':D} (r:Reps K G vs [d,d']):∃ v v',vs=[v,v']/\Rep K G v d/\Rep K G v' d':=by
 cases r with
 | cons h t =>
  obtain ⟨v',rfl,r'⟩:=t.one_inv
  exact ⟨_,v',rfl,h,r'⟩
def oLen:List D->Option D
 | [.list xs]=>some (.int xs.length)
 | [.tuple xs]=>some (.int xs.length)
 | [.str z]=>if z.length<=1000000 then some (.int z.length) else none
 | _=>none
theorem zcz:zdv X (.builtin "len") oLen:=by
 refine ⟨_,zhR,fun vs G H ds d Q s r e k=>?_⟩
 unfold oLen at e
 split at e
 ·cases e
  obtain ⟨v,rfl,q⟩:=r.one_inv
  obtain ⟨l,ws,rfl,h1,r1⟩:=q.lst_inv
  exact ⟨.ref l,ws.length,rfl,.inl ⟨ws,s.seq h1,rfl⟩,by rw [r1.length];exact k _ G H (.refl s) (.int _)⟩
 ·cases e
  obtain ⟨v,rfl,q⟩:=r.one_inv
  obtain ⟨l,ws,rfl,h1,r1⟩:=q.tup_inv
  exact ⟨.ref l,ws.length,rfl,.inr ⟨ws,zdu s h1,rfl⟩,by rw [r1.length];exact k _ G H (.refl s) (.int _)⟩
 ·split at e
  ·rename_i z hz
   cases e
   obtain ⟨v,rfl,q⟩:=r.one_inv
   exact ⟨.str z,z.length,by rw [q.str_inv],⟨Nat.le_trans hz lim,rfl⟩,k _ G H (.refl s) (.int _)⟩
  ·cases e
 ·cases e
def zix:List D->Option D
 | [.int i,.int j]=>some (.int (if j > i then j else i))
 | _=>none
theorem zmz (hc:X.calm=true):zdv X (.builtin "max") zix:=by
 refine ⟨_,zjp hc,fun vs G H ds d Q s r e k=>?_⟩
 unfold zix at e
 split at e
 ·cases e
  obtain ⟨v,v',rfl,r1,r2⟩:=r.two_inv
  exact ⟨_,_,by rw [r1.int_inv,r2.int_inv],k _ G H (.refl s) (.int _)⟩
 ·cases e
def zb1 (i:Nat):M D:=fun ρ=>match ρ[i]? with
 | some (some (.pub d))=>mOpt (oLen [d]) ρ
 | some (some (.own ds))=>.ok (.int ds.length) ρ
 | _=>.bad
theorem za3 {i:Nat} {p2:Pos} (hg:Gl X "len") (hm:X.mg "len" = none) (ha:PE X e (tVar i)) (he:starEach [e] X.env=[(false,eval e X.env)]:=by rfl):PE X (.Call (.Name "len" p2) [e] [] pos) (tD X.K B G0 (zb1 i)):=by
 refine peof (zep zhR hg hm PySem.boot_len (zcL ha zex (by rw [he];rfl)) (by decide) (by decide) (by rw [he];rfl) rfl) fun σ H Q ⟨G,ρ,k,a⟩=>?_
 unfold zb1 at a
 cases q : ρ[i]? with
 | none=>rw [q] at a;exact a.elim
 | some o =>
  cases o with
  | none=>rw [q] at a;exact a.elim
  | some sl =>
   cases sl with
   | deep _ _=>rw [q] at a;exact a.elim
   | pub d =>
    rw [q] at a
    obtain ⟨v,h1,h2⟩:=k.pub i d q
    refine ⟨v,h1,?_⟩
    obtain ⟨d',e',a'⟩:=aft.opt a
    obtain ⟨r,hr,ir⟩:=@zcz X
    show ∃ x n,[v]=[x]/\LenV X.K x H n/\Q (.int n) H
    unfold oLen at e'
    split at e'
    ·rename_i xs he'
     injection he' with he1 he2
     subst he1
     cases e'
     obtain ⟨l,ws,rfl,g1,r1⟩:=h2.lst_inv
     exact ⟨.ref l,ws.length,rfl,.inl ⟨ws,k.gh.seq g1,rfl⟩,by rw [r1.length];exact a'.now k (.int _)⟩
    ·rename_i xs he'
     injection he' with he1 he2
     subst he1
     cases e'
     obtain ⟨l,ws,rfl,g1,r1⟩:=h2.tup_inv
     exact ⟨.ref l,ws.length,rfl,.inr ⟨ws,zdu k.gh g1,rfl⟩,by rw [r1.length];exact a'.now k (.int _)⟩
    ·rename_i z he'
     injection he' with he1 he2
     subst he1
     split at e'
     ·rename_i hz
      cases e'
      exact ⟨.str z,z.length,by rw [h2.str_inv],⟨Nat.le_trans hz lim,rfl⟩,a'.now k (.int _)⟩
     ·cases e'
    ·cases e'
   | own ds =>
    rw [q] at a
    obtain ⟨ad,vs,h1,g2,g3,h4,h5⟩:=k.own i ds q
    exact ⟨.ref ad,h1,.ref ad,vs.length,rfl,.inl ⟨vs,SqL.of h4,rfl⟩,by rw [h5.length];exact aft.now a k (.int _)⟩
theorem znd {pins:List (Addr × Obj)} {s:Shared} {σ : St} {G H:Hp} {v:V} {u:Value} {d:D} {cv:Value} {t:Bool} {A:Around} {E:Value->Shared->Prop} {Q:Value->Shared->Prop} (I:Inv X pins σ H s) (sg:Same G H) (r:Rep X.K G v d) (rv:RelV v u) (nx:zjF d=false)
  (ek:PySem.W.kitOne X.K (.type (tyOf d)) cv=some t) (h:∀ tk,Q (.bool t) { s with toks:=tk }):wpAny (model X.prog X.w) A (call (.builtin "isinstance") [u,cv]) Q E s:=by
 cases r with
 | non=>cases rv;exact PySem.W.kia_one PySem.W.kitx_none I.kIn True.intro ek (fun z=>nomatch z) h
 | bl y=>cases rv;exact PySem.W.kia_one PySem.W.kitx_bool I.kIn True.intro ek (fun z=>nomatch z) h
 | int i=>obtain ⟨t',rfl⟩:=rv;exact PySem.W.kia_one PySem.W.kitx_int I.kIn True.intro ek (fun z=>nomatch z) h
 | str y=>obtain ⟨t',rfl⟩:=rv;exact PySem.W.kia_one PySem.W.kitx_str I.kIn True.intro ek (fun z=>nomatch z) h
 | lst hl _ =>
  cases rv
  obtain ⟨its,r,⟨o,n,e,hc,_,hd⟩,hz⟩:=I.list (sg.seq hl)
  exact PySem.W.kia_one PySem.W.kitx_list I.kIn ⟨o,e,hc⟩ ek (fun z=>nomatch z) h
 | tup hl _ =>
  cases rv
  obtain ⟨its,r,p,hz⟩:=I.tuple (zdu sg hl)
  obtain ⟨o,e,hc,_⟩:=p
  exact PySem.W.kia_one PySem.W.kitx_tuple I.kIn ⟨o,e,hc⟩ ek (fun z=>nomatch z) h
 | @dic ad hd =>
  cases rv
  obtain ⟨_,_,vs,_,p⟩:=(show zcw X.prog X.w H s.heap ad (.dK []) from I.hok ad _ (sg _ _ hd))
  obtain ⟨o,es,ep,h1,h2,_⟩:=p
  exact PySem.W.kia_one PySem.W.kitx_dict I.kIn ⟨o,h1,h2.1⟩ ek (fun z=>nomatch z) h
 | exc _ _ _ _=>cases nx
 | @dct ad ks vs ds kvs e0 _ _ hd _ =>
  cases rv
  subst e0
  rw [zmy.1] at ek
  obtain ⟨_,_,vs,_,p⟩:=(show zcw X.prog X.w H s.heap ad (.dK (ks.zip _)) from I.hok ad _ (sg _ _ hd))
  obtain ⟨o,es,ep,h1,h2,_⟩:=p
  exact PySem.W.kia_one PySem.W.kitx_dict I.kIn ⟨o,h1,h2.1⟩ ek (fun z=>nomatch z) h
 | @dtt ad ob ks vs ds kvs e0 _ hd _ =>
  cases rv
  subst e0
  obtain ⟨_,_,_,xs,_,o,es,ep,h1,h2,_⟩:=(show zcw X.prog X.w H s.heap ad (.frz ob (.dT (ks.zip _))) from I.hok ad _ (sg _ _ hd))
  exact PySem.W.kia_one PySem.W.kitx_dict I.kIn ⟨o,h1,h2.1⟩ ek (fun z=>nomatch z) h
theorem zne (c:String) (hc:c = "int" ∨ c = "bool" ∨ c = "str" ∨ c = "list" ∨ c = "tuple" ∨ c = "dict"):typeOf (.type c)=pure (.type "type"):=by
 rcases hc with rfl | rfl | rfl | rfl | rfl | rfl <;> kernel_rfl
theorem zlC:zdj X (.builtin "isinstance") (fun xs H Q=>∃ v c G d,xs=[v,.ty c]/\Same G H/\Rep X.K G v d/\(c = "int" ∨ c = "bool" ∨ c = "str" ∨ c = "list" ∨ c = "tuple" ∨ c = "dict")/\Q (.bl (isTy d c)) H):=by
 intro pins s σ H xs us Q I r h
 obtain ⟨v,c,G,d,rfl,sg,rp,hc,q⟩:=h
 obtain ⟨u,w',rfl,r1,r2⟩:=zmU r
 cases (show w'=Value.type c from r2)
 by_cases nx:zjF d=true
 ·cases rp with
  | @exc a C dd bm nm vs ds ck hx hd rr =>
   refine zlw (zpq I.ok.mod.kin) pins s σ H [.ref a,.ty c] [u,.type c] Q I r ⟨a,C,dd,bm,false,.ty c,false,rfl,⟨nm,ck⟩,sg _ _ hx,.inr ⟨c,rfl,zne c hc,?_⟩,?_⟩
   ·rw [ck.ty];rcases hc with rfl | rfl | rfl | rfl | rfl | rfl <;> rfl
   ·have e:isTy (.dict [(.none,.tuple [.str nm,.list ds])]) c=false:=by rcases hc with rfl | rfl | rfl | rfl | rfl | rfl <;> rfl
    rw [e] at q;exact q
  | dct e _ _ _ _=>subst e;rw [zmy.2] at nx;cases nx
  | dtt e _ _ _=>subst e;cases nx
  | _=>cases nx
 ·have nx:zjF d=false:=by simpa using nx
  exact znd I sg rp r1 nx (znc X.K d c nx hc) fun tk=>⟨.bl _,H,I.tok tk,rfl,q⟩
theorem zej:bootBuiltins "isinstance" = some (.builtin "isinstance"):=by decide +kernel
theorem zbd {f:M D} {p2 p3:Pos} {c:String} (hc:c = "int" ∨ c = "bool" ∨ c = "str" ∨ c = "list" ∨ c = "tuple" ∨ c = "dict") (hg:Gl X "isinstance") (hm:X.mg "isinstance" = none) (hg2:Gl X (Str.ofString c)) (hm2:X.mg (Str.ofString c)=none)
  (hv2:bootBuiltins (Str.ofString c)=some (.type c)) (ha:PE X e (tD X.K B G0 f)) (hn2:(Str.ofString c) ≠ "__name__") (hd2:((Str.ofString c) == ("__debug__" : Str))=false)
  (hs:starEach [e,.Name (Str.ofString c) p3] X.env=(false,eval e X.env) :: starEach [.Name (Str.ofString c) p3] X.env:=by rfl)
  (hs2:starEach [.Name (Str.ofString c) p3] X.env=[(false,eval (.Name (Str.ofString c) p3) X.env)]:=by rfl) :
  PE X (.Call (.Name "isinstance" p2) [e,.Name (Str.ofString c) p3] [] pos) (tD X.K B G0 (mMap (fun d=>.bool (isTy d c)) f)):=by
 refine peof (zep zlC hg hm zej (zcL ha (zcL (zmN (v:=.ty c) hg2 hm2 hv2 rfl hn2 hd2) zex (by rw [hs2];rfl)) hs) (by decide) (by decide) hs (by rw [hs2];rfl)) fun σ H Q q=>?_
 refine tM.one (R:=Rep X.K) q fun v H2 G ρ x k r a=>?_
 exact ⟨v,c,G,x,rfl,k.gh,r,hc,aft.now a k (.bl _)⟩
end
def spD (K:PySem.W.Frag) (n:Nat) (F:List D->Option D):Sp:=fun vs H Q _=>∃ G ds d,vs.length=n/\Same G H/\Reps K G vs ds/\F ds=some d/\∀ v G' H',Ext G H G' H'->Rep K G' v d->Q v H'
section
variable {K:PySem.W.Frag} {B G0 G H:Hp} {σ : St} {ρ : DEnv}
theorem EOk.exit (k:EOk K B G0 G H σ ρ):Ext G0 B G H:=⟨k.bh,k.g0,k.gh,k.np⟩
theorem zbi {α : Type} {l:List α} {i:Nat} {x y : α} (h:(l.set i x)[i]?=some y):y=x:=by
 by_cases hl:i < l.length
 ·rw [List.getElem?_set_self hl] at h;cases h;rfl
 ·rw [List.getElem?_eq_none (by rw [List.length_set];omega)] at h;cases h
theorem DpOk.setOther {i:Nat} {x:Option V} {y:Option Sl} (k:DpOk K B G H σ ρ) (hy:∀ s,y=some s->∃ d,s=.pub d):DpOk K B G H (σ.set i x) (ρ.set i y):=by
 have nz:∀ {m:Nat} {s:Sl},(ρ.set i y)[m]?=some (some s)->(∃ d,s=.pub d) ∨ (ρ[m]?=some (some s)/\(σ.set i x)[m]? = σ[m]?):=fun {m s} q=>by
  by_cases z:i=m
  ·subst z
   exact .inl (hy s (zbi q).symm)
  ·rw [List.getElem?_set_ne z] at q ⊢;exact .inr ⟨q,rfl⟩
 refine k.map (fun m p d q=>?_) (fun m es q=>?_) fun m p d v fp q s r w n=>⟨r,w⟩
 ·rcases nz q with ⟨_,e⟩ | q
  ·cases e
  ·exact q
 ·rcases nz q with ⟨_,e⟩ | q
  ·cases e
  ·exact ⟨es,q⟩
theorem EOk.setPub {i:Nat} {v:V} {d:D} (k:EOk K B G0 G H σ ρ) (r:Rep K G v d) (hi:i < ρ.length):EOk K B G0 G H (σ.set i (some v)) (ρ.set i (some (.pub d))) where
 bh:=k.bh
 gh:=k.gh
 g0:=k.g0
 np:=k.np
 len:=by rw [List.length_set,List.length_set];exact k.len
 pub:=fun j d' q=>by
  by_cases z:i=j
  ·subst z
   have:=zbi q
   cases this
   exact ⟨v,List.getElem?_set_self (by rw [← k.len];exact hi),r⟩
  ·rw [List.getElem?_set_ne z] at q ⊢
   exact k.pub j d' q
 own:=fun j ds q=>by
  by_cases z:i=j
  ·subst z
   have:=zbi q
   cases this
  ·rw [List.getElem?_set_ne z] at q ⊢
   exact k.own j ds q
 sep:=fun j l c es fs q1 q2 s1 s2=>by
  have z1:i ≠ j:=fun z=>by subst z;have:=zbi q1;cases this
  have z2:i ≠ l:=fun z=>by subst z;have:=zbi q2;cases this
  rw [List.getElem?_set_ne z1] at q1 s1
  rw [List.getElem?_set_ne z2] at q2 s2
  exact k.sep j l c es fs q1 q2 s1 s2
 dp:=k.dp.setOther (fun s e=>by cases e;exact ⟨_,rfl⟩)
structure NewL (K:PySem.W.Frag) (B G H:Hp) (σ : St) (ρ : DEnv) (a:Addr) (vs:List V) (ds:List D):Prop where
 b:B a=none
 g:G a=none
 h:H a=some (.lst vs)
 r:Reps K G vs ds
 f:∀ (j:Nat) es,ρ[j]?=some (some (.own es)) -> σ[j]? ≠ some (some (.ref a))
 dp:∀ (j:Nat) p d v fp,ρ[j]?=some (some (.deep p d)) -> σ[j]?=some (some v)->RepO K G H p v d fp->a ∉ fp
theorem EOk.freshD {H':Hp} {a:Addr} (k:EOk K B G0 G H σ ρ) (e:Same H H') (ha:H a=none) {G':Hp} {j:Nat} {p:Pat} {d:D} {v:V} {fp:List Addr} (q : ρ[j]?=some (some (.deep p d))) (s : σ[j]?=some (some v)) (r:RepO K G' H' p v d fp):a ∉ fp:=fun m=>by
 obtain ⟨ω,k1,k2⟩:=k.dp
 obtain ⟨v',fp',s',r',n,w⟩:=k1 j p d q
 rw [s] at s'
 cases s'
 have u:=r'.uniq e r
 subst u
 obtain ⟨ws,hl⟩:=r'.isl a m
 rw [ha] at hl
 cases hl
theorem EOk.setOwn {i:Nat} {a:Addr} {vs:List V} {ds:List D} (k:EOk K B G0 G H σ ρ) (n:NewL K B G H σ ρ a vs ds) (hi:i < ρ.length):EOk K B G0 G H (σ.set i (some (.ref a))) (ρ.set i (some (.own ds))) where
 bh:=k.bh
 gh:=k.gh
 g0:=k.g0
 np:=k.np
 len:=by rw [List.length_set,List.length_set];exact k.len
 pub:=fun j d' q=>by
  by_cases z:i=j
  ·subst z
   have:=zbi q
   cases this
  ·rw [List.getElem?_set_ne z] at q ⊢
   exact k.pub j d' q
 own:=fun j es q=>by
  by_cases z:i=j
  ·subst z
   have:=zbi q
   cases this
   exact ⟨a,vs,List.getElem?_set_self (by rw [← k.len];exact hi),n.b,n.g,n.h,n.r⟩
  ·rw [List.getElem?_set_ne z] at q ⊢
   exact k.own j es q
 sep:=fun j l c es fs q1 q2 s1 s2=>by
  have hs:i < σ.length:=by rw [← k.len];exact hi
  by_cases z1:i=j
  ·subst z1
   rw [List.getElem?_set_self hs] at s1
   cases s1
   by_cases z2:i=l
   ·exact z2
   ·rw [List.getElem?_set_ne z2] at q2 s2
    exact absurd s2 (n.f l fs q2)
  ·by_cases z2:i=l
   ·subst z2
    rw [List.getElem?_set_self hs] at s2
    cases s2
    rw [List.getElem?_set_ne z1] at q1 s1
    exact absurd s1 (n.f j es q1)
   ·rw [List.getElem?_set_ne z1] at q1 s1
    rw [List.getElem?_set_ne z2] at q2 s2
    exact k.sep j l c es fs q1 q2 s1 s2
 dp:=by
  obtain ⟨ω,k1,k2⟩:=k.dp
  have hs:i < σ.length:=by rw [← k.len];exact hi
  refine ⟨fun b=>if b=a then i else ω b,fun j p d q=>?_,fun j es b q s=>?_⟩
  ·by_cases z:i=j
   ·subst z;have:=zbi q;cases this
   ·rw [List.getElem?_set_ne z] at q ⊢
    obtain ⟨v,fp,s,r,nn,w⟩:=k1 j p d q
    refine ⟨v,fp,s,r,nn,fun b m=>⟨(w b m).1,(w b m).2.1,?_⟩⟩
    dsimp only
    rw [if_neg (fun z=>n.dp j p d v fp q s r (by rw [← z];exact m))]
    exact (w b m).2.2
  ·by_cases z:i=j
   ·subst z
    rw [List.getElem?_set_self hs] at s
    cases s
    dsimp only
    rw [if_pos rfl]
   ·rw [List.getElem?_set_ne z] at q s
    dsimp only
    rw [if_neg (fun e=>n.f j es q (by rw [← e];exact s))]
    exact k2 j es b q s
theorem EOk.change {i:Nat} {a:Addr} {vs:List V} {ds es:List D} (k:EOk K B G0 G H σ ρ) (q : ρ[i]?=some (some (.own ds))) (ha : σ[i]?=some (some (.ref a))) (r:Reps K G vs es) :
  EOk K B G0 G (upd H a (.lst vs)) σ (ρ.set i (some (.own es))):=by
 obtain ⟨a',ws,h1,h2,h3,h4,h5⟩:=k.own i ds q
 rw [ha] at h1
 cases h1
 have hi:i < ρ.length:=(List.getElem?_eq_some_iff.mp q).1
 refine ⟨fun b o e=>?_,fun b o e=>?_,k.g0,k.np,by rw [List.length_set];exact k.len,fun j d' e=>?_,fun j fs e=>?_,fun j l c fs gs q1 q2 s1 s2=>?_,?_⟩
 ·rw [zaR (za5 e h2)];exact k.bh b o e
 ·rw [zaR (za5 e h3)];exact k.gh b o e
 ·by_cases z:i=j
  ·subst z
   have:=zbi e
   cases this
  ·rw [List.getElem?_set_ne z] at e
   exact k.pub j d' e
 ·by_cases z:i=j
  ·subst z
   have:=zbi e
   cases this
   exact ⟨a,vs,ha,h2,h3,zaL,r⟩
  ·rw [List.getElem?_set_ne z] at e
   obtain ⟨c,us,g1,g2,g3,g4,g5⟩:=k.own j fs e
   have zc:c ≠ a:=fun w=>z (k.sep i j a ds fs q e ha (by rw [← w];exact g1))
   exact ⟨c,us,g1,g2,g3,by rw [zaR zc];exact g4,g5⟩
 ·have f:∀ {m:Nat} {ts:List D},(ρ.set i (some (Sl.own es)))[m]?=some (some (.own ts))->∃ ts',ρ[m]?=some (some (.own ts')):=fun {m ts} e=>by
   by_cases z:i=m
   ·subst z;exact ⟨ds,q⟩
   ·rw [List.getElem?_set_ne z] at e;exact ⟨ts,e⟩
  obtain ⟨f1,w1⟩:=f q1
  obtain ⟨f2,w2⟩:=f q2
  exact k.sep j l c f1 f2 w1 w2 s1 s2
 ·refine k.dp.map (fun j p d e=>?_) (fun j fs e=>?_) fun j p d v fp qj s rj w n=>⟨rj.upd (fun _ z=>by rw [h4] at z;cases z) (n i ds a q ha),w⟩
  ·by_cases z:i=j
   ·subst z;have:=zbi e;cases this
   ·rw [List.getElem?_set_ne z] at e;exact ⟨e,rfl⟩
  ·by_cases z:i=j
   ·subst z;exact ⟨ds,q,rfl⟩
   ·rw [List.getElem?_set_ne z] at e;exact ⟨fs,e,rfl⟩
end
inductive Out where
 | nx (ρ : DEnv) | rt (d:D) | bk (ρ : DEnv) | ct (ρ : DEnv) | ex (ρ : DEnv) (d:D) | bad
abbrev SM:=DEnv->Out
section
variable (K:PySem.W.Frag) (B G0:Hp) (KX:XW)
def aftS (o:Out) (G1:Hp) (Dn:Ends):Prop :=
 match o with
 | .nx ρ=>∀ σ G H,EOk K B G0 G H σ ρ -> Same G1 G->Dn.nx σ H
 | .bk ρ=>∀ σ G H,EOk K B G0 G H σ ρ -> Same G1 G->Dn.bk σ H
 | .ct ρ=>∀ σ G H,EOk K B G0 G H σ ρ -> Same G1 G->Dn.ct σ H
 | .rt d=>∀ v G H,Ext G0 B G H->Rep K G v d->Dn.rt v H
 | .ex ρ d=>∀ v σ G H,EOk K B G0 G H σ ρ -> Same G1 G->Rep K G v d->KX v σ H
 | .bad=>False
def tS (g:SM):TS:=fun Dn σ H=>∃ G ρ,EOk K B G0 G H σ ρ /\ aftS K B G0 KX (g ρ) G Dn
def sB {α : Type} (f:M α) (g : α -> SM):SM:=fun ρ=>match f ρ with | .ok a ρ'=>g a ρ' | .bad=>.bad
end
section
variable {X:Cx} {B G0:Hp} {KX:XW} {e a b c:Expr} {pos:Pos} {es rest:List Expr} {st:Stmt} {sts sts2:List Stmt}
theorem aftS.mono {K:PySem.W.Frag} {o:Out} {G G':Hp} {Dn:Ends} (e:Same G G') (h:aftS K B G0 KX o G Dn):aftS K B G0 KX o G' Dn:=by
 cases o with
 | nx ρ=>exact fun σ G2 H2 k s=>h σ G2 H2 k (e.trans s)
 | bk ρ=>exact fun σ G2 H2 k s=>h σ G2 H2 k (e.trans s)
 | ct ρ=>exact fun σ G2 H2 k s=>h σ G2 H2 k (e.trans s)
 | rt d=>exact h
 | ex ρ d=>exact fun v σ G2 H2 k s r=>h v σ G2 H2 k (e.trans s) r
 | bad=>exact h
theorem tS.bnd {K:PySem.W.Frag} {α γ : Type} {R:Hp -> γ -> α -> Prop} {f:M α} {g : α -> SM} {Dn:Ends} {σ : St} {H:Hp} {P : γ -> Hp->Prop} (q:tS K B G0 KX (sB f g) Dn σ H)
  (i:∀ v H' G' ρ' x,EOk K B G0 G' H' σ ρ'->R G' v x->aftS K B G0 KX (g x ρ') G' Dn->P v H'):tM K B G0 R f σ H P:=by
 obtain ⟨G,ρ,k,a⟩:=q
 refine ⟨G,ρ,k,?_⟩
 unfold sB at a
 cases z:f ρ with
 | bad=>rw [z] at a;exact a.elim
 | ok d ρ1 =>
  rw [z] at a
  exact fun v G' H' e s r=>i v H' G' ρ1 d e r (aftS.mono s a)
def sNx:SM:=fun ρ=>.nx ρ
def sSeq (g h:SM):SM:=fun ρ=>match g ρ with | .nx ρ'=>h ρ' | o=>o
theorem za8:PSs X [] (tS X.K B G0 KX sNx):=zoi zmQ fun D σ H ⟨G,ρ,k,a⟩=>a σ G H k (.refl _)
theorem zak {g h:SM} (h1:PS X st (tS X.K B G0 KX g)) (h2:PSs X sts (tS X.K B G0 KX h)):PSs X (st :: sts) (tS X.K B G0 KX (sSeq g h)):=zoi (zlm h1 h2) fun D σ H ⟨G,ρ,k,a⟩=>by
 refine ⟨G,ρ,k,?_⟩
 unfold sSeq at a
 cases z:g ρ with
 | nx ρ1=>rw [z] at a;exact fun σ' G' H' k' s'=>⟨G',ρ1,k',aftS.mono s' a⟩
 | rt d=>rw [z] at a;exact a
 | bk ρ1=>rw [z] at a;exact a
 | ct ρ1=>rw [z] at a;exact a
 | ex ρ1 d=>rw [z] at a;exact a
 | bad=>rw [z] at a;exact a.elim
theorem zao {g:SM} (h1:PS X st (tS X.K B G0 KX g)):PSs X [st] (tS X.K B G0 KX g):=zmR h1
def zfg:SM:=fun _=>.bad
theorem zdw:PS X st (tS X.K B G0 KX zfg):=fun _ _ _ _ _ _ ⟨_,_,_,a⟩=>a.elim
def sRet (f:M D):SM:=sB f fun d _=>.rt d
theorem zaB {f:M D} (h:PE X e (tD X.K B G0 f)):PS X (.Return (some e) pos) (tS X.K B G0 KX (sRet f)):=psof (znT h) fun D σ H q=>tS.bnd (R:=Rep X.K) q fun v H' G' ρ' x k r a=>a v G' H' k.exit r
def zgk (f:M D):SM:=sB f fun _ ρ=>.nx ρ
theorem zeE {f:M D} (h:PE X e (tD X.K B G0 f)) (hs:swapsWith e none pos.line X.env=pure false:=by rfl):PS X (.Expr e pos) (tS X.K B G0 KX (zgk f)):=psof (zjh h hs) fun D σ H q=>tS.bnd (R:=Rep X.K) q fun v H' G' ρ' x k r a=>a σ G' H' k (.refl _)
def sIf (f:M Bool) (g h:SM):SM:=sB f fun t=>if t=true then g else h
theorem zbz {f:M Bool} {g h:SM} (hc:PT X c (tBo X.K B G0 f)) (ha:PSs X sts (tS X.K B G0 KX g)) (hb:PSs X sts2 (tS X.K B G0 KX h)):PS X (.If c sts sts2 pos) (tS X.K B G0 KX (sIf f g h)) :=
 psof (zpb hc ha hb) fun D σ H q=>tS.bnd (R:=fun _ b c=>b=c) q fun v H' G' ρ' x k r a=>by
  have r:v=x:=r
  subst r
  cases v with
  | true=>exact ⟨G',ρ',k,a⟩
  | false=>exact ⟨G',ρ',k,a⟩
def tG (K:PySem.W.Frag) (B G0:Hp) (s:D->DEnv->Option DEnv):TG:=fun v σ H Q=>∃ G ρ d ρ',EOk K B G0 G H σ ρ /\ Rep K G v d/\s d ρ = some ρ'/\∀ σ' G' H',EOk K B G0 G' H' σ' ρ'->Same G G'->Q σ' H'
def tGs (K:PySem.W.Frag) (B G0:Hp) (s:List D->DEnv->Option DEnv):TGs:=fun v σ H Q=>∃ G ρ d ρ',EOk K B G0 G H σ ρ /\ Reps K G v d/\s d ρ = some ρ'/\∀ σ' G' H',EOk K B G0 G' H' σ' ρ'->Same G G'->Q σ' H'
theorem pgof {t t':TG} (h:PG X e t) (i:∀ v σ H Q,t' v σ H Q->t v σ H Q):PG X e t':=fun pins s σ H v u Q I r q=>h pins s σ H v u Q I r (i v σ H Q q)
theorem zos {t t':TGs} (h:PGs X es t) (i:∀ v σ H Q,t' v σ H Q->t v σ H Q):PGs X es t':=fun pins s σ H v u Q I r q=>h pins s σ H v u Q I r (i v σ H Q q)
def gN (i:Nat):D->DEnv->Option DEnv:=fun d ρ=>if i < ρ.length then some (ρ.set i (some (.pub d))) else none
theorem zan {i:Nat} (h:PG X e (zmS i)):PG X e (tG X.K B G0 (gN i)):=pgof h fun v σ H Q ⟨G,ρ,d,ρ',k,r,e,q⟩=>by
 unfold gN at e
 split at e
 ·rename_i hi
  cases e
  exact q _ G H (k.setPub r hi) (.refl _)
 ·cases e
def gN0:List D->DEnv->Option DEnv:=fun d ρ=>match d with | []=>some ρ | _=>none
def gNC (s:D->DEnv->Option DEnv) (t:List D->DEnv->Option DEnv):List D->DEnv->Option DEnv:=fun ds ρ=>match ds with | d :: r=>(s d ρ).bind (t r) | []=>none
theorem zbn:PGs X [] (tGs X.K B G0 gN0):=zos zmT fun v σ H Q ⟨G,ρ,d,ρ',k,r,e,q⟩=>by
 cases r with
 | nil=>cases e;exact ⟨rfl,q σ G H k (.refl _)⟩
 | cons _ _=>cases e
theorem zat {s:D->DEnv->Option DEnv} {t:List D->DEnv->Option DEnv} (h1:PG X e (tG X.K B G0 s)) (h2:PGs X es (tGs X.K B G0 t))
  (hs:(assignEach (e :: es) X.env).map (·.2)=assign e X.env :: (assignEach es X.env).map (·.2):=by rfl):PGs X (e :: es) (tGs X.K B G0 (gNC s t)):=zos (zln h1 h2 hs) fun v σ H Q ⟨G,ρ,d,ρ',k,r,e,q⟩=>by
 cases r with
 | nil=>cases e
 | @cons w dw ws dws rw rt =>
  unfold gNC at e
  dsimp only at e
  cases z:s dw ρ with
  | none=>rw [z] at e;cases e
  | some ρ1 =>
   rw [z] at e
   refine ⟨w,ws,rfl,G,ρ,dw,ρ1,k,rw,z,fun σ' G' H' k' s'=>?_⟩
   exact ⟨G',ρ1,dws,ρ',k',rt.mono s',e,fun σ2 G2 H2 k2 s2=>q σ2 G2 H2 k2 (s'.trans s2)⟩
def gT (n:Nat) (t:List D->DEnv->Option DEnv):D->DEnv->Option DEnv:=fun d ρ=>match d with | .tuple ds=>if ds.length=n then t ds ρ else none | _=>none
theorem zbo {k1:Nat} {t:List D->DEnv->Option DEnv} {n:Nat} (hc:X.calm=true) (h:PGs X es (tGs X.K B G0 t))
  (hn:(assignEach es X.env).length=n:=by rfl) (hst:(assignEach es X.env).findIdx? (·.1)=none:=by rfl):PG X (.Tuple es k1 pos) (tG X.K B G0 (gT n t)):=pgof (znU hc h hn hst) fun v σ H Q ⟨G,ρ,d,ρ',k,r,e,q⟩=>by
 unfold gT at e
 split at e
 ·split at e
  ·rename_i hl
   obtain ⟨ad,vs,rfl,h1,r1⟩:=r.tup_inv
   exact ⟨ad,vs,rfl,zdu k.gh h1,by rw [r1.length];exact hl,G,ρ,_,ρ',k,r1,e,q⟩
  ·cases e
 ·cases e
def sAsg (f:M D) (s:D->DEnv->Option DEnv):SM:=sB f fun d ρ=>match s d ρ with | some ρ'=>.nx ρ' | none=>.bad
theorem zgl {tg:Expr} {f:M D} {s:D->DEnv->Option DEnv} (he:PE X e (tD X.K B G0 f)) (hg:PG X tg (tG X.K B G0 s)) (hs:swapsWithSole [tg] e pos.line X.env=pure false:=by rfl) (hw:swappedStores [tg] e X.env=pure none:=by rfl)
  (h1:(assignEach [tg] X.env).map (·.2)=[assign tg X.env]:=by rfl):PS X (.Assign [tg] e pos) (tS X.K B G0 KX (sAsg f s)) :=
 psof (znV he hg hs hw h1) fun D σ H q=>tS.bnd (R:=Rep X.K) q fun v H' G' ρ' x k r a=>by
  cases z:s x ρ' with
  | none=>rw [z] at a;exact a.elim
  | some ρ2=>rw [z] at a;exact ⟨G',ρ',x,ρ2,k,r,z,fun σ2 G2 H2 k2 s2=>a σ2 G2 H2 k2 s2⟩
def sSet (i:Nat) (f:M D):SM:=sAsg f (gN i)
theorem zaI {i:Nat} {x:Str} {f:M D} {p2:Pos} (hN:X.N.Nodup) (hi:X.N[i]?=some x) (hx:Loc X.env.scope x) (he:PE X e (tD X.K B G0 f)) (hs:swapsWith e (some (.Name x p2)) pos.line X.env=pure false:=by rfl)
  (hf:X.fn x=true ∨ X.env.scope.names.lookup x=some .local:=by first | exact .inl rfl | exact .inr rfl | assumption):PS X (.Assign [.Name x p2] e pos) (tS X.K B G0 KX (sSet i f)) :=
 psof (zms hN hi hx he hs hf) fun D σ H q=>tS.bnd (R:=Rep X.K) q fun v H' G' ρ' x k r a=>by
  unfold gN at a
  split at a
  ·rename_i ρ2 hz
   split at hz
   ·rename_i hi2
    cases hz
    exact a _ G' H' (k.setPub r hi2) (.refl _)
   ·cases hz
  ·exact a.elim
def tL (K:PySem.W.Frag) (B G0:Hp) (f:M (List D)):TE:=fun σ H Q=>∃ G ρ,EOk K B G0 G H σ ρ /\ match f ρ with
 | .ok ds ρ'=>∀ a vs G' H',EOk K B G0 G' H' σ ρ'->Same G G'->NewL K B G' H' σ ρ' a vs ds->Q (.ref a) H'
 | .bad=>False
def zbQ (i:Nat) (f:M (List D)):SM:=sB f fun ds ρ=>if i < ρ.length then .nx (ρ.set i (some (.own ds))) else .bad
theorem zb2 {i:Nat} {x:Str} {f:M (List D)} {p2:Pos} (hN:X.N.Nodup) (hi:X.N[i]?=some x) (hx:Loc X.env.scope x) (he:PE X e (tL X.K B G0 f)) (hs:swapsWith e (some (.Name x p2)) pos.line X.env=pure false:=by rfl)
  (hf:X.fn x=true ∨ X.env.scope.names.lookup x=some .local:=by first | exact .inl rfl | exact .inr rfl | assumption):PS X (.Assign [.Name x p2] e pos) (tS X.K B G0 KX (zbQ i f)) :=
 psof (zms hN hi hx he hs hf) fun D σ H ⟨G,ρ,k,a⟩=>by
  refine ⟨G,ρ,k,?_⟩
  unfold zbQ sB at a
  cases z:f ρ with
  | bad=>rw [z] at a;exact a.elim
  | ok ds ρ1 =>
   rw [z] at a
   intro ad vs G' H' k' s' n
   dsimp only at a
   split at a
   ·rename_i hl
    exact a _ G' H' (k'.setOwn n hl) s'
   ·exact a.elim
theorem NewL.of {K:PySem.W.Frag} {G H:Hp} {σ : St} {ρ : DEnv} {p:Addr} {vs:List V} {ds:List D} (k:EOk K B G0 G H σ ρ) (hp:H p=none) (r:Reps K G vs ds):NewL K B G (upd H p (.lst vs)) σ ρ p vs ds where
 b:=k.bh.free hp
 g:=k.gh.free hp
 h:=zaL
 r:=r
 f:=fun j es q z=>by
  obtain ⟨a,ws,h1,h2,h3,h4,h5⟩:=k.own j es q
  rw [z] at h1
  cases h1
  rw [hp] at h4;cases h4
 dp:=fun j pt d v fp q s rr=>k.freshD (zaM hp) hp q s rr
theorem zcX {f:M (List D)} (h:PA X es (tDs X.K B G0 f)):PE X (.List es pos) (tL X.K B G0 (zas f fun xs=>if xs.length<=1000000 then zah xs else fun _=>.bad)) :=
 peof (zmv h) fun σ H Q ⟨G,ρ,k,a⟩=>by
  refine ⟨G,ρ,k,?_⟩
  unfold zas at a
  cases z:f ρ with
  | bad=>rw [z] at a;exact a.elim
  | ok ds ρ1 =>
   rw [z] at a
   dsimp only at a
   intro v G' H' k' s' r
   by_cases c:ds.length<=1000000
   ·rw [if_pos c] at a
    refine ⟨by rw [r.length];exact Nat.le_trans c lim,fun p hp=>?_⟩
    exact a p v G' _ (k'.ext (Ext.hid k'.gh hp)) s' (NewL.of k' hp r)
   ·rw [if_neg c] at a;exact a.elim
def sApp (i:Nat) (f:M D):SM:=fun ρ0=>match ρ0[i]? with
 | some (some (.own _))=>sB f (fun d ρ=>match ρ[i]? with
  | some (some (.own ds))=>if ds.length < 1000000 then .nx (ρ.set i (some (.own (ds ++ [d])))) else .bad
  | _=>.bad) ρ0
 | _=>.bad
theorem zdx {i:Nat} {f:M D} {o:Expr} {apos cpos:Pos} (ho:PE X o (tVar i)) (he:PE X e (tD X.K B G0 f))
  (hbase:attributeBase o "append" X.env (eval o X.env)=eval o X.env:=by rfl)
  (hfew:((backTo cpos (starEach [e] X.env)).all (fun x=>!x.1) && (backToKw cpos (keywordEach [] X.env)).all (fun x=>x.1.isSome)
   && decide ([e].length+([]:List Keyword).length+(if ([]:List Keyword).isEmpty then 0 else 1) < 30))=true:=by rfl)
  (hline:(apos.endLine == cpos.line)=true:=by rfl) (hs:starEach [e] X.env=[(false,eval e X.env)]:=by rfl)
  (hsw:swapsWith (.Call (.Attribute o "append" apos) [e] [] cpos) none pos.line X.env=pure false:=by rfl) :
  PS X (.Expr (.Call (.Attribute o "append" apos) [e] [] cpos) pos) (tS X.K B G0 KX (sApp i f)) :=
 psof (zjh (zoe PySem.F.plainAttrs_list PySem.F.slot_list_append PySem.F.type_list_append zgg ho (zcL he zex (by rw [hs];rfl)) hbase hfew hline (by rw [hs];rfl) rfl) hsw) fun D σ H ⟨G,ρ,k,a⟩=>by
  unfold sApp at a
  cases q0 : ρ[i]? with
  | none=>rw [q0] at a;exact a.elim
  | some o0 =>
   cases o0 with
   | none=>rw [q0] at a;exact a.elim
   | some sl0 =>
    cases sl0 with
    | deep _ _=>rw [q0] at a;exact a.elim
    | pub d=>rw [q0] at a;exact a.elim
    | own ds0 =>
     rw [q0] at a
     obtain ⟨ad,vs0,h1,h2,h3,h4,h5⟩:=k.own i ds0 q0
     refine ⟨.ref ad,h1,.inl ⟨rfl,_,SqL.of h4⟩,G,ρ,k,?_⟩
     unfold sB at a
     cases z:f ρ with
     | bad=>rw [z] at a;exact a.elim
     | ok d ρ1 =>
      rw [z] at a
      dsimp only at a
      intro v G' H' k' s' r'
      cases q : ρ1[i]? with
      | none=>rw [q] at a;exact a.elim
      | some o =>
       cases o with
       | none=>rw [q] at a;exact a.elim
       | some sl =>
        cases sl with
        | deep _ _=>rw [q] at a;exact a.elim
        | pub d=>rw [q] at a;exact a.elim
        | own ds =>
         rw [q] at a
         dsimp only at a
         split at a
         ·rename_i hl
          obtain ⟨ad',vs,g1,g2,g3,g4,g5⟩:=k'.own i ds q
          rw [h1] at g1
          cases g1
          refine ⟨ad,vs,v,rfl,rfl,g4,by rw [g5.length];exact Nat.lt_of_lt_of_le hl lim,?_⟩
          exact a σ G' _ (k'.change q h1 (g5.append (.cons r' .nil))) s'
         ·exact a.elim
end
structure zek (K:PySem.W.Frag) (J:It) (ds:List D) (G1:Hp):Prop where
 go:∀ i G H,Same G1 G->Same G H->i < ds.length->J.go i H
 stop:∀ i G H,Same G1 G->Same G H->ds.length<=i->J.stop i H
 yld:∀ i G H x H' d,Same G1 G->Same G H->ds[i]?=some d->J.yld i H x H'->∃ G',Ext G H G' H'/\Rep K G' x d
def iD (K:PySem.W.Frag) (B G0:Hp) (f:M (List D)):TI:=fun σ H R=>∃ G ρ,EOk K B G0 G H σ ρ /\ match f ρ with
 | .ok ds ρ'=>∀ J G' H',EOk K B G0 G' H' σ ρ'->Same G G'->zek K J ds G'->R J H'
 | .bad=>False
section
variable {X:Cx} {B G0:Hp} {KX:XW} {e a b c tg:Expr} {pos:Pos} {es rest:List Expr} {st:Stmt} {sts sts2:List Stmt}
theorem piof {t t':TI} (h:PI X tg e t) (i:∀ σ H R,t' σ H R->t σ H R):PI X tg e t':=fun pins s σ H R I q=>h pins s σ H R I (i σ H R q)
theorem tM.toI {K:PySem.W.Frag} {α γ : Type} {R0:Hp -> γ -> α -> Prop} {f:M α} {g : α -> M (List D)} {σ : St} {H:Hp} {R:It->Hp->Prop} {P : γ -> Hp->Prop} (q:iD K B G0 (zas f g) σ H R)
  (i:∀ v H' G' ρ' x,EOk K B G0 G' H' σ ρ'->R0 G' v x->(match g x ρ' with
   | .ok ds ρ2=>∀ J G2 H2,EOk K B G0 G2 H2 σ ρ2->Same G' G2->zek K J ds G2->R J H2
   | .bad=>False)->P v H'):tM K B G0 R0 f σ H P:=by
 obtain ⟨G,ρ,k,a⟩:=q
 refine ⟨G,ρ,k,?_⟩
 unfold zas at a
 cases z:f ρ with
 | bad=>rw [z] at a;exact a.elim
 | ok d ρ1 =>
  rw [z] at a
  intro v G' H' e s r
  refine i v H' G' ρ1 d e r ?_
  dsimp only at a
  cases z2:g d ρ1 with
  | bad=>rw [z2] at a;exact a.elim
  | ok ds ρ2 =>
   rw [z2] at a
   exact fun J G2 H2 k2 s2 it=>a J G2 H2 k2 (s.trans s2) it
theorem ziy {K:PySem.W.Frag} {G1:Hp} {ad:Addr} {vs:List V} {ds:List D} (h:SqL K G1 ad vs) (r:Reps K G1 vs ds):zek K (Itl K ad) ds G1 where
 go:=fun i G H s1 s2 hi=>by
  have hi':i < vs.length:=by rw [r.length];exact hi
  exact ⟨vs,vs[i],(s1.trans s2).seq h,List.getElem?_eq_getElem hi'⟩
 stop:=fun i G H s1 s2 hi=>⟨vs,(s1.trans s2).seq h,by rw [r.length];exact hi⟩
 yld:=fun i G H x H' d s1 s2 e y=>by
  obtain ⟨rfl,y⟩:=y
  obtain ⟨v,e1,r1⟩:=r.get e
  have:=y vs ((s1.trans s2).seq h)
  rw [e1] at this
  cases this
  exact ⟨G,.refl s2,r1.mono s1⟩
def zbp (lo hi:Int):List D:=(List.range (hi - lo).toNat).map fun (k:Nat)=>.int (lo+k)
theorem za0 (lo hi:Int):(zbp lo hi).length=(hi - lo).toNat:=by unfold zbp;rw [List.length_map,List.length_range]
theorem zeF {K:PySem.W.Frag} {G1:Hp} (lo hi:Int):zek K (Itr lo (hi - lo).toNat) (zbp lo hi) G1 where
 go:=fun i G H s1 s2 h=>by rw [za0] at h;exact h
 stop:=fun i G H s1 s2 h=>by rw [za0] at h;exact h
 yld:=fun i G H x H' d s1 s2 e y=>by
  obtain ⟨rfl,rfl⟩:=y
  unfold zbp at e
  rw [List.getElem?_map] at e
  have hi:i < (List.range (hi - lo).toNat).length:=by
   refine Nat.lt_of_not_le fun z=>?_
   rw [List.getElem?_eq_none z] at e
   cases e
  rw [List.getElem?_eq_getElem hi,List.getElem_range] at e
  cases e
  exact ⟨G,.refl s2,.int _⟩
def ziz:List D->Option (List D)
 | [.int j]=>if j<=1000000 /\ -1000000<=j then some (zbp 0 j) else none
 | _=>none
def ziA:List D->Option (List D)
 | [.int i,.int j]=>if j<=1000000 /\ -1000000<=j/\i<=1000000 /\ -1000000<=i then some (zbp i j) else none
 | _=>none
def zel (f:M (List D)):M (List D):=zas f fun x=>mOpt (ziz x)
def zlD (f:M (List D)):M (List D):=zas f fun x=>mOpt (ziA x)
theorem zb3 {f:M (List D)} {p2:Pos} (hg:Gl X "range") (hm:X.mg "range" = none) (ha:PA X [a] (tDs X.K B G0 f)) (hs:starEach [a] X.env=[(false,eval a X.env)]:=by rfl) :
  PI X tg (.Call (.Name "range" p2) [a] [] pos) (iD X.K B G0 (zel f)):=piof (zjj hg hm ha hs) fun σ H R q=>tM.toI (R0:=Reps X.K) q fun v H' G' ρ' x k r a=>by
 cases z:ziz x with
 | none=>rw [z] at a;exact a.elim
 | some ds =>
  rw [z] at a
  unfold ziz at z
  split at z
  ·split at z
   ·rename_i j c
    cases z
    obtain ⟨w,rfl,r'⟩:=r.one_inv
    refine ⟨j,by rw [r'.int_inv],by omega,by omega,?_⟩
    have it:=zeF (K:=X.K) (G1:=G') 0 j
    rw [Int.sub_zero] at it
    exact a _ G' H' k (.refl _) it
   ·cases z
  ·cases z
theorem zjG {f:M (List D)} {p2:Pos} (hg:Gl X "range") (hm:X.mg "range" = none) (ha:PA X [a,b] (tDs X.K B G0 f)) (hs:starEach [a,b] X.env=[(false,eval a X.env),(false,eval b X.env)]:=by rfl) (hs2:starEach [b] X.env=[(false,eval b X.env)]:=by rfl) :
  PI X tg (.Call (.Name "range" p2) [a,b] [] pos) (iD X.K B G0 (zlD f)):=piof (zjk hg hm ha hs hs2) fun σ H R q=>tM.toI (R0:=Reps X.K) q fun v H' G' ρ' x k r a=>by
 cases z:ziA x with
 | none=>rw [z] at a;exact a.elim
 | some ds =>
  rw [z] at a
  unfold ziA at z
  split at z
  ·split at z
   ·rename_i i j c
    cases z
    obtain ⟨w,w',rfl,r1,r2⟩:=r.two_inv
    refine ⟨i,j,by rw [r1.int_inv,r2.int_inv],⟨by omega,by omega,by omega,by omega⟩,?_⟩
    exact a _ G' H' k (.refl _) (zeF i j)
   ·cases z
  ·cases z
def zcr (n:Nat):List D->List D
 | []=>[]
 | d :: r=>.tuple [.int n,d] :: zcr (n+1) r
theorem zax:∀ (n:Nat) (ds:List D),(zcr n ds).length=ds.length
 | _,[]=>rfl
 | n,d :: r=>by rw [zcr,List.length_cons,List.length_cons,zax]
theorem zeG:∀ (n:Nat) (ds:List D) (i:Nat),(zcr n ds)[i]?=ds[i]?.map fun d=>.tuple [.int ((n+i:Nat):Int),d]
 | _,[],i=>by simp [zcr]
 | n,d :: r,0=>by simp [zcr]
 | n,d :: r,i+1=>by
  rw [zcr,List.getElem?_cons_succ,List.getElem?_cons_succ,zeG (n+1) r i]
  have:n+1+i=n+(i+1):=by omega
  rw [this]
theorem ziB {K:PySem.W.Frag} {G1:Hp} {ad:Addr} {vs:List V} {ds:List D} (h:SqL K G1 ad vs) (r:Reps K G1 vs ds):zek K (Ite K ad) (zcr 0 ds) G1 where
 go:=fun i G H s1 s2 hi=>by
  rw [zax] at hi
  have hi':i < vs.length:=by rw [r.length];exact hi
  exact ⟨vs,vs[i],(s1.trans s2).seq h,List.getElem?_eq_getElem hi'⟩
 stop:=fun i G H s1 s2 hi=>by
  rw [zax] at hi
  exact ⟨vs,(s1.trans s2).seq h,by rw [r.length];exact hi⟩
 yld:=fun i G H x H' d s1 s2 e y=>by
  obtain ⟨p,v,hp,rfl,y,rfl⟩:=y
  rw [zeG] at e
  cases z:ds[i]? with
  | none=>rw [z] at e;cases e
  | some d0 =>
   rw [z] at e
   cases e
   obtain ⟨w,e1,r1⟩:=r.get z
   have:=y vs ((s1.trans s2).seq h)
   rw [e1] at this
   cases this
   refine ⟨upd G p (.tup [.int i,v]),Ext.new s2 hp,.tup (SqT.of zaL) (.cons ?_ (.cons ((r1.mono s1).mono (zaM (s2.free hp))) .nil))⟩
   rw [Nat.zero_add]
   exact .int _
def zjH:List D->Option (List D)
 | [.list ds]=>some (zcr 0 ds)
 | _=>none
def zcY (f:M (List D)):M (List D):=zas f fun x=>mOpt (zjH x)
theorem zcj {f:M (List D)} {p2:Pos} {elts:List Expr} {x1} {tp:Pos} (hg:Gl X "enumerate") (hm:X.mg "enumerate" = none) (ha:PA X [a] (tDs X.K B G0 f)) (hs:starEach [a] X.env=[(false,eval a X.env)]:=by rfl) :
  PI X (.Tuple elts x1 tp) (.Call (.Name "enumerate" p2) [a] [] pos) (iD X.K B G0 (zcY f)):=piof (zm3 hg hm ha hs) fun σ H R q=>tM.toI (R0:=Reps X.K) q fun v H' G' ρ' x k r a=>by
 cases z:zjH x with
 | none=>rw [z] at a;exact a.elim
 | some ds =>
  rw [z] at a
  unfold zjH at z
  split at z
  ·cases z
   obtain ⟨w,rfl,r'⟩:=r.one_inv
   obtain ⟨ad,vs,rfl,h1,r1⟩:=r'.lst_inv
   exact ⟨ad,vs,rfl,k.gh.seq h1,a _ G' H' k (.refl _) (ziB h1 r1)⟩
  ·cases z
def zgm (s:D->DEnv->Option DEnv) (g:SM):List D->SM
 | [],ρ=>.nx ρ
 | d :: r,ρ=>match s d ρ with
  | none=>.bad
  | some ρ1=>match g ρ1 with
   | .nx ρ2=>zgm s g r ρ2
   | .ct ρ2=>zgm s g r ρ2
   | .bk ρ2=>.nx ρ2
   | .rt d=>.rt d
   | .ex ρ2 d=>.ex ρ2 d
   | .bad=>.bad
def sFor (f:M (List D)) (s:D->DEnv->Option DEnv) (g:SM):SM:=sB f fun ds=>zgm s g ds
theorem zbH {iter:Expr} {body:List Stmt} {f:M (List D)} {s:D->DEnv->Option DEnv} {g:SM} (hp:PassesOwn (model X.prog X.w) X.A X.env X.xe) (hc:X.calm=true) (hi:PI X tg iter (iD X.K B G0 f)) (hg:PG X tg (tG X.K B G0 s)) (hb:PSs X body (tS X.K B G0 KX g))
  (hs:∀ x,foldedSetIterable iter X.env x=pure x:=by intro _;rfl):PS X (.For tg iter body [] pos) (tS X.K B G0 KX (sFor f s g)) :=
 psof (znX hp hc hi hg hb hs) fun Dn σ H ⟨G,ρ,k,a⟩=>by
  refine ⟨G,ρ,k,?_⟩
  unfold sFor sB at a
  cases z:f ρ with
  | bad=>rw [z] at a;exact a.elim
  | ok ds ρ1 =>
   rw [z] at a
   dsimp only at a ⊢
   intro J G1 H1 k1 s1 it
   refine ⟨fun i m σ' H'=>m=ds.length - i/\∃ G' ρ',EOk X.K B G0 G' H' σ' ρ'/\Same G1 G'/\aftS X.K B G0 KX (zgm s g (ds.drop i) ρ') G' Dn,⟨ds.length,by omega,G1,ρ1,k1,.refl _,by rw [List.drop_zero];exact aftS.mono s1 a⟩,?_⟩
   rintro i m σ' H' ⟨rfl,G',ρ',k',s',a'⟩
   by_cases hi:i < ds.length
   ·right
    refine ⟨it.go i G' H' s' k'.gh hi,fun σ2 H2=>∃ G2 ρ2,EOk X.K B G0 G2 H2 σ2 ρ2/\Same G1 G2/\aftS X.K B G0 KX (zgm s g (ds.drop (i+1)) ρ2) G2 Dn,fun σ2 H2 h2=>⟨ds.length - (i+1),by omega,rfl,h2⟩,fun x H2 y=>?_⟩
    obtain ⟨G2,ex,rx⟩:=it.yld i G' H' x H2 ds[i] s' k'.gh (List.getElem?_eq_getElem hi) y
    rw [List.drop_eq_getElem_cons hi,zgm] at a'
    cases z2:s ds[i] ρ' with
    | none=>rw [z2] at a';exact a'.elim
    | some ρ2 =>
     rw [z2] at a'
     dsimp only at a'
     refine ⟨G2,ρ',ds[i],ρ2,k'.ext ex,rx,z2,fun σ3 G3 H3 k3 s3=>⟨G3,ρ2,k3,?_⟩⟩
     have s13:Same G1 G3:=(s'.trans ex.g).trans s3
     cases z3:g ρ2 with
     | nx ρ3=>rw [z3] at a';exact fun σ4 G4 H4 k4 s4=>⟨G4,ρ3,k4,s13.trans s4,aftS.mono ((ex.g.trans s3).trans s4) a'⟩
     | ct ρ3=>rw [z3] at a';exact fun σ4 G4 H4 k4 s4=>⟨G4,ρ3,k4,s13.trans s4,aftS.mono ((ex.g.trans s3).trans s4) a'⟩
     | bk ρ3=>rw [z3] at a';exact fun σ4 G4 H4 k4 s4=>a' σ4 G4 H4 k4 ((ex.g.trans s3).trans s4)
     | rt d=>rw [z3] at a';exact a'
     | ex ρ3 d=>rw [z3] at a';exact fun v σ4 G4 H4 k4 s4 r4=>a' v σ4 G4 H4 k4 ((ex.g.trans s3).trans s4) r4
     | bad=>rw [z3] at a';exact a'.elim
   ·left
    rw [List.drop_eq_nil_of_le (by omega)] at a'
    exact ⟨it.stop i G' H' s' k'.gh (by omega),a' σ' G' H' k' (.refl _)⟩
theorem zlE {k:Nat} {f:Addr} {fd:FuncData} {ps:List Str} {F:List D->Option D} {g:M (List D)} {x:Str} {p2:Pos} {n:Nat} (FK:FnOk X.prog X.w X.K X.mg X.base CX0 k f fd ps (spD X.K n F)) (hr:Room k X.A) (hg:Gl X x) (hm:X.mg x=some (.ref f)) (hk:PySem.W.keepIn X.K (.ref f)=true)
  (hb:zf9 X.K fd ps []) (ha:PA X (e :: es) (tDs X.K B G0 g)) (hn:(e :: es).length=n) (hdb:(x == ("__debug__" : Str))=false:=by decide) (he:starEach (e :: es) X.env=(false,eval e X.env) :: starEach es X.env:=by rfl) (hpl:(backTo pos (starEach es X.env)).any (·.1)=false:=by rfl) :
  PE X (.Call (.Name x p2) (e :: es) [] pos) (tD X.K B G0 (zas g fun xs=>if xs.length=n then mOpt (F xs) else fun _=>.bad)) :=
 peof (zjr FK hr hg hm hk hb .nil zof ha hdb he hpl) fun σ H Q q=>tM.one (R:=Reps X.K) q fun v H2 G ρ ds k r a=>by
  split at a
  ·rename_i hl
   obtain ⟨d,e,a⟩:=a.opt
   exact ⟨G,ds,d,by rw [List.append_nil,r.length];exact hl,k.gh,by rw [List.append_nil];exact r,e,fun w G' H' ex rw=>a.done k ex rw⟩
  ·exact a.elim
end
def zcA (N:List Str) (ds:List D):DEnv:=(ds.map fun d=>some (Sl.pub d)) ++ List.replicate (N.length - ds.length) none
theorem zlF {K:PySem.W.Frag} {N:List Str} {G H:Hp} {vs:List V} {ds:List D} (s:Same G H) (r:Reps K G vs ds):EOk K H G G H (L2.zez N vs) (zcA N ds) where
 bh:=.refl _
 gh:=s
 g0:=.refl _
 np:=fun _ _ _ n=>n
 len:=by unfold L2.zez zcA;rw [List.length_append,List.length_append,List.length_map,List.length_map,List.length_replicate,List.length_replicate,r.length]
 pub:=fun i d q=>by
  unfold zcA at q
  unfold L2.zez
  by_cases hi:i < ds.length
  ·rw [List.getElem?_append_left (by rw [List.length_map];exact hi),List.getElem?_map] at q
   cases z:ds[i]? with
   | none=>rw [z] at q;cases q
   | some d' =>
    rw [z] at q
    cases q
    obtain ⟨v,e1,r1⟩:=r.get z
    refine ⟨v,?_,r1⟩
    rw [List.getElem?_append_left (by rw [List.length_map,r.length];exact hi),List.getElem?_map,e1]
    rfl
  ·rw [List.getElem?_append_right (by rw [List.length_map];omega),List.getElem?_replicate] at q
   split at q <;> cases q
 own:=fun i es q=>by
  unfold zcA at q
  by_cases hi:i < ds.length
  ·rw [List.getElem?_append_left (by rw [List.length_map];exact hi),List.getElem?_map] at q
   cases z:ds[i]? with
   | none=>rw [z] at q;cases q
   | some d'=>rw [z] at q;cases q
  ·rw [List.getElem?_append_right (by rw [List.length_map];omega),List.getElem?_replicate] at q
   split at q <;> cases q
 sep:=fun i j a es fs q _ _ _=>by
  unfold zcA at q
  by_cases hi:i < ds.length
  ·rw [List.getElem?_append_left (by rw [List.length_map];exact hi),List.getElem?_map] at q
   cases z:ds[i]? with
   | none=>rw [z] at q;cases q
   | some d'=>rw [z] at q;cases q
  ·rw [List.getElem?_append_right (by rw [List.length_map];omega),List.getElem?_replicate] at q
   split at q <;> cases q
 dp:=by
  have key:∀ {i:Nat} {s:Sl},(zcA N ds)[i]?=some (some s)->∃ d,s=.pub d:=fun {i s} q=>by
   unfold zcA at q
   by_cases hi:i < ds.length
   ·rw [List.getElem?_append_left (by rw [List.length_map];exact hi),List.getElem?_map] at q
    cases z:ds[i]? with
    | none=>rw [z] at q;cases q
    | some d'=>rw [z] at q;cases q;exact ⟨_,rfl⟩
   ·rw [List.getElem?_append_right (by rw [List.length_map];omega),List.getElem?_replicate] at q
    split at q <;> cases q
  exact .of (fun i p d q=>by obtain ⟨_,e⟩:=key q;cases e) fun i ds q=>by obtain ⟨_,e⟩:=key q;cases e
def runD (N:List Str) (g:SM) (ds:List D):Option D:=match g (zcA N ds) with
 | .rt d=>some d
 | .nx _=>some .none
 | _=>none
theorem okD {P:Program} {w:World} {K:PySem.W.Frag} {mg:Str->Option Value} {base:Heap} {x qual:Str} {st:Stmt} {f:Addr} {fd:FuncData} {N ps:List Str} {k n:Nat} {g:SM} (F:Fun K x qual st f fd) (S:zey N ps (zal st)) (hn:ps.length=n)
  (der:∀ (cdv:Value) (A:Around) (outer:List Env) (s:Shared) (H:Hp) (E:XK) (B G0:Hp),Room k (A.deeper (envOfC qual (zal st) s.heap.objs.size f cdv)) ->
   PSs (cxOf CX0 P w K mg base N qual (zal st) f cdv A outer s H E).nox (zcW st) (tS K B G0 KX0 g)):FnOk P w K mg base CX0 (k+1) f fd ps (spD K n (runD N g)):=by
 refine F.ok S (fun vs H Q E h=>?_) (fun cdv A outer s H vs Q E hr h=>?_)
 ·obtain ⟨_,_,_,hl,_⟩:=h
  rw [hl,hn]
 ·obtain ⟨G,ds,d,hl,sg,r,hF,q⟩:=h
  refine ⟨_,der cdv A outer s H E H G hr,G,zcA N ds,zlF sg r,?_⟩
  unfold runD at hF
  cases z:g (zcA N ds) with
  | rt d' =>
   rw [z] at hF
   cases hF
   exact fun v G' H' ex rr=>q v G' H' ex rr
  | nx ρ =>
   rw [z] at hF
   cases hF
   exact fun σ' G' H' k' _=>q .non G' H' k'.exit .non
  | bk ρ=>rw [z] at hF;cases hF
  | ct ρ=>rw [z] at hF;cases hF
  | ex ρ d=>rw [z] at hF;cases hF
  | bad=>rw [z] at hF;cases hF
section
variable {X:Cx} {B G0:Hp} {e a b c tg:Expr} {pos:Pos} {es rest:List Expr}
def oNeg:D->Option D
 | .int i=>some (.int (-i))
 | _=>none
def dNeg (f:M D):M D:=zas f fun x=>mOpt (oNeg x)
theorem zdq {f:M D} (h:PE X a (tD X.K B G0 f)):PE X (.UnaryOp .USub a pos) (tD X.K B G0 (dNeg f)) :=
 peof (zpf zn4 h) fun σ H Q q=>tM.one (R:=Rep X.K) q fun v H2 G ρ x k r a=>by
  cases x with
  | int i=>exact ⟨i,r.int_inv,aft.now a k (.int _)⟩
  | _=>exact a.elim
end
def Def (P:Program) (w:World) (K:PySem.W.Frag) (mg:Str->Option Value) (base:Heap) (x:Str) (k n:Nat) (F:List D->Option D):Prop :=
 ∃ (f:Addr) (fd:FuncData) (ps:List Str),mg x=some (.ref f)/\PySem.W.keepIn K (.ref f)=true/\zf9 K fd ps []/\FnOk P w K mg base CX0 k f fd ps (spD K n F)
def dFun (n:Nat) (F:List D->Option D) (g:M (List D)):M D:=zas g fun xs=>if xs.length=n then mOpt (F xs) else fun _=>.bad
section
variable {X:Cx} {B G0:Hp} {e:Expr} {pos:Pos} {es:List Expr}
theorem znf {k n:Nat} {F:List D->Option D} {g:M (List D)} {x:Str} {p2:Pos} (d:Def X.prog X.w X.K X.mg X.base x k n F) (hr:Room k X.A) (hg:Gl X x) (ha:PA X (e :: es) (tDs X.K B G0 g)) (hn:(e :: es).length=n:=by rfl)
  (hdb:(x == ("__debug__" : Str))=false:=by decide) (he:starEach (e :: es) X.env=(false,eval e X.env) :: starEach es X.env:=by rfl) (hpl:(backTo pos (starEach es X.env)).any (·.1)=false:=by rfl) :
  PE X (.Call (.Name x p2) (e :: es) [] pos) (tD X.K B G0 (dFun n F g)):=by
 obtain ⟨f,fd,ps,h1,h2,h3,h4⟩:=d
 exact zlE h4 hr hg h1 h2 h3 ha hn hdb he hpl
end
theorem Def.mk {P:Program} {w:World} {K:PySem.W.Frag} {mg:Str->Option Value} {base:Heap} {x:Str} {k n:Nat} {F:List D->Option D} {st:Stmt} {f:Addr} {fd:FuncData} {ps:List Str} (hm:mg x=some (.ref f)) (FU:Fun K x x st f fd) (hb:zf9 K fd ps []) (ok:FnOk P w K mg base CX0 k f fd ps (spD K n F)) :
  Def P w K mg base x k n F:=⟨f,fd,ps,hm,FU.kp,hb,ok⟩
theorem zot {K:PySem.W.Frag} {H:Hp} {a:Addr} {ns:List Int} {F:List D->Option D} {E:XK} (hS:SqL K H a (ns.map V.int)) (h:F [.list (ns.map PyData.int)]=some (.bool true)):spD K 1 F [.ref a] H (fun v _=>v=.bl true) E :=
 ⟨H,[.list (ns.map PyData.int)],.bool true,rfl,.refl _,.cons (.lst hS (Reps.ints ns)) .nil,h,fun _ _ _ _ r=>r.bl_inv⟩
end DL
namespace L2
open PySem PySem.Spec PyProof.Rows
theorem mem_of_lookup {x:Str} {k:NameKind}:∀ {l:List (Str × NameKind)},l.lookup x=some k->(x,k) ∈ l
 | [],h=>by cases h
 | (y,j) :: r,h=>by
  rw [List.lookup_cons] at h
  split at h
  ·rename_i e
   cases h
   have:x=y:=by simpa using e
   rw [this];exact List.mem_cons_self
  ·exact List.mem_cons_of_mem _ (mem_of_lookup h)
theorem zdZ {env:Env}:∀ (l:List (Str × NameKind)) (acc:List (Str × Addr)),(∀ y ∈ l,y.2=.free->∃ c,env.cells.lookup y.1=some c) ->
  ∃ cl,(forIn l acc (fun x r=>if (x.2 == NameKind.free)=true then (do let a ← cellOf env x.1;pure (ForInStep.yield ((x.1,a) :: r))) else pure (ForInStep.yield r)):Sem (List (Str × Addr)))=pure cl /\
   (∀ x c,cl.lookup x=some c->acc.lookup x=some c ∨ env.cells.lookup x=some c)/\(∀ y ∈ l,y.2=.free->∃ c,cl.lookup y.1=some c)/\(∀ x c,acc.lookup x=some c->∃ c',cl.lookup x=some c')
 | [],acc,_=>⟨acc,rfl,fun _ _ h=>.inl h,fun _ h=>absurd h (by simp),fun x c h=>⟨c,h⟩⟩
 | (n,k) :: r,acc,h=>by
  by_cases hk:k=.free
  ·subst hk
   obtain ⟨c,hc⟩:=h (n,.free) List.mem_cons_self rfl
   obtain ⟨cl,e,p1,p2,p3⟩:=zdZ r ((n,c) :: acc) fun y hy=>h y (List.mem_cons_of_mem _ hy)
   have hco:cellOf env n=pure c:=by unfold cellOf;rw [hc]
   have key:∀ x c',((n,c) :: acc).lookup x=some c'->acc.lookup x=some c' ∨ env.cells.lookup x=some c':=fun x c' q=>by
    rw [List.lookup_cons] at q
    split at q
    ·rename_i e1
     cases q
     have:x=n:=by simpa using e1
     subst this
     exact .inr hc
    ·exact .inl q
   have own:((n,c) :: acc).lookup n=some c:=by rw [List.lookup_cons];simp
   refine ⟨cl,?_,fun x c' q=>?_,fun y hy hf=>?_,fun x c' q=>?_⟩
   ·rw [List.forIn_cons]
    have:(if (((n,NameKind.free):Str × NameKind).2 == NameKind.free)=true then (do let a ← cellOf env n;pure (ForInStep.yield ((n,a) :: acc))) else pure (ForInStep.yield acc):Sem _)=pure (ForInStep.yield ((n,c) :: acc)):=by
     rw [if_pos (show ((n,NameKind.free).snd == NameKind.free)=true from rfl),hco];rfl
    refine Eq.trans ?_ e
    dsimp only at this ⊢
    rw [this]
    rfl
   ·rcases p1 x c' q with z | z
    ·exact key x c' z
    ·exact .inr z
   ·rcases List.mem_cons.mp hy with z | z
    ·subst z
     exact p3 n c own
    ·exact p2 y z hf
   ·by_cases hx:x=n
    ·subst hx;exact p3 x c own
    ·refine p3 x c' ?_
     have hb:(x == n)=false:=by simpa using hx
     rw [List.lookup_cons,hb]
     exact q
  ·obtain ⟨cl,e,p1,p2,p3⟩:=zdZ r acc fun y hy=>h y (List.mem_cons_of_mem _ hy)
   refine ⟨cl,?_,p1,fun y hy hf=>?_,p3⟩
   ·rw [List.forIn_cons]
    have hb:(k == NameKind.free)=false:=by cases k <;> first | rfl | exact absurd rfl hk
    refine Eq.trans ?_ e
    dsimp only
    rw [hb,if_neg (by decide)]
    rfl
   ·rcases List.mem_cons.mp hy with z | z
    ·subst z;exact absurd hf hk
    ·exact p2 y z hf
theorem ziC {scope:Scope} {env:Env} (h:∀ y ∈ scope.names,y.2=.free->∃ c,env.cells.lookup y.1=some c) :
  ∃ cl,closureFor scope env=pure cl/\(∀ x c,cl.lookup x=some c->env.cells.lookup x=some c)/\∀ y ∈ scope.names,y.2=.free->∃ c,cl.lookup y.1=some c:=by
 obtain ⟨cl,e,p1,p2,_⟩:=zdZ scope.names [] h
 refine ⟨cl,?_,fun x c q=>(p1 x c q).elim (fun z=>by cases z) id,p2⟩
 have e2:((forIn scope.names [] (fun x r=>if (x.2 == NameKind.free)=true then (do let a ← cellOf env x.1;pure (ForInStep.yield ((x.1,a) :: r))) else pure (ForInStep.yield r)):Sem (List (Str × Addr))) >>= fun s=>pure s)=pure cl:=by
  rw [e];rfl
 exact e2
theorem zeH {env:Env} {x:Str} {k:NameKind}:∀ {names:List (Str × NameKind)},(names.map fun (n,k)=>if (k == NameKind.free && env.scope.kind == .function && env.kindOf n == some .cell) then (n,NameKind.cell) else (n,k)).lookup x=some k ->
  names.lookup x=some k ∨ (names.lookup x=some .free/\k=.cell)
 | [],h=>by cases h
 | (n,j) :: r,h=>by
  have ih:=@zeH env x k r
  have h:List.lookup x ((if (j == NameKind.free && env.scope.kind == .function && env.kindOf n == some .cell)=true then (n,NameKind.cell) else (n,j)) :: _)=some k:=h
  cases hx:x == n with
  | true =>
   by_cases hc:(j == NameKind.free && env.scope.kind == .function && env.kindOf n == some .cell)=true
   ·rw [if_pos hc] at h
    simp only [List.lookup_cons,hx] at h ⊢
    cases h
    simp only [Bool.and_eq_true] at hc
    have:j=.free:=by have:=hc.1.1;cases j <;> first | rfl | cases this
    subst this
    exact .inr ⟨rfl,rfl⟩
   ·rw [if_neg hc] at h
    simp only [List.lookup_cons,hx] at h ⊢
    exact .inl h
  | false =>
   by_cases hc:(j == NameKind.free && env.scope.kind == .function && env.kindOf n == some .cell)=true
   ·rw [if_pos hc] at h
    simp only [List.lookup_cons,hx] at h ⊢
    exact ih h
   ·rw [if_neg hc] at h
    simp only [List.lookup_cons,hx] at h ⊢
    exact ih h
theorem zee {env:Env} {x:Str}:∀ {names:List (Str × NameKind)},names.lookup x=some .free ->
  (names.map fun (n,k)=>if (k == NameKind.free && env.scope.kind == .function && env.kindOf n == some .cell) then (n,NameKind.cell) else (n,k)).lookup x=some .free ∨
  (names.map fun (n,k)=>if (k == NameKind.free && env.scope.kind == .function && env.kindOf n == some .cell) then (n,NameKind.cell) else (n,k)).lookup x=some .cell
 | [],h=>by cases h
 | (n,j) :: r,h=>by
  have ih:=@zee env x r
  show List.lookup x ((if (j == NameKind.free && env.scope.kind == .function && env.kindOf n == some .cell)=true then (n,NameKind.cell) else (n,j)) :: _)=_ ∨ List.lookup x ((if (j == NameKind.free && env.scope.kind == .function && env.kindOf n == some .cell)=true then (n,NameKind.cell) else (n,j)) :: _)=_
  cases hx:x == n with
  | true =>
   simp only [List.lookup_cons,hx] at h
   cases h
   by_cases hc:(NameKind.free == NameKind.free && env.scope.kind == .function && env.kindOf n == some .cell)=true
   ·rw [if_pos hc];simp [List.lookup_cons,hx]
   ·rw [if_neg hc];simp [List.lookup_cons,hx]
  | false =>
   simp only [List.lookup_cons,hx] at h
   by_cases hc:(j == NameKind.free && env.scope.kind == .function && env.kindOf n == some .cell)=true
   ·rw [if_pos hc];simp only [List.lookup_cons,hx];exact ih h
   ·rw [if_neg hc];simp only [List.lookup_cons,hx];exact ih h
theorem zfh {env:Env} {x:Str}:∀ {names:List (Str × NameKind)},names.lookup x=some .globalImplicit ->
  (names.map fun (n,k)=>if (k == NameKind.free && env.scope.kind == .function && env.kindOf n == some .cell) then (n,NameKind.cell) else (n,k)).lookup x=some .globalImplicit
 | [],h=>by cases h
 | (n,j) :: r,h=>by
  have ih:=@zfh env x r
  show List.lookup x ((if (j == NameKind.free && env.scope.kind == .function && env.kindOf n == some .cell)=true then (n,NameKind.cell) else (n,j)) :: _)=_
  cases hx:x == n with
  | true =>
   simp only [List.lookup_cons,hx] at h
   cases h
   rw [if_neg (by simp)]
   simp [List.lookup_cons,hx]
  | false =>
   simp only [List.lookup_cons,hx] at h
   by_cases hc:(j == NameKind.free && env.scope.kind == .function && env.kindOf n == some .cell)=true
   ·rw [if_pos hc];simp only [List.lookup_cons,hx];exact ih h
   ·rw [if_neg hc];simp only [List.lookup_cons,hx];exact ih h
def Cx.blk (X:Cx) (N':List Str) (scope:Scope) (cl:List (Str × Addr)) (C:Addr) (s₀ : Shared) (H₀ : Hp) (ex:List Addr):Cx :=
 { X with N:=N',s₀:=s₀,H₀:=H₀,env:=compEnvC scope cl C X.env,outer:=X.stack,ex:=ex,fn:=fun _=>false,xe:=fun _ _=>False }
section
variable {X:Cx} {N':List Str} {scope:Scope} {cl:List (Str × Addr)} {C:Addr} {s₀ : Shared} {H₀ : Hp} {ex:List Addr} {x:Str}
theorem zng (h:scope.names.lookup x=some .local ∨ scope.names.lookup x=some .free):Vis (X.blk N' scope cl C s₀ H₀ ex).env.scope x:=by
 rcases h with h | h
 ·exact .inl (lookup_relabel_local h)
 ·rcases zee (env:=X.env) h with z | z
  ·exact .inr (.inr z)
  ·exact .inr (.inl z)
theorem zaN (h:scope.names.lookup x=some .local):Loc (X.blk N' scope cl C s₀ H₀ ex).env.scope x:=.inl (lookup_relabel_local h)
theorem za6 (h:scope.names.lookup x=some .local):(X.blk N' scope cl C s₀ H₀ ex).env.scope.names.lookup x=some .local:=lookup_relabel_local h
theorem zfi (h:scope.names.lookup x=some .globalImplicit):Gl (X.blk N' scope cl C s₀ H₀ ex) x:=zfh h
end
def zdy (names:List (Str × NameKind)) (N N2:List Str) (k:Nat):Bool :=
 N2.length == N.length+k && (List.range N2.length).all fun i=>match N2[i]? with
  | none=>true
  | some x=>match names.lookup x with
   | some .free=>N[i]? == some x
   | some .local=>decide (N.length<=i) && decide (i < N.length+k)
   | some .cell=>false
   | _=>true
theorem zgn {names:List (Str × NameKind)} {N N2:List Str} {k:Nat} (h:zdy names N N2 k=true) :
  N2.length=N.length+k/\∀ (i:Nat) x,N2[i]?=some x->(names.lookup x=some .free->N[i]?=some x)/\(names.lookup x=some .local->N.length<=i/\i < N.length+k):=by
 unfold zdy at h
 simp only [Bool.and_eq_true,beq_iff_eq,List.all_eq_true,List.mem_range] at h
 refine ⟨h.1,fun i x e=>?_⟩
 have hi:=(List.getElem?_eq_some_iff.mp e).1
 have:=h.2 i hi
 rw [e] at this
 refine ⟨fun q=>?_,fun q=>?_⟩
 ·simp only [q] at this
  simpa using this
 ·simp only [q] at this
  simpa using this
theorem Inv.enter {X:Cx} {pins:List (Addr × Obj)} {σ : St} {H:Hp} {s3:Shared} (I:Inv X pins σ H s3) {scope:Scope} {cl:List (Str × Addr)} {N2:List Str} {k:Nat} {h':Heap} {fp:List Addr} {t':Nat} {m0:Str->Option Value}
  (hb:zdy scope.names X.N N2 k=true) (hkind:scope.kind=.function) (hcell:∀ y ∈ scope.names,y.2 ≠ .cell)
  (hfree:∀ y ∈ scope.names,y.2=.free->X.env.scope.names.lookup y.1=some .cell ∨ X.env.scope.names.lookup y.1=some .free)
  (cl1:∀ x c,cl.lookup x=some c->X.env.cells.lookup x=some c) (cl2:∀ y ∈ scope.names,y.2=.free->∃ c,cl.lookup y.1=some c)
  (hn:h'.Ns s3.heap.objs.size m0) (hk:∀ b o,s3.heap.get? b=some o->h'.get? b=some o) (hf:∀ b ∈ fp,FpOk X pins H b) (hfo:∀ b ∈ fp,∃ o,s3.heap.get? b=some o) :
  Inv (X.blk N2 scope cl s3.heap.objs.size s3 H fp) pins (σ ++ List.replicate k none) H { s3 with heap:=h',toks:=t' }:=by
 obtain ⟨hl,hN⟩:=zgn hb
 have lt:∀ b o,s3.heap.get? b=some o->b ≠ s3.heap.objs.size:=fun b o e=>Nat.ne_of_lt (Heap.lt_size e)
 have ofl:∀ x,scope.names.lookup x=some .free->(x,NameKind.free) ∈ scope.names:=fun x h=>mem_of_lookup h
 have kinv:∀ x kk,(X.blk N2 scope cl s3.heap.objs.size s3 H fp).env.scope.names.lookup x=some kk->scope.names.lookup x=some kk ∨ (scope.names.lookup x=some .free/\kk=.cell):=fun x kk h=>zeH (env:=X.env) h
 have isfree:∀ x,(X.blk N2 scope cl s3.heap.objs.size s3 H fp).env.scope.names.lookup x=some .cell ∨ (X.blk N2 scope cl s3.heap.objs.size s3 H fp).env.scope.names.lookup x=some .free->scope.names.lookup x=some .free:=fun x h=>by
  rcases h with h | h
  ·rcases kinv x _ h with z | z
   ·exact absurd rfl (hcell _ (mem_of_lookup z))
   ·exact z.1
  ·rcases kinv x _ h with z | z
   ·exact z
   ·exact z.1
 have ok:(X.blk N2 scope cl s3.heap.objs.size s3 H fp).Ok :=
  {
   mod:=I.ok.mod
   kind:=hkind
   glob:=I.ok.glob
   blt:=I.ok.blt
   above:=Nat.le_refl _
   inj:=fun x y c a b=>I.ok.inj x y c (cl1 x c a) (cl1 y c b)
   has:=fun x h=>cl2 (x,.free) (ofl x (isfree x h)) rfl
   cab:=fun x c h=>by cases h
   hd:=I.ok.hd
   frames:=I.ok.frames
   stk:=.inl rfl
   exf:=fun b hb=>⟨let ⟨o,e⟩:=hfo b hb;lt b o e,fun x c e=>(hf b hb).2.2.2.2.1 x c (cl1 x c e)⟩
   bs:=I.bs
   bsz:=Nat.le_trans I.ok.bsz I.sz
   noex:=fun b o e hb=>by
    rcases (hf b hb).2.2.2.1 with z | z
    ·exact I.ok.noex b o e z
    ·exact absurd (Nat.lt_of_lt_of_le (Heap.lt_size e) (Nat.le_trans I.ok.bsz z)) (Nat.lt_irrefl _)
   exfs:=fun b hb hx=>by
    rcases List.mem_cons.mp (I.stkSub b hx) with z | z
    ·exact (hf b hb).2.1 z
    ·exact (hf b hb).2.2.1 z
   funs:=I.stack
   frf:=I.stkFree }
 refine ⟨ok,rfl,I.bare,Un.kept hk,⟨m0,hn,fun i x v e1 e2 e3=>?_⟩,fun x c e=>?_,I.hok.fresh (Nat.le_refl _),fun x c e=>I.freeC x c (cl1 x c e),fun p hp=>?_,I.hok.kept hk,?_⟩
 ·have nl:scope.names.lookup x ≠ some .local:=fun z=>by
   obtain ⟨g1,g2⟩:=(hN i x e1).2 z
   rw [← I.len] at g1 g2
   rw [List.getElem?_append_right g1,List.getElem?_replicate] at e2
   split at e2 <;> cases e2
  have fr:scope.names.lookup x=some .free:=by
   rcases e3 with z | z | z
   ·rcases kinv x _ z with q | q
    ·exact absurd q nl
    ·cases q.2
   ·exact isfree x (.inl z)
   ·exact isfree x (.inr z)
  have eN:=(hN i x e1).1 fr
  have hi:i < σ.length:=by rw [I.len];exact (List.getElem?_eq_some_iff.mp eN).1
  rw [List.getElem?_append_left hi] at e2
  obtain ⟨m,hm,hlk⟩:=I.loc
  have hkd:=hfree _ (ofl x fr) rfl
  obtain ⟨u,r,l⟩:=hlk i x v eN e2 (.inr hkd)
  refine ⟨u,r,.inr ⟨?_,?_⟩⟩
  ·rcases e3 with z | z | z
   ·rcases kinv x _ z with q | q
    ·exact absurd q nl
    ·cases q.2
   ·exact .inl z
   ·exact .inr z
  ·rcases l with l | ⟨_,c,ec,z⟩
   ·have:X.env.scope.names.lookup x=some .local:=l.1
    rcases hkd with q | q <;> (dsimp only at q;rw [this] at q;cases q)
   ·obtain ⟨c',ec'⟩:=cl2 _ (ofl x fr) rfl
    have:=cl1 _ _ ec'
    dsimp only at this ec'
    rw [ec] at this
    cases this
    obtain ⟨o,ho,hd⟩:=z
    exact ⟨c,ec',o,hk c o ho,hd⟩
 ·obtain ⟨v,o,ho,hd⟩:=I.cell x c (cl1 x c e)
  exact ⟨v,o,hk c o ho,hd⟩
 ·obtain ⟨e,n,ne,nf,d⟩:=I.pin p hp
  refine ⟨hk _ _ e,n,lt _ _ e,fun z=>?_,d⟩
  rcases List.mem_cons.mp (I.stkSub _ z) with q | q
  ·exact ne q
  ·exact nf q
 ·rw [List.length_append,List.length_replicate,I.len]
  exact hl.symm
section
variable {prog:Program} {w:World} {A:Around} {R:Result->Shared->Prop} {s:Shared}
end
abbrev nox:Value->Shared->Prop:=fun _ _=>False
def zdz (prog:Program) (w:World) (A:Around) (tg:Expr) (ifs:List Expr) (env:Env) (it:Value) (code:Code) (W:(Shared->Prop)->Shared->Prop):Prop :=
 ∀ (R:Result->Shared->Prop) (I:Nat->Shared->Prop) (n:Nat) (s:Shared),I n s ->
  (∀ n s,I n s->wpAny (model prog w) A (pyNext it) (fun r s₁=>match r with
   | none=>R (.ok .next) s₁
   | some v=>wpAny (model prog w) A (letOwnedTupleGo tg it v) (fun _ s₁'=>wpAny (model prog w) A (assign tg env v) (fun _ s₂ =>
     wpAny (model prog w) A (forIn ifs true fun c r=>if r=true then do let ok ← isTrue c env (eval c env);pure (ForInStep.yield ok) else pure (ForInStep.yield r)) (fun ok s₃ =>
      if ok=true then W (fun s₅=>∃ m,m < n/\I m s₅) s₃ else ∃ m,m < n/\I m s₃) nox s₂) nox s₁') nox s₁) nox s)->codeAny (model prog w) A code R s
section
variable {prog:Program} {w:World} {A:Around} {elt tg i:Expr} {ifs:List Expr} {gens:List Comprehension} {scope:Scope} {pos:Pos} {it acc:Value} {env:Env} {j:Nat}
theorem zjI (hg:gens[j]?=some ⟨tg,i,ifs,0⟩) (hn:gens[j+1]?=none):zdz prog w A tg ifs env it (.compLoop (.ListComp elt gens scope pos) j it acc env)
  (fun Q s=>wpAny (model prog w) A (eval elt env) (fun x s₄=>wpAny (model prog w) A (call (.builtin "list.append") [acc,x]) (fun _ s₅=>Q s₅) nox s₄) nox s):=by
 intro R I n s h turn
 refine codeAny_loop rfl I (fun n s hI=>?_) n h
 show wpAny _ A ((compTurn (.ListComp elt gens scope pos) j it acc env).onRaise (fun x=>do noteFrame x env;theTreesLotGoes x)) _ _ s
 refine wpAny_noted ?_
 unfold compTurn
 dsimp only
 simp only [hg,hn]
 refine wpAny_bind (wpAny_standAt (wpAny_bind (wpAny_mono (turn n s hI) (fun r s₁ h₁=>?_) fun _ _ h'=>h'.elim)))
 cases r with
 | none=>exact wpAny_pure h₁
 | some v =>
  refine wpAny_bind (wpAny_mono h₁ (fun _ s₁' h₁'=>?_) fun _ _ h'=>h'.elim)
  refine wpAny_bind (wpAny_mono h₁' (fun _ s₂ h₂=>wpAny_bind (wpAny_mono h₂ (fun ok s₃ h₃=>?_) fun _ _ h'=>h'.elim)) fun _ _ h'=>h'.elim)
  cases ok with
  | false=>exact wpAny_pure ⟨rfl,h₃⟩
  | true=>exact wpAny_bind (wpAny_bind (wpAny_mono h₃ (fun x s₄ h₄=>wpAny_bind (wpAny_mono h₄ (fun _ s₅ h₅=>wpAny_pure (wpAny_pure ⟨rfl,h₅⟩)) fun _ _ h'=>h'.elim)) fun _ _ h'=>h'.elim))
theorem zjJ {tg1 i1:Expr} {ifs1:List Expr} (hg:gens[j]?=some ⟨tg,i,ifs,0⟩) (hn:gens[j+1]?=some ⟨tg1,i1,ifs1,0⟩) (hs:∀ x,foldedSetIterable i1 env x=pure x):zdz prog w A tg ifs env it (.compLoop (.ListComp elt gens scope pos) j it acc env)
  (fun Q s=>wpAny (model prog w) A (eval i1 env) (fun x s₄=>wpAny (model prog w) A (pyIter x) (fun it1 s₅=>codeAny (model prog w) A (.compStart (.ListComp elt gens scope pos) (j+1) it1 acc env)
   (fun r s₆=>match r with | .ok _=>Q s₆ | .error _=>False) s₅) nox s₄) nox s):=by
 intro R I n s h turn
 refine codeAny_loop rfl I (fun n s hI=>?_) n h
 show wpAny _ A ((compTurn (.ListComp elt gens scope pos) j it acc env).onRaise (fun x=>do noteFrame x env;theTreesLotGoes x)) _ _ s
 refine wpAny_noted ?_
 unfold compTurn
 dsimp only
 simp only [hg,hn]
 refine wpAny_bind (wpAny_standAt (wpAny_bind (wpAny_mono (turn n s hI) (fun r s₁ h₁=>?_) fun _ _ h'=>h'.elim)))
 cases r with
 | none=>exact wpAny_pure h₁
 | some v =>
  refine wpAny_bind (wpAny_mono h₁ (fun _ s₁' h₁'=>?_) fun _ _ h'=>h'.elim)
  refine wpAny_bind (wpAny_mono h₁' (fun _ s₂ h₂=>wpAny_bind (wpAny_mono h₂ (fun ok s₃ h₃=>?_) fun _ _ h'=>h'.elim)) fun _ _ h'=>h'.elim)
  cases ok with
  | false=>exact wpAny_pure ⟨rfl,h₃⟩
  | true =>
   refine wpAny_bind (wpAny_mono h₃ (fun x s₄ h₄=>wpAny_bind (wpAny_standAt (wpAny_bind (wpAny_of_eq (hs x) (wpAny_bind (wpAny_holding (wpAny_mono h₄ (fun it1 s₅ h₅=>?_) fun _ _ h'=>h'.elim))))))) fun _ _ h'=>h'.elim)
   refine wpAny_bind (wpAny_runOwn (codeAny_mono h₅ fun r s₆ h₆=>?_))
   cases r with
   | ok f=>exact wpAny_pure ⟨rfl,h₆⟩
   | error x=>exact h₆.elim
theorem zgo {R:Result->Shared->Prop} {s:Shared} (hg:gens[j]?=some ⟨tg,i,ifs,0⟩)
  (h0:codeAny (model prog w) A (.compLoop (.ListComp elt gens scope pos) j it acc env) R s)
  (h:wpAny (model prog w) A (pyIter it) (fun it' s'=>codeAny (model prog w) A (.compLoop (.ListComp elt gens scope pos) j it' acc env) R s') nox s) :
  codeAny (model prog w) A (.compStart (.ListComp elt gens scope pos) j it acc env) R s:=by
 refine codeAny_of_tree ?_
 show wpAny _ _ ((compStart (.ListComp elt gens scope pos) j it acc env).onRaise (fun x=>do noteFrame x env;standAt theWindowsPlace)) _ _ s
 refine wpAny_notedAt ?_
 unfold compStart
 have hc:(clausesOf (.ListComp elt gens scope pos))[j]?=some ⟨tg,i,ifs,0⟩:=hg
 simp only [hc]
 show wpAny _ _ (ask >>= _) _ _ s
 refine wpAny_bind (wpAny_askSetting (wpAny_ite ?_))
 split
 ·first
   | exact wpAny_bind (wpAny_pure (wpAny_pure (And.intro rfl h0)))
   | exact wpAny_pure (And.intro rfl h0)
 ·first
   | exact wpAny_bind (wpAny_rule (wpAny_bind (wpAny_standAt (wpAny_bind (wpAny_mono h (fun it' s' h'=>wpAny_pure (And.intro rfl h')) fun _ _ x=>x.elim)))))
   | (refine wpAny_bind (wpAny_rule ?_);show wpAny _ _ (standAt _ >>= _) _ _ s;exact wpAny_bind (wpAny_standAt (wpAny_bind (wpAny_mono h (fun it' s' h'=>wpAny_pure (And.intro rfl h')) fun _ _ x=>x.elim))))
end
end L2
namespace DL
open PySem PySem.Spec L2
open PyProof.Rows hiding St
def zd0:Option Sl->Option Sl
 | some (.own _)=>none
 | some (.deep _ _)=>none
 | x=>x
def zaH (ρ : DEnv):DEnv:=ρ.map zd0
theorem zjK {ρ : DEnv} {i:Nat} {d:D} (h:(zaH ρ)[i]?=some (some (.pub d))) : ρ[i]?=some (some (.pub d)):=by
 unfold zaH at h
 rw [List.getElem?_map] at h
 cases e : ρ[i]? with
 | none=>rw [e] at h;cases h
 | some o =>
  rw [e] at h
  cases o with
  | none=>cases h
  | some sl=>cases sl with
   | pub d'=>cases h;rfl
   | own ds=>cases h
   | deep p d'=>cases h
theorem zb4 {ρ : DEnv} {i:Nat} {ds:List D} (h:(zaH ρ)[i]?=some (some (.own ds))):False:=by
 unfold zaH at h
 rw [List.getElem?_map] at h
 cases e : ρ[i]? with
 | none=>rw [e] at h;cases h
 | some o =>
  rw [e] at h
  cases o with
  | none=>cases h
  | some sl=>cases sl with
   | pub d'=>cases h
   | own ds=>cases h
   | deep p d'=>cases h
theorem zd1 {ρ : DEnv} {i:Nat} {p:Pat} {d:D} (h:(zaH ρ)[i]?=some (some (.deep p d))):False:=by
 unfold zaH at h
 rw [List.getElem?_map] at h
 cases e : ρ[i]? with
 | none=>rw [e] at h;cases h
 | some o =>
  rw [e] at h
  cases o with
  | none=>cases h
  | some sl=>cases sl <;> cases h
def zbl (s:D->DEnv->Option DEnv) (t:M Bool) (g:M D):List D->DEnv->List D->Option (List D)
 | [],_,es=>some es
 | d :: r,ρ,es=>match s d ρ with
  | none=>none
  | some ρ1=>match t ρ1 with
   | .bad=>none
   | .ok b ρ2=>if b=true then (match g ρ2 with
     | .bad=>none
     | .ok e ρ3=>if es.length < 1000000 then zbl s t g r (zaH ρ3) (es ++ [e]) else none)
    else zbl s t g r (zaH ρ2) es
def zcm (f:M (List D)) (k:Nat) (s:D->DEnv->Option DEnv) (t:M Bool) (g:M D):M (List D):=fun ρ=>match f ρ with
 | .bad=>.bad
 | .ok ds ρ1=>match zbl s t g ds (zaH ρ1 ++ List.replicate k none) [] with
  | none=>.bad
  | some es=>.ok es ρ1
def PIfs (X:Cx) (ifs:List Expr) (t:TT):Prop :=
 ∀ (pins:List (Addr × Obj)) (s:Shared) (σ : St) (H:Hp) (Q:Bool->Hp->Prop),Inv X pins σ H s->t σ H Q ->
  wpAny (model X.prog X.w) X.A (forIn ifs true fun c r=>if r=true then do let ok ← isTrue c X.env (eval c X.env);pure (ForInStep.yield ok) else pure (ForInStep.yield r)) (TP X pins σ Q) X.xe s
section
variable {X:Cx} {B G0:Hp}
theorem zbR:PIfs X [] (tBo X.K B G0 (zah true)):=fun pins s σ H Q I ⟨G,ρ,k,a⟩=>wpAny_tests_nil ⟨H,I,a true G H k (.refl _) rfl⟩
theorem zcM {c:Expr} {t:M Bool} (h:PT X c (tBo X.K B G0 t)):PIfs X [c] (tBo X.K B G0 t):=fun pins s σ H Q I q=>wpAny_tests_one (h pins s σ H Q I q)
theorem EOk.rebase {K:PySem.W.Frag} {G H:Hp} {σ : St} {ρ : DEnv} (k:EOk K B G0 G H σ ρ):EOk K H G G H σ (zaH ρ) where
 bh:=.refl _
 gh:=k.gh
 g0:=.refl _
 np:=fun _ _ _ n=>n
 len:=by unfold zaH;rw [List.length_map];exact k.len
 pub:=fun i d q=>k.pub i d (zjK q)
 own:=fun i ds q=>(zb4 q).elim
 sep:=fun i j a ds es q=>(zb4 q).elim
 dp:=.of (fun _ _ _ q=>zd1 q) fun _ _ q=>zb4 q
theorem EOk.more {K:PySem.W.Frag} {G H:Hp} {σ : St} {ρ : DEnv} (k:EOk K H G G H σ (zaH ρ)) (n:Nat):EOk K H G G H (σ ++ List.replicate n none) (zaH ρ ++ List.replicate n none) where
 bh:=.refl _
 gh:=k.gh
 g0:=.refl _
 np:=fun _ _ _ n=>n
 len:=by rw [List.length_append,List.length_append,k.len,List.length_replicate,List.length_replicate]
 pub:=fun i d q=>by
  by_cases hi:i < (zaH ρ).length
  ·rw [List.getElem?_append_left hi] at q
   rw [List.getElem?_append_left (by rw [← k.len];exact hi)]
   exact k.pub i d q
  ·rw [List.getElem?_append_right (Nat.le_of_not_lt hi),List.getElem?_replicate] at q
   split at q <;> cases q
 own:=fun i ds q=>by
  by_cases hi:i < (zaH ρ).length
  ·rw [List.getElem?_append_left hi] at q
   exact (zb4 q).elim
  ·rw [List.getElem?_append_right (Nat.le_of_not_lt hi),List.getElem?_replicate] at q
   split at q <;> cases q
 sep:=fun i j a ds es q=>by
  by_cases hi:i < (zaH ρ).length
  ·rw [List.getElem?_append_left hi] at q
   exact (zb4 q).elim
  ·rw [List.getElem?_append_right (Nat.le_of_not_lt hi),List.getElem?_replicate] at q
   split at q <;> cases q
 dp:=by
  refine .of (fun i p d q=>?_) fun i ds q=>?_
  ·by_cases hi:i < (zaH ρ).length
   ·rw [List.getElem?_append_left hi] at q;exact zd1 q
   ·rw [List.getElem?_append_right (Nat.le_of_not_lt hi),List.getElem?_replicate] at q;split at q <;> cases q
  ·by_cases hi:i < (zaH ρ).length
   ·rw [List.getElem?_append_left hi] at q;exact zb4 q
   ·rw [List.getElem?_append_right (Nat.le_of_not_lt hi),List.getElem?_replicate] at q;split at q <;> cases q
theorem EOk.beside {K:PySem.W.Frag} {G H:Hp} {σ : St} {ρ : DEnv} {a:Addr} {o:HO} (k:EOk K B G0 G H σ ρ) (hg:G a=none):EOk K (upd H a o) G G (upd H a o) σ (zaH ρ) where
 bh:=.refl _
 gh:=fun b u e=>by rw [zaR (fun z=>by subst z;rw [hg] at e;cases e)];exact k.gh b u e
 g0:=.refl _
 np:=fun _ _ _ n=>n
 len:=k.rebase.len
 pub:=k.rebase.pub
 own:=fun i ds q=>(zb4 q).elim
 sep:=fun i j a ds es q=>(zb4 q).elim
 dp:=.of (fun _ _ _ q=>zd1 q) fun _ _ q=>zb4 q
theorem lim1:1000000<=sizeLine:=lim
def znh:Option Sl->Option Sl
 | some (.own ds)=>some (.pub (.list ds))
 | some (.deep _ d)=>some (.pub d)
 | x=>x
def zb7 (ρ : DEnv):DEnv:=ρ.map znh
theorem zgp {ρ : DEnv} {i:Nat} {d:D} (h:(zb7 ρ)[i]?=some (some (.pub d))) : ρ[i]?=some (some (.pub d)) ∨ (∃ ds,d=.list ds /\ ρ[i]?=some (some (.own ds))) ∨ ∃ p,ρ[i]?=some (some (.deep p d)):=by
 unfold zb7 at h
 rw [List.getElem?_map] at h
 cases e : ρ[i]? with
 | none=>rw [e] at h;cases h
 | some o =>
  rw [e] at h
  cases o with
  | none=>cases h
  | some sl=>cases sl with
   | pub d'=>cases h;exact .inl rfl
   | own ds=>cases h;exact .inr (.inl ⟨ds,rfl,rfl⟩)
   | deep p d'=>cases h;exact .inr (.inr ⟨p,rfl⟩)
theorem zcB {ρ : DEnv} {i:Nat} {ds:List D} (h:(zb7 ρ)[i]?=some (some (.own ds))):False:=by
 unfold zb7 at h
 rw [List.getElem?_map] at h
 cases e : ρ[i]? with
 | none=>rw [e] at h;cases h
 | some o =>
  rw [e] at h
  cases o with
  | none=>cases h
  | some sl=>cases sl with
   | pub d'=>cases h
   | own ds=>cases h
   | deep p d'=>cases h
theorem zfj {ρ : DEnv} {i:Nat} {p:Pat} {d:D} (h:(zb7 ρ)[i]?=some (some (.deep p d))):False:=by
 unfold zb7 at h
 rw [List.getElem?_map] at h
 cases e : ρ[i]? with
 | none=>rw [e] at h;cases h
 | some o =>
  rw [e] at h
  cases o with
  | none=>cases h
  | some sl=>cases sl <;> cases h
def flat:D->Bool
 | .none=>true | .bool _=>true | .int _=>true | .str _=>true | _=>false
theorem Rep.flat {K:PySem.W.Frag} {G G':Hp} {v:V} {d:D} (r:Rep K G v d) (h:DL.flat d=true):Rep K G' v d:=by
 cases r with
 | non=>exact .non
 | bl b=>exact .bl b
 | int i=>exact .int i
 | str x=>exact .str x
 | lst _ _=>cases h
 | tup _ _=>cases h
 | dic _=>cases h
 | exc _ _ _ _=>cases h
 | dct _ _ _ _ _=>cases h
 | dtt _ _ _ _=>cases h
theorem Reps.flat {K:PySem.W.Frag} {G G':Hp}:∀ {vs:List V} {ds:List D},Reps K G vs ds->ds.all DL.flat=true->Reps K G' vs ds
 | _,_,.nil,_=>.nil
 | _,_,.cons r t,h=>by
  rw [List.all_cons,Bool.and_eq_true] at h
  exact .cons (r.flat h.1) (Reps.flat t h.2)
theorem EOk.lend {K:PySem.W.Frag} {B G0 G H:Hp} {σ : St} {ρ : DEnv} {D:Addr} {o:HO} (k:EOk K B G0 G H σ ρ) (hD:H D=none) (n:Nat):EOk K (upd H D o) H H (upd H D o) (σ ++ List.replicate n none) (zb7 ρ ++ List.replicate n none) where
 bh:=.refl _
 gh:=zaM hD
 g0:=.refl _
 np:=fun _ _ _ n=>n
 len:=by unfold zb7;rw [List.length_append,List.length_append,List.length_map,k.len,List.length_replicate,List.length_replicate]
 pub:=fun i d q=>by
  have hl:(zb7 ρ).length = ρ.length:=by unfold zb7;rw [List.length_map]
  by_cases hi:i < (zb7 ρ).length
  ·rw [List.getElem?_append_left hi] at q
   rw [List.getElem?_append_left (by rw [← k.len,← hl];exact hi)]
   rcases zgp q with e | ⟨ds,rfl,e⟩ | ⟨p,e⟩
   ·obtain ⟨v,h1,h2⟩:=k.pub i d e
    exact ⟨v,h1,h2.mono k.gh⟩
   ·obtain ⟨a,vs,h1,h2,h3,h4,h5⟩:=k.own i ds e
    exact ⟨.ref a,h1,.lst (SqL.of h4) (h5.mono k.gh)⟩
   ·obtain ⟨ω,k1,k2⟩:=k.dp
    obtain ⟨v,fp,s,r,_⟩:=k1 i p d e
    exact ⟨v,s,r.rep k.gh⟩
  ·rw [List.getElem?_append_right (Nat.le_of_not_lt hi),List.getElem?_replicate] at q
   split at q <;> cases q
 own:=fun i ds q=>by
  by_cases hi:i < (zb7 ρ).length
  ·rw [List.getElem?_append_left hi] at q
   exact (zcB q).elim
  ·rw [List.getElem?_append_right (Nat.le_of_not_lt hi),List.getElem?_replicate] at q
   split at q <;> cases q
 sep:=fun i j a ds es q=>by
  by_cases hi:i < (zb7 ρ).length
  ·rw [List.getElem?_append_left hi] at q
   exact (zcB q).elim
  ·rw [List.getElem?_append_right (Nat.le_of_not_lt hi),List.getElem?_replicate] at q
   split at q <;> cases q
 dp:=by
  refine .of (fun i p d q=>?_) fun i ds q=>?_
  ·by_cases hi:i < (zb7 ρ).length
   ·rw [List.getElem?_append_left hi] at q;exact zfj q
   ·rw [List.getElem?_append_right (Nat.le_of_not_lt hi),List.getElem?_replicate] at q;split at q <;> cases q
  ·by_cases hi:i < (zb7 ρ).length
   ·rw [List.getElem?_append_left hi] at q;exact zcB q
   ·rw [List.getElem?_append_right (Nat.le_of_not_lt hi),List.getElem?_replicate] at q;split at q <;> cases q
def zfk (f:M (List D)) (k:Nat) (s:D->DEnv->Option DEnv) (t:M Bool) (g:M D):M (List D):=fun ρ=>match f ρ with
 | .bad=>.bad
 | .ok ds ρ1=>match zbl s t g ds (zb7 ρ1 ++ List.replicate k none) [] with
  | none=>.bad
  | some es=>if es.all flat=true then .ok es ρ1 else .bad
end
def zcd (s:D->DEnv->Option DEnv) (t:M Bool) (g:M D):List D->DEnv->List D->Option (List D × DEnv)
 | [],ρ,es=>some (es,ρ)
 | d :: r,ρ,es=>match s d ρ with
  | none=>none
  | some ρ1=>match t ρ1 with
   | .bad=>none
   | .ok b ρ2=>if b=true then (match g ρ2 with
     | .bad=>none
     | .ok e ρ3=>if es.length < 1000000 then zcd s t g r (zaH ρ3) (es ++ [e]) else none)
    else zcd s t g r (zaH ρ2) es
def zcZ (s0:D->DEnv->Option DEnv) (t0:M Bool) (f1:M (List D)) (s1:D->DEnv->Option DEnv) (t1:M Bool) (g:M D):List D->DEnv->List D->Option (List D)
 | [],_,es=>some es
 | d :: r,ρ,es=>match s0 d ρ with
  | none=>none
  | some ρ1=>match t0 ρ1 with
   | .bad=>none
   | .ok b ρ2=>if b=true then (match f1 ρ2 with
     | .bad=>none
     | .ok ds ρ3=>match zcd s1 t1 g ds (zaH ρ3) es with
      | none=>none
      | some (es',ρ4)=>zcZ s0 t0 f1 s1 t1 g r ρ4 es')
    else zcZ s0 t0 f1 s1 t1 g r (zaH ρ2) es
def zgq (f:M (List D)) (k:Nat) (s:D->DEnv->Option DEnv) (t:M Bool) (f1:M (List D)) (s1':D->DEnv->Option DEnv) (t1':M Bool) (g:M D):M (List D):=fun ρ=>match f ρ with
 | .bad=>.bad
 | .ok ds ρ1=>match zcZ s t f1 s1' t1' g ds (zaH ρ1 ++ List.replicate k none) [] with
  | none=>.bad
  | some es=>.ok es ρ1
def zcu (s0:D->DEnv->Option DEnv) (t0:M Bool) (f1:M (List D)) (Rd:List D->DEnv->List D->Option (List D × DEnv)):List D->DEnv->List D->Option (List D × DEnv)
 | [],ρ,es=>some (es,ρ)
 | d :: r,ρ,es=>match s0 d ρ with
  | none=>none
  | some ρ1=>match t0 ρ1 with
   | .bad=>none
   | .ok b ρ2=>if b=true then (match f1 ρ2 with
     | .bad=>none
     | .ok ds ρ3=>match Rd ds (zaH ρ3) es with
      | none=>none
      | some (es',ρ4)=>zcu s0 t0 f1 Rd r ρ4 es')
    else zcu s0 t0 f1 Rd r (zaH ρ2) es
def lead (Rd:List D->DEnv->List D->Option (List D × DEnv)) (ds:List D) (ρ : DEnv) (es:List D):Option (List D):=(Rd ds ρ es).map (·.1)
def zgr (f:M (List D)) (k:Nat) (s:D->DEnv->Option DEnv) (t:M Bool) (f1:M (List D)) (s1':D->DEnv->Option DEnv) (t1':M Bool) (fx2:M (List D)) (s2':D->DEnv->Option DEnv) (t2':M Bool) (g:M D):M (List D):=fun ρ=>match f ρ with
 | .bad=>.bad
 | .ok ds ρ1=>match lead (zcu s t f1 (zcu s1' t1' fx2 (zcd s2' t2' g))) ds (zaH ρ1 ++ List.replicate k none) [] with
  | none=>.bad
  | some es=>.ok es ρ1
abbrev RdB:=DEnv->List D->Option (List D × DEnv)
def rL (g:M D):RdB:=fun ρ es=>match g ρ with
 | .bad=>none
 | .ok e ρ3=>if es.length < 1000000 then some (es ++ [e],zaH ρ3) else none
def cT (s:D->DEnv->Option DEnv) (t:M Bool) (rd:RdB):List D->DEnv->List D->Option (List D × DEnv)
 | [],ρ,es=>some (es,ρ)
 | d :: r,ρ,es=>match s d ρ with
  | none=>none
  | some ρ1=>match t ρ1 with
   | .bad=>none
   | .ok b ρ2=>if b=true then (match rd ρ2 es with
     | none=>none
     | some (es',ρ')=>cT s t rd r ρ' es')
    else cT s t rd r (zaH ρ2) es
def rN (f:M (List D)) (s:D->DEnv->Option DEnv) (t:M Bool) (rd:RdB):RdB:=fun ρ es=>match f ρ with
 | .bad=>none
 | .ok ds ρ3=>cT s t rd ds (zaH ρ3) es
structure Left (Y:Cx) (D':Addr) (pins:List (Addr × Obj)) (H G:Hp) (es':List D) (ρ':DEnv) (σ':St) (H' G':Hp) (vs':List V) (s':Shared):Prop where
 inv:Inv Y pins σ' H' s'
 eok:EOk Y.K H' G' G' H' σ' ρ'
 hh:∀ a o,a ≠ D'->H a=some o->H' a=some o
 gg:Same G G'
 np:∀ a (u:MO),a ≠ D'->H a=some u.ho->G a=none->G' a=none
 hd:H' D'=some (.lst vs')
 gd:G' D'=none
 rp:Reps Y.K G' vs' es'
def zjL (Y:Cx) (D':Addr) (W:(Shared->Prop)->Shared->Prop) (rd:RdB):Prop :=
 ∀ (pins:List (Addr × Obj)) (sh:Shared) (σ : St) (B1 G1 H G:Hp) (ρ ρ':DEnv) (vs:List V) (es es':List D) (Q:Shared->Prop),
  Inv Y pins σ H sh->EOk Y.K B1 G1 G H σ ρ -> B1 D'=some (.lst vs)->G1 D'=none->Reps Y.K G1 vs es->rd ρ es=some (es',ρ') ->
  (∀ σ' H' G' vs' s',Left Y D' pins B1 G1 es' ρ' σ' H' G' vs' s'->Q s')->W Q sh
section
variable {Y:Cx} {D':Addr}
theorem zjM {elt:Expr} {g:M D} (hx:Y.xe=nox) (he:∀ B1 G1,PE Y elt (tD Y.K B1 G1 g)) :
  zjL Y D' (fun Q s=>wpAny (model Y.prog Y.w) Y.A (eval elt Y.env) (fun x s₄=>wpAny (model Y.prog Y.w) Y.A (call (.builtin "list.append") [.ref D',x]) (fun _ s₅=>Q s₅) nox s₄) nox s) (rL g):=by
 intro pins sh σ B1 G1 H G ρ ρ' vs es es' Q I k hD gD r z fin
 unfold rL at z
 cases zg:g ρ with
 | bad=>rw [zg] at z;cases z
 | ok e ρ4 =>
 rw [zg] at z
 dsimp only at z
 split at z
 ·rename_i hle
  cases z
  have h:=he B1 G1 pins sh σ H (fun v H8=>∃ G8,EOk Y.K B1 G1 G8 H8 σ ρ4/\Rep Y.K G8 v e) I ⟨G,ρ,k,by unfold aft;rw [zg];exact fun v G8 H8 k8 _ q=>⟨G8,k8,q⟩⟩
  rw [hx] at h
  refine thn h fun ev s8 ⟨v,H8,I8,rv,G8,k8,r8⟩=>?_
  have h2:=zgg pins s8 σ H8 (.ref D') [v] (.ref D') [ev] (fun _ H9=>H9=upd H8 D' (.lst (vs ++ [v]))) I8 rfl (.cons rv .nil) ⟨D',vs,v,rfl,rfl,k8.bh _ _ hD,by have:=lim1;rw [r.length];omega,rfl⟩
  rw [hx] at h2
  refine thn h2 fun _ s9 ⟨_,H9,I9,_,e9⟩=>?_
  subst e9
  have g8:=k8.np _ (.l _) hD gD
  exact fin σ _ G8 _ s9 ⟨I9,k8.beside g8,fun a o z q=>by rw [zaR z];exact k8.bh a o q,k8.g0,fun a o _ q w=>k8.np a o q w,zaL,g8,(r.mono k8.g0).append (.cons r8 .nil)⟩
 ·cases z
theorem zhT {tg:Expr} {ifs:List Expr} {code:Code} {W:(Shared->Prop)->Shared->Prop} {s:D->DEnv->Option DEnv} {t:M Bool} {rd:RdB} {it:Addr} (hx:Y.xe=nox) (hc:Y.calm=true) (rule:zdz Y.prog Y.w Y.A tg ifs Y.env (.ref it) code W)
  (hg:∀ B1 G1,PG Y tg (tG Y.K B1 G1 s)) (ht:∀ B1 G1,PIfs Y ifs (tBo Y.K B1 G1 t)) (hb:zjL Y D' W rd)
  {pins:List (Addr × Obj)} {sh:Shared} {σ : St} {H G:Hp} {ρ ρF:DEnv} {fp:List Addr} {tn:Nat->Heap->Prop} {J:It} {ds es esF:List D} {vs:List V} {R:Result->Shared->Prop}
  (I:Inv Y pins σ H sh) (T:Turn Y.prog Y.w Y.K tg J fp it tn) (st:tn 0 sh.heap) (hf:∀ b ∈ fp,FpOk Y pins H b)
  (k:EOk Y.K H G G H σ ρ) (its:zek Y.K J ds G) (hD:H D'=some (.lst vs)) (gD:G D'=none) (r:Reps Y.K G vs es) (zl:cT s t rd ds ρ es=some (esF,ρF))
  (hfin:∀ σ' H' G' vs' s',Left Y D' pins H G esF ρF σ' H' G' vs' s'->R (.ok .next) s'):codeAny (model Y.prog Y.w) Y.A code R sh:=by
 have stat:∀ {H':Hp},(∀ b ∈ fp,H' b=none)->∀ b ∈ fp,FpOk Y pins H' b:=fun hn b hb=>⟨hn b hb,(hf b hb).2⟩
 refine rule R (fun n s'=>∃ i σ' H' G' ρ' vs' es',n=ds.length - i/\tn i s'.heap/\(∀ b ∈ fp,H' b=none)/\Left Y D' pins H G es' ρ' σ' H' G' vs' s'/\cT s t rd (ds.drop i) ρ' es'=some (esF,ρF)) ds.length sh
  ⟨0,σ,H,G,ρ,vs,es,rfl,st,fun b hb=>(hf b hb).1,⟨I,k,fun _ _ _ q=>q,.refl _,fun _ _ _ _ n=>n,hD,gD,r⟩,by rw [List.drop_zero];exact zl⟩ ?_
 rintro n s' ⟨i,σ',H',G',ρ',vs',es',rfl,tn',fr',⟨I',k',sh',sg',np',hD',gD',r'⟩,zc⟩
 by_cases hlt:i < ds.length
 ·rw [List.drop_eq_getElem_cons hlt,cT] at zc
  cases zs:s ds[i] ρ' with
  | none=>rw [zs] at zc;cases zc
  | some ρ2 =>
  rw [zs] at zc
  dsimp only at zc
  cases zt:t ρ2 with
  | bad=>rw [zt] at zc;cases zc
  | ok b ρ3 =>
  rw [zt] at zc
  dsimp only at zc
  refine thn (T.item Y rfl rfl rfl hc i pins s' σ' H' nox I' (stat fr') tn' (its.go i G' H' sg' k'.gh hlt)) fun rr s4 ⟨u,hr,h4⟩=>?_
  subst hr
  refine thn h4 fun _ s5 ⟨x,H5,I5,r5,y5,st5,fr5⟩=>?_
  obtain ⟨G5,e5,rx⟩:=its.yld i G' H' x H5 ds[i] sg' k'.gh (List.getElem?_eq_getElem hlt) y5
  have h6:=hg H' G' _ s5 σ' H5 x u (fun σ6 H6=>∃ G6,EOk Y.K H' G' G6 H6 σ6 ρ2) (I5.pinned (stat fr5) (T.obj _ _ st5)) r5 ⟨G5,ρ',ds[i],ρ2,k'.ext e5,rx,zs,fun σ6 G6 H6 k6 _=>⟨G6,k6⟩⟩
  rw [hx] at h6
  refine thn h6 fun _ s6 ⟨σ6,H6,I6,G6,k6⟩=>?_
  have h7:=ht H' G' _ s6 σ6 H6 (fun c H7=>c=b/\∃ G7,EOk Y.K H' G' G7 H7 σ6 ρ3) I6 ⟨G6,ρ2,k6,by unfold aft;rw [zt];exact fun c G7 H7 k7 _ q=>⟨q,G7,k7⟩⟩
  rw [hx] at h7
  refine thn h7 fun ok s7 ⟨H7,I7,hb7,G7,k7⟩=>?_
  subst hb7
  have again:∀ {H9:Hp} {σ9:St} {s9:Shared},Inv Y (pins ++ zf6 fp s5.heap) σ9 H9 s9->Inv Y pins σ9 H9 s9/\tn (i+1) s9.heap/\∀ b ∈ fp,H9 b=none:=fun {H9 σ9 s9} I9=>by
   refine ⟨I9.unpinned,T.keep _ _ _ st5 fun b hb o e=>(I9.pin (b,o) (List.mem_append_right _ (List.mem_append_right _ (zc8 hb e)))).1,fun b hb=>?_⟩
   obtain ⟨o,e,d⟩:=T.obj _ _ st5 b hb
   exact (I9.pin (b,o) (List.mem_append_right _ (List.mem_append_right _ (zc8 hb e)))).2.1
  have lt:ds.length - (i+1) < ds.length - i:=Nat.sub_lt_sub_left hlt (Nat.lt_succ_self i)
  cases ok with
  | false =>
   rw [if_neg (by decide)] at zc ⊢
   obtain ⟨J1,J2,J3⟩:=again I7
   exact ⟨_,lt,i+1,σ6,H7,G7,zaH ρ3,vs',es',rfl,J2,J3,⟨J1,k7.rebase,fun a o z q=>k7.bh a o (sh' a o z q),sg'.trans k7.g0,fun a o z q w=>k7.np a o (sh' a _ z q) (np' a o z q w),k7.bh _ _ hD',k7.np _ (.l _) hD' gD',r'.mono k7.g0⟩,zc⟩
  | true =>
   rw [if_pos rfl] at zc ⊢
   cases ze:rd ρ3 es' with
   | none=>rw [ze] at zc;cases zc
   | some pr =>
   obtain ⟨es1,ρ5⟩:=pr
   rw [ze] at zc
   refine hb _ s7 σ6 H' G' H7 G7 ρ3 ρ5 vs' es' es1 _ I7 k7 hD' gD' r' ze fun σ9 H9 G9 vs9 s9 L=>?_
   obtain ⟨J1,J2,J3⟩:=again L.inv
   exact ⟨_,lt,i+1,σ9,H9,G9,ρ5,vs9,es1,rfl,J2,J3,⟨J1,L.eok,fun a o z q=>L.hh a o z (sh' a o z q),sg'.trans L.gg,fun a o z q w=>L.np a o z (sh' a _ z q) (np' a o z q w),L.hd,L.gd,L.rp⟩,zc⟩
 ·rw [List.drop_eq_nil_of_le (Nat.le_of_not_lt hlt),cT] at zc
  cases zc
  refine thn (T.done Y rfl rfl rfl hc i pins s' σ' H' nox I' (stat fr') tn' (its.stop i G' H' sg' k'.gh (Nat.le_of_not_lt hlt))) fun rr s4 ⟨hr,I6⟩=>?_
  subst hr
  exact hfin σ' H' G' vs' s4 ⟨I6,k',sh',sg',np',hD',gD',r'⟩
theorem zjN {elt tg1 i1:Expr} {ifs1:List Expr} {gens:List Comprehension} {scope:Scope} {pos:Pos} {j:Nat} {W:Value->(Shared->Prop)->Shared->Prop} {f:M (List D)} {s:D->DEnv->Option DEnv} {t:M Bool} {rd:RdB} (hx:Y.xe=nox) (hc:Y.calm=true)
  (hn:gens[j+1]?=some ⟨tg1,i1,ifs1,0⟩) (rule:∀ it1,zdz Y.prog Y.w Y.A tg1 ifs1 Y.env it1 (.compLoop (.ListComp elt gens scope pos) (j+1) it1 (.ref D') Y.env) (W it1))
  (hi:∀ B1 G1,PI Y tg1 i1 (iD Y.K B1 G1 f)) (hg:∀ B1 G1,PG Y tg1 (tG Y.K B1 G1 s)) (ht:∀ B1 G1,PIfs Y ifs1 (tBo Y.K B1 G1 t)) (hb:∀ it1,zjL Y D' (W it1) rd) :
  zjL Y D' (fun Q s=>wpAny (model Y.prog Y.w) Y.A (eval i1 Y.env) (fun x s₄=>wpAny (model Y.prog Y.w) Y.A (pyIter x) (fun it1 s₅=>codeAny (model Y.prog Y.w) Y.A (.compStart (.ListComp elt gens scope pos) (j+1) it1 (.ref D') Y.env)
   (fun r s₆=>match r with | .ok _=>Q s₆ | .error _=>False) s₅) nox s₄) nox s) (rN f s t rd):=by
 intro pins sh σ B1 G1 H G ρ ρ' vs es es' Q I k hD gD r z fin
 unfold rN at z
 cases zf:f ρ with
 | bad=>rw [zf] at z;cases z
 | ok ds ρ3 =>
 rw [zf] at z
 have h:=hi B1 G1 pins sh σ H (fun J1 H8=>∃ G8,EOk Y.K B1 G1 G8 H8 σ ρ3/\zek Y.K J1 ds G8) I ⟨G,ρ,k,by rw [zf];exact fun J1 G8 H8 k8 _ q=>⟨G8,k8,q⟩⟩
 rw [hx] at h
 refine thn h fun xv s8 h8=>thn h8 fun itv s9 h9=>?_
 obtain ⟨it1,fp1,tn1,J1,H9,rfl,I9,T1,st9,f9,G9,k9,its9⟩:=h9
 have loop:codeAny (model Y.prog Y.w) Y.A (.compLoop (.ListComp elt gens scope pos) (j+1) (.ref it1) (.ref D') Y.env) (fun r s₆=>match r with | .ok _=>Q s₆ | .error _=>False) s9 :=
  zhT hx hc (rule (.ref it1)) hg ht (hb _) I9 T1 st9 f9 k9.rebase its9 (k9.bh _ _ hD) (k9.np _ (.l _) hD gD) (r.mono k9.g0) z fun σ' H' G' vs' s' L =>
   fin σ' H' G' vs' s' ⟨L.inv,L.eok,fun a o z q=>L.hh a o z (k9.bh a o q),k9.g0.trans L.gg,fun a o z q w=>L.np a o z (k9.bh a _ q) (k9.np a o q w),L.hd,L.gd,L.rp⟩
 exact zgo hn loop (T1.self Y.A 0 _ _ _ st9 loop)
end
def zlG (Y:Cx) (e:Expr) (j:Nat) (tg:Expr) (ifs:List Expr) (rd:RdB):Prop :=
 ∀ (D':Addr) (it:Value),∃ W,zdz Y.prog Y.w Y.A tg ifs Y.env it (.compLoop e j it (.ref D') Y.env) W/\zjL Y D' W rd
section
variable {Y:Cx} {elt tg i:Expr} {ifs:List Expr} {gens:List Comprehension} {scope:Scope} {pos:Pos} {j:Nat}
theorem zaP {g:M D} (hx:Y.xe=nox) (hg:gens[j]?=some ⟨tg,i,ifs,0⟩) (hn:gens[j+1]?=none) (he:∀ B1 G1,PE Y elt (tD Y.K B1 G1 g)):zlG Y (.ListComp elt gens scope pos) j tg ifs (rL g) :=
 fun _ _=>⟨_,zjI hg hn,zjM hx he⟩
theorem zeI {tg1 i1:Expr} {ifs1:List Expr} {f:M (List D)} {s:D->DEnv->Option DEnv} {t:M Bool} {rd:RdB} (hx:Y.xe=nox) (hc:Y.calm=true) (hg:gens[j]?=some ⟨tg,i,ifs,0⟩) (hn:gens[j+1]?=some ⟨tg1,i1,ifs1,0⟩) (hs:∀ x,foldedSetIterable i1 Y.env x=pure x)
  (hi:∀ B1 G1,PI Y tg1 i1 (iD Y.K B1 G1 f)) (hgt:∀ B1 G1,PG Y tg1 (tG Y.K B1 G1 s)) (ht:∀ B1 G1,PIfs Y ifs1 (tBo Y.K B1 G1 t)) (hb:zlG Y (.ListComp elt gens scope pos) (j+1) tg1 ifs1 rd):zlG Y (.ListComp elt gens scope pos) j tg ifs (rN f s t rd) :=
 fun D' _=>⟨_,zjJ hg hn hs,zjN hx hc hn (fun it1=>(Classical.choose_spec (hb D' it1)).1) hi hgt ht (fun it1=>(Classical.choose_spec (hb D' it1)).2)⟩
end
def envB (l:Bool) (ρ : DEnv):DEnv:=match l with | true=>zb7 ρ | false=>zaH ρ
theorem zpu {K:PySem.W.Frag} {B G0 G1 H2:Hp} {σ : St} {ρ1:DEnv} {D:Addr} (l:Bool) (k1:EOk K B G0 G1 H2 σ ρ1) (hfr:H2 D=none) (n:Nat) :
  ∃ Gb,EOk K (upd H2 D (.lst [])) Gb Gb (upd H2 D (.lst [])) (σ ++ List.replicate n none) (envB l ρ1 ++ List.replicate n none)/\Same G1 Gb/\Gb D=none /\
   ∀ (G' H':Hp) vs es,(l=true->es.all flat=true)->Same Gb G'->Same H2 H'->Same G' H'->(∀ a (u:MO),H2 a=some u.ho->Gb a=none->G' a=none)->G' D=none->Reps K G' vs es->∃ Gf,Ext G1 H2 Gf H'/\Gf D=none/\Reps K Gf vs es:=by
 have gD:G1 D=none:=k1.gh.free hfr
 cases l with
 | false=>exact ⟨G1,(k1.beside gD).more n,.refl _,gD,fun G' H' vs es _ g h gh np d r=>⟨G',⟨h,g,gh,np⟩,d,r⟩⟩
 | true=>exact ⟨H2,k1.lend hfr n,k1.gh,hfr,fun G' H' vs es fl _ h _ _ _ r=>⟨G1,⟨h,.refl _,k1.gh.trans h,fun _ _ _ n=>n⟩,gD,r.flat (fl rfl)⟩⟩
def dCG (l:Bool) (f:M (List D)) (k:Nat) (s:D->DEnv->Option DEnv) (t:M Bool) (rd:RdB):M (List D):=fun ρ=>match f ρ with
 | .bad=>.bad
 | .ok ds ρ1=>match cT s t rd ds (envB l ρ1 ++ List.replicate k none) [] with
  | none=>.bad
  | some (es,_)=>if l=true->es.all flat=true then .ok es ρ1 else .bad
theorem zhd {l:Bool} {f:M (List D)} {k:Nat} {s:D->DEnv->Option DEnv} {t:M Bool} {rd:RdB} {ρ ρ':DEnv} {es:List D} (h:dCG l f k s t rd ρ = .ok es ρ'):∃ ds ρF,f ρ = .ok ds ρ'/\cT s t rd ds (envB l ρ' ++ List.replicate k none) []=some (es,ρF)/\(l=true->es.all flat=true):=by
 unfold dCG at h
 cases zf:f ρ with
 | bad=>rw [zf] at h;cases h
 | ok ds ρ1 =>
 rw [zf] at h
 dsimp only at h
 cases zl:cT s t rd ds (envB l ρ1 ++ List.replicate k none) [] with
 | none=>rw [zl] at h;cases h
 | some pr =>
 obtain ⟨esF,ρF⟩:=pr
 rw [zl] at h
 dsimp only at h
 split at h
 ·rename_i hf
  cases h
  exact ⟨ds,ρF,rfl,zl,hf⟩
 ·cases h
section
variable {X:Cx} {B G0:Hp} {KX:XW}
def PBlk (X:Cx) (N2:List Str) (scope:Scope) (e tg:Expr) (ifs:List Expr) (s:D->DEnv->Option DEnv) (t:M Bool) (rd:RdB):Prop :=
 ∀ (cl:List (Str × Addr)) (C:Addr) (s₀ : Shared) (H₀ : Hp) (ex:List Addr),(∀ B' G',PG (X.blk N2 scope cl C s₀ H₀ ex) tg (tG X.K B' G' s))/\(∀ B' G',PIfs (X.blk N2 scope cl C s₀ H₀ ex) ifs (tBo X.K B' G' t))/\zlG (X.blk N2 scope cl C s₀ H₀ ex) e 0 tg ifs rd
structure ziD (SC scope:Scope) (N1 N2:List Str) (k:Nat):Prop where
 b:zdy scope.names N1 N2 k=true
 kind:scope.kind=.function
 cell:∀ y ∈ scope.names,y.2 ≠ .cell
 names:∀ y ∈ scope.names,y.2=.local->scope.names.lookup y.1=some .local
 free:∀ y ∈ scope.names,y.2=.free->SC.names.lookup y.1=some .cell ∨ SC.names.lookup y.1=some .free
theorem zfD {l:Bool} {tg elt iter:Expr} {ifs:List Expr} {gs:List Comprehension} {scope:Scope} {pos pos':Pos} {N2:List Str} {k:Nat} {f:M (List D)} {s:D->DEnv->Option DEnv} {t:M Bool} {rd:RdB} {use:Option (Value->Sem Unit)} {Qc:Value->Shared->Prop} (hc:X.calm=true)
  (hi:PI X tg iter (iD X.K B G0 f)) (hblk:PBlk X N2 scope (.ListComp elt (⟨tg,iter,ifs,0⟩ :: gs) scope pos) tg ifs s t rd) (hb:ziD X.env.scope scope X.N N2 k) (hs:∀ x,foldedSetIterable iter X.env x=pure x)
  {pins:List (Addr × Obj)} {s0:Shared} {σ : St} {G H:Hp} {ρ ρ1 ρF:DEnv} {ds esF:List D} (I:Inv X pins σ H s0) (k0:EOk X.K B G0 G H σ ρ) (zf:f ρ = .ok ds ρ1) (zl:cT s t rd ds (envB l ρ1 ++ List.replicate k none) []=some (esF,ρF)) (hfl:l=true->esF.all flat=true)
  (hfin:∀ (C D:Addr) (vs:List V) (G' H':Hp) (s4:Shared) (m:Str->Option Value),Inv X pins σ H' s4->s4.heap.Ns C m->H' C=none->C ≠ X.env.locals->X.s₀.heap.objs.size<=C->(∀ x c,X.env.cells.lookup x=some c->c ≠ C)->(∀ p ∈ X.pn ++ pins,p.1 ≠ C) ->
   EOk X.K B G0 G' H' σ ρ1->Same G G'->NewL X.K B G' H' σ ρ1 D vs esF->compPost (model X.prog X.w) X.A X.xe use Qc (.ref D) C (.ok .next) s4) :
  wpAny (model X.prog X.w) X.A (comprehension (.ListComp elt (⟨tg,iter,ifs,0⟩ :: gs) scope pos) scope X.env pos' (newList []) false (eval iter X.env) use) Qc X.xe s0:=by
 obtain ⟨cl,hcl,cl1,cl2⟩:=ziC (scope:=scope) (env:=X.env) fun y hy hf=>I.ok.has y.1 (hb.free y hy hf)
 refine wpAny_comprehension_free (use:=use) rfl hs hcl hb.kind hb.names (thn (hi pins s0 σ H (fun J H1=>∃ G1,EOk X.K B G0 G1 H1 σ ρ1/\Same G G1/\zek X.K J ds G1) I ⟨G,ρ,k0,by rw [zf];exact fun J G1 H1 k1 s1 it=>⟨G1,k1,s1,it⟩⟩) fun v s1 h1=>thn h1 fun itv s2 h2=>?_)
 obtain ⟨it,fp,tn,J,H2,rfl,I2,T,st2,f2,G1,k1,sg1,its⟩:=h2
 refine wpAny_newObj_type (wpAny_newFunctionEnv hb.cell (by intro y hy;simp at hy) (fun h₁ hns₁ hsb₁=>?_) hb.kind)
 dsimp only at hns₁ hsb₁ ⊢
 have hfr:H2 s2.heap.objs.size=none:=I2.hok.fresh (Nat.le_refl _)
 have I3:Inv X pins σ (upd H2 s2.heap.objs.size (.lst [])) { s2 with heap:=s2.heap.push { cls:=.type "list", dict:=none,data:=.seq ([]:List Value).toArray } } :=
  I2.laid (t':=s2.toks) (fun b u e=>Heap.get?_push_of_some _ e) (Nat.le_refl _) ⟨Nat.zero_le _,[],0,.nil,Heap.get?_push_size _ rfl⟩
 generalize hP:s2.heap.push { cls:=.type "list", dict:=none,data:=.seq ([]:List Value).toArray }=P at I3 hns₁ hsb₁ ⊢
 have old:∀ b o,s2.heap.get? b=some o->P.get? b=some o:=fun b o e=>hP ▸ Heap.get?_push_of_some _ e
 have kept:∀ b o,P.get? b=some o->h₁.get? b=some o:=fun b o e=>hsb₁.extBut b o (Nat.ne_of_lt (Heap.lt_size e)) (Heap.get?_push_of_some _ e)
 have fpo:∀ b ∈ fp,∃ o,s2.heap.get? b=some o:=fun b hb=>let ⟨o,e,_⟩:=T.obj _ _ st2 b hb;⟨o,e⟩
 have fpD:∀ b ∈ fp,b ≠ s2.heap.objs.size:=fun b hb=>let ⟨o,e⟩:=fpo b hb;Nat.ne_of_lt (Heap.lt_size e)
 have f3:∀ b ∈ fp,FpOk X pins (upd H2 s2.heap.objs.size (.lst [])) b:=fun b hb=>⟨by rw [zaR (fpD b hb)];exact (f2 b hb).1,(f2 b hb).2⟩
 have I4:=I3.enter (scope:=scope) (cl:=cl) (N2:=N2) (k:=k) (fp:=fp) (t':=s2.toks+([]:List (Str × Value)).length) hb.b hb.kind hb.cell hb.free cl1 cl2 hns₁ kept f3 (fun b hb=>let ⟨o,e⟩:=fpo b hb;⟨o,old b o e⟩)
 dsimp only at I4
 obtain ⟨Gb,kb,sgb,gbD,ex⟩:=zpu l k1 hfr k
 have sH:Same H2 (upd H2 s2.heap.objs.size (.lst [])):=zaM hfr
 have hD3:upd H2 s2.heap.objs.size (.lst []) s2.heap.objs.size=some (.lst []):=zaL
 generalize upd H2 s2.heap.objs.size (.lst [])=H3 at I3 I4 f3 kb sH hD3
 generalize s2.heap.objs.size=D at *
 have tn0:tn 0 h₁:=T.keep 0 _ _ st2 fun b hb o e=>kept b o (old b o e)
 have stat:∀ b ∈ fp,FpOk (X.blk N2 scope cl P.objs.size { s2 with heap:=P } H3 fp) pins H3 b:=fun b hb=>by
  obtain ⟨z0,z1,z2,z3,z4,z5⟩:=f3 b hb
  obtain ⟨o,e⟩:=fpo b hb
  refine ⟨z0,Nat.ne_of_lt (Heap.lt_size (old b o e)),fun z=>?_,.inl hb,fun x c q=>z4 x c (cl1 x c q),z5⟩
  rcases List.mem_cons.mp (I3.stkSub b z) with q | q
  ·exact z1 q
  ·exact z2 q
 have neD:∀ a o,H2 a=some o->a ≠ D:=fun a o q z=>by subst z;rw [hfr] at q;cases q
 obtain ⟨hg,ht,hcl'⟩:=hblk cl P.objs.size { s2 with heap:=P } H3 fp
 obtain ⟨W,rule,body⟩:=hcl' D (.ref it)
 have loop:=zhT (Y:=X.blk N2 scope cl P.objs.size { s2 with heap:=P } H3 fp) (D':=D) (R:=compPost (model X.prog X.w) X.A X.xe use Qc (.ref D) P.objs.size) rfl hc rule hg ht body I4 T tn0 stat kb
  ⟨fun i G H s1 s2 hi=>its.go i G H (sgb.trans s1) s2 hi,fun i G H s1 s2 hi=>its.stop i G H (sgb.trans s1) s2 hi,fun i G H x H' d s1 s2 e y=>its.yld i G H x H' d (sgb.trans s1) s2 e y⟩ hD3 gbD .nil zl fun σ' H' G' vs' s4 L=>by
   obtain ⟨m,hm,_⟩:=id L.inv.loc
   have I7:Inv X pins σ H' s4:=I3.call' (ch:=fp) L.inv.os L.inv.base L.inv.hok L.inv.bare fun b hb=>⟨(f3 b hb).2.2.2.1,(f3 b hb).2.1,(f3 b hb).2.2.2.2.1,(f3 b hb).2.2.2.2.2⟩
   obtain ⟨Gf,eF,dF,rF⟩:=ex G' H' vs' esF hfl L.gg (fun a o q=>L.hh a o (neD a o q) (sH a o q)) L.eok.gh (fun a o q z=>L.np a o (neD a _ q) (sH a _ q) z) L.gd L.rp
   refine hfin P.objs.size D vs' Gf H' s4 m I7 hm L.inv.free (Nat.ne_of_gt I3.lt) I3.sz (fun x c e z=>by obtain ⟨_,q⟩:=I3.cell x c e;exact absurd q.lt (by rw [z];exact Nat.lt_irrefl _)) (fun p hp z=>by have:=Heap.lt_size (I3.pin p hp).1;exact absurd this (by rw [z];exact Nat.lt_irrefl _))
    (k1.ext eF) (sg1.trans eF.g) ⟨k1.bh.free hfr,dF,L.hd,rF,fun j es' q z=>?_,fun j pt d v fp q s r=>k1.freshD eF.h hfr q s r⟩
   obtain ⟨a',ws,h1',h2',h3',h4',h5'⟩:=k1.own j es' q
   rw [z] at h1'
   cases h1'
   rw [hfr] at h4';cases h4'
 exact codeAny_compStart_list loop (T.self X.A 0 _ _ _ tn0 loop)
theorem zpv {l:Bool} {tg elt iter:Expr} {ifs:List Expr} {gs:List Comprehension} {scope:Scope} {pos:Pos} {N2:List Str} {k:Nat} {f:M (List D)} {s:D->DEnv->Option DEnv} {t:M Bool} {rd:RdB} (hc:X.calm=true)
  (hi:PI X tg iter (iD X.K B G0 f)) (hblk:PBlk X N2 scope (.ListComp elt (⟨tg,iter,ifs,0⟩ :: gs) scope pos) tg ifs s t rd) (hb:ziD X.env.scope scope X.N N2 k) (hs:∀ x,foldedSetIterable iter X.env x=pure x:=by intro _;rfl) :
  PE X (.ListComp elt (⟨tg,iter,ifs,0⟩ :: gs) scope pos) (tL X.K B G0 (dCG l f k s t rd)):=by
 intro pins s0 σ H Q I ⟨G,ρ,k0,a⟩
 cases z:dCG l f k s t rd ρ with
 | bad=>rw [z] at a;exact a.elim
 | ok es ρ1 =>
 rw [z] at a
 obtain ⟨ds,ρF,zf,zl,hfl⟩:=zhd z
 rw [eval_ListComp]
 refine zfD hc hi hblk hb hs I k0 zf zl hfl fun C D vs G' H' s4 m I7 hm hC hL hz hcl hp k' s' n=>?_
 exact ⟨m,hm,fun h' sb=>⟨.ref D,H',I7.turned (t':=s4.toks) (it:=C) (fun b o hb e=>(sb.2 b hb).trans e) hC hL (.inr hz) hcl hp,rfl,a D vs G' H' k' s' n⟩⟩
theorem sD_g {l:Bool} {y:Str} {j:Nat} {py:Pos} {spos:Pos} {tg elt iter:Expr} {ifs:List Expr} {gs:List Comprehension} {scope:Scope} {pos:Pos} {N2:List Str} {k:Nat} {f:M (List D)} {s:D->DEnv->Option DEnv} {t:M Bool} {rd:RdB} (hN:X.N.Nodup) (hj:X.N[j]?=some y) (hy:X.env.scope.names.lookup y=some .local) (hc:X.calm=true)
  (hi:PI X tg iter (iD X.K B G0 f)) (hblk:PBlk X N2 scope (.ListComp elt (⟨tg,iter,ifs,0⟩ :: gs) scope pos) tg ifs s t rd) (hb:ziD X.env.scope scope X.N N2 k) (hs:∀ x,foldedSetIterable iter X.env x=pure x:=by intro _;rfl)
  (hsw:swapsWith (.ListComp elt (⟨tg,iter,ifs,0⟩ :: gs) scope pos) (some (.Name y py)) spos.line X.env=pure true:=by rfl) :
  PS X (.Assign [.Name y py] (.ListComp elt (⟨tg,iter,ifs,0⟩ :: gs) scope pos) spos) (tS X.K B G0 KX (zbQ j (dCG l f k s t rd))):=by
 intro pins s0 σ H Dn I ⟨G,ρ,k0,a⟩
 unfold zbQ sB at a
 cases z:dCG l f k s t rd ρ with
 | bad=>rw [z] at a;exact a.elim
 | ok es ρ1 =>
 rw [z] at a
 dsimp only at a
 by_cases hl:j < ρ1.length
 ·rw [if_pos hl] at a
  obtain ⟨ds,ρF,zf,zl,hfl⟩:=zhd z
  rw [exec_Assign_Name_used _ _ _ _ hsw]
  refine wpAny_bind (wpAny_standAt (wpAny_bind ?_))
  show wpAny _ X.A (do let _ ← comprehension (.ListComp elt (⟨tg,iter,ifs,0⟩ :: gs) scope pos) scope X.env _ (newList []) false (eval iter X.env) (some (assign (.Name y py) X.env))) _ _ s0
  refine wpAny_bind (wpAny_mono (zfD (use:=some (assign (.Name y py) X.env)) (Qc:=fun _ s'=>SP X pins Dn .next s') hc hi hblk hb hs I k0 zf zl hfl fun C D vs G' H' s4 m I7 hm hC hL hz hcl hp k' s' n=>?_) (fun _ s' hq=>wpAny_pure (wpAny_pure hq)) fun _ _ e=>e)
  show wpAny _ X.A (assign (.Name y py) X.env (.ref D)) _ _ s4
  refine wpAny_assign_Name (zew I7 hN hj (.inl hy) (v:=.ref D) rfl (fun s5 I8 ⟨ad,sb,hx⟩=>?_) (.inr hy))
  have hCa:C ≠ ad:=by
   rcases hx with e | e
   ·rw [e];exact hL
   ·exact Ne.symm (hcl y ad e)
  refine ⟨m,hm.sameBut sb hCa,fun h' sb'=>⟨_,H',I8.turned (t':=s5.toks) (it:=C) (fun b o hb e=>(sb'.2 b hb).trans e) hC hL (.inr hz) hcl hp,?_⟩⟩
  exact a _ G' H' (k'.setOwn n hl) s'
 ·rw [if_neg hl] at a;exact a.elim
theorem zpw {K:PySem.W.Frag} {f f':M (List D)} (h:∀ ρ es ρ',f ρ = .ok es ρ'->f' ρ = .ok es ρ') {σ : St} {H:Hp} {Q:VK} (q:tL K B G0 f σ H Q):tL K B G0 f' σ H Q:=by
 obtain ⟨G,ρ,k,a⟩:=q
 refine ⟨G,ρ,k,?_⟩
 cases z:f ρ with
 | bad=>rw [z] at a;exact a.elim
 | ok es ρ'=>rw [z] at a;rw [h ρ es ρ' z];exact a
theorem zmA {K:PySem.W.Frag} {f f':M (List D)} {j:Nat} (h:∀ ρ es ρ',f ρ = .ok es ρ'->f' ρ = .ok es ρ') {Dn:_} {σ : St} {H:Hp} (q:tS K B G0 KX (zbQ j f) Dn σ H):tS K B G0 KX (zbQ j f') Dn σ H:=by
 obtain ⟨G,ρ,k,a⟩:=q
 refine ⟨G,ρ,k,?_⟩
 unfold zbQ sB at a ⊢
 cases z:f ρ with
 | bad=>rw [z] at a;exact a.elim
 | ok es ρ'=>rw [z] at a;rw [h ρ es ρ' z];exact a
end
theorem zeq {s:D->DEnv->Option DEnv} {t:M Bool} {g:M D}:∀ {ds:List D} {ρ : DEnv} {es esF:List D},zbl s t g ds ρ es=some esF->∃ ρF,cT s t (rL g) ds ρ es=some (esF,ρF)
 | [],ρ,es,esF,h=>by rw [zbl] at h;cases h;exact ⟨ρ,rfl⟩
 | d :: r,ρ,es,esF,h=>by
  rw [zbl] at h
  rw [cT]
  cases zs:s d ρ with
  | none=>rw [zs] at h;cases h
  | some ρ1 =>
  rw [zs] at h
  dsimp only at h ⊢
  cases zt:t ρ1 with
  | bad=>rw [zt] at h;cases h
  | ok b ρ2 =>
  rw [zt] at h
  dsimp only at h ⊢
  cases b with
  | false=>exact zeq (ds:=r) h
  | true =>
   rw [if_pos rfl] at h ⊢
   unfold rL
   cases zg:g ρ2 with
   | bad=>rw [zg] at h;cases h
   | ok e ρ3 =>
   rw [zg] at h
   dsimp only at h ⊢
   split at h
   ·rename_i hl
    rw [if_pos hl]
    exact zeq (ds:=r) h
   ·cases h
theorem zdA {s:D->DEnv->Option DEnv} {t:M Bool} {g:M D}:∀ {ds:List D} {ρ : DEnv} {es:List D},zcd s t g ds ρ es=cT s t (rL g) ds ρ es
 | [],ρ,es=>rfl
 | d :: r,ρ,es=>by
  rw [zcd,cT]
  cases s d ρ with
  | none=>rfl
  | some ρ1 =>
  dsimp only
  cases t ρ1 with
  | bad=>rfl
  | ok b ρ2 =>
  dsimp only
  cases b with
  | false=>exact zdA (ds:=r)
  | true =>
   rw [if_pos rfl,if_pos rfl]
   unfold rL
   cases g ρ2 with
   | bad=>rfl
   | ok e ρ3 =>
   dsimp only
   split
   ·exact zdA (ds:=r)
   ·rfl
theorem zdB {s s1:D->DEnv->Option DEnv} {t t1:M Bool} {f:M (List D)} {Rd:List D->DEnv->List D->Option (List D × DEnv)} {rd:RdB} (hR:∀ ds ρ es,Rd ds ρ es=cT s1 t1 rd ds ρ es) :
  ∀ {ds:List D} {ρ : DEnv} {es:List D},zcu s t f Rd ds ρ es=cT s t (rN f s1 t1 rd) ds ρ es
 | [],ρ,es=>rfl
 | d :: r,ρ,es=>by
  rw [zcu,cT]
  cases s d ρ with
  | none=>rfl
  | some ρ1 =>
  dsimp only
  cases t ρ1 with
  | bad=>rfl
  | ok b ρ2 =>
  dsimp only
  cases b with
  | false=>exact zdB hR (ds:=r)
  | true =>
   rw [if_pos rfl,if_pos rfl]
   unfold rN
   cases f ρ2 with
   | bad=>rfl
   | ok ds ρ3 =>
   dsimp only
   rw [hR]
   cases cT s1 t1 rd ds (zaH ρ3) es with
   | none=>rfl
   | some pr=>exact zdB hR (ds:=r)
theorem zeJ {s s1:D->DEnv->Option DEnv} {t t1:M Bool} {f:M (List D)} {g:M D}:∀ {ds:List D} {ρ : DEnv} {es esF:List D},zcZ s t f s1 t1 g ds ρ es=some esF->∃ ρF,cT s t (rN f s1 t1 (rL g)) ds ρ es=some (esF,ρF)
 | [],ρ,es,esF,h=>by rw [zcZ] at h;cases h;exact ⟨ρ,rfl⟩
 | d :: r,ρ,es,esF,h=>by
  rw [zcZ] at h
  rw [cT]
  cases zs:s d ρ with
  | none=>rw [zs] at h;cases h
  | some ρ1 =>
  rw [zs] at h
  dsimp only at h ⊢
  cases zt:t ρ1 with
  | bad=>rw [zt] at h;cases h
  | ok b ρ2 =>
  rw [zt] at h
  dsimp only at h ⊢
  cases b with
  | false=>exact zeJ (ds:=r) h
  | true =>
   rw [if_pos rfl] at h ⊢
   unfold rN
   cases zg:f ρ2 with
   | bad=>rw [zg] at h;cases h
   | ok ds ρ3 =>
   rw [zg] at h
   dsimp only at h ⊢
   rw [← zdA]
   cases zl:zcd s1 t1 g ds (zaH ρ3) es with
   | none=>rw [zl] at h;cases h
   | some pr=>rw [zl] at h;exact zeJ (ds:=r) h
theorem zbc {f:M (List D)} {k:Nat} {s:D->DEnv->Option DEnv} {t:M Bool} {g:M D} (ρ : DEnv) (es:List D) (ρ':DEnv) (h:zcm f k s t g ρ = .ok es ρ'):dCG false f k s t (rL g) ρ = .ok es ρ':=by
 unfold zcm at h
 unfold dCG
 cases zf:f ρ with
 | bad=>rw [zf] at h;cases h
 | ok ds ρ1 =>
 rw [zf] at h
 dsimp only [envB] at h ⊢
 cases zl:zbl s t g ds (zaH ρ1 ++ List.replicate k none) [] with
 | none=>rw [zl] at h;cases h
 | some esF =>
 rw [zl] at h
 cases h
 obtain ⟨ρF,e⟩:=zeq zl
 rw [e]
 exact if_pos fun z=>by cases z
theorem zgs {f:M (List D)} {k:Nat} {s:D->DEnv->Option DEnv} {t:M Bool} {g:M D} (ρ : DEnv) (es:List D) (ρ':DEnv) (h:zfk f k s t g ρ = .ok es ρ'):dCG true f k s t (rL g) ρ = .ok es ρ':=by
 unfold zfk at h
 unfold dCG
 cases zf:f ρ with
 | bad=>rw [zf] at h;cases h
 | ok ds ρ1 =>
 rw [zf] at h
 dsimp only [envB] at h ⊢
 cases zl:zbl s t g ds (zb7 ρ1 ++ List.replicate k none) [] with
 | none=>rw [zl] at h;cases h
 | some esF =>
 rw [zl] at h
 dsimp only at h
 split at h
 ·rename_i hf
  cases h
  obtain ⟨ρF,e⟩:=zeq zl
  rw [e]
  exact if_pos fun _=>hf
 ·cases h
theorem zjO {f f1:M (List D)} {k:Nat} {s s1:D->DEnv->Option DEnv} {t t1:M Bool} {g:M D} (ρ : DEnv) (es:List D) (ρ':DEnv) (h:zgq f k s t f1 s1 t1 g ρ = .ok es ρ'):dCG false f k s t (rN f1 s1 t1 (rL g)) ρ = .ok es ρ':=by
 unfold zgq at h
 unfold dCG
 cases zf:f ρ with
 | bad=>rw [zf] at h;cases h
 | ok ds ρ1 =>
 rw [zf] at h
 dsimp only [envB] at h ⊢
 cases zl:zcZ s t f1 s1 t1 g ds (zaH ρ1 ++ List.replicate k none) [] with
 | none=>rw [zl] at h;cases h
 | some esF =>
 rw [zl] at h
 cases h
 obtain ⟨ρF,e⟩:=zeJ zl
 rw [e]
 exact if_pos fun z=>by cases z
theorem zjP {f f1 f2:M (List D)} {k:Nat} {s s1 s2:D->DEnv->Option DEnv} {t t1 t2:M Bool} {g:M D} (ρ : DEnv) (es:List D) (ρ':DEnv) (h:zgr f k s t f1 s1 t1 f2 s2 t2 g ρ = .ok es ρ'):dCG false f k s t (rN f1 s1 t1 (rN f2 s2 t2 (rL g))) ρ = .ok es ρ':=by
 unfold zgr at h
 unfold dCG
 cases zf:f ρ with
 | bad=>rw [zf] at h;cases h
 | ok ds ρ1 =>
 rw [zf] at h
 dsimp only [envB,lead] at h ⊢
 rw [zdB fun _ _ _=>zdB fun _ _ _=>zdA] at h
 cases zl:cT s t (rN f1 s1 t1 (rN f2 s2 t2 (rL g))) ds (zaH ρ1 ++ List.replicate k none) [] with
 | none=>rw [zl] at h;cases h
 | some pr =>
 rw [zl] at h
 cases h
 exact if_pos fun z=>by cases z
def zfl (q:Option NameKind->Bool) (SC scope:Scope) (N1 N2:List Str) (k:Nat):Bool :=
 zdy scope.names N1 N2 k && decide (scope.kind=.function) && scope.names.all fun y=>match y.2 with
  | .cell=>false
  | .local=>decide (scope.names.lookup y.1=some .local)
  | .free=>q (SC.names.lookup y.1)
  | _=>true
def zlH:Option NameKind->Bool
 | some .cell=>true | some .free=>true | _=>false
theorem ziE {q:Option NameKind->Bool} {SC SC' scope:Scope} {N1 N2:List Str} {k:Nat} (h:zfl q SC scope N1 N2 k=true) (f:∀ x,q (SC.names.lookup x)=true->SC'.names.lookup x=some .cell ∨ SC'.names.lookup x=some .free):ziD SC' scope N1 N2 k:=by
 unfold zfl at h
 rw [Bool.and_eq_true,Bool.and_eq_true,List.all_eq_true] at h
 obtain ⟨⟨h1,h2⟩,h3⟩:=h
 refine ⟨h1,of_decide_eq_true h2,fun y hy e=>?_,fun y hy e=>?_,fun y hy e=>?_⟩
 ·have:=h3 y hy;rw [e] at this;cases this
 ·have:=h3 y hy;rw [e] at this;exact of_decide_eq_true this
 ·have:=h3 y hy;rw [e] at this;exact f _ this
theorem zhe {SC scope:Scope} {N1 N2:List Str} {k:Nat} (h:zfl zlH SC scope N1 N2 k=true):ziD SC scope N1 N2 k:=ziE h fun x e=>by
 cases z:SC.names.lookup x with
 | none=>rw [z] at e;cases e
 | some y=>rw [z] at e;cases y <;> first | exact .inl rfl | exact .inr rfl | cases e
section
variable {X:Cx} {B G0:Hp} {KX:XW}
theorem zdk {l:Bool} {tg elt iter:Expr} {ifs:List Expr} {gs:List Comprehension} {scope:Scope} {pos:Pos} {f:M (List D)} {s:D->DEnv->Option DEnv} {t:M Bool} {rd:RdB} {F:M (List D)} (SC:Scope) (N1 N2:List Str) (k:Nat) (le:∀ ρ es ρ',F ρ = .ok es ρ'->dCG l f k s t rd ρ = .ok es ρ') (hc:X.calm=true)
  (hi:PI X tg iter (iD X.K B G0 f)) (hblk:PBlk X N2 scope (.ListComp elt (⟨tg,iter,ifs,0⟩ :: gs) scope pos) tg ifs s t rd) (h1:X.env.scope=SC) (h2:X.N=N1) (hb:zfl zlH SC scope N1 N2 k=true) (hs:∀ x,foldedSetIterable iter X.env x=pure x:=by intro _;rfl) :
  PE X (.ListComp elt (⟨tg,iter,ifs,0⟩ :: gs) scope pos) (tL X.K B G0 F) :=
 peof (zpv hc hi hblk (by rw [h1,h2];exact zhe hb) hs) fun _ _ _ q=>zpw le q
theorem sD_1 {l:Bool} {y:Str} {j:Nat} {py:Pos} {spos:Pos} {tg elt iter:Expr} {ifs:List Expr} {gs:List Comprehension} {scope:Scope} {pos:Pos} {f:M (List D)} {s:D->DEnv->Option DEnv} {t:M Bool} {rd:RdB} {F:M (List D)} (SC:Scope) (N1 N2:List Str) (k:Nat) (le:∀ ρ es ρ',F ρ = .ok es ρ'->dCG l f k s t rd ρ = .ok es ρ') (hN:X.N.Nodup) (hj:X.N[j]?=some y) (hy:X.env.scope.names.lookup y=some .local) (hc:X.calm=true)
  (hi:PI X tg iter (iD X.K B G0 f)) (hblk:PBlk X N2 scope (.ListComp elt (⟨tg,iter,ifs,0⟩ :: gs) scope pos) tg ifs s t rd) (h1:X.env.scope=SC) (h2:X.N=N1) (hb:zfl zlH SC scope N1 N2 k=true) (hs:∀ x,foldedSetIterable iter X.env x=pure x:=by intro _;rfl)
  (hsw:swapsWith (.ListComp elt (⟨tg,iter,ifs,0⟩ :: gs) scope pos) (some (.Name y py)) spos.line X.env=pure true:=by rfl) :
  PS X (.Assign [.Name y py] (.ListComp elt (⟨tg,iter,ifs,0⟩ :: gs) scope pos) spos) (tS X.K B G0 KX (zbQ j F)) :=
 psof (sD_g hN hj hy hc hi hblk (by rw [h1,h2];exact zhe hb) hs hsw) fun _ _ _ q=>zmA le q
end
theorem zlI {f:M (List D)} {k:Nat} {s s1' s2':D->DEnv->Option DEnv} {t t1' t2':M Bool} {f1 f2:M (List D)} {g:M D} {ρ ρ1 ρ2:DEnv} {ds es:List D} (h1:f ρ = .ok ds ρ1) (h2:zcu s t f1 (zcu s1' t1' f2 (zcd s2' t2' g)) ds (zaH ρ1 ++ List.replicate k none) []=some (es,ρ2)) :
  zgr f k s t f1 s1' t1' f2 s2' t2' g ρ = .ok es ρ1:=by
 unfold zgr;rw [h1];dsimp only [lead];rw [h2];rfl
section
variable {X:Cx} {B G0:Hp} {e a b c tg:Expr} {pos:Pos} {es rest:List Expr}
theorem EOk.given {K:PySem.W.Frag} {G H:Hp} {σ : St} {ρ : DEnv} {a:Addr} {vs:List V} {ds:List D} (k:EOk K B G0 G H σ ρ) (n:NewL K B G H σ ρ a vs ds):EOk K B G0 (upd G a (.lst vs)) H σ ρ where
 bh:=k.bh
 gh:=fun b u q=>by
  by_cases z:b=a
  ·subst z;rw [zaL] at q;cases q;exact n.h
  ·rw [zaR z] at q;exact k.gh b u q
 g0:=k.g0.trans (zaM n.g)
 np:=fun b o q z=>by
  have zb:b ≠ a:=fun z=>by subst z;rw [n.b] at q;cases q
  rw [zaR zb];exact k.np b o q z
 len:=k.len
 pub:=fun i d q=>let ⟨v,h1,h2⟩:=k.pub i d q;⟨v,h1,h2.mono (zaM n.g)⟩
 own:=fun i ds q=>by
  obtain ⟨b,ws,h1,h2,h3,h4,h5⟩:=k.own i ds q
  have zb:b ≠ a:=fun z=>by subst z;exact n.f i ds q h1
  exact ⟨b,ws,h1,h2,by rw [zaR zb];exact h3,h4,h5.mono (zaM n.g)⟩
 sep:=k.sep
 dp:=k.dp.map (fun _ _ _ q=>⟨q,rfl⟩) (fun _ ds q=>⟨ds,q,rfl⟩) fun i p d v fp q s r w nn=>⟨r.mono (zaM n.g) (.refl _),fun b m=>⟨(w b m).1,by rw [zaR (fun z=>n.dp i p d v fp q s r (by rw [← z];exact m))];exact (w b m).2⟩⟩
theorem zbA {f:M (List D)} (h:PE X e (tL X.K B G0 f)):PE X e (tD X.K B G0 (mMap PyData.list f)) :=
 peof h fun σ H Q ⟨G,ρ,k,a⟩=>by
  refine ⟨G,ρ,k,?_⟩
  unfold mMap zas at a
  cases z:f ρ with
  | bad=>rw [z] at a;exact a.elim
  | ok ds ρ1 =>
   rw [z] at a
   intro ad vs G' H' k' s' n
   exact a (.ref ad) _ H' (k'.given n) (s'.trans (zaM n.g)) (.lst (SqL.of zaL) (n.r.mono (zaM n.g)))
theorem zlJ (hc:X.calm=true):zdj X (.builtin "all") (fun xs H Q=>∃ l,∃ bs:List Bool,xs=[.ref l]/\SqL X.K H l (bs.map V.bl)/\Q (.bl (bs.all id)) H):=by
 intro pins s σ H xs us Q I rx h
 obtain ⟨l,bs,rfl,hq,q⟩:=h
 obtain ⟨u,rfl,ru⟩:=rx.one
 cases ru
 obtain ⟨its,rv,p,hz⟩:=I.list hq
 have hl:=p.isList
 have hlt:l < s.heap.objs.size:=by obtain ⟨_,e,_⟩:=id hl;exact Heap.lt_size e
 have key:∀ (i:Nat) v,its.toArray[i]?=some v->∃ t,bs[i]?=some t/\v=.bool t:=fun i v e=>by
  have e:its[i]?=some v:=by simpa using e
  have hi:i < bs.length:=by
   have:=(List.getElem?_eq_some_iff.mp e).1
   have h2:=rv.length
   rw [List.length_map] at h2
   omega
  obtain ⟨u,e2,r2⟩:=rv.get (i:=i) (x:=.bl bs[i]) (by rw [List.getElem?_map,List.getElem?_eq_getElem hi];rfl)
  rw [e] at e2
  cases e2
  exact ⟨bs[i],List.getElem?_eq_getElem hi,r2⟩
 refine call_all_walk (wpAny_pyIter_list hl ?_)
 refine ⟨s.heap.objs.size,[s.heap.objs.size,l],[s.heap.objs.size],its.toArray.size,_,_,fun i=>(bs[i]?).getD true,rfl,Walks.list (A:=X.A.in1) (I.ok.hd hc) _ l (Nat.ne_of_lt hlt) its.toArray,
  ⟨⟨_,Heap.get?_push_size _ rfl,rfl,rfl⟩,hl.push _⟩,fun i v s' Q' E' hP hQ=>?_,fun h' tk hk=>?_⟩
 ·obtain ⟨b,e,rfl⟩:=key i v hP
  simp only [e,Option.getD_some] at hQ
  exact wpAny_truthy_bool hQ
 ·have hn:its.toArray.size=bs.length:=by have:=rv.length;rw [List.length_map] at this;simp;omega
  have e:((List.range its.toArray.size).all fun i=>(bs[i]?).getD true)=bs.all id:=by
   rw [hn,Bool.eq_iff_iff,List.all_eq_true,List.all_eq_true]
   constructor
   ·intro h b hb
    obtain ⟨i,hi,e⟩:=List.getElem_of_mem hb
    have:=h i (List.mem_range.mpr hi)
    simp only [List.getElem?_eq_getElem hi,Option.getD_some,e] at this
    exact this
   ·intro h i hi
    have hi':=List.mem_range.mp hi
    simp only [List.getElem?_eq_getElem hi',Option.getD_some]
    exact h _ (List.getElem_mem hi')
  rw [e]
  exact ⟨.bl (bs.all id),H,I.kept (t':=tk) fun b x e=>hk b x (fun hm=>by rw [List.mem_singleton.mp hm] at e;exact Nat.lt_irrefl _ (Heap.lt_size e)) (Heap.get?_push_of_some _ e),rfl,q⟩
def zc0:List D->Option (List Bool)
 | []=>some []
 | .bool b :: r=>(zc0 r).map (b :: ·)
 | _=>none
theorem zef {K:PySem.W.Frag} {G:Hp}:∀ {vs:List V} {ds:List D} {bs:List Bool},Reps K G vs ds->zc0 ds=some bs->vs=bs.map V.bl
 | _,_,bs,.nil,e=>by cases e;rfl
 | _,_,bs,.cons (d:=d) r t,e=>by
  cases d with
  | bool b =>
   unfold zc0 at e
   cases z:zc0 _ with
   | none=>rw [z] at e;cases e
   | some cs =>
    rw [z] at e
    cases e
    rw [r.bl_inv,zef t z];rfl
  | _=>cases e
def oAll:List D->Option D
 | [.list ds]=>(zc0 ds).map fun bs=>.bool (bs.all id)
 | _=>none
theorem zjQ (hc:X.calm=true):zdv X (.builtin "all") oAll:=by
 refine ⟨_,zlJ hc,fun vs G H ds d Q s r e k=>?_⟩
 unfold oAll at e
 split at e
 ·rename_i ds
  cases z:zc0 ds with
  | none=>rw [z] at e;cases e
  | some bs =>
   rw [z] at e
   cases e
   obtain ⟨v,rfl,q⟩:=r.one_inv
   obtain ⟨l,ws,rfl,h1,r1⟩:=q.lst_inv
   have hw:=zef r1 z
   subst hw
   exact ⟨l,bs,rfl,s.seq h1,k _ G H (.refl s) (.bl _)⟩
 ·cases e
def Its (x:Str):It:=⟨fun i _=>i < x.cps.size,fun i H v H'=>H'=H/\∃ c,x.cps[i]?=some c/\v=.str ⟨#[c]⟩,fun i _=>x.cps.size<=i⟩
theorem zlK {P:Program} {w:World} {K:PySem.W.Frag} {tg:Expr} (x:Str) (t:Tok) (it:Addr):Turn P w K tg (Its x) [it] it (fun i h=>h.IsStrIter it (strIterType x) x t i) where
 mem:=by simp
 obj:=fun i h st b hb=>by
  have e:b=it:=by simpa using hb
  subst e
  obtain ⟨o,e,c,d⟩:=st
  exact ⟨o,e,fun v z=>by rw [d] at z;cases z⟩
 keep:=fun i h h' st k=>by
  obtain ⟨o,e,c,d⟩:=st
  exact ⟨o,k it (by simp) o e,c,d⟩
 item:=by
  intro X hP hw hK hc i pins s σ H E I hf st hg
  subst hP hw hK
  obtain ⟨f0,f1,f2,f3,f4,f5⟩:=hf it (by simp)
  have hx:x.cps[i]?=some x.cps[i]:=Array.getElem?_eq_getElem hg
  have fin:∀ h' tk (T:String),strIterType x=T->h'.IsStrIter it T x t (i+1)->Heap.SameBut it s.heap h'->["enumerate", "zip", "dict_itemiterator", "dict_reverseitemiterator", "odict_iterator", "itertools.zip_longest", "itertools.pairwise"].contains T=false ->
    ∃ u,some (Value.str ⟨#[x.cps[i]]⟩ s.toks)=some u/\wpAny (model X.prog X.w) X.A (letOwnedTupleGo tg (.ref it) u) (fun _ s2=>∃ v H',Inv X pins σ H' s2/\RelV v u/\(Its x).yld i H v H'/\s2.heap.IsStrIter it (strIterType x) x t (i+1)/\∀ b ∈ [it],H' b=none) E { s with heap:=h',toks:=tk }:=by
   intro h' tk T eT st' sb hn
   have I1:Inv X pins σ H { s with heap:=h',toks:=tk }:=I.turned (t':=tk) (fun b o hb e=>(sb.2 b hb).trans e) f0 f1 f3 f4 f5
   obtain ⟨o,e,c,d⟩:=id st'
   refine ⟨_,rfl,zlp (s:={ s with heap:=h',toks:=tk }) e c d hn ⟨.str ⟨#[x.cps[i]]⟩,H,I1,⟨_,rfl⟩,⟨rfl,_,hx,rfl⟩,by rw [eT];exact st',fun b hb=>(hf b hb).1⟩⟩
  cases ha:x.cps.all (· < 128) with
  | true =>
   have eT:strIterType x = "str_ascii_iterator" := by simp [strIterType,ha]
   rw [eT] at st
   exact wpAny_pyNext_ascii_item st hx fun h' st' sb=>fin h' _ _ eT st' sb (by decide)
  | false =>
   have eT:strIterType x = "str_iterator" := by simp [strIterType,ha]
   rw [eT] at st
   exact wpAny_pyNext_wide_item st hx fun h' st' sb=>fin h' _ _ eT st' sb (by decide)
 done:=by
  intro X hP hw hK hc i pins s σ H E I hf st hg
  subst hP hw hK
  obtain ⟨f0,f1,f2,f3,f4,f5⟩:=hf it (by simp)
  have hx:x.cps[i]?=none:=Array.getElem?_eq_none hg
  cases ha:x.cps.all (· < 128) with
  | true =>
   have eT:strIterType x = "str_ascii_iterator" := by simp [strIterType,ha]
   rw [eT] at st
   exact wpAny_pyNext_ascii_end (I.ok.hd hc) st hx fun h' eb=>⟨rfl,I.turned (t':=s.toks) (fun b o hb e=>eb b o hb e) f0 f1 f3 f4 f5⟩
  | false =>
   have eT:strIterType x = "str_iterator" := by simp [strIterType,ha]
   rw [eT] at st
   exact wpAny_pyNext_wide_end (I.ok.hd hc) st hx fun h' eb=>⟨rfl,I.turned (t':=s.toks) (fun b o hb e=>eb b o hb e) f0 f1 f3 f4 f5⟩
 self:=fun A i s Q E st h=>by
  cases ha:x.cps.all (· < 128) with
  | true =>
   have eT:strIterType x = "str_ascii_iterator" := by simp [strIterType,ha]
   rw [eT] at st
   exact wpAny_pyIter_striter_ascii st h
  | false =>
   have eT:strIterType x = "str_iterator" := by simp [strIterType,ha]
   rw [eT] at st
   exact wpAny_pyIter_striter_wide st h
def iAny (K:PySem.W.Frag) (tl:TE):TI:=fun σ H R=>tl σ H fun x H1=>(∃ a,x=.ref a/\(∃ xs,SqL K H1 a xs)/\R (Itl K a) H1) ∨ (∃ a,x=.ref a/\(∃ xs,SqT K H1 a xs)/\R (Itt K a) H1) ∨ ∃ z,x=.str z/\R (Its z) H1
theorem zou {l:Expr} {tl:TE} (hl:PE X l tl):PI X tg l (iAny X.K tl):=by
 intro pins s σ H R I h
 refine thn (hl pins s σ H _ I h) fun v s1 ⟨x,H1,I1,r1,q1⟩=>?_
 have fpOk:∀ b ∈ [s1.heap.objs.size],FpOk X pins H1 b:=fun b hb=>by
  have e:b=s1.heap.objs.size:=by simpa using hb
  subst e
  exact I1.fpOk (Nat.le_refl _) (I1.hok.fresh (Nat.le_refl _))
 rcases q1 with ⟨a,e,⟨xs,hq⟩,q⟩ | ⟨a,e,⟨xs,hq⟩,q⟩ | ⟨z,e,q⟩
 ·subst e
  cases r1
  obtain ⟨its,rv,p,hz⟩:=I1.list hq
  refine wpAny_pyIter_list p.isList ?_
  exact ⟨s1.heap.objs.size,[s1.heap.objs.size],_,_,H1,rfl,I1.kept (t':=s1.toks) fun b o e=>Heap.get?_push_of_some _ e,zji a _,⟨_,Heap.get?_push_size _ rfl,rfl,rfl⟩,fpOk,q⟩
 ·subst e
  cases r1
  obtain ⟨its,rv,p,hz⟩:=I1.tuple hq
  refine wpAny_pyIter_tuple p ?_
  exact ⟨s1.heap.objs.size,[s1.heap.objs.size],_,_,H1,rfl,I1.kept (t':=s1.toks) fun b o e=>Heap.get?_push_of_some _ e,zir a _,⟨_,Heap.get?_push_size _ rfl,rfl,rfl⟩,fpOk,q⟩
 ·subst e
  obtain ⟨t,rfl⟩:=r1
  refine wpAny_pyIter_strU ?_
  exact ⟨s1.heap.objs.size,[s1.heap.objs.size],_,_,H1,rfl,I1.kept (t':=s1.toks) fun b o e=>Heap.get?_push_of_some _ e,zlK z t _,⟨_,Heap.get?_push_size _ rfl,rfl,rfl⟩,fpOk,q⟩
def zgt (z:Str):List D:=z.cps.toList.map fun c=>.str ⟨#[c]⟩
def zhf:D->Option (List D)
 | .list ds=>some ds
 | .tuple ds=>some ds
 | .str z=>some (zgt z)
 | _=>none
theorem zhg {K:PySem.W.Frag} {G1:Hp} {ad:Addr} {vs:List V} {ds:List D} (h:SqT K G1 ad vs) (r:Reps K G1 vs ds):zek K (Itt K ad) ds G1 where
 go:=fun i G H s1 s2 hi=>by
  have hi':i < vs.length:=by rw [r.length];exact hi
  exact ⟨vs,vs[i],zdu (s1.trans s2) h,List.getElem?_eq_getElem hi'⟩
 stop:=fun i G H s1 s2 hi=>⟨vs,zdu (s1.trans s2) h,by rw [r.length];exact hi⟩
 yld:=fun i G H x H' d s1 s2 e y=>by
  obtain ⟨rfl,y⟩:=y
  obtain ⟨v,e1,r1⟩:=r.get e
  have:=y vs (zdu (s1.trans s2) h)
  rw [e1] at this
  cases this
  exact ⟨G,.refl s2,r1.mono s1⟩
theorem zjR {K:PySem.W.Frag} {G1:Hp} {z:Str}:zek K (Its z) (zgt z) G1 where
 go:=fun i G H s1 s2 hi=>by unfold zgt at hi;simpa [Its] using hi
 stop:=fun i G H s1 s2 hi=>by unfold zgt at hi;simpa [Its] using hi
 yld:=fun i G H x H' d s1 s2 e y=>by
  obtain ⟨rfl,c,hc,rfl⟩:=y
  unfold zgt at e
  rw [List.getElem?_map] at e
  have:z.cps.toList[i]?=some c:=by simpa using hc
  rw [this] at e
  cases e
  exact ⟨G,.refl s2,.str _⟩
def za2 (f:M D):M (List D):=zas f fun x=>mOpt (zhf x)
theorem zbD {f:M D} (h:PE X e (tD X.K B G0 f)):PI X tg e (iD X.K B G0 (za2 f)):=piof (zou h) fun σ H R q=>tM.toI (R0:=Rep X.K) q fun v H' G' ρ' x k r a=>by
 cases x with
 | list ds =>
  obtain ⟨ad,vs,rfl,h1,r1⟩:=r.lst_inv
  exact .inl ⟨ad,rfl,⟨vs,k.gh.seq h1⟩,a _ G' H' k (.refl _) (ziy h1 r1)⟩
 | tuple ds =>
  obtain ⟨ad,vs,rfl,h1,r1⟩:=r.tup_inv
  exact .inr (.inl ⟨ad,rfl,⟨vs,zdu k.gh h1⟩,a _ G' H' k (.refl _) (zhg h1 r1)⟩)
 | str z =>
  have:=r.str_inv
  subst this
  exact .inr (.inr ⟨z,rfl,a _ G' H' k (.refl _) zjR⟩)
 | _=>exact a.elim
def inS (i j:Str):Bool:=!(Builtin.Str.occurrences j i 0 j.length 1).isEmpty
def oInS:D->D->Option Bool
 | .str i,.str j=>some (inS i j)
 | _,_=>none
def zov:D->D->Option Bool
 | .str i,.str j=>some (!inS i j)
 | _,_=>none
theorem zpx:OpB X (compareOp .In) oInS:=⟨_,zjm,fun v u G H x y d Q s rx ry e k=>by
 unfold oInS at e
 split at e
 ·cases e
  have:=rx.str_inv;subst this
  have:=ry.str_inv;subst this
  exact ⟨_,_,rfl,rfl,k⟩
 ·cases e⟩
theorem zow:OpB X (compareOp .NotIn) zov:=⟨_,zf7,fun v u G H x y d Q s rx ry e k=>by
 unfold zov at e
 split at e
 ·cases e
  have:=rx.str_inv;subst this
  have:=ry.str_inv;subst this
  exact ⟨_,_,rfl,rfl,k⟩
 ·cases e⟩
theorem zlL {x:Str} {i:Int} (hg:Gl X x) (hm:∃ t,X.mg x=some (.int i t)) (hd:(x == ("__debug__" : Str))=false:=by decide):PE X (.Name x pos) (tD X.K B G0 (zah (.int i))):=by
 obtain ⟨t,hm⟩:=hm
 exact peof (zmM (v:=.int i) hg hm ⟨t,rfl⟩ hd) fun σ H Q ⟨G,ρ,k,a⟩=>aft.now a k (.int _)
end
section
variable {X:Cx} {B G0:Hp} {KX:XW} {e o a b c tg i:Expr} {pos p2:Pos} {es rest:List Expr} {te to ti:TE}
def zox (te to ti:TE):TS:=fun D σ H=>te σ H fun v H1=>to σ H1 fun x H2=>ti σ H2 fun k H3=>∃ l xs n,x=.ref l/\H3 l=some (.lst xs)/\k=.int n/\0<=n/\n < xs.length/\D.nx σ (upd H3 l (.lst (xs.set n.toNat v)))
theorem zlM (he:PE X e te) (ho:PE X o to) (hi:PE X i ti) (hs:swapsWith e (some (.Subscript o i p2)) pos.line X.env=pure false:=by rfl):PS X (.Assign [.Subscript o i p2] e pos) (zox te to ti):=by
 intro pins s σ H D I h
 refine wpAny_Assign_Subscript (thn (he pins s σ H _ I h) fun v s1 ⟨x,H1,I1,r1,q1⟩=>thn (ho pins s1 σ H1 _ I1 q1) fun ov s2 ⟨y,H2,I2,r2,q2⟩=>thn (hi pins s2 σ H2 _ I2 q2) fun iv s3 ⟨k,H3,I3,r3,q3⟩=>?_) hs
 obtain ⟨l,xs,n,rfl,hl,rfl,h0,h1,q⟩:=q3
 cases r2
 obtain ⟨t,rfl⟩:=r3
 obtain ⟨z,its,m,r,hlen,ee⟩:=I3.lstM hl
 refine PySem.W.ki_setAt (items:=its.toArray) (n:=m) ee h0 (by
                                  have:sizeLine < 2 ^ 63:=by decide
                                  omega) (by simp;omega) ?_
 refine ⟨σ,_,I3.lset (t':=s3.toks) (its:=its) (its':=its.set n.toNat v) (f:=(·.setIfInBounds n.toNat v)) hl ee (by simp) (r.set r1 n.toNat) (by rw [List.length_set];exact z),q⟩
def ze7 (j:Nat) (g f:M D):SM:=sB f fun d ρ1=>match ρ1[j]? with
 | some (some (.own _))=>sB g (fun y ρ2=>match y with
  | .int k=>(match ρ2[j]? with
   | some (some (.own ds))=>if 0<=k/\k < ds.length then .nx (ρ2.set j (some (.own (ds.set k.toNat d)))) else .bad
   | _=>.bad)
  | _=>.bad) ρ1
 | _=>.bad
theorem zdr {j:Nat} {f g:M D} (he:PE X e (tD X.K B G0 f)) (ho:PE X o (tVar j)) (hi:PE X i (tD X.K B G0 g)) (hs:swapsWith e (some (.Subscript o i p2)) pos.line X.env=pure false:=by rfl) :
  PS X (.Assign [.Subscript o i p2] e pos) (tS X.K B G0 KX (ze7 j g f)) :=
 psof (zlM he ho hi hs) fun D σ H q=>tS.bnd (R:=Rep X.K) q fun v H1 G1 ρ1 d k r a=>by
  cases q0 : ρ1[j]? with
  | none=>rw [q0] at a;exact a.elim
  | some o0 =>
   cases o0 with
   | none=>rw [q0] at a;exact a.elim
   | some sl0 =>
    cases sl0 with
    | deep _ _=>rw [q0] at a;exact a.elim
    | pub d=>rw [q0] at a;exact a.elim
    | own ds0 =>
     rw [q0] at a
     obtain ⟨ad,vs0,h1,h2,h3,h4,h5⟩:=k.own j ds0 q0
     refine ⟨.ref ad,h1,G1,ρ1,k,?_⟩
     dsimp only at a
     unfold sB at a
     cases z:g ρ1 with
     | bad=>rw [z] at a;exact a.elim
     | ok y ρ2 =>
      rw [z] at a
      dsimp only at a
      intro kv G' H' k' s' r'
      cases y with
      | int n =>
       dsimp only at a
       cases q : ρ2[j]? with
       | none=>rw [q] at a;exact a.elim
       | some oo =>
        cases oo with
        | none=>rw [q] at a;exact a.elim
        | some sl =>
         cases sl with
         | deep _ _=>rw [q] at a;exact a.elim
         | pub d=>rw [q] at a;exact a.elim
         | own ds =>
          rw [q] at a
          dsimp only at a
          split at a
          ·rename_i hn
           obtain ⟨ad',vs,g1,g2,g3,g4,g5⟩:=k'.own j ds q
           rw [h1] at g1
           cases g1
           refine ⟨ad,vs,n,rfl,g4,r'.int_inv,hn.1,by rw [g5.length];exact hn.2,?_⟩
           exact a σ G' _ (k'.change q h1 (g5.set (r.mono s') n.toNat)) s'
          ·exact a.elim
      | _=>exact a.elim
def cutS (z:Str) (lo hi:Option Int):Str:=if (Builtin.Str.strSliceIndices lo hi 1 z.length).length=z.length then z else ⟨((Builtin.Str.strSliceIndices lo hi 1 z.length).filterMap (z.cps[·]?)).toArray⟩
theorem zoy:SlR X (fun x lo hi H Q=>∃ z,x=.str z/\(cutS z lo hi).length<=sizeLine/\Q (.str (cutS z lo hi)) H):=by
 intro pins s σ H x v vl vu lo hi sl Q I rx hs pl pu h
 obtain ⟨z,rfl,hz,q⟩:=h
 obtain ⟨t,rfl⟩:=rx
 refine ⟨"str", _,F.slot_str_getitem.lookup,typeIs_str s z t,?_⟩
 obtain ⟨l,el,e1⟩:∃ l:Option (Int × Tok),vl=partValue l/\l.map (·.1)=lo:=by
  cases pl with
  | none=>exact ⟨none,rfl,rfl⟩
  | int k t'=>exact ⟨some (k,t'),rfl,rfl⟩
 obtain ⟨u,eu,e2⟩:∃ u:Option (Int × Tok),vu=partValue u/\u.map (·.1)=hi:=by
  cases pu with
  | none=>exact ⟨none,rfl,rfl⟩
  | int k t'=>exact ⟨some (k,t'),rfl,rfl⟩
 subst el eu
 refine wpAny_getItem_str_slice (l:=l) (u:=u) (st:=none) hs rfl ?_
 unfold sliceMade slicePicked
 rw [e1,e2]
 unfold cutS at hz q
 by_cases hw:(Builtin.Str.strSliceIndices lo hi 1 z.length).length=z.length
 ·rw [if_pos hw] at hz q
  rw [if_pos (by simp [hw])]
  exact ⟨.str z,H,I,⟨t,rfl⟩,q⟩
 ·rw [if_neg hw] at hz q
  rw [if_neg (by simp [hw])]
  exact ⟨hz,.str _,H,I.tok _,⟨_,rfl⟩,q⟩
end
section
variable {X:Cx} {B G0:Hp} {KX:XW} {e o a b c tg i:Expr} {pos p2:Pos} {es rest:List Expr} {te to ti:TE}
theorem pvb (i:Nat) {x:Str} {pos:Pos} {N':List Str} {scope:Scope} {cl:List (Str × Addr)} {C:Addr} {s₀ : Shared} {H₀ : Hp} {ex:List Addr} (hN:N'[i]?=some x:=by rfl)
  (h:scope.names.lookup x=some .local ∨ scope.names.lookup x=some .free:=by first | exact .inl rfl | exact .inr rfl) (hd:(x == ("__debug__" : Str))=false:=by decide) (hcd:(x == ("__classdict__" : Str))=false:=by decide) :
  PE (X.blk N' scope cl C s₀ H₀ ex) (.Name x pos) (tVar i):=zmq hN (zng h) hd hcd
def oSlA:D->Option Int->Option Int->Option D
 | .list xs,lo,hi=>some (.list (DL.cutD xs lo hi))
 | .str z,lo,hi=>if (cutS z lo hi).length<=1000000 then some (.str (cutS z lo hi)) else none
 | _,_,_=>none
def dSlA (f:M D) (lo hi:M (Option Int)):M D:=zas f fun x=>zas lo fun l=>zas hi fun h=>mOpt (oSlA x l h)
theorem zbj {lo hi:Option Expr} {f:M D} {l h:M (Option Int)} (he:PE X e (tD X.K B G0 f)) (hl:PO X lo (tOi X.K B G0 l)) (hu:PO X hi (tOi X.K B G0 h)) :
  PE X (.Subscript e (.Slice lo hi none p2) pos) (tD X.K B G0 (dSlA f l h)) :=
 peof (zlt (zm0.or zoy) he hl hu) fun σ H Q q=>by
  refine tM.one (R:=Rep X.K) q fun v H2 G ρ x k r a=>?_
  refine tM.nx (R:=fun _ b c=>b=c) k a fun l' H3 G3 ρ3 xl k3 s3 r3 a3=>?_
  refine tM.nx (R:=fun _ b c=>b=c) k3 a3 fun h' H4 G4 ρ4 xh k4 s4 r4 a4=>?_
  have r3:l'=xl:=r3
  have r4:h'=xh:=r4
  subst r3 r4
  unfold mOpt oSlA at a4
  cases x with
  | list xs =>
   obtain ⟨ad,vs,rfl,h1,r1⟩:=((r.mono s3).mono s4).lst_inv
   exact .inl ⟨ad,vs,rfl,k4.gh.seq h1,fun p hp=>aft.done a4 k4 (Ext.new k4.gh hp) (.lst (SqL.of zaL) ((r1.cut l' h').mono (zaM (k4.gh.free hp))))⟩
  | str z =>
   dsimp only at a4
   have:=r.str_inv;subst this
   by_cases hc:(cutS z l' h').length<=1000000
   ·rw [if_pos hc] at a4
    exact .inr ⟨z,rfl,Nat.le_trans hc lim,aft.now a4 k4 (.str _)⟩
   ·rw [if_neg hc] at a4;exact a4.elim
  | _=>exact a4.elim
end
section
variable {X:Cx} {B G0:Hp} {e o a b c tg:Expr} {pos p2:Pos} {es rest:List Expr} {te to ti:TE}
def zby {β : Type} (p:D->D->Option β) (i:Nat) (g:M D):M β:=fun ρ=>match ρ[i]? with
 | some (some (.pub d))=>(zas g fun y=>mOpt (p d y)) ρ
 | some (some (.own _))=>(zas g fun y=>fun ρ'=>match ρ'[i]? with | some (some (.own ds))=>mOpt (p (.list ds) y) ρ' | _=>.bad) ρ
 | _=>.bad
theorem zoz {K:PySem.W.Frag} {σ : St} {H:Hp} {p:D->D->Option Bool} {r:R2} {i:Nat} {g:M D} {Q:Bool->Hp->Prop} {QV:VK} (hq:∀ t H3,Q t H3->QV (.bl t) H3) (hr:∀ v u G H x y d Q,Same G H->Rep K G v x->Rep K G u y->p x y=some d->Q (.bl d) H->r v u H Q)
  (q:tBo K B G0 (zby p i g) σ H Q):tVar i σ H fun x H1=>tD K B G0 g σ H1 fun y H2=>r x y H2 QV:=by
 obtain ⟨G,ρ,k,a⟩:=q
 unfold zby at a
 cases q : ρ[i]? with
 | none=>rw [q] at a;exact a.elim
 | some o =>
  cases o with
  | none=>rw [q] at a;exact a.elim
  | some sl =>
   cases sl with
   | deep _ _=>rw [q] at a;exact a.elim
   | pub d =>
    rw [q] at a
    obtain ⟨v,h1,h2⟩:=k.pub i d q
    refine ⟨v,h1,G,ρ,k,?_⟩
    dsimp only [zas] at a
    cases z:g ρ with
    | bad=>rw [z] at a;exact a.elim
    | ok y ρ1 =>
     rw [z] at a
     intro u G' H' k' s' r'
     obtain ⟨d',e',a'⟩:=aft.opt a
     exact hr v u G' H' d y d' _ k'.gh (h2.mono s') r' e' (hq _ _ (a' d' G' H' k' s' rfl))
   | own ds =>
    rw [q] at a
    obtain ⟨ad,vs,h1,h2,h3,h4,h5⟩:=k.own i ds q
    refine ⟨.ref ad,h1,G,ρ,k,?_⟩
    dsimp only [zas] at a
    cases z:g ρ with
    | bad=>rw [z] at a;exact a.elim
    | ok y ρ1 =>
     rw [z] at a
     dsimp only at a
     intro u G' H' k' s' r'
     cases q1 : ρ1[i]? with
     | none=>rw [q1] at a;exact a.elim
     | some oo =>
      cases oo with
      | none=>rw [q1] at a;exact a.elim
      | some sl1 =>
       cases sl1 with
       | deep _ _=>rw [q1] at a;exact a.elim
       | pub d1=>rw [q1] at a;exact a.elim
       | own ds1 =>
        rw [q1] at a
        dsimp only at a
        obtain ⟨ad',ws,g1,g2,g3,g4,g5⟩:=k'.own i ds1 q1
        rw [h1] at g1
        cases g1
        obtain ⟨d',e',a'⟩:=aft.opt a
        have sg:Same G' (upd G' ad (.lst ws)):=zaM g3
        have sh:Same (upd G' ad (.lst ws)) H':=fun b o q=>by
         by_cases z:b=ad
         ·subst z;rw [zaL] at q;cases q;exact g4
         ·rw [zaR z] at q;exact k'.gh b o q
        exact hr (.ref ad) u _ H' (.list ds1) y d' _ sh (.lst (SqL.of zaL) (g5.mono sg)) (r'.mono sg) e' (hq _ _ (a' d' G' H' k' s' rfl))
theorem zbS {op:CmpOp} {p:D->D->Option Bool} {i:Nat} {g:M D} (o:OpB X (compareOp op) p) (ha:PE X a (tVar i)) (hb:PE X b (tD X.K B G0 g)) (hm:behindInMarks op b=false) :
  PT X (.Compare a [op] [b] pos) (tBo X.K B G0 (zby p i g)):=by
 obtain ⟨r,h,j⟩:=o
 exact ptof (zjo h ha hb hm) fun σ H Q q=>zoz (fun t H3 z=>⟨t,rfl,z⟩) j q
theorem zhh {op:CmpOp} {p:D->D->Option Bool} {i:Nat} {g:M D} (o:OpB X (compareOp op) p) (ha:PE X a (tVar i)) (hb:PE X b (tD X.K B G0 g)) (hm:behindInMarks op b=false) :
  PE X (.Compare a [op] [b] pos) (tD X.K B G0 (mMap PyData.bool (zby p i g))):=by
 obtain ⟨r,h,j⟩:=o
 exact peof (zjn h ha hb hm) fun σ H Q q=>zoz (fun t H3 z=>z) j (tBo.val q)
end
end DL
namespace L2
open PySem PySem.Spec PyProof.Rows
def Itz (K:PySem.W.Frag) (a b:Addr):It :=
 ⟨fun i H=>∃ xs x ys y,SqL K H a xs/\xs[i]?=some x/\SqL K H b ys/\ys[i]?=some y,
  fun i H v H'=>∃ p x y,H p=none/\v=.ref p/\(∀ xs,SqL K H a xs->xs[i]?=some x)/\(∀ ys,SqL K H b ys->ys[i]?=some y)/\H'=upd H p (.tup [x,y]),
  fun i H=>∃ xs ys,SqL K H a xs/\SqL K H b ys/\(xs.length<=i ∨ ys.length<=i)⟩
theorem zlN {P:Program} {w:World} {K:PySem.W.Frag} {elts:List Expr} {x1} {tp:Pos} (a b z TI TO i1 i2:Addr) (Dz:ZipApart z TI TO i1 i2 a b) :
  Turn P w K (.Tuple elts x1 tp) (Itz K a b) [z,TI,TO,i1,i2] z (fun i h=>IsZip h z TI TO .none/\IsPair h TI (.ref i1) (.ref i2)/\(∃ c d,IsPair h TO c d)/\h.IsListIter i1 a i/\h.IsListIter i2 b i) where
 mem:=by simp
 obj:=fun i h st c hc=>by
  obtain ⟨h1,h2,⟨c0,d0,h3⟩,⟨o4,h4,_,d4⟩,⟨o5,h5,_,d5⟩⟩:=st
  have hc':c=z ∨ c=TI ∨ c=TO ∨ c=i1 ∨ c=i2:=by simpa using hc
  rcases hc' with rfl | rfl | rfl | rfl | rfl
  ·exact ⟨_,h1,fun v q=>by have q':Data.fields _=Data.cell v:=q;cases q'⟩
  ·exact ⟨_,h2,fun v q=>by have q':Data.seq _ _=Data.cell v:=q;cases q'⟩
  ·exact ⟨_,h3,fun v q=>by have q':Data.seq _ _=Data.cell v:=q;cases q'⟩
  ·exact ⟨o4,h4,fun v q=>by rw [d4] at q;cases q⟩
  ·exact ⟨o5,h5,fun v q=>by rw [d5] at q;cases q⟩
 keep:=fun i h h' st k=>by
  obtain ⟨h1,h2,⟨c0,d0,h3⟩,h4,h5⟩:=st
  exact ⟨k z (by simp) _ h1,k TI (by simp) _ h2,⟨c0,d0,k TO (by simp) _ h3⟩,h4.at fun o q=>k i1 (by simp) o q,h5.at fun o q=>k i2 (by simp) o q⟩
 item:=by
  intro X hP hw hK hc i pins s σ H E I hf st hg
  subst hP hw hK
  obtain ⟨h1,h2,⟨c0,d0,h3⟩,h4,h5⟩:=st
  obtain ⟨xs,x,ys,y,hq,hx,hq',hy⟩:=hg
  obtain ⟨its,rv,p,hz⟩:=I.list hq
  obtain ⟨its',rv',p',hz'⟩:=I.list hq'
  obtain ⟨u,hu,ru⟩:=rv.get hx
  obtain ⟨u',hu',ru'⟩:=rv'.get hy
  refine wpAny_pyNext_zip_item Dz h1 h2 h3 h4 h5 p.isList p'.isList (x:=u) (y:=u') (by simpa using hu) (by simpa using hu') fun h' g1 g3 g4 g5 gp gs gk=>?_
  refine ⟨_,rfl,wpAny_letOwnedTupleGo_zip g1 fun h2' gz sb=>?_⟩
  have hzl:z < s.heap.objs.size:=Heap.lt_size h1
  have sb':Heap.SameBut z h' h2':=sb
  have gp2:h2'.get? s.heap.objs.size=some { cls:=.type "tuple", data:=.seq #[u,u'] }:=(sb'.2 _ (Nat.ne_of_gt hzl)).trans gp
  have kk:∀ c o,c ∉ [z,TI,TO,i1,i2]->s.heap.get? c=some o->h2'.get? c=some o:=fun c o hc q=>by
   have n1:c ≠ z:=fun e=>hc (by simp [e])
   have n3:c ≠ TO:=fun e=>hc (by simp [e])
   have n4:c ≠ i1:=fun e=>hc (by simp [e])
   have n5:c ≠ i2:=fun e=>hc (by simp [e])
   exact (sb'.2 c n1).trans (gk c o n1 n3 n4 n5 q)
  have hn:H s.heap.objs.size=none:=I.hok.fresh (Nat.le_refl _)
  have I2:Inv X pins σ (upd H s.heap.objs.size (.tup [x,y])) { s with heap:=h2' } :=
   I.turnedNew (t':=s.toks) (fp:=[z,TI,TO,i1,i2]) hf kk (Nat.le_refl _) ⟨by show 2<=sizeLine;decide,[u,u'],.cons ru (.cons ru' .nil),⟨_,gp2,rfl,_,rfl⟩⟩
  have gTI:IsPair h' TI (.ref i1) (.ref i2):=gk TI _ Dz.TIz Dz.TITO Dz.TIi1 Dz.TIi2 h2
  refine ⟨.ref s.heap.objs.size,_,I2,rfl,⟨_,x,y,hn,rfl,fun ws hw=>by rw [I.list_inj hw hq];exact hx,fun ws hw=>by rw [I.list_inj hw hq'];exact hy,rfl⟩,
   ⟨gz,(sb'.2 _ Dz.TIz).trans gTI,⟨u,u',(sb'.2 _ Dz.TOz).trans g3⟩,g4.at fun o q=>(sb'.2 _ Dz.i1z).trans q,g5.at fun o q=>(sb'.2 _ Dz.i2z).trans q⟩,fun c hc=>?_⟩
  have hlt:c < s.heap.objs.size:=by
   have hc':c=z ∨ c=TI ∨ c=TO ∨ c=i1 ∨ c=i2:=by simpa using hc
   rcases hc' with rfl | rfl | rfl | rfl | rfl
   ·exact hzl
   ·exact Heap.lt_size h2
   ·exact Heap.lt_size h3
   ·obtain ⟨o,ho,_⟩:=h4;exact Heap.lt_size ho
   ·obtain ⟨o,ho,_⟩:=h5;exact Heap.lt_size ho
  rw [zaR (Nat.ne_of_lt hlt)]
  exact (hf c hc).1
 done:=by
  intro X hP hw hK hc i pins s σ H E I hf st hg
  subst hP hw hK
  obtain ⟨h1,h2,⟨c0,d0,h3⟩,h4,h5⟩:=st
  obtain ⟨xs,ys,hq,hq',hx⟩:=hg
  obtain ⟨its,rv,p,hz⟩:=I.list hq
  obtain ⟨its',rv',p',hz'⟩:=I.list hq'
  have hl:=rv.length
  have hl':=rv'.length
  refine wpAny_pyNext_zip_end (I.ok.hd hc) Dz h1 h2 h3 h4 h5 p.isList p'.isList ?_ fun h' eb=>⟨rfl,I.turnedL (t':=s.toks) hf fun c o hb q=>eb c o (fun e=>hb (by simp [e])) (fun e=>hb (by simp [e])) (fun e=>hb (by simp [e])) (fun e=>hb (by simp [e])) q⟩
  rcases hx with hx | hx
  ·exact .inl (by simp;omega)
  ·exact .inr (by simp;omega)
 self:=fun _ _ _ _ _ st h=>wpAny_pyIter_zip st.1 h
section
variable {X:Cx}
def iZip (K:PySem.W.Frag) (ta:TA):TI:=fun σ H R=>ta σ H fun vs H1=>∃ a b xs ys,vs=[.ref a,.ref b]/\SqL K H1 a xs/\SqL K H1 b ys/\R (Itz K a b) H1
theorem zoA {a b:Expr} {ta:TA} {p pos:Pos} {elts:List Expr} {x1} {tp:Pos} (hg:Gl X "zip") (hm:X.mg "zip" = none) (ha:PA X [a,b] ta)
  (hs:starEach [a,b] X.env=[(false,eval a X.env),(false,eval b X.env)]:=by rfl) (hs2:starEach [b] X.env=[(false,eval b X.env)]:=by rfl):PI X (.Tuple elts x1 tp) (.Call (.Name "zip" p) [a,b] [] pos) (iZip X.K ta):=by
 intro pins s σ H R I h
 refine Call_ (zec I hg hm boot_zip (PyProof.Rows.callWith_type1 (thn (ha pos pins s σ H _ I h) fun us s1 ⟨vs,H1,I1,r1,q1⟩=>?_) (by rw [hs,hs2]) (by rw [hs2];rfl)))
 obtain ⟨l1,l2,xs,ys,e,hq,hq',q⟩:=q1
 subst e
 cases r1 with
 | cons r rr =>
  cases rr with
  | cons r' rr =>
   cases rr
   cases (show _=Value.ref l1 from r)
   cases (show _=Value.ref l2 from r')
   obtain ⟨its,rv,pl,hz⟩:=I1.list hq
   obtain ⟨its',rv',pl',hz'⟩:=I1.list hq'
   have n1:l1 < s1.heap.objs.size:=by obtain ⟨_,e,_⟩:=id pl.isList;exact Heap.lt_size e
   have n2:l2 < s1.heap.objs.size:=by obtain ⟨_,e,_⟩:=id pl'.isList;exact Heap.lt_size e
   have ne:∀ i j:Nat,i ≠ j->s1.heap.objs.size+i ≠ s1.heap.objs.size+j:=fun i j h e=>h (Nat.add_left_cancel e)
   have m1:∀ m:Nat,l1 ≠ s1.heap.objs.size+m:=fun m=>Nat.ne_of_lt (Nat.lt_of_lt_of_le n1 (Nat.le_add_right _ _))
   have m2:∀ m:Nat,l2 ≠ s1.heap.objs.size+m:=fun m=>Nat.ne_of_lt (Nat.lt_of_lt_of_le n2 (Nat.le_add_right _ _))
   refine call_zip_2 pl.isList pl'.isList fun h' g1 g2 g3 g4 g5 gs kk=>?_
   have I2:Inv X pins σ H1 { s1 with heap:=h' }:=I1.kept (t':=s1.toks) kk
   refine wpAny_pyIter_zip g1 ?_
   refine ⟨s1.heap.objs.size+4,[s1.heap.objs.size+4,s1.heap.objs.size+2,s1.heap.objs.size+3,s1.heap.objs.size,s1.heap.objs.size+1],_,_,H1,rfl,I2,
    zlN l1 l2 (s1.heap.objs.size+4) (s1.heap.objs.size+2) (s1.heap.objs.size+3) s1.heap.objs.size (s1.heap.objs.size+1) ⟨ne 2 4 (by decide),ne 3 4 (by decide),ne 0 4 (by decide),ne 1 4 (by decide),ne 2 3 (by decide),ne 2 0 (by decide),ne 2 1 (by decide),ne 3 0 (by decide),ne 3 1 (by decide),ne 0 1 (by decide),m1 4,m1 3,m1 0,m1 1,m2 4,m2 3,m2 0,m2 1⟩,⟨g1,g2,⟨_,_,g3⟩,g4,g5⟩,fun c hc=>?_,q⟩
   have hc':s1.heap.objs.size<=c:=by
    have hc':c=s1.heap.objs.size+4 ∨ c=s1.heap.objs.size+2 ∨ c=s1.heap.objs.size+3 ∨ c=s1.heap.objs.size ∨ c=s1.heap.objs.size+1:=by simpa using hc
    rcases hc' with rfl | rfl | rfl | rfl | rfl <;> first | exact Nat.le_add_right _ _ | exact Nat.le_refl _
   exact I1.fpOk hc' (I1.hok.fresh hc')
end
end L2
namespace DL
open PySem PySem.Spec L2
open PyProof.Rows hiding St
section
variable {X:Cx} {B G0:Hp} {e a b c tg:Expr} {pos:Pos} {es rest:List Expr}
def zipD (xs ys:List D):List D:=(xs.zip ys).map fun p=>.tuple [p.1,p.2]
theorem zjS {K:PySem.W.Frag} {G1:Hp} {a b:Addr} {vs ws:List V} {ds es:List D} (h:SqL K G1 a vs) (h':SqL K G1 b ws) (r:Reps K G1 vs ds) (r':Reps K G1 ws es):zek K (Itz K a b) (zipD ds es) G1 where
 go:=fun i G H s1 s2 hi=>by
  unfold zipD at hi
  rw [List.length_map,List.length_zip] at hi
  have hi1:i < vs.length:=by rw [r.length];omega
  have hi2:i < ws.length:=by rw [r'.length];omega
  exact ⟨vs,vs[i],ws,ws[i],(s1.trans s2).seq h,List.getElem?_eq_getElem hi1,(s1.trans s2).seq h',List.getElem?_eq_getElem hi2⟩
 stop:=fun i G H s1 s2 hi=>by
  unfold zipD at hi
  rw [List.length_map,List.length_zip] at hi
  refine ⟨vs,ws,(s1.trans s2).seq h,(s1.trans s2).seq h',?_⟩
  rw [r.length,r'.length]
  omega
 yld:=fun i G H x H' d s1 s2 e y=>by
  obtain ⟨p,u,v,hp,rfl,y1,y2,rfl⟩:=y
  have z1:=y1 vs ((s1.trans s2).seq h)
  have z2:=y2 ws ((s1.trans s2).seq h')
  unfold zipD at e
  rw [List.getElem?_map] at e
  cases q:(ds.zip es)[i]? with
  | none=>rw [q] at e;cases e
  | some pr =>
   rw [q] at e
   cases e
   rw [List.getElem?_zip_eq_some] at q
   obtain ⟨u',e1,r1⟩:=r.get q.1
   obtain ⟨v',e2,r2⟩:=r'.get q.2
   rw [z1] at e1
   rw [z2] at e2
   cases e1
   cases e2
   exact ⟨upd G p (.tup [u,v]),Ext.new s2 hp,.tup (SqT.of zaL) (.cons ((r1.mono s1).mono (zaM (s2.free hp))) (.cons ((r2.mono s1).mono (zaM (s2.free hp))) .nil))⟩
def oZip:List D->Option (List D)
 | [.list xs,.list ys]=>some (zipD xs ys)
 | _=>none
theorem zlO {x l:List D} (h:oZip x=some l):∃ xs ys,x=[.list xs,.list ys]/\l=zipD xs ys:=by
 unfold oZip at h
 split at h
 ·cases h;exact ⟨_,_,rfl,rfl⟩
 ·cases h
def dZip (f:M (List D)):M (List D):=zas f fun x=>mOpt (oZip x)
theorem zoB {f:M (List D)} {p2:Pos} {elts:List Expr} {x1} {tp:Pos} (hg:Gl X "zip") (hm:X.mg "zip" = none) (ha:PA X [a,b] (tDs X.K B G0 f)) (hs:starEach [a,b] X.env=[(false,eval a X.env),(false,eval b X.env)]:=by rfl) (hs2:starEach [b] X.env=[(false,eval b X.env)]:=by rfl) :
  PI X (.Tuple elts x1 tp) (.Call (.Name "zip" p2) [a,b] [] pos) (iD X.K B G0 (dZip f)):=piof (zoA hg hm ha hs hs2) fun σ H R q=>tM.toI (R0:=Reps X.K) q fun v H' G' ρ' x k r a=>by
 cases z:oZip x with
 | none=>rw [z] at a;exact a.elim
 | some l =>
  rw [z] at a
  obtain ⟨xs,ys,rfl,rfl⟩:=zlO z
  cases r with
  | cons r1 rr =>
   cases rr with
   | cons r2 rr =>
    cases rr
    obtain ⟨l1,vs,rfl,h1,q1⟩:=r1.lst_inv
    obtain ⟨l2,ws,rfl,h2,q2⟩:=r2.lst_inv
    exact ⟨l1,l2,vs,ws,rfl,k.gh.seq h1,k.gh.seq h2,a _ G' H' k (.refl _) (zjS h1 h2 q1 q2)⟩
end
section
variable {X:Cx} {B G0:Hp} {e o a b c tg:Expr} {pos p2 p3:Pos} {es rest:List Expr} {te to ti:TE}
def oIn:D->D->Option Bool
 | .str i,.str j=>some (inS i j)
 | x,.list xs=>if x.canLay0=true/\PyData.canLayAll0 xs=true/\x.depth<=60 then some (xs.any fun y=>PyData.eqv y x) else none
 | x,.tuple xs=>if x.canLay0=true/\PyData.canLayAll0 xs=true/\x.depth<=60 then some (xs.any fun y=>PyData.eqv y x) else none
 | _,_=>none
def oNin (x y:D):Option Bool:=(oIn x y).map fun t=>!t
def oInQ (x y:D):Option Bool:=match y with
 | .list xs=>if x.canLay0=true/\PyData.canLayAll0 xs=true/\x.depth<=60 then some (xs.any fun y=>PyData.eqv y x) else none
 | .tuple xs=>if x.canLay0=true/\PyData.canLayAll0 xs=true/\x.depth<=60 then some (xs.any fun y=>PyData.eqv y x) else none
 | _=>none
theorem zpy (hu:X.A.units+64 < cLine):OpB X (compareOp .In) oInQ:=by
 refine ⟨fun v u H Q=>∃ G x y d,Same G H/\Rep X.K G v x/\Rep X.K G u y/\oInQ x y=some d/\Q (.bl d) H,?_,fun v u G H x y d Q s rx ry e k=>⟨G,x,y,d,s,rx,ry,e,k⟩⟩
 intro pins s σ H x y v u Q I rx ry ⟨G,dx,dy,d,sg,px,py,e,q⟩
 unfold oInQ at e
 split at e
 ·split at e
  ·rename_i c
   cases e
   obtain ⟨as,ra⟩:=zbr I sg px rx c.1
   obtain ⟨bs,rb⟩:=zbr I sg py ry (show PyData.canLayAll0 _=true from c.2.1)
   exact SeqAt.in_list_reads rb ra c.2.1 c.1 (by have:=c.2.2;omega) ⟨.bl _,H,I,rfl,q⟩
  ·cases e
 ·split at e
  ·rename_i c
   cases e
   obtain ⟨as,ra⟩:=zbr I sg px rx c.1
   obtain ⟨bs,rb⟩:=zbr I sg py ry (show PyData.canLayAll0 _=true from c.2.1)
   exact SeqAt.in_tuple_reads rb ra c.2.1 c.1 (by have:=c.2.2;omega) ⟨.bl _,H,I,rfl,q⟩
  ·cases e
 ·cases e
theorem zoC (hu:X.A.units+64 < cLine):OpB X (compareOp .NotIn) (fun x y=>(oInQ x y).map fun t=>!t):=by
 refine ⟨fun v u H Q=>∃ G x y d,Same G H/\Rep X.K G v x/\Rep X.K G u y/\(oInQ x y).map (fun t=>!t)=some d/\Q (.bl d) H,?_,fun v u G H x y d Q s rx ry e k=>⟨G,x,y,d,s,rx,ry,e,k⟩⟩
 intro pins s σ H x y v u Q I rx ry ⟨G,dx,dy,d,sg,px,py,e,q⟩
 unfold oInQ at e
 split at e
 ·split at e
  ·rename_i c
   cases e
   obtain ⟨as,ra⟩:=zbr I sg px rx c.1
   obtain ⟨bs,rb⟩:=zbr I sg py ry (show PyData.canLayAll0 _=true from c.2.1)
   exact SeqAt.notIn_list_reads rb ra c.2.1 c.1 (by have:=c.2.2;omega) ⟨.bl _,H,I,rfl,q⟩
  ·cases e
 ·split at e
  ·rename_i c
   cases e
   obtain ⟨as,ra⟩:=zbr I sg px rx c.1
   obtain ⟨bs,rb⟩:=zbr I sg py ry (show PyData.canLayAll0 _=true from c.2.1)
   exact SeqAt.notIn_tuple_reads rb ra c.2.1 c.1 (by have:=c.2.2;omega) ⟨.bl _,H,I,rfl,q⟩
  ·cases e
 ·cases e
theorem B_in (hu:X.A.units+64 < cLine):OpB X (compareOp .In) oIn:=(zpx.or (zpy hu)).congr fun x y=>by
 cases x <;> cases y <;> rfl
theorem zoD (hu:X.A.units+64 < cLine):OpB X (compareOp .NotIn) oNin:=(zow.or (zoC hu)).congr fun x y=>by
 cases x <;> cases y <;> rfl
theorem zjT {tl th ts:TO} {lo hi:Option Expr} {st:Expr} (he:PE X e te) (hl:PO X lo tl) (hu:PO X hi th) (hst:PO X (some st) ts):PE X (.Subscript e (.Slice lo hi (some st) p2) pos)
  (fun σ H Q=>te σ H fun x H1=>tl σ H1 fun l H2=>th σ H2 fun u H3=>ts σ H3 fun t H4=>∃ a xs,x=.ref a/\SqL X.K H4 a xs/\l=none/\u=none/\t=some (-1)/\∀ p,H4 p=none->Q (.ref p) (upd H4 p (.lst xs.reverse))):=by
 intro pins s σ H Q I h
 refine Subscript_ (thn (he pins s σ H _ I h) fun v s1 ⟨x,H1,I1,r1,q1⟩=>?_)
 refine wpAny_Slice (thn (hl pins s1 σ H1 _ I1 q1) fun vl s2 ⟨l,H2,I2,pl,q2⟩=>thn (hu pins s2 σ H2 _ I2 q2) fun vu s3 ⟨u,H3,I3,pu,q3⟩=>thn (hst pins s3 σ H3 _ I3 q3) fun vt s4 ⟨t,H4,I4,pt,q4⟩=>?_)
 obtain ⟨a,xs,rfl,hx,rfl,rfl,rfl,q⟩:=q4
 cases r1
 have I5:Inv X pins σ H4 { s4 with heap:=s4.heap.push { cls:=.type "slice", data:=.fields #[vl,vu,vt] } }:=I4.kept (t':=s4.toks) fun b ob q=>Heap.get?_push_of_some _ q
 obtain ⟨its,r,ht,hz⟩:=I5.list hx
 have hlen:=r.length
 have hg:wpAny (model X.prog X.w) X.A (getItem (.ref a) (.ref s4.heap.objs.size)) (EP X pins σ Q) X.xe { s4 with heap:=s4.heap.push { cls:=.type "slice", data:=.fields #[vl,vu,vt] } }:=by
  refine wpAny_getItem_list_slice ht.isList (Heap.IsSliceOf.new ..) pl pu pt (by simp) ?_ (by rw [List.size_toArray] <;> omega)
  rw [PySem.W.krv_pick]
  refine ⟨.ref _,_,I5.laid (t':=s4.toks) (o:=.lst xs.reverse) (fun b ob q=>Heap.get?_push_of_some _ q) (Nat.le_refl _) ?_,rfl,q _ (I5.hok.fresh (Nat.le_refl _))⟩
  exact ⟨by rw [List.length_reverse];exact hz,its.reverse,0,r.reverse,Heap.get?_push_size _ rfl⟩
 show wpAny (model X.prog X.w) X.A (subscriptTail e (.Slice lo hi (some st) p2) (.ref a) (.ref s4.heap.objs.size)) (EP X pins σ Q) X.xe { s4 with heap:=s4.heap.push { cls:=.type "slice", data:=.fields #[vl,vu,vt] } }
 exact tail_any (ops:=[.ref a,.ref s4.heap.objs.size]) ht.isList.typeIs slot_list_getitem.lookup hg (by with_unfolding_all rfl)
def oRev:D->Option Int->Option Int->Option Int->Option D
 | .list xs,none,none,some i=>if i = -1 then some (.list xs.reverse) else none
 | _,_,_,_=>none
def dRev (f:M D) (lo hi st:M (Option Int)):M D:=zas f fun x=>zas lo fun l=>zas hi fun h=>zas st fun t=>mOpt (oRev x l h t)
theorem zni {lo hi:Option Expr} {st:Expr} {f:M D} {l h t:M (Option Int)} (he:PE X e (tD X.K B G0 f)) (hl:PO X lo (tOi X.K B G0 l)) (hu:PO X hi (tOi X.K B G0 h)) (hst:PO X (some st) (tOi X.K B G0 t)) :
  PE X (.Subscript e (.Slice lo hi (some st) p2) pos) (tD X.K B G0 (dRev f l h t)) :=
 peof (zjT he hl hu hst) fun σ H Q q=>by
  refine tM.one (R:=Rep X.K) q fun v H2 G ρ x k r a=>?_
  refine tM.nx (R:=fun _ b c=>b=c) k a fun l' H3 G3 ρ3 xl k3 s3 r3 a3=>?_
  refine tM.nx (R:=fun _ b c=>b=c) k3 a3 fun h' H4 G4 ρ4 xh k4 s4 r4 a4=>?_
  refine tM.nx (R:=fun _ b c=>b=c) k4 a4 fun t' H5 G5 ρ5 xt k5 s5 r5 a5=>?_
  have r3:l'=xl:=r3
  have r4:h'=xh:=r4
  have r5:t'=xt:=r5
  subst r3 r4 r5
  cases x with
  | list xs =>
   cases l' with
   | some _=>exact a5.elim
   | none =>
   cases h' with
   | some _=>exact a5.elim
   | none =>
   cases t' with
   | none=>exact a5.elim
   | some i =>
   obtain ⟨ad,vs,rfl,h1,r1⟩:=(((r.mono s3).mono s4).mono s5).lst_inv
   by_cases hi:i = -1
   ·subst hi
    exact ⟨ad,vs,rfl,k5.gh.seq h1,rfl,rfl,rfl,fun p hp=>aft.done a5 k5 (Ext.new k5.gh hp) (.lst (SqL.of zaL) (r1.reverse.mono (zaM (k5.gh.free hp))))⟩
   ·unfold mOpt oRev at a5
    dsimp only at a5
    rw [if_neg hi] at a5
    exact a5.elim
  | _ =>
   unfold mOpt oRev at a5
   exact a5.elim
def zc1:List D->Option (List D)
 | [.list xs]=>some xs
 | [.tuple xs]=>some xs
 | _=>none
theorem zgu {x l:List D} (h:zc1 x=some l):x=[.list l] ∨ x=[.tuple l]:=by
 unfold zc1 at h
 split at h
 ·cases h;exact .inl rfl
 ·cases h;exact .inr rfl
 ·cases h
theorem zfm:bootBuiltins "list" = some (.type "list"):=by decide +kernel
theorem zfE {f:M (List D)} (hg:Gl X "list") (hm:X.mg "list" = none) (ha:PA X [a] (tDs X.K B G0 f)) (he:starEach [a] X.env=(false,eval a X.env) :: starEach [] X.env:=by rfl) :
  PE X (.Call (.Name "list" p2) [a] [] pos) (tL X.K B G0 (zas f fun xs=>mOpt (zc1 xs))) :=
 peof (zeA zed hg hm zfm ha (by decide) (by decide) he rfl) fun σ H Q ⟨G,ρ,k,q⟩=>by
  refine ⟨G,ρ,k,?_⟩
  unfold zas at q
  cases z:f ρ with
  | bad=>rw [z] at q;exact q.elim
  | ok xs ρ1 =>
   rw [z] at q
   dsimp only [mOpt] at q
   intro vs G' H' k' s' r
   cases z2:zc1 xs with
   | none=>rw [z2] at q;exact q.elim
   | some l =>
    rw [z2] at q
    rcases zgu z2 with rfl | rfl
    ·obtain ⟨v,rfl,q1⟩:=r.one_inv
     obtain ⟨p,ws,rfl,h1,r1⟩:=q1.lst_inv
     exact ⟨p,ws,rfl,.inl (k'.gh.seq h1),fun ad hp=>q ad ws G' _ (k'.ext (Ext.hid k'.gh hp)) s' (NewL.of k' hp r1)⟩
    ·obtain ⟨v,rfl,q1⟩:=r.one_inv
     obtain ⟨p,ws,rfl,h1,r1⟩:=q1.tup_inv
     exact ⟨p,ws,rfl,.inr (zdu k'.gh h1),fun ad hp=>q ad ws G' _ (k'.ext (Ext.hid k'.gh hp)) s' (NewL.of k' hp r1)⟩
def zdC (i:Nat):M (List D):=fun ρ=>match ρ[i]? with
 | some (some (.pub d))=>mOpt (zc1 [d]) ρ
 | some (some (.own ds))=>.ok ds ρ
 | _=>.bad
theorem zdD {i:Nat} (hg:Gl X "list") (hm:X.mg "list" = none) (ho:PE X a (tVar i)) (he:starEach [a] X.env=(false,eval a X.env) :: starEach [] X.env:=by rfl) :
  PE X (.Call (.Name "list" p2) [a] [] pos) (tL X.K B G0 (zdC i)) :=
 peof (zeA zed hg hm zfm (zcL ho zex he) (by decide) (by decide) he rfl) fun σ H Q ⟨G,ρ,k,q⟩=>by
  unfold zdC at q
  cases z : ρ[i]? with
  | none=>rw [z] at q;exact q.elim
  | some oo =>
   cases oo with
   | none=>rw [z] at q;exact q.elim
   | some sl =>
    cases sl with
    | deep _ _=>rw [z] at q;exact q.elim
    | own ds =>
     rw [z] at q
     dsimp only at q
     obtain ⟨ad,vs,h1,h2,h3,h4,h5⟩:=k.own i ds z
     exact ⟨.ref ad,h1,ad,vs,rfl,.inl (SqL.of h4),fun l hp=>q l vs G _ (k.ext (Ext.hid k.gh hp)) (.refl _) (NewL.of k hp h5)⟩
    | pub d =>
     rw [z] at q
     dsimp only [mOpt] at q
     obtain ⟨v,h1,h2⟩:=k.pub i d z
     cases z2:zc1 [d] with
     | none=>rw [z2] at q;exact q.elim
     | some l =>
      rw [z2] at q
      dsimp only at q
      rcases zgu z2 with e | e
      ·cases e
       obtain ⟨p,ws,rfl,g1,r1⟩:=h2.lst_inv
       exact ⟨_,h1,p,ws,rfl,.inl (k.gh.seq g1),fun ad hp=>q ad ws G _ (k.ext (Ext.hid k.gh hp)) (.refl _) (NewL.of k hp r1)⟩
      ·cases e
       obtain ⟨p,ws,rfl,g1,r1⟩:=h2.tup_inv
       exact ⟨_,h1,p,ws,rfl,.inr (zdu k.gh g1),fun ad hp=>q ad ws G _ (k.ext (Ext.hid k.gh hp)) (.refl _) (NewL.of k hp r1)⟩
end
section
variable {X:Cx} {B G0:Hp} {e o a b c tg:Expr} {pos p2 p3 p4:Pos} {es rest:List Expr} {te to ti:TE}
theorem zcc:∀ {ns:List Int} {us:List Value},Vals (ns.map V.int) us->PyProof.Rows.IntsAre us ns
 | [],_,.nil=>.nil
 | n :: ns,_,.cons h t=>by
  obtain ⟨tk,rfl⟩:=h
  exact .cons n tk (zcc t)
def zeK (ns:List Int):Nat:=(PyProof.Rows.firstMet (fun i=>ns.getD i 0) ns.length).length
theorem zjU (hc:X.calm=true):zdj X (.type "set") (fun xs H Q=>∃ l,∃ ns:List Int,xs=[.ref l]/\SqL X.K H l (ns.map V.int)/\ns.length+1 < 4096/\∀ S p,H p=none->Q (.ref p) (upd H p (.set S (zeK ns)))):=by
 intro pins s σ H xs us Q I rx h
 obtain ⟨l,ns,rfl,hq,hb,q⟩:=h
 obtain ⟨u,rfl,ru⟩:=rx.one
 cases ru
 obtain ⟨its,rv,p,hz⟩:=I.list hq
 have hi:=zcc rv
 have hn:its.toArray.size=ns.length:=by have:=rv.length;rw [List.length_map] at this;simp;omega
 refine call_set_list (I.ok.hd hc) p.isList (ns:=ns) (by simpa using hi) (by rw [hn];exact hb) fun h' tk hS hk=>?_
 rw [hn] at hS
 refine ⟨.ref s.heap.objs.size,_,I.laid (t':=tk) (fun b o e=>hk b o (Heap.lt_size e) e) (Nat.le_refl _) (show zcw X.prog X.w _ h' _ (.set _ (zeK ns)) from hS),rfl,q _ _ (I.hok.fresh (Nat.le_refl _))⟩
theorem zjV:zdj X (.builtin "len") (fun xs H Q=>∃ p S n,xs=[.ref p]/\H p=some (.set S n)/\Q (.int n) H):=by
 intro pins s σ H xs us Q I rx h
 obtain ⟨p,S,n,rfl,hp,q⟩:=h
 obtain ⟨u,rfl,ru⟩:=rx.one
 cases ru
 obtain ⟨o,es,ep,t,h1,h2,h3,h4,h5,h6,h7,h8⟩:=(show s.heap.SetOf (intKind X.prog X.w) p S n from I.hok p _ hp)
 have hsb:scanBound=4096:=rfl
 refine call_len_set h1 h2 h3 h7 (by omega) ?_
 rw [h8]
 exact ⟨.int n,H,I.tok _,⟨_,rfl⟩,q⟩
def zb8:List D->Option (List Int)
 | []=>some []
 | .int i :: r=>(zb8 r).map (i :: ·)
 | _=>none
theorem zcn {K:PySem.W.Frag} {G:Hp}:∀ {vs:List V} {ds:List D} {ns:List Int},Reps K G vs ds->zb8 ds=some ns->vs=ns.map V.int
 | _,_,ns,.nil,e=>by cases e;rfl
 | _,_,ns,.cons (d:=d) r t,e=>by
  cases d with
  | int b =>
   unfold zb8 at e
   cases z:zb8 _ with
   | none=>rw [z] at e;cases e
   | some cs =>
    rw [z] at e
    cases e
    rw [r.int_inv,zcn t z];rfl
  | _=>cases e
theorem zdb (ns:List Int):zb8 (ns.map PyData.int)=some ns:=by
 induction ns with
 | nil=>rfl
 | cons b r ih=>rw [List.map_cons,zb8,ih];rfl
def zd2:List D->Option D
 | [.list ds]=>(match zb8 ds with
  | some ns=>if ns.length+1 < 4096 then some (.int (zeK ns)) else none
  | none=>none)
 | _=>none
theorem zhi {xs:List D} {d:D} (h:zd2 xs=some d):∃ ds ns,xs=[.list ds]/\zb8 ds=some ns/\ns.length+1 < 4096/\d=.int (zeK ns):=by
 unfold zd2 at h
 split at h
 ·rename_i ds
  cases z:zb8 ds with
  | none=>rw [z] at h;cases h
  | some ns =>
   rw [z] at h
   dsimp only at h
   split at h
   ·rename_i c
    cases h
    exact ⟨ds,ns,rfl,z,c,rfl⟩
   ·cases h
 ·cases h
theorem zjW:bootBuiltins "set" = some (.type "set"):=by decide +kernel
theorem ziF {f:M (List D)} (hc:X.calm=true) (hg:Gl X "len") (hm:X.mg "len" = none) (hg2:Gl X "set") (hm2:X.mg "set" = none) (ha:PA X [a] (tDs X.K B G0 f)) (he:starEach [a] X.env=(false,eval a X.env) :: starEach [] X.env:=by rfl)
  (he2:starEach [.Call (.Name "set" p2) [a] [] p3] X.env=(false,eval (.Call (.Name "set" p2) [a] [] p3) X.env) :: starEach [] X.env:=by rfl) :
  PE X (.Call (.Name "len" p4) [.Call (.Name "set" p2) [a] [] p3] [] pos) (tD X.K B G0 (zbg zd2 f)) :=
 peof (zep zjV hg hm boot_len (zcL (zeA (zjU hc) hg2 hm2 zjW ha (by decide) (by decide) he rfl) zex he2) (by decide) (by decide) he2 rfl) fun σ H Q q=>tM.one (R:=Reps X.K) q fun vs H2 G ρ x k r a=>by
  obtain ⟨d,e,a⟩:=a.opt
  obtain ⟨ds,ns,rfl,z,c,rfl⟩:=zhi e
  obtain ⟨v,rfl,q1⟩:=r.one_inv
  obtain ⟨l,ws,rfl,h1,r1⟩:=q1.lst_inv
  have:=zcn r1 z
  subst this
  refine ⟨l,ns,rfl,k.gh.seq h1,c,fun S p hp=>⟨p,S,zeK ns,rfl,zaL,?_⟩⟩
  exact aft.done a k (Ext.hid k.gh hp) (.int _)
end
end DL
namespace L2
open PySem PySem.Spec PyProof.Rows
section
variable {X:Cx} {tg:Expr}
end
end L2
namespace DL
open PySem PySem.Spec L2
open PyProof.Rows hiding St
section
variable {X:Cx} {B G0:Hp} {e a b c tg:Expr} {pos:Pos} {es rest:List Expr}
end
end DL
namespace L2
open PySem PySem.Spec PyProof.Rows
section
variable {prog:Program} {w:World} {A:Around} {E:Value->Shared->Prop} {s:Shared} {M:Model} {env:Env}
theorem znj {pos:Pos} {T:String} {args:List (Bool × Sem Value)} {kws:List (Option Str × Sem Value)} {Q:Value->Shared->Prop} (hp:args.any (·.1)=false) (hk:kws.any (·.1.isNone)=false)
  (h:wpAny M A (evalArgs (.type T) true args kws) (fun a s1=>wpAny M A (call (.type T) a.pos a.kw) Q E s1) E s):wpAny M A (callWith pos (.type T) [] args kws) Q E s:=by
 unfold callWith
 refine wpAny_bind (wpAny_holding (wpAny_mono h (fun a s1 h1=>wpAny_bind (wpAny_standAt ?_)) fun _ _ z=>z))
 simp only [hp,hk,Bool.false_or]
 refine wpAny_bind (wpAny_pure ?_)
 exact wpAny_bind (wpAny_mono h1 (fun r s2 hr=>wpAny_bind (wpAny_holding (wpAny_point (wpAny_pure hr)))) fun _ _ z=>z)
theorem zlP (l:Addr) (t:Tok) (items:Array Value) (n:Nat) (dct:Option Addr) (sl:Array (Option Value)) :
  Meets (Builtin.«enumerate.__new__» ⟨[.type "enumerate", .ref l],[("start", .int 1 t)]⟩) (fun _ R s=>s.heap.get? l=some ⟨.type "list", dct,.seq items n,sl⟩ /\
   R (.ok (.ret (.ref (s.heap.push { cls:=.type "list_iterator", data:=.fields #[.ref l,.int 0 0] }).objs.size))) { s with heap:=(s.heap.push { cls:=.type "list_iterator", data:=.fields #[.ref l,.int 0 0] }).push { cls:=.type "enumerate", data:=.fields #[.none,.bool false,.ref s.heap.objs.size,rawInt 1,.none,.none] } }) :=
 .of_wp fun prog w A R s h=>by
  obtain ⟨hp,g,d,tk,os⟩:=s
  obtain ⟨hl,h⟩:=h
  have hsub:=sub_enumerate
  have hL:Heap.IsList (Shared.heap ⟨hp,g,d,tk,os⟩) l items:=⟨_,hl,rfl,n,rfl⟩
  wp_walk using AutoSeq1.wpAny_loadPart' hl
  refine wpAny_stack_any fun st=>(wpAny_pure ?_)
  split
  ·rename_i c _ _ _ _ _
   cases (c == Value.type "enumerate") <;> (wp_walk using (AutoSeq1.wpAny_loadPart' hl),(wpAny_pyIter_list hL)) <;> exact ⟨_,rfl,h⟩
  ·(wp_walk using (AutoSeq1.wpAny_loadPart' hl),(wpAny_pyIter_list hL));exact ⟨_,rfl,h⟩
theorem zfF {T newId initId:String} {Bn Bi:Builtin} {args:List Value} {kw:List (Str × Value)} {S:PySem.Spec} {Q Q1:Value->Shared->Prop} (ft:TypeCalled T newId initId)
  (hct:checkTypeCall T ⟨args,kw⟩=pure ()) (hcn:checkBuiltinCall newId ⟨.type T :: args,kw⟩=pure ()) (eN:entryFor table newId=some Bn) (eI:entryFor table initId=some Bi)
  (g:Meets (Bn ⟨.type T :: args,kw⟩) S) (h:S A.in1 (wants Q1 E) s)
  (hnext:∀ obj s1,Q1 obj s1->s1.TypeIs obj T/\argsOk initId ⟨obj :: args,kw⟩/\∃ Si,Meets (Bi ⟨obj :: args,kw⟩) Si/\Si A.in1 (wants (fun r s2=>r=.none/\Q obj s2) E) s1) :
  wpAny (model prog w) A (call (.type T) args kw) Q E s:=by
 obtain ⟨c,tl,hmro⟩:=ft.mro
 have hmade:=ft.made
 have hsub:=ft.sub
 refine wpAny_call (codeAny_of_tree ?_)
 show wpAny _ _ (callAny (.type T) _) _ _ _
 refine wpAny_pure ⟨Code.quiet_builtin _ (by decide +kernel),(codeAny_builtin F.entry_type_call ?_)⟩
 rw [Around.under_plain (weight_type_call_type T args kw) (units_type_call_type T args kw)]
 have h1:=ft.notType
 have h2:=ft.canCreate
 repeat' (any_goals (first | wp_step | assumption))
 refine codeAny_mono (codeAny_call_builtin ft.plain eN (wpAny_of_eq hcn (g prog w A.in1 _ s h))) fun r s1 hr=>?_
 match r,hr with
 | .error e,hr=>exact hr
 | .ok (.ret obj),hr =>
  obtain ⟨hT,hok,Si,gi,hsi⟩:=hnext _ _ hr
  have hli:=ft.init.lookup
  have hbi:=ft.init.bind obj
  repeat' (any_goals (first | wp_step | assumption))
  refine codeAny_mono (codeAny_call_builtin ft.init.plain eI (ft.init.check _ _ _ _ _ _ _ _ hT hok (gi prog w A.in1 _ s1 hsi))) fun r2 s2 hr2=>?_
  match r2,hr2 with
  | .error e,hr2=>exact hr2
  | .ok (.ret r),hr2 =>
   obtain ⟨rfl,hq⟩:=hr2
   repeat' (any_goals (first | wp_step | assumption))
  | .ok .next,hr2=>exact hr2.elim
  | .ok .brk,hr2=>exact hr2.elim
  | .ok .cont,hr2=>exact hr2.elim
 | .ok .next,hr=>exact hr.elim
 | .ok .brk,hr=>exact hr.elim
 | .ok .cont,hr=>exact hr.elim
theorem zhj {T newId:String} {self:Value} {rest:List Value} {kw:List (Str × Value)} (hl:typeLookup (.type T) "__init__" = pure (some (.builtin "object.__init__")))
  (hm:Bind.madeBy (.type T)=pure (some newId)) (hne:(some newId != some "object.__new__")=true) :
  Meets (Builtin.«object.__init__» ⟨self :: rest,kw⟩) (fun _ R s=>s.TypeIs self T/\R (.ok (.ret .none)) s):=by
 refine .of_wp fun prog w A R s hs=>?_
 obtain ⟨hT,hq⟩:=hs
 cases rest with
 | nil =>
  cases kw with
  | nil=>exact wpAny_pure ⟨_,rfl,hq⟩
  | cons k kw=>(repeat' (any_goals (first | wp_step | assumption)));exact ⟨_,rfl,hq⟩
 | cons a rest=>(repeat' (any_goals (first | wp_step | assumption)));exact ⟨_,rfl,hq⟩
theorem zhk (a:Value) (t:Tok):checkTypeCall "enumerate" ⟨[a],[("start", .int 1 t)]⟩=pure ():=by kernel_rfl
theorem ziG (a:Value) (t:Tok):checkBuiltinCall "enumerate.__new__" ⟨[.type "enumerate", a],[("start", .int 1 t)]⟩=pure ():=by kernel_rfl
theorem zhl (o a:Value) (t:Tok):argsOk "object.__init__" ⟨[o,a],[("start", .int 1 t)]⟩:=by unfold argsOk;kernel_rfl
theorem ziH {l:Addr} {items:Array Value} {t:Tok} {Q:Value->Shared->Prop} (hL:s.heap.IsList l items)
  (h:∀ h',IsEnum h' (s.heap.objs.size+1) s.heap.objs.size 1 .none->h'.IsListIter s.heap.objs.size l 0->(∀ b o,s.heap.get? b=some o->h'.get? b=some o)->Q (.ref (s.heap.objs.size+1)) { s with heap:=h' }) :
  wpAny (model prog w) A (call (.type "enumerate") [.ref l] [("start", .int 1 t)]) Q E s:=by
 obtain ⟨⟨c,dct,dt,sl⟩,hl,hc,n,hd⟩:=hL
 replace hc:c=.type "list" := hc
 replace hd:dt=.seq items n:=hd
 subst hc hd
 have hz:(s.heap.push { cls:=.type "list_iterator", data:=.fields #[.ref l,.int 0 0] }).objs.size=s.heap.objs.size+1:=Heap.size_push ..
 have he:IsEnum ((s.heap.push { cls:=.type "list_iterator", data:=.fields #[.ref l,.int 0 0] }).push { cls:=.type "enumerate", data:=.fields #[.none,.bool false,.ref s.heap.objs.size,rawInt 1,.none,.none] }) (s.heap.objs.size+1) s.heap.objs.size 1 .none:=by
  rw [← hz];exact Heap.get?_push_size _ rfl
 refine zfF F.called_enumerate (zhk _ t) (ziG _ t) F.entry_enumerate_new F.entry_object_init (zlP l t items n dct sl) (Q1:=fun obj s1=>s1.TypeIs obj "enumerate" /\ Q obj s1) ⟨hl,?_⟩ fun obj s1 hq =>
  ⟨hq.1,zhl obj _ t,_,zhj F.called_enumerate.init.lookup F.called_enumerate.made (by decide),hq.1,rfl,hq.2⟩
 show _/\_
 rw [hz]
 exact ⟨⟨_,he,rfl⟩,h _ he ⟨_,Heap.get?_push_of_some _ (Heap.get?_push_size _ rfl),rfl,rfl⟩ fun b o x=>Heap.get?_push_of_some _ (Heap.get?_push_of_some _ x)⟩
end
section
variable {prog:Program} {w:World} {A:Around} {E:Value->Shared->Prop} {s:Shared}
theorem zjX {en it l:Addr} {i:Nat} {j:Int} {items:Array Value} {x old:Value} {Q:Option Value->Shared->Prop} (st:IsEnum s.heap en it j old) (li:s.heap.IsListIter it l i) (ls:s.heap.IsList l items)
  (at_:items[i]?=some x) (ne:en ≠ it)
  (k:∀ h',IsEnumOut h' en it (j+1) x s.heap.objs.size->h'.IsListIter it l (i+1)->h'.get? s.heap.objs.size=some { cls:=.type "tuple", data:=.seq #[.int j s.toks,x] }->(∀ b o,b ≠ en->b ≠ it->s.heap.get? b=some o->h'.get? b=some o) ->
   Q (some (.ref s.heap.objs.size)) { s with heap:=h',toks:=s.toks+1 }):wpAny (model prog w) A (pyNext (.ref en)) Q E s:=by
 have ty:s.TypeIs (.ref en) "enumerate" := ⟨_,st,rfl⟩
 have lt:en < s.heap.objs.size:=Heap.lt_size st
 unfold pyNext
 refine wpAny_bind (wpAny_attempt (wpAny_callSpecial?_slot (name:=Str.ofString "__next__") ty F.slot_enumerate_next (wpAny_call_entry F.slot_enumerate_next ty F.entry_enumerate_next ?_ (F.args_enumerate_next_1 _))))
 show wpAny _ _ (field (.ref en) 2 >>= _) _ _ s
 refine wpAny_bind (wpAny_field st rfl (x:=.ref it) rfl ?_)
 refine wpAny_bind (wpAny_nextOf_list_item li ls at_ fun m1 li1 c1=>?_)
 have c1:Heap.SameBut it s.heap m1:=c1
 have st1:IsEnum m1 en it j old:=(c1.2 en ne).trans st
 show wpAny _ _ (field (.ref en) 3 >>= _) _ _ { s with heap:=m1 }
 refine wpAny_bind (wpAny_field st1 rfl (x:=rawInt j) rfl ?_)
 show wpAny _ _ (field (.ref en) 4 >>= _) _ _ { s with heap:=m1 }
 refine wpAny_bind (wpAny_field st1 rfl (x:=.none) rfl ?_)
 show wpAny _ _ (mkInt j >>= _) _ _ { s with heap:=m1 }
 refine wpAny_bind (wpAny_mkInt ?_)
 show wpAny _ _ (setField (.ref en) 3 (rawInt (j+1)) >>= _) _ _ { s with heap:=m1,toks:=s.toks+1 }
 refine wpAny_bind (wpAny_setField_rec st1 (by simp) fun m2 st2 c2=>?_)
 have c2:Heap.SameBut en m1 m2:=c2
 have st2:IsEnum m2 en it (j+1) old:=st2
 show wpAny _ _ (setField (.ref en) 4 .none >>= _) _ _ { s with heap:=m2,toks:=s.toks+1 }
 refine wpAny_bind (wpAny_setField_rec st2 (by simp) fun m3 st3 c3=>?_)
 have c3:Heap.SameBut en m2 m3:=c3
 have st3:IsEnum m3 en it (j+1) old:=st3
 show wpAny _ _ (newTuple [.int j s.toks,x] >>= _) _ _ { s with heap:=m3,toks:=s.toks+1 }
 refine wpAny_bind (wpAny_newTuple ?_)
 have z3:m3.objs.size=s.heap.objs.size:=c3.1.trans (c2.1.trans c1.1)
 have st4:IsEnum (m3.push { cls:=.type "tuple", data:=.seq #[.int j s.toks,x] }) en it (j+1) old:=Heap.get?_push_of_some _ (show IsEnum m3 en it (j+1) old from st3)
 have tp4:(m3.push { cls:=.type "tuple", data:=.seq #[.int j s.toks,x] }).get? s.heap.objs.size=some { cls:=.type "tuple", data:=.seq #[.int j s.toks,x] }:=by rw [← z3];exact Heap.get?_push_size _ rfl
 have kp4:∀ b o,b ≠ en->b ≠ it->s.heap.get? b=some o->(m3.push { cls:=.type "tuple", data:=.seq #[.int j s.toks,x] }).get? b=some o:=fun b o n1 n2 q=>Heap.get?_push_of_some _ ((c3.2 b n1).trans ((c2.2 b n1).trans ((c1.2 b n2).trans q)))
 have li4:(m3.push { cls:=.type "tuple", data:=.seq #[.int j s.toks,x] }).IsListIter it l (i+1):=by
  obtain ⟨o,q,r⟩:=li1
  exact ⟨o,Heap.get?_push_of_some _ ((c3.2 it (Ne.symm ne)).trans ((c2.2 it (Ne.symm ne)).trans q)),r⟩
 generalize m3.push { cls:=.type "tuple", data:=.seq #[.int j s.toks,x] }=m4 at st4 tp4 kp4 li4
 show wpAny _ _ (Builtin.SmallTypes.ownedTupleIsFree (.ref en) >>= _) _ _ { s with heap:=m4,toks:=s.toks+1 }
 rw [z3]
 refine wpAny_bind ?_
 unfold Builtin.SmallTypes.ownedTupleIsFree Builtin.SmallTypes.ownedTupleHandOut
 refine wpAny_bind (wpAny_field st4 rfl (x:=.none) rfl (wpAny_pure ?_))
 simp only [if_true]
 refine wpAny_bind (wpAny_rule (wpAny_bind (wpAny_field st4 rfl (x:=old) rfl (wpAny_bind (wpAny_setField_rec st4 (by simp) fun m5 st5 c5=>?_)))))
 have c5:Heap.SameBut en m4 m5:=c5
 have st5:IsEnum m5 en it (j+1) x:=st5
 refine wpAny_bind (wpAny_bind (wpAny_setField_rec st5 (by simp) fun m6 st6 c6=>?_))
 have c6:Heap.SameBut en m5 m6:=c6
 have st6:IsEnumOut m6 en it (j+1) x s.heap.objs.size:=st6
 refine wpAny_setField_rec st6 (by simp) fun m7 st7 c7=>?_
 have c7:Heap.SameBut en m6 m7:=c7
 have st7:IsEnumOut m7 en it (j+1) x s.heap.objs.size:=st7
 have up:∀ b,b ≠ en->m7.get? b=m4.get? b:=fun b n=>(c7.2 b n).trans ((c6.2 b n).trans (c5.2 b n))
 refine wpAny_bind (wpAny_letGo (wpAny_pure ⟨_,rfl,wpAny_pure (k m7 st7 ?_ ((up _ (Nat.ne_of_gt lt)).trans tp4) fun b o n1 n2 q=>(up b n1).trans (kp4 b o n1 n2 q))⟩))
 obtain ⟨o,q,r⟩:=li4
 exact ⟨o,(up it (Ne.symm ne)).trans q,r⟩
theorem zjY {en it l:Addr} {i:Nat} {j:Int} {items:Array Value} {old:Value} {Q:Option Value->Shared->Prop} (hh:A.handled=none) (st:IsEnum s.heap en it j old) (li:s.heap.IsListIter it l i) (ls:s.heap.IsList l items)
  (at_:items[i]?=none) (k:∀ h',Heap.ExtBut it s.heap h'->Q none { s with heap:=h' }):wpAny (model prog w) A (pyNext (.ref en)) Q E s:=by
 have ty:s.TypeIs (.ref en) "enumerate" := ⟨_,st,rfl⟩
 unfold pyNext
 refine wpAny_bind (wpAny_attempt (wpAny_callSpecial?_slot (name:=Str.ofString "__next__") ty F.slot_enumerate_next (wpAny_call_entry F.slot_enumerate_next ty F.entry_enumerate_next ?_ (F.args_enumerate_next_1 _))))
 show wpAny _ _ (field (.ref en) 2 >>= _) _ _ s
 refine wpAny_bind (wpAny_field st rfl (x:=.ref it) rfl (wpAny_bind (m:=Builtin.SmallTypes.nextOf (.ref it)) (wpAny_nextOf_list_end hh li ls at_ fun h' z c y=>?_)))
 obtain ⟨o,q,t⟩:=y
 exact wpAny_bind (wpAny_isInstance (T := "StopIteration") (b:=true) ⟨o,q,t⟩ isSubtype_stop (wpAny_pure (k _ c)))
end
def Ite1 (K:PySem.W.Frag) (a:Addr):It :=
 ⟨fun i H=>∃ xs x,SqL K H a xs/\xs[i]?=some x,
  fun i H v H'=>∃ p x,H p=none/\v=.ref p/\(∀ xs,SqL K H a xs->xs[i]?=some x)/\H'=upd H p (.tup [.int (1+(i:Int)),x]),
  fun i H=>∃ xs,SqL K H a xs/\xs.length<=i⟩
theorem ziI {P:Program} {w:World} {K:PySem.W.Frag} {elts:List Expr} {x1} {tp:Pos} (a e it:Addr) (hne:e ≠ it) :
  Turn P w K (.Tuple elts x1 tp) (Ite1 K a) [e,it] e (fun i h=>(∃ old,IsEnum h e it (1+(i:Int)) old)/\h.IsListIter it a i) where
 mem:=by simp
 obj:=fun i h st b hb=>by
  obtain ⟨⟨old,he⟩,o,ho,c,d⟩:=st
  have hb':b=e ∨ b=it:=by simpa using hb
  rcases hb' with rfl | rfl
  ·exact ⟨_,he,fun v z=>by
    have z':Data.fields _=Data.cell v:=z
    cases z'⟩
  ·exact ⟨o,ho,fun v z=>by rw [d] at z;cases z⟩
 keep:=fun i h h' st k=>by
  obtain ⟨⟨old,he⟩,hi⟩:=st
  exact ⟨⟨old,k e (by simp) _ he⟩,hi.at fun o q=>k it (by simp) o q⟩
 item:=by
  intro X hP hw hK hc i pins s σ H E I hf st hg
  subst hP hw hK
  obtain ⟨⟨old,he⟩,hi⟩:=st
  obtain ⟨xs,x,hq,hx⟩:=hg
  obtain ⟨its,rv,p,hz⟩:=I.list hq
  obtain ⟨u,hu,ru⟩:=rv.get hx
  refine zjX he hi p.isList (x:=u) (by simpa using hu) hne fun h1 out hi1 ht kk=>?_
  refine ⟨_,rfl,wpAny_letOwnedTupleGo_enum out fun h2 he2 hs2=>?_⟩
  have hel:e < s.heap.objs.size:=Heap.lt_size he
  have hs2':Heap.SameBut e h1 h2:=hs2
  have ht2:h2.get? s.heap.objs.size=some { cls:=.type "tuple", data:=.seq #[.int (1+(i:Int)) s.toks,u] }:=(hs2'.2 _ (Nat.ne_of_gt hel)).trans ht
  have kk2:∀ b o,b ∉ [e,it]->s.heap.get? b=some o->h2.get? b=some o:=fun b o hb q=>by
   have hbe:b ≠ e:=fun z=>hb (by simp [z])
   have hbi:b ≠ it:=fun z=>hb (by simp [z])
   exact (hs2'.2 b hbe).trans (kk b o hbe hbi q)
  have hn:H s.heap.objs.size=none:=I.hok.fresh (Nat.le_refl _)
  have I2:Inv X pins σ (upd H s.heap.objs.size (.tup [.int (1+(i:Int)),x])) { s with heap:=h2,toks:=s.toks+1 } :=
   I.turnedNew (fp:=[e,it]) hf kk2 (Nat.le_refl _) ⟨by show 2<=sizeLine;decide,[.int (1+(i:Int)) s.toks,u],.cons ⟨_,rfl⟩ (.cons ru .nil),⟨_,ht2,rfl,_,rfl⟩⟩
  refine ⟨.ref s.heap.objs.size,_,I2,rfl,⟨_,x,hn,rfl,fun ys hy=>by rw [I.list_inj hy hq];exact hx,rfl⟩,⟨⟨u,?_⟩,?_⟩,fun b hb=>?_⟩
  ·have e2:(1+((i+1:Nat):Int))=1+(i:Int)+1:=by omega
   rw [e2];exact he2
  ·exact hi1.at fun o q=>(hs2'.2 it (Ne.symm hne)).trans q
  ·have hlt:b < s.heap.objs.size:=by
    have hb':b=e ∨ b=it:=by simpa using hb
    rcases hb' with rfl | rfl
    ·exact hel
    ·obtain ⟨o,ho,_⟩:=hi;exact Heap.lt_size ho
   rw [zaR (Nat.ne_of_lt hlt)]
   exact (hf b hb).1
 done:=by
  intro X hP hw hK hc i pins s σ H E I hf st hg
  subst hP hw hK
  obtain ⟨⟨old,he⟩,hi⟩:=st
  obtain ⟨xs,hq,hx⟩:=hg
  obtain ⟨its,rv,p,hz⟩:=I.list hq
  have hl:=rv.length
  exact zjY (I.ok.hd hc) he hi p.isList (by simp;omega) fun h' eb=>⟨rfl,I.turnedL (t':=s.toks) hf fun b o hb q=>eb b o (fun z=>hb (by simp [z])) q⟩
 self:=fun _ _ _ _ _ st h=>by
  obtain ⟨⟨old,he⟩,_⟩:=st
  exact wpAny_pyIter_enum he h
section
variable {X:Cx}
theorem zlQ {a:Expr} {ta:TA} {p pos k1 k2:Pos} {j} {elts:List Expr} {x1} {tp:Pos} (hg:Gl X "enumerate") (hm:X.mg "enumerate" = none) (ha:PA X [a] ta)
  (hs:backTo pos (starEach [a] X.env)=(false,eval a X.env) :: backTo pos (starEach [] X.env):=by rfl) (hpl:(backTo pos (starEach [a] X.env)).any (·.1)=false:=by rfl) :
  PI X (.Tuple elts x1 tp) (.Call (.Name "enumerate" p) [a] [⟨some "start", .Constant (.int 1) j k1,k2⟩] pos) (fun σ H R=>ta σ H fun vs H1=>∃ a xs,vs=[.ref a]/\SqL X.K H1 a xs/\R (Ite1 X.K a) H1):=by
 intro pins s σ H R I h
 refine wpAny_Call_Name_kw (zec I hg hm boot_enumerate (znj hpl rfl ?_))
 rw [hs]
 refine evalArgs_kwB rfl ?_
 rw [← hs]
 refine thn (ha pos pins s σ H _ I h) fun us s1 ⟨vs,H1,I1,r1,q1⟩=>?_
 refine kws_cons (wpAny_Constant_int (kws_nil ?_))
 obtain ⟨l,xs,e,hq,q⟩:=q1
 subst e
 cases r1 with
 | cons r rr =>
  cases rr
  cases (show _=Value.ref l from r)
  have I1':=I1.tok (s1.toks+1)
  obtain ⟨its,rv,pl,hz⟩:=I1'.list hq
  refine ziH pl.isList fun h' he hi kk=>?_
  have I2:Inv X pins σ H1 { s1 with heap:=h',toks:=s1.toks+1 }:=I1'.kept (t':=s1.toks+1) kk
  refine wpAny_pyIter_enum he ?_
  refine ⟨s1.heap.objs.size+1,[s1.heap.objs.size+1,s1.heap.objs.size],_,_,H1,rfl,I2,ziI l _ _ (Nat.succ_ne_self _),⟨⟨_,he⟩,hi⟩,fun b hb=>?_,q⟩
  have hb':b=s1.heap.objs.size+1 ∨ b=s1.heap.objs.size:=by simpa using hb
  rcases hb' with rfl | rfl
  ·exact I1.fpOk (Nat.le_succ _) (I1.hok.fresh (Nat.le_succ _))
  ·exact I1.fpOk (Nat.le_refl _) (I1.hok.fresh (Nat.le_refl _))
end
end L2
namespace DL
open PySem PySem.Spec L2
open PyProof.Rows hiding St
section
variable {X:Cx} {B G0:Hp} {e a b c tg:Expr} {pos:Pos} {es rest:List Expr}
theorem zhm {K:PySem.W.Frag} {G1:Hp} {ad:Addr} {vs:List V} {ds:List D} (h:SqL K G1 ad vs) (r:Reps K G1 vs ds):zek K (Ite1 K ad) (zcr 1 ds) G1 where
 go:=fun i G H s1 s2 hi=>by
  rw [zax] at hi
  have hi':i < vs.length:=by rw [r.length];exact hi
  exact ⟨vs,vs[i],(s1.trans s2).seq h,List.getElem?_eq_getElem hi'⟩
 stop:=fun i G H s1 s2 hi=>by
  rw [zax] at hi
  exact ⟨vs,(s1.trans s2).seq h,by rw [r.length];exact hi⟩
 yld:=fun i G H x H' d s1 s2 e y=>by
  obtain ⟨p,v,hp,rfl,y1,rfl⟩:=y
  have z1:=y1 vs ((s1.trans s2).seq h)
  rw [zeG] at e
  cases q:ds[i]? with
  | none=>rw [q] at e;cases e
  | some dd =>
   rw [q] at e
   cases e
   obtain ⟨v',e1,r1⟩:=r.get q
   rw [z1] at e1
   cases e1
   refine ⟨upd G p (.tup [.int (1+(i:Int)),v]),Ext.new s2 hp,.tup (SqT.of zaL) (.cons ?_ (.cons ((r1.mono s1).mono (zaM (s2.free hp))) .nil))⟩
   have:((1+i:Nat):Int)=1+(i:Int):=by omega
   rw [this]
   exact .int _
def zfn:List D->Option (List D)
 | [.list ds]=>some (zcr 1 ds)
 | _=>none
def zhU (f:M (List D)):M (List D):=zas f fun x=>mOpt (zfn x)
theorem ziJ {x l:List D} (h:zfn x=some l):∃ ds,x=[.list ds]/\l=zcr 1 ds:=by
 unfold zfn at h
 split at h
 ·cases h;exact ⟨_,rfl,rfl⟩
 ·cases h
theorem zlR {f:M (List D)} {p2 k1 k2:Pos} {j} {elts:List Expr} {x1} {tp:Pos} (hg:Gl X "enumerate") (hm:X.mg "enumerate" = none) (ha:PA X [a] (tDs X.K B G0 f))
  (hs:backTo pos (starEach [a] X.env)=(false,eval a X.env) :: backTo pos (starEach [] X.env):=by rfl) (hpl:(backTo pos (starEach [a] X.env)).any (·.1)=false:=by rfl) :
  PI X (.Tuple elts x1 tp) (.Call (.Name "enumerate" p2) [a] [⟨some "start", .Constant (.int 1) j k1,k2⟩] pos) (iD X.K B G0 (zhU f)):=piof (zlQ hg hm ha hs hpl) fun σ H R q=>tM.toI (R0:=Reps X.K) q fun v H' G' ρ' x k r a=>by
 cases z:zfn x with
 | none=>rw [z] at a;exact a.elim
 | some l =>
  rw [z] at a
  obtain ⟨ds,rfl,rfl⟩:=ziJ z
  obtain ⟨v,rfl,q⟩:=r.one_inv
  obtain ⟨l,ws,rfl,h1,r1⟩:=q.lst_inv
  exact ⟨l,ws,rfl,k.gh.seq h1,a _ G' H' k (.refl _) (zhm h1 r1)⟩
end
section
variable {X:Cx}
def most:List Int->Int
 | []=>0
 | [n]=>n
 | n :: r=>if most r > n then most r else n
theorem zfG:∀ {ns:List Int},0 < ns.length->most ns ∈ ns
 | [n],_=>List.mem_singleton.2 rfl
 | n :: m :: r,_=>by
  have ih:=zfG (ns:=m :: r) (Nat.succ_pos _)
  unfold most
  split
  ·exact List.mem_cons_of_mem _ ih
  ·exact List.mem_cons_self ..
theorem zjZ:∀ {ns:List Int} {a:Int},a ∈ ns->a<=most ns
 | [n],a,h=>by rw [List.mem_singleton.1 h];exact Int.le_refl _
 | n :: m :: r,a,h=>by
  have ih:∀ b,b ∈ m :: r->b<=most (m :: r):=fun b hb=>zjZ hb
  unfold most
  rcases List.mem_cons.1 h with e | h
  ·subst e;split <;> omega
  ·have:=ih a h;split <;> omega
theorem znk {ns:List Int} {M:Int} (h1:M ∈ ns) (h2:∀ a,a ∈ ns->a<=M):most ns=M :=
 Int.le_antisymm (h2 _ (zfG (List.length_pos_of_mem h1))) (zjZ h1)
theorem zj0 (hc:X.calm=true):zdj X (.builtin "max") (fun xs H Q=>∃ l,∃ ns:List Int,xs=[.ref l]/\SqL X.K H l (ns.map V.int)/\0 < ns.length/\Q (.int (most ns)) H):=by
 intro pins s σ H xs us Q I rx h
 obtain ⟨l,ns,rfl,hq,hb,q⟩:=h
 obtain ⟨u,rfl,ru⟩:=rx.one
 cases ru
 obtain ⟨its,rv,p,hz⟩:=I.list hq
 have hi:=zcc rv
 obtain ⟨ys,e⟩:=hi.allInts.items
 have hns:ns=ys.toList.map (·.1):=by
  rw [← hi.numsOf,← nums_intItems,← e]
 have hsz:0 < ys.size:=by
  rw [hns,List.length_map,Array.length_toList] at hb;exact hb
 have hl:=p.isList
 rw [e] at hl
 refine max_intList (I.ok.hd hc) hl hsz fun v h' tk hv hk=>?_
 obtain ⟨t,rfl⟩:=intItems_at hv
 obtain ⟨h1,h2⟩:=argBest_gt (numAt ys) (ys.size - 1)
 refine ⟨.int (most ns),H,I.kept hk,⟨t,?_⟩,q⟩
 rw [znk (M:=_) ?_ ?_]
 ·rw [hns,numAt_eq];exact getD_mem (by rw [List.length_map,Array.length_toList];omega)
 ·intro a ha
  rw [hns] at ha
  obtain ⟨j,hj,rfl⟩:=mem_getD ha
  rw [List.length_map,Array.length_toList] at hj
  rw [← numAt_eq];exact h2 j (by omega)
def ziK:List D->Option D
 | [.list ds]=>(match zb8 ds with
  | some ns=>if 0 < ns.length then some (.int (most ns)) else none
  | none=>none)
 | _=>none
theorem zj1 {xs:List D} {d:D} (h:ziK xs=some d):∃ ds ns,xs=[.list ds]/\zb8 ds=some ns/\0 < ns.length/\d=.int (most ns):=by
 unfold ziK at h
 split at h
 ·rename_i ds
  cases z:zb8 ds with
  | none=>rw [z] at h;cases h
  | some ns =>
   rw [z] at h
   dsimp only at h
   split at h
   ·rename_i c
    cases h
    exact ⟨ds,ns,rfl,z,c,rfl⟩
   ·cases h
 ·cases h
theorem zoE (hc:X.calm=true):zdv X (.builtin "max") ziK:=by
 refine ⟨_,zj0 hc,fun vs G H ds d Q s r e k=>?_⟩
 obtain ⟨ds,ns,rfl,z,c,rfl⟩:=zj1 e
 obtain ⟨v,rfl,q1⟩:=r.one_inv
 obtain ⟨l,ws,rfl,h1,r1⟩:=q1.lst_inv
 have:=zcn r1 z
 subst this
 exact ⟨l,ns,rfl,s.seq h1,c,k _ G H (.refl s) (.int _)⟩
theorem zlS {ns:List Int} (h:0 < ns.length):ziK [.list (ns.map .int)]=some (.int (most ns)):=by
 unfold ziK
 simp only [zdb,if_pos h]
end
section
variable {X:Cx} {B G0:Hp} {e o:Expr} {es:List Expr}
theorem zhn {h:Heap} {vs:List Value} {xs:List D} {as:List Addr} {d:D} (rs:ReadsAll h vs xs as) (hxs:PyData.canLayAll0 xs=true) :
  vs.countP (fun y=>PyData.eqv (SeqAt.readOf h y) d)=xs.countP (fun y=>PyData.eqv y d):=by
 have key:xs=vs.map (SeqAt.readOf h):=(SeqAt.readsAll_map xs vs as hxs rs).symm
 rw [key,List.countP_map]
 rfl
def zc2 (y x:D):Option D:=match y with
 | .list ds=>if x.canLay0=true/\PyData.canLayAll0 ds=true/\x.depth<=60 then some (.int (ds.countP fun y=>PyData.eqv y x)) else none
 | _=>none
theorem zlT (hu:X.A.units+64 < cLine):MtR X "list.count" (fun v vs H Q=>∃ G u y x d,vs=[u]/\Same G H/\Rep X.K G v y/\Rep X.K G u x/\zc2 y x=some (.int d)/\Q (.int d) H):=by
 intro pins s σ H x xs v us Q I rx rs h
 obtain ⟨G,u,dy,dx,d,rfl,sg,py,px,e,q⟩:=h
 obtain ⟨w,rfl,rw'⟩:=rs.one
 unfold zc2 at e
 split at e
 ·rename_i ds
  split at e
  ·rename_i c
   obtain ⟨bs,rb⟩:=zbr I sg py rx (show PyData.canLayAll0 _=true from c.2.1)
   obtain ⟨as,ra⟩:=zbr I sg px rw' c.1
   cases rb with
   | list h1 h2 h3 h4 =>
    rename_i l ob its cs n
    obtain ⟨cls,dd,data,sl⟩:=ob
    simp only at h2 h3
    subst h2 h3
    refine call_meets F.slot_list_count ⟨_,h1,rfl⟩ F.entry_list_count (F.args_list_count_2 _ _) (SeqAt.list_countAt _ _ _ dd sl _ (fun y=>PyData.eqv (SeqAt.readOf s.heap y) dx)) ⟨h1,SeqAt.items_eqAt h4 ra c.2.1 c.1 (by have:=c.2.2;omega),?_⟩
    rw [zhn h4 c.2.1]
    cases e
    exact ⟨.int _,H,I.tok _,⟨_,rfl⟩,q⟩
  ·cases e
 ·cases e
def zfH (y:D) (xs:List D):Option D:=match xs with
 | [x]=>zc2 y x
 | _=>none
theorem zho {ds xs:List D} {d:D} (h:zfH (.list ds) xs=some d):∃ x n,xs=[x]/\d=.int n/\zc2 (.list ds) x=some (.int n):=by
 unfold zfH at h
 split at h
 ·rename_i x
  have h':=h
  unfold zc2 at h
  dsimp only at h
  split at h
  ·cases h;exact ⟨x,_,rfl,rfl,h'⟩
  ·cases h
 ·cases h
def zeL (f:M D) (g:M (List D)):M D:=zas f fun y=>zas g fun xs=>mOpt (match y with | .list ds=>zfH (.list ds) xs | _=>none)
theorem zeM {apos cpos:Pos} {f:M D} {g:M (List D)} (hu:X.A.units+64 < cLine) (ho:PE X o (tD X.K B G0 f)) (ha:PA X (e :: es) (tDs X.K B G0 g))
  (hbase:attributeBase o "count" X.env (eval o X.env)=eval o X.env:=by rfl)
  (hfew:((backTo cpos (starEach (e :: es) X.env)).all (fun x=>!x.1) && (backToKw cpos (keywordEach [] X.env)).all (fun x=>x.1.isSome)
   && decide ((e :: es).length+([]:List Keyword).length+(if ([]:List Keyword).isEmpty then 0 else 1) < 30))=true:=by rfl)
  (hline:(apos.endLine == cpos.line)=true:=by rfl) (hs:starEach (e :: es) X.env=(false,eval e X.env) :: starEach es X.env:=by rfl) (hplain:(backTo cpos (starEach es X.env)).any (·.1)=false:=by rfl) :
  PE X (.Call (.Attribute o "count" apos) (e :: es) [] cpos) (tD X.K B G0 (zeL f g)) :=
 peof (zoe F.plainAttrs_list F.slot_list_count F.type_list_count (zlT hu) ho ha hbase hfew hline hs hplain) fun σ H Q q=>by
  refine tM.one (R:=Rep X.K) q fun v H2 G ρ y k r a=>?_
  cases y with
  | list ds =>
   obtain ⟨l,ws,rfl,h1,r1⟩:=r.lst_inv
   refine ⟨.inl ⟨rfl,ws,k.gh.seq h1⟩,?_⟩
   refine tM.nx (R:=Reps X.K) k a fun xs H3 G3 ρ3 es k3 s3 r3 a3=>?_
   obtain ⟨d,e,a3⟩:=a3.opt
   obtain ⟨x,n,rfl,rfl,e'⟩:=zho e
   obtain ⟨u,rfl,ru⟩:=r3.one_inv
   exact ⟨G3,u,.list ds,x,n,rfl,k3.gh,r.mono s3,ru,e',aft.now a3 k3 (.int _)⟩
  | _ =>
   unfold zas at a
   cases z:g ρ with
   | bad=>rw [z] at a;exact a.elim
   | ok xs ρ1=>rw [z] at a;exact a.elim
theorem zer {f:M D} {g:M (List D)} {ρ ρ1 ρ2:DEnv} {ds:List D} {x d:D} (h1:f ρ = .ok (.list ds) ρ1) (h2:g ρ1=.ok [x] ρ2) (h3:zc2 (.list ds) x=some d):zeL f g ρ = .ok d ρ2:=by
 unfold zeL zas
 rw [h1]
 dsimp only
 rw [h2]
 dsimp only [zfH]
 rw [h3]
 rfl
end
section
variable {prog:Program} {w:World} {A:Around} {R:Result->Shared->Prop} {h0:Heap} {l I S:Addr} {rs:List (Addr × List Value)}
def Kept (h h':Heap):Prop:=∀ b o,h.get? b=some o->h'.get? b=some o
def Ls1 (h:Heap) (a:Addr) (its:List Value) (sl:Array (Option Value)):Prop:=∃ n,h.get? a=some { cls:=.type "list", dict:=none,data:=.seq its.toArray n,slots:=sl }
def Ls (h:Heap) (a:Addr) (its:List Value):Prop:=∃ n sl,h.get? a=some { cls:=.type "list", dict:=none,data:=.seq its.toArray n,slots:=sl }
theorem Ls.kept {h h':Heap} {a:Addr} {its:List Value} (x:Ls h a its) (k:Kept h h'):Ls h' a its:=by
 obtain ⟨n,sl,e⟩:=x;exact ⟨n,sl,k _ _ e⟩
theorem ziL (hh:A.in1.handled=none) (hI:h0.objs.size<=I) (hS:h0.objs.size<=S) (hIS:S ≠ I) (hl:h0.IsList l (rs.map fun p=>Value.ref p.1).toArray) (hr:∀ p ∈ rs,Ls h0 p.1 p.2) :
  ∀ (k i:Nat) (s:Shared) (t:Addr) (acc:List Value) (c:Nat) (sl:Array (Option Value)),rs.length - i=k->i<=rs.length->Kept h0 s.heap->s.heap.IsListIter I l i ->
   s.heap.get? S=some { cls:=.type "list", dict:=none,data:=.seq #[.ref t] c,slots:=#[] }->t ≠ S->t ≠ I->Ls1 s.heap t acc sl->acc.length+((rs.drop i).map (·.2)).flatten.length<=sizeLine ->
   (∀ p h' tk sl',Kept h0 h'->Ls1 h' p (acc ++ ((rs.drop i).map (·.2)).flatten) sl'->(p=t/\i=rs.length/\sl'=sl ∨ h0.objs.size<=p/\sl' = #[])->R (.ok (.ret (.ref p))) { s with heap:=h',toks:=tk }) ->
   codeAny (model prog w) A (.builtin "sum.loop" ⟨[.ref I,.ref S,rawInt 2,rawInt 0],[]⟩) R s:=by
 intro k
 induction k with
 | zero =>
  intro i s t acc c sl hk hi hK hit hSS htS htI ht hz hR
  have hin:i=rs.length:=by omega
  subst hin
  refine codeAny_builtin F.entry_sum_loop ?_
  rw [Around.under_plainId F.plain_sum_loop _]
  show wpAny _ A.in1 (seqItems? (.ref S) >>= _) _ _ s
  refine wpAny_bind (wpAny_seqItems hSS rfl ?_)
  show wpAny _ A.in1 (tryCatch (pyNext (.ref I)) _ >>= _) _ _ s
  have hl':s.heap.IsList l (rs.map fun p=>Value.ref p.1).toArray:=by
   obtain ⟨o,e,r⟩:=hl;exact ⟨o,hK _ _ e,r⟩
  refine wpAny_bind (wpAny_tryCatch (wpAny_pyNext_list_end hh hit hl' (by simp) fun h' ex=>?_))
  refine wpAny_pure (hR t h' s.toks sl (fun b o e=>?_) ?_ (.inl ⟨rfl,rfl,rfl⟩))
  ·exact ex b o (Nat.ne_of_lt (Nat.lt_of_lt_of_le (Heap.lt_size e) hI)) (hK b o e)
  ·obtain ⟨n,e⟩:=ht
   rw [List.drop_length,List.map_nil,List.flatten_nil,List.append_nil]
   exact ⟨n,ex _ _ htI e⟩
 | succ k ih =>
  intro i s t acc c sl hk hi hK hit hSS htS htI ht hz hR
  have hlt:i < rs.length:=by omega
  refine codeAny_builtin F.entry_sum_loop ?_
  rw [Around.under_plainId F.plain_sum_loop _]
  show wpAny _ A.in1 (seqItems? (.ref S) >>= _) _ _ s
  refine wpAny_bind (wpAny_seqItems hSS rfl ?_)
  show wpAny _ A.in1 (tryCatch (pyNext (.ref I)) _ >>= _) _ _ s
  have hl':s.heap.IsList l (rs.map fun p=>Value.ref p.1).toArray:=by
   obtain ⟨o,e,r⟩:=hl;exact ⟨o,hK _ _ e,r⟩
  refine wpAny_bind (wpAny_tryCatch (wpAny_pyNext_list_item (x:=.ref (rs[i]'hlt).1) hit hl' (by simp [hlt]) fun h' hit' sb=>?_))
  show wpAny _ A.in1 ((holding [Value.ref (rs[i]'hlt).1] (binaryOp .Add (.ref t) (.ref (rs[i]'hlt).1))).attempt >>= _) _ _ _
  refine wpAny_bind (wpAny_attempt (wpAny_holding ?_))
  have hm:rs[i]'hlt ∈ rs:=List.getElem_mem hlt
  have hd:rs.drop i=rs[i]'hlt :: rs.drop (i+1):=List.drop_eq_getElem_cons hlt
  have hK':Kept h0 h':=fun b o e=>(sb.2 b (Nat.ne_of_lt (Nat.lt_of_lt_of_le (Heap.lt_size e) hI))).trans (hK b o e)
  obtain ⟨n1,e1⟩:=ht
  have e1':=(sb.2 t htI).trans e1
  obtain ⟨n2,s2,e2⟩:=(hr _ hm).kept hK'
  have hSS':=(sb.2 S hIS).trans hSS
  rw [hd,List.map_cons,List.flatten_cons,List.length_append] at hz
  refine concat_meets ⟨_,e1',rfl⟩ ⟨_,e2,rfl⟩ noFill_list_add seq_list_add PySem.F.slot_list_add PySem.F.entry_list_add (PySem.F.args_list_add_2 _ _) (list_addW t _ acc.toArray _ n1 n2 none none sl s2 (by rw [List.size_toArray,List.size_toArray];omega)) ⟨e1',e2,?_⟩
  have hlS:S < h'.objs.size:=Heap.lt_size hSS'
  have hlI:I < h'.objs.size:=by obtain ⟨o,e,_⟩:=hit';exact Heap.lt_size e
  have ea:acc.toArray ++ (rs[i]'hlt).2.toArray=(acc ++ (rs[i]'hlt).2).toArray:=by simp
  rw [ea]
  have hP:∀ b o,h'.get? b=some o->(h'.push { cls:=Value.type "list", data:=Data.seq (acc ++ (rs[i]'hlt).2).toArray }).get? b=some o:=fun b o e=>Heap.get?_push_of_some _ e
  have hS1:=hP _ _ hSS'
  have hNew:(h'.push { cls:=Value.type "list", data:=Data.seq (acc ++ (rs[i]'hlt).2).toArray }).get? h'.objs.size=some { cls:=Value.type "list", data:=Data.seq (acc ++ (rs[i]'hlt).2).toArray }:=Heap.get?_push_size _ rfl
  show wpAny _ A.in1 (updateSeq S (fun _=>#[.ref h'.objs.size]) >>= _) _ _ _
  refine wpAny_bind (wpAny_updateSeq hS1 rfl ?_)
  have hS2:=Heap.get?_update_self (Obj.mapSeq fun _=>#[Value.ref h'.objs.size]) hS1 rfl
  refine wpAny_bind (wpAny_letGo ?_)
  refine wpAny_bind (wpAny_updateSeq hS2 rfl (wpAny_pure ⟨plainId_quiet F.plain_sum_loop _,?_⟩))
  have oth:∀ b o,b ≠ S->(h'.push { cls:=Value.type "list", data:=Data.seq (acc ++ (rs[i]'hlt).2).toArray }).get? b=some o->(((h'.push { cls:=Value.type "list", data:=Data.seq (acc ++ (rs[i]'hlt).2).toArray }).update S (Obj.mapSeq fun x=>#[Value.ref h'.objs.size])).update S (Obj.mapSeq fun x=>#[Value.ref h'.objs.size])).get? b=some o:=fun b o hb e=>(Heap.get?_update_other _ _ (Ne.symm hb)).trans ((Heap.get?_update_other _ _ (Ne.symm hb)).trans e)
  refine ih (i+1) _ h'.objs.size (acc ++ (rs[i]'hlt).2) _ #[] (by omega) hlt ?_ ?_ (Heap.get?_update_self _ hS2 rfl) (Nat.ne_of_gt hlS) (Nat.ne_of_gt hlI) ?_ (by rw [List.length_append];omega) fun p h'' tk sl' hk'' hp hq=>?_
  ·exact fun b o e=>oth b o (Nat.ne_of_lt (Nat.lt_of_lt_of_le (Heap.lt_size e) hS)) (hP b o (hK' b o e))
  ·obtain ⟨o,e,r⟩:=hit'
   exact ⟨o,oth I o (Ne.symm hIS) (hP I o e),r⟩
  ·exact ⟨_,oth _ _ (Nat.ne_of_gt hlS) hNew⟩
  ·refine hR p h'' tk sl' hk'' ?_ (.inr ?_)
   ·rw [hd,List.map_cons,List.flatten_cons,← List.append_assoc];exact hp
   ·rcases hq with ⟨rfl, -,e⟩ | hq
    ·exact ⟨Nat.le_of_lt (Nat.lt_of_le_of_lt hS hlS),e⟩
    ·exact hq
end
section
variable {prog:Program} {w:World} {A:Around} {E:Value->Shared->Prop} {s:Shared} {l z:Addr} {rs:List (Addr × List Value)}
theorem zj2 (a b:Value):argsOk "sum" ⟨[a,b],[]⟩:=by unfold argsOk;kernel_rfl
theorem ziM {Q:Value->Shared->Prop} (hh:A.handled=none) (hl:s.heap.IsList l (rs.map fun p=>Value.ref p.1).toArray) (hr:∀ p ∈ rs,Ls s.heap p.1 p.2) (hz:Ls s.heap z []) (hb:(rs.map (·.2)).flatten.length<=sizeLine)
  (h:∀ p h' tk sl',Kept s.heap h'->Ls1 h' p (rs.map (·.2)).flatten sl'->(p=z/\rs=[] ∨ s.heap.objs.size<=p/\sl' = #[])->Q (.ref p) { s with heap:=h',toks:=tk }) :
  wpAny (model prog w) A (call (.builtin "sum") [.ref l,.ref z]) Q E s:=by
 refine call_function_tree F.kind_sum F.plain_sum F.entry_sum (zj2 _ _) ?_
 unfold Builtin.«sum»
 simp only [List.length_cons,List.length_nil]
 rw [if_neg (by decide)]
 refine wpAny_bind (wpAny_of_eq (show Builtin.Builtins.bindParams "sum" ["start"] 0 ⟨[.ref z],[]⟩=pure [some (.ref z)] from rfl) ?_)
 refine wpAny_bind (wpAny_pyIter_list hl ?_)
 refine wpAny_bind (wpAny_pure ?_)
 obtain ⟨n,sl,ez⟩:=id hz
 have ty:∀ h:Heap,h.get? z=some { cls:=.type "list", dict:=none,data:=.seq [].toArray n,slots:=sl }->({ s with heap:=h }:Shared).TypeIs (.ref z) "list" := fun h e=>⟨_,e,rfl⟩
 have ez':(s.heap.push { cls:=.type "list_iterator", data:=.fields #[.ref l,.int 0 0] }).get? z=_:=Heap.get?_push_of_some _ ez
 simp only [List.forIn_cons,List.forIn_nil]
 refine wpAny_bind (wpAny_bind (wpAny_bind (wpAny_isInstance (T := "list") (b:=false) (ty _ ez') F.sub_list_str ?_)))
 simp only [Bool.false_eq_true,if_false]
 refine wpAny_pure (wpAny_bind (wpAny_bind (wpAny_isInstance (T := "list") (b:=false) (ty _ ez') F.sub_list_bytes ?_)))
 simp only [Bool.false_eq_true,if_false]
 refine wpAny_pure (wpAny_bind (wpAny_bind (wpAny_isInstance (T := "list") (b:=false) (ty _ ez') F.sub_list_bytearray ?_)))
 simp only [Bool.false_eq_true,if_false]
 refine wpAny_pure (wpAny_pure ?_)
 refine wpAny_bind (wpAny_newObj_type ?_)
 have hzs:=Heap.lt_size ez
 have s1:(s.heap.push { cls:=.type "list_iterator", data:=.fields #[.ref l,.int 0 0] }).objs.size=s.heap.objs.size+1:=Heap.size_push ..
 have k2:Kept s.heap ((s.heap.push { cls:=.type "list_iterator", data:=.fields #[.ref l,.int 0 0] }).push { cls:=.type "list", data:=.seq #[.ref z] }):=fun b o e=>Heap.get?_push_of_some _ (Heap.get?_push_of_some _ e)
 refine wpAny_pure ⟨plainId_quiet F.plain_sum_loop _,ziL (h0:=s.heap) (l:=l) (I:=s.heap.objs.size) (S:=(s.heap.push { cls:=.type "list_iterator", data:=.fields #[.ref l,.int 0 0] }).objs.size) (rs:=rs) hh (Nat.le_refl _) (by rw [s1];exact Nat.le_succ _) (by rw [s1];exact Nat.succ_ne_self _) hl hr rs.length 0 _ z [] 0 sl rfl (Nat.zero_le _)
  k2 ⟨_,Heap.get?_push_of_some _ (Heap.get?_push_size _ rfl),rfl,rfl⟩ (Heap.get?_push_size _ rfl) (by rw [s1];exact Nat.ne_of_lt (Nat.lt_succ_of_lt hzs)) (Nat.ne_of_lt hzs) ⟨n,k2 _ _ ez⟩ (by simpa using hb) fun p h' tk sl' hk hp hq=>?_⟩
 exact h p h' tk sl' hk (by simpa using hp) (hq.imp (fun e=>⟨e.1,List.eq_nil_of_length_eq_zero e.2.1.symm⟩) id)
end
section
variable {X:Cx} {pins:List (Addr × Obj)} {σ : St} {H:Hp} {s:Shared}
theorem zj3 (I:Inv X pins σ H s):∀ {rs:List (Addr × List V)},(∀ p ∈ rs,SqL X.K H p.1 p.2) ->
  ∃ ts:List (Addr × List Value),(ts.map fun p=>Value.ref p.1)=(rs.map fun p=>Value.ref p.1)/\(∀ p ∈ ts,Ls s.heap p.1 p.2)/\Vals (rs.map (·.2)).flatten (ts.map (·.2)).flatten
 | [],_=>⟨[],rfl,(fun _ h=>by cases h),(show Vals [] [] from Paired.nil)⟩
 | p :: rs,h=>by
  obtain ⟨ts,e,hl,hv⟩:=zj3 I fun q hq=>h q (List.mem_cons_of_mem _ hq)
  obtain ⟨its,rv,⟨⟨c1,d1,t1,sl⟩,n,e1,ec,ed,et⟩,z⟩:=I.list (h p (List.mem_cons_self ..))
  simp only at ec ed et
  subst ec ed et
  refine ⟨(p.1,its) :: ts,by rw [List.map_cons,List.map_cons,e],fun q hq=>?_,?_⟩
  ·rcases List.mem_cons.1 hq with rfl | hq
   ·exact ⟨n,sl,e1⟩
   ·exact hl q hq
  ·rw [List.map_cons,List.map_cons,List.flatten_cons,List.flatten_cons]
   exact rv.append hv
theorem zgv:∀ {as:List Addr} {us:List Value},Vals (as.map V.ref) us->us=as.map Value.ref
 | [],_,.nil=>rfl
 | a :: as,_,.cons h t=>by
  cases h
  rw [zgv t];rfl
theorem zj4 (hc:X.calm=true):zdj X (.builtin "sum") (fun xs H Q=>∃ l z,∃ rs:List (Addr × List V),xs=[.ref l,.ref z]/\SqL X.K H l (rs.map fun p=>V.ref p.1)/\(∀ p ∈ rs,SqL X.K H p.1 p.2)/\SqL X.K H z []/\(rs.map (·.2)).flatten.length<=sizeLine /\
  (rs=[]->Q (.ref z) H)/\∀ p,H p=none->Q (.ref p) (upd H p (.lst (rs.map (·.2)).flatten))):=by
 intro pins s σ H xs us Q I rx h
 obtain ⟨l,z,rs,rfl,hq,hr,hz,hb,q0,q⟩:=h
 obtain ⟨u,u',rfl,ru,ru'⟩:=zmU rx
 cases ru
 cases ru'
 obtain ⟨its,rv,pl, -⟩:=I.list hq
 obtain ⟨ts,e,hl,hv⟩:=zj3 I hr
 have ei:its=ts.map fun p=>Value.ref p.1:=by
  rw [e]
  have:=zgv (as:=rs.map (·.1)) (us:=its) (by rw [List.map_map];exact rv)
  rw [this,List.map_map];rfl
 subst ei
 obtain ⟨zi,rz,⟨⟨c1,d1,t1,sl⟩,n,e1,ec,ed,et⟩, -⟩:=I.list hz
 cases rz
 simp only at ec ed et
 subst ec ed et
 have hlen:=hv.length
 refine ziM (I.ok.hd hc) pl.isList hl ⟨n,sl,e1⟩ (by omega) fun p h' tk sl' hk hp hq=>?_
 rcases hq with ⟨rfl,rfl⟩ | ⟨hp',rfl⟩
 ·have hr0:rs=[]:=by
   cases rs with
   | nil=>rfl
   | cons a b=>cases e
  exact ⟨.ref _,H,I.kept hk,rfl,q0 hr0⟩
 ·obtain ⟨m,ep⟩:=hp
  exact ⟨.ref p,_,I.laid (t':=tk) hk hp' (show zcw X.prog X.w _ h' _ (.lst _) from ⟨hb,_,m,hv,ep⟩),rfl,q p (I.hok.fresh hp')⟩
def zbO:List D->Option (List (List D))
 | []=>some []
 | .list xs :: r=>(zbO r).map (xs :: ·)
 | _=>none
theorem zeN {K:PySem.W.Frag} {G:Hp}:∀ {vs:List V} {ds:List D} {ls:List (List D)},Reps K G vs ds->zbO ds=some ls ->
  ∃ rs:List (Addr × List V),vs=(rs.map fun p=>V.ref p.1)/\(∀ p ∈ rs,SqL K G p.1 p.2)/\Reps K G (rs.map (·.2)).flatten ls.flatten/\rs.length=ls.length
 | _,_,ls,.nil,e=>by cases e;exact ⟨[],rfl,(fun _ h=>by cases h),.nil,rfl⟩
 | _,_,ls,.cons (d:=d) r t,e=>by
  cases d with
  | list xs =>
   unfold zbO at e
   cases z:zbO _ with
   | none=>rw [z] at e;cases e
   | some cs =>
    rw [z] at e
    cases e
    obtain ⟨rs,rfl,h1,h2,h3⟩:=zeN t z
    obtain ⟨a,ws,rfl,h,rr⟩:=r.lst_inv
    refine ⟨(a,ws) :: rs,rfl,fun p hp=>?_,?_,congrArg (· + 1) h3⟩
    ·rcases List.mem_cons.1 hp with rfl | hp
     ·exact h
     ·exact h1 p hp
    ·rw [List.map_cons,List.flatten_cons,List.flatten_cons]
     exact rr.append h2
  | _=>cases e
theorem zfo (ls:List (List D)):zbO (ls.map PyData.list)=some ls:=by
 induction ls with
 | nil=>rfl
 | cons b r ih=>rw [List.map_cons,zbO,ih];rfl
def ze8:List D->Option D
 | [.list ds,.list []]=>(match zbO ds with
  | some ls=>if ls.flatten.length<=1000000 then some (.list ls.flatten) else none
  | none=>none)
 | _=>none
theorem zj5 {xs:List D} {d:D} (h:ze8 xs=some d):∃ ds ls,xs=[.list ds,.list []]/\zbO ds=some ls/\ls.flatten.length<=1000000/\d=.list ls.flatten:=by
 unfold ze8 at h
 split at h
 ·rename_i ds
  cases z:zbO ds with
  | none=>rw [z] at h;cases h
  | some ls =>
   rw [z] at h
   dsimp only at h
   split at h
   ·rename_i c
    cases h
    exact ⟨ds,ls,rfl,z,c,rfl⟩
   ·cases h
 ·cases h
theorem zlU {ls:List (List D)} (h:ls.flatten.length<=1000000):ze8 [.list (ls.map .list),.list []]=some (.list ls.flatten):=by
 unfold ze8
 simp only [zfo,if_pos h]
theorem zmB (hc:X.calm=true):zdv X (.builtin "sum") ze8:=by
 refine ⟨_,zj4 hc,fun vs G H ds d Q s r e k=>?_⟩
 obtain ⟨ds,ls,rfl,z,c,rfl⟩:=zj5 e
 obtain ⟨v,v',rfl,q1,q2⟩:=r.two_inv
 obtain ⟨l,ws,rfl,h1,r1⟩:=q1.lst_inv
 obtain ⟨a,ws2,rfl,h2,r2⟩:=q2.lst_inv
 have:=r2.nil_inv
 subst this
 obtain ⟨rs,rfl,g1,g2,g3⟩:=zeN r1 z
 refine ⟨l,a,rs,rfl,s.seq h1,fun p hp=>s.seq (g1 p hp),s.seq h2,?_,fun e0=>?_,fun p hp=>?_⟩
 ·rw [g2.length];exact Nat.le_trans c lim
 ·subst e0
  have:ls=[]:=List.eq_nil_of_length_eq_zero g3.symm
  subst this
  exact k _ G H (.refl s) (.lst h2 .nil)
 ·exact k _ _ _ (.new s hp) (.lst (SqL.of zaL) (g2.mono (zaM (s.free hp))))
end
section
variable {X:Cx}
def zb0 (ns:List Int):List Int:=ns.mergeSort fun a b=>decide (a<=b)
theorem za1 (ns:List Int):(zb0 ns).Perm ns:=List.mergeSort_perm ..
theorem zgw (ns:List Int):(zb0 ns).Pairwise (· <= ·):=by
 have:=List.pairwise_mergeSort (le:=fun a b:Int=>decide (a<=b)) (by intro a b c;simp;omega) (by intro a b;simp;omega) ns
 exact this.imp (by simp)
theorem zj6:∀ {a b:List Int},a.Perm b->a.Pairwise (· <= ·)->b.Pairwise (· <= ·)->a=b
 | [],b,p,_,_=>by rw [List.nil_perm.1 p]
 | x :: a,[],p,_,_=>by have:=p.length_eq;simp at this
 | x :: a,y :: b,p,ha,hb=>by
  have hx:y<=x:=by
   rcases List.mem_cons.1 (p.mem_iff.1 (List.mem_cons_self ..)) with e | e
   ·exact Int.le_of_eq e.symm
   ·exact (List.pairwise_cons.1 hb).1 x e
  have hy:x<=y:=by
   rcases List.mem_cons.1 (p.mem_iff.2 (List.mem_cons_self ..)) with e | e
   ·exact Int.le_of_eq e.symm
   ·exact (List.pairwise_cons.1 ha).1 y e
  have e:=Int.le_antisymm hy hx
  subst e
  rw [zj6 (List.Perm.cons_inv p) (List.pairwise_cons.1 ha).2 (List.pairwise_cons.1 hb).2]
theorem zgx:∀ {us:List Value} {ns:List Int},PyProof.Rows.IntsAre us ns->Vals (ns.map V.int) us
 | _,_,.nil=>Paired.nil
 | _,_,.cons n t h=>Paired.cons ⟨t,rfl⟩ (zgx h)
theorem ziN:zdj X (.builtin "sorted") (fun xs H Q=>∃ l,∃ ns:List Int,xs=[.ref l]/\SqL X.K H l (ns.map V.int)/\ns.length < 64/\∀ p,H p=none->Q (.ref p) (upd H p (.lst ((zb0 ns).map V.int)))):=by
 intro pins s σ H xs us Q I rx h
 obtain ⟨l,ns,rfl,hq,hb,q⟩:=h
 obtain ⟨u,rfl,ru⟩:=rx.one
 cases ru
 obtain ⟨its,rv,p,hz⟩:=I.list hq
 have hi:=zcc rv
 have hn:its.length=ns.length:=by have:=rv.length;rw [List.length_map] at this;omega
 refine sorted_ints p.isList hi (by omega) fun out ns' a1 a2 a3=>?_
 obtain ⟨e,he⟩:=sortedAll_at s.heap its out
 have en:ns'=zb0 ns:=zj6 (a2.trans (za1 ns).symm) a3 (zgw ns)
 subst en
 refine ⟨.ref (s.heap.objs.size+1),_,I.laid (t':=s.toks) (fun b o=>sortedAll_old) (Nat.le_succ _) (show zcw X.prog X.w _ _ _ (.lst ((zb0 ns).map V.int)) from ⟨?_,out.toList,e,zgx a1,he⟩),rfl,q _ (I.hok.fresh (Nat.le_succ _))⟩
 rw [List.length_map,(za1 ns).length_eq]
 rw [List.length_map] at hz
 exact hz
def zeO:List D->Option D
 | [.list ds]=>(match zb8 ds with
  | some ns=>if ns.length < 64 then some (.list ((zb0 ns).map .int)) else none
  | none=>none)
 | _=>none
theorem ziO {xs:List D} {d:D} (h:zeO xs=some d):∃ ds ns,xs=[.list ds]/\zb8 ds=some ns/\ns.length < 64/\d=.list ((zb0 ns).map .int):=by
 unfold zeO at h
 split at h
 ·rename_i ds
  cases z:zb8 ds with
  | none=>rw [z] at h;cases h
  | some ns =>
   rw [z] at h
   dsimp only at h
   split at h
   ·rename_i c
    cases h
    exact ⟨ds,ns,rfl,z,c,rfl⟩
   ·cases h
 ·cases h
theorem zgy {K:PySem.W.Frag} {G:Hp}:∀ ns:List Int,Reps K G (ns.map V.int) (ns.map PyData.int)
 | []=>.nil
 | n :: r=>.cons (.int n) (zgy r)
theorem znl:zdv X (.builtin "sorted") zeO:=by
 refine ⟨_,ziN,fun vs G H ds d Q s r e k=>?_⟩
 obtain ⟨ds,ns,rfl,z,c,rfl⟩:=ziO e
 obtain ⟨v,rfl,q1⟩:=r.one_inv
 obtain ⟨l,ws,rfl,h1,r1⟩:=q1.lst_inv
 have:=zcn r1 z
 subst this
 exact ⟨l,ns,rfl,s.seq h1,c,fun p hp=>k _ _ _ (.new s hp) (.lst (SqL.of zaL) (zgy _))⟩
theorem zj7 {ns:List Int} (h:ns.length < 64):zeO [.list (ns.map .int)]=some (.list ((zb0 ns).map .int)):=by
 unfold zeO
 simp only [zdb,if_pos h]
end
@[simp] theorem mBind_ok {α β : Type} {f:M α} {k : α -> M β} {ρ ρ':DEnv} {x : α} (h:f ρ = .ok x ρ'):zas f k ρ = k x ρ':=by unfold zas;rw [h]
theorem zgz {s:D->DEnv->Option DEnv} {g:SM} {P:Nat->DEnv->Prop} {R:Out->Prop}:∀ (ds:List D) (n:Nat) (ρ : DEnv),P n ρ ->
  (∀ i d ρ,ds[i]?=some d->P (n+i) ρ -> ∃ ρ1,s d ρ = some ρ1/\((∃ ρ2,(g ρ1=.nx ρ2 ∨ g ρ1=.ct ρ2)/\P (n+i+1) ρ2) ∨ (∃ x,g ρ1=.rt x/\R (.rt x)) ∨ (∃ ρ2,g ρ1=.bk ρ2/\R (.nx ρ2)) ∨ ∃ ρ2 x,g ρ1=.ex ρ2 x/\R (.ex ρ2 x)))->(∀ ρ,P (n+ds.length) ρ -> R (.nx ρ))->R (zgm s g ds ρ)
 | [],n,ρ,h,_,f=>f ρ h
 | d :: r,n,ρ,h,st,f=>by
  obtain ⟨ρ1,e1,e2⟩:=st 0 d ρ rfl h
  rw [zgm,e1]
  dsimp only
  rcases e2 with ⟨ρ2,e2,h2⟩ | ⟨x,e2,h2⟩ | ⟨ρ2,e2,h2⟩ | ⟨ρ2,x,e2,h2⟩
  ·have goal:=zgz (R:=R) r (n+1) ρ2 h2 (fun i d' ρ3 q p=>by
    have e:n+1+i=n+(i+1):=by omega
    rw [e] at p ⊢
    exact st (i+1) d' ρ3 (by simpa using q) p) (fun ρ3 p=>f ρ3 (by
    have e:n+1+r.length=n+(d :: r).length:=by rw [List.length_cons];omega
    rw [e] at p
    exact p))
   rcases e2 with e2 | e2 <;> (rw [e2];exact goal)
  ·rw [e2];exact h2
  ·rw [e2];exact h2
  ·rw [e2];exact h2
theorem zbL {lo hi:Int} {i:Nat} {d:D} (h:(zbp lo hi)[i]?=some d):d=.int (lo+i)/\(i:Int) < hi - lo:=by
 have hl:i < (zbp lo hi).length:=(List.getElem?_eq_some_iff.mp h).1
 rw [za0] at hl
 unfold zbp at h
 rw [List.getElem?_map,List.getElem?_eq_getElem (by rw [List.length_range];exact hl),List.getElem_range] at h
 cases h
 exact ⟨rfl,by omega⟩
theorem zoF {α : Type} {xs:List α} {i:Int} {v : α} (h0:0<=i) (h:xs[i.toNat]?=some v):atI xs i=some v:=by
 have:=zaW (xs:=xs) (j:=i.toNat) h
 rw [Int.toNat_of_nonneg h0] at this
 exact this
section
variable {α β : Type} {ρ ρ1 ρ2 ρ3 ρ':DEnv} {f g h:M D}
theorem zag {a : α}:zah a ρ = .ok a ρ:=rfl
theorem zai:mNil ρ = .ok [] ρ:=rfl
theorem zbP {o:Option α} {a : α} (h:o=some a):mOpt o ρ = .ok a ρ:=by subst h;rfl
theorem zau {f:M α} {k : α -> M β} {x : α} {r:Res β} (h:f ρ = .ok x ρ1) (h2:k x ρ1=r):zas f k ρ = r:=by unfold zas;rw [h];exact h2
theorem zaK {f:M α} {k : α -> β} {x : α} (h:f ρ = .ok x ρ1):mMap k f ρ = .ok (k x) ρ1:=by unfold mMap zas;rw [h];rfl
theorem zad {i:Nat} {d:D} (h : ρ[i]?=some (some (.pub d))):dVar i ρ = .ok d ρ:=by unfold dVar;rw [h]
theorem zbt {i:Nat} {ds:List D} (h : ρ[i]?=some (some (.own ds))) (h2 : ρ.set i (some (.pub (.list ds))) = ρ'):dVar i ρ = .ok (.list ds) ρ':=by unfold dVar;rw [h];subst h2;rfl
theorem zap {op:D->D->Option β} {x y:D} {r : β} (h1:f ρ = .ok x ρ1) (h2:g ρ1=.ok y ρ2) (h3:op x y=some r):dBin op f g ρ = .ok r ρ2:=by
 unfold dBin;exact zau h1 (zau h2 (zbP h3))
theorem zab {g:M (List D)} {x:D} {xs:List D} (h1:f ρ = .ok x ρ1) (h2:g ρ1=.ok xs ρ2):zae f g ρ = .ok (x :: xs) ρ2:=by
 unfold zae;exact zau h1 (zau h2 rfl)
theorem zcC {g:M (List D)} {xs:List D} (h1:g ρ = .ok xs ρ1) (h2:xs.length<=1000000):mTup g ρ = .ok (.tuple xs) ρ1:=by
 unfold mTup;exact zau h1 (by rw [if_pos h2];rfl)
theorem zba {g:M (List D)} {xs:List D} (h1:g ρ = .ok xs ρ1) (h2:xs.length<=1000000):mLst g ρ = .ok (.list xs) ρ1:=by
 unfold mLst;exact zau h1 (by rw [if_pos h2];rfl)
theorem zc3 {g:M (List D)} {xs:List D} (h1:g ρ = .ok xs ρ1) (h2:xs.length<=1000000):(zas g fun xs=>if xs.length<=1000000 then zah xs else fun _=>.bad) ρ = .ok xs ρ1 :=
 zau h1 (by rw [if_pos h2];rfl)
theorem zaY {i:Nat} {d y r:D} (h : ρ[i]?=some (some (.pub d))) (h1:g ρ = .ok y ρ1) (h2:oIx d y=some r):dIxN i g ρ = .ok r ρ1:=by
 unfold dIxN;rw [h];exact zau h1 (zbP h2)
theorem zhV {i:Nat} {ds es:List D} {y r:D} (h : ρ[i]?=some (some (.own ds))) (h1:g ρ = .ok y ρ1) (h3 : ρ1[i]?=some (some (.own es))) (h2:oIx (.list es) y=some r):dIxN i g ρ = .ok r ρ1:=by
 unfold dIxN;rw [h];exact zau h1 (by rw [h3];exact zbP h2)
theorem zaQ {p:List D->Option D} {g:M (List D)} {xs:List D} {r:D} (h1:g ρ = .ok xs ρ1) (h2:p xs=some r):zbg p g ρ = .ok r ρ1:=by
 unfold zbg;exact zau h1 (zbP h2)
theorem zay {n:Nat} {F:List D->Option D} {g:M (List D)} {xs:List D} {r:D} (h1:g ρ = .ok xs ρ1) (h2:xs.length=n) (h3:F xs=some r):dFun n F g ρ = .ok r ρ1:=by
 unfold dFun;exact zau h1 (by rw [if_pos h2];exact zbP h3)
theorem zeP {i:Int} (h1:f ρ = .ok (.int i) ρ1):dNeg f ρ = .ok (.int (-i)) ρ1:=by
 unfold dNeg;exact zau h1 rfl
theorem zbu {i:Nat} {d r:D} (h : ρ[i]?=some (some (.pub d))) (h2:oLen [d]=some r):zb1 i ρ = .ok r ρ:=by
 unfold zb1;rw [h];exact zbP h2
theorem zfI {i:Nat} {ds:List D} (h : ρ[i]?=some (some (.own ds))):zb1 i ρ = .ok (.int ds.length) ρ:=by
 unfold zb1;rw [h]
theorem zcN {g:M (List D)} {i:Int} {r:List D} (h1:g ρ = .ok [.int i] ρ1) (h2:ziz [.int i]=some r):zel g ρ = .ok r ρ1:=by
 unfold zel;exact zau h1 (zbP h2)
theorem zj8 {g:M (List D)} {i j:Int} {r:List D} (h1:g ρ = .ok [.int i,.int j] ρ1) (h2:ziA [.int i,.int j]=some r):zlD g ρ = .ok r ρ1:=by
 unfold zlD;exact zau h1 (zbP h2)
theorem zca {g:M (List D)} {xs r:List D} (h1:g ρ = .ok xs ρ1) (h2:zjH xs=some r):zcY g ρ = .ok r ρ1:=by
 unfold zcY;exact zau h1 (zbP h2)
theorem zbT {i:Int} (h1:f ρ = .ok (.int i) ρ1):(zas f fun x=>mOpt (zcq x)) ρ = .ok (some i) ρ1:=zau h1 rfl
theorem zcR {f:M Bool} {t:Bool} (h1:f ρ = .ok t ρ1):mNot f ρ = .ok (!t) ρ1:=zaK h1
theorem zbW {t:Bool} (h1:f ρ = .ok (.bool t) ρ1):zbN f ρ = .ok t ρ1:=by unfold zbN;exact zau h1 rfl
theorem zhW {f g:M Bool} {t u:Bool} (h1:f ρ = .ok t ρ) (h2:t=true->g ρ = .ok u ρ):mAnd f g ρ = .ok (t && u) ρ:=by
 unfold mAnd;refine zau h1 ?_
 cases t with
 | true=>rw [if_pos rfl];exact h2 rfl
 | false=>rfl
theorem zpz {f g:M Bool} {t u:Bool} (h1:f ρ = .ok t ρ) (h2:t=false->g ρ = .ok u ρ):mOr f g ρ = .ok (t || u) ρ:=by
 unfold mOr;refine zau h1 ?_
 cases t with
 | false=>rw [if_neg (by decide)];exact h2 rfl
 | true=>rfl
theorem zhp {t u:Bool} (h1:f ρ = .ok (.bool t) ρ) (h2:t=true->g ρ = .ok (.bool u) ρ):ziw f g ρ = .ok (.bool (t && u)) ρ:=by
 unfold ziw;refine zau h1 ?_
 cases t with
 | true=>exact h2 rfl
 | false=>rfl
theorem zoG {t u:Bool} (h1:f ρ = .ok (.bool t) ρ) (h2:t=false->g ρ = .ok (.bool u) ρ):mOrV f g ρ = .ok (.bool (t || u)) ρ:=by
 unfold mOrV;refine zau h1 ?_
 cases t with
 | false=>exact h2 rfl
 | true=>rfl
theorem zj9 {t:Bool} (h1:f ρ = .ok (.bool t) ρ1):zjC f ρ = .ok (.bool (!t)) ρ1:=by unfold zjC;exact zau h1 rfl
theorem zmC {f:M Bool} {g h:M α} {r:Res α} (h1:f ρ = .ok true ρ1) (h2:g ρ1=r):mIf f g h ρ = r:=by unfold mIf;exact zau h1 (by rw [if_pos rfl];exact h2)
theorem zmD {f:M Bool} {g h:M α} {r:Res α} (h1:f ρ = .ok false ρ1) (h2:h ρ1=r):mIf f g h ρ = r:=by unfold mIf;exact zau h1 (by rw [if_neg (by decide)];exact h2)
theorem zfJ {p q:D->D->Option Bool} {x y z:D} {t u:Bool} (h1:f ρ = .ok x ρ) (h2:g ρ = .ok y ρ) (h3:p x y=some t) (h4:t=true->h ρ = .ok z ρ) (h5:t=true->q y z=some u):zeD p q f g h ρ = .ok (t && u) ρ:=by
 unfold zeD
 refine zau h1 (zau h2 (zau (zbP h3) ?_))
 cases t with
 | true=>rw [if_pos rfl];exact zau (h4 rfl) (zbP (h5 rfl))
 | false=>rfl
theorem zbb {i j:Int}:oAdd (.int i) (.int j)=some (.int (i+j)):=rfl
theorem zbv {x y:List D} (h:x.length+y.length<=1000000):oAdd (.list x) (.list y)=some (.list (x ++ y)):=by unfold oAdd;exact if_pos h
theorem zfK {i j:Int}:oSub (.int i) (.int j)=some (.int (i - j)):=rfl
theorem zfL {i j:Int} (h1 : -18446744073709551616 < i) (h2:i < 18446744073709551616):oMul (.int i) (.int j)=some (.int (i * j)):=by unfold oMul gMul;exact if_pos (.inl ⟨by omega,by omega⟩)
theorem zlV {i j:Int} (h1 : -18446744073709551616 < j) (h2:j < 18446744073709551616):oMul (.int i) (.int j)=some (.int (i * j)):=by unfold oMul gMul;exact if_pos (.inr ⟨by omega,by omega⟩)
theorem zcD {x:List D} {k:Int} (h : -1000000<=k/\k<=1000000/\x.length * k.toNat<=1000000):oMul (.list x) (.int k)=some (.list (List.replicate k.toNat x).flatten):=by unfold oMul;exact if_pos h
theorem zds {i j:Int} (h:0 < j):oMod (.int i) (.int j)=some (.int (i % j)):=by unfold oMod gMod;exact if_pos h
theorem znm {i j:Int} (h:0 < j) (h2:j < 18446744073709551616):oDiv (.int i) (.int j)=some (.int (i / j)):=by unfold oDiv gDiv;exact if_pos ⟨h,h2⟩
theorem zka {i j:Int} (h:0<=j/\j<=1000000/\i.natAbs < 2 ^ 64):oPow (.int i) (.int j)=some (.int (i ^ j.toNat)):=by unfold oPow gPow;exact if_pos h
theorem zhX {p:Int->Int->Bool} {i j:Int}:oIB p (.int i) (.int j)=some (p i j):=rfl
theorem zbU {i j:Int}:oEq (.int i) (.int j)=some (decide (i=j)):=by
 unfold oEq;rw [if_pos ⟨rfl,rfl,by simp [PyData.depth]⟩];congr 1
theorem zaE {xs:List D}:oLen [.list xs]=some (.int xs.length):=rfl
theorem zhY {xs:List D}:oLen [.tuple xs]=some (.int xs.length):=rfl
theorem zkb {i j:Int}:zix [.int i,.int j]=some (.int (if j > i then j else i)):=rfl
theorem zck {j:Int} (h1:j<=1000000) (h2 : -1000000<=j):ziz [.int j]=some (zbp 0 j):=by unfold ziz;exact if_pos ⟨h1,h2⟩
theorem zlW {i j:Int} (h1:j<=1000000) (h2 : -1000000<=j) (h3:i<=1000000) (h4 : -1000000<=i):ziA [.int i,.int j]=some (zbp i j):=by unfold ziA;exact if_pos ⟨h1,h2,h3,h4⟩
theorem zbM {xs:List D}:zjH [.list xs]=some (zcr 0 xs):=rfl
theorem zaS {i:Nat} {d:D} (h1:f ρ = .ok d ρ1) (h2:i < ρ1.length) (h3 : ρ1.set i (some (.pub d)) = ρ'):sSet i f ρ = .nx ρ':=by
 unfold sSet sAsg sB gN;rw [h1];dsimp only;rw [if_pos h2];subst h3;rfl
theorem zbk {i:Nat} {f:M (List D)} {ds:List D} (h1:f ρ = .ok ds ρ1) (h2:i < ρ1.length) (h3 : ρ1.set i (some (.own ds)) = ρ'):zbQ i f ρ = .nx ρ':=by
 unfold zbQ sB;rw [h1];dsimp only;rw [if_pos h2];subst h3;rfl
theorem zdE {i:Nat} {d:D} {ds0 ds:List D} (h0 : ρ[i]?=some (some (.own ds0))) (h1:f ρ = .ok d ρ1) (h2 : ρ1[i]?=some (some (.own ds))) (h3:ds.length < 1000000) (h4 : ρ1.set i (some (.own (ds ++ [d]))) = ρ'):sApp i f ρ = .nx ρ':=by
 unfold sApp sB;rw [h0];dsimp only;rw [h1];dsimp only;rw [h2];dsimp only;rw [if_pos h3];subst h4;rfl
theorem zfp {d:D} {s:D->DEnv->Option DEnv} (h1:f ρ = .ok d ρ1) (h2:s d ρ1=some ρ'):sAsg f s ρ = .nx ρ':=by
 unfold sAsg sB;rw [h1];dsimp only;rw [h2]
theorem zd3 {d:D} (h1:f ρ = .ok d ρ1):zgk f ρ = .nx ρ1:=by unfold zgk sB;rw [h1]
theorem tg_N {i:Nat} {d:D} (h:i < ρ.length) (h2 : ρ.set i (some (.pub d)) = ρ'):gN i d ρ = some ρ':=by unfold gN;rw [if_pos h,h2]
theorem tg_0:gN0 [] ρ = some ρ:=rfl
theorem tg_C {s:D->DEnv->Option DEnv} {t:List D->DEnv->Option DEnv} {d:D} {r:List D} (h1:s d ρ = some ρ1) (h2:t r ρ1=some ρ'):gNC s t (d :: r) ρ = some ρ':=by unfold gNC;dsimp only;rw [h1];exact h2
theorem tg_T {n:Nat} {t:List D->DEnv->Option DEnv} {ds:List D} (h1:ds.length=n) (h2:t ds ρ = some ρ'):gT n t (.tuple ds) ρ = some ρ':=by unfold gT;dsimp only;rw [if_pos h1];exact h2
structure Ho (g:SM) (ρ : DEnv) (Q:Out->Prop):Prop where
 out:Q (g ρ)
def zpA (h:SM) (Q:Out->Prop):Out->Prop
 | .nx ρ'=>Ho h ρ' Q
 | o=>Q o
structure ziP (h:SM) (Q:Out->Prop) (o:Out):Prop where
 out:zpA h Q o
variable {Q:Out->Prop} {s t u:SM}
theorem zaU (h:Ho s ρ (ziP t Q)):Ho (sSeq s t) ρ Q:=by
 have h:=h.out.out
 constructor
 unfold sSeq
 cases e:s ρ with
 | nx o=>rw [e] at h;exact h.out
 | _=>rw [e] at h;exact h
theorem zar (h1:s ρ = .nx ρ1) (h2:Ho t ρ1 Q):Ho (sSeq s t) ρ Q:=by
 constructor;unfold sSeq;rw [h1];exact h2.out
theorem za4 {o:Out} (h1:s ρ = o) (h2:Q o):Ho s ρ Q:=by constructor;rw [h1];exact h2
theorem zbI (h:Q (.nx ρ)):Ho sNx ρ Q:=⟨h⟩
theorem zaw {o:DEnv} (h:Ho t o Q):ziP t Q (.nx o):=⟨h⟩
theorem zdF {d:D} (h:Q (.rt d)):ziP t Q (.rt d):=⟨h⟩
theorem zbe {f:M Bool} {b:Bool} (h1:f ρ = .ok b ρ1) (h2:b=true->Ho s ρ1 Q) (h3:b=false->Ho t ρ1 Q):Ho (sIf f s t) ρ Q:=by
 constructor;unfold sIf sB;rw [h1];dsimp only
 cases b with
 | true=>rw [if_pos rfl];exact (h2 rfl).out
 | false=>rw [if_neg (by decide)];exact (h3 rfl).out
theorem zaJ {d:D} (h1:f ρ = .ok d ρ1) (h2:Q (.rt d)):Ho (sRet f) ρ Q:=by constructor;unfold sRet sB;rw [h1];exact h2
theorem znn {P:Out->Prop} (h:Ho s ρ P) (k:∀ o,P o->Q o):Ho s ρ Q:=⟨k _ h.out⟩
def zpB (I:DEnv->Prop) (Q:Out->Prop):Out->Prop
 | .nx ρ | .ct ρ=>I ρ
 | .bk ρ=>Q (.nx ρ)
 | .rt d=>Q (.rt d)
 | .ex ρ d=>Q (.ex ρ d)
 | .bad=>False
structure zeQ (I:DEnv->Prop) (Q:Out->Prop) (o:Out):Prop where
 out:zpB I Q o
theorem zaO {I:DEnv->Prop} (h:I ρ):zeQ I Q (.nx ρ):=⟨h⟩
theorem zdc {I:DEnv->Prop} {d:D} (h:Q (.rt d)):zeQ I Q (.rt d):=⟨h⟩
theorem zbJ {f:M (List D)} {tg:D->DEnv->Option DEnv} {ds:List D} (I:Nat->DEnv->Prop) (h1:f ρ = .ok ds ρ1) (h0:I 0 ρ1)
  (hst:∀ i d ρ,ds[i]?=some d->I i ρ -> ∃ ρ2,tg d ρ = some ρ2/\Ho s ρ2 (zeQ (I (i+1)) Q)) (hend:∀ ρ,I ds.length ρ -> Q (.nx ρ)):Ho (sFor f tg s) ρ Q:=by
 constructor;unfold sFor sB;rw [h1];dsimp only
 refine zgz (P:=I) (R:=Q) ds 0 ρ1 h0 (fun i d ρ e p=>?_) (fun ρ p=>hend ρ (by rw [Nat.zero_add] at p;exact p))
 rw [Nat.zero_add] at p
 obtain ⟨ρ2,e2,q⟩:=hst i d ρ e p
 refine ⟨ρ2,e2,?_⟩
 rw [Nat.zero_add]
 have q:=q.out.out
 cases z:s ρ2 with
 | nx o=>rw [z] at q;exact .inl ⟨o,.inl rfl,q⟩
 | ct o=>rw [z] at q;exact .inl ⟨o,.inr rfl,q⟩
 | rt o=>rw [z] at q;exact .inr (.inl ⟨o,rfl,q⟩)
 | bk o=>rw [z] at q;exact .inr (.inr (.inl ⟨o,rfl,q⟩))
 | ex o x=>rw [z] at q;exact .inr (.inr (.inr ⟨o,x,rfl,q⟩))
 | bad=>rw [z] at q;exact q.elim
theorem zcS {N:List Str} {ds:List D} {P:D->Prop} (h0:zcA N ds = ρ) (h:Ho s ρ fun o=>∃ d,o=.rt d/\P d):∃ d,runD N s ds=some d/\P d:=by
 subst h0
 obtain ⟨d,e,p⟩:=h.out
 refine ⟨d,?_,p⟩
 unfold runD;rw [e]
theorem zbf {N:List Str} {ds:List D} {d:D} (h0:zcA N ds = ρ) (h:Ho s ρ fun o=>o=.rt d):runD N s ds=some d:=by
 obtain ⟨d',e,p⟩:=zcS (P:=fun x=>x=d) h0 (znn h fun o e=>⟨d,e,rfl⟩)
 rw [e,p]
end
section
variable {α β : Type} {ρ ρ1 ρ2 ρ3 ρ':DEnv} {f g h:M D}
theorem zcT {l u:M (Option Int)} {x r:D} {a b:Option Int} (h1:f ρ = .ok x ρ1) (h2:l ρ1=.ok a ρ2) (h3:u ρ2=.ok b ρ3) (h4:oSlA x a b=some r):dSlA f l u ρ = .ok r ρ3:=by
 unfold dSlA;exact zau h1 (zau h2 (zau h3 (zbP h4)))
theorem zoH {f g:M Bool} (h1:f ρ = .ok true ρ1):mOr f g ρ = .ok true ρ1:=by unfold mOr;exact zau h1 rfl
theorem zcE {f g:M Bool} {u:Bool} (h1:f ρ = .ok false ρ1) (h2:g ρ1=.ok u ρ2):mOr f g ρ = .ok u ρ2:=by unfold mOr;exact zau h1 (by rw [if_neg (by decide)];exact h2)
theorem zkc {f g:M Bool} (h1:f ρ = .ok false ρ1):mAnd f g ρ = .ok false ρ1:=by unfold mAnd;exact zau h1 rfl
theorem zkd {f g:M Bool} {u:Bool} (h1:f ρ = .ok true ρ1) (h2:g ρ1=.ok u ρ2):mAnd f g ρ = .ok u ρ2:=by unfold mAnd;exact zau h1 (by rw [if_pos rfl];exact h2)
theorem zcO {c:String} {d:D} {t:Bool} (h:f ρ = .ok d ρ1) (ht:(!isTy d c)=t):mNot (zbN (mMap (fun d=>.bool (isTy d c)) f)) ρ = .ok t ρ1:=by
 subst ht;exact zcR (zbW (zaK (k:=fun d=>PyData.bool (isTy d c)) h))
theorem zaT {x:D} {r:List D} (h1:f ρ = .ok x ρ1) (h2:zhf x=some r):za2 f ρ = .ok r ρ1:=by
 unfold za2;exact zau h1 (zbP h2)
theorem zbB {p:D->D->Option β} {i:Nat} {d y:D} {r : β} (h : ρ[i]?=some (some (.pub d))) (h1:g ρ = .ok y ρ1) (h2:p d y=some r):zby p i g ρ = .ok r ρ1:=by
 unfold zby;rw [h];exact zau h1 (zbP h2)
theorem zfM {p:D->D->Option β} {i:Nat} {ds es:List D} {y:D} {r : β} (h : ρ[i]?=some (some (.own ds))) (h1:g ρ = .ok y ρ1) (h3 : ρ1[i]?=some (some (.own es))) (h2:p (.list es) y=some r):zby p i g ρ = .ok r ρ1:=by
 unfold zby;rw [h];exact zau h1 (by rw [h3];exact zbP h2)
theorem zbC {f:M (List D)} {k:Nat} {s:D->DEnv->Option DEnv} {t:M Bool} {ds es:List D} (h1:f ρ = .ok ds ρ1) (h2:zbl s t g ds (zaH ρ1 ++ List.replicate k none) []=some es):zcm f k s t g ρ = .ok es ρ1:=by
 unfold zcm;rw [h1];dsimp only;rw [h2]
theorem zce {s:D->DEnv->Option DEnv} {t:M Bool} (p:D->Bool) (q:D->D) (I:DEnv->Prop):∀ (ds:List D) (ρ : DEnv) (es:List D),(∀ d ∈ ds,∀ ρ,I ρ -> ∃ ρ1,s d ρ = some ρ1/\t ρ1=.ok (p d) ρ1/\(p d=true->g ρ1=.ok (q d) ρ1)/\I (zaH ρ1))->I ρ -> es.length+ds.length<=1000000 ->
  zbl s t g ds ρ es=some (es ++ (ds.filter p).map q)
 | [],ρ,es,_,_,_=>by rw [zbl];simp
 | d :: r,ρ,es,st,h0,hz=>by
  obtain ⟨ρ1,e1,e2,e3,h1⟩:=st d List.mem_cons_self ρ h0
  have ih:=fun es' hz'=>zce p q I r (zaH ρ1) es' (fun d' hd=>st d' (List.mem_cons_of_mem _ hd)) h1 hz'
  rw [List.length_cons] at hz
  rw [zbl,e1]
  dsimp only
  rw [e2]
  dsimp only
  cases hp:p d with
  | true =>
   rw [if_pos rfl,e3 hp]
   dsimp only
   rw [if_pos (by omega),ih _ (by rw [List.length_append,List.length_singleton];omega),List.filter_cons_of_pos hp,List.map_cons,List.append_assoc]
   rfl
  | false =>
   rw [if_neg (by decide),ih _ (by omega),List.filter_cons_of_neg (by rw [hp];decide)]
theorem zc4 {j:Nat} {d:D} {k:Int} {ds0 ds:List D} (h1:f ρ = .ok d ρ1) (h0 : ρ1[j]?=some (some (.own ds0))) (h2:g ρ1=.ok (.int k) ρ2) (h3 : ρ2[j]?=some (some (.own ds))) (h4:0<=k/\k < ds.length) (h5 : ρ2.set j (some (.own (ds.set k.toNat d))) = ρ'):ze7 j g f ρ = .nx ρ':=by
 unfold ze7 sB;rw [h1];dsimp only;rw [h0];dsimp only;rw [h2];dsimp only;rw [h3];dsimp only;rw [if_pos h4];subst h5;rfl
theorem zbX {xs:List D} {a b:Option Int}:oSlA (.list xs) a b=some (.list (DL.cutD xs a b)):=rfl
theorem zbw {xs:List D}:zhf (.list xs)=some xs:=rfl
theorem zhq (bs:List Bool):zc0 (bs.map PyData.bool)=some bs:=by
 induction bs with
 | nil=>rfl
 | cons b r ih=>rw [List.map_cons,zc0,ih];rfl
theorem zfN {bs:List Bool}:oAll [.list (bs.map PyData.bool)]=some (.bool (bs.all id)):=by unfold oAll;dsimp only;rw [zhq];rfl
end
section
variable {α β : Type} {ρ ρ1 ρ2 ρ3 ρ4 ρ':DEnv} {f g h:M D} {s:SM}
theorem zmE {g:M (List D)} {xs r:List D} (h1:g ρ = .ok xs ρ1) (h2:oZip xs=some r):dZip g ρ = .ok r ρ1:=by unfold dZip;exact zau h1 (zbP h2)
theorem zoI {l u t:M (Option Int)} {xs:List D} (h1:f ρ = .ok (.list xs) ρ1) (h2:l ρ1=.ok none ρ2) (h3:u ρ2=.ok none ρ3) (h4:t ρ3=.ok (some (-1)) ρ4):dRev f l u t ρ = .ok (.list xs.reverse) ρ4:=by
 unfold dRev;exact zau h1 (zau h2 (zau h3 (zau h4 (zbP (by unfold oRev;exact if_pos rfl)))))
theorem zes {i:Nat} {d:D} {ds:List D} (h : ρ[i]?=some (some (.pub d))) (h2:zc1 [d]=some ds):zdC i ρ = .ok ds ρ:=by unfold zdC;rw [h];exact zbP h2
theorem zke {N:List Str} {ds:List D} (h0:zcA N ds = ρ) (h:Ho s ρ fun o=>∃ ρ',o=.nx ρ'):runD N s ds=some .none:=by
 subst h0
 obtain ⟨ρ',e⟩:=h.out
 unfold runD;rw [e]
theorem zhr {i j:Int}:oNe (.int i) (.int j)=some (!decide (i=j)):=by
 unfold oNe;rw [if_pos ⟨rfl,rfl,by simp [PyData.depth]⟩];congr 1
theorem zlX {xs:List Int} {j:Nat} {v:Int}:(xs.map PyData.int).set j (.int v)=(xs.set j v).map PyData.int:=by rw [List.map_set]
theorem zlY {xs:List Int} {a b:Int} (ha:0<=a) (hb:0<=b) (hl:b<=xs.length):DL.cutD (xs.map PyData.int) (some a) (some b)=((xs.drop a.toNat).take (b.toNat - a.toNat)).map PyData.int:=by
 unfold DL.cutD HT.sIx
 dsimp only
 rw [if_neg (by omega),if_neg (by omega),List.length_map,List.map_take,List.map_drop]
 have e2:min b.toNat xs.length=b.toNat:=by omega
 rw [e2]
 by_cases hab:a.toNat<=xs.length
 ·have e1:min a.toNat xs.length=a.toNat:=by omega
  rw [e1]
 ·have e3:b.toNat - a.toNat=0:=by omega
  have e4:b.toNat - min a.toNat xs.length=0:=by omega
  rw [e3,e4,List.take_zero,List.take_zero]
theorem zkf {xs ys:List Int}:zipD (xs.map PyData.int) (ys.map PyData.int)=(xs.zip ys).map fun p=>.tuple [.int p.1,.int p.2]:=by
 unfold zipD
 rw [List.zip_map,List.map_map]
 rfl
end
section
variable {ρ ρ1:DEnv}
theorem zhZ {g:M (List D)} {xs r:List D} (h1:g ρ = .ok xs ρ1) (h2:zfn xs=some r):zhU g ρ = .ok r ρ1:=by
 unfold zhU;exact zau h1 (zbP h2)
theorem zgA {xs:List D}:zfn [.list xs]=some (zcr 1 xs):=rfl
end
section
variable {X:Cx} {B G0:Hp} {KX:XW} {e o a b c tg i:Expr} {pos p2:Pos} {es rest:List Expr}
def zdm (f:M Bool) (g:SM):Nat->SM
 | 0,_=>.bad
 | n+1,ρ=>match f ρ with
  | .bad=>.bad
  | .ok t ρ1=>if t=true then (match g ρ1 with
   | .nx ρ2=>zdm f g n ρ2
   | .ct ρ2=>zdm f g n ρ2
   | .bk ρ2=>.nx ρ2
   | .rt d=>.rt d
   | .ex ρ2 d=>.ex ρ2 d
   | .bad=>.bad) else .nx ρ1
theorem zlZ {body:List Stmt} {f:M Bool} {g:SM} (n:Nat) (hp:PassesOwn (model X.prog X.w) X.A X.env X.xe) (hc:PT X c (tBo X.K B G0 f)) (hb:PSs X body (tS X.K B G0 KX g)):PS X (.While c body [] pos) (tS X.K B G0 KX (zdm f g n)) :=
 psof (zlo hp hc hb) fun Dn σ H ⟨G,ρ,k,a⟩=>by
  refine ⟨fun m σ' H'=>∃ G' ρ',EOk X.K B G0 G' H' σ' ρ'/\aftS X.K B G0 KX (zdm f g m ρ') G' Dn,⟨n,G,ρ,k,a⟩,?_⟩
  rintro m σ' H' ⟨G',ρ',k',a'⟩
  cases m with
  | zero=>exact a'.elim
  | succ m =>
   rw [zdm] at a'
   refine ⟨G',ρ',k',?_⟩
   cases z:f ρ' with
   | bad=>rw [z] at a';exact a'.elim
   | ok t ρ1 =>
    rw [z] at a'
    dsimp only at a'
    intro v G1 H1 k1 s1 e1
    subst e1
    cases v with
    | false =>
     rw [if_neg Bool.false_ne_true] at a' ⊢
     exact a' _ G1 H1 k1 s1
    | true =>
     rw [if_pos rfl] at a' ⊢
     refine ⟨fun σ2 H2=>∃ G2 ρ2,EOk X.K B G0 G2 H2 σ2 ρ2/\aftS X.K B G0 KX (zdm f g m ρ2) G2 Dn,fun σ2 H2 h2=>⟨m,Nat.lt_succ_self m,h2⟩,G1,ρ1,k1,?_⟩
     cases z2:g ρ1 with
     | nx ρ2=>rw [z2] at a';exact fun σ4 G4 H4 k4 s4=>⟨G4,ρ2,k4,aftS.mono (s1.trans s4) a'⟩
     | ct ρ2=>rw [z2] at a';exact fun σ4 G4 H4 k4 s4=>⟨G4,ρ2,k4,aftS.mono (s1.trans s4) a'⟩
     | bk ρ2=>rw [z2] at a';exact fun σ4 G4 H4 k4 s4=>a' σ4 G4 H4 k4 (s1.trans s4)
     | rt d=>rw [z2] at a';exact a'
     | ex ρ2 d=>rw [z2] at a';exact fun v σ4 G4 H4 k4 s4 r4=>a' v σ4 G4 H4 k4 (s1.trans s4) r4
     | bad=>rw [z2] at a';exact a'.elim
end
section
variable {X:Cx} {B G0:Hp} {KX:XW}
end
section
variable {X:Cx} {B G0:Hp} {e o a b c tg i:Expr} {pos p2:Pos} {es rest:List Expr}
theorem zkg (hc:X.calm=true):zdj X (.builtin "sum") (fun xs H Q=>∃ l,∃ ns:List Int,xs=[.ref l]/\SqL X.K H l (ns.map V.int)/\Q (.int ns.sum) H):=by
 intro pins s σ H xs us Q I rx h
 obtain ⟨l,ns,rfl,hq,q⟩:=h
 obtain ⟨u,rfl,ru⟩:=rx.one
 cases ru
 obtain ⟨its,rv,p,hz⟩:=I.list hq
 have hi:=zcc rv
 obtain ⟨ys,e⟩:=hi.allInts.items
 have hns:ns=ys.toList.map (·.1):=by
  rw [← hi.numsOf,← nums_intItems,← e]
 have hl:=p.isList
 rw [e] at hl
 refine sum_intListG (I.ok.hd hc) hl fun h' tk t' hk=>?_
 have e2:preSum (numAt ys) ys.size=ns.sum:=by
  rw [preSum_eq,List.take_of_length_le (by simp),hns]
 rw [e2]
 exact ⟨.int ns.sum,H,I.kept hk,⟨t',rfl⟩,q⟩
def ziQ:List D->Option D
 | [.list ds]=>(zb8 ds).map fun ns=>.int ns.sum
 | _=>none
theorem zkh {xs:List D} {d:D} (h:ziQ xs=some d):∃ ds ns,xs=[.list ds]/\zb8 ds=some ns/\d=.int ns.sum:=by
 unfold ziQ at h
 split at h
 ·rename_i ds
  cases z:zb8 ds with
  | none=>rw [z] at h;cases h
  | some ns=>rw [z] at h;cases h;exact ⟨ds,ns,rfl,z,rfl⟩
 ·cases h
theorem zoJ (hc:X.calm=true):zdv X (.builtin "sum") ziQ:=by
 refine ⟨_,zkg hc,fun vs G H ds d Q s r e k=>?_⟩
 obtain ⟨ds,ns,rfl,z,rfl⟩:=zkh e
 obtain ⟨v,rfl,q1⟩:=r.one_inv
 obtain ⟨l,ws,rfl,h1,r1⟩:=q1.lst_inv
 have:=zcn r1 z
 subst this
 exact ⟨l,ns,rfl,s.seq h1,k _ G H (.refl s) (.int _)⟩
theorem zh0 {ns:List Int}:ziQ [.list (ns.map .int)]=some (.int ns.sum):=by
 unfold ziQ
 dsimp only
 rw [zdb];rfl
end
end DL
namespace DL
open PySem PySem.Spec PySem.W PyProof.Rows
def runT {α : Type} (lt:Nat->Nat->Bool):KasT α -> α
 | .ret a=>a
 | .ask i j k=>runT lt (k (lt i j))
theorem zcF {α β : Type} {lt:Nat->Nat->Bool} {f : α -> KasT β}:∀ t:KasT α,runT lt (t.bind f)=runT lt (f (runT lt t))
 | .ret _=>rfl
 | .ask i j k=>by show runT lt ((k (lt i j)).bind f)=_;rw [zcF];rfl
section
variable {key:Nat->Int} {p:Array Nat}
def KA (key:Nat->Int) (p:Array Nat) (i:Nat):Int:=key (p.getD i 0)
def srt (key:Nat->Int) (p:Array Nat) (m:Nat):Prop:=∀ i j,i<=j->j < m->KA key p i<=KA key p j
def dsc (key:Nat->Int) (p:Array Nat) (m:Nat):Prop:=∀ i j,i<=j->j < m->KA key p j<=KA key p i
abbrev kl (key:Nat->Int) (i j:Nat):Bool:=decide (key i < key j)
theorem zgB {k d i:Nat} (hk:k < p.size) (hd:d<=k):KA key (bubble p k d) i=if i=k - d then KA key p k else if k - d < i/\i<=k then KA key p (i - 1) else KA key p i:=by
 unfold KA
 simp only [Array.getD_eq_getD_getElem?]
 rw [getElem?_bubble hk d hd]
 repeat' split
 all_goals rfl
theorem zgC {i j k:Nat} (hj:j<=p.size):KA key (kas_rev p i j) k=if i<=k/\k < j then KA key p (i+j - 1 - k) else KA key p k:=by
 unfold KA kas_rev
 simp only [Array.getD_eq_getD_getElem?]
 rw [getElem?_mirror_all hj]
 split <;> rfl
theorem zcP {i j:Nat}:(kas_rev p i j).size=p.size:=mirror_size _ _ _ _
theorem zcl {i j:Nat}:(kas_rev p i j).Perm p:=mirror_perm _ _ _ _
theorem zfO:∀ (f n:Nat),1<=n->srt key p n->srt key p (runT (kl key) (kas_asc p f n))/\n<=runT (kl key) (kas_asc p f n)/\runT (kl key) (kas_asc p f n)<=n+f /\
  (runT (kl key) (kas_asc p f n) < n+f->KA key p (runT (kl key) (kas_asc p f n)) < KA key p (runT (kl key) (kas_asc p f n) - 1))
 | 0,n,h1,hs=>⟨hs,Nat.le_refl _,Nat.le_refl _,fun h=>absurd h (Nat.lt_irrefl _)⟩
 | f+1,n,h1,hs=>by
  unfold kas_asc runT
  cases c:kl key (p.getD n 0) (p.getD (n - 1) 0) with
  | true =>
   dsimp only
   rw [if_pos rfl]
   exact ⟨hs,Nat.le_refl _,by show n<=n+(f+1);omega,fun _=>of_decide_eq_true c⟩
  | false =>
   dsimp only
   rw [if_neg (by decide)]
   have hle:KA key p (n - 1)<=KA key p n:=Int.not_lt.mp (of_decide_eq_false c)
   obtain ⟨a1,a2,a3,a4⟩:=zfO f (n+1) (by omega) (fun i j hij hj=>by
    by_cases hjn:j=n
    ·subst hjn
     by_cases hin:i=j
     ·subst hin;exact Int.le_refl _
     ·exact Int.le_trans (hs i (j - 1) (by omega) (by omega)) hle
    ·exact hs i j hij (by omega))
   exact ⟨a1,by omega,by omega,fun h=>a4 (by omega)⟩
def eqs (key:Nat->Int) (p:Array Nat) (n q:Nat):Prop:=∀ i,n - 1 - q<=i->i < n->KA key p i=KA key p (n - 1)
theorem zdG:∀ (f:Nat) (p:Array Nat) (n q:Nat),1<=n->q+1<=n->n+f<=p.size->dsc key p n->eqs key p n q ->
  let r:=runT (kl key) (kas_desc f p n q)
  r.1.Perm p/\r.1.size=p.size/\dsc key r.1 r.2.1/\eqs key r.1 r.2.1 r.2.2/\r.2.2+1<=r.2.1/\n<=r.2.1/\r.2.1<=n+f
 | 0,p,n,q,h1,hq,hz,hd,he=>⟨Array.Perm.refl _,rfl,hd,he,hq,Nat.le_refl _,Nat.le_refl _⟩
 | f+1,p,n,q,h1,hq,hz,hd,he=>by
  intro r
  have hr:r=runT (kl key) (kas_desc (f+1) p n q):=rfl
  unfold kas_desc runT at hr
  cases c:kl key (p.getD n 0) (p.getD (n - 1) 0) with
  | true =>
   rw [c] at hr;(try dsimp only at hr);rw [if_pos rfl] at hr
   have hlt:KA key p n < KA key p (n - 1):=of_decide_eq_true c
   have ext:∀ p':Array Nat,(∀ i,KA key p' i=KA key p i)->dsc key p' (n+1)/\eqs key p' (n+1) 0:=fun p' hp=>⟨fun i j hij hj=>by
     rw [hp,hp]
     by_cases hjn:j=n
     ·subst hjn
      by_cases hin:i=j
      ·subst hin;exact Int.le_refl _
      ·exact Int.le_trans (Int.le_of_lt hlt) (hd i (j - 1) (by omega) (by omega))
     ·exact hd i j hij (by omega),fun i hi1 hi2=>by
     have:i=n:=by omega
     subst this;rfl⟩
   by_cases hq0:q > 0
   ·rw [if_pos hq0] at hr
    have same:∀ i,KA key (kas_rev p (n - (q+1)) n) i=KA key p i:=fun i=>by
     rw [zgC (by omega)]
     split
     ·rw [he _ (by omega) (by omega),he i (by omega) (by omega)]
     ·rfl
    obtain ⟨d1,e1⟩:=ext _ same
    obtain ⟨a1,a2,a3,a4,a5,a6,a7⟩:=zdG f (kas_rev p (n - (q+1)) n) (n+1) 0 (by omega) (by omega) (by rw [zcP];omega) d1 e1
    rw [← hr] at a1 a2 a3 a4 a5 a6 a7
    exact ⟨a1.trans zcl,a2.trans zcP,a3,a4,a5,by omega,by omega⟩
   ·rw [if_neg hq0] at hr
    obtain ⟨d1,e1⟩:=ext p fun _=>rfl
    obtain ⟨a1,a2,a3,a4,a5,a6,a7⟩:=zdG f p (n+1) 0 (by omega) (by omega) (by omega) d1 e1
    rw [← hr] at a1 a2 a3 a4 a5 a6 a7
    exact ⟨a1,a2,a3,a4,a5,by omega,by omega⟩
  | false =>
   rw [c] at hr;(try dsimp only at hr);rw [if_neg (by decide)] at hr
   unfold runT at hr
   have hle:KA key p (n - 1)<=KA key p n:=Int.not_lt.mp (of_decide_eq_false c)
   cases d:kl key (p.getD (n - 1) 0) (p.getD n 0) with
   | true =>
    rw [d] at hr;(try dsimp only at hr);rw [if_pos rfl] at hr
    unfold runT at hr
    rw [hr]
    exact ⟨Array.Perm.refl _,rfl,hd,he,hq,Nat.le_refl _,by show n<=n+(f+1);omega⟩
   | false =>
    rw [d] at hr;(try dsimp only at hr);rw [if_neg (by decide)] at hr
    have hge:KA key p n<=KA key p (n - 1):=Int.not_lt.mp (of_decide_eq_false d)
    obtain ⟨a1,a2,a3,a4,a5,a6,a7⟩:=zdG f p (n+1) (q+1) (by omega) (by omega) (by omega) (fun i j hij hj=>by
     by_cases hjn:j=n
     ·subst hjn
      by_cases hin:i=j
      ·subst hin;exact Int.le_refl _
      ·exact Int.le_trans hge (hd i (j - 1) (by omega) (by omega))
     ·exact hd i j hij (by omega)) (fun i hi1 hi2=>by
     have e0:KA key p n=KA key p (n - 1):=Int.le_antisymm hge hle
     show KA key p i=KA key p (n+1 - 1)
     rw [Nat.add_sub_cancel,e0]
     by_cases hin:i=n
     ·subst hin;exact e0
     ·exact he i (by omega) (by omega))
    rw [← hr] at a1 a2 a3 a4 a5 a6 a7
    exact ⟨a1,a2,a3,a4,a5,by omega,by omega⟩
theorem zfq {n nrem:Nat} (h1:1<=n) (hn:n<=nrem) (hz:nrem<=p.size) (hd:dsc key p n) :
  let r:=runT (kl key) (kas_tail3 n nrem p)
  r.2.Perm p/\r.2.size=p.size/\srt key r.2 r.1/\1<=r.1/\r.1<=nrem:=by
 intro r
 have hr:r=runT (kl key) (kas_tail3 n nrem p):=rfl
 unfold kas_tail3 at hr
 rw [zcF] at hr
 have hs:srt key (kas_rev p 0 n) n:=fun i j hij hj=>by
  rw [zgC (by omega),zgC (by omega),if_pos (by omega),if_pos (by omega)]
  exact hd _ _ (by omega) (by omega)
 obtain ⟨a1,a2,a3,_⟩:=zfO (key:=key) (p:=kas_rev p 0 n) (nrem - n) n h1 hs
 rw [hr]
 exact ⟨zcl,zcP,a1,by show 1<=runT _ _;omega,by show runT _ _<=_;omega⟩
theorem zdH {n nrem:Nat} (h1:1<=n) (hn:n+1<=nrem) (hz:nrem<=p.size) (hd:dsc key p (n+1)) :
  let r:=runT (kl key) (kas_descPart n nrem p)
  r.2.Perm p/\r.2.size=p.size/\srt key r.2 r.1/\1<=r.1/\r.1<=nrem:=by
 intro r
 have hr:r=runT (kl key) (kas_descPart n nrem p):=rfl
 unfold kas_descPart at hr
 rw [zcF] at hr
 obtain ⟨a1,a2,a3,a4,a5,a6,a7⟩:=zdG (key:=key) (nrem - (n+1)) p (n+1) 0 (by omega) (by omega) (by omega) hd (fun i hi1 hi2=>by
  have:i=n:=by omega
  subst this;rfl)
 generalize runT (kl key) (kas_desc (nrem - (n+1)) p (n+1) 0)=d at hr a1 a2 a3 a4 a5 a6 a7
 obtain ⟨p1,n1,q1⟩:=d
 dsimp only at hr a1 a2 a3 a4 a5 a6 a7
 by_cases hq:q1 > 0
 ·rw [if_pos hq] at hr
  have same:∀ i,KA key (kas_rev p1 (n1 - (q1+1)) n1) i=KA key p1 i:=fun i=>by
   rw [zgC (by omega)]
   split
   ·rw [a4 _ (by omega) (by omega),a4 i (by omega) (by omega)]
   ·rfl
  obtain ⟨b1,b2,b3,b4,b5⟩:=zfq (key:=key) (p:=kas_rev p1 (n1 - (q1+1)) n1) (n:=n1) (nrem:=nrem) (by omega) (by omega) (by rw [zcP];omega) (fun i j hij hj=>by rw [same,same];exact a3 i j hij hj)
  rw [hr]
  exact ⟨(b1.trans zcl).trans a1,(b2.trans zcP).trans a2,b3,b4,b5⟩
 ·rw [if_neg hq] at hr
  obtain ⟨b1,b2,b3,b4,b5⟩:=zfq (key:=key) (p:=p1) (n:=n1) (nrem:=nrem) (by omega) (by omega) (by omega) a3
  rw [hr]
  exact ⟨b1.trans a1,b2.trans a2,b3,b4,b5⟩
theorem ziR {nrem:Nat} (h1:1<=nrem) (hz:nrem<=p.size) :
  let r:=runT (kl key) (kas_count nrem p)
  r.2.Perm p/\r.2.size=p.size/\srt key r.2 r.1/\1<=r.1/\r.1<=nrem:=by
 intro r
 have hr:r=runT (kl key) (kas_count nrem p):=rfl
 unfold kas_count at hr
 rw [zcF] at hr
 obtain ⟨a1,a2,a3,a4⟩:=zfO (key:=key) (p:=p) (nrem - 1) 1 (Nat.le_refl _) (fun i j hij hj=>by
  have:i=j:=by omega
  subst this;exact Int.le_refl _)
 generalize runT (kl key) (kas_asc p (nrem - 1) 1)=n at hr a1 a2 a3 a4
 by_cases hn:(n == nrem)=true
 ·rw [if_pos hn] at hr
  unfold runT at hr
  rw [hr]
  exact ⟨Array.Perm.refl _,rfl,a1,a2,by show n<=nrem;omega⟩
 ·rw [if_neg hn] at hr
  have hne:n ≠ nrem:=by simpa using hn
  have hlt:=a4 (by omega)
  by_cases hn1:n > 1
  ·rw [if_pos hn1] at hr
   unfold runT at hr
   cases c:kl key (p.getD 0 0) (p.getD (n - 1) 0) with
   | true =>
    rw [c] at hr;(try dsimp only at hr);rw [if_pos rfl] at hr
    unfold runT at hr
    rw [hr]
    exact ⟨Array.Perm.refl _,rfl,a1,a2,by show n<=nrem;omega⟩
   | false =>
    rw [c] at hr;(try dsimp only at hr);rw [if_neg (by decide)] at hr
    have hge:KA key p (n - 1)<=KA key p 0:=Int.not_lt.mp (of_decide_eq_false c)
    have all:∀ i,i < n->KA key p i=KA key p 0:=fun i hi=>Int.le_antisymm (Int.le_trans (a1 i (n - 1) (by omega) (by omega)) hge) (a1 0 i (by omega) hi)
    have same:∀ i,KA key (kas_rev p 0 n) i=KA key p i:=fun i=>by
     rw [zgC (by omega)]
     split
     ·rw [all _ (by omega),all i (by omega)]
     ·rfl
    obtain ⟨b1,b2,b3,b4,b5⟩:=zdH (key:=key) (p:=kas_rev p 0 n) (n:=n) (nrem:=nrem) a2 (by omega) (by rw [zcP];exact hz) (fun i j hij hj=>by
     rw [same,same]
     by_cases hjn:j=n
     ·subst hjn
      by_cases hin:i=j
      ·subst hin;exact Int.le_refl _
      ·rw [all i (by omega)]
       rw [all (j - 1) (by omega)] at hlt
       exact Int.le_of_lt hlt
     ·rw [all i (by omega),all j (by omega)];exact Int.le_refl _)
    rw [hr]
    exact ⟨b1.trans zcl,b2.trans zcP,b3,b4,b5⟩
  ·rw [if_neg hn1] at hr
   have:n=1:=by omega
   subst this
   obtain ⟨b1,b2,b3,b4,b5⟩:=zdH (key:=key) (p:=p) (n:=1) (nrem:=nrem) (Nat.le_refl _) (by omega) hz (fun i j hij hj=>by
    by_cases hij2:i=j
    ·subst hij2;exact Int.le_refl _
    ·have h0:i=0:=by omega
     have h1:j=1:=by omega
     subst h0;subst h1
     exact Int.le_of_lt hlt)
   rw [hr]
   exact ⟨b1,b2,b3,b4,b5⟩
theorem zd4 {k:Nat} (hs:srt key p k):∀ (f l r:Nat),l<=r->r<=k->r - l<=f->(∀ i,i < l->KA key p i<=KA key p k)->(∀ i,r<=i->i < k->KA key p k < KA key p i) ->
  let m:=runT (kl key) (kas_place p k f l r)
  m<=k/\(∀ i,i < m->KA key p i<=KA key p k)/\(∀ i,m<=i->i < k->KA key p k < KA key p i)
 | 0,l,r,hlr,hrk,hf,h1,h2=>⟨by show l<=k;omega,h1,fun i (hi:l<=i)=>h2 i (by omega)⟩
 | f+1,l,r,hlr,hrk,hf,h1,h2=>by
  intro m
  have hm:m=runT (kl key) (kas_place p k (f+1) l r):=rfl
  unfold kas_place at hm
  by_cases hge:l ≥ r
  ·rw [if_pos hge] at hm
   unfold runT at hm
   rw [hm]
   exact ⟨by omega,h1,fun i hi=>h2 i (by omega)⟩
  ·rw [if_neg hge] at hm
   unfold runT at hm
   cases c:kl key (p.getD k 0) (p.getD ((l+r) / 2) 0) with
   | true =>
    rw [c] at hm;(try dsimp only at hm);rw [if_pos rfl] at hm
    rw [hm]
    have hlt:KA key p k < KA key p ((l+r) / 2):=of_decide_eq_true c
    exact zd4 hs f l ((l+r) / 2) (by omega) (by omega) (by omega) h1 fun i hi hik=>Int.lt_of_lt_of_le hlt (hs _ _ hi hik)
   | false =>
    rw [c] at hm;(try dsimp only at hm);rw [if_neg (by decide)] at hm
    rw [hm]
    have hle:KA key p ((l+r) / 2)<=KA key p k:=Int.not_lt.mp (of_decide_eq_false c)
    exact zd4 hs f ((l+r) / 2+1) r (by omega) hrk (by omega) (fun i hi=>Int.le_trans (hs i ((l+r) / 2) (by omega) (by omega)) hle) h2
theorem zh1:∀ (f:Nat) (p:Array Nat) (k:Nat),k+f<=p.size->srt key p k->let r:=runT (kl key) (kas_bin f p k);r.Perm p/\r.size=p.size/\srt key r (k+f)
 | 0,p,k,_,hs=>⟨Array.Perm.refl _,rfl,hs⟩
 | f+1,p,k,hz,hs=>by
  intro r
  have hr:r=runT (kl key) (kas_bin (f+1) p k):=rfl
  unfold kas_bin at hr
  rw [zcF] at hr
  obtain ⟨a1,a2,a3⟩:=zd4 (key:=key) hs k 0 k (Nat.zero_le _) (Nat.le_refl _) (by omega) (fun i hi=>by omega) (fun i h1 h2=>by omega)
  generalize runT (kl key) (kas_place p k k 0 k)=l at hr a1 a2 a3
  have hk:k < p.size:=by omega
  obtain ⟨b1,b2,b3⟩:=zh1 f (bubble p k (k - l)) (k+1) (by rw [bubble_size];omega) (fun i j hij hj=>by
   rw [zgB hk (by omega),zgB hk (by omega),show k - (k - l)=l by omega]
   by_cases hi:i=l
   ·rw [if_pos hi]
    by_cases hjl:j=l
    ·rw [if_pos hjl];exact Int.le_refl _
    ·rw [if_neg hjl,if_pos (by omega)]
     exact Int.le_of_lt (a3 (j - 1) (by omega) (by omega))
   ·rw [if_neg hi]
    by_cases hi2:l < i/\i<=k
    ·rw [if_pos hi2,if_neg (show ¬ j=l by omega),if_pos (by omega)]
     exact hs _ _ (by omega) (by omega)
    ·rw [if_neg hi2]
     by_cases hjl:j=l
     ·rw [if_pos hjl];exact a2 i (by omega)
     ·rw [if_neg hjl]
      split
      ·exact hs _ _ (by omega) (by omega)
      ·exact hs _ _ (by omega) (by omega))
  rw [hr]
  exact ⟨b1.trans (bubble_perm _ _ _),b2.trans (bubble_size _ _ _),by rw [show k+(f+1)=k+1+f by omega];exact b3⟩
theorem zki {n:Nat} (h1:1<=n):let r:=runT (kl key) (kas_sort n);r.Perm (List.toArray (List.range n))/\r.size=n/\srt key r n:=by
 intro r
 have hr:r=runT (kl key) (kas_sort n):=rfl
 unfold kas_sort at hr
 rw [zcF] at hr
 have hsz:(List.toArray (List.range n)).size=n:=by simp
 obtain ⟨a1,a2,a3,a4,a5⟩:=ziR (key:=key) (p:=List.toArray (List.range n)) (nrem:=n) h1 (by rw [hsz];exact Nat.le_refl _)
 generalize runT (kl key) (kas_count n (List.toArray (List.range n)))=d at hr a1 a2 a3 a4 a5
 by_cases hlt:d.1 < n
 ·rw [if_pos hlt] at hr
  have hmax:max d.1 1=d.1:=by omega
  rw [hmax] at hr
  obtain ⟨b1,b2,b3⟩:=zh1 (key:=key) (n - d.1) d.2 d.1 (by omega) a3
  rw [hr]
  exact ⟨b1.trans a1,by omega,by rw [show d.1+(n - d.1)=n by omega] at b3;exact b3⟩
 ·rw [if_neg hlt] at hr
  unfold runT at hr
  rw [hr]
  exact ⟨a1,by omega,by rw [show d.1=n by omega] at a3;exact a3⟩
def Asks {α : Type} (N:Nat) (R : α -> Prop):KasT α -> Prop
 | .ret a=>R a
 | .ask i j k=>i < N/\j < N/\∀ b,Asks N R (k b)
theorem Asks.bind {α β : Type} {N:Nat} {R : α -> Prop} {S : β -> Prop} {f : α -> KasT β} (hf:∀ a,R a->Asks N S (f a)):∀ {t:KasT α},Asks N R t->Asks N S (t.bind f)
 | .ret a,h=>hf a h
 | .ask _ _ k,⟨h1,h2,h3⟩=>⟨h1,h2,fun b=>Asks.bind hf (h3 b)⟩
theorem zh2 {α : Type} {lt:Nat->Nat->Bool} {cmp:Nat->Nat->(Bool->Shared->Prop)->Shared->Prop} {s:Shared} {N:Nat} {R : α -> Prop} (hc:∀ i j C,i < N->j < N->C (lt i j) s->cmp i j C s):∀ (t:KasT α) (Q : α -> Shared->Prop),Asks N R t->Q (runT lt t) s->t.kasWp cmp Q s
 | .ret _,_,_,h=>h
 | .ask i j k,Q,⟨h1,h2,h3⟩,h=>hc i j _ h1 h2 (zh2 hc (k (lt i j)) Q (h3 _) h)
def bnd (N:Nat) (p:Array Nat):Prop:=∀ i,p.getD i 0 < N
theorem zdd {N:Nat} {p q:Array Nat} (hN:0 < N) (h:bnd N p) (e:q.Perm p):bnd N q:=fun i=>by
 rw [Array.getD_eq_getD_getElem?]
 cases z:q[i]? with
 | none=>exact hN
 | some v =>
  have hm:v ∈ q:=Array.mem_of_getElem? z
  have hm2:v ∈ p:=e.mem_iff.mp hm
  obtain ⟨j,hj,e2⟩:=Array.mem_iff_getElem.mp hm2
  have:=h j
  rw [Array.getD_eq_getD_getElem?,Array.getElem?_eq_getElem hj,e2] at this
  exact this
section
variable {N:Nat} (hN:0 < N)
include hN
theorem zfP {p:Array Nat} (h:bnd N p):∀ (f n:Nat),Asks N (fun _=>True) (kas_asc p f n)
 | 0,_=>trivial
 | f+1,n=>⟨h _,h _,fun b=>by
  cases b with
  | true=>(try dsimp only);rw [if_pos rfl];trivial
  | false=>(try dsimp only);rw [if_neg (by decide)];exact zfP h f (n+1)⟩
theorem zdI:∀ (f:Nat) (p:Array Nat) (n q:Nat),bnd N p->Asks N (fun r=>bnd N r.1) (kas_desc f p n q)
 | 0,p,_,_,h=>h
 | f+1,p,n,q,h=>⟨h _,h _,fun b=>by
  cases b with
  | true =>
   dsimp only
   rw [if_pos rfl]
   split
   ·exact zdI f _ _ _ (zdd hN h zcl)
   ·exact zdI f _ _ _ h
  | false =>
   dsimp only
   rw [if_neg (by decide)]
   refine ⟨h _,h _,fun b=>?_⟩
   cases b with
   | true=>(try dsimp only);rw [if_pos rfl];exact h
   | false=>(try dsimp only);rw [if_neg (by decide)];exact zdI f _ _ _ h⟩
theorem zfr {p:Array Nat} {n nrem:Nat} (h:bnd N p):Asks N (fun r=>bnd N r.2) (kas_tail3 n nrem p) :=
 Asks.bind (N:=N) (R:=fun _=>True) (S:=fun r:Nat × Array Nat=>bnd N r.2) (f:=fun m=>.ret (m,kas_rev p 0 n)) (fun _ _=>zdd (p:=p) (q:=kas_rev p 0 n) hN h zcl) (zfP hN (zdd hN h zcl) _ _)
theorem zdJ {p:Array Nat} {n nrem:Nat} (h:bnd N p):Asks N (fun r=>bnd N r.2) (kas_descPart n nrem p) :=
 Asks.bind (fun r hr=>by
  split
  ·exact zfr hN (zdd hN hr zcl)
  ·exact zfr hN hr) (zdI hN _ _ _ _ h)
theorem ziS {p:Array Nat} {nrem:Nat} (h:bnd N p):Asks N (fun r=>bnd N r.2) (kas_count nrem p) :=
 Asks.bind (R:=fun _=>True) (fun n _=>by
  split
  ·exact h
  ·split
   ·refine ⟨h _,h _,fun b=>?_⟩
    cases b with
    | true=>(try dsimp only);rw [if_pos rfl];exact h
    | false=>(try dsimp only);rw [if_neg (by decide)];exact zdJ hN (zdd hN h zcl)
   ·exact zdJ hN h) (zfP hN h _ _)
theorem zd5 {p:Array Nat} (h:bnd N p) (k:Nat):∀ (f l r:Nat),Asks N (fun _=>True) (kas_place p k f l r)
 | 0,_,_=>trivial
 | f+1,l,r=>by
  unfold kas_place
  split
  ·trivial
  ·refine ⟨h _,h _,fun b=>?_⟩
   cases b with
   | true=>(try dsimp only);rw [if_pos rfl];exact zd5 h k f _ _
   | false=>(try dsimp only);rw [if_neg (by decide)];exact zd5 h k f _ _
theorem zh3:∀ (f:Nat) (p:Array Nat) (k:Nat),bnd N p->Asks N (fun _=>True) (kas_bin f p k)
 | 0,_,_,_=>trivial
 | f+1,p,k,h=>Asks.bind (R:=fun _=>True) (fun l _=>zh3 f _ _ (zdd hN h (bubble_perm _ _ _))) (zd5 hN h k _ _ _)
end
theorem zkj {n:Nat} (hn:0 < n):Asks n (fun _=>True) (kas_sort n):=by
 have hb:bnd n (List.toArray (List.range n)):=fun i=>by
  rw [Array.getD_eq_getD_getElem?]
  by_cases hi:i < n
  ·simp [hi]
  ·simp [hi,hn]
 refine Asks.bind (fun r hr=>?_) (ziS hn hb)
 split
 ·exact zh3 hn _ _ _ hr
 ·trivial
end
def keyP (q:Int × Int):Int:=q.1 * 10000000+q.2
def okP (q:Int × Int):Prop:=-1000000<=q.2/\q.2<=1000000
theorem zno {x y:Int × Int} (hx:okP x) (hy:okP y):keyP x < keyP y ↔ (x.1 < y.1 ∨ x.1=y.1/\x.2 < y.2):=by
 unfold keyP okP at *
 omega
theorem zl0 {x y:Int × Int} (hx:okP x) (hy:okP y) (h:keyP x=keyP y):x=y:=by
 unfold keyP okP at *
 have h1:x.1=y.1:=by omega
 have h2:x.2=y.2:=by omega
 exact Prod.ext h1 h2
section
variable {prog:Program} {w:World} {A:Around} {E:Value->Shared->Prop} {s:Shared}
def zh4 (h:Heap) (v:Value) (q:Int × Int):Prop:=∃ a t u o n,v=.ref a/\h.get? a=some o/\o.cls=.type "tuple" /\ o.data=.seq #[.int q.1 t,.int q.2 u] n
theorem znp {x y:Value} {p q:Int × Int} {Q:Bool->Shared->Prop} (hx:zh4 s.heap x p) (hy:zh4 s.heap y q) (h:Q (decide (p.1 < q.1 ∨ p.1=q.1/\p.2 < q.2)) s):wpAny (model prog w) A (keyLt' (tuples' true) x y) Q E s:=by
 obtain ⟨a,t,u,o,n,rfl,e1,c1,d1⟩:=hx
 obtain ⟨b,t',u',o',n',rfl,e2,c2,d2⟩:=hy
 refine kat_lt e1 d1 e2 d2 ?_
 show KatLex prog w A true _ Q [(Value.int p.1 t,Value.int q.1 t'),(Value.int p.2 u,Value.int q.2 u')] 0 s
 refine kat_cons (wpAny_eqBool_int ?_)
 by_cases h1:p.1=q.1
 ·have e:(p.1 == q.1)=true:=by simpa using h1
  rw [e]
  refine kat_yes (kat_cons (wpAny_eqBool_int ?_))
  by_cases h2:p.2=q.2
  ·have e:(p.2 == q.2)=true:=by simpa using h2
   rw [e]
   refine kat_yes (kat_nil ?_)
   have:decide (p.1 < q.1 ∨ p.1=q.1/\p.2 < q.2)=false:=decide_eq_false (by omega)
   rw [this] at h
   exact h
  ·have e:(p.2 == q.2)=false:=by simpa using h2
   rw [e]
   refine kat_no (kat_one _ _ (PyProof.Rows.lt_int ?_))
   have:decide (p.1 < q.1 ∨ p.1=q.1/\p.2 < q.2)=decide (p.2 < q.2):=by
    by_cases z:p.2 < q.2
    ·rw [decide_eq_true z,decide_eq_true (.inr ⟨h1,z⟩)]
    ·rw [decide_eq_false z,decide_eq_false (by omega)]
   rw [this] at h
   exact h
 ·have e:(p.1 == q.1)=false:=by simpa using h1
  rw [e]
  refine kat_no (oneLt_int ?_)
  have:decide (p.1 < q.1 ∨ p.1=q.1/\p.2 < q.2)=decide (p.1 < q.1):=by
   by_cases z:p.1 < q.1
   ·rw [decide_eq_true z,decide_eq_true (.inl z)]
   ·rw [decide_eq_false z,decide_eq_false (by omega)]
  rw [this] at h
  exact h
def zbK (h:Heap):List Value->List (Int × Int)->Prop
 | [],[]=>True
 | v :: vs,q :: qs=>zh4 h v q/\zbK h vs qs
 | _,_=>False
theorem zbK.get {h:Heap}:∀ {vs:List Value} {qs:List (Int × Int)},zbK h vs qs->vs.length=qs.length/\∀ (i:Nat) (hi:i < vs.length),zh4 h (vs.getD i .none) (qs.getD i (0,0))
 | [],[],_=>⟨rfl,fun i hi=>absurd hi (Nat.not_lt_zero _)⟩
 | v :: vs,q :: qs,⟨h1,h2⟩=>by
  obtain ⟨e,f⟩:=zbK.get h2
  refine ⟨by simp [e],fun i hi=>?_⟩
  cases i with
  | zero=>exact h1
  | succ i=>exact f i (by simpa using hi)
theorem zbK.tups {h:Heap}:∀ {vs:List Value} {qs:List (Int × Int)},zbK h vs qs->∃ fs:List Value,KatTups h vs fs/\fs.length=vs.length/\∀ v ∈ fs,∃ i t,v=.int i t
 | [],[],_=>⟨[],trivial,rfl,fun _ h=>by cases h⟩
 | v :: vs,q :: qs,⟨hp,h2⟩=>by
  obtain ⟨a,t,u,o,n,rfl,e1,c1,d1⟩:=hp
  obtain ⟨fs,f1,f2,f3⟩:=zbK.tups h2
  refine ⟨.int q.1 t :: fs,.cons e1 c1 d1 rfl f1,by simp [f2],fun v hv=>?_⟩
  rcases List.mem_cons.mp hv with rfl | hv
  ·exact ⟨_,_,rfl⟩
  ·exact f3 v hv
theorem zbK.mono {h h':Heap} (k:∀ b o,h.get? b=some o->h'.get? b=some o):∀ {vs:List Value} {qs:List (Int × Int)},zbK h vs qs->zbK h' vs qs
 | [],[],_=>trivial
 | v :: vs,q :: qs,⟨hp,h2⟩=>by
  obtain ⟨a,t,u,o,n,rfl,e1,c1,d1⟩:=hp
  exact ⟨⟨a,t,u,o,n,rfl,k _ _ e1,c1,d1⟩,zbK.mono k h2⟩
def zl1 (qs:List (Int × Int)) (π : List Nat):Prop:=π.Perm (List.range qs.length)/\(π.map fun i=>qs.getD i (0,0)).Pairwise fun x y=>keyP x<=keyP y
theorem zeR {a:Addr} {vs:List Value} {qs:List (Int × Int)} {n:Nat} {P:Fin->Shared->Prop} (ho:s.heap.get? a=some (seqObj "list" vs.toArray n))
  (hp:zbK ((s.heap.update a (Obj.mapSeq fun _=>#[]))) vs qs) (hq:∀ q ∈ qs,okP q) (h64:vs.length < 64)
  (h:∀ π : List Nat,zl1 qs π -> P (.done (.ret .none)) { s with heap:=sortedHeap s.heap a vs (List.toArray (π.map fun i=>vs.getD i .none)) }) :
  wpAny (model prog w) A (Builtin.«list.sort» ⟨[.ref a],[]⟩) P E s:=by
 obtain ⟨hl,hget⟩:=hp.get
 rw [list_sort_plain]
 have ha:a < s.heap.objs.size:=Heap.lt_size ho
 refine wpAny_bind (listItems_at ho rfl ?_)
 refine wpAny_bind (listUpdate_at ho rfl ?_)
 obtain ⟨e1,ho1⟩:∃ e1,(s.heap.update a (Obj.mapSeq fun _=>#[])).get? a=some (seqObj "list" #[] e1):=⟨_,get?_update_seq ho (fun _=>#[])⟩
 refine wpAny_bind (seqEpoch_at ho1 rfl ?_)
 refine wpAny_bind (wpAny_newTuple ?_)
 refine wpAny_bind (wpAny_newList ?_)
 refine wpAny_holding ?_
 have ho6:(((s.heap.update a (Obj.mapSeq fun _=>#[])).push (seqObj "tuple" vs.toArray 0)).push (seqObj "list" #[] 0)).get? a=some (seqObj "list" #[] e1):=by
  rw [Heap.get?_push_ne _ _ _ (by rw [size_push',Heap.size_update];exact Nat.ne_of_lt (Nat.lt_succ_of_lt ha)),Heap.get?_push_ne _ _ _ (by rw [Heap.size_update];exact Nat.ne_of_lt ha)]
  exact ho1
 have hp6:zbK (((s.heap.update a (Obj.mapSeq fun _=>#[])).push (seqObj "tuple" vs.toArray 0)).push (seqObj "list" #[] 0)) vs qs:=hp.mono fun b o e=>Heap.get?_push_of_some _ (Heap.get?_push_of_some _ e)
 show wpAny (model prog w) A _ P E { s with heap:=((s.heap.update a (Obj.mapSeq fun _=>#[])).push (seqObj "tuple" vs.toArray 0)).push (seqObj "list" #[] 0) }
 dsimp only
 have hsz:vs.toArray.size=vs.length:=by simp
 by_cases h2:vs.toArray.size < 2
 ·rw [if_pos h2,if_pos h2]
  refine wpAny_bind (wpAny_pure ?_)
  rw [StateT.run_pure]
  refine wpAny_bind (wpAny_pure ?_)
  dsimp only
  refine wpAny_bind (seqEpoch_at ho6 rfl ?_)
  refine wpAny_bind (listUpdate_at ho6 rfl ?_ (hsz2:=by rw [Array.size_map];show (pairsOf vs).size<=_;rw [pairsOf_size,sizeLine_eq];omega))
  simp only [bne_self_eq_false,Bool.false_eq_true,if_false]
  have hid:(arrOf (SortSt.mk' general' (vs.toArray.zip vs.toArray) #[] 7 none)).map (·.2)=List.toArray ((List.range vs.length).map fun i=>vs.getD i .none):=by
   show (vs.toArray.zip vs.toArray).map (·.2)=_
   apply Array.toList_inj.mp
   apply List.ext_getElem?
   intro i
   simp only [Array.toList_map,Array.toList_zip,List.getElem?_map,List.getElem?_zip_eq_some]
   by_cases hi:i < vs.length
   ·simp [List.getElem?_zip_eq_some,hi,List.getElem?_range]
   ·simp [hi]
  rw [hid]
  refine wpAny_pure (h (List.range vs.length) ⟨by rw [hl],?_⟩)
  rw [List.pairwise_map]
  rw [hsz] at h2
  rcases (show vs.length=0 ∨ vs.length=1 by omega) with z | z <;> rw [z]
  ·exact .nil
  ·exact List.pairwise_singleton _ _
 ·rw [if_neg h2,if_neg h2]
  rw [hsz] at h2
  obtain ⟨fs,f1,f2,f3⟩:=hp6.tups
  refine wpAny_bind (kat_kind (T:=.type "int") f1 (by omega) (fun v hv=>by obtain ⟨i,t,rfl⟩:=f3 v hv;exact (show Looks _ _ (pure (Value.type "int")) _ from .now)) rfl ?_)
  refine wpAny_bind (wpAny_mono (kat_run (ks:=vs) (G:=fun p s'=>s' = { s with heap:=((s.heap.update a (Obj.mapSeq fun _=>#[])).push (seqObj "tuple" vs.toArray 0)).push (seqObj "list" #[] 0) }/\p=runT (kl fun i=>keyP (qs.getD i (0,0))) (kas_sort vs.length))
   (Q:=fun st' s'=>s' = { s with heap:=((s.heap.update a (Obj.mapSeq fun _=>#[])).push (seqObj "tuple" vs.toArray 0)).push (seqObj "list" #[] 0) }/\failedOf st'=none/\arrOf st'=(runT (kl fun i=>keyP (qs.getD i (0,0))) (kas_sort vs.length)).map (kas_item (vs.toArray.zip vs.toArray)))
   rfl (by omega) h64 (fun p st' s' a1 a2 a3 a4=>⟨a4.1,a3,by rw [a2,a4.2]⟩) ?_) ?_ fun _ _ e=>e)
  ·refine zh2 (N:=vs.length) (R:=fun _=>True) (lt:=kl fun i=>keyP (qs.getD i (0,0))) (fun i j C hi hj hC=>?_) _ _ (zkj (by omega)) ⟨rfl,rfl⟩
   refine znp (zbK.get hp6 |>.2 i hi) (zbK.get hp6 |>.2 j hj) ?_
   have oi:okP (qs.getD i (0,0)):=hq _ (by rw [List.getD_eq_getElem?_getD,List.getElem?_eq_getElem (by omega)];exact List.getElem_mem _)
   have oj:okP (qs.getD j (0,0)):=hq _ (by rw [List.getD_eq_getElem?_getD,List.getElem?_eq_getElem (by omega)];exact List.getElem_mem _)
   have e:decide ((qs.getD i (0,0)).1 < (qs.getD j (0,0)).1 ∨ (qs.getD i (0,0)).1=(qs.getD j (0,0)).1/\(qs.getD i (0,0)).2 < (qs.getD j (0,0)).2)=kl (fun i=>keyP (qs.getD i (0,0))) i j:=by
    unfold kl
    exact decide_eq_decide.mpr (zno oi oj).symm
   rw [e]
   exact hC
  ·rintro ⟨⟨⟩,st'⟩ s' ⟨rfl,hf,har⟩
   dsimp only
   obtain ⟨b1,b2,b3⟩:=zki (key:=fun i=>keyP (qs.getD i (0,0))) (n:=vs.length) (by omega)
   generalize runT (kl fun i=>keyP (qs.getD i (0,0))) (kas_sort vs.length)=p at har b1 b2 b3
   have hout:=kat_snds (ks:=vs) (vs:=vs) rfl har
   have hsz2:((arrOf st').map (·.2)).size=vs.length:=by rw [hout,List.size_toArray,List.length_map,Array.length_toList,b2]
   refine wpAny_bind (seqEpoch_at ho6 rfl ?_)
   refine wpAny_bind (listUpdate_at ho6 rfl ?_ (hsz2:=by rw [hsz2,sizeLine_eq];omega))
   rw [hf]
   simp only [bne_self_eq_false,Bool.false_eq_true,if_false]
   rw [hout]
   refine wpAny_pure (h p.toList ⟨?_,?_⟩)
   ·have:=Array.perm_iff_toList_perm.mp b1
    rw [← hl]
    exact this
   ·rw [List.pairwise_map,List.pairwise_iff_getElem]
    intro i j hi hj hij
    rw [Array.length_toList,b2] at hi hj
    have:=b3 i j (by omega) hj
    unfold KA at this
    rw [Array.getD_eq_getD_getElem?,Array.getD_eq_getD_getElem?,Array.getElem?_eq_getElem (by omega),Array.getElem?_eq_getElem (by omega)] at this
    simpa using this
end
section
variable {prog:Program} {w:World} {A:Around} {E:Value->Shared->Prop} {s:Shared}
theorem zgD {l:Addr} {vs:List Value} {qs:List (Int × Int)} {Q:Value->Shared->Prop} (hl:s.heap.IsList l vs.toArray) (hp:zbK s.heap vs qs) (hq:∀ q ∈ qs,okP q) (h64:vs.length < 64)
  (h:∀ π : List Nat,zl1 qs π -> Q (.ref (s.heap.objs.size+1)) { s with heap:=sortedAll s.heap vs (List.toArray (π.map fun i=>vs.getD i .none)) }) :
  wpAny (model prog w) A (call (.builtin "sorted") [.ref l]) Q E s:=by
 refine Calls.call_function_entry kind_sorted plain_sorted entry_sorted (args_sorted1 _) ?_
 unfold Builtin.«sorted»
 refine wpAny_bind (m:=checkCount "sorted" 1 1 _) (wpAny_pure ?_)
 refine wpAny_bind (collect_list hl ?_)
 refine wpAny_bind (wpAny_newList ?_)
 have hsz:((s.heap.push (seqObj "list" #[] 0)).update s.heap.objs.size (Obj.mapSeq (· ++ vs.toArray))).objs.size=s.heap.objs.size+1:=by
  rw [Heap.size_update,size_push']
 have hoL:(((s.heap.push (seqObj "list" #[] 0)).update s.heap.objs.size (Obj.mapSeq (· ++ vs.toArray))).push (seqObj "list" vs.toArray 0)).get? (s.heap.objs.size+1)=some (seqObj "list" vs.toArray 0):=by
  rw [← hsz];exact Heap.get?_push_size _ rfl
 show wpAny _ _ _ _ _ { s with heap:=((s.heap.push (seqObj "list" #[] 0)).update s.heap.objs.size (Obj.mapSeq (· ++ vs.toArray))).push (seqObj "list" vs.toArray 0) }
 rw [hsz]
 refine wpAny_bind (wpAny_holding (wpAny_call_entry slot_list_sort ⟨_,hoL,rfl⟩ entry_list_sort (zeR (qs:=qs) hoL (hp.mono fun b o e=>?_) hq h64 fun π a1=>⟨_,rfl,?_⟩) (args_list_sort _)))
 ·have hlt:b < s.heap.objs.size:=Heap.lt_size e
  dsimp only
  have hlt':(b:Nat) < s.heap.objs.size:=hlt
  rw [Heap.get?_update_ne _ _ _ _ (Nat.ne_of_lt (Nat.lt_succ_of_lt hlt')),Heap.get?_push_ne _ _ _ (by rw [hsz];exact Nat.ne_of_lt (Nat.lt_succ_of_lt hlt')),Heap.get?_update_ne _ _ _ _ (Nat.ne_of_lt hlt),Heap.get?_push_ne _ _ _ (Nat.ne_of_lt hlt)]
  exact e
 ·exact wpAny_pure ⟨_,rfl,h π a1⟩
end
end DL
namespace DL
open PySem PySem.Spec L2
open PyProof.Rows hiding St
section
variable {X:Cx}
theorem zh5 {pins:List (Addr × Obj)} {s:Shared} {σ : St} {H:Hp} (I:Inv X pins σ H s):∀ {as:List Addr} {us:List Value} {qs:List (Int × Int)},Vals (as.map V.ref) us->as.length=qs.length->(∀ (i:Nat) a q,as[i]?=some a->qs[i]?=some q->SqT X.K H a [.int q.1,.int q.2])->zbK s.heap us qs
 | [],_,[],.nil,_,_=>trivial
 | a :: as,_,q :: qs,.cons r t,hl,h=>by
  refine ⟨?_,zh5 I t (by simpa using hl) fun i a q h1 h2=>h (i+1) a q (by simpa using h1) (by simpa using h2)⟩
  cases r
  obtain ⟨its,rv,⟨o,e,c,n,d⟩,_⟩:=I.tuple (h 0 a q rfl rfl)
  obtain ⟨u,v,rfl,r1,r2⟩:=rv.two
  obtain ⟨t1,rfl⟩:=r1
  obtain ⟨t2,rfl⟩:=r2
  exact ⟨a,t1,t2,o,n,rfl,e,c,by simpa using d⟩
theorem zgE {as:List Addr} {us:List Value} (r:Vals (as.map V.ref) us):∀ (π : List Nat),(∀ i ∈ π,i < as.length)->Vals (π.map fun i=>V.ref (as.getD i 0)) (π.map fun i=>us.getD i .none)
 | [],_=>.nil
 | i :: π,h=>by
  refine .cons ?_ (zgE r π fun j hj=>h j (List.mem_cons_of_mem _ hj))
  have hi:=h i List.mem_cons_self
  have e:(as.map V.ref)[i]?=some (.ref (as.getD i 0)):=by rw [List.getElem?_map,List.getElem?_eq_getElem hi];simp [List.getD,List.getElem?_eq_getElem hi]
  obtain ⟨u,e2,ru⟩:=r.get e
  simp only [List.getD,e2,Option.getD_some]
  exact ru
theorem ziT:zdj X (.builtin "sorted") (fun xs H Q=>∃ l,∃ as:List Addr,∃ qs:List (Int × Int),xs=[.ref l]/\SqL X.K H l (as.map V.ref)/\as.length=qs.length/\(∀ (i:Nat) a q,as[i]?=some a->qs[i]?=some q->SqT X.K H a [.int q.1,.int q.2])/\(∀ q ∈ qs,okP q)/\qs.length < 64 /\
  ∀ π p,zl1 qs π -> H p=none->Q (.ref p) (upd H p (.lst (π.map fun i=>V.ref (as.getD i 0))))):=by
 intro pins s σ H xs us Q I rx h
 obtain ⟨l,as,qs,rfl,hq,hl,ht,ho,hb,q⟩:=h
 obtain ⟨u,rfl,ru⟩:=rx.one
 cases ru
 obtain ⟨its,rv,p,hz⟩:=I.list hq
 have hn:its.length=qs.length:=by have:=rv.length;rw [List.length_map] at this;omega
 refine zgD (qs:=qs) p.isList (zh5 I rv hl ht) ho (by omega) fun π hπ=>?_
 obtain ⟨e,he⟩:=sortedAll_at s.heap its (List.toArray (π.map fun i=>its.getD i .none))
 have hπl:∀ i ∈ π,i < as.length:=fun i hi=>by
  have:=hπ.1.mem_iff.mp hi
  rw [List.mem_range] at this
  omega
 refine ⟨.ref (s.heap.objs.size+1),_,I.laid (t':=s.toks) (fun b o=>sortedAll_old) (Nat.le_succ _) (show zcw X.prog X.w _ _ _ (.lst (π.map fun i=>V.ref (as.getD i 0))) from ⟨?_,_,e,zgE rv π hπl,he⟩),rfl,q π _ hπ (I.hok.fresh (Nat.le_succ _))⟩
 rw [List.length_map,hπ.1.length_eq,List.length_range]
 rw [List.length_map] at hz
 omega
def zh6:D->Option (Int × Int)
 | .tuple [.int a,.int b]=>some (a,b)
 | _=>none
def zcv:List D->Option (List (Int × Int))
 | []=>some []
 | d :: r=>(zh6 d).bind fun q=>(zcv r).map (q :: ·)
def duoD (q:Int × Int):D:=.tuple [.int q.1,.int q.2]
theorem zkk {d:D} {q:Int × Int} (h:zh6 d=some q):d=duoD q:=by
 unfold zh6 at h
 split at h
 ·cases h;rfl
 ·cases h
theorem zeS:∀ {ds:List D} {qs:List (Int × Int)},zcv ds=some qs->ds=qs.map duoD
 | [],qs,h=>by cases h;rfl
 | d :: r,qs,h=>by
  unfold zcv at h
  cases z:zh6 d with
  | none=>rw [z] at h;cases h
  | some q =>
   rw [z] at h
   cases z2:zcv r with
   | none=>rw [z2] at h;cases h
   | some qs'=>rw [z2] at h;cases h;rw [zkk z,zeS z2];rfl
theorem zeg:∀ qs:List (Int × Int),zcv (qs.map duoD)=some qs
 | []=>rfl
 | q :: r=>by rw [List.map_cons,zcv,zeg r];rfl
def zfQ (qs:List (Int × Int)):List (Int × Int):=qs.mergeSort fun x y=>decide (keyP x<=keyP y)
theorem zfs (qs:List (Int × Int)):(zfQ qs).Perm qs:=List.mergeSort_perm ..
theorem zgF (qs:List (Int × Int)):(zfQ qs).Pairwise fun x y=>keyP x<=keyP y:=by
 have:=List.pairwise_mergeSort (le:=fun x y:Int × Int=>decide (keyP x<=keyP y)) (by intro a b c;simp;omega) (by intro a b;simp;omega) qs
 exact this.imp (by simp)
theorem zfR:∀ {a b:List (Int × Int)},(∀ x ∈ a,okP x)->a.Perm b->a.Pairwise (fun x y=>keyP x<=keyP y)->b.Pairwise (fun x y=>keyP x<=keyP y)->a=b
 | [],b,_,p,_,_=>by rw [List.nil_perm.1 p]
 | x :: a,[],_,p,_,_=>by have:=p.length_eq;simp at this
 | x :: a,y :: b,ok,p,ha,hb=>by
  have hx:keyP y<=keyP x:=by
   rcases List.mem_cons.1 (p.mem_iff.1 (List.mem_cons_self ..)) with e | e
   ·rw [e];exact Int.le_refl _
   ·exact (List.pairwise_cons.1 hb).1 x e
  have hy:keyP x<=keyP y:=by
   rcases List.mem_cons.1 (p.mem_iff.2 (List.mem_cons_self ..)) with e | e
   ·rw [e];exact Int.le_refl _
   ·exact (List.pairwise_cons.1 ha).1 y e
  have oky:okP y:=ok y (p.mem_iff.2 (List.mem_cons_self ..))
  have e:=zl0 (ok x (List.mem_cons_self ..)) oky (Int.le_antisymm hy hx)
  subst e
  rw [zfR (fun z hz=>ok z (List.mem_cons_of_mem _ hz)) (List.Perm.cons_inv p) (List.pairwise_cons.1 ha).2 (List.pairwise_cons.1 hb).2]
theorem zl2 {qs:List (Int × Int)} {π : List Nat} (ok:∀ q ∈ qs,okP q) (h:zl1 qs π):(π.map fun i=>qs.getD i (0,0))=zfQ qs:=by
 have hp:(π.map fun i=>qs.getD i (0,0)).Perm qs:=by
  have h1:=h.1.map fun i=>qs.getD i (0,0)
  have e:(List.range qs.length).map (fun i=>qs.getD i (0,0))=qs:=by
   apply List.ext_getElem?
   intro i
   rw [List.getElem?_map]
   by_cases hi:i < qs.length
   ·rw [List.getElem?_range hi,List.getElem?_eq_getElem hi];simp [List.getD,List.getElem?_eq_getElem hi]
   ·rw [List.getElem?_eq_none (by rw [List.length_range];omega),List.getElem?_eq_none (by omega)];rfl
  rw [e] at h1
  exact h1
 exact zfR (fun x hx=>ok x (hp.mem_iff.mp hx)) (hp.trans (zfs qs).symm) h.2 (zgF qs)
def okPB (q:Int × Int):Bool:=decide (-1000000<=q.2/\q.2<=1000000)
def zgG:List D->Option D
 | [.list ds]=>(match zcv ds with
  | some qs=>if qs.length < 64/\qs.all okPB=true then some (.list ((zfQ qs).map duoD)) else none
  | none=>none)
 | _=>none
theorem ziU {xs:List D} {d:D} (h:zgG xs=some d):∃ qs:List (Int × Int),xs=[.list (qs.map duoD)]/\qs.length < 64/\(∀ q ∈ qs,okP q)/\d=.list ((zfQ qs).map duoD):=by
 unfold zgG at h
 split at h
 ·rename_i ds
  cases z:zcv ds with
  | none=>rw [z] at h;cases h
  | some qs =>
   rw [z] at h
   dsimp only at h
   split at h
   ·rename_i c
    cases h
    exact ⟨qs,by rw [zeS z],c.1,fun q hq=>(show -1000000<=q.2/\q.2<=1000000 from of_decide_eq_true (List.all_eq_true.mp c.2 q hq)),rfl⟩
   ·cases h
 ·cases h
theorem zgH {K:PySem.W.Frag} {G:Hp}:∀ {vs:List V} {qs:List (Int × Int)},Reps K G vs (qs.map duoD)->∃ as:List Addr,vs=as.map V.ref/\as.length=qs.length/\∀ (i:Nat) a q,as[i]?=some a->qs[i]?=some q->SqT K G a [.int q.1,.int q.2]
 | _,[],.nil=>⟨[],rfl,rfl,fun i a q h=>by simp at h⟩
 | _,q :: qs,.cons r t=>by
  obtain ⟨as,rfl,hl,h⟩:=zgH t
  obtain ⟨a,ws,rfl,h1,r1⟩:=r.tup_inv
  cases r1 with
  | cons ra rb =>
   obtain ⟨v,rfl,rb'⟩:=rb.one_inv
   refine ⟨a :: as,rfl,by simp [hl],fun i a' q' e1 e2=>?_⟩
   cases i with
   | zero =>
    cases e1;cases e2
    rw [ra.int_inv,rb'.int_inv] at h1
    exact h1
   | succ i=>exact h i a' q' (by simpa using e1) (by simpa using e2)
theorem zl3 {K:PySem.W.Frag} {G:Hp} {a:Addr} {q:Int × Int} (h:SqT K G a [.int q.1,.int q.2]):Rep K G (.ref a) (duoD q):=.tup h (.cons (.int _) (.cons (.int _) .nil))
theorem zgI {K:PySem.W.Frag} {G:Hp} {as:List Addr} {qs:List (Int × Int)} (hl:as.length=qs.length) (h:∀ (i:Nat) a q,as[i]?=some a->qs[i]?=some q->SqT K G a [.int q.1,.int q.2]):∀ π : List Nat,(∀ i ∈ π,i < qs.length)->Reps K G (π.map fun i=>V.ref (as.getD i 0)) ((π.map fun i=>qs.getD i (0,0)).map duoD)
 | [],_=>.nil
 | i :: π,hb=>by
  refine .cons ?_ (zgI hl h π fun j hj=>hb j (List.mem_cons_of_mem _ hj))
  have hi:=hb i List.mem_cons_self
  refine zl3 (h i _ _ ?_ ?_)
  ·rw [List.getElem?_eq_getElem (by omega)];simp [List.getD,List.getElem?_eq_getElem (show i < as.length by omega)]
  ·rw [List.getElem?_eq_getElem hi];simp [List.getD,List.getElem?_eq_getElem hi]
theorem znq:zdv X (.builtin "sorted") zgG:=by
 refine ⟨_,ziT,fun vs G H ds d Q s r e k=>?_⟩
 obtain ⟨qs,rfl,h64,ok,rfl⟩:=ziU e
 obtain ⟨v,rfl,q1⟩:=r.one_inv
 obtain ⟨l,ws,rfl,h1,r1⟩:=q1.lst_inv
 obtain ⟨as,rfl,hl,ht⟩:=zgH r1
 refine ⟨l,as,qs,rfl,s.seq h1,hl,fun i a q e1 e2=>zdu s (ht i a q e1 e2),ok,h64,fun π p hπ hp=>?_⟩
 have hb:∀ i ∈ π,i < qs.length:=fun i hi=>List.mem_range.mp (hπ.1.mem_iff.mp hi)
 have rr:=(zgI hl ht π hb).mono (zaM (s.free hp):Same G (upd G p (.lst (π.map fun i=>V.ref (as.getD i 0)))))
 rw [zl2 ok hπ] at rr
 exact k _ _ _ (Ext.new s hp) (.lst (SqL.of zaL) rr)
theorem zdv.or {f:Value} {p q:List D->Option D} (h1:zdv X f p) (h2:zdv X f q):zdv X f (fun xs=>(p xs).orElse fun _=>q xs):=by
 obtain ⟨r1,c1,k1⟩:=h1
 obtain ⟨r2,c2,k2⟩:=h2
 refine ⟨fun xs H Q=>r1 xs H Q ∨ r2 xs H Q,fun pins s σ H xs us Q I rx h=>?_,fun vs G H ds d Q s r e k=>?_⟩
 ·rcases h with h | h
  ·exact c1 pins s σ H xs us Q I rx h
  ·exact c2 pins s σ H xs us Q I rx h
 ·dsimp only at e
  cases z:p ds with
  | some d'=>rw [z] at e;cases e;exact .inl (k1 vs G H ds _ Q s r z k)
  | none=>rw [z] at e;exact .inr (k2 vs G H ds _ Q s r e k)
def zhs (xs:List D):Option D:=(zeO xs).orElse fun _=>zgG xs
theorem zmF:zdv X (.builtin "sorted") zhs:=znl.or znq
theorem zft {ns:List Int} (h:ns.length < 64):zhs [.list (ns.map .int)]=some (.list ((zb0 ns).map .int)):=by unfold zhs;rw [zj7 h];rfl
theorem zkl {qs:List (Int × Int)} (h:qs.length < 64) (ok:∀ q ∈ qs,okP q):zhs [.list (qs.map duoD)]=some (.list ((zfQ qs).map duoD)):=by
 cases qs with
 | nil =>
  have e1:zfQ []=[]:=by unfold zfQ;simp
  have e2:zb0 []=[]:=by unfold zb0;simp
  have:=zft (ns:=[]) (by decide)
  rw [e2] at this
  rw [e1];exact this
 | cons q r =>
  have e1:zeO [.list ((q :: r).map duoD)]=none:=rfl
  unfold zhs
  rw [e1,Option.orElse]
  unfold zgG
  dsimp only
  rw [zeg]
  exact if_pos ⟨h,List.all_eq_true.mpr fun q hq=>decide_eq_true (show -1000000<=q.2/\q.2<=1000000 from ok q hq)⟩
end
section
variable {X:Cx}
end
section
variable {X:Cx} {B G0:Hp} {e o a b c tg:Expr} {pos p2:Pos} {es rest:List Expr} {te to ti:TE}
end
def tDsH (K:PySem.W.Frag) (B G0:Hp) (f:M (List D)):TA:=fun σ H Q=>∃ G ρ,EOk K B G0 G H σ ρ /\ match f ρ with
 | .ok ds ρ'=>∀ vs G' H',EOk K B G0 G' H' σ ρ'->Same G G'->Reps K H' vs ds->Q vs H'
 | .bad=>False
def zc5 (ρ : DEnv) (j:Nat):Option D:=match ρ[j]? with
 | some (some (.pub d))=>some d
 | some (some (.own ds))=>some (.list ds)
 | some (some (.deep _ d))=>some d
 | _=>none
theorem EOk.tree {K:PySem.W.Frag} {B G0 G H:Hp} {σ : St} {ρ : DEnv} {j:Nat} {d:D} (k:EOk K B G0 G H σ ρ) (h:zc5 ρ j=some d):∃ v,σ[j]?=some (some v)/\Rep K H v d:=by
 unfold zc5 at h
 split at h
 ·rename_i d' e
  cases h
  obtain ⟨v,h1,h2⟩:=k.pub j _ e
  exact ⟨v,h1,h2.mono k.gh⟩
 ·rename_i ds e
  cases h
  obtain ⟨a,vs,h1,h2,h3,h4,h5⟩:=k.own j ds e
  exact ⟨.ref a,h1,.lst (SqL.of h4) (h5.mono k.gh)⟩
 ·rename_i p d' e
  cases h
  obtain ⟨ω,k1,k2⟩:=k.dp
  obtain ⟨v,fp,s,r,_⟩:=k1 j p _ e
  exact ⟨v,s,r.rep k.gh⟩
 ·cases h
def zfu (j:Nat) (g:M (List D)):M (List D):=fun ρ=>match zc5 ρ j with
 | none=>.bad
 | some _=>(zas g fun xs=>fun ρ'=>match zc5 ρ' j with
  | some d=>.ok (d :: xs) ρ'
  | none=>.bad) ρ
def ziV (n:Nat) (F:List D->Option D) (g:M (List D)):M D:=zas g fun xs=>if xs.length=n then (match F xs with
 | some d=>if flat d=true then zah d else fun _=>.bad
 | none=>fun _=>.bad) else fun _=>.bad
section
variable {X:Cx} {B G0:Hp} {e o a b c tg:Expr} {pos p2:Pos} {es rest:List Expr}
theorem znr:PA X [] (tDsH X.K B G0 mNil):=paof zex fun σ H Q ⟨G,ρ,k,a⟩=>a [] G H k (.refl _) .nil
theorem zl4 {f:M D} {g:M (List D)} (ha:PE X e (tD X.K B G0 f)) (hr:PA X es (tDsH X.K B G0 g)) (hs:starEach (e :: es) X.env=(false,eval e X.env) :: starEach es X.env:=by rfl) :
  PA X (e :: es) (tDsH X.K B G0 (zae f g)):=paof (zcL ha hr hs) fun σ H Q ⟨G,ρ,k,a⟩=>by
 refine ⟨G,ρ,k,?_⟩
 unfold zae zas at a
 cases z:f ρ with
 | bad=>rw [z] at a;exact a.elim
 | ok d ρ1 =>
 rw [z] at a
 dsimp only at a
 intro v G1 H1 k1 s1 r1
 refine ⟨G1,ρ1,k1,?_⟩
 cases z2:g ρ1 with
 | bad=>rw [z2] at a;exact a.elim
 | ok xs ρ2 =>
 rw [z2] at a
 dsimp only [zah] at a
 intro vs G2 H2 k2 s2 r2
 exact a (v :: vs) G2 H2 k2 (s1.trans s2) (.cons ((r1.mono s2).mono k2.gh) r2)
theorem zkm {j:Nat} {g:M (List D)} (ha:PE X e (tVar j)) (hr:PA X es (tDsH X.K B G0 g)) (hs:starEach (e :: es) X.env=(false,eval e X.env) :: starEach es X.env:=by rfl) :
  PA X (e :: es) (tDsH X.K B G0 (zfu j g)):=paof (zcL ha hr hs) fun σ H Q ⟨G,ρ,k,a⟩=>by
 unfold zfu at a
 cases z0:zc5 ρ j with
 | none=>rw [z0] at a;exact a.elim
 | some d0 =>
 rw [z0] at a
 obtain ⟨v,hv,_⟩:=k.tree z0
 refine ⟨v,hv,G,ρ,k,?_⟩
 dsimp only [zas] at a
 cases z2:g ρ with
 | bad=>rw [z2] at a;exact a.elim
 | ok xs ρ2 =>
 rw [z2] at a
 dsimp only at a
 intro vs G2 H2 k2 s2 r2
 cases z:zc5 ρ2 j with
 | none=>rw [z] at a;exact a.elim
 | some d =>
 rw [z] at a
 obtain ⟨v',hv',rv⟩:=k2.tree z
 rw [hv] at hv'
 cases hv'
 exact a (v :: vs) G2 H2 k2 s2 (.cons rv r2)
theorem zl5 {k n:Nat} {F:List D->Option D} {g:M (List D)} {x:Str} {p2:Pos} (d:Def X.prog X.w X.K X.mg X.base x k n F) (hr:Room k X.A) (hg:Gl X x) (ha:PA X (e :: es) (tDsH X.K B G0 g)) (hn:(e :: es).length=n:=by rfl)
  (hdb:(x == ("__debug__" : Str))=false:=by decide) (he:starEach (e :: es) X.env=(false,eval e X.env) :: starEach es X.env:=by rfl) (hpl:(backTo pos (starEach es X.env)).any (·.1)=false:=by rfl) :
  PE X (.Call (.Name x p2) (e :: es) [] pos) (tD X.K B G0 (ziV n F g)):=by
 obtain ⟨f,fd,ps,h1,h2,h3,FK⟩:=d
 refine peof (zjr FK hr hg h1 h2 h3 .nil zof ha hdb he hpl) fun σ H Q ⟨G,ρ,k,a⟩=>⟨G,ρ,k,?_⟩
 unfold ziV zas at a
 cases z:g ρ with
 | bad=>rw [z] at a;exact a.elim
 | ok ds ρ1 =>
 rw [z] at a
 dsimp only at a
 intro vs G1 H1 k1 s1 r1
 by_cases hl:ds.length=n
 ·rw [if_pos hl] at a
  cases zF:F ds with
  | none=>rw [zF] at a;exact a.elim
  | some d =>
  rw [zF] at a
  dsimp only at a
  by_cases hf:flat d=true
  ·rw [if_pos hf] at a
   refine ⟨H1,ds,d,by rw [List.append_nil,r1.length];exact hl,.refl _,by rw [List.append_nil];exact r1,zF,fun v G2 H2 ex rv=>?_⟩
   exact a v G1 H2 (k1.ext ⟨ex.h,.refl _,k1.gh.trans ex.h,fun _ _ _ n=>n⟩) s1 (rv.flat hf)
  ·rw [if_neg hf] at a;exact a.elim
 ·rw [if_neg hl] at a;exact a.elim
theorem zl6 {j:Nat} {g:M (List D)} {ρ ρ1:DEnv} {xs:List D} {d0 d:D} (h0:zc5 ρ j=some d0) (h1:g ρ = .ok xs ρ1) (h2:zc5 ρ1 j=some d):zfu j g ρ = .ok (d :: xs) ρ1:=by
 unfold zfu;rw [h0];dsimp only [zas];rw [h1];dsimp only;rw [h2]
theorem zns {n:Nat} {F:List D->Option D} {g:M (List D)} {ρ ρ1:DEnv} {xs:List D} {r:D} (h1:g ρ = .ok xs ρ1) (h2:xs.length=n) (h3:F xs=some r) (h4:flat r=true:=by rfl):ziV n F g ρ = .ok r ρ1:=by
 unfold ziV;exact zau h1 (by rw [if_pos h2,h3];dsimp only;rw [if_pos h4];rfl)
end
end DL
namespace HT
open PySem PyProof.Rows
section
open PySem.SeqAt
open PySem.AutoSeq1 (wpAny_loadPart')
open PySem.MeetsSeq PySem.MeetsSeq2 PySem.MeetsSeq3
end
section
variable {prog:Program} {w:World} {A:Around} {E:Value->Shared->Prop} {s:Shared}
end
end HT
namespace DL
open PySem PySem.Spec L2
open PyProof.Rows hiding St
section
variable {X:Cx}
end
section
variable {X:Cx}
def ziW (x y:D):Option (List D):=match x,y with
 | .list xs,.int k=>if -1000000<=k/\k<=1000000/\xs.length * k.toNat<=1000000 then some (List.replicate k.toNat xs).flatten else none
 | _,_=>none
theorem zkn {x y:D} {ds:List D} (h:ziW x y=some ds):∃ xs k,x=.list xs/\y=.int k/\(-1000000<=k/\k<=1000000/\xs.length * k.toNat<=1000000)/\ds=(List.replicate k.toNat xs).flatten:=by
 unfold ziW at h
 split at h
 ·split at h
  ·rename_i xs k c
   cases h
   exact ⟨xs,k,rfl,rfl,c,rfl⟩
  ·cases h
 ·cases h
def zko (f g:M D):M (List D):=zas f fun x=>zas g fun y=>mOpt (ziW x y)
theorem znt {f g:M D} (ha:PE X a (tD X.K B G0 f)) (hb:PE X b (tD X.K B G0 g)):PE X (.BinOp a .Mult b pos) (tL X.K B G0 (zko f g)) :=
 peof (znY zjA ha hb) fun σ H Q ⟨G,ρ,k,q⟩=>by
  refine ⟨G,ρ,k,?_⟩
  unfold zko zas at q
  cases z:f ρ with
  | bad=>rw [z] at q;exact q.elim
  | ok x ρ1 =>
   rw [z] at q
   dsimp only at q
   intro v G1 H1 k1 s1 r1
   refine ⟨G1,ρ1,k1,?_⟩
   cases z2:g ρ1 with
   | bad=>rw [z2] at q;exact q.elim
   | ok y ρ2 =>
    rw [z2] at q
    dsimp only [mOpt] at q
    intro u G2 H2 k2 s2 r2
    cases z3:ziW x y with
    | none=>rw [z3] at q;exact q.elim
    | some ds =>
     rw [z3] at q
     obtain ⟨xs,i,rfl,rfl,c,rfl⟩:=zkn z3
     obtain ⟨l,vs,rfl,h1,w⟩:=r1.lst_inv
     exact ⟨l,i,vs,rfl,r2.int_inv,k2.gh.seq (s2.seq h1),by omega,by omega,by rw [w.length];exact Nat.le_trans c.2.2 lim,fun p hp=>q p _ G2 _ (k2.ext (Ext.hid k2.gh hp)) (s1.trans s2) (NewL.of k2 hp ((w.mono s2).rep _))⟩
theorem znu {f g:M D} {ρ ρ1 ρ2:DEnv} {x:D} {n:Nat} (h1:f ρ = .ok (.list [x]) ρ1) (h2:g ρ1=.ok (.int n) ρ2) (h:n<=1000):zko f g ρ = .ok (List.replicate n x) ρ2:=by
 unfold zko zas
 rw [h1]
 dsimp only
 rw [h2]
 dsimp only [mOpt]
 have e:ziW (.list [x]) (.int n)=some (List.replicate n x):=by
  unfold ziW
  dsimp only
  rw [if_pos ⟨by omega,by omega,by show 1 * _<=_;omega⟩]
  congr 1
  rw [Int.toNat_natCast]
  clear h2 h
  induction n with
  | zero=>rfl
  | succ n ih=>rw [List.replicate_succ,List.flatten_cons,ih,List.replicate_succ];rfl
 rw [e]
end
end DL
namespace DL
open PySem
theorem lz0 {P:List Value->Prop} {us:List Value} (hl:us.length=0) (h:P []):P us:=by
 cases us with
 | nil=>exact h
 | cons a r=>cases hl
theorem lzS {P:List Value->Prop} {us:List Value} {n:Nat} (hl:us.length=n+1) (h:∀ a r,r.length=n->P (a :: r)):P us:=by
 cases us with
 | nil=>cases hl
 | cons a r=>exact h a r (Nat.succ.inj hl)
theorem lz1 {P:List Value->Prop} {us:List Value} (hl:us.length=1) (h:∀ a,P [a]):P us:=lzS hl fun a r e=>lz0 (P:=fun r=>P (a :: r)) e (h a)
theorem lz2 {P:List Value->Prop} {us:List Value} (hl:us.length=2) (h:∀ a b,P [a,b]):P us:=lzS hl fun a r e=>lz1 (P:=fun r=>P (a :: r)) e (h a)
theorem lz3 {P:List Value->Prop} {us:List Value} (hl:us.length=3) (h:∀ a b c,P [a,b,c]):P us:=lzS hl fun a r e=>lz2 (P:=fun r=>P (a :: r)) e (h a)
theorem lz4 {P:List Value->Prop} {us:List Value} (hl:us.length=4) (h:∀ a b c d,P [a,b,c,d]):P us:=lzS hl fun a r e=>lz3 (P:=fun r=>P (a :: r)) e (h a)
theorem lz5 {P:List Value->Prop} {us:List Value} (hl:us.length=5) (h:∀ a b c d e,P [a,b,c,d,e]):P us:=lzS hl fun a r e=>lz4 (P:=fun r=>P (a :: r)) e (h a)
theorem bz1 {fd:FuncData} {ps:List Str} {us:List Value} (hl:us.length=1) (h:∀ a,bindArgs fd { pos:=[a] }=pure (ps.zip [a])):bindArgs fd { pos:=us }=pure (ps.zip us):=lz1 (P:=fun us=>bindArgs fd { pos:=us }=pure (ps.zip us)) hl h
theorem bz2 {fd:FuncData} {ps:List Str} {us:List Value} (hl:us.length=2) (h:∀ a b,bindArgs fd { pos:=[a,b] }=pure (ps.zip [a,b])):bindArgs fd { pos:=us }=pure (ps.zip us):=lz2 (P:=fun us=>bindArgs fd { pos:=us }=pure (ps.zip us)) hl h
theorem bz3 {fd:FuncData} {ps:List Str} {us:List Value} (hl:us.length=3) (h:∀ a b c,bindArgs fd { pos:=[a,b,c] }=pure (ps.zip [a,b,c])):bindArgs fd { pos:=us }=pure (ps.zip us):=lz3 (P:=fun us=>bindArgs fd { pos:=us }=pure (ps.zip us)) hl h
theorem bz4 {fd:FuncData} {ps:List Str} {us:List Value} (hl:us.length=4) (h:∀ a b c d,bindArgs fd { pos:=[a,b,c,d] }=pure (ps.zip [a,b,c,d])):bindArgs fd { pos:=us }=pure (ps.zip us):=lz4 (P:=fun us=>bindArgs fd { pos:=us }=pure (ps.zip us)) hl h
theorem bz5 {fd:FuncData} {ps:List Str} {us:List Value} (hl:us.length=5) (h:∀ a b c d e,bindArgs fd { pos:=[a,b,c,d,e] }=pure (ps.zip [a,b,c,d,e])):bindArgs fd { pos:=us }=pure (ps.zip us):=lz5 (P:=fun us=>bindArgs fd { pos:=us }=pure (ps.zip us)) hl h
end DL
namespace DL
open PySem PySem.Spec L2
open PyProof.Rows hiding St
def whole (h:Heap):PySem.W.Frag:=(List.range h.objs.size).filterMap fun a=>(h.get? a).map fun o=>(a,o)
theorem zgJ {g:Addr->Option Obj} {x:Addr}:∀ l:List Addr,(l.filterMap fun a=>(g a).map fun o=>(a,o)).lookup x=if x ∈ l then g x else none
 | []=>rfl
 | y :: l=>by
  have ih:=zgJ (g:=g) (x:=x) l
  by_cases e:x=y
  ·subst e
   rw [if_pos List.mem_cons_self]
   cases z:g x with
   | none=>rw [List.filterMap_cons_none (by rw [z];rfl),ih,z];split <;> rfl
   | some o=>rw [List.filterMap_cons_some (by rw [z];rfl),List.lookup_cons,beq_self_eq_true]
  ·have m:(x ∈ y :: l)=(x ∈ l):=by simp [List.mem_cons,e]
   have b:(x == y)=false:=by simpa using e
   have ih':(if x ∈ y :: l then g x else none)=_:=(by simp only [m];exact ih.symm)
   rw [ih']
   cases z:g y with
   | none=>rw [List.filterMap_cons_none (by rw [z];rfl)]
   | some o=>rw [List.filterMap_cons_some (by rw [z];rfl),List.lookup_cons,b]
theorem zdK {h:Heap} {a:Addr}:(whole h).lookup a=h.get? a:=by
 unfold whole
 rw [zgJ]
 split
 ·rfl
 ·rename_i n
  cases z:h.get? a with
  | none=>rfl
  | some o=>exact absurd (List.mem_range.mpr (Heap.lt_size z)) n
theorem zl7 (h:Heap):(whole h).In h:=fun a o e=>by rw [zdK] at e;exact e
def zpC (st:Stmt):Option DefRec:=match st with
 | .FunctionDef name a b _ _ _ sc _ _ pos=>some ⟨name,a,b,sc,pos⟩
 | _=>none
def zkp (st:Stmt):Option Str:=match st with
 | .FunctionDef name _ _ _ _ _ _ _ _ _=>some name
 | _=>none
def zpD (st:Stmt):Pos:=match st with
 | .FunctionDef _ _ _ _ _ _ _ _ _ pos=>pos
 | _=>⟨0,0,0,0⟩
abbrev stAt (p:Program) (i:Nat):Stmt:=p.main.body.getD i (.Pass ⟨0,0,0,0⟩)
def zgK (p:Program) (ix:List Nat):List DefRec:=ix.filterMap fun i=>zpC (stAt p i)
section
variable {p q:Program} {loose:List Str} {mean:ExcName->Option Value} {mg mb:Str->Option Value} {h:Heap} {w:World}
theorem zmG {ix:List Nat} (T:Top q loose mean mg mb h) (e:recsOf q=zgK p ix) (i:Nat) (x:Str) (hi:ix.contains i=true) (hn:zkp (stAt p i)=some x):∃ f fd,mg x=some (.ref f)/\Fun (whole h) x x (stAt p i) f fd:=by
 cases hs:stAt p i with
 | FunctionDef name a b _ _ _ sc _ _ pos =>
  rw [hs] at hn
  cases hn
  have hd:(⟨x,a,b,sc,pos⟩:DefRec) ∈ recsOf q:=by
   rw [e]
   exact List.mem_filterMap.mpr ⟨i,by simpa using hi,by rw [hs];rfl⟩
  obtain ⟨f,⟨oc,od,dt,osl⟩,pm,cd,doc,h1,h2,h3,h4⟩:=T.fn _ hd
  have h3:dt=_:=h3
  subst h3
  refine ⟨f,_,h1,⟨⟨oc,od,.none,doc,pm,_,cd,_,osl,rfl,by rw [zdK];exact h2,?_⟩,?_⟩⟩
  ·obtain ⟨c,⟨_,_,dc,_⟩,vs,t,rfl,g1,g2,g3⟩:=h4
   have g2:dc=_:=g2
   subst g2
   unfold PySem.W.codeIn
   dsimp only
   rw [zdK,g1]
   dsimp only
   have g4:vs.toList[1]?=some (.str x t):=by rw [Array.getElem?_toList];exact g3
   cases hv:vs.toList with
   | nil=>rw [hv] at g4;cases g4
   | cons v0 r =>
    rw [hv] at g4
    cases r with
    | nil=>cases g4
    | cons v1 r=>cases g4;exact beq_self_eq_true _
  ·unfold PySem.W.keepIn
   dsimp only
   rw [zdK,h2]
 | _=>rw [hs] at hn;cases hn
theorem zkq {K:PySem.W.Frag} {x qual y:Str} {st:Stmt} {f:Addr} {fd:FuncData} (F:Fun K x qual st f fd)
  (hb:∀ (kV doc pm:Value) (an:Option Addr) (cdv ct v:Value),bindArgs (PySem.W.fnOf x qual (zdX st) (zcW st) (zal st) .none kV doc pm an cdv ct) ⟨[v],[]⟩=pure [(y,v)]) (s:Shared) (v:Value):BindsTo s fd ⟨[v],[]⟩ [(y,v)]:=by
 obtain ⟨oc,od,kV,doc,pm,an,cdv,ct,osl,rfl,lk,hcd⟩:=F.ex
 exact .of_eq (hb kV doc pm an cdv ct v)
def zl8 (q:Program) (loose:List Str) (x:Str):Bool :=
 !startupNames.contains x && !loose.contains x && !((recsOf q).map (·.name)).contains x && !((litsOf q).map (·.1)).contains x && !((clssOf q loose).map (·.name)).contains x
theorem zb5 (T:Top q loose mean mg mb h) {xs:List Str} (e:xs.all (zl8 q loose)=true) {x:Str} (hx:x ∈ xs):mg x=none:=by
 have:=List.all_eq_true.mp e x hx
 unfold zl8 at this
 simp only [Bool.and_eq_true,Bool.not_eq_true',List.contains_eq_mem,decide_eq_false_iff_not] at this
 exact T.free x this.1.1.1.1 this.1.1.1.2 this.1.1.2 this.1.2 this.2
theorem zdL (T:Top q loose mean mg mb h) {x:Str} {i:Int} (e:valOf q x=some (.int i)):∃ t,mg x=some (.int i t):=by
 obtain ⟨v,h1,h2⟩:=T.const x _ e
 have:=h2 h
 cases this
 exact ⟨_,h1⟩
end
def scOk (sc:Scope) (N gl:List Str):Bool:=(N.all fun x=>match sc.names.lookup x with | some .local=>true | some .cell=>true | _=>false) && gl.all fun x=>match sc.names.lookup x with | some .globalImplicit=>true | _=>false
def fnB (sc:Scope) (N gl:List Str):Bool:=decide (sc.kind=.function) && !sc.isCoroutine && !sc.isGenerator && decide N.Nodup && (sc.names.all fun y=>match y.2 with | .free=>false | _=>true) && scOk sc N gl
structure FnNm (sc:Scope) (N gl:List Str):Prop where
 kind:sc.kind=.function
 co:sc.isCoroutine=false
 gen:sc.isGenerator=false
 nd:N.Nodup
 nofree:∀ y ∈ sc.names,y.2 ≠ .free
 nm:∀ x ∈ N,sc.names.lookup x=some .local ∨ sc.names.lookup x=some .cell
 gl:∀ x ∈ gl,sc.names.lookup x=some .globalImplicit
theorem zaV {sc:Scope} {N gl:List Str} (H:fnB sc N gl=true):FnNm sc N gl:=by
 unfold fnB scOk at H
 simp only [Bool.and_eq_true,decide_eq_true_eq,Bool.not_eq_true',List.all_eq_true] at H
 obtain ⟨⟨⟨⟨⟨h1,h2⟩,h3⟩,h4⟩,h5⟩,h6,h7⟩:=H
 refine ⟨h1,h2,h3,h4,fun y hy e=>?_,fun x hx=>?_,fun x hx=>?_⟩
 ·have:=h5 y hy;rw [e] at this;cases this
 ·have:=h6 x hx
  split at this
  ·rename_i e;exact .inl e
  ·rename_i e;exact .inr e
  ·cases this
 ·have:=h7 x hx
  split at this
  ·rename_i e;exact e
  ·cases this
section
variable {sc:Scope} {N gl:List Str} {x:Str}
theorem nq (H:FnNm sc N gl):N.Nodup:=H.nd
theorem fq (H:FnNm sc N gl) (n:Nat):zey N (N.take n) sc:=⟨H.kind,H.co,H.gen,H.nd,by rw [List.length_take,List.take_eq_take_iff];omega,fun x hx=>H.nm x (List.mem_of_mem_take hx),H.nofree⟩
theorem lq (H:FnNm sc N gl) (i:Nat) (h:N[i]?=some x:=by rfl):L2.Loc sc x:=H.nm x (List.mem_of_getElem? h)
theorem gq (H:FnNm sc N gl) (i:Nat) (h:gl[i]?=some x:=by rfl):sc.names.lookup x=some .globalImplicit:=H.gl x (List.mem_of_getElem? h)
theorem pq {X:Cx} {pos:Pos} (H:FnNm X.env.scope X.N gl) (i:Nat) (h:X.N[i]?=some x:=by rfl) (hd:(x == ("__debug__" : Str))=false:=by decide) (hc:(x == ("__classdict__" : Str))=false:=by decide):PE X (.Name x pos) (tVar i) :=
 zmq h ((H.nm x (List.mem_of_getElem? h)).elim .inl fun z=>.inr (.inl z)) hd hc
end
theorem zbm {q p:Program} {loose:List Str} {mean:ExcName->Option Value} {mg mb:Str->Option Value} {h:Heap} {ix:List Nat} (P:Program) (w:World) (base:Heap) {ps:List Str} {k n:Nat} {F:List D->Option D} (T:Top q loose mean mg mb h) (e:recsOf q=zgK p ix) (i:Nat) (x:Str) (hi:ix.contains i=true) (hn:zkp (stAt p i)=some x)
  (ok:∀ {f:Addr} {fd:FuncData},Fun (whole h) x x (stAt p i) f fd->FnOk P w (whole h) mg base CX0 k f fd ps (spD (whole h) n F))
  (hb:∀ (kV doc pm:Value) (an:Option Addr) (cdv ct:Value) (us:List Value),us.length=ps.length->bindArgs (PySem.W.fnOf x x (zdX (stAt p i)) (zcW (stAt p i)) (zal (stAt p i)) .none kV doc pm an cdv ct) ⟨us,[]⟩=pure (ps.zip us)):Def P w (whole h) mg base x k n F:=by
 obtain ⟨f,fd,m,FU⟩:=zmG T e i x hi hn
 exact Def.mk m FU (FU.binds hb) (ok FU)
section
variable {X:Cx} {B G0:Hp} {e:Expr} {pos:Pos} {es:List Expr}
theorem pdf {k kk n:Nat} {F:List D->Option D} {g:M (List D)} {x:Str} {p2:Pos} (d:Def X.prog X.w X.K X.mg X.base x k n F) (hr:Room kk X.A) (hg:Gl X x) (ha:PA X (e :: es) (tDs X.K B G0 g)) (hk:k<=kk:=by decide) (hn:(e :: es).length=n:=by rfl)
  (hdb:(x == ("__debug__" : Str))=false:=by decide) (he:starEach (e :: es) X.env=(false,eval e X.env) :: starEach es X.env:=by rfl) (hpl:(backTo pos (starEach es X.env)).any (·.1)=false:=by rfl) :
  PE X (.Call (.Name x p2) (e :: es) [] pos) (tD X.K B G0 (dFun n F g)):=znf d (hr.mono hk) hg ha hn hdb he hpl
end
theorem zpE {q p:Program} {loose:List Str} {mean:ExcName->Option Value} {mg mb:Str->Option Value} {h:Heap} {ix:List Nat} {P:Program} {w:World} {k:Nat} {F:List D->Option D} {y:Str} {fa:Addr} (T:Top q loose mean mg mb h) (e:recsOf q=zgK p ix) (i:Nat) (x:Str) (hi:ix.contains i=true) (hn:zkp (stAt p i)=some x) (hfa:mg x=some (.ref fa))
  (hb:∀ (kV doc pm:Value) (an:Option Addr) (cdv ct v:Value),bindArgs (PySem.W.fnOf x x (zdX (stAt p i)) (zcW (stAt p i)) (zal (stAt p i)) .none kV doc pm an cdv ct) ⟨[v],[]⟩=pure [(y,v)])
  (ok:∀ (base:Heap) {f:Addr} {fd:FuncData},Fun (whole h) x x (stAt p i) f fd->FnOk P w (whole h) mg base CX0 k f fd [y] (spD (whole h) 1 F)) :
  ∃ fd:FuncData,(∀ (s:Shared) (v:Value),BindsTo s fd ⟨[v],[]⟩ [(y,v)])/\∀ base:Heap,FnOk P w (whole h) mg base CX0 k fa fd [y] (spD (whole h) 1 F):=by
 obtain ⟨f,fd,m,FU⟩:=zmG T e i x hi hn
 cases hfa.symm.trans m
 exact ⟨fd,zkq FU hb,fun base=>ok base FU⟩
theorem zl9 {l:PySem.W.OpenLaw} {n k:Nat} {q:Program} {loose:List Str} {XP:(Str->Option Value)->Heap->Prop} {YP:World->Heap->Prop} {d:DefRec} {F:List D->Option D} {x:Str}
  (hn:l.most=some n) (hn2:n<=sizeLine) (hdf:d.params.defaults=[]) (hr:Room k callerA)
  (hF:∀ (w:World) (s₀ : Shared) (mg mb:Str->Option Value) (fa:Addr) (h:Heap),PySem.W.Ground q loose [] XP w s₀ mg mb h->mg d.name=some (.ref fa) ->
   ∃ fd:FuncData,(∀ (s:Shared) (u:Value),BindsTo s fd ⟨[u],[]⟩ [(x,u)])/\∀ base:Heap,FnOk l.prog w (whole h) mg base CX0 k fa fd [x] (spD (whole h) 1 F))
  (hl:∀ ns:List Int,ns.length<=n->F [.list (ns.map PyData.int)]=some (.bool true)) :
  PySem.W.WalkO q loose XP YP l.row.toRowW d [] (fun f vs=>PySem.call f vs):=by
 refine Att.attach_call hn hdf fun w s₀ s₁ mg mb fa o pm cd doc a vs ns G Y ho hd hcd hmg hobj hints hlen hg=>?_
 obtain ⟨fd,hb,hF⟩:=hF w s₀ mg mb fa _ G hmg
 exact zlv (zl7 _) G.T.g G.T.b G.T.builtins G.T.nolimit hg hobj hints (Nat.le_trans hlen hn2) hr (fun base _ _=>hF base) hb (fun H hO hS=>zot hS (hl ns hlen)) fun H e s' z=>z
section
variable {K:PySem.W.Frag} {G H H':Hp} {nm:Str} {C a:Addr} {bm:List Value} {vs:List V} {ds fs:List D} {dd:Option Addr}
end
section
variable {X:Cx} {B G0:Hp} {KX:XW} {e a b c:Expr} {pos p2 cpos:Pos} {es:List Expr} {st:Stmt} {sts:List Stmt} {nm x:Str} {k kk n:Nat}
end
section
variable {K:PySem.W.Frag} {B G0 G H:Hp} {σ : St} {ρ : DEnv}
end
section
variable {X:Cx} {B G0:Hp} {KX:XW} {e a b c:Expr} {pos p2 cpos np hpos:Pos} {es:List Expr} {x n:Str} {k kk:Nat}
end
section
variable {P:Program} {w:World} {K:PySem.W.Frag} {mg:Str->Option Value} {base:Heap} {st:Stmt} {f f0 D:Addr} {fd fd0:FuncData} {q:Str} {p1 p2 p3 p4 p5 p6 p7 p8 p9 r1 r2 r3 r4 r5 r6 r7 r8 r9 q1 q2:Pos} {j1 j2:Nat}
end
section
variable {h h':Heap} {nm:Str} {own:Option Stmt} {C N:Addr} {bm:List Value} {mN:Str->Option Value}
end
section
variable {h h':Heap} {nm:Str} {own ownD:Option Stmt} {C N D ND:Addr} {bm:List Value} {mN mD:Str->Option Value} {M:Model}
end
section
variable {h:Heap} {mg:Str->Option Value} {p:Program} {l:XL0} {i j:Nat} {c:Str × Option Nat} {p1 p2 p3 p4 p5 p6 p7 p8 p9 r1 r2 r3 r4 r5 r6 r7 r8 r9 q1 q2:Pos} {j1 j2:Nat}
end
section
variable {α β : Type} {ρ ρ1 ρ2 ρ3 ρ':DEnv} {f:M D} {s t:SM} {Q:Out->Prop} {d:D} {ds fs:List D} {nm x:Str} {o:Out}
end
section
variable {X:Cx} {B G0:Hp} {KX:XW} {e o a b c:Expr} {pos p2:Pos} {es rest:List Expr}
end
end DL
namespace L2
open PySem PySem.Spec PyProof.Rows
end L2
namespace DL
open PySem PySem.Spec L2
open PyProof.Rows hiding St
section
variable {K:PySem.W.Frag} {B G0 G H:Hp} {σ : St} {ρ : DEnv}
end
section
variable {X:Cx} {B G0:Hp} {KX:XW} {e o a b c:Expr} {pos p2:Pos} {es rest:List Expr}
end
section
variable {X:Cx} {B G0:Hp} {KX:XW} {e o a b c:Expr} {pos p2 cpos:Pos} {es rest:List Expr}
end
section
variable {X:Cx}
end
end DL
namespace DL
open PySem PySem.Spec L2 PySem.SeqAt PySem.AutoSeq1
open PyProof.Rows hiding St
section
variable {X:Cx} {pins:List (Addr × Obj)} {s:Shared} {σ : L2.St} {G H:Hp} {A:Around}
end
section
variable {X:Cx} {pins:List (Addr × Obj)} {s:Shared} {σ : L2.St} {G H:Hp} {A:Around}
end
end DL
namespace DL
open PySem PySem.Spec L2
open PyProof.Rows hiding St
section
variable {X:Cx} {pins:List (Addr × Obj)} {s:Shared} {σ : L2.St} {G H:Hp}
end
section
variable {X:Cx}
end
section
variable {X:Cx} {B G0:Hp} {KX:XW} {e:Expr} {pos cpos:Pos} {sts sts2:List Stmt}
end
end DL
namespace L2
open PySem PySem.Spec PyProof.Rows
section
variable {prog:Program} {w:World} {A:Around} {E:Value->Shared->Prop} {s:Shared} {d it:Addr} {o:Obj} {es:Array DictEntry} {ep i:Nat}
end
section
variable {X:Cx} {tg:Expr}
end
end L2
namespace DL
open PySem PySem.Spec L2
open PyProof.Rows hiding St
section
variable {K:PySem.W.Frag} {B G0 G H:Hp} {σ : St} {ρ : DEnv}
end
section
variable {X:Cx} {B G0:Hp} {KX:XW} {e a b c tg:Expr} {pos:Pos}
end
section
variable {X:Cx} {B G0:Hp} {KX:XW} {e a b c tg iter:Expr} {pos:Pos}
end
section
variable {X:Cx}
end
end DL
namespace L2
open PySem PySem.Spec PyProof.Rows
end L2
namespace DL
open PySem PySem.Spec L2
open PyProof.Rows hiding St
section
variable {X:Cx} {B G0:Hp} {KX:XW} {e1 e2 e3:Expr} {pos:Pos}
end
section
variable {X:Cx} {B G0:Hp} {e:Expr} {pos:Pos} {es:List Expr} {st:Stmt} {sts:List Stmt}
end
section
variable {prog:Program} {w:World} {A:Around} {E:Value->Shared->Prop} {s:Shared}
end
end DL
namespace L2
open PySem PySem.Spec PyProof.Rows
section
variable {X:Cx}
end
end L2
namespace DL
open PySem PySem.Spec L2
open PyProof.Rows hiding St
section
variable {X:Cx} {B G0:Hp} {e a b c tg:Expr} {pos:Pos} {es rest:List Expr}
end
theorem EOk.lent {K:PySem.W.Frag} {B G0 G H:Hp} {σ : St} {ρ : DEnv} (k:EOk K B G0 G H σ ρ):EOk K H H H H σ (zb7 ρ) where
 bh:=.refl _
 gh:=.refl _
 g0:=.refl _
 np:=fun _ _ e n=>by rw [n] at e;cases e
 len:=by unfold zb7;rw [List.length_map];exact k.len
 pub:=fun i d e=>by
  rcases zgp e with e2 | ⟨ds,rfl,e2⟩ | ⟨p,e2⟩
  ·exact k.tree (by unfold zc5;rw [e2])
  ·exact k.tree (by unfold zc5;rw [e2])
  ·exact k.tree (by unfold zc5;rw [e2])
 own:=fun i ds e=>(zcB e).elim
 sep:=fun i j a ds es e=>(zcB e).elim
 dp:=.of (fun _ _ _ q=>zfj q) fun _ _ q=>zcB q
section
variable {X:Cx} {B G0:Hp} {KX:XW} {e a b c tg iter:Expr} {pos:Pos}
end
end DL
namespace L2
open PySem PySem.Spec PyProof.Rows
section
variable {X:Cx}
end
end L2
namespace DL
open PySem PySem.Spec L2
open PyProof.Rows hiding St
section
variable {X:Cx} {B G0:Hp} {e a b c tg:Expr} {pos:Pos} {es rest:List Expr}
end
section
variable {prog:Program} {w:World} {A:Around} {E:Value->Shared->Prop} {s:Shared}
end
section
variable {X:Cx} {B G0:Hp} {e a b c:Expr} {pos p2 p3:Pos}
end
section
variable {X:Cx} {B G0:Hp} {KX:XW} {e o a b c tg i:Expr} {pos p2:Pos} {es rest:List Expr} {te to ti:TE}
end
section
variable {prog:Program} {w:World} {A:Around} {E:Value->Shared->Prop} {s:Shared}
end
section
variable {prog:Program} {w:World} {A:Around} {E:Value->Shared->Prop}
variable {K:Type} [DecidableEq K] {knd:KeyKind prog w K}
end
section
variable {prog:Program} {w:World} {A:Around} {E:Value->Shared->Prop} {h:Heap} {g:Array GenState} {d:Drawn} {t:Nat} {os:OsState} {a:Addr} {o:Obj}
end
section
variable {prog:Program} {w:World} {A:Around} {E:Value->Shared->Prop}
variable {K:Type} [DecidableEq K] {knd:KeyKind prog w K}
end
end DL
namespace L2
open PySem PySem.Spec PyProof.Rows
section
variable {X:Cx}
end
end L2
namespace DL
open PySem PySem.Spec L2
open PyProof.Rows hiding St
section
variable {X:Cx} {B G0:Hp} {a:Expr} {p p2 p3 pos:Pos}
end
section
variable {K:PySem.W.Frag} {B G0 G H:Hp} {σ : St} {ρ : DEnv}
end
section
variable {X:Cx} {B G0:Hp} {KX:XW} {e o a b c:Expr} {pos:Pos} {es:List Expr} {st:Stmt} {sts:List Stmt} {pt:Pat}
end
section
variable {K:PySem.W.Frag} {B G0 G H:Hp} {σ : St} {ρ : DEnv}
end
section
variable {X:Cx} {B G0:Hp} {KX:XW} {e o a b c:Expr} {pos:Pos} {es:List Expr}
end
section
variable {X:Cx} {B G0:Hp} {KX:XW} {e o a b c:Expr} {pos:Pos} {es:List Expr}
end
def isT:Option HO->Bool
 | some (.tup _)=>true
 | some (.frz _ (.tup _))=>true
 | _=>false
theorem zoK {u:MO}:isT (some u.ho)=false:=by cases u <;> rfl
def pubG (fp:List Addr) (G H:Hp):Hp:=fun b=>if b ∈ fp ∨ isT (H b)=true then H b else G b
section
variable {K:PySem.W.Frag} {B G0 G H:Hp} {fp:List Addr}
theorem zkr (gh:Same G H):Same G (pubG fp G H):=fun b o e=>by
 unfold pubG
 split
 ·exact gh b o e
 ·exact e
theorem znv (gh:Same G H):Same (pubG fp G H) H:=fun b o e=>by
 unfold pubG at e
 split at e
 ·exact e
 ·exact gh b o e
theorem zks {b:Addr} (h:b ∈ fp ∨ isT (H b)=true):pubG fp G H b=H b:=by unfold pubG;rw [if_pos h]
theorem zkt {b:Addr} (h:b ∉ fp) (h2:isT (H b)=false):pubG fp G H b=G b:=by
 unfold pubG
 rw [if_neg]
 rintro (z | z)
 ·exact h z
 ·rw [h2] at z;cases z
theorem Ext.pubT {G' H':Hp} (ex:Ext G H G' H') (fr:∀ a ∈ fp,H a=none):Ext G H (pubG fp G' H') H' :=
 ⟨ex.h,ex.g.trans (zkr ex.gh),znv ex.gh,fun a u e n=>by
  rw [zkt (fun m=>by rw [fr a m] at e;cases e) (by rw [ex.h a _ e];exact zoK)]
  exact ex.np a u e n⟩
def nl0:D->Bool
 | .tuple ds=>ds.all flat
 | d=>flat d
theorem Rep.nl {G' G2 H':Hp} {v:V} {d:D} (r:Rep K G' v d) (h:nl0 d=true) (gh:Same G' H'):Rep K (pubG fp G2 H') v d:=by
 cases r with
 | tup hs rr =>
  refine .tup ?_ (rr.flat h)
  rcases hs with (hs | ⟨o,hs⟩) | hs
  ·have:=gh _ _ hs
   exact .inl (.inl ((zks (.inr (by rw [this];rfl))).trans this))
  ·have:=gh _ _ hs
   exact .inl (.inr ⟨o,(zks (.inr (by rw [this];rfl))).trans this⟩)
  ·exact .inr hs
 | non=>exact .non
 | bl b=>exact .bl b
 | int i=>exact .int i
 | str x=>exact .str x
 | lst _ _=>cases h
 | dic _=>cases h
 | exc _ _ _ _=>cases h
 | dct _ _ _ _ _=>cases h
 | dtt _ _ _ _=>cases h
theorem Reps.nl {G' G2 H':Hp} (gh:Same G' H'):∀ {vs:List V} {ds:List D},Reps K G' vs ds->ds.all nl0=true->Reps K (pubG fp G2 H') vs ds
 | _,_,.nil,_=>.nil
 | _,_,.cons r t,h=>by
  rw [List.all_cons,Bool.and_eq_true] at h
  exact .cons (r.nl h.1 gh) (Reps.nl gh t h.2)
end
def zdn (f:M (List D)):M (List D):=fun ρ=>match f (zb7 ρ) with
 | .ok ds _=>if ds.all nl0=true then .ok ds ρ else .bad
 | .bad=>.bad
section
variable {X:Cx} {B G0:Hp} {KX:XW} {e o a b c:Expr} {pos:Pos} {es:List Expr} {pt:Pat}
end
section
variable {ρ ρ1 ρ2 ρ':DEnv} {pt:Pat}
theorem zma {f:M (List D)} {ds:List D} (h:f (zb7 ρ)=.ok ds ρ') (hf:ds.all nl0=true):zdn f ρ = .ok ds ρ:=by unfold zdn;rw [h];dsimp only;rw [if_pos hf]
end
section
variable {X:Cx} {B G0:Hp} {e:Expr}
end
section
variable {X:Cx} {B G0:Hp} {e o a b c:Expr} {pos:Pos} {es:List Expr}
end
section
variable {X:Cx} {B G0:Hp} {KX:XW} {e1 e2 e3 a b:Expr} {pos:Pos} {es:List Expr}
end
section
variable {K:PySem.W.Frag} {B G0 G H:Hp} {fp:List Addr}
end
section
variable {X:Cx} {B G0:Hp} {KX:XW} {e a b:Expr} {pos:Pos} {es:List Expr}
end
theorem NewL.back {K:PySem.W.Frag} {B G0 G H G' H':Hp} {σ : St} {ρ ρ1:DEnv} {ad:Addr} {vs:List V} {ds:List D} (k:EOk K B G0 G H σ ρ) (k':EOk K H H G' H' σ ρ1) (n:NewL K H G' H' σ ρ1 ad vs ds) (hf:ds.all nl0=true) :
  EOk K B G0 (pubG [] G H') H' σ ρ /\ Same G (pubG [] G H')/\NewL K B (pubG [] G H') H' σ ρ ad vs ds:=by
 have ex:Ext G H G H':=⟨k'.bh,.refl _,k.gh.trans k'.bh,fun _ _ _ n=>n⟩
 have ex2:Ext G H (pubG [] G H') H':=ex.pubT (fun a m=>by cases m)
 refine ⟨k.ext ex2,ex2.g,⟨k.bh.free n.b,?_,n.h,n.r.nl k'.gh hf,fun j es q w=>?_,fun j pt d v fp q s r=>k.freshD k'.bh n.b q s r⟩⟩
 ·rw [zkt (by simp) (by rw [n.h];rfl)]
  exact k.gh.free n.b
 ·obtain ⟨b,us,g1,g2,g3,g4,g5⟩:=k.own j es q
  rw [g1] at w
  cases w
  rw [n.b] at g4
  cases g4
section
variable {X:Cx} {B G0:Hp} {KX:XW}
theorem zpF {l:Bool} {y:Str} {j:Nat} {py:Pos} {spos:Pos} {tg elt iter:Expr} {ifs:List Expr} {gs:List Comprehension} {scope:Scope} {pos:Pos} {N2:List Str} {k:Nat} {f:M (List D)} {s:D->DEnv->Option DEnv} {t:M Bool} {rd:RdB} (hN:X.N.Nodup) (hj:X.N[j]?=some y) (hy:X.env.scope.names.lookup y=some .local) (hc:X.calm=true)
  (hi:∀ B' G',PI X tg iter (iD X.K B' G' f)) (hblk:PBlk X N2 scope (.ListComp elt (⟨tg,iter,ifs,0⟩ :: gs) scope pos) tg ifs s t rd) (hb:ziD X.env.scope scope X.N N2 k) (hs:∀ x,foldedSetIterable iter X.env x=pure x:=by intro _;rfl)
  (hsw:swapsWith (.ListComp elt (⟨tg,iter,ifs,0⟩ :: gs) scope pos) (some (.Name y py)) spos.line X.env=pure true:=by rfl) :
  PS X (.Assign [.Name y py] (.ListComp elt (⟨tg,iter,ifs,0⟩ :: gs) scope pos) spos) (tS X.K B G0 KX (zbQ j (zdn (dCG l f k s t rd)))):=by
 intro pins s0 σ H Dn I ⟨G,ρ,k0,a⟩
 unfold zbQ sB zdn at a
 cases z:dCG l f k s t rd (zb7 ρ) with
 | bad=>rw [z] at a;exact a.elim
 | ok es ρ1 =>
 rw [z] at a
 dsimp only at a
 by_cases hnl:es.all nl0=true
 case neg=>rw [if_neg hnl] at a;exact a.elim
 rw [if_pos hnl] at a
 dsimp only at a
 by_cases hl:j < ρ.length
 ·rw [if_pos hl] at a
  obtain ⟨ds,ρF,zf,zl,hfl⟩:=zhd z
  rw [exec_Assign_Name_used _ _ _ _ hsw]
  refine wpAny_bind (wpAny_standAt (wpAny_bind ?_))
  show wpAny _ X.A (do let _ ← comprehension (.ListComp elt (⟨tg,iter,ifs,0⟩ :: gs) scope pos) scope X.env _ (newList []) false (eval iter X.env) (some (assign (.Name y py) X.env))) _ _ s0
  refine wpAny_bind (wpAny_mono (zfD (use:=some (assign (.Name y py) X.env)) (Qc:=fun _ s'=>SP X pins Dn .next s') hc (hi H H) hblk hb hs I k0.lent zf zl hfl fun C D vs G' H' s4 m I7 hm hC hL hz hcl hp k' s' n=>?_) (fun _ s' hq=>wpAny_pure (wpAny_pure hq)) fun _ _ e=>e)
  show wpAny _ X.A (assign (.Name y py) X.env (.ref D)) _ _ s4
  refine wpAny_assign_Name (zew I7 hN hj (.inl hy) (v:=.ref D) rfl (fun s5 I8 ⟨ad,sb,hx⟩=>?_) (.inr hy))
  have hCa:C ≠ ad:=by
   rcases hx with e | e
   ·rw [e];exact hL
   ·exact Ne.symm (hcl y ad e)
  refine ⟨m,hm.sameBut sb hCa,fun h' sb'=>⟨_,H',I8.turned (t':=s5.toks) (it:=C) (fun b o hb e=>(sb'.2 b hb).trans e) hC hL (.inr hz) hcl hp,?_⟩⟩
  obtain ⟨k2,s2,n2⟩:=NewL.back k0 k' n hnl
  exact a _ _ H' (k2.setOwn n2 hl) s2
 ·rw [if_neg hl] at a;exact a.elim
theorem zku {F F':M (List D)} (h:∀ ρ es ρ',F ρ = .ok es ρ'->F' ρ = .ok es ρ') (ρ : DEnv) (es:List D) (ρ':DEnv) (e:zdn F ρ = .ok es ρ'):zdn F' ρ = .ok es ρ':=by
 unfold zdn at e ⊢
 cases z:F (zb7 ρ) with
 | bad=>rw [z] at e;cases e
 | ok ds ρ1=>rw [z] at e;rw [h _ _ _ z];exact e
theorem zpG {l:Bool} {y:Str} {j:Nat} {py:Pos} {spos:Pos} {tg elt iter:Expr} {ifs:List Expr} {gs:List Comprehension} {scope:Scope} {pos:Pos} {f:M (List D)} {s:D->DEnv->Option DEnv} {t:M Bool} {rd:RdB} {F:M (List D)} (SC:Scope) (N1 N2:List Str) (k:Nat) (le:∀ ρ es ρ',F ρ = .ok es ρ'->dCG l f k s t rd ρ = .ok es ρ') (hN:X.N.Nodup) (hj:X.N[j]?=some y) (hy:X.env.scope.names.lookup y=some .local) (hc:X.calm=true)
  (hi:∀ B' G',PI X tg iter (iD X.K B' G' f)) (hblk:PBlk X N2 scope (.ListComp elt (⟨tg,iter,ifs,0⟩ :: gs) scope pos) tg ifs s t rd) (h1:X.env.scope=SC) (h2:X.N=N1) (hb:zfl zlH SC scope N1 N2 k=true) (hs:∀ x,foldedSetIterable iter X.env x=pure x:=by intro _;rfl)
  (hsw:swapsWith (.ListComp elt (⟨tg,iter,ifs,0⟩ :: gs) scope pos) (some (.Name y py)) spos.line X.env=pure true:=by rfl) :
  PS X (.Assign [.Name y py] (.ListComp elt (⟨tg,iter,ifs,0⟩ :: gs) scope pos) spos) (tS X.K B G0 KX (zbQ j (zdn F))) :=
 psof (zpF hN hj hy hc hi hblk (by rw [h1,h2];exact zhe hb) hs hsw) fun _ _ _ q=>zmA (zku le) q
end
def zeT (f:M D):M Bool:=zas f fun x=>match x with | .list ds=>zah (!ds.isEmpty) | _=>fun _=>.bad
def FUEL:Nat:=10 ^ 60
section
variable {X:Cx} {B G0:Hp} {e:Expr}
theorem zht {α β : Type} {xs:List α} {ys:List β} (h:xs.length=ys.length):xs.isEmpty=ys.isEmpty:=by
 cases xs <;> cases ys <;> first | rfl | (simp at h)
theorem znw {f:M D} (h:PE X e (tD X.K B G0 f)) (he:∀ whole,isTrue e X.env whole=(do let v ← whole;standAt e.pos;holding [v] (truthy v)):=by intro _;rfl):PT X e (tBo X.K B G0 (zeT f)) :=
 ptof (zls h he) fun σ H Q q=>tM.one (R:=Rep X.K) q fun v H2 G ρ x k r a=>by
  cases x with
  | list ds =>
   obtain ⟨l,vs,rfl,h1,r1⟩:=r.lst_inv
   refine ⟨!vs.isEmpty,.inl ⟨vs,k.gh.seq h1,rfl⟩,?_⟩
   exact aft.now (v:=!vs.isEmpty) a k (by rw [zht r1.length])
  | _=>exact a.elim
theorem zgL {f:M D} {ρ ρ1:DEnv} {ds:List D} (h1:f ρ = .ok (.list ds) ρ1):zeT f ρ = .ok (!ds.isEmpty) ρ1:=by unfold zeT;exact zau h1 rfl
end
end DL
namespace W
open PySem PySem.Spec L2 DL
open PyProof.Rows hiding St
def top (i:Nat):Stmt:=PySem.Challenge.pw_wishdeal_k53_whole_no_dealing_beyond_a_c.main.body.getD i (.Pass ⟨0,0,0,0⟩)
abbrev GG (s:Stmt) (x:Str):Prop:=(zal s).names.lookup x=some NameKind.globalImplicit
abbrev VV (s:Stmt) (x:Str):Prop:=L2.Vis (zal s) x
abbrev LL (s:Stmt) (x:Str):Prop:=L2.Loc (zal s) x
theorem vk {s:Stmt} {x:Str} (h:(zal s).names.lookup x=some .local ∨ (zal s).names.lookup x=some .cell ∨ (zal s).names.lookup x=some .free):VV s x:=h
theorem lk {s:Stmt} {x:Str} (h:(zal s).names.lookup x=some .local ∨ (zal s).names.lookup x=some .cell):LL s x:=h
structure Txt (K:PySem.W.Frag) (mg:Str->Option Value):Prop where
 b_all:mg "all" = none
 b_bool:mg "bool" = none
 b_enumerate:mg "enumerate" = none
 b_int:mg "int" = none
 b_isinstance:mg "isinstance" = none
 b_len:mg "len" = none
 b_list:mg "list" = none
 b_max:mg "max" = none
 b_range:mg "range" = none
 b_set:mg "set" = none
 b_sorted:mg "sorted" = none
 b_sum:mg "sum" = none
 b_tuple:mg "tuple" = none
 b_zip:mg "zip" = none
 c_MOST_ASKERS:∃ t,mg "MOST_ASKERS" = some (Value.int 7 t)
 c_MOST_COPIES:∃ t,mg "MOST_COPIES" = some (Value.int 7 t)
 c_MOST_RANKS:∃ t,mg "MOST_RANKS" = some (Value.int 5 t)
 c_MOST_THINGS:∃ t,mg "MOST_THINGS" = some (Value.int 6 t)
abbrev Sbb:Stmt:=top 42
abbrev N_bb:List Str:=["_law_script", "_law_k"]
theorem Hbb:FnNm (zal Sbb) N_bb ["len"]:=zaV (by decide +kernel)
def g_bb:SM :=
 sSeq (sIf (zby (oIB fun i j=>decide (i < j)) 1 (zb1 0))
 (sRet (dIxN 0 (dVar 1)))
 (sNx))
 (sRet (zah (.int 0)))
def F_bb:List D->Option D:=runD N_bb g_bb
abbrev Sbj:Stmt:=top 50
abbrev N_bj:List Str:=["_law_wishes_here", "_law_ranks_here"]
theorem Hbj:FnNm (zal Sbj) N_bj []:=zaV (by decide +kernel)
def g_bj:SM :=
 sRet (mMap PyData.list (zcm (za2 (dIxN 0 (zah (.int 1)))) 1 (gN 2) (zah true) (zbg ze8 (zae (dSlA (dVar 2) (zah none) (zas (dVar 1) fun x=>mOpt (zcq x))) (zae (mLst (mNil)) (mNil))))))
def F_bj:List D->Option D:=runD N_bj g_bj
abbrev Sbm:Stmt:=top 53
abbrev N_bm:List Str:=["_law_wishes_here", "_law_ranks_here", "_law_dealing", "_law_rows_here"]
theorem Hbm:FnNm (zal Sbm) N_bm ["enumerate", "len", "_law_rows"]:=zaV (by decide +kernel)
def g_bm:SM :=
 sSeq (sSet 3 (dFun 2 F_bj (zae (dVar 0) (zae (dVar 1) (mNil)))))
 (sRet (zbg oLen (zae (mMap PyData.list (zcm (zcY (zae (dVar 2) (mNil))) 2 (gT 2 (gNC (gN 4) (gNC (gN 5) (gN0)))) (zby oIn 5 (dIxN 3 (dVar 4))) (dVar 4))) (mNil))))
def F_bm:List D->Option D:=runD N_bm g_bm
abbrev Saa:Stmt:=top 1
abbrev N_aa:List Str:=["thing"]
theorem Haa:FnNm (zal Saa) N_aa ["isinstance", "int", "bool"]:=zaV (by decide +kernel)
def g_aa:SM :=
 sRet (ziw (mMap (fun d=>.bool (isTy d "int")) (dVar 0)) (zjC (mMap (fun d=>.bool (isTy d "bool")) (dVar 0))))
def F_aa:List D->Option D:=runD N_aa g_aa
abbrev Sab:Stmt:=top 2
abbrev N_ab:List Str:=["thing", "many"]
theorem Hab:FnNm (zal Sab) N_ab ["is_whole"]:=zaV (by decide +kernel)
def g_ab:SM :=
 sRet (ziw (dFun 1 F_aa (zae (dVar 0) (mNil))) (mMap PyData.bool (zeD (oIB fun i j=>decide (i<=j)) (oIB fun i j=>decide (i < j)) (zah (.int 0)) (dVar 0) (dVar 1))))
def F_ab:List D->Option D:=runD N_ab g_ab
abbrev Say:Stmt:=top 38
abbrev N_ay:List Str:=["thing", "many"]
theorem Hay:FnNm (zal Say) N_ay ["zip", "all", "isinstance", "list"]:=zaV (by decide +kernel)
def g_ay:SM :=
 sSeq (sIf (mOr (mNot (zbN (mMap (fun d=>.bool (isTy d "list")) (dVar 0)))) (mNot (zbN (zbg oAll (zae (mMap PyData.list (zcm (za2 (dVar 0)) 1 (gN 2) (zah true) (dFun 2 F_ab (zae (dVar 2) (zae (dVar 1) (mNil)))))) (mNil))))))
 (sRet (zah (.bool false)))
 (sNx))
 (sRet (zbg oAll (zae (mMap PyData.list (zcm (dZip (zae (dVar 0) (zae (dSlA (dVar 0) (zas (zah (.int 1)) fun x=>mOpt (zcq x)) (zah none)) (mNil)))) 2 (gT 2 (gNC (gN 2) (gNC (gN 3) (gN0)))) (zah true) (mMap PyData.bool (zby (oIB fun i j=>decide (i < j)) 2 (dVar 3))))) (mNil))))
def F_ay:List D->Option D:=runD N_ay g_ay
abbrev Sad:Stmt:=top 12
abbrev N_ad:List Str:=["thing", "things"]
theorem Had:FnNm (zal Sad) N_ad ["all", "isinstance", "list", "len"]:=zaV (by decide +kernel)
def g_ad:SM :=
 sSeq (sIf (mOr (mNot (zbN (mMap (fun d=>.bool (isTy d "list")) (dVar 0)))) (dBin oEq (zb1 0) (zah (.int 0))))
 (sRet (zah (.bool false)))
 (sNx))
 (sRet (zbg oAll (zae (mMap PyData.list (zcm (za2 (dVar 0)) 1 (gN 2) (zah true) (dFun 2 F_ab (zae (dVar 2) (zae (dVar 1) (mNil)))))) (mNil))))
def F_ad:List D->Option D:=runD N_ad g_ad
abbrev Sae:Stmt:=top 13
abbrev N_ae:List Str:=["thing", "things", "wished"]
theorem Hae:FnNm (zal Sae) N_ae ["len", "set", "all", "isinstance", "list", "MOST_RANKS"]:=zaV (by decide +kernel)
def g_ae:SM :=
 sSeq (sIf (mOr (mNot (zbN (mMap (fun d=>.bool (isTy d "list")) (dVar 0)))) (dBin (oIB fun i j=>decide (j < i)) (zb1 0) (zah (.int 5))))
 (sRet (zah (.bool false)))
 (sNx))
 (sSeq (sIf (mNot (zbN (zbg oAll (zae (mMap PyData.list (zcm (za2 (dVar 0)) 1 (gN 3) (zah true) (dFun 2 F_ad (zae (dVar 3) (zae (dVar 1) (mNil)))))) (mNil)))))
 (sRet (zah (.bool false)))
 (sNx))
 (sSeq (zbQ 2 (zgq (za2 (dVar 0)) 2 (gN 3) (zah true) (za2 (dVar 3)) (gN 4) (zah true) (dVar 4)))
 (sRet (mMap PyData.bool (dBin oEq (zbg zd2 (zae (dVar 2) (mNil))) (zb1 2))))))
def F_ae:List D->Option D:=runD N_ae g_ae
abbrev Saf:Stmt:=top 14
abbrev N_af:List Str:=["lists", "things", "asker", "ranks"]
theorem Haf:FnNm (zal Saf) N_af ["enumerate", "is_asker_list", "isinstance", "list", "len", "MOST_ASKERS"]:=zaV (by decide +kernel)
def zkv:SM :=
 sIf (mNot (zbN (dFun 2 F_ae (zae (dVar 3) (zae (dVar 1) (mNil))))))
 (zfg)
 (sNx)
def g_af:SM :=
 sSeq (sIf (mOr (mNot (zbN (mMap (fun d=>.bool (isTy d "list")) (dVar 0)))) (mNot (zeD (oIB fun i j=>decide (i<=j)) (oIB fun i j=>decide (i<=j)) (zah (.int 1)) (zb1 0) (zah (.int 7)))))
 (zfg)
 (sNx))
 (sFor (zcY (zae (dVar 0) (mNil))) (gT 2 (gNC (gN 2) (gNC (gN 3) (gN0)))) zkv)
def F_af:List D->Option D:=runD N_af g_af
abbrev Sac:Stmt:=top 11
abbrev N_ac:List Str:=["copies", "number", "many"]
theorem Hac:FnNm (zal Sac) N_ac ["enumerate", "MOST_COPIES", "is_number_below", "isinstance", "list", "len", "MOST_THINGS"]:=zaV (by decide +kernel)
def zkw:SM :=
 sIf (mNot (zbN (dFun 2 F_ab (zae (dVar 2) (zae (dBin oAdd (zah (.int 7)) (zah (.int 1))) (mNil))))))
 (zfg)
 (sNx)
def g_ac:SM :=
 sSeq (sIf (mOr (mNot (zbN (mMap (fun d=>.bool (isTy d "list")) (dVar 0)))) (mNot (zeD (oIB fun i j=>decide (i<=j)) (oIB fun i j=>decide (i<=j)) (zah (.int 1)) (zb1 0) (zah (.int 6)))))
 (zfg)
 (sNx))
 (sFor (zcY (zae (dVar 0) (mNil))) (gT 2 (gNC (gN 1) (gNC (gN 2) (gN0)))) zkw)
def F_ac:List D->Option D:=runD N_ac g_ac
abbrev Sag:Stmt:=top 15
abbrev N_ag:List Str:=["thing", "copies", "lists"]
theorem Hag:FnNm (zal Sag) N_ag ["len", "look_at_lists", "look_at_copies", "isinstance", "tuple"]:=zaV (by decide +kernel)
def g_ag:SM :=
 sSeq (sIf (mOr (mNot (zbN (mMap (fun d=>.bool (isTy d "tuple")) (dVar 0)))) (dBin oNe (zb1 0) (zah (.int 2))))
 (zfg)
 (sNx))
 (sSeq (sAsg (dVar 0) (gT 2 (gNC (gN 1) (gNC (gN 2) (gN0)))))
 (sSeq (zgk (dFun 1 F_ac (zae (dVar 1) (mNil))))
 (zgk (dFun 2 F_af (zae (dVar 2) (zae (zb1 1) (mNil)))))))
def F_ag:List D->Option D:=runD N_ag g_ag
abbrev Sai:Stmt:=top 17
abbrev N_ai:List Str:=["wishes"]
theorem Hai:FnNm (zal Sai) N_ai ["enumerate", "sorted", "look_at_wishes"]:=zaV (by decide +kernel)
def g_ai:SM :=
 sSeq (zgk (dFun 1 F_ag (zae (dVar 0) (mNil))))
 (sRet (zbg zhs (zae (mMap PyData.list (zgr (zcY (zae (dIxN 0 (zah (.int 1))) (mNil))) 4 (gT 2 (gNC (gN 1) (gNC (gN 2) (gN0)))) (zah true) (za2 (dVar 2)) (gN 3) (zah true) (za2 (dVar 3)) (gN 4) (zah true) (mTup (zae (dVar 1) (zae (dVar 4) (mNil)))))) (mNil))))
def F_ai:List D->Option D:=runD N_ai g_ai
abbrev Sah:Stmt:=top 16
abbrev N_ah:List Str:=["ranks", "thing", "number", "rank"]
theorem Hah:FnNm (zal Sah) N_ah ["enumerate"]:=zaV (by decide +kernel)
def zkx:SM :=
 sIf (zby oIn 1 (dVar 3))
 (sRet (dVar 2))
 (sNx)
def g_ah:SM :=
 sSeq (sFor (zhU (zae (dVar 0) (mNil))) (gT 2 (gNC (gN 2) (gNC (gN 3) (gN0)))) zkx)
 (sRet (zah (.int 0)))
def F_ah:List D->Option D:=runD N_ah g_ah
abbrev Sav:Stmt:=top 34
abbrev N_av:List Str:=["wishes", "ranks"]
theorem Hav:FnNm (zal Sav) N_av ["all_wishes"]:=zaV (by decide +kernel)
def g_av:SM :=
 sRet (mMap PyData.list (zcm (za2 (dFun 1 F_ai (zae (dVar 0) (mNil)))) 2 (gT 2 (gNC (gN 2) (gNC (gN 3) (gN0)))) (dBin (oIB fun i j=>decide (i<=j)) (dFun 2 F_ah (zae (dBin oIx (dIxN 0 (zah (.int 1))) (dVar 2)) (zae (dVar 3) (mNil)))) (dVar 1)) (mTup (zae (dVar 2) (zae (dVar 3) (zae (zah (.int 1)) (mNil)))))))
def F_av:List D->Option D:=runD N_av g_av
abbrev Saz:Stmt:=top 39
abbrev N_az:List Str:=["wishes", "ranks", "thing", "worths", "askers", "things"]
theorem Haz:FnNm (zal Saz) N_az ["all", "len", "is_rising", "isinstance", "tuple", "worths_within"]:=zaV (by decide +kernel)
def g_az:SM :=
 sSeq (sSet 3 (dFun 2 F_av (zae (dVar 0) (zae (dVar 1) (mNil)))))
 (sSeq (sIf (mOr (mNot (zbN (mMap (fun d=>.bool (isTy d "tuple")) (dVar 2)))) (dBin oNe (zb1 2) (zah (.int 2))))
 (sRet (zah (.bool false)))
 (sNx))
 (sSeq (sAsg (dVar 2) (gT 2 (gNC (gN 4) (gNC (gN 5) (gN0)))))
 (sSeq (sIf (mOr (mNot (zbN (dFun 2 F_ay (zae (dVar 4) (zae (zbg oLen (zae (dIxN 0 (zah (.int 1))) (mNil))) (mNil)))))) (mNot (zbN (dFun 2 F_ay (zae (dVar 5) (zae (zbg oLen (zae (dIxN 0 (zah (.int 0))) (mNil))) (mNil)))))))
 (sRet (zah (.bool false)))
 (sNx))
 (sRet (zbg oAll (zae (mMap PyData.list (zcm (za2 (dVar 3)) 3 (gT 3 (gNC (gN 6) (gNC (gN 7) (gNC (gN 8) (gN0))))) (zah true) (mOrV (mMap PyData.bool (zby oIn 6 (dVar 4))) (mMap PyData.bool (zby oIn 7 (dVar 5)))))) (mNil)))))))
def F_az:List D->Option D:=runD N_az g_az
abbrev Sba:Stmt:=top 40
abbrev N_ba:List Str:=["wishes", "cover", "askers", "things"]
theorem Hba:FnNm (zal Sba) N_ba ["len", "sum", "look_at_wishes"]:=zaV (by decide +kernel)
def g_ba:SM :=
 sSeq (zgk (dFun 1 F_ag (zae (dVar 0) (mNil))))
 (sSeq (sAsg (dVar 1) (gT 2 (gNC (gN 2) (gNC (gN 3) (gN0)))))
 (sRet (dBin oAdd (zb1 2) (zbg ziQ (zae (mMap PyData.list (zcm (za2 (dVar 3)) 1 (gN 4) (zah true) (dBin oIx (dIxN 0 (zah (.int 0))) (dVar 4)))) (mNil))))))
def F_ba:List D->Option D:=runD N_ba g_ba
abbrev Sbc:Stmt:=top 43
abbrev N_bc:List Str:=["_law_cell", "_law_salt", "_law_sizes", "_law_number", "_law_left", "_law_found", "_law_k", "_law_one"]
theorem Hbc:FnNm (zal Sbc) N_bc ["len", "range", "max"]:=zaV (by decide +kernel)
def zhu:SM :=
 sIf (mAnd (zby (oIB fun i j=>decide (j<=i)) 3 (dBin oPow (zah (.int 10)) (zah (.int 18)))) (zby (oIB fun i j=>decide (j < i)) 4 (zah (.int 0))))
 (sSeq (sApp 5 (dBin oMod (dVar 4) (dIxN 2 (dVar 6))))
 (sSet 4 (dBin oDiv (dVar 4) (dIxN 2 (dVar 6)))))
 (sSeq (sSet 7 (dBin oMod (dBin oAdd (dBin oAdd (dBin oAdd (dVar 3) (dBin oMul (zah (.int 7919)) (dVar 1))) (dBin oMul (dBin oMul (zah (.int 101)) (dVar 6)) (dVar 6))) (dVar 6)) (zah (.int 2147483647))))
 (sSeq (sSet 7 (dBin oMod (dBin oMul (dVar 7) (zah (.int 48271))) (zah (.int 2147483647))))
 (sSeq (sSet 7 (dBin oMod (dBin oMul (dBin oMod (dBin oMul (dVar 7) (dVar 7)) (zah (.int 2147483629))) (zah (.int 48271))) (zah (.int 2147483647))))
 (sApp 5 (dBin oMod (dBin oDiv (dVar 7) (zah (.int 16))) (dIxN 2 (dVar 6)))))))
def g_bc:SM :=
 sSeq (sSet 3 (zbg zix (zae (dVar 0) (zae (dBin oSub (dNeg (zah (.int 1))) (dVar 0)) (mNil)))))
 (sSeq (sSet 4 (dVar 3))
 (sSeq (zbQ 5 (zas (mNil) fun xs=>if xs.length<=1000000 then zah xs else fun _=>.bad))
 (sSeq (sFor (zel (zae (zb1 2) (mNil))) (gN 6) zhu)
 (sRet (dVar 5)))))
def F_bc:List D->Option D:=runD N_bc g_bc
abbrev Sbk:Stmt:=top 51
abbrev N_bk:List Str:=["_law_wishes_here", "_law_ranks_here", "_law_cell", "_law_salt", "_law_sizes", "_law_digits", "_law_things", "_law_askers", "_law_asker", "_law_row", "_law_lacks", "_law_at"]
theorem Hbk:FnNm (zal Sbk) N_bk ["len", "_law_rows", "enumerate", "range", "_law_numbers"]:=zaV (by decide +kernel)
def zky:SM :=
 sSeq (zbQ 10 (zfk (za2 (dVar 9)) 1 (gN 12) (zby oNin 12 (dVar 6)) (dVar 12)))
 (sIf (mOr (zby oNe 10 (mLst (mNil))) (dBin oEq (dIxN 5 (dBin oAdd (zbg oLen (zae (dIxN 0 (zah (.int 0))) (mNil))) (dVar 8))) (zah (.int 0))))
 (sApp 7 (dVar 8))
 (sNx))
def g_bk:SM :=
 sSeq (sSet 4 (dBin oAdd (dBin oAdd (dBin oMul (mLst (zae (zah (.int 3)) (mNil))) (zbg oLen (zae (dIxN 0 (zah (.int 0))) (mNil)))) (dBin oMul (mLst (zae (zah (.int 6)) (mNil))) (zbg oLen (zae (dIxN 0 (zah (.int 1))) (mNil))))) (mLst (zae (zah (.int 3)) (zae (zah (.int 7)) (mNil))))))
 (sSeq (sSet 5 (dFun 3 F_bc (zae (dVar 2) (zae (dVar 3) (zae (dVar 4) (mNil))))))
 (sSeq (zbQ 6 (zcm (zel (zae (zbg oLen (zae (dIxN 0 (zah (.int 0))) (mNil))) (mNil))) 1 (gN 12) (dBin oEq (dIxN 5 (dVar 12)) (zah (.int 0))) (dVar 12)))
 (sSeq (zbQ 7 (zas (mNil) fun xs=>if xs.length<=1000000 then zah xs else fun _=>.bad))
 (sSeq (sFor (zcY (zae (dFun 2 F_bj (zae (dVar 0) (zae (dVar 1) (mNil)))) (mNil))) (gT 2 (gNC (gN 8) (gNC (gN 9) (gN0)))) zky)
 (sSeq (sSet 11 (dIxN 5 (dNeg (zah (.int 1)))))
 (sSeq (sIf (mAnd (dBin oEq (dIxN 5 (dNeg (zah (.int 2)))) (zah (.int 1))) (zby (oIB fun i j=>decide (i < j)) 11 (zb1 7)))
 (sSet 7 (dBin oAdd (dSlA (dVar 7) (zah none) (zas (dVar 11) fun x=>mOpt (zcq x))) (dSlA (dVar 7) (zas (dBin oAdd (dVar 11) (zah (.int 1))) fun x=>mOpt (zcq x)) (zah none))))
 (sNx))
 (sSeq (sIf (mAnd (dBin oEq (dIxN 5 (dNeg (zah (.int 2)))) (zah (.int 2))) (zby (oIB fun i j=>decide (i < j)) 11 (zb1 6)))
 (sSet 6 (dBin oAdd (dSlA (dVar 6) (zah none) (zas (dVar 11) fun x=>mOpt (zcq x))) (dSlA (dVar 6) (zas (dBin oAdd (dVar 11) (zah (.int 1))) fun x=>mOpt (zcq x)) (zah none))))
 (sNx))
 (sRet (mTup (zae (dVar 7) (zae (dVar 6) (mNil))))))))))))
def F_bk:List D->Option D:=runD N_bk g_bk
abbrev Sbe:Stmt:=top 45
abbrev N_be:List Str:=["_law_wishes_here", "_law_asker"]
theorem Hbe:FnNm (zal Sbe) N_be ["sum", "sorted"]:=zaV (by decide +kernel)
def g_be:SM :=
 sRet (zbg zhs (zae (zbg ze8 (zae (dBin oIx (dIxN 0 (zah (.int 1))) (dVar 1)) (zae (mLst (mNil)) (mNil)))) (mNil)))
def F_be:List D->Option D:=runD N_be g_be
abbrev Sbf:Stmt:=top 46
abbrev N_bf:List Str:=["_law_wishes_here", "_law_cell", "_law_salt", "_law_left", "_law_digits", "_law_found", "_law_asker", "_law_some", "_law_thing"]
theorem Hbf:FnNm (zal Sbf) N_bf ["len", "range", "_law_wished", "_law_numbers", "list"]:=zaV (by decide +kernel)
def zhv:SM :=
 sSeq (sSet 7 (dBin oAdd (mMap PyData.list (zfk (za2 (dFun 2 F_be (zae (dVar 0) (zae (dVar 6) (mNil))))) 1 (gN 9) (dBin (oIB fun i j=>decide (j < i)) (dIxN 3 (dVar 9)) (zah (.int 0))) (dVar 9))) (mLst (zae (zah .none) (mNil)))))
 (sSeq (sSet 8 (dIxN 7 (dBin oMod (dIxN 4 (dVar 6)) (zb1 7))))
 (sSeq (sIf (mMap (fun d=>!isNon d) (dVar 8))
 (ze7 3 (dVar 8) (dBin oSub (dIxN 3 (dVar 8)) (zah (.int 1))))
 (sNx))
 (sApp 5 (dVar 8))))
def g_bf:SM :=
 sSeq (zbQ 3 (zas (zae (dIxN 0 (zah (.int 0))) (mNil)) fun xs=>mOpt (zc1 xs)))
 (sSeq (sSet 4 (dFun 3 F_bc (zae (dVar 1) (zae (dVar 2) (zae (dBin oMul (mLst (zae (zah (.int 61)) (mNil))) (zbg oLen (zae (dIxN 0 (zah (.int 1))) (mNil)))) (mNil))))))
 (sSeq (zbQ 5 (zas (mNil) fun xs=>if xs.length<=1000000 then zah xs else fun _=>.bad))
 (sSeq (sFor (zel (zae (zbg oLen (zae (dIxN 0 (zah (.int 1))) (mNil))) (mNil))) (gN 6) zhv)
 (sRet (dVar 5)))))
def F_bf:List D->Option D:=runD N_bf g_bf
abbrev Sbg:Stmt:=top 47
abbrev N_bg:List Str:=["_law_thing"]
theorem Hbg:FnNm (zal Sbg) N_bg ["isinstance", "int", "bool"]:=zaV (by decide +kernel)
def g_bg:SM :=
 sRet (ziw (mMap (fun d=>.bool (isTy d "int")) (dVar 0)) (zjC (mMap (fun d=>.bool (isTy d "bool")) (dVar 0))))
def F_bg:List D->Option D:=runD N_bg g_bg
abbrev Sbh:Stmt:=top 48
abbrev N_bh:List Str:=["_law_wishes_here", "_law_thing", "_law_asker", "_law_one"]
theorem Hbh:FnNm (zal Sbh) N_bh ["enumerate", "_law_is_number", "_law_wished", "isinstance", "list", "len"]:=zaV (by decide +kernel)
def zkz:SM :=
 sSeq (sIf (mAnd (mMap (fun d=>!isNon d) (dVar 3)) (mOr (mNot (zbN (dFun 1 F_bg (zae (dVar 3) (mNil))))) (zby oNin 3 (dFun 2 F_be (zae (dVar 0) (zae (dVar 2) (mNil)))))))
 (sRet (zah (.bool false)))
 (sNx))
 (sIf (mAnd (mMap (fun d=>!isNon d) (dVar 3)) (dBin (oIB fun i j=>decide (j < i)) (zeL (dVar 1) (zae (dVar 3) (mNil))) (dBin oIx (dIxN 0 (zah (.int 0))) (dVar 3))))
 (sRet (zah (.bool false)))
 (sNx))
def g_bh:SM :=
 sSeq (sIf (mOr (mNot (zbN (mMap (fun d=>.bool (isTy d "list")) (dVar 1)))) (dBin oNe (zb1 1) (zbg oLen (zae (dIxN 0 (zah (.int 1))) (mNil)))))
 (sRet (zah (.bool false)))
 (sNx))
 (sSeq (sFor (zcY (zae (dVar 1) (mNil))) (gT 2 (gNC (gN 2) (gNC (gN 3) (gN0)))) zkz)
 (sRet (zah (.bool true))))
def F_bh:List D->Option D:=runD N_bh g_bh
abbrev Sbi:Stmt:=top 49
abbrev N_bi:List Str:=["_law_wishes_here", "_law_dealing", "_law_cell", "_law_salt", "_law_digits", "_law_one", "_law_other", "_law_found", "_law_some"]
theorem Hbi:FnNm (zal Sbi) N_bi ["list", "_law_is_dealing", "len", "_law_wished", "_law_numbers"]:=zaV (by decide +kernel)
def g_bi:SM :=
 sSeq (sSet 4 (dFun 3 F_bc (zae (dVar 2) (zae (dVar 3) (zae (mLst (zae (zah (.int 2)) (zae (zah (.int 7)) (zae (zah (.int 7)) (zae (zah (.int 61)) (mNil)))))) (mNil))))))
 (sSeq (sSet 5 (dBin oMod (dIxN 4 (zah (.int 1))) (zb1 1)))
 (sSeq (sSet 6 (dBin oMod (dIxN 4 (zah (.int 2))) (zb1 1)))
 (sSeq (zbQ 7 (zdC 1))
 (sSeq (sIf (dBin oEq (dIxN 4 (zah (.int 0))) (zah (.int 0)))
 (sSeq (ze7 7 (dVar 5) (dIxN 1 (dVar 6)))
 (ze7 7 (dVar 6) (dIxN 1 (dVar 5))))
 (sSeq (sSet 8 (dBin oAdd (dFun 2 F_be (zae (dVar 0) (zae (dVar 5) (mNil)))) (mLst (zae (zah .none) (mNil)))))
 (ze7 7 (dVar 5) (dIxN 8 (dBin oMod (dIxN 4 (zah (.int 3))) (zb1 8))))))
 (sSeq (sIf (zbN (ziV 2 F_bh (zae (dVar 0) (zfu 7 (mNil)))))
 (sRet (dVar 7))
 (sNx))
 (sRet (mMap PyData.list (zdC 1))))))))
def F_bi:List D->Option D:=runD N_bi g_bi
abbrev Sbn:Stmt:=top 54
abbrev N_bn:List Str:=["_law_wishes_here", "_law_found", "_law_asker", "_law_longer", "_law_dealing", "_law_thing"]
theorem Hbn:FnNm (zal Sbn) N_bn ["len", "range", "_law_wished"]:=zaV (by decide +kernel)
def zkA:SM :=
 sIf (mOr (mMap isNon (dVar 5)) (dBin (oIB fun i j=>decide (i < j)) (zeL (dVar 4) (zae (dVar 5) (mNil))) (dBin oIx (dIxN 0 (zah (.int 0))) (dVar 5))))
 (sApp 3 (dBin oAdd (dVar 4) (mLst (zae (dVar 5) (mNil)))))
 (sNx)
def zkB:SM :=
 sFor (za2 (dBin oAdd (mLst (zae (zah .none) (mNil))) (dFun 2 F_be (zae (dVar 0) (zae (dVar 2) (mNil)))))) (gN 5) zkA
def zkC:SM :=
 sSeq (zbQ 3 (zas (mNil) fun xs=>if xs.length<=1000000 then zah xs else fun _=>.bad))
 (sSeq (sFor (za2 (dVar 1)) (gN 4) zkB)
 (sSet 1 (dVar 3)))
def g_bn:SM :=
 sSeq (zbQ 1 (zas (zae (mLst (mNil)) (mNil)) fun xs=>if xs.length<=1000000 then zah xs else fun _=>.bad))
 (sSeq (sFor (zel (zae (zbg oLen (zae (dIxN 0 (zah (.int 1))) (mNil))) (mNil))) (gN 2) zkC)
 (sRet (dVar 1)))
def F_bn:List D->Option D:=runD N_bn g_bn
abbrev Sal:Stmt:=top 23
abbrev N_al:List Str:=["nothing", "got"]
theorem Hal:FnNm (zal Sal) N_al []:=zaV (by decide +kernel)
def g_al:SM :=
 sRet (mIf (mMap isNon (dVar 1)) (dVar 0) (dVar 1))
def F_al:List D->Option D:=runD N_al g_al
abbrev Sam:Stmt:=top 24
abbrev N_am:List Str:=["nothing", "worths", "dealing", "had", "asker", "thing", "worth", "told"]
theorem Ham:FnNm (zal Sam) N_am ["place_of", "enumerate", "len"]:=zaV (by decide +kernel)
def zkD:SM :=
 sIf (dBin oNe (dIxN 2 (dVar 4)) (dVar 5))
 (sApp 7 (mTup (zae (dFun 2 F_al (zae (dVar 0) (zae (dIxN 2 (dVar 4)) (mNil)))) (zae (dVar 5) (zae (dBin oSub (dVar 6) (dIxN 3 (dVar 4))) (zae (dVar 4) (mNil)))))))
 (sNx)
def zkE:SM :=
 sIf (dBin oEq (dIxN 2 (dVar 4)) (dVar 5))
 (ze7 3 (dVar 4) (dVar 6))
 (sNx)
def g_am:SM :=
 sSeq (zbQ 3 (zko (mLst (zae (zah (.int 0)) (mNil))) (zb1 2)))
 (sSeq (sFor (za2 (dVar 1)) (gT 3 (gNC (gN 4) (gNC (gN 5) (gNC (gN 6) (gN0))))) zkE)
 (sSeq (zbQ 7 (zdn (zcm (zcY (zae (dVar 2) (mNil))) 2 (gT 2 (gNC (gN 8) (gNC (gN 9) (gN0)))) (mMap (fun d=>!isNon d) (dVar 9)) (mTup (zae (dVar 9) (zae (dVar 0) (zae (dNeg (dIxN 3 (dVar 8))) (zae (dVar 8) (mNil)))))))))
 (sSeq (sFor (za2 (dVar 1)) (gT 3 (gNC (gN 4) (gNC (gN 5) (gNC (gN 6) (gN0))))) zkD)
 (sRet (dVar 7)))))
def F_am:List D->Option D:=runD N_am g_am
abbrev Saj:Stmt:=top 19
abbrev N_aj:List Str:=["wishes", "dealing"]
theorem Haj:FnNm (zal Saj) N_aj ["enumerate", "look_at_wishes"]:=zaV (by decide +kernel)
def g_aj:SM :=
 sSeq (zgk (dFun 1 F_ag (zae (dVar 0) (mNil))))
 (sRet (mMap PyData.list (zcm (zcY (zae (dIxN 0 (zah (.int 0))) (mNil))) 2 (gT 2 (gNC (gN 2) (gNC (gN 3) (gN0)))) (zah true) (dBin oSub (dVar 3) (zeL (dVar 1) (zae (dVar 2) (mNil)))))))
def F_aj:List D->Option D:=runD N_aj g_aj
abbrev San:Stmt:=top 25
abbrev N_an:List Str:=["wishes", "dealing", "nothing", "left", "to_nothing"]
theorem Han:FnNm (zal San) N_an ["range", "enumerate", "copies_left", "len"]:=zaV (by decide +kernel)
def g_an:SM :=
 sSeq (sSet 2 (zbg oLen (zae (dIxN 0 (zah (.int 0))) (mNil))))
 (sSeq (sSet 3 (dFun 2 F_aj (zae (dVar 0) (zae (dVar 1) (mNil)))))
 (sSeq (zbQ 4 (zcm (zcY (zae (dVar 3) (mNil))) 2 (gT 2 (gNC (gN 5) (gNC (gN 6) (gN0)))) (zby (oIB fun i j=>decide (j < i)) 6 (zah (.int 0))) (mTup (zae (dVar 5) (zae (dVar 2) (zae (zah (.int 0)) (zae (zah .none) (mNil))))))))
 (sRet (dBin oAdd (dVar 4) (mMap PyData.list (zcm (zel (zae (dVar 2) (mNil))) 1 (gN 5) (zah true) (mTup (zae (dVar 2) (zae (dVar 5) (zae (zah (.int 0)) (zae (zah .none) (mNil))))))))))))
def F_an:List D->Option D:=runD N_an g_an
abbrev Sao:Stmt:=top 26
abbrev N_ao:List Str:=["wishes", "worths", "dealing"]
theorem Hao:FnNm (zal Sao) N_ao ["len", "steps_of_askers", "steps_of_copies"]:=zaV (by decide +kernel)
def g_ao:SM :=
 sRet (dBin oAdd (dFun 3 F_am (zae (zbg oLen (zae (dIxN 0 (zah (.int 0))) (mNil))) (zae (dVar 1) (zae (dVar 2) (mNil))))) (dFun 2 F_an (zae (dVar 0) (zae (dVar 2) (mNil)))))
def F_ao:List D->Option D:=runD N_ao g_ao
abbrev Sap:Stmt:=top 27
abbrev N_ap:List Str:=["walks", "steps", "told", "step", "ahead", "behind", "gain", "asker", "gained", "walked"]
theorem Hap:FnNm (zal Sap) N_ap ["list"]:=zaV (by decide +kernel)
def zkF:SM :=
 sSeq (sAsg (dVar 3) (gT 4 (gNC (gN 4) (gNC (gN 5) (gNC (gN 6) (gNC (gN 7) (gN0)))))))
 (sSeq (sAsg (dIxN 0 (dVar 4)) (gT 2 (gNC (gN 8) (gNC (gN 9) (gN0)))))
 (sIf (dBin (oIB fun i j=>decide (j < i)) (dBin oAdd (dVar 8) (dVar 6)) (dBin oIx (dIxN 2 (dVar 5)) (zah (.int 0))))
 (ze7 2 (dVar 5) (mTup (zae (dBin oAdd (dVar 8) (dVar 6)) (zae (dBin oAdd (dVar 9) (mLst (zae (dVar 3) (mNil)))) (mNil)))))
 (sNx)))
def g_ap:SM :=
 sSeq (zbQ 2 (zdC 0))
 (sSeq (sFor (za2 (dVar 1)) (gN 3) zkF)
 (sRet (dVar 2)))
def F_ap:List D->Option D:=runD N_ap g_ap
abbrev Saq:Stmt:=top 28
abbrev N_aq:List Str:=["places", "steps", "told", "turn"]
theorem Haq:FnNm (zal Saq) N_aq ["range", "longer_walks"]:=zaV (by decide +kernel)
def zkG:SM :=
 sSet 2 (dFun 2 F_ap (zae (dVar 2) (zae (dVar 1) (mNil))))
def g_aq:SM :=
 sSeq (sSet 2 (dBin oMul (mLst (zae (mTup (zae (zah (.int 0)) (zae (mLst (mNil)) (mNil)))) (mNil))) (dVar 0)))
 (sSeq (sFor (zel (zae (dVar 0) (mNil))) (gN 3) zkG)
 (sRet (dVar 2)))
def F_aq:List D->Option D:=runD N_aq g_aq
abbrev Sar:Stmt:=top 29
abbrev N_ar:List Str:=["walk", "end", "step", "begin"]
theorem Har:FnNm (zal Sar) N_ar ["enumerate", "range"]:=zaV (by decide +kernel)
def zkH:SM :=
 sIf (dBin oEq (dBin oIx (dIxN 0 (dVar 3)) (zah (.int 0))) (dIxN 2 (zah (.int 1))))
 (sRet (dSlA (dVar 0) (zas (dVar 3) fun x=>mOpt (zcq x)) (zas (dBin oAdd (dVar 1) (zah (.int 1))) fun x=>mOpt (zcq x))))
 (sNx)
def zkI:SM :=
 sFor (zel (zae (dBin oAdd (dVar 1) (zah (.int 1))) (mNil))) (gN 3) zkH
def g_ar:SM :=
 sSeq (sFor (zcY (zae (dVar 0) (mNil))) (gT 2 (gNC (gN 1) (gNC (gN 2) (gN0)))) zkI)
 (sRet (mLst (mNil)))
def F_ar:List D->Option D:=runD N_ar g_ar
abbrev Sas:Stmt:=top 30
abbrev N_as:List Str:=["nothing", "steps", "begin", "number", "step", "way", "ahead", "behind", "gain", "asker"]
theorem Has:FnNm (zal Sas) N_as ["enumerate"]:=zaV (by decide +kernel)
def zkJ:SM :=
 sIf (mMap (fun d=>!isNon d) (dVar 9))
 (sApp 5 (mTup (zae (dVar 9) (zae (mIf (zby oEq 7 (dVar 0)) (zah .none) (dVar 7)) (mNil)))))
 (sNx)
def zkK:SM :=
 sIf (dBin oEq (dIxN 4 (zah (.int 0))) (dVar 0))
 (sSet 2 (dVar 3))
 (sNx)
def g_as:SM :=
 sSeq (sSet 2 (zah (.int 0)))
 (sSeq (sFor (zcY (zae (dVar 1) (mNil))) (gT 2 (gNC (gN 3) (gNC (gN 4) (gN0)))) zkK)
 (sSeq (zbQ 5 (zas (mNil) fun xs=>if xs.length<=1000000 then zah xs else fun _=>.bad))
 (sSeq (sFor (za2 (dBin oAdd (dSlA (dVar 1) (zas (dVar 2) fun x=>mOpt (zcq x)) (zah none)) (dSlA (dVar 1) (zah none) (zas (dVar 2) fun x=>mOpt (zcq x))))) (gT 4 (gNC (gN 6) (gNC (gN 7) (gNC (gN 8) (gNC (gN 9) (gN0)))))) zkJ)
 (sRet (dVar 5)))))
def F_as:List D->Option D:=runD N_as g_as
abbrev Sat:Stmt:=top 31
abbrev N_at:List Str:=["wishes", "worths", "dealing", "nothing", "gained", "walk"]
theorem Hat:FnNm (zal Sat) N_at ["all_steps", "widest_walks", "len", "round_within", "way_round"]:=zaV (by decide +kernel)
def zkL:SM :=
 sIf (dBin oEq (zb1 5) (dBin oAdd (dVar 3) (zah (.int 1))))
 (sRet (dFun 2 F_as (zae (dVar 3) (zae (dFun 1 F_ar (zae (dVar 5) (mNil))) (mNil)))))
 (sNx)
def g_at:SM :=
 sSeq (sSet 3 (zbg oLen (zae (dIxN 0 (zah (.int 0))) (mNil))))
 (sSeq (sFor (za2 (dFun 2 F_aq (zae (dBin oAdd (dVar 3) (zah (.int 1))) (zae (dFun 3 F_ao (zae (dVar 0) (zae (dVar 1) (zae (dVar 2) (mNil))))) (mNil))))) (gT 2 (gNC (gN 4) (gNC (gN 5) (gN0)))) zkL)
 (sRet (mLst (mNil))))
def F_at:List D->Option D:=runD N_at g_at
abbrev Sak:Stmt:=top 21
abbrev N_ak:List Str:=["dealing", "way", "told", "asker", "taken"]
theorem Hak:FnNm (zal Sak) N_ak ["list"]:=zaV (by decide +kernel)
def zkM:SM :=
 ze7 2 (dVar 3) (dVar 4)
def g_ak:SM :=
 sSeq (zbQ 2 (zdC 0))
 (sSeq (sFor (za2 (dVar 1)) (gT 2 (gNC (gN 3) (gNC (gN 4) (gN0)))) zkM)
 (sRet (dVar 2)))
def F_ak:List D->Option D:=runD N_ak g_ak
abbrev Sau:Stmt:=top 32
abbrev N_au:List Str:=["wishes", "worths", "dealing", "way"]
theorem Hau:FnNm (zal Sau) N_au ["gaining_way", "behind_way", "len"]:=zaV (by decide +kernel)
def zfS:SM :=
 sSeq (sSet 2 (dFun 2 F_ak (zae (dVar 2) (zae (dVar 3) (mNil)))))
 (sSet 3 (dFun 3 F_at (zae (dVar 0) (zae (dVar 1) (zae (dVar 2) (mNil))))))
def g_au:SM :=
 sSeq (sSet 2 (dBin oMul (mLst (zae (zah .none) (mNil))) (zbg oLen (zae (dIxN 0 (zah (.int 1))) (mNil)))))
 (sSeq (sSet 3 (dFun 3 F_at (zae (dVar 0) (zae (dVar 1) (zae (dVar 2) (mNil))))))
 (sSeq (zdm (zeT (dVar 3)) zfS FUEL)
 (sRet (dVar 2))))
def F_au:List D->Option D:=runD N_au g_au
abbrev Saw:Stmt:=top 35
abbrev N_aw:List Str:=["wishes", "ranks"]
theorem Haw:FnNm (zal Saw) N_aw ["worths_within", "best_by"]:=zaV (by decide +kernel)
def g_aw:SM :=
 sRet (dFun 2 F_au (zae (dVar 0) (zae (dFun 2 F_av (zae (dVar 0) (zae (dVar 1) (mNil)))) (mNil))))
def F_aw:List D->Option D:=runD N_aw g_aw
abbrev Sax:Stmt:=top 36
abbrev N_ax:List Str:=["wishes", "ranks"]
theorem Hax:FnNm (zal Sax) N_ax ["level_dealing", "len"]:=zaV (by decide +kernel)
def g_ax:SM :=
 sRet (zbg oLen (zae (mMap PyData.list (zcm (za2 (dFun 2 F_aw (zae (dVar 0) (zae (dVar 1) (mNil))))) 1 (gN 2) (mMap (fun d=>!isNon d) (dVar 2)) (dVar 2))) (mNil)))
def F_ax:List D->Option D:=runD N_ax g_ax
abbrev Sbl:Stmt:=top 52
abbrev N_bl:List Str:=["_law_cell", "_law_salt", "_law_digits"]
theorem Hbl:FnNm (zal Sbl) N_bl ["_law_numbers"]:=zaV (by decide +kernel)
def g_bl:SM :=
 sSeq (sSet 2 (dFun 3 F_bc (zae (dVar 0) (zae (dVar 1) (zae (mLst (zae (zah (.int 8)) (zae (dBin oPow (zah (.int 10)) (zah (.int 18))) (mNil)))) (mNil))))))
 (sRet (dBin oIx (mLst (zae (zah (.int 0)) (zae (zah (.int 1)) (zae (zah (.int 2)) (zae (zah (.int 3)) (zae (zah (.int 4)) (zae (zah (.int 5)) (zae (zah (.int 6)) (zae (dBin oAdd (zah (.int 6)) (dIxN 2 (zah (.int 1)))) (mNil)))))))))) (dIxN 2 (zah (.int 0)))))
def F_bl:List D->Option D:=runD N_bl g_bl
abbrev Sbd:Stmt:=top 44
abbrev N_bd:List Str:=["_law_script", "_law_at", "_law_most_things", "_law_most_askers", "_law_most_ranks", "_law_sizes", "_law_digits", "_law_copies", "_law_lists", "_law_asker", "_law_cell", "_law_places", "_law_ranks_here", "_law_rank", "_law_row"]
theorem Hbd:FnNm (zal Sbd) N_bd ["range", "len", "_law_numbers", "_law_cell_at"]:=zaV (by decide +kernel)
def zhw:SM :=
 sSeq (zbQ 14 (zcm (zel (zae (zb1 7) (mNil))) 1 (gN 15) (dBin oEq (dIxN 11 (dVar 15)) (dVar 13)) (dVar 15)))
 (sIf (zby oNe 14 (mLst (mNil)))
 (sApp 12 (dBin oIx (mLst (zae (dVar 14) (zae (dRev (dVar 14) (zah none) (zah none) (zas (dNeg (zah (.int 1))) fun x=>mOpt (zcq x))) (mNil)))) (dIxN 11 (dNeg (zah (.int 1))))))
 (sNx))
def zhx:SM :=
 sSeq (sSet 10 (dFun 2 F_bb (zae (dVar 0) (zae (dBin oAdd (dBin oAdd (dVar 1) (zah (.int 1))) (dVar 9)) (mNil)))))
 (sSeq (sSet 11 (dFun 3 F_bc (zae (dVar 10) (zae (dBin oAdd (dBin oAdd (dBin oMul (zah (.int 11)) (dVar 1)) (dBin oMul (zah (.int 3)) (dVar 9))) (zah (.int 1))) (zae (dBin oAdd (dBin oMul (mLst (zae (dBin oAdd (dVar 4) (zah (.int 1))) (mNil))) (dVar 2)) (mLst (zae (zah (.int 2)) (mNil)))) (mNil))))))
 (sSeq (zbQ 12 (zas (mNil) fun xs=>if xs.length<=1000000 then zah xs else fun _=>.bad))
 (sSeq (sFor (zlD (zae (zah (.int 1)) (zae (dBin oAdd (dVar 4) (zah (.int 1))) (mNil)))) (gN 13) zhw)
 (sApp 8 (dVar 12)))))
def g_bd:SM :=
 sSeq (sSet 5 (dBin oAdd (mLst (zae (dVar 2) (zae (dVar 3) (mNil)))) (dBin oMul (mLst (zae (zah (.int 11)) (mNil))) (dVar 2))))
 (sSeq (sSet 6 (dFun 3 F_bc (zae (dFun 2 F_bb (zae (dVar 0) (zae (dVar 1) (mNil)))) (zae (dVar 1) (zae (dVar 5) (mNil))))))
 (sSeq (zbQ 7 (zcm (za2 (dSlA (dVar 6) (zas (zah (.int 2)) fun x=>mOpt (zcq x)) (zas (dBin oAdd (zah (.int 3)) (dIxN 6 (zah (.int 0)))) fun x=>mOpt (zcq x)))) 1 (gN 15) (zah true) (dBin oIx (mLst (zae (zah (.int 1)) (zae (zah (.int 1)) (zae (zah (.int 2)) (zae (zah (.int 0)) (zae (zah (.int 3)) (zae (zah (.int 7)) (zae (zah (.int 1)) (zae (zah (.int 4)) (zae (zah (.int 5)) (zae (zah (.int 6)) (zae (zah (.int 1)) (mNil))))))))))))) (dVar 15))))
 (sSeq (zbQ 8 (zas (mNil) fun xs=>if xs.length<=1000000 then zah xs else fun _=>.bad))
 (sSeq (sFor (zel (zae (dBin oAdd (zah (.int 1)) (dIxN 6 (zah (.int 1)))) (mNil))) (gN 9) zhx)
 (sRet (mTup (zae (dVar 7) (zae (dVar 8) (mNil)))))))))
def F_bd:List D->Option D:=runD N_bd g_bd
abbrev Sbo:Stmt:=top 55
abbrev N_bo:List Str:=["_law_script", "_law_wishes_here", "_law_ranks_here", "_law_level", "_law_dealing", "_law_size", "_law_most", "_law_k", "_law_cell", "_law_cover_here", "_law_many"]
theorem Hbo:FnNm (zal Sbo) N_bo ["_law_cell_at", "enumerate", "_law_served", "max", "list", "lets_cover", "size_of", "_law_cover", "_law_dealt", "_law_near", "len", "_law_all", "level_of", "_law_ranks", "_law_wishes"]:=zaV (by decide +kernel)
def zhy:SM :=
 sSeq (sIf (dBin oEq (dBin oMod (dVar 7) (zah (.int 3))) (zah (.int 0)))
 (sSeq (sSet 9 (dFun 4 F_bk (zae (dVar 1) (zae (dVar 2) (zae (dVar 8) (zae (dBin oAdd (zah (.int 31)) (dVar 7)) (mNil)))))))
 (sIf (zbN (dFun 3 F_az (zae (dVar 1) (zae (dVar 2) (zae (mTup (zae (mMap PyData.list (zas (zae (dIxN 9 (zah (.int 0))) (mNil)) fun xs=>mOpt (zc1 xs))) (zae (mMap PyData.list (zas (zae (dIxN 9 (zah (.int 1))) (mNil)) fun xs=>mOpt (zc1 xs))) (mNil)))) (mNil))))))
 (sSet 5 (dFun 2 F_ba (zae (dVar 1) (zae (dVar 9) (mNil)))))
 (sNx)))
 (sIf (dBin oEq (dBin oMod (dVar 7) (zah (.int 3))) (zah (.int 1)))
 (sSet 4 (dFun 3 F_bf (zae (dVar 1) (zae (dVar 8) (zae (dBin oAdd (zah (.int 31)) (dVar 7)) (mNil))))))
 (sSet 4 (dFun 4 F_bi (zae (dVar 1) (zae (dVar 4) (zae (dVar 8) (zae (dBin oAdd (zah (.int 31)) (dVar 7)) (mNil)))))))))
 (sSeq (sSet 10 (zbg zix (zae (dVar 6) (zae (dFun 3 F_bm (zae (dVar 1) (zae (dVar 2) (zae (dVar 4) (mNil))))) (mNil)))))
 (sIf (mOr (zby (oIB fun i j=>decide (j < i)) 10 (dVar 5)) (mOr (zby (oIB fun i j=>decide (j < i)) 3 (dVar 5)) (zby (oIB fun i j=>decide (j < i)) 10 (dVar 3))))
 (sRet (zah (.bool false)))
 (sNx)))
def g_bo:SM :=
 sSeq (sSet 1 (dFun 5 F_bd (zae (dVar 0) (zae (zah (.int 1)) (zae (zah (.int 6)) (zae (zah (.int 7)) (zae (zah (.int 5)) (mNil))))))))
 (sSeq (sSet 2 (dFun 2 F_bl (zae (dFun 2 F_bb (zae (dVar 0) (zae (zah (.int 0)) (mNil)))) (zae (zah (.int 5)) (mNil)))))
 (sSeq (sSet 3 (dFun 2 F_ax (zae (dVar 1) (zae (dVar 2) (mNil)))))
 (sSeq (sSet 4 (dFun 3 F_bf (zae (dVar 1) (zae (dFun 2 F_bb (zae (dVar 0) (zae (zah (.int 3)) (mNil)))) (zae (zah (.int 2)) (mNil))))))
 (sSeq (sSet 5 (zbg oLen (zae (dIxN 1 (zah (.int 1))) (mNil))))
 (sSeq (sSet 6 (zah (.int 0)))
 (sSeq (sIf (mAnd (dBin (oIB fun i j=>decide (i < j)) (zbg oLen (zae (dIxN 1 (zah (.int 0))) (mNil))) (zah (.int 4))) (dBin (oIB fun i j=>decide (i < j)) (zbg oLen (zae (dIxN 1 (zah (.int 1))) (mNil))) (zah (.int 4))))
 (sSet 6 (zbg ziK (zae (mMap PyData.list (zcm (za2 (dFun 1 F_bn (zae (dVar 1) (mNil)))) 1 (gN 11) (zah true) (dFun 3 F_bm (zae (dVar 1) (zae (dVar 2) (zae (dVar 11) (mNil))))))) (mNil))))
 (sNx))
 (sSeq (sFor (zcY (zae (dBin oAdd (mLst (zae (dFun 2 F_bb (zae (dVar 0) (zae (zah (.int 2)) (mNil)))) (mNil))) (dSlA (dVar 0) (zas (zah (.int 9)) fun x=>mOpt (zcq x)) (zas (zah (.int 63)) fun x=>mOpt (zcq x)))) (mNil))) (gT 2 (gNC (gN 7) (gNC (gN 8) (gN0)))) zhy)
 (sRet (zah (.bool true))))))))))
def F_bo:List D->Option D:=runD N_bo g_bo
section
variable {P:Program} {w:World} {K:PySem.W.Frag} {mg:Str->Option Value} {base:Heap} {f:Addr} {fd:FuncData} (T:Txt K mg)
include T
theorem Kbb (F:Fun K "_law_cell_at" "_law_cell_at" Sbb f fd):FnOk P w K mg base CX0 1 f fd ["_law_script", "_law_k"] (spD K 2 F_bb) :=
 okD (k:=0) (g:=g_bb) F (fq Hbb 2) rfl fun cdv A outer s H E B G0 hr =>
 have hu:=hr.units
 have hgd:=hr.gd
 (zak (zbz (zbS B_lt (pq Hbb 1) (za3 (gq Hbb 0) T.b_len (pq Hbb 0)) (zaZ _))
 (zao (zaB (zaq (pq Hbb 0) (zac (pq Hbb 1)) (fun _ _=>rfl))))
 za8)
 (zao (zaB zaj)))
theorem Kbj (F:Fun K "_law_rows" "_law_rows" Sbj f fd):FnOk P w K mg base CX0 1 f fd ["_law_wishes_here", "_law_ranks_here"] (spD K 2 F_bj) :=
 okD (k:=0) (g:=g_bj) F (fq Hbj 2) rfl fun cdv A outer s H E B G0 hr =>
 have hu:=hr.units
 have hgd:=hr.gd
 (zao (zaB (zbA (zdk (zal Sbj) N_bj ["_law_wishes_here", "_law_ranks_here", "_law_some"] 1 zbc rfl (zbD (zaq (pq Hbj 0) zaj (fun _ _=>rfl))) (fun cl C s0 H0 ex=>⟨fun B' G'=>(zan (zam (i:=2) (show (["_law_wishes_here", "_law_ranks_here", "_law_some"]:List Str).Nodup by decide +kernel) rfl (zaN rfl) (.inr (za6 rfl)))),fun B' G'=>zbR,(zaP rfl rfl rfl fun B' G'=>(zav (zmB rfl) (zfi rfl) T.b_sum PyProof.Rows.boot_sum (zaa (zbj (zac (pvb 2)) zcb (zbs (zac (pvb 1)))) (zaa (zaX zaf) zaf))))⟩) rfl rfl (by decide +kernel)))))
theorem Kbm (d_bj:Def P w K mg base "_law_rows" 1 2 F_bj) (F:Fun K "_law_served" "_law_served" Sbm f fd):FnOk P w K mg base CX0 2 f fd ["_law_wishes_here", "_law_ranks_here", "_law_dealing"] (spD K 3 F_bm) :=
 okD (k:=1) (g:=g_bm) F (fq Hbm 3) rfl fun cdv A outer s H E B G0 hr =>
 have hu:=hr.units
 have hgd:=hr.gd
 (zak (zaI (i:=3) (nq Hbm) rfl (lq Hbm 3) (pdf d_bj hr (gq Hbm 2) (zaa (zac (pq Hbm 0)) (zaa (zac (pq Hbm 1)) zaf))))
 (zao (zaB (zav zcz (gq Hbm 1) T.b_len boot_len (zaa (zbA (zdk (zal Sbm) N_bm ["_law_wishes_here", "_law_ranks_here", "_law_dealing", "_law_rows_here", "_law_asker", "_law_thing"] 2 zbc rfl (zcj (gq Hbm 0) T.b_enumerate (zaa (zac (pq Hbm 2)) zaf)) (fun cl C s0 H0 ex=>⟨fun B' G'=>(zbo rfl (zat (zan (zam (i:=4) (show (["_law_wishes_here", "_law_ranks_here", "_law_dealing", "_law_rows_here", "_law_asker", "_law_thing"]:List Str).Nodup by decide +kernel) rfl (zaN rfl) (.inr (za6 rfl)))) (zat (zan (zam (i:=5) (show (["_law_wishes_here", "_law_ranks_here", "_law_dealing", "_law_rows_here", "_law_asker", "_law_thing"]:List Str).Nodup by decide +kernel) rfl (zaN rfl) (.inr (za6 rfl)))) zbn))),fun B' G'=>(zcM (zbS (B_in hu) (pvb 5) (zaq (pvb 3) (zac (pvb 4)) (fun _ _=>rfl)) rfl)),(zaP rfl rfl rfl fun B' G'=>(zac (pvb 4)))⟩) rfl rfl (by decide +kernel))) zaf)))))
theorem Kaa (F:Fun K "is_whole" "is_whole" Saa f fd):FnOk P w K mg base CX0 1 f fd ["thing"] (spD K 1 F_aa) :=
 okD (k:=0) (g:=g_aa) F (fq Haa 1) rfl fun cdv A outer s H E B G0 hr =>
 have hu:=hr.units
 have hgd:=hr.gd
 (zao (zaB (zhc (zbd (c := "int") (by decide) (gq Haa 0) T.b_isinstance (gq Haa 1) T.b_int (by decide +kernel) (zac (pq Haa 0)) (by decide) (by decide)) (zfC (zjD (zbd (c := "bool") (by decide) (gq Haa 0) T.b_isinstance (gq Haa 2) T.b_bool (by decide +kernel) (zac (pq Haa 0)) (by decide) (by decide)))))))
theorem Kab (d_aa:Def P w K mg base "is_whole" 1 1 F_aa) (F:Fun K "is_number_below" "is_number_below" Sab f fd):FnOk P w K mg base CX0 2 f fd ["thing", "many"] (spD K 2 F_ab) :=
 okD (k:=1) (g:=g_ab) F (fq Hab 2) rfl fun cdv A outer s H E B G0 hr =>
 have hu:=hr.units
 have hgd:=hr.gd
 (zao (zaB (zhc (pdf d_aa hr (gq Hab 0) (zaa (zac (pq Hab 0)) zaf)) (zfC (zjB B_le B_lt zaj (zac (pq Hab 0)) (zac (pq Hab 1)))))))
theorem Kay (d_ab:Def P w K mg base "is_number_below" 2 2 F_ab) (F:Fun K "is_rising" "is_rising" Say f fd):FnOk P w K mg base CX0 3 f fd ["thing", "many"] (spD K 2 F_ay) :=
 okD (k:=2) (g:=g_ay) F (fq Hay 2) rfl fun cdv A outer s H E B G0 hr =>
 have hu:=hr.units
 have hgd:=hr.gd
 (zak (zbz (PW.pt (zct (zbF (zbG (zbd (c := "list") (by decide) (gq Hay 2) T.b_isinstance (gq Hay 3) T.b_list (by decide +kernel) (zac (pq Hay 0)) (by decide) (by decide)))) (zb9 (zbF (zbG (zav (zjQ rfl) (gq Hay 1) T.b_all PyProof.Rows.boot_all (zaa (zbA (zdk (zal Say) N_ay ["thing", "many", "number"] 1 zbc rfl (zbD (zac (pq Hay 0))) (fun cl C s0 H0 ex=>⟨fun B' G'=>(zan (zam (i:=2) (show (["thing", "many", "number"]:List Str).Nodup by decide +kernel) rfl (zaN rfl) (.inr (za6 rfl)))),fun B' G'=>zbR,(zaP rfl rfl rfl fun B' G'=>(pdf d_ab hr (zfi rfl) (zaa (zac (pvb 2)) (zaa (zac (pvb 1)) zaf))))⟩) rfl rfl (by decide +kernel))) zaf)))))))
 (zao (zaB zch))
 za8)
 (zao (zaB (zav (zjQ rfl) (gq Hay 1) T.b_all PyProof.Rows.boot_all (zaa (zbA (zdk (zal Say) N_ay ["thing", "many", "ahead", "behind"] 2 zbc rfl (zoB (gq Hay 0) T.b_zip (zaa (zac (pq Hay 0)) (zaa (zbj (zac (pq Hay 0)) (zbs zaj) zcb) zaf))) (fun cl C s0 H0 ex=>⟨fun B' G'=>(zbo rfl (zat (zan (zam (i:=2) (show (["thing", "many", "ahead", "behind"]:List Str).Nodup by decide +kernel) rfl (zaN rfl) (.inr (za6 rfl)))) (zat (zan (zam (i:=3) (show (["thing", "many", "ahead", "behind"]:List Str).Nodup by decide +kernel) rfl (zaN rfl) (.inr (za6 rfl)))) zbn))),fun B' G'=>zbR,(zaP rfl rfl rfl fun B' G'=>(zhh B_lt (pvb 2) (zac (pvb 3)) (zaZ _)))⟩) rfl rfl (by decide +kernel))) zaf)))))
theorem Kad (d_ab:Def P w K mg base "is_number_below" 2 2 F_ab) (F:Fun K "is_rank" "is_rank" Sad f fd):FnOk P w K mg base CX0 3 f fd ["thing", "things"] (spD K 2 F_ad) :=
 okD (k:=2) (g:=g_ad) F (fq Had 2) rfl fun cdv A outer s H E B G0 hr =>
 have hu:=hr.units
 have hgd:=hr.gd
 (zak (zbz (PW.pt (zct (zbF (zbG (zbd (c := "list") (by decide) (gq Had 1) T.b_isinstance (gq Had 2) T.b_list (by decide +kernel) (zac (pq Had 0)) (by decide) (by decide)))) (zb9 (za7 (B_eq hu) (za3 (gq Had 3) T.b_len (pq Had 0)) zaj (zaZ _)))))
 (zao (zaB zch))
 za8)
 (zao (zaB (zav (zjQ rfl) (gq Had 0) T.b_all PyProof.Rows.boot_all (zaa (zbA (zdk (zal Sad) N_ad ["thing", "things", "number"] 1 zbc rfl (zbD (zac (pq Had 0))) (fun cl C s0 H0 ex=>⟨fun B' G'=>(zan (zam (i:=2) (show (["thing", "things", "number"]:List Str).Nodup by decide +kernel) rfl (zaN rfl) (.inr (za6 rfl)))),fun B' G'=>zbR,(zaP rfl rfl rfl fun B' G'=>(pdf d_ab hr (zfi rfl) (zaa (zac (pvb 2)) (zaa (zac (pvb 1)) zaf))))⟩) rfl rfl (by decide +kernel))) zaf)))))
theorem Kae (d_ad:Def P w K mg base "is_rank" 3 2 F_ad) (F:Fun K "is_asker_list" "is_asker_list" Sae f fd):FnOk P w K mg base CX0 4 f fd ["thing", "things"] (spD K 2 F_ae) :=
 okD (k:=3) (g:=g_ae) F (fq Hae 2) rfl fun cdv A outer s H E B G0 hr =>
 have hu:=hr.units
 have hgd:=hr.gd
 (zak (zbz (PW.pt (zct (zbF (zbG (zbd (c := "list") (by decide) (gq Hae 3) T.b_isinstance (gq Hae 4) T.b_list (by decide +kernel) (zac (pq Hae 0)) (by decide) (by decide)))) (zb9 (za7 B_gt (za3 (gq Hae 0) T.b_len (pq Hae 0)) (zlL (gq Hae 5) T.c_MOST_RANKS) (zaZ _)))))
 (zao (zaB zch))
 za8)
 (zak (zbz (zbF (zbG (zav (zjQ rfl) (gq Hae 2) T.b_all PyProof.Rows.boot_all (zaa (zbA (zdk (zal Sae) N_ae ["thing", "things", "wished", "rank"] 1 zbc rfl (zbD (zac (pq Hae 0))) (fun cl C s0 H0 ex=>⟨fun B' G'=>(zan (zam (i:=3) (show (["thing", "things", "wished", "rank"]:List Str).Nodup by decide +kernel) rfl (zaN rfl) (.inr (za6 rfl)))),fun B' G'=>zbR,(zaP rfl rfl rfl fun B' G'=>(pdf d_ad hr (zfi rfl) (zaa (zac (pvb 3)) (zaa (zac (pvb 1)) zaf))))⟩) rfl rfl (by decide +kernel))) zaf))))
 (zao (zaB zch))
 za8)
 (zak (sD_1 (j:=2) (zal Sae) N_ae ["thing", "things", "wished", "rank", "number"] 2 zjO (nq Hae) rfl rfl rfl (zbD (zac (pq Hae 0))) (fun cl C s0 H0 ex=>⟨fun B' G'=>(zan (zam (i:=3) (show (["thing", "things", "wished", "rank", "number"]:List Str).Nodup by decide +kernel) rfl (zaN rfl) (.inr (za6 rfl)))),fun B' G'=>zbR,(zeI rfl rfl rfl rfl (fun _=>rfl) (fun B' G'=>(zbD (zac (pvb 3)))) (fun B' G'=>(zan (zam (i:=4) (show (["thing", "things", "wished", "rank", "number"]:List Str).Nodup by decide +kernel) rfl (zaN rfl) (.inr (za6 rfl))))) (fun B' G'=>zbR) (zaP rfl rfl rfl fun B' G'=>(zac (pvb 4))))⟩) rfl rfl (by decide +kernel))
 (zao (zaB (zna (B_eq hu) (ziF rfl (gq Hae 0) T.b_len (gq Hae 1) T.b_set (zaa (zac (pq Hae 2)) zaf)) (za3 (gq Hae 0) T.b_len (pq Hae 2)) (zaZ _)))))))
theorem Kaf (d_ae:Def P w K mg base "is_asker_list" 4 2 F_ae) (F:Fun K "look_at_lists" "look_at_lists" Saf f fd):FnOk P w K mg base CX0 5 f fd ["lists", "things"] (spD K 2 F_af) :=
 okD (k:=4) (g:=g_af) F (fq Haf 2) rfl fun cdv A outer s H E B G0 hr =>
 have hu:=hr.units
 have hgd:=hr.gd
 (zak (zbz (PW.pt (zct (zbF (zbG (zbd (c := "list") (by decide) (gq Haf 2) T.b_isinstance (gq Haf 3) T.b_list (by decide +kernel) (zac (pq Haf 0)) (by decide) (by decide)))) (zb9 (zbF (zgi B_le B_le zaj (za3 (gq Haf 4) T.b_len (pq Haf 0)) (zlL (gq Haf 5) T.c_MOST_ASKERS))))))
 (zao zdw)
 za8)
 (zao (zbH PassesOwn.never rfl (zcj (gq Haf 0) T.b_enumerate (zaa (zac (pq Haf 0)) zaf)) (zbo rfl (zat (zan (zam (i:=2) (nq Haf) rfl (lq Haf 2))) (zat (zan (zam (i:=3) (nq Haf) rfl (lq Haf 3))) zbn)))
 (zao (zbz (zbF (zbG (pdf d_ae hr (gq Haf 1) (zaa (zac (pq Haf 3)) (zaa (zac (pq Haf 1)) zaf)))))
 (zao zdw)
 za8)))))
theorem Kac (d_ab:Def P w K mg base "is_number_below" 2 2 F_ab) (F:Fun K "look_at_copies" "look_at_copies" Sac f fd):FnOk P w K mg base CX0 3 f fd ["copies"] (spD K 1 F_ac) :=
 okD (k:=2) (g:=g_ac) F (fq Hac 1) rfl fun cdv A outer s H E B G0 hr =>
 have hu:=hr.units
 have hgd:=hr.gd
 (zak (zbz (PW.pt (zct (zbF (zbG (zbd (c := "list") (by decide) (gq Hac 3) T.b_isinstance (gq Hac 4) T.b_list (by decide +kernel) (zac (pq Hac 0)) (by decide) (by decide)))) (zb9 (zbF (zgi B_le B_le zaj (za3 (gq Hac 5) T.b_len (pq Hac 0)) (zlL (gq Hac 6) T.c_MOST_THINGS))))))
 (zao zdw)
 za8)
 (zao (zbH PassesOwn.never rfl (zcj (gq Hac 0) T.b_enumerate (zaa (zac (pq Hac 0)) zaf)) (zbo rfl (zat (zan (zam (i:=1) (nq Hac) rfl (lq Hac 1))) (zat (zan (zam (i:=2) (nq Hac) rfl (lq Hac 2))) zbn)))
 (zao (zbz (zbF (zbG (pdf d_ab hr (gq Hac 2) (zaa (zac (pq Hac 2)) (zaa (zaF zbh (zlL (gq Hac 1) T.c_MOST_COPIES) zaj) zaf)))))
 (zao zdw)
 za8)))))
theorem Kag (d_af:Def P w K mg base "look_at_lists" 5 2 F_af) (d_ac:Def P w K mg base "look_at_copies" 3 1 F_ac) (F:Fun K "look_at_wishes" "look_at_wishes" Sag f fd):FnOk P w K mg base CX0 6 f fd ["thing"] (spD K 1 F_ag) :=
 okD (k:=5) (g:=g_ag) F (fq Hag 1) rfl fun cdv A outer s H E B G0 hr =>
 have hu:=hr.units
 have hgd:=hr.gd
 (zak (zbz (PW.pt (zct (zbF (zbG (zbd (c := "tuple") (by decide) (gq Hag 3) T.b_isinstance (gq Hag 4) T.b_tuple (by decide +kernel) (zac (pq Hag 0)) (by decide) (by decide)))) (zb9 (za7 (B_ne hu) (za3 (gq Hag 0) T.b_len (pq Hag 0)) zaj (zaZ _)))))
 (zao zdw)
 za8)
 (zak (zgl (zac (pq Hag 0)) (zbo rfl (zat (zan (zam (i:=1) (nq Hag) rfl (lq Hag 1))) (zat (zan (zam (i:=2) (nq Hag) rfl (lq Hag 2))) zbn))))
 (zak (zeE (pdf d_ac hr (gq Hag 2) (zaa (zac (pq Hag 1)) zaf)))
 (zao (zeE (pdf d_af hr (gq Hag 1) (zaa (zac (pq Hag 2)) (zaa (za3 (gq Hag 0) T.b_len (pq Hag 1)) zaf))))))))
theorem Kai (d_ag:Def P w K mg base "look_at_wishes" 6 1 F_ag) (F:Fun K "all_wishes" "all_wishes" Sai f fd):FnOk P w K mg base CX0 7 f fd ["wishes"] (spD K 1 F_ai) :=
 okD (k:=6) (g:=g_ai) F (fq Hai 1) rfl fun cdv A outer s H E B G0 hr =>
 have hu:=hr.units
 have hgd:=hr.gd
 (zak (zeE (pdf d_ag hr (gq Hai 2) (zaa (zac (pq Hai 0)) zaf)))
 (zao (zaB (zav zmF (gq Hai 1) T.b_sorted PyProof.Rows.boot_sorted (zaa (zbA (zdk (zal Sai) N_ai ["wishes", "asker", "ranks", "rank", "thing"] 4 zjP rfl (zcj (gq Hai 0) T.b_enumerate (zaa (zaq (pq Hai 0) zaj (fun _ _=>rfl)) zaf)) (fun cl C s0 H0 ex=>⟨fun B' G'=>(zbo rfl (zat (zan (zam (i:=1) (show (["wishes", "asker", "ranks", "rank", "thing"]:List Str).Nodup by decide +kernel) rfl (zaN rfl) (.inr (za6 rfl)))) (zat (zan (zam (i:=2) (show (["wishes", "asker", "ranks", "rank", "thing"]:List Str).Nodup by decide +kernel) rfl (zaN rfl) (.inr (za6 rfl)))) zbn))),fun B' G'=>zbR,(zeI rfl rfl rfl rfl (fun _=>rfl) (fun B' G'=>(zbD (zac (pvb 2)))) (fun B' G'=>(zan (zam (i:=3) (show (["wishes", "asker", "ranks", "rank", "thing"]:List Str).Nodup by decide +kernel) rfl (zaN rfl) (.inr (za6 rfl))))) (fun B' G'=>zbR) (zeI rfl rfl rfl rfl (fun _=>rfl) (fun B' G'=>(zbD (zac (pvb 3)))) (fun B' G'=>(zan (zam (i:=4) (show (["wishes", "asker", "ranks", "rank", "thing"]:List Str).Nodup by decide +kernel) rfl (zaN rfl) (.inr (za6 rfl))))) (fun B' G'=>zbR) (zaP rfl rfl rfl fun B' G'=>(zci (zaa (zac (pvb 1)) (zaa (zac (pvb 4)) zaf))))))⟩) rfl rfl (by decide +kernel))) zaf)))))
theorem Kah (F:Fun K "rank_in" "rank_in" Sah f fd):FnOk P w K mg base CX0 1 f fd ["ranks", "thing"] (spD K 2 F_ah) :=
 okD (k:=0) (g:=g_ah) F (fq Hah 2) rfl fun cdv A outer s H E B G0 hr =>
 have hu:=hr.units
 have hgd:=hr.gd
 (zak (zbH PassesOwn.never rfl (zlR (gq Hah 0) T.b_enumerate (zaa (zac (pq Hah 0)) zaf)) (zbo rfl (zat (zan (zam (i:=2) (nq Hah) rfl (lq Hah 2))) (zat (zan (zam (i:=3) (nq Hah) rfl (lq Hah 3))) zbn)))
 (zao (zbz (zbS (B_in hu) (pq Hah 1) (zac (pq Hah 3)) rfl)
 (zao (zaB (zac (pq Hah 2))))
 za8)))
 (zao (zaB zaj)))
theorem Kav (d_ai:Def P w K mg base "all_wishes" 7 1 F_ai) (d_ah:Def P w K mg base "rank_in" 1 2 F_ah) (F:Fun K "worths_within" "worths_within" Sav f fd):FnOk P w K mg base CX0 8 f fd ["wishes", "ranks"] (spD K 2 F_av) :=
 okD (k:=7) (g:=g_av) F (fq Hav 2) rfl fun cdv A outer s H E B G0 hr =>
 have hu:=hr.units
 have hgd:=hr.gd
 (zao (zaB (zbA (zdk (zal Sav) N_av ["wishes", "ranks", "asker", "thing"] 2 zbc rfl (zbD (pdf d_ai hr (gq Hav 0) (zaa (zac (pq Hav 0)) zaf))) (fun cl C s0 H0 ex=>⟨fun B' G'=>(zbo rfl (zat (zan (zam (i:=2) (show (["wishes", "ranks", "asker", "thing"]:List Str).Nodup by decide +kernel) rfl (zaN rfl) (.inr (za6 rfl)))) (zat (zan (zam (i:=3) (show (["wishes", "ranks", "asker", "thing"]:List Str).Nodup by decide +kernel) rfl (zaN rfl) (.inr (za6 rfl)))) zbn))),fun B' G'=>(zcM (za7 B_le (pdf d_ah hr (zfi rfl) (zaa (zdl (zaq (pvb 0) zaj (fun _ _=>rfl)) (zac (pvb 2)) (fun _ _=>rfl)) (zaa (zac (pvb 3)) zaf))) (zac (pvb 1)) (zaZ _))),(zaP rfl rfl rfl fun B' G'=>(zci (zaa (zac (pvb 2)) (zaa (zac (pvb 3)) (zaa zaj zaf)))))⟩) rfl rfl (by decide +kernel)))))
theorem Kaz (d_ay:Def P w K mg base "is_rising" 3 2 F_ay) (d_av:Def P w K mg base "worths_within" 8 2 F_av) (F:Fun K "lets_cover" "lets_cover" Saz f fd):FnOk P w K mg base CX0 9 f fd ["wishes", "ranks", "thing"] (spD K 3 F_az) :=
 okD (k:=8) (g:=g_az) F (fq Haz 3) rfl fun cdv A outer s H E B G0 hr =>
 have hu:=hr.units
 have hgd:=hr.gd
 (zak (zaI (i:=3) (nq Haz) rfl (lq Haz 3) (pdf d_av hr (gq Haz 5) (zaa (zac (pq Haz 0)) (zaa (zac (pq Haz 1)) zaf))))
 (zak (zbz (PW.pt (zct (zbF (zbG (zbd (c := "tuple") (by decide) (gq Haz 3) T.b_isinstance (gq Haz 4) T.b_tuple (by decide +kernel) (zac (pq Haz 2)) (by decide) (by decide)))) (zb9 (za7 (B_ne hu) (za3 (gq Haz 1) T.b_len (pq Haz 2)) zaj (zaZ _)))))
 (zao (zaB zch))
 za8)
 (zak (zgl (zac (pq Haz 2)) (zbo rfl (zat (zan (zam (i:=4) (nq Haz) rfl (lq Haz 4))) (zat (zan (zam (i:=5) (nq Haz) rfl (lq Haz 5))) zbn))))
 (zak (zbz (PW.pt (zct (zbF (zbG (pdf d_ay hr (gq Haz 2) (zaa (zac (pq Haz 4)) (zaa (zav zcz (gq Haz 1) T.b_len boot_len (zaa (zaq (pq Haz 0) zaj (fun _ _=>rfl)) zaf)) zaf))))) (zb9 (zbF (zbG (pdf d_ay hr (gq Haz 2) (zaa (zac (pq Haz 5)) (zaa (zav zcz (gq Haz 1) T.b_len boot_len (zaa (zaq (pq Haz 0) zaj (fun _ _=>rfl)) zaf)) zaf))))))))
 (zao (zaB zch))
 za8)
 (zao (zaB (zav (zjQ rfl) (gq Haz 0) T.b_all PyProof.Rows.boot_all (zaa (zbA (zdk (zal Saz) N_az ["wishes", "ranks", "thing", "worths", "askers", "things", "asker", "number", "worth"] 3 zbc rfl (zbD (zac (pq Haz 3))) (fun cl C s0 H0 ex=>⟨fun B' G'=>(zbo rfl (zat (zan (zam (i:=6) (show (["wishes", "ranks", "thing", "worths", "askers", "things", "asker", "number", "worth"]:List Str).Nodup by decide +kernel) rfl (zaN rfl) (.inr (za6 rfl)))) (zat (zan (zam (i:=7) (show (["wishes", "ranks", "thing", "worths", "askers", "things", "asker", "number", "worth"]:List Str).Nodup by decide +kernel) rfl (zaN rfl) (.inr (za6 rfl)))) (zat (zan (zam (i:=8) (show (["wishes", "ranks", "thing", "worths", "askers", "things", "asker", "number", "worth"]:List Str).Nodup by decide +kernel) rfl (zaN rfl) (.inr (za6 rfl)))) zbn)))),fun B' G'=>zbR,(zaP rfl rfl rfl fun B' G'=>(zor (zhh (B_in hu) (pvb 6) (zac (pvb 4)) rfl) (zfC (zhh (B_in hu) (pvb 7) (zac (pvb 5)) rfl))))⟩) rfl rfl (by decide +kernel))) zaf))))))))
theorem Kba (d_ag:Def P w K mg base "look_at_wishes" 6 1 F_ag) (F:Fun K "size_of" "size_of" Sba f fd):FnOk P w K mg base CX0 7 f fd ["wishes", "cover"] (spD K 2 F_ba) :=
 okD (k:=6) (g:=g_ba) F (fq Hba 2) rfl fun cdv A outer s H E B G0 hr =>
 have hu:=hr.units
 have hgd:=hr.gd
 (zak (zeE (pdf d_ag hr (gq Hba 2) (zaa (zac (pq Hba 0)) zaf)))
 (zak (zgl (zac (pq Hba 1)) (zbo rfl (zat (zan (zam (i:=2) (nq Hba) rfl (lq Hba 2))) (zat (zan (zam (i:=3) (nq Hba) rfl (lq Hba 3))) zbn))))
 (zao (zaB (zaF zbh (za3 (gq Hba 0) T.b_len (pq Hba 2)) (zav (zoJ rfl) (gq Hba 1) T.b_sum PyProof.Rows.boot_sum (zaa (zbA (zdk (zal Sba) N_ba ["wishes", "cover", "askers", "things", "thing"] 1 zbc rfl (zbD (zac (pq Hba 3))) (fun cl C s0 H0 ex=>⟨fun B' G'=>(zan (zam (i:=4) (show (["wishes", "cover", "askers", "things", "thing"]:List Str).Nodup by decide +kernel) rfl (zaN rfl) (.inr (za6 rfl)))),fun B' G'=>zbR,(zaP rfl rfl rfl fun B' G'=>(zdl (zaq (pvb 0) zaj (fun _ _=>rfl)) (zac (pvb 4)) (fun _ _=>rfl)))⟩) rfl rfl (by decide +kernel))) zaf)))))))
theorem Kbc (F:Fun K "_law_numbers" "_law_numbers" Sbc f fd):FnOk P w K mg base CX0 1 f fd ["_law_cell", "_law_salt", "_law_sizes"] (spD K 3 F_bc) :=
 okD (k:=0) (g:=g_bc) F (fq Hbc 3) rfl fun cdv A outer s H E B G0 hr =>
 have hu:=hr.units
 have hgd:=hr.gd
 (zak (zaI (i:=3) (nq Hbc) rfl (lq Hbc 3) (zav (zmz rfl) (gq Hbc 2) T.b_max boot_max (zaa (zac (pq Hbc 0)) (zaa (zaF zlB (zdq zaj) (zac (pq Hbc 0))) zaf))))
 (zak (zaI (i:=4) (nq Hbc) rfl (lq Hbc 4) (zac (pq Hbc 3)))
 (zak (zb2 (i:=5) (nq Hbc) rfl (lq Hbc 5) (zcX zaf))
 (zak (zbH PassesOwn.never rfl (zb3 (gq Hbc 1) T.b_range (zaa (za3 (gq Hbc 0) T.b_len (pq Hbc 2)) zaf)) (zan (zam (i:=6) (nq Hbc) rfl (lq Hbc 6)))
 (zao (zbz (PW.pt (zdY (zbS B_ge (pq Hbc 3) (zaF zop zaj zaj) (zaZ _)) (zc9 (zbS B_gt (pq Hbc 4) zaj (zaZ _)))))
 (zak (zdx (pq Hbc 5) (zaF zei (zac (pq Hbc 4)) (zaq (pq Hbc 2) (zac (pq Hbc 6)) (fun _ _=>rfl))))
 (zao (zaI (i:=4) (nq Hbc) rfl (lq Hbc 4) (zaF zoo (zac (pq Hbc 4)) (zaq (pq Hbc 2) (zac (pq Hbc 6)) (fun _ _=>rfl))))))
 (zak (zaI (i:=7) (nq Hbc) rfl (lq Hbc 7) (zaF zei (zaF zbh (zaF zbh (zaF zbh (zac (pq Hbc 3)) (zaF zdp zaj (zac (pq Hbc 1)))) (zaF zdp (zaF zdp zaj (zac (pq Hbc 6))) (zac (pq Hbc 6)))) (zac (pq Hbc 6))) zaj))
 (zak (zaI (i:=7) (nq Hbc) rfl (lq Hbc 7) (zaF zei (zaF zdp (zac (pq Hbc 7)) zaj) zaj))
 (zak (zaI (i:=7) (nq Hbc) rfl (lq Hbc 7) (zaF zei (zaF zdp (zaF zei (zaF zdp (zac (pq Hbc 7)) (zac (pq Hbc 7))) zaj) zaj) zaj))
 (zao (zdx (pq Hbc 5) (zaF zei (zaF zoo (zac (pq Hbc 7)) zaj) (zaq (pq Hbc 2) (zac (pq Hbc 6)) (fun _ _=>rfl)))))))))))
 (zao (zaB (zac (pq Hbc 5))))))))
theorem Kbk (d_bj:Def P w K mg base "_law_rows" 1 2 F_bj) (d_bc:Def P w K mg base "_law_numbers" 1 3 F_bc) (F:Fun K "_law_cover" "_law_cover" Sbk f fd):FnOk P w K mg base CX0 2 f fd ["_law_wishes_here", "_law_ranks_here", "_law_cell", "_law_salt"] (spD K 4 F_bk) :=
 okD (k:=1) (g:=g_bk) F (fq Hbk 4) rfl fun cdv A outer s H E B G0 hr =>
 have hu:=hr.units
 have hgd:=hr.gd
 (zak (zaI (i:=4) (nq Hbk) rfl (lq Hbk 4) (zaF zbh (zaF zbh (zaF zdp (zaX (zaa zaj zaf)) (zav zcz (gq Hbk 0) T.b_len boot_len (zaa (zaq (pq Hbk 0) zaj (fun _ _=>rfl)) zaf))) (zaF zdp (zaX (zaa zaj zaf)) (zav zcz (gq Hbk 0) T.b_len boot_len (zaa (zaq (pq Hbk 0) zaj (fun _ _=>rfl)) zaf)))) (zaX (zaa zaj (zaa zaj zaf)))))
 (zak (zaI (i:=5) (nq Hbk) rfl (lq Hbk 5) (pdf d_bc hr (gq Hbk 4) (zaa (zac (pq Hbk 2)) (zaa (zac (pq Hbk 3)) (zaa (zac (pq Hbk 4)) zaf)))))
 (zak (zb2 (i:=6) (nq Hbk) rfl (lq Hbk 6) (zdk (zal Sbk) N_bk ["_law_wishes_here", "_law_ranks_here", "_law_cell", "_law_salt", "_law_sizes", "_law_digits", "_law_things", "_law_askers", "_law_asker", "_law_row", "_law_lacks", "_law_at", "_law_thing"] 1 zbc rfl (zb3 (gq Hbk 3) T.b_range (zaa (zav zcz (gq Hbk 0) T.b_len boot_len (zaa (zaq (pq Hbk 0) zaj (fun _ _=>rfl)) zaf)) zaf)) (fun cl C s0 H0 ex=>⟨fun B' G'=>(zan (zam (i:=12) (show (["_law_wishes_here", "_law_ranks_here", "_law_cell", "_law_salt", "_law_sizes", "_law_digits", "_law_things", "_law_askers", "_law_asker", "_law_row", "_law_lacks", "_law_at", "_law_thing"]:List Str).Nodup by decide +kernel) rfl (zaN rfl) (.inr (za6 rfl)))),fun B' G'=>(zcM (za7 (B_eq hu) (zaq (pvb 5) (zac (pvb 12)) (fun _ _=>rfl)) zaj (zaZ _))),(zaP rfl rfl rfl fun B' G'=>(zac (pvb 12)))⟩) rfl rfl (by decide +kernel)))
 (zak (zb2 (i:=7) (nq Hbk) rfl (lq Hbk 7) (zcX zaf))
 (zak (zbH PassesOwn.never rfl (zcj (gq Hbk 2) T.b_enumerate (zaa (pdf d_bj hr (gq Hbk 1) (zaa (zac (pq Hbk 0)) (zaa (zac (pq Hbk 1)) zaf))) zaf)) (zbo rfl (zat (zan (zam (i:=8) (nq Hbk) rfl (lq Hbk 8))) (zat (zan (zam (i:=9) (nq Hbk) rfl (lq Hbk 9))) zbn)))
 (zak (sD_1 (j:=10) (zal Sbk) N_bk ["_law_wishes_here", "_law_ranks_here", "_law_cell", "_law_salt", "_law_sizes", "_law_digits", "_law_things", "_law_askers", "_law_asker", "_law_row", "_law_lacks", "_law_at", "_law_one"] 1 zgs (nq Hbk) rfl rfl rfl (zbD (zac (pq Hbk 9))) (fun cl C s0 H0 ex=>⟨fun B' G'=>(zan (zam (i:=12) (show (["_law_wishes_here", "_law_ranks_here", "_law_cell", "_law_salt", "_law_sizes", "_law_digits", "_law_things", "_law_askers", "_law_asker", "_law_row", "_law_lacks", "_law_at", "_law_one"]:List Str).Nodup by decide +kernel) rfl (zaN rfl) (.inr (za6 rfl)))),fun B' G'=>(zcM (zbS (zoD hu) (pvb 12) (zac (pvb 6)) rfl)),(zaP rfl rfl rfl fun B' G'=>(zac (pvb 12)))⟩) rfl rfl (by decide +kernel))
 (zao (zbz (PW.pt (zct (zbS (B_ne hu) (pq Hbk 10) (zaX zaf) (zaZ _)) (zb9 (za7 (B_eq hu) (zaq (pq Hbk 5) (zaF zbh (zav zcz (gq Hbk 0) T.b_len boot_len (zaa (zaq (pq Hbk 0) zaj (fun _ _=>rfl)) zaf)) (zac (pq Hbk 8))) (fun _ _=>rfl)) zaj (zaZ _)))))
 (zao (zdx (pq Hbk 7) (zac (pq Hbk 8))))
 za8))))
 (zak (zaI (i:=11) (nq Hbk) rfl (lq Hbk 11) (zaq (pq Hbk 5) (zdq zaj) (fun _ _=>rfl)))
 (zak (zbz (PW.pt (zdY (za7 (B_eq hu) (zaq (pq Hbk 5) (zdq zaj) (fun _ _=>rfl)) zaj (zaZ _)) (zc9 (zbS B_lt (pq Hbk 11) (za3 (gq Hbk 0) T.b_len (pq Hbk 7)) (zaZ _)))))
 (zao (zaI (i:=7) (nq Hbk) rfl (lq Hbk 7) (zaF zbh (zbj (zac (pq Hbk 7)) zcb (zbs (zac (pq Hbk 11)))) (zbj (zac (pq Hbk 7)) (zbs (zaF zbh (zac (pq Hbk 11)) zaj)) zcb))))
 za8)
 (zak (zbz (PW.pt (zdY (za7 (B_eq hu) (zaq (pq Hbk 5) (zdq zaj) (fun _ _=>rfl)) zaj (zaZ _)) (zc9 (zbS B_lt (pq Hbk 11) (za3 (gq Hbk 0) T.b_len (pq Hbk 6)) (zaZ _)))))
 (zao (zaI (i:=6) (nq Hbk) rfl (lq Hbk 6) (zaF zbh (zbj (zac (pq Hbk 6)) zcb (zbs (zac (pq Hbk 11)))) (zbj (zac (pq Hbk 6)) (zbs (zaF zbh (zac (pq Hbk 11)) zaj)) zcb))))
 za8)
 (zao (zaB (zci (zaa (zac (pq Hbk 7)) (zaa (zac (pq Hbk 6)) zaf)))))))))))))
theorem Kbe (F:Fun K "_law_wished" "_law_wished" Sbe f fd):FnOk P w K mg base CX0 1 f fd ["_law_wishes_here", "_law_asker"] (spD K 2 F_be) :=
 okD (k:=0) (g:=g_be) F (fq Hbe 2) rfl fun cdv A outer s H E B G0 hr =>
 have hu:=hr.units
 have hgd:=hr.gd
 (zao (zaB (zav zmF (gq Hbe 1) T.b_sorted PyProof.Rows.boot_sorted (zaa (zav (zmB rfl) (gq Hbe 0) T.b_sum PyProof.Rows.boot_sum (zaa (zdl (zaq (pq Hbe 0) zaj (fun _ _=>rfl)) (zac (pq Hbe 1)) (fun _ _=>rfl)) (zaa (zaX zaf) zaf))) zaf))))
theorem Kbf (d_be:Def P w K mg base "_law_wished" 1 2 F_be) (d_bc:Def P w K mg base "_law_numbers" 1 3 F_bc) (F:Fun K "_law_dealt" "_law_dealt" Sbf f fd):FnOk P w K mg base CX0 2 f fd ["_law_wishes_here", "_law_cell", "_law_salt"] (spD K 3 F_bf) :=
 okD (k:=1) (g:=g_bf) F (fq Hbf 3) rfl fun cdv A outer s H E B G0 hr =>
 have hu:=hr.units
 have hgd:=hr.gd
 (zak (zb2 (i:=3) (nq Hbf) rfl (lq Hbf 3) (zfE (gq Hbf 4) T.b_list (zaa (zaq (pq Hbf 0) zaj (fun _ _=>rfl)) zaf)))
 (zak (zaI (i:=4) (nq Hbf) rfl (lq Hbf 4) (pdf d_bc hr (gq Hbf 3) (zaa (zac (pq Hbf 1)) (zaa (zac (pq Hbf 2)) (zaa (zaF zdp (zaX (zaa zaj zaf)) (zav zcz (gq Hbf 0) T.b_len boot_len (zaa (zaq (pq Hbf 0) zaj (fun _ _=>rfl)) zaf))) zaf)))))
 (zak (zb2 (i:=5) (nq Hbf) rfl (lq Hbf 5) (zcX zaf))
 (zak (zbH PassesOwn.never rfl (zb3 (gq Hbf 1) T.b_range (zaa (zav zcz (gq Hbf 0) T.b_len boot_len (zaa (zaq (pq Hbf 0) zaj (fun _ _=>rfl)) zaf)) zaf)) (zan (zam (i:=6) (nq Hbf) rfl (lq Hbf 6)))
 (zak (zaI (i:=7) (nq Hbf) rfl (lq Hbf 7) (zaF zbh (zbA (zdk (zal Sbf) N_bf ["_law_wishes_here", "_law_cell", "_law_salt", "_law_left", "_law_digits", "_law_found", "_law_asker", "_law_some", "._law_thing", "_law_thing"] 1 zgs rfl (zbD (pdf d_be hr (gq Hbf 2) (zaa (zac (pq Hbf 0)) (zaa (zac (pq Hbf 6)) zaf)))) (fun cl C s0 H0 ex=>⟨fun B' G'=>(zan (zam (i:=9) (show (["_law_wishes_here", "_law_cell", "_law_salt", "_law_left", "_law_digits", "_law_found", "_law_asker", "_law_some", "._law_thing", "_law_thing"]:List Str).Nodup by decide +kernel) rfl (zaN rfl) (.inr (za6 rfl)))),fun B' G'=>(zcM (za7 B_gt (zaq (pvb 3) (zac (pvb 9)) (fun _ _=>rfl)) zaj (zaZ _))),(zaP rfl rfl rfl fun B' G'=>(zac (pvb 9)))⟩) rfl rfl (by decide +kernel))) (zaX (zaa zdo zaf))))
 (zak (zaI (i:=8) (nq Hbf) rfl (lq Hbf 8) (zaq (pq Hbf 7) (zaF zei (zaq (pq Hbf 4) (zac (pq Hbf 6)) (fun _ _=>rfl)) (za3 (gq Hbf 0) T.b_len (pq Hbf 7))) (fun _ _=>rfl)))
 (zak (zbz (zda (zac (pq Hbf 8)))
 (zao (zdr (zaF zlB (zaq (pq Hbf 3) (zac (pq Hbf 8)) (fun _ _=>rfl)) zaj) (pq Hbf 3) (zac (pq Hbf 8))))
 za8)
 (zao (zdx (pq Hbf 5) (zac (pq Hbf 8))))))))
 (zao (zaB (zac (pq Hbf 5))))))))
theorem Kbg (F:Fun K "_law_is_number" "_law_is_number" Sbg f fd):FnOk P w K mg base CX0 1 f fd ["_law_thing"] (spD K 1 F_bg) :=
 okD (k:=0) (g:=g_bg) F (fq Hbg 1) rfl fun cdv A outer s H E B G0 hr =>
 have hu:=hr.units
 have hgd:=hr.gd
 (zao (zaB (zhc (zbd (c := "int") (by decide) (gq Hbg 0) T.b_isinstance (gq Hbg 1) T.b_int (by decide +kernel) (zac (pq Hbg 0)) (by decide) (by decide)) (zfC (zjD (zbd (c := "bool") (by decide) (gq Hbg 0) T.b_isinstance (gq Hbg 2) T.b_bool (by decide +kernel) (zac (pq Hbg 0)) (by decide) (by decide)))))))
theorem Kbh (d_bg:Def P w K mg base "_law_is_number" 1 1 F_bg) (d_be:Def P w K mg base "_law_wished" 1 2 F_be) (F:Fun K "_law_is_dealing" "_law_is_dealing" Sbh f fd):FnOk P w K mg base CX0 2 f fd ["_law_wishes_here", "_law_thing"] (spD K 2 F_bh) :=
 okD (k:=1) (g:=g_bh) F (fq Hbh 2) rfl fun cdv A outer s H E B G0 hr =>
 have hu:=hr.units
 have hgd:=hr.gd
 (zak (zbz (PW.pt (zct (zbF (zbG (zbd (c := "list") (by decide) (gq Hbh 3) T.b_isinstance (gq Hbh 4) T.b_list (by decide +kernel) (zac (pq Hbh 1)) (by decide) (by decide)))) (zb9 (za7 (B_ne hu) (za3 (gq Hbh 5) T.b_len (pq Hbh 1)) (zav zcz (gq Hbh 5) T.b_len boot_len (zaa (zaq (pq Hbh 0) zaj (fun _ _=>rfl)) zaf)) (zaZ _)))))
 (zao (zaB zch))
 za8)
 (zak (zbH PassesOwn.never rfl (zcj (gq Hbh 0) T.b_enumerate (zaa (zac (pq Hbh 1)) zaf)) (zbo rfl (zat (zan (zam (i:=2) (nq Hbh) rfl (lq Hbh 2))) (zat (zan (zam (i:=3) (nq Hbh) rfl (lq Hbh 3))) zbn)))
 (zak (zbz (PW.pt (zdY (zda (zac (pq Hbh 3))) (zc9 (PW.pt (zct (zbF (zbG (pdf d_bg hr (gq Hbh 1) (zaa (zac (pq Hbh 3)) zaf)))) (zb9 (zbS (zoD hu) (pq Hbh 3) (pdf d_be hr (gq Hbh 2) (zaa (zac (pq Hbh 0)) (zaa (zac (pq Hbh 2)) zaf))) rfl)))))))
 (zao (zaB zch))
 za8)
 (zao (zbz (PW.pt (zdY (zda (zac (pq Hbh 3))) (zc9 (za7 B_gt (zeM hu (zac (pq Hbh 1)) (zaa (zac (pq Hbh 3)) zaf)) (zdl (zaq (pq Hbh 0) zaj (fun _ _=>rfl)) (zac (pq Hbh 3)) (fun _ _=>rfl)) (zaZ _)))))
 (zao (zaB zch))
 za8))))
 (zao (zaB zch))))
theorem Kbi (d_bh:Def P w K mg base "_law_is_dealing" 2 2 F_bh) (d_be:Def P w K mg base "_law_wished" 1 2 F_be) (d_bc:Def P w K mg base "_law_numbers" 1 3 F_bc) (F:Fun K "_law_near" "_law_near" Sbi f fd):FnOk P w K mg base CX0 3 f fd ["_law_wishes_here", "_law_dealing", "_law_cell", "_law_salt"] (spD K 4 F_bi) :=
 okD (k:=2) (g:=g_bi) F (fq Hbi 4) rfl fun cdv A outer s H E B G0 hr =>
 have hu:=hr.units
 have hgd:=hr.gd
 (zak (zaI (i:=4) (nq Hbi) rfl (lq Hbi 4) (pdf d_bc hr (gq Hbi 4) (zaa (zac (pq Hbi 2)) (zaa (zac (pq Hbi 3)) (zaa (zaX (zaa zaj (zaa zaj (zaa zaj (zaa zaj zaf))))) zaf)))))
 (zak (zaI (i:=5) (nq Hbi) rfl (lq Hbi 5) (zaF zei (zaq (pq Hbi 4) zaj (fun _ _=>rfl)) (za3 (gq Hbi 2) T.b_len (pq Hbi 1))))
 (zak (zaI (i:=6) (nq Hbi) rfl (lq Hbi 6) (zaF zei (zaq (pq Hbi 4) zaj (fun _ _=>rfl)) (za3 (gq Hbi 2) T.b_len (pq Hbi 1))))
 (zak (zb2 (i:=7) (nq Hbi) rfl (lq Hbi 7) (zdD (gq Hbi 0) T.b_list (pq Hbi 1)))
 (zak (zbz (za7 (B_eq hu) (zaq (pq Hbi 4) zaj (fun _ _=>rfl)) zaj (zaZ _))
 (zak (zdr (zaq (pq Hbi 1) (zac (pq Hbi 6)) (fun _ _=>rfl)) (pq Hbi 7) (zac (pq Hbi 5)))
 (zao (zdr (zaq (pq Hbi 1) (zac (pq Hbi 5)) (fun _ _=>rfl)) (pq Hbi 7) (zac (pq Hbi 6)))))
 (zak (zaI (i:=8) (nq Hbi) rfl (lq Hbi 8) (zaF zbh (pdf d_be hr (gq Hbi 3) (zaa (zac (pq Hbi 0)) (zaa (zac (pq Hbi 5)) zaf))) (zaX (zaa zdo zaf))))
 (zao (zdr (zaq (pq Hbi 8) (zaF zei (zaq (pq Hbi 4) zaj (fun _ _=>rfl)) (za3 (gq Hbi 2) T.b_len (pq Hbi 8))) (fun _ _=>rfl)) (pq Hbi 7) (zac (pq Hbi 5))))))
 (zak (zbz (zbG (zl5 d_bh (hr.mono (by decide)) (gq Hbi 1) (zl4 (zac (pq Hbi 0)) (zkm (pq Hbi 7) znr))))
 (zao (zaB (zac (pq Hbi 7))))
 za8)
 (zao (zaB (zbA (zdD (gq Hbi 0) T.b_list (pq Hbi 1)))))))))))
theorem Kbn (d_be:Def P w K mg base "_law_wished" 1 2 F_be) (F:Fun K "_law_all" "_law_all" Sbn f fd):FnOk P w K mg base CX0 2 f fd ["_law_wishes_here"] (spD K 1 F_bn) :=
 okD (k:=1) (g:=g_bn) F (fq Hbn 1) rfl fun cdv A outer s H E B G0 hr =>
 have hu:=hr.units
 have hgd:=hr.gd
 (zak (zb2 (i:=1) (nq Hbn) rfl (lq Hbn 1) (zcX (zaa (zaX zaf) zaf)))
 (zak (zbH PassesOwn.never rfl (zb3 (gq Hbn 1) T.b_range (zaa (zav zcz (gq Hbn 0) T.b_len boot_len (zaa (zaq (pq Hbn 0) zaj (fun _ _=>rfl)) zaf)) zaf)) (zan (zam (i:=2) (nq Hbn) rfl (lq Hbn 2)))
 (zak (zb2 (i:=3) (nq Hbn) rfl (lq Hbn 3) (zcX zaf))
 (zak (zbH PassesOwn.never rfl (zbD (zac (pq Hbn 1))) (zan (zam (i:=4) (nq Hbn) rfl (lq Hbn 4)))
 (zao (zbH PassesOwn.never rfl (zbD (zaF zbh (zaX (zaa zdo zaf)) (pdf d_be hr (gq Hbn 2) (zaa (zac (pq Hbn 0)) (zaa (zac (pq Hbn 2)) zaf))))) (zan (zam (i:=5) (nq Hbn) rfl (lq Hbn 5)))
 (zao (zbz (PW.pt (zct (zjE (zac (pq Hbn 5))) (zb9 (za7 B_lt (zeM hu (zac (pq Hbn 4)) (zaa (zac (pq Hbn 5)) zaf)) (zdl (zaq (pq Hbn 0) zaj (fun _ _=>rfl)) (zac (pq Hbn 5)) (fun _ _=>rfl)) (zaZ _)))))
 (zao (zdx (pq Hbn 3) (zaF zbh (zac (pq Hbn 4)) (zaX (zaa (zac (pq Hbn 5)) zaf)))))
 za8)))))
 (zao (zaI (i:=1) (nq Hbn) rfl (lq Hbn 1) (zac (pq Hbn 3)))))))
 (zao (zaB (zac (pq Hbn 1))))))
theorem Kal (F:Fun K "place_of" "place_of" Sal f fd):FnOk P w K mg base CX0 1 f fd ["nothing", "got"] (spD K 2 F_al) :=
 okD (k:=0) (g:=g_al) F (fq Hal 2) rfl fun cdv A outer s H E B G0 hr =>
 have hu:=hr.units
 have hgd:=hr.gd
 (zao (zaB (zgj (zjE (zac (pq Hal 1))) (zac (pq Hal 0)) (zac (pq Hal 1)))))
theorem Kam (d_al:Def P w K mg base "place_of" 1 2 F_al) (F:Fun K "steps_of_askers" "steps_of_askers" Sam f fd):FnOk P w K mg base CX0 2 f fd ["nothing", "worths", "dealing"] (spD K 3 F_am) :=
 okD (k:=1) (g:=g_am) F (fq Ham 3) rfl fun cdv A outer s H E B G0 hr =>
 have hu:=hr.units
 have hgd:=hr.gd
 (zak (zb2 (i:=3) (nq Ham) rfl (lq Ham 3) (znt (zaX (zaa zaj zaf)) (za3 (gq Ham 2) T.b_len (pq Ham 2))))
 (zak (zbH PassesOwn.never rfl (zbD (zac (pq Ham 1))) (zbo rfl (zat (zan (zam (i:=4) (nq Ham) rfl (lq Ham 4))) (zat (zan (zam (i:=5) (nq Ham) rfl (lq Ham 5))) (zat (zan (zam (i:=6) (nq Ham) rfl (lq Ham 6))) zbn))))
 (zao (zbz (za7 (B_eq hu) (zaq (pq Ham 2) (zac (pq Ham 4)) (fun _ _=>rfl)) (zac (pq Ham 5)) (zaZ _))
 (zao (zdr (zac (pq Ham 6)) (pq Ham 3) (zac (pq Ham 4))))
 za8)))
 (zak (zpG (j:=7) (zal Sam) N_am ["nothing", "worths", "dealing", "had", ".asker", "thing", "worth", "told", "asker", "got"] 2 zbc (nq Ham) rfl rfl rfl (fun B' G'=>(zcj (gq Ham 1) T.b_enumerate (zaa (zac (pq Ham 2)) zaf))) (fun cl C s0 H0 ex=>⟨fun B' G'=>(zbo rfl (zat (zan (zam (i:=8) (show (["nothing", "worths", "dealing", "had", ".asker", "thing", "worth", "told", "asker", "got"]:List Str).Nodup by decide +kernel) rfl (zaN rfl) (.inr (za6 rfl)))) (zat (zan (zam (i:=9) (show (["nothing", "worths", "dealing", "had", ".asker", "thing", "worth", "told", "asker", "got"]:List Str).Nodup by decide +kernel) rfl (zaN rfl) (.inr (za6 rfl)))) zbn))),fun B' G'=>(zcM (zda (zac (pvb 9)))),(zaP rfl rfl rfl fun B' G'=>(zci (zaa (zac (pvb 9)) (zaa (zac (pvb 0)) (zaa (zdq (zaq (pvb 3) (zac (pvb 8)) (fun _ _=>rfl))) (zaa (zac (pvb 8)) zaf))))))⟩) rfl rfl (by decide +kernel))
 (zak (zbH PassesOwn.never rfl (zbD (zac (pq Ham 1))) (zbo rfl (zat (zan (zam (i:=4) (nq Ham) rfl (lq Ham 4))) (zat (zan (zam (i:=5) (nq Ham) rfl (lq Ham 5))) (zat (zan (zam (i:=6) (nq Ham) rfl (lq Ham 6))) zbn))))
 (zao (zbz (za7 (B_ne hu) (zaq (pq Ham 2) (zac (pq Ham 4)) (fun _ _=>rfl)) (zac (pq Ham 5)) (zaZ _))
 (zao (zdx (pq Ham 7) (zci (zaa (pdf d_al hr (gq Ham 0) (zaa (zac (pq Ham 0)) (zaa (zaq (pq Ham 2) (zac (pq Ham 4)) (fun _ _=>rfl)) zaf))) (zaa (zac (pq Ham 5)) (zaa (zaF zlB (zac (pq Ham 6)) (zaq (pq Ham 3) (zac (pq Ham 4)) (fun _ _=>rfl))) (zaa (zac (pq Ham 4)) zaf)))))))
 za8)))
 (zao (zaB (zac (pq Ham 7))))))))
theorem Kaj (d_ag:Def P w K mg base "look_at_wishes" 6 1 F_ag) (F:Fun K "copies_left" "copies_left" Saj f fd):FnOk P w K mg base CX0 7 f fd ["wishes", "dealing"] (spD K 2 F_aj) :=
 okD (k:=6) (g:=g_aj) F (fq Haj 2) rfl fun cdv A outer s H E B G0 hr =>
 have hu:=hr.units
 have hgd:=hr.gd
 (zak (zeE (pdf d_ag hr (gq Haj 1) (zaa (zac (pq Haj 0)) zaf)))
 (zao (zaB (zbA (zdk (zal Saj) N_aj ["wishes", "dealing", "thing", "many"] 2 zbc rfl (zcj (gq Haj 0) T.b_enumerate (zaa (zaq (pq Haj 0) zaj (fun _ _=>rfl)) zaf)) (fun cl C s0 H0 ex=>⟨fun B' G'=>(zbo rfl (zat (zan (zam (i:=2) (show (["wishes", "dealing", "thing", "many"]:List Str).Nodup by decide +kernel) rfl (zaN rfl) (.inr (za6 rfl)))) (zat (zan (zam (i:=3) (show (["wishes", "dealing", "thing", "many"]:List Str).Nodup by decide +kernel) rfl (zaN rfl) (.inr (za6 rfl)))) zbn))),fun B' G'=>zbR,(zaP rfl rfl rfl fun B' G'=>(zaF zlB (zac (pvb 3)) (zeM hu (zac (pvb 1)) (zaa (zac (pvb 2)) zaf))))⟩) rfl rfl (by decide +kernel))))))
theorem Kan (d_aj:Def P w K mg base "copies_left" 7 2 F_aj) (F:Fun K "steps_of_copies" "steps_of_copies" San f fd):FnOk P w K mg base CX0 8 f fd ["wishes", "dealing"] (spD K 2 F_an) :=
 okD (k:=7) (g:=g_an) F (fq Han 2) rfl fun cdv A outer s H E B G0 hr =>
 have hu:=hr.units
 have hgd:=hr.gd
 (zak (zaI (i:=2) (nq Han) rfl (lq Han 2) (zav zcz (gq Han 3) T.b_len boot_len (zaa (zaq (pq Han 0) zaj (fun _ _=>rfl)) zaf)))
 (zak (zaI (i:=3) (nq Han) rfl (lq Han 3) (pdf d_aj hr (gq Han 2) (zaa (zac (pq Han 0)) (zaa (zac (pq Han 1)) zaf))))
 (zak (sD_1 (j:=4) (zal San) N_an ["wishes", "dealing", "nothing", "left", "to_nothing", "thing", "many"] 2 zbc (nq Han) rfl rfl rfl (zcj (gq Han 1) T.b_enumerate (zaa (zac (pq Han 3)) zaf)) (fun cl C s0 H0 ex=>⟨fun B' G'=>(zbo rfl (zat (zan (zam (i:=5) (show (["wishes", "dealing", "nothing", "left", "to_nothing", "thing", "many"]:List Str).Nodup by decide +kernel) rfl (zaN rfl) (.inr (za6 rfl)))) (zat (zan (zam (i:=6) (show (["wishes", "dealing", "nothing", "left", "to_nothing", "thing", "many"]:List Str).Nodup by decide +kernel) rfl (zaN rfl) (.inr (za6 rfl)))) zbn))),fun B' G'=>(zcM (zbS B_gt (pvb 6) zaj (zaZ _))),(zaP rfl rfl rfl fun B' G'=>(zci (zaa (zac (pvb 5)) (zaa (zac (pvb 2)) (zaa zaj (zaa zdo zaf))))))⟩) rfl rfl (by decide +kernel))
 (zao (zaB (zaF zbh (zac (pq Han 4)) (zbA (zdk (zal San) N_an ["wishes", "dealing", "nothing", "left", "to_nothing", "thing"] 1 zbc rfl (zb3 (gq Han 0) T.b_range (zaa (zac (pq Han 2)) zaf)) (fun cl C s0 H0 ex=>⟨fun B' G'=>(zan (zam (i:=5) (show (["wishes", "dealing", "nothing", "left", "to_nothing", "thing"]:List Str).Nodup by decide +kernel) rfl (zaN rfl) (.inr (za6 rfl)))),fun B' G'=>zbR,(zaP rfl rfl rfl fun B' G'=>(zci (zaa (zac (pvb 2)) (zaa (zac (pvb 5)) (zaa zaj (zaa zdo zaf))))))⟩) rfl rfl (by decide +kernel)))))))))
theorem Kao (d_am:Def P w K mg base "steps_of_askers" 2 3 F_am) (d_an:Def P w K mg base "steps_of_copies" 8 2 F_an) (F:Fun K "all_steps" "all_steps" Sao f fd):FnOk P w K mg base CX0 9 f fd ["wishes", "worths", "dealing"] (spD K 3 F_ao) :=
 okD (k:=8) (g:=g_ao) F (fq Hao 3) rfl fun cdv A outer s H E B G0 hr =>
 have hu:=hr.units
 have hgd:=hr.gd
 (zao (zaB (zaF zbh (pdf d_am hr (gq Hao 1) (zaa (zav zcz (gq Hao 0) T.b_len boot_len (zaa (zaq (pq Hao 0) zaj (fun _ _=>rfl)) zaf)) (zaa (zac (pq Hao 1)) (zaa (zac (pq Hao 2)) zaf)))) (pdf d_an hr (gq Hao 2) (zaa (zac (pq Hao 0)) (zaa (zac (pq Hao 2)) zaf))))))
theorem Kap (F:Fun K "longer_walks" "longer_walks" Sap f fd):FnOk P w K mg base CX0 1 f fd ["walks", "steps"] (spD K 2 F_ap) :=
 okD (k:=0) (g:=g_ap) F (fq Hap 2) rfl fun cdv A outer s H E B G0 hr =>
 have hu:=hr.units
 have hgd:=hr.gd
 (zak (zb2 (i:=2) (nq Hap) rfl (lq Hap 2) (zdD (gq Hap 0) T.b_list (pq Hap 0)))
 (zak (zbH PassesOwn.never rfl (zbD (zac (pq Hap 1))) (zan (zam (i:=3) (nq Hap) rfl (lq Hap 3)))
 (zak (zgl (zac (pq Hap 3)) (zbo rfl (zat (zan (zam (i:=4) (nq Hap) rfl (lq Hap 4))) (zat (zan (zam (i:=5) (nq Hap) rfl (lq Hap 5))) (zat (zan (zam (i:=6) (nq Hap) rfl (lq Hap 6))) (zat (zan (zam (i:=7) (nq Hap) rfl (lq Hap 7))) zbn))))))
 (zak (zgl (zaq (pq Hap 0) (zac (pq Hap 4)) (fun _ _=>rfl)) (zbo rfl (zat (zan (zam (i:=8) (nq Hap) rfl (lq Hap 8))) (zat (zan (zam (i:=9) (nq Hap) rfl (lq Hap 9))) zbn))))
 (zao (zbz (za7 B_gt (zaF zbh (zac (pq Hap 8)) (zac (pq Hap 6))) (zdl (zaq (pq Hap 2) (zac (pq Hap 5)) (fun _ _=>rfl)) zaj (fun _ _=>rfl)) (zaZ _))
 (zao (zdr (zci (zaa (zaF zbh (zac (pq Hap 8)) (zac (pq Hap 6))) (zaa (zaF zbh (zac (pq Hap 9)) (zaX (zaa (zac (pq Hap 3)) zaf))) zaf))) (pq Hap 2) (zac (pq Hap 5))))
 za8)))))
 (zao (zaB (zac (pq Hap 2))))))
theorem Kaq (d_ap:Def P w K mg base "longer_walks" 1 2 F_ap) (F:Fun K "widest_walks" "widest_walks" Saq f fd):FnOk P w K mg base CX0 2 f fd ["places", "steps"] (spD K 2 F_aq) :=
 okD (k:=1) (g:=g_aq) F (fq Haq 2) rfl fun cdv A outer s H E B G0 hr =>
 have hu:=hr.units
 have hgd:=hr.gd
 (zak (zaI (i:=2) (nq Haq) rfl (lq Haq 2) (zaF zdp (zaX (zaa (zci (zaa zaj (zaa (zaX zaf) zaf))) zaf)) (zac (pq Haq 0))))
 (zak (zbH PassesOwn.never rfl (zb3 (gq Haq 0) T.b_range (zaa (zac (pq Haq 0)) zaf)) (zan (zam (i:=3) (nq Haq) rfl (lq Haq 3)))
 (zao (zaI (i:=2) (nq Haq) rfl (lq Haq 2) (pdf d_ap hr (gq Haq 1) (zaa (zac (pq Haq 2)) (zaa (zac (pq Haq 1)) zaf))))))
 (zao (zaB (zac (pq Haq 2))))))
theorem Kar (F:Fun K "round_within" "round_within" Sar f fd):FnOk P w K mg base CX0 1 f fd ["walk"] (spD K 1 F_ar) :=
 okD (k:=0) (g:=g_ar) F (fq Har 1) rfl fun cdv A outer s H E B G0 hr =>
 have hu:=hr.units
 have hgd:=hr.gd
 (zak (zbH PassesOwn.never rfl (zcj (gq Har 0) T.b_enumerate (zaa (zac (pq Har 0)) zaf)) (zbo rfl (zat (zan (zam (i:=1) (nq Har) rfl (lq Har 1))) (zat (zan (zam (i:=2) (nq Har) rfl (lq Har 2))) zbn)))
 (zao (zbH PassesOwn.never rfl (zb3 (gq Har 1) T.b_range (zaa (zaF zbh (zac (pq Har 1)) zaj) zaf)) (zan (zam (i:=3) (nq Har) rfl (lq Har 3)))
 (zao (zbz (za7 (B_eq hu) (zdl (zaq (pq Har 0) (zac (pq Har 3)) (fun _ _=>rfl)) zaj (fun _ _=>rfl)) (zaq (pq Har 2) zaj (fun _ _=>rfl)) (zaZ _))
 (zao (zaB (zbj (zac (pq Har 0)) (zbs (zac (pq Har 3))) (zbs (zaF zbh (zac (pq Har 1)) zaj)))))
 za8)))))
 (zao (zaB (zaX zaf))))
theorem Kas (F:Fun K "way_round" "way_round" Sas f fd):FnOk P w K mg base CX0 1 f fd ["nothing", "steps"] (spD K 2 F_as) :=
 okD (k:=0) (g:=g_as) F (fq Has 2) rfl fun cdv A outer s H E B G0 hr =>
 have hu:=hr.units
 have hgd:=hr.gd
 (zak (zaI (i:=2) (nq Has) rfl (lq Has 2) zaj)
 (zak (zbH PassesOwn.never rfl (zcj (gq Has 0) T.b_enumerate (zaa (zac (pq Has 1)) zaf)) (zbo rfl (zat (zan (zam (i:=3) (nq Has) rfl (lq Has 3))) (zat (zan (zam (i:=4) (nq Has) rfl (lq Has 4))) zbn)))
 (zao (zbz (za7 (B_eq hu) (zaq (pq Has 4) zaj (fun _ _=>rfl)) (zac (pq Has 0)) (zaZ _))
 (zao (zaI (i:=2) (nq Has) rfl (lq Has 2) (zac (pq Has 3))))
 za8)))
 (zak (zb2 (i:=5) (nq Has) rfl (lq Has 5) (zcX zaf))
 (zak (zbH PassesOwn.never rfl (zbD (zaF zbh (zbj (zac (pq Has 1)) (zbs (zac (pq Has 2))) zcb) (zbj (zac (pq Has 1)) zcb (zbs (zac (pq Has 2)))))) (zbo rfl (zat (zan (zam (i:=6) (nq Has) rfl (lq Has 6))) (zat (zan (zam (i:=7) (nq Has) rfl (lq Has 7))) (zat (zan (zam (i:=8) (nq Has) rfl (lq Has 8))) (zat (zan (zam (i:=9) (nq Has) rfl (lq Has 9))) zbn)))))
 (zao (zbz (zda (zac (pq Has 9)))
 (zao (zdx (pq Has 5) (zci (zaa (zac (pq Has 9)) (zaa (zgj (zbS (B_eq hu) (pq Has 7) (zac (pq Has 0)) (zaZ _)) zdo (zac (pq Has 7))) zaf)))))
 za8)))
 (zao (zaB (zac (pq Has 5))))))))
theorem Kat (d_ao:Def P w K mg base "all_steps" 9 3 F_ao) (d_aq:Def P w K mg base "widest_walks" 2 2 F_aq) (d_ar:Def P w K mg base "round_within" 1 1 F_ar) (d_as:Def P w K mg base "way_round" 1 2 F_as) (F:Fun K "gaining_way" "gaining_way" Sat f fd):FnOk P w K mg base CX0 10 f fd ["wishes", "worths", "dealing"] (spD K 3 F_at) :=
 okD (k:=9) (g:=g_at) F (fq Hat 3) rfl fun cdv A outer s H E B G0 hr =>
 have hu:=hr.units
 have hgd:=hr.gd
 (zak (zaI (i:=3) (nq Hat) rfl (lq Hat 3) (zav zcz (gq Hat 2) T.b_len boot_len (zaa (zaq (pq Hat 0) zaj (fun _ _=>rfl)) zaf)))
 (zak (zbH PassesOwn.never rfl (zbD (pdf d_aq hr (gq Hat 1) (zaa (zaF zbh (zac (pq Hat 3)) zaj) (zaa (pdf d_ao hr (gq Hat 0) (zaa (zac (pq Hat 0)) (zaa (zac (pq Hat 1)) (zaa (zac (pq Hat 2)) zaf)))) zaf)))) (zbo rfl (zat (zan (zam (i:=4) (nq Hat) rfl (lq Hat 4))) (zat (zan (zam (i:=5) (nq Hat) rfl (lq Hat 5))) zbn)))
 (zao (zbz (za7 (B_eq hu) (za3 (gq Hat 2) T.b_len (pq Hat 5)) (zaF zbh (zac (pq Hat 3)) zaj) (zaZ _))
 (zao (zaB (pdf d_as hr (gq Hat 4) (zaa (zac (pq Hat 3)) (zaa (pdf d_ar hr (gq Hat 3) (zaa (zac (pq Hat 5)) zaf)) zaf)))))
 za8)))
 (zao (zaB (zaX zaf)))))
theorem Kak (F:Fun K "behind_way" "behind_way" Sak f fd):FnOk P w K mg base CX0 1 f fd ["dealing", "way"] (spD K 2 F_ak) :=
 okD (k:=0) (g:=g_ak) F (fq Hak 2) rfl fun cdv A outer s H E B G0 hr =>
 have hu:=hr.units
 have hgd:=hr.gd
 (zak (zb2 (i:=2) (nq Hak) rfl (lq Hak 2) (zdD (gq Hak 0) T.b_list (pq Hak 0)))
 (zak (zbH PassesOwn.never rfl (zbD (zac (pq Hak 1))) (zbo rfl (zat (zan (zam (i:=3) (nq Hak) rfl (lq Hak 3))) (zat (zan (zam (i:=4) (nq Hak) rfl (lq Hak 4))) zbn)))
 (zao (zdr (zac (pq Hak 4)) (pq Hak 2) (zac (pq Hak 3)))))
 (zao (zaB (zac (pq Hak 2))))))
theorem Kau (d_at:Def P w K mg base "gaining_way" 10 3 F_at) (d_ak:Def P w K mg base "behind_way" 1 2 F_ak) (F:Fun K "best_by" "best_by" Sau f fd):FnOk P w K mg base CX0 11 f fd ["wishes", "worths"] (spD K 2 F_au) :=
 okD (k:=10) (g:=g_au) F (fq Hau 2) rfl fun cdv A outer s H E B G0 hr =>
 have hu:=hr.units
 have hgd:=hr.gd
 (zak (zaI (i:=2) (nq Hau) rfl (lq Hau 2) (zaF zdp (zaX (zaa zdo zaf)) (zav zcz (gq Hau 2) T.b_len boot_len (zaa (zaq (pq Hau 0) zaj (fun _ _=>rfl)) zaf))))
 (zak (zaI (i:=3) (nq Hau) rfl (lq Hau 3) (pdf d_at hr (gq Hau 0) (zaa (zac (pq Hau 0)) (zaa (zac (pq Hau 1)) (zaa (zac (pq Hau 2)) zaf)))))
 (zak (zlZ FUEL PassesOwn.never (znw (zac (pq Hau 3)))
 (zak (zaI (i:=2) (nq Hau) rfl (lq Hau 2) (pdf d_ak hr (gq Hau 1) (zaa (zac (pq Hau 2)) (zaa (zac (pq Hau 3)) zaf))))
 (zao (zaI (i:=3) (nq Hau) rfl (lq Hau 3) (pdf d_at hr (gq Hau 0) (zaa (zac (pq Hau 0)) (zaa (zac (pq Hau 1)) (zaa (zac (pq Hau 2)) zaf))))))))
 (zao (zaB (zac (pq Hau 2)))))))
theorem Kaw (d_av:Def P w K mg base "worths_within" 8 2 F_av) (d_au:Def P w K mg base "best_by" 11 2 F_au) (F:Fun K "level_dealing" "level_dealing" Saw f fd):FnOk P w K mg base CX0 12 f fd ["wishes", "ranks"] (spD K 2 F_aw) :=
 okD (k:=11) (g:=g_aw) F (fq Haw 2) rfl fun cdv A outer s H E B G0 hr =>
 have hu:=hr.units
 have hgd:=hr.gd
 (zao (zaB (pdf d_au hr (gq Haw 1) (zaa (zac (pq Haw 0)) (zaa (pdf d_av hr (gq Haw 0) (zaa (zac (pq Haw 0)) (zaa (zac (pq Haw 1)) zaf))) zaf)))))
theorem Kax (d_aw:Def P w K mg base "level_dealing" 12 2 F_aw) (F:Fun K "level_of" "level_of" Sax f fd):FnOk P w K mg base CX0 13 f fd ["wishes", "ranks"] (spD K 2 F_ax) :=
 okD (k:=12) (g:=g_ax) F (fq Hax 2) rfl fun cdv A outer s H E B G0 hr =>
 have hu:=hr.units
 have hgd:=hr.gd
 (zao (zaB (zav zcz (gq Hax 1) T.b_len boot_len (zaa (zbA (zdk (zal Sax) N_ax ["wishes", "ranks", "got"] 1 zbc rfl (zbD (pdf d_aw hr (gq Hax 0) (zaa (zac (pq Hax 0)) (zaa (zac (pq Hax 1)) zaf)))) (fun cl C s0 H0 ex=>⟨fun B' G'=>(zan (zam (i:=2) (show (["wishes", "ranks", "got"]:List Str).Nodup by decide +kernel) rfl (zaN rfl) (.inr (za6 rfl)))),fun B' G'=>(zcM (zda (zac (pvb 2)))),(zaP rfl rfl rfl fun B' G'=>(zac (pvb 2)))⟩) rfl rfl (by decide +kernel))) zaf))))
theorem Kbl (d_bc:Def P w K mg base "_law_numbers" 1 3 F_bc) (F:Fun K "_law_ranks" "_law_ranks" Sbl f fd):FnOk P w K mg base CX0 2 f fd ["_law_cell", "_law_salt"] (spD K 2 F_bl) :=
 okD (k:=1) (g:=g_bl) F (fq Hbl 2) rfl fun cdv A outer s H E B G0 hr =>
 have hu:=hr.units
 have hgd:=hr.gd
 (zak (zaI (i:=2) (nq Hbl) rfl (lq Hbl 2) (pdf d_bc hr (gq Hbl 0) (zaa (zac (pq Hbl 0)) (zaa (zac (pq Hbl 1)) (zaa (zaX (zaa zaj (zaa (zaF zop zaj zaj) zaf))) zaf)))))
 (zao (zaB (zdl (zaX (zaa zaj (zaa zaj (zaa zaj (zaa zaj (zaa zaj (zaa zaj (zaa zaj (zaa (zaF zbh zaj (zaq (pq Hbl 2) zaj (fun _ _=>rfl))) zaf))))))))) (zaq (pq Hbl 2) zaj (fun _ _=>rfl)) (fun _ _=>rfl)))))
theorem Kbd (d_bc:Def P w K mg base "_law_numbers" 1 3 F_bc) (d_bb:Def P w K mg base "_law_cell_at" 1 2 F_bb) (F:Fun K "_law_wishes" "_law_wishes" Sbd f fd):FnOk P w K mg base CX0 2 f fd ["_law_script", "_law_at", "_law_most_things", "_law_most_askers", "_law_most_ranks"] (spD K 5 F_bd) :=
 okD (k:=1) (g:=g_bd) F (fq Hbd 5) rfl fun cdv A outer s H E B G0 hr =>
 have hu:=hr.units
 have hgd:=hr.gd
 (zak (zaI (i:=5) (nq Hbd) rfl (lq Hbd 5) (zaF zbh (zaX (zaa (zac (pq Hbd 2)) (zaa (zac (pq Hbd 3)) zaf))) (zaF zdp (zaX (zaa zaj zaf)) (zac (pq Hbd 2)))))
 (zak (zaI (i:=6) (nq Hbd) rfl (lq Hbd 6) (pdf d_bc hr (gq Hbd 2) (zaa (pdf d_bb hr (gq Hbd 3) (zaa (zac (pq Hbd 0)) (zaa (zac (pq Hbd 1)) zaf))) (zaa (zac (pq Hbd 1)) (zaa (zac (pq Hbd 5)) zaf)))))
 (zak (sD_1 (j:=7) (zal Sbd) N_bd ["_law_script", "_law_at", "_law_most_things", "_law_most_askers", "_law_most_ranks", "_law_sizes", "_law_digits", "_law_copies", "_law_lists", "_law_asker", "_law_cell", "_law_places", "_law_ranks_here", "_law_rank", "_law_row", "_law_digit"] 1 zbc (nq Hbd) rfl rfl rfl (zbD (zbj (zac (pq Hbd 6)) (zbs zaj) (zbs (zaF zbh zaj (zaq (pq Hbd 6) zaj (fun _ _=>rfl)))))) (fun cl C s0 H0 ex=>⟨fun B' G'=>(zan (zam (i:=15) (show (["_law_script", "_law_at", "_law_most_things", "_law_most_askers", "_law_most_ranks", "_law_sizes", "_law_digits", "_law_copies", "_law_lists", "_law_asker", "_law_cell", "_law_places", "_law_ranks_here", "_law_rank", "_law_row", "_law_digit"]:List Str).Nodup by decide +kernel) rfl (zaN rfl) (.inr (za6 rfl)))),fun B' G'=>zbR,(zaP rfl rfl rfl fun B' G'=>(zdl (zaX (zaa zaj (zaa zaj (zaa zaj (zaa zaj (zaa zaj (zaa zaj (zaa zaj (zaa zaj (zaa zaj (zaa zaj (zaa zaj zaf)))))))))))) (zac (pvb 15)) (fun _ _=>rfl)))⟩) rfl rfl (by decide +kernel))
 (zak (zb2 (i:=8) (nq Hbd) rfl (lq Hbd 8) (zcX zaf))
 (zak (zbH PassesOwn.never rfl (zb3 (gq Hbd 0) T.b_range (zaa (zaF zbh zaj (zaq (pq Hbd 6) zaj (fun _ _=>rfl))) zaf)) (zan (zam (i:=9) (nq Hbd) rfl (lq Hbd 9)))
 (zak (zaI (i:=10) (nq Hbd) rfl (lq Hbd 10) (pdf d_bb hr (gq Hbd 3) (zaa (zac (pq Hbd 0)) (zaa (zaF zbh (zaF zbh (zac (pq Hbd 1)) zaj) (zac (pq Hbd 9))) zaf))))
 (zak (zaI (i:=11) (nq Hbd) rfl (lq Hbd 11) (pdf d_bc hr (gq Hbd 2) (zaa (zac (pq Hbd 10)) (zaa (zaF zbh (zaF zbh (zaF zdp zaj (zac (pq Hbd 1))) (zaF zdp zaj (zac (pq Hbd 9)))) zaj) (zaa (zaF zbh (zaF zdp (zaX (zaa (zaF zbh (zac (pq Hbd 4)) zaj) zaf)) (zac (pq Hbd 2))) (zaX (zaa zaj zaf))) zaf)))))
 (zak (zb2 (i:=12) (nq Hbd) rfl (lq Hbd 12) (zcX zaf))
 (zak (zbH PassesOwn.never rfl (zjG (gq Hbd 0) T.b_range (zaa zaj (zaa (zaF zbh (zac (pq Hbd 4)) zaj) zaf))) (zan (zam (i:=13) (nq Hbd) rfl (lq Hbd 13)))
 (zak (sD_1 (j:=14) (zal Sbd) N_bd ["_law_script", "_law_at", "_law_most_things", "_law_most_askers", "_law_most_ranks", "_law_sizes", "_law_digits", "_law_copies", "_law_lists", "_law_asker", "_law_cell", "_law_places", "_law_ranks_here", "_law_rank", "_law_row", "_law_thing"] 1 zbc (nq Hbd) rfl rfl rfl (zb3 (gq Hbd 0) T.b_range (zaa (za3 (gq Hbd 1) T.b_len (pq Hbd 7)) zaf)) (fun cl C s0 H0 ex=>⟨fun B' G'=>(zan (zam (i:=15) (show (["_law_script", "_law_at", "_law_most_things", "_law_most_askers", "_law_most_ranks", "_law_sizes", "_law_digits", "_law_copies", "_law_lists", "_law_asker", "_law_cell", "_law_places", "_law_ranks_here", "_law_rank", "_law_row", "_law_thing"]:List Str).Nodup by decide +kernel) rfl (zaN rfl) (.inr (za6 rfl)))),fun B' G'=>(zcM (za7 (B_eq hu) (zaq (pvb 11) (zac (pvb 15)) (fun _ _=>rfl)) (zac (pvb 13)) (zaZ _))),(zaP rfl rfl rfl fun B' G'=>(zac (pvb 15)))⟩) rfl rfl (by decide +kernel))
 (zao (zbz (zbS (B_ne hu) (pq Hbd 14) (zaX zaf) (zaZ _))
 (zao (zdx (pq Hbd 12) (zdl (zaX (zaa (zac (pq Hbd 14)) (zaa (zni (zac (pq Hbd 14)) zcb zcb (zbs (zdq zaj))) zaf))) (zaq (pq Hbd 11) (zdq zaj) (fun _ _=>rfl)) (fun _ _=>rfl))))
 za8))))
 (zao (zdx (pq Hbd 8) (zac (pq Hbd 12)))))))))
 (zao (zaB (zci (zaa (zac (pq Hbd 7)) (zaa (zac (pq Hbd 8)) zaf))))))))))
theorem Kbo (d_bb:Def P w K mg base "_law_cell_at" 1 2 F_bb) (d_bm:Def P w K mg base "_law_served" 2 3 F_bm) (d_az:Def P w K mg base "lets_cover" 9 3 F_az) (d_ba:Def P w K mg base "size_of" 7 2 F_ba) (d_bk:Def P w K mg base "_law_cover" 2 4 F_bk) (d_bf:Def P w K mg base "_law_dealt" 2 3 F_bf) (d_bi:Def P w K mg base "_law_near" 3 4 F_bi) (d_bn:Def P w K mg base "_law_all" 2 1 F_bn) (d_ax:Def P w K mg base "level_of" 13 2 F_ax) (d_bl:Def P w K mg base "_law_ranks" 2 2 F_bl) (d_bd:Def P w K mg base "_law_wishes" 2 5 F_bd) (F:Fun K "law" "law" Sbo f fd):FnOk P w K mg base CX0 14 f fd ["_law_script"] (spD K 1 F_bo) :=
 okD (k:=13) (g:=g_bo) F (fq Hbo 1) rfl fun cdv A outer s H E B G0 hr =>
 have hu:=hr.units
 have hgd:=hr.gd
 (zak (zaI (i:=1) (nq Hbo) rfl (lq Hbo 1) (pdf d_bd hr (gq Hbo 14) (zaa (zac (pq Hbo 0)) (zaa zaj (zaa zaj (zaa zaj (zaa zaj zaf)))))))
 (zak (zaI (i:=2) (nq Hbo) rfl (lq Hbo 2) (pdf d_bl hr (gq Hbo 13) (zaa (pdf d_bb hr (gq Hbo 0) (zaa (zac (pq Hbo 0)) (zaa zaj zaf))) (zaa zaj zaf))))
 (zak (zaI (i:=3) (nq Hbo) rfl (lq Hbo 3) (pdf d_ax hr (gq Hbo 12) (zaa (zac (pq Hbo 1)) (zaa (zac (pq Hbo 2)) zaf))))
 (zak (zaI (i:=4) (nq Hbo) rfl (lq Hbo 4) (pdf d_bf hr (gq Hbo 8) (zaa (zac (pq Hbo 1)) (zaa (pdf d_bb hr (gq Hbo 0) (zaa (zac (pq Hbo 0)) (zaa zaj zaf))) (zaa zaj zaf)))))
 (zak (zaI (i:=5) (nq Hbo) rfl (lq Hbo 5) (zav zcz (gq Hbo 10) T.b_len boot_len (zaa (zaq (pq Hbo 1) zaj (fun _ _=>rfl)) zaf)))
 (zak (zaI (i:=6) (nq Hbo) rfl (lq Hbo 6) zaj)
 (zak (zbz (PW.pt (zdY (za7 B_lt (zav zcz (gq Hbo 10) T.b_len boot_len (zaa (zaq (pq Hbo 1) zaj (fun _ _=>rfl)) zaf)) zaj (zaZ _)) (zc9 (za7 B_lt (zav zcz (gq Hbo 10) T.b_len boot_len (zaa (zaq (pq Hbo 1) zaj (fun _ _=>rfl)) zaf)) zaj (zaZ _)))))
 (zao (zaI (i:=6) (nq Hbo) rfl (lq Hbo 6) (zav (zoE rfl) (gq Hbo 3) T.b_max boot_max (zaa (zbA (zdk (zal Sbo) N_bo ["_law_script", "_law_wishes_here", "_law_ranks_here", "_law_level", "_law_dealing", "_law_size", "_law_most", "_law_k", "_law_cell", "_law_cover_here", "_law_many", "_law_one"] 1 zbc rfl (zbD (pdf d_bn hr (gq Hbo 11) (zaa (zac (pq Hbo 1)) zaf))) (fun cl C s0 H0 ex=>⟨fun B' G'=>(zan (zam (i:=11) (show (["_law_script", "_law_wishes_here", "_law_ranks_here", "_law_level", "_law_dealing", "_law_size", "_law_most", "_law_k", "_law_cell", "_law_cover_here", "_law_many", "_law_one"]:List Str).Nodup by decide +kernel) rfl (zaN rfl) (.inr (za6 rfl)))),fun B' G'=>zbR,(zaP rfl rfl rfl fun B' G'=>(pdf d_bm hr (zfi rfl) (zaa (zac (pvb 1)) (zaa (zac (pvb 2)) (zaa (zac (pvb 11)) zaf)))))⟩) rfl rfl (by decide +kernel))) zaf))))
 za8)
 (zak (zbH PassesOwn.never rfl (zcj (gq Hbo 1) T.b_enumerate (zaa (zaF zbh (zaX (zaa (pdf d_bb hr (gq Hbo 0) (zaa (zac (pq Hbo 0)) (zaa zaj zaf))) zaf)) (zbj (zac (pq Hbo 0)) (zbs zaj) (zbs zaj))) zaf)) (zbo rfl (zat (zan (zam (i:=7) (nq Hbo) rfl (lq Hbo 7))) (zat (zan (zam (i:=8) (nq Hbo) rfl (lq Hbo 8))) zbn)))
 (zak (zbz (za7 (B_eq hu) (zaF zei (zac (pq Hbo 7)) zaj) zaj (zaZ _))
 (zak (zaI (i:=9) (nq Hbo) rfl (lq Hbo 9) (pdf d_bk hr (gq Hbo 7) (zaa (zac (pq Hbo 1)) (zaa (zac (pq Hbo 2)) (zaa (zac (pq Hbo 8)) (zaa (zaF zbh zaj (zac (pq Hbo 7))) zaf))))))
 (zao (zbz (zbG (pdf d_az hr (gq Hbo 5) (zaa (zac (pq Hbo 1)) (zaa (zac (pq Hbo 2)) (zaa (zci (zaa (zbA (zfE (gq Hbo 4) T.b_list (zaa (zaq (pq Hbo 9) zaj (fun _ _=>rfl)) zaf))) (zaa (zbA (zfE (gq Hbo 4) T.b_list (zaa (zaq (pq Hbo 9) zaj (fun _ _=>rfl)) zaf))) zaf))) zaf)))))
 (zao (zaI (i:=5) (nq Hbo) rfl (lq Hbo 5) (pdf d_ba hr (gq Hbo 6) (zaa (zac (pq Hbo 1)) (zaa (zac (pq Hbo 9)) zaf)))))
 za8)))
 (zao (zbz (za7 (B_eq hu) (zaF zei (zac (pq Hbo 7)) zaj) zaj (zaZ _))
 (zao (zaI (i:=4) (nq Hbo) rfl (lq Hbo 4) (pdf d_bf hr (gq Hbo 8) (zaa (zac (pq Hbo 1)) (zaa (zac (pq Hbo 8)) (zaa (zaF zbh zaj (zac (pq Hbo 7))) zaf))))))
 (zao (zaI (i:=4) (nq Hbo) rfl (lq Hbo 4) (pdf d_bi hr (gq Hbo 9) (zaa (zac (pq Hbo 1)) (zaa (zac (pq Hbo 4)) (zaa (zac (pq Hbo 8)) (zaa (zaF zbh zaj (zac (pq Hbo 7))) zaf))))))))))
 (zak (zaI (i:=10) (nq Hbo) rfl (lq Hbo 10) (zav (zmz rfl) (gq Hbo 3) T.b_max boot_max (zaa (zac (pq Hbo 6)) (zaa (pdf d_bm hr (gq Hbo 2) (zaa (zac (pq Hbo 1)) (zaa (zac (pq Hbo 2)) (zaa (zac (pq Hbo 4)) zaf)))) zaf))))
 (zao (zbz (PW.pt (zct (zbS B_gt (pq Hbo 10) (zac (pq Hbo 5)) (zaZ _)) (zct (zbS B_gt (pq Hbo 3) (zac (pq Hbo 5)) (zaZ _)) (zb9 (zbS B_gt (pq Hbo 10) (zac (pq Hbo 3)) (zaZ _))))))
 (zao (zaB zch))
 za8)))))
 (zao (zaB zch))))))))))
end
theorem zaA:recsOf q0=zgK p0 ixL:=by
 show recsOf (PySem.W.view PySem.Challenge.pw_wishdeal_k53_whole_no_dealing_beyond_a_c zev)=zgK PySem.Challenge.pw_wishdeal_k53_whole_no_dealing_beyond_a_c ixL
 rw [PySem.W.Fast.te3399658132070893891,PySem.W.Fast.te18214400947036521647]
 kernel_rfl
theorem zdM:(["all", "bool", "enumerate", "int", "isinstance", "len", "list", "max", "range", "set", "sorted", "sum", "tuple", "zip"]:List Str).all (zl8 q0 (PySem.W.looseW q0 []))=true:=by
 show List.all _ (zl8 (PySem.W.view PySem.Challenge.pw_wishdeal_k53_whole_no_dealing_beyond_a_c zev) (PySem.W.looseW (PySem.W.view PySem.Challenge.pw_wishdeal_k53_whole_no_dealing_beyond_a_c zev) []))=true
 k_qdec
theorem ze9:valOf q0 "MOST_ASKERS" = some (.int 7):=by
 show valOf (PySem.W.view PySem.Challenge.pw_wishdeal_k53_whole_no_dealing_beyond_a_c zev) _=_
 rw [PySem.W.Fast.te1987589406359920131,PySem.W.Fast.te18214400947036521647]
 kernel_rfl
theorem zfa:valOf q0 "MOST_COPIES" = some (.int 7):=by
 show valOf (PySem.W.view PySem.Challenge.pw_wishdeal_k53_whole_no_dealing_beyond_a_c zev) _=_
 rw [PySem.W.Fast.te1987589406359920131,PySem.W.Fast.te18214400947036521647]
 kernel_rfl
theorem zfT:valOf q0 "MOST_RANKS" = some (.int 5):=by
 show valOf (PySem.W.view PySem.Challenge.pw_wishdeal_k53_whole_no_dealing_beyond_a_c zev) _=_
 rw [PySem.W.Fast.te1987589406359920131,PySem.W.Fast.te18214400947036521647]
 kernel_rfl
theorem zfb:valOf q0 "MOST_THINGS" = some (.int 6):=by
 show valOf (PySem.W.view PySem.Challenge.pw_wishdeal_k53_whole_no_dealing_beyond_a_c zev) _=_
 rw [PySem.W.Fast.te1987589406359920131,PySem.W.Fast.te18214400947036521647]
 kernel_rfl
theorem zoL {l:PySem.W.OpenLaw} {w:World} {s0:Shared} {mg mb:Str->Option Value} {fa:Addr} {h:Heap} {XP:(Str->Option Value)->Heap->Prop} (G:PySem.W.Ground q0 [] [] XP w s0 mg mb h) (hfa:mg "law" = some (.ref fa)) :
  ∃ fd:FuncData,(∀ (s:Shared) (v:Value),BindsTo s fd ⟨[v],[]⟩ [("_law_script", v)])/\∀ base:Heap,FnOk l.prog w (whole h) mg base CX0 14 fa fd ["_law_script"] (spD (whole h) 1 F_bo):=by
 have T:Txt (whole h) mg:=⟨zb5 G.T zdM (.head _),zb5 G.T zdM (.tail _ (.head _)),zb5 G.T zdM (.tail _ (.tail _ (.head _))),zb5 G.T zdM (.tail _ (.tail _ (.tail _ (.head _)))),zb5 G.T zdM (.tail _ (.tail _ (.tail _ (.tail _ (.head _))))),zb5 G.T zdM (.tail _ (.tail _ (.tail _ (.tail _ (.tail _ (.head _)))))),zb5 G.T zdM (.tail _ (.tail _ (.tail _ (.tail _ (.tail _ (.tail _ (.head _))))))),zb5 G.T zdM (.tail _ (.tail _ (.tail _ (.tail _ (.tail _ (.tail _ (.tail _ (.head _)))))))),zb5 G.T zdM (.tail _ (.tail _ (.tail _ (.tail _ (.tail _ (.tail _ (.tail _ (.tail _ (.head _))))))))),zb5 G.T zdM (.tail _ (.tail _ (.tail _ (.tail _ (.tail _ (.tail _ (.tail _ (.tail _ (.tail _ (.head _)))))))))),zb5 G.T zdM (.tail _ (.tail _ (.tail _ (.tail _ (.tail _ (.tail _ (.tail _ (.tail _ (.tail _ (.tail _ (.head _))))))))))),zb5 G.T zdM (.tail _ (.tail _ (.tail _ (.tail _ (.tail _ (.tail _ (.tail _ (.tail _ (.tail _ (.tail _ (.tail _ (.head _)))))))))))),zb5 G.T zdM (.tail _ (.tail _ (.tail _ (.tail _ (.tail _ (.tail _ (.tail _ (.tail _ (.tail _ (.tail _ (.tail _ (.tail _ (.head _))))))))))))),zb5 G.T zdM (.tail _ (.tail _ (.tail _ (.tail _ (.tail _ (.tail _ (.tail _ (.tail _ (.tail _ (.tail _ (.tail _ (.tail _ (.tail _ (.head _)))))))))))))),zdL G.T ze9,zdL G.T zfa,zdL G.T zfT,zdL G.T zfb⟩
 refine zpE G.T zaA 55 "law" rfl rfl hfa (fun _ _ _ _ _ _ _=>rfl) fun base=>?_
 have d_bb:=zbm l.prog w base G.T zaA 42 "_law_cell_at" rfl rfl (fun F=>Kbb T  F) fun _ _ _ _ _ _ us hl=>bz2 (us:=us) hl fun _ _=>rfl
 have d_bj:=zbm l.prog w base G.T zaA 50 "_law_rows" rfl rfl (fun F=>Kbj T  F) fun _ _ _ _ _ _ us hl=>bz2 (us:=us) hl fun _ _=>rfl
 have d_bm:=zbm l.prog w base G.T zaA 53 "_law_served" rfl rfl (fun F=>Kbm T d_bj F) fun _ _ _ _ _ _ us hl=>bz3 (us:=us) hl fun _ _ _=>rfl
 have d_aa:=zbm l.prog w base G.T zaA 1 "is_whole" rfl rfl (fun F=>Kaa T  F) fun _ _ _ _ _ _ us hl=>bz1 (us:=us) hl fun _=>rfl
 have d_ab:=zbm l.prog w base G.T zaA 2 "is_number_below" rfl rfl (fun F=>Kab T d_aa F) fun _ _ _ _ _ _ us hl=>bz2 (us:=us) hl fun _ _=>rfl
 have d_ay:=zbm l.prog w base G.T zaA 38 "is_rising" rfl rfl (fun F=>Kay T d_ab F) fun _ _ _ _ _ _ us hl=>bz2 (us:=us) hl fun _ _=>rfl
 have d_ad:=zbm l.prog w base G.T zaA 12 "is_rank" rfl rfl (fun F=>Kad T d_ab F) fun _ _ _ _ _ _ us hl=>bz2 (us:=us) hl fun _ _=>rfl
 have d_ae:=zbm l.prog w base G.T zaA 13 "is_asker_list" rfl rfl (fun F=>Kae T d_ad F) fun _ _ _ _ _ _ us hl=>bz2 (us:=us) hl fun _ _=>rfl
 have d_af:=zbm l.prog w base G.T zaA 14 "look_at_lists" rfl rfl (fun F=>Kaf T d_ae F) fun _ _ _ _ _ _ us hl=>bz2 (us:=us) hl fun _ _=>rfl
 have d_ac:=zbm l.prog w base G.T zaA 11 "look_at_copies" rfl rfl (fun F=>Kac T d_ab F) fun _ _ _ _ _ _ us hl=>bz1 (us:=us) hl fun _=>rfl
 have d_ag:=zbm l.prog w base G.T zaA 15 "look_at_wishes" rfl rfl (fun F=>Kag T d_af d_ac F) fun _ _ _ _ _ _ us hl=>bz1 (us:=us) hl fun _=>rfl
 have d_ai:=zbm l.prog w base G.T zaA 17 "all_wishes" rfl rfl (fun F=>Kai T d_ag F) fun _ _ _ _ _ _ us hl=>bz1 (us:=us) hl fun _=>rfl
 have d_ah:=zbm l.prog w base G.T zaA 16 "rank_in" rfl rfl (fun F=>Kah T  F) fun _ _ _ _ _ _ us hl=>bz2 (us:=us) hl fun _ _=>rfl
 have d_av:=zbm l.prog w base G.T zaA 34 "worths_within" rfl rfl (fun F=>Kav T d_ai d_ah F) fun _ _ _ _ _ _ us hl=>bz2 (us:=us) hl fun _ _=>rfl
 have d_az:=zbm l.prog w base G.T zaA 39 "lets_cover" rfl rfl (fun F=>Kaz T d_ay d_av F) fun _ _ _ _ _ _ us hl=>bz3 (us:=us) hl fun _ _ _=>rfl
 have d_ba:=zbm l.prog w base G.T zaA 40 "size_of" rfl rfl (fun F=>Kba T d_ag F) fun _ _ _ _ _ _ us hl=>bz2 (us:=us) hl fun _ _=>rfl
 have d_bc:=zbm l.prog w base G.T zaA 43 "_law_numbers" rfl rfl (fun F=>Kbc T  F) fun _ _ _ _ _ _ us hl=>bz3 (us:=us) hl fun _ _ _=>rfl
 have d_bk:=zbm l.prog w base G.T zaA 51 "_law_cover" rfl rfl (fun F=>Kbk T d_bj d_bc F) fun _ _ _ _ _ _ us hl=>bz4 (us:=us) hl fun _ _ _ _=>rfl
 have d_be:=zbm l.prog w base G.T zaA 45 "_law_wished" rfl rfl (fun F=>Kbe T  F) fun _ _ _ _ _ _ us hl=>bz2 (us:=us) hl fun _ _=>rfl
 have d_bf:=zbm l.prog w base G.T zaA 46 "_law_dealt" rfl rfl (fun F=>Kbf T d_be d_bc F) fun _ _ _ _ _ _ us hl=>bz3 (us:=us) hl fun _ _ _=>rfl
 have d_bg:=zbm l.prog w base G.T zaA 47 "_law_is_number" rfl rfl (fun F=>Kbg T  F) fun _ _ _ _ _ _ us hl=>bz1 (us:=us) hl fun _=>rfl
 have d_bh:=zbm l.prog w base G.T zaA 48 "_law_is_dealing" rfl rfl (fun F=>Kbh T d_bg d_be F) fun _ _ _ _ _ _ us hl=>bz2 (us:=us) hl fun _ _=>rfl
 have d_bi:=zbm l.prog w base G.T zaA 49 "_law_near" rfl rfl (fun F=>Kbi T d_bh d_be d_bc F) fun _ _ _ _ _ _ us hl=>bz4 (us:=us) hl fun _ _ _ _=>rfl
 have d_bn:=zbm l.prog w base G.T zaA 54 "_law_all" rfl rfl (fun F=>Kbn T d_be F) fun _ _ _ _ _ _ us hl=>bz1 (us:=us) hl fun _=>rfl
 have d_al:=zbm l.prog w base G.T zaA 23 "place_of" rfl rfl (fun F=>Kal T  F) fun _ _ _ _ _ _ us hl=>bz2 (us:=us) hl fun _ _=>rfl
 have d_am:=zbm l.prog w base G.T zaA 24 "steps_of_askers" rfl rfl (fun F=>Kam T d_al F) fun _ _ _ _ _ _ us hl=>bz3 (us:=us) hl fun _ _ _=>rfl
 have d_aj:=zbm l.prog w base G.T zaA 19 "copies_left" rfl rfl (fun F=>Kaj T d_ag F) fun _ _ _ _ _ _ us hl=>bz2 (us:=us) hl fun _ _=>rfl
 have d_an:=zbm l.prog w base G.T zaA 25 "steps_of_copies" rfl rfl (fun F=>Kan T d_aj F) fun _ _ _ _ _ _ us hl=>bz2 (us:=us) hl fun _ _=>rfl
 have d_ao:=zbm l.prog w base G.T zaA 26 "all_steps" rfl rfl (fun F=>Kao T d_am d_an F) fun _ _ _ _ _ _ us hl=>bz3 (us:=us) hl fun _ _ _=>rfl
 have d_ap:=zbm l.prog w base G.T zaA 27 "longer_walks" rfl rfl (fun F=>Kap T  F) fun _ _ _ _ _ _ us hl=>bz2 (us:=us) hl fun _ _=>rfl
 have d_aq:=zbm l.prog w base G.T zaA 28 "widest_walks" rfl rfl (fun F=>Kaq T d_ap F) fun _ _ _ _ _ _ us hl=>bz2 (us:=us) hl fun _ _=>rfl
 have d_ar:=zbm l.prog w base G.T zaA 29 "round_within" rfl rfl (fun F=>Kar T  F) fun _ _ _ _ _ _ us hl=>bz1 (us:=us) hl fun _=>rfl
 have d_as:=zbm l.prog w base G.T zaA 30 "way_round" rfl rfl (fun F=>Kas T  F) fun _ _ _ _ _ _ us hl=>bz2 (us:=us) hl fun _ _=>rfl
 have d_at:=zbm l.prog w base G.T zaA 31 "gaining_way" rfl rfl (fun F=>Kat T d_ao d_aq d_ar d_as F) fun _ _ _ _ _ _ us hl=>bz3 (us:=us) hl fun _ _ _=>rfl
 have d_ak:=zbm l.prog w base G.T zaA 21 "behind_way" rfl rfl (fun F=>Kak T  F) fun _ _ _ _ _ _ us hl=>bz2 (us:=us) hl fun _ _=>rfl
 have d_au:=zbm l.prog w base G.T zaA 32 "best_by" rfl rfl (fun F=>Kau T d_at d_ak F) fun _ _ _ _ _ _ us hl=>bz2 (us:=us) hl fun _ _=>rfl
 have d_aw:=zbm l.prog w base G.T zaA 35 "level_dealing" rfl rfl (fun F=>Kaw T d_av d_au F) fun _ _ _ _ _ _ us hl=>bz2 (us:=us) hl fun _ _=>rfl
 have d_ax:=zbm l.prog w base G.T zaA 36 "level_of" rfl rfl (fun F=>Kax T d_aw F) fun _ _ _ _ _ _ us hl=>bz2 (us:=us) hl fun _ _=>rfl
 have d_bl:=zbm l.prog w base G.T zaA 52 "_law_ranks" rfl rfl (fun F=>Kbl T d_bc F) fun _ _ _ _ _ _ us hl=>bz2 (us:=us) hl fun _ _=>rfl
 have d_bd:=zbm l.prog w base G.T zaA 44 "_law_wishes" rfl rfl (fun F=>Kbd T d_bc d_bb F) fun _ _ _ _ _ _ us hl=>bz5 (us:=us) hl fun _ _ _ _ _=>rfl
 exact fun {_ _} F=>Kbo T d_bb d_bm d_az d_ba d_bk d_bf d_bi d_bn d_ax d_bl d_bd F
abbrev d_bo:DefRec:=⟨"law", zdX Sbo,zcW Sbo,zal Sbo,zpD Sbo⟩
theorem walk {YP:World->Heap->Prop} {XP:(Str->Option Value)->Heap->Prop} (hlaw:∀ ns:List Int,ns.length<=63->F_bo [.list (ns.map PyData.int)]=some (.bool true)):PySem.W.WalkO q0 [] XP YP (PySem.Challenge.rw_wishdeal_k53_whole_no_dealing_beyond_a_c).row.toRowW d_bo [] (fun f vs=>PySem.call f vs) :=
 zl9 (n:=63) (k:=14) (x := "_law_script") rfl (by decide) rfl ⟨rfl,by decide,by decide,rfl⟩ (fun _ _ _ _ _ _ G hm=>zoL G hm) hlaw
theorem asm {α : Type} {a b : α} (h:a=b):a=b:=h
theorem zoM {i:Nat} {x:Option Sl} {ρ ρ':DEnv} (h : ρ.set i x = ρ') : ρ.set i x = ρ':=h
theorem zoN {i:Nat} {ρ : DEnv} {x:Option (Option Sl)} (h : ρ[i]?=x) : ρ[i]?=x:=h
theorem asmN {ds:List D} {n:Nat} (h:ds.length < n):ds.length < n:=h
theorem zpH {ds:List D} {n:Nat} (h:ds.length<=n):ds.length<=n:=h
theorem zoO {i:Nat} {ρ : DEnv} (h:i < ρ.length):i < ρ.length:=h
theorem zoP {f:M D} {ρ ρ1:DEnv} {d:D} {t:Bool} (h:f ρ = .ok d ρ1) (ht:(!isNon d)=t):mMap (fun d=>!isNon d) f ρ = .ok t ρ1:=by
 subst ht;exact zaK (k:=fun d=>!isNon d) h
local macro_rules | `(tactic| walk_at "set")=>`(tactic| first | (simp only [List.set_cons_succ,List.set_cons_zero];done) | (simp only [List.set_cons_succ,List.set_cons_zero];rfl) | rfl)
local macro_rules | `(tactic| walk_at "side")=>`(tactic| first | assumption | omega | (simp only [List.length_cons,List.length_nil,List.length_map,List.length_append];omega))
local macro_rules | `(tactic| walk_at "st1")=>`(tactic| first
 | with_reducible apply zaS
 | with_reducible apply zbk
 | ((with_reducible apply zdE);exact rfl)
 | with_reducible apply zfp
 | with_reducible apply zc4
 | with_reducible apply zd3
 | with_reducible exact st_nx)
local macro_rules | `(tactic| walk_at "ev1")=>`(tactic| first
 | with_reducible exact zag
 | with_reducible exact zai
 | ((with_reducible apply zad);exact rfl)
 | with_reducible apply zap
 | with_reducible apply zab
 | with_reducible apply zcT
 | with_reducible apply zmE
 | ((with_reducible apply ev_listO);exact rfl)
 | with_reducible apply zaT
 | ((with_reducible apply zbB);exact rfl)
 | ((with_reducible apply zfM);exact rfl)
 | with_reducible apply ev_join
 | with_reducible apply zaK
 | ((with_reducible apply zaY);exact rfl)
 | with_reducible apply zaQ
 | with_reducible apply zeP
 | ((with_reducible apply zbu);exact rfl)
 | ((with_reducible apply zfI);exact rfl)
 | with_reducible apply zcN
 | with_reducible apply zj8
 | with_reducible apply ev_rng3
 | with_reducible apply zhZ
 | with_reducible apply zer
 | with_reducible apply ev_index
 | with_reducible apply zca
 | with_reducible apply ev_iter
 | with_reducible apply ev_sl
 | with_reducible apply zbT
 | with_reducible apply zcR
 | with_reducible apply zbW
 | with_reducible apply zcC
 | with_reducible apply zba
 | with_reducible apply zc3
 | ((with_reducible apply zbt);exact rfl;walk_at "set")
 | ((with_reducible apply zhV);exact rfl)
 | with_reducible apply zay
 | ((with_reducible apply asm);(with_reducible assumption))
 | with_reducible exact zbb
 | with_reducible exact zfK
 | with_reducible exact zhX
 | with_reducible exact zkb
 | with_reducible exact vop_min
 | with_reducible exact zaE
 | with_reducible exact zhY
 | with_reducible exact vop_sl
 | with_reducible exact zbX
 | with_reducible exact zbw
 | with_reducible exact vop_itT
 | with_reducible exact vop_itS
 | with_reducible exact vop_inS
 | with_reducible exact vop_ninS
 | with_reducible exact vop_iter
 | with_reducible exact zbM
 | with_reducible exact zgA
 | with_reducible exact zhr
 | with_reducible exact zh0
 | with_reducible exact vop_neT
 | with_reducible exact vop_eqT
 | with_reducible exact zbU
 | ((with_reducible apply zds);walk_at "side")
 | ((with_reducible apply znm) <;> walk_at "side")
 | ((with_reducible apply zlV) <;> walk_at "side")
 | ((with_reducible apply zfL) <;> walk_at "side")
 | ((with_reducible apply zbv);walk_at "side")
 | ((with_reducible apply zoO);exact of_decide_eq_true rfl)
 | ((with_reducible apply zar);walk_at "st1")
 | ((with_reducible apply za4);walk_at "st1")
 | walk_at "st1"
 | ((with_reducible apply zoN);exact rfl)
 | ((with_reducible apply asmN);walk_at "side")
 | ((with_reducible apply zpH);walk_at "side")
 | with_reducible apply zaJ
 | ((with_reducible apply zoM);walk_at "set")
 | ((with_reducible apply zoO);exact of_decide_eq_true rfl)
 | with_reducible apply tg_N
 | with_reducible exact tg_0
 | with_reducible apply tg_C
 | ((with_reducible apply tg_T);exact rfl)
 | ((with_reducible apply asmE);exact rfl))
local macro_rules | `(tactic| walk_at "ev")=>`(tactic| repeat' walk_at "ev1")
theorem zfv {sizes found:List Int} {z d:Int} (h:∀ (j:Nat) d z,found[j]?=some d->sizes[j]?=some z->0<=d/\d < z) (hz:sizes[found.length]?=some z) (h0:0<=d/\d < z) :
  ∀ (j:Nat) d' z',(found ++ [d])[j]?=some d'->sizes[j]?=some z'->0<=d'/\d' < z':=by
 intro j d' z' e1 e2
 by_cases hj:j < found.length
 ·rw [List.getElem?_append_left hj] at e1
  exact h j d' z' e1 e2
 ·by_cases hj2:j=found.length
  ·subst hj2
   rw [hz] at e2
   cases e2
   rw [List.getElem?_append_right (Nat.le_refl _),Nat.sub_self,List.getElem?_cons_zero] at e1
   cases e1
   exact h0
  ·rw [List.getElem?_eq_none (by rw [List.length_append,List.length_singleton];omega)] at e1
   cases e1
def inv (c s:Int) (sizes:List Int) (n:Int) (i:Nat) (ρ : DEnv):Prop:=∃ left found x6 x7,ρ = [some (Sl.pub (.int c)),some (.pub (.int s)),some (.pub (.list (sizes.map .int))),some (.pub (.int n)),some (.pub (.int left)),some (.own ((found:List Int).map .int)),x6,x7] /\
 found.length=i/\∀ (j:Nat) d z,found[j]?=some d->sizes[j]?=some z->0<=d/\d < z
theorem zkN {c s n:Int} {sizes:List Int} (hs:∀ x ∈ sizes,0 < x/\x < 18446744073709551616) (hl:sizes.length<=1000) {i:Nat} {d:D} {ρ : DEnv} {Q:Out->Prop} (hi:(zbp 0 sizes.length)[i]?=some d) (h:inv c s sizes n i ρ) :
  ∃ ρ2,gN 6 d ρ = some ρ2/\Ho zhu ρ2 (zeQ (inv c s sizes n (i+1)) Q):=by
 obtain ⟨left,found,x6,x7,rfl,hf,hfd⟩:=h
 obtain ⟨rfl,hlt⟩:=zbL hi
 obtain ⟨z,hz⟩:∃ z,sizes[i]?=some z:=⟨sizes[i]'(by omega),List.getElem?_eq_getElem _⟩
 obtain ⟨z1,z2⟩:=hs z (List.mem_of_getElem? hz)
 have hix:oIx (.list (sizes.map PyData.int)) (.int (0+(i:Int)))=some (.int z):=by
  rw [Int.zero_add]
  exact zaW (by rw [List.getElem?_map,hz];rfl)
 generalize hk:(0:Int)+(i:Int)=k at hix ⊢
 have hk1:k < 18446744073709551616:=by omega
 have hk2 : -18446744073709551616 < k:=by omega
 have hlen:(found.map PyData.int).length < 1000000:=by rw [List.length_map];omega
 have pw:oPow (.int 10) (.int 18)=some (.int 1000000000000000000):=by rw [zka (by decide)];rfl
 refine ⟨_,tg_N (of_decide_eq_true rfl) (by walk_at "set"),?_⟩
 unfold zhu
 apply zbe
 case h1 =>
  apply zhW
  case h1=>walk_at "ev"
  case h2=>intro _;walk_at "ev"
 case h2 =>
  intro _
  walk_at "ev"
  refine zaO ?_
  exact ⟨_,found ++ [left % z],_,_,by rw [List.map_append];rfl,by rw [List.length_append,hf];rfl,zfv hfd (by rw [hf];exact hz) ⟨Int.emod_nonneg _ (by omega),Int.emod_lt_of_pos _ z1⟩⟩
 case h3 =>
  intro _
  walk_at "ev"
  refine zaO ?_
  exact ⟨_,found ++ [_ % z],_,_,by rw [List.map_append];rfl,by rw [List.length_append,hf];rfl,zfv hfd (by rw [hf];exact hz) ⟨Int.emod_nonneg _ (by omega),Int.emod_lt_of_pos _ z1⟩⟩
theorem zbZ (c s:Int) {sizes:List Int} (hs:∀ x ∈ sizes,0 < x/\x < 18446744073709551616) (hl:sizes.length<=1000) :
  ∃ r,F_bc [.int c,.int s,.list (sizes.map PyData.int)]=some r/\∃ ds:List Int,r=.list (ds.map .int)/\ds.length=sizes.length/\∀ (j:Nat) d z,ds[j]?=some d->sizes[j]?=some z->0<=d/\d < z:=by
 refine zcS (ρ:=[some (.pub (.int c)),some (.pub (.int s)),some (.pub (.list (sizes.map PyData.int))),none,none,none,none,none]) rfl ?_
 unfold g_bc
 walk_at "ev"
 apply zaU
 apply zbJ (ds:=zbp 0 sizes.length) (inv c s sizes (if -1 - c > c then -1 - c else c))
 case h1 =>
  walk_at "ev"
  rw [List.length_map]
  exact zck (by omega) (by omega)
 case h0=>exact ⟨_,[],none,none,rfl,rfl,fun j d z e=>by cases e⟩
 case hst=>exact fun i d ρ e h=>zkN hs hl e h
 case hend =>
  rintro ρ ⟨left,found,x6,x7,rfl,hf,hfd⟩
  refine zaw ?_
  walk_at "ev"
  rw [za0] at hf
  exact ⟨_,rfl,found,rfl,by omega,hfd⟩
mutual
theorem zh7:∀ (d:PyData),d.canLay0=true->PyData.eqv d d=true
 | .none,_=>rfl
 | .bool b,_=>by cases b <;> rfl
 | .int i,_=>by simp [PyData.eqv]
 | .str s,_=>by simp [PyData.eqv]
 | .list xs,h=>eqvAll_refl xs h
 | .tuple xs,h=>eqvAll_refl xs h
 | .dict _,h=>by cases h
theorem eqvAll_refl:∀ (xs:List PyData),PyData.canLayAll0 xs=true->PyData.eqvAll xs xs=true
 | [],_=>rfl
 | x :: r,h=>by
  have h:(PyData.canLay0 x && PyData.canLayAll0 r)=true:=h
  rw [Bool.and_eq_true] at h
  show (PyData.eqv x x && PyData.eqvAll r r)=true
  rw [zh7 x h.1,eqvAll_refl r h.2];rfl
end
theorem zeU:∀ {xs:List D},(∀ x ∈ xs,PyData.canLay0 x=true)->PyData.canLayAll0 xs=true
 | [],_=>rfl
 | x :: r,h=>by
  show (PyData.canLay0 x && PyData.canLayAll0 r)=true
  rw [h x List.mem_cons_self,zeU fun y hy=>h y (List.mem_cons_of_mem _ hy)];rfl
theorem zgM {n:Nat}:∀ {xs:List D},(∀ x ∈ xs,PyData.depth x<=n)->PyData.depthAll xs<=n
 | [],_=>by simp [PyData.depthAll]
 | x :: r,h=>by
  have h1:=h x List.mem_cons_self
  have h2:=zgM (n:=n) fun y hy=>h y (List.mem_cons_of_mem _ hy)
  simp only [PyData.depthAll]
  omega
def za9 (r:List Int):D:=.list (r.map PyData.int)
def zaC (rs:List (List Int)):D:=.list (rs.map za9)
def zaz (cs:List Int) (ls:List (List (List Int))):D:=.tuple [.list (cs.map PyData.int),.list (ls.map zaC)]
structure zcf (n:Nat) (rs:List (List Int)):Prop where
 few:rs.length<=5
 some:∀ r ∈ rs,r ≠ []
 there:∀ r ∈ rs,∀ t ∈ r,0<=t/\t < n
 once:rs.flatten.Nodup
structure Good (cs:List Int) (ls:List (List (List Int))):Prop where
 c1:1<=cs.length
 c6:cs.length<=6
 c7:∀ c ∈ cs,0<=c/\c < 8
 l1:1<=ls.length
 l7:ls.length<=7
 rk:∀ rs ∈ ls,zcf cs.length rs
theorem zh8 (r:List Int):(za9 r).canLay0=true:=zeU fun x hx=>by obtain ⟨y,_,rfl⟩:=List.mem_map.mp hx;rfl
theorem znx (i:Int):(PyData.int i).depth<=1:=by simp [PyData.depth]
theorem zny {n:Nat} {xs:List D} (h:PyData.depthAll xs<=n):(PyData.list xs).depth<=n+1:=by simp only [PyData.depth];omega
theorem zmb (r:List Int):(za9 r).depth<=2:=zny (zgM fun x hx=>by obtain ⟨y,_,rfl⟩:=List.mem_map.mp hx;exact znx y)
theorem zkO (i:Int):F_aa [.int i]=some (.bool true):=by
 refine zbf (ρ:=[some (.pub (.int i))]) rfl ?_
 unfold g_aa
 exact zaJ (zhp (zaK (zad rfl)) (fun _=>zj9 (zaK (zad rfl)))) rfl
theorem zeV {i m:Int} (h0:0<=i) (h1:i < m):F_ab [.int i,.int m]=some (.bool true):=by
 refine zbf (ρ:=[some (.pub (.int i)),some (.pub (.int m))]) rfl ?_
 unfold g_ab
 have hb:(decide (0<=i) && decide (i < m))=true:=by simp [h0,h1]
 refine zaJ (zhp (t:=true) (u:=true) (zay (zab (zad rfl) zai) rfl (zkO i)) (fun _=>?_)) rfl
 rw [← hb]
 exact zaK (zfJ zag (zad rfl) rfl (fun _=>zad rfl) (fun _=>rfl))
theorem zgN {α : Type} (l:List α):oAll [.list (l.map fun _=>.bool true)]=some (.bool true):=by
 have:(l.map fun _=>PyData.bool true)=(l.map fun _=>true).map PyData.bool:=by rw [List.map_map];rfl
 rw [this,zfN]
 congr 2
 rw [List.all_map]
 induction l with
 | nil=>rfl
 | cons x r ih=>simpa using ih
theorem ziX {r:List Int} {n:Int} (hne:r ≠ []) (hl:r.length<=1000) (h:∀ t ∈ r,0<=t/\t < n):F_ad [za9 r,.int n]=some (.bool true):=by
 refine zbf (ρ:=[some (.pub (za9 r)),some (.pub (.int n))]) rfl ?_
 unfold g_ad
 apply zaU
 have hlen:oLen [za9 r]=some (.int r.length):=by unfold za9;rw [zaE,List.length_map]
 have hp:0 < r.length:=List.length_pos_iff.mpr hne
 apply zbe
 case h1=>exact zcE (ρ1:=[some (.pub (za9 r)),some (.pub (.int n))]) (zcO (zad rfl) rfl) (zap (zbu rfl hlen) zag zbU)
 case h2 =>
       intro hh;have:(r.length:Int)=0:=by simpa using hh
       omega
 case h3 =>
  intro _
  refine zbI (zaw ?_)
  have hc:zbl (gN 2) (zah true) (dFun 2 F_ab (zae (dVar 2) (zae (dVar 1) (mNil)))) (r.map PyData.int) (zaH [some (.pub (za9 r)),some (.pub (.int n))] ++ List.replicate 1 none) []=some (r.map fun _=>.bool true):=by
   rw [zce (fun _=>true) (fun _=>.bool true) (fun ρ=>∃ x,ρ = [some (.pub (za9 r)),some (.pub (.int n)),x])]
   ·rw [List.filter_eq_self.mpr (fun _ _=>rfl),List.nil_append,List.map_map];rfl
   ·rintro d hm ρ ⟨x,rfl⟩
    obtain ⟨t,ht,rfl⟩:=List.mem_map.mp hm
    exact ⟨_,tg_N (of_decide_eq_true rfl) rfl,rfl,fun _=>zay (zab (zad rfl) (zab (zad rfl) zai)) rfl (zeV (h t ht).1 (h t ht).2),_,rfl⟩
   ·exact ⟨none,rfl⟩
   ·rw [List.length_map,List.length_nil];omega
  exact zaJ (zaQ (zab (zaK (zbC (zaT (zad rfl) rfl) hc)) zai) (zgN r)) rfl
theorem zgO {a b c x3:Option Sl} (ha:zd0 a=a) (hb:zd0 b=b) (hc:zd0 c=c) (hx:zd0 x3=x3):∀ (ds es:List D) (x4:Option Sl),es.length+ds.length<=1000000 ->
  ∃ y,zcd (gN 4) (zah true) (dVar 4) ds [a,b,c,x3,x4] es=some (es ++ ds,[a,b,c,x3,y])
 | [],es,x4,_=>⟨x4,by rw [zcd,List.append_nil]⟩
 | d :: r,es,x4,h=>by
  rw [List.length_cons] at h
  obtain ⟨y,e⟩:=zgO ha hb hc hx r (es ++ [d]) (some (.pub d)) (by rw [List.length_append,List.length_singleton];omega)
  refine ⟨y,?_⟩
  rw [zcd]
  have h1:gN 4 d [a,b,c,x3,x4]=some [a,b,c,x3,some (.pub d)]:=tg_N (of_decide_eq_true rfl) rfl
  rw [h1]
  dsimp only [zah]
  rw [if_pos rfl]
  have h2:dVar 4 [a,b,c,x3,some (.pub d)]=.ok d [a,b,c,x3,some (.pub d)]:=zad rfl
  rw [h2]
  dsimp only
  rw [if_pos (by omega)]
  have h3:zaH [a,b,c,x3,some (.pub d)]=[a,b,c,x3,some (.pub d)]:=by
   unfold zaH
   simp only [List.map_cons,List.map_nil,ha,hb,hc,hx]
   rfl
  rw [h3,e,List.append_assoc];rfl
theorem zeW {a b:D}:∀ (rs:List (List Int)) (es:List D) (x3 x4:Option Sl),es.length+rs.flatten.length<=1000000 ->
  zcZ (gN 3) (zah true) (za2 (dVar 3)) (gN 4) (zah true) (dVar 4) (rs.map za9) [some (.pub a),some (.pub b),none,x3,x4] es=some (es ++ rs.flatten.map PyData.int)
 | [],es,_,_,_=>by rw [List.map_nil,zcZ];simp
 | r :: rs,es,x3,x4,h=>by
  rw [List.flatten_cons,List.length_append] at h
  rw [List.map_cons,zcZ]
  have h1:gN 3 (za9 r) [some (.pub a),some (.pub b),none,x3,x4]=some [some (.pub a),some (.pub b),none,some (.pub (za9 r)),x4]:=tg_N (of_decide_eq_true rfl) rfl
  rw [h1]
  dsimp only [zah]
  rw [if_pos rfl]
  have h2:za2 (dVar 3) [some (.pub a),some (.pub b),none,some (.pub (za9 r)),x4]=.ok (r.map PyData.int) [some (.pub a),some (.pub b),none,some (.pub (za9 r)),x4]:=zaT (zad rfl) rfl
  rw [h2]
  dsimp only
  have h3:zaH [some (.pub a),some (.pub b),none,some (.pub (za9 r)),x4]=[some (.pub a),some (.pub b),none,some (.pub (za9 r)),zd0 x4]:=rfl
  rw [h3]
  obtain ⟨y,e⟩:=zgO (a:=some (.pub a)) (b:=some (.pub b)) (c:=none) (x3:=some (.pub (za9 r))) rfl rfl rfl rfl (r.map PyData.int) es (zd0 x4) (by rw [List.length_map];omega)
  rw [e]
  dsimp only
  have ih:=zeW (a:=a) (b:=b) rs (es ++ r.map PyData.int) (some (.pub (za9 r))) y (by rw [List.length_append,List.length_map];omega)
  refine Eq.trans ih ?_
  rw [List.flatten_cons,List.map_append,List.append_assoc]
theorem ziY {ns:List Int} (h:ns.Nodup):zeK ns=ns.length:=by
 unfold zeK
 have:∀ i,i<=ns.length->(PyProof.Rows.firstMet (fun i=>ns.getD i 0) i).length=i:=by
  intro i
  induction i with
  | zero=>intro _;rfl
  | succ i ih =>
   intro hi
   rw [PyProof.Rows.firstMet_succ]
   have hany:(PyProof.Rows.firstMet (fun i=>ns.getD i 0) i).any (· == ns.getD i 0)=false:=by
    rw [PyProof.Rows.firstMet_any,List.any_eq_false]
    intro x hx
    obtain ⟨j,hj,rfl⟩:=List.mem_map.mp hx
    have hj:=List.mem_range.mp hj
    intro e
    have e:ns.getD j 0=ns.getD i 0:=by simpa using e
    have l1:j < ns.length:=by omega
    have l2:i < ns.length:=by omega
    simp only [List.getD,List.getElem?_eq_getElem l1,List.getElem?_eq_getElem l2,Option.getD_some] at e
    exact absurd ((List.getElem_inj h).mp e) (by omega)
   unfold PyProof.Rows.step_dedup
   rw [hany]
   rw [if_neg (by decide),List.length_append,ih (by omega)];rfl
 exact this ns.length (Nat.le_refl _)
theorem zhz {rs:List (List Int)} {n:Nat} (g:zcf n rs) (hn:n<=6) (hf:rs.flatten.length<=1000):F_ae [zaC rs,.int n]=some (.bool true):=by
 refine zbf (ρ:=[some (.pub (zaC rs)),some (.pub (.int n)),none]) rfl ?_
 unfold g_ae
 have hlen:oLen [zaC rs]=some (.int rs.length):=by unfold zaC;rw [zaE,List.length_map]
 have h5:=g.few
 have hrl:∀ r ∈ rs,r.length<=1000:=fun r hr=>Nat.le_trans (List.Sublist.length_le (List.sublist_flatten_of_mem hr)) hf
 apply zaU
 apply zbe
 case h1=>exact zcE (ρ1:=[some (.pub (zaC rs)),some (.pub (.int n)),none]) (zcO (zad rfl) rfl) (zap (zbu rfl hlen) zag rfl)
 case h2 =>
       intro hh;have:(5:Int) < (rs.length:Int):=by simpa using hh
       omega
 case h3 =>
  intro _
  refine zbI (zaw ?_)
  have hc:zbl (gN 3) (zah true) (dFun 2 F_ad (zae (dVar 3) (zae (dVar 1) (mNil)))) (rs.map za9) (zaH [some (.pub (zaC rs)),some (.pub (.int n)),none] ++ List.replicate 1 none) []=some (rs.map fun _=>.bool true):=by
   rw [zce (fun _=>true) (fun _=>.bool true) (fun ρ=>∃ x,ρ = [some (.pub (zaC rs)),some (.pub (.int n)),none,x])]
   ·rw [List.filter_eq_self.mpr (fun _ _=>rfl),List.nil_append,List.map_map];rfl
   ·rintro d hm ρ ⟨x,rfl⟩
    obtain ⟨r,hr,rfl⟩:=List.mem_map.mp hm
    exact ⟨_,tg_N (of_decide_eq_true rfl) rfl,rfl,fun _=>zay (zab (zad rfl) (zab (zad rfl) zai)) rfl (ziX (g.some r hr) (hrl r hr) (g.there r hr)),_,rfl⟩
   ·exact ⟨none,rfl⟩
   ·rw [List.length_map,List.length_nil];omega
  apply zaU
  apply zbe
  case h1=>exact zcR (zbW (zaQ (zab (zaK (zbC (zaT (zad rfl) rfl) hc)) zai) (zgN rs)))
  case h2=>intro hh;cases hh
  case h3 =>
   intro _
   refine zbI (zaw ?_)
   have h2:zgq (za2 (dVar 0)) 2 (gN 3) (zah true) (za2 (dVar 3)) (gN 4) (zah true) (dVar 4) [some (.pub (zaC rs)),some (.pub (.int n)),none]=.ok (rs.flatten.map PyData.int) [some (.pub (zaC rs)),some (.pub (.int n)),none]:=by
    unfold zgq
    have e1:za2 (dVar 0) [some (.pub (zaC rs)),some (.pub (.int n)),none]=.ok (rs.map za9) [some (.pub (zaC rs)),some (.pub (.int n)),none]:=zaT (zad rfl) rfl
    rw [e1]
    dsimp only
    have e2:=zeW (a:=zaC rs) (b:=.int n) rs [] none none (by rw [List.length_nil];omega)
    have e3:zcZ (gN 3) (zah true) (za2 (dVar 3)) (gN 4) (zah true) (dVar 4) (rs.map za9) (zaH [some (.pub (zaC rs)),some (.pub (.int n)),none] ++ List.replicate 2 none) []=some ([] ++ rs.flatten.map PyData.int):=e2
    rw [e3]
    rfl
   refine zar (zbk h2 (of_decide_eq_true rfl) rfl) ?_
   have hls:zd2 [.list (rs.flatten.map PyData.int)]=some (.int rs.flatten.length):=by
    unfold zd2
    dsimp only
    rw [zdb]
    dsimp only
    rw [if_pos (by omega),ziY g.once]
   refine zaJ (zaK (zap (zaQ (zab (zbt rfl rfl) zai) hls) (zbu rfl zaE) zbU)) ?_
   rw [List.length_map]
   simp
theorem zbE {d:D}:∀ {xs:List D} {k i:Nat},(zcr k xs)[i]?=some d->∃ x,xs[i]?=some x/\d=.tuple [.int ((k+i:Nat):Int),x]
 | [],k,i,h=>by cases h
 | x :: r,k,0,h=>by
  cases h
  exact ⟨x,rfl,rfl⟩
 | x :: r,k,i+1,h=>by
  obtain ⟨y,e,q⟩:=zbE (xs:=r) (k:=k+1) (i:=i) h
  exact ⟨y,e,by rw [q];congr 4;omega⟩
theorem zdN:∀ (n:Nat) (l:List Int),l.Nodup->(∀ x ∈ l,0<=x/\x < n)->l.length<=n
 | 0,[],_,_=>Nat.le_refl _
 | 0,x :: r,_,h=>by have:=h x List.mem_cons_self;omega
 | n+1,l,hn,h=>by
  by_cases hm:(n:Int) ∈ l
  ·have:=zdN n (l.erase (n:Int)) (hn.erase _) fun x hx=>by
    have h1:=(List.Nodup.mem_erase_iff hn).mp hx
    have h2:=h x h1.2
    have h3:=h1.1
    omega
   rw [List.length_erase_of_mem hm] at this
   omega
  ·have:=zdN n l hn fun x hx=>by
    have h2:=h x hx
    have h3:x ≠ (n:Int):=fun e=>hm (e ▸ hx)
    omega
   omega
theorem zde {n:Nat} {rs:List (List Int)} (g:zcf n rs):rs.flatten.length<=n:=zdN n _ g.once fun x hx=>by
 obtain ⟨r,hr,hxr⟩:=List.mem_flatten.mp hx
 exact g.there r hr x hxr
theorem zkP {cs:List Int} (h1:1<=cs.length) (h6:cs.length<=6) (h:∀ c ∈ cs,0<=c/\c < 8):F_ac [.list (cs.map PyData.int)]=some .none:=by
 refine zke (ρ:=[some (.pub (.list (cs.map PyData.int))),none,none]) rfl ?_
 unfold g_ac
 have hlen:oLen [.list (cs.map PyData.int)]=some (.int cs.length):=by rw [zaE,List.length_map]
 apply zaU
 apply zbe
 case h1=>exact zcE (ρ1:=[some (.pub (.list (cs.map PyData.int))),none,none]) (zcO (zad rfl) rfl) (zcR (zfJ zag (zbu rfl hlen) rfl (fun _=>zag) (fun _=>rfl)))
 case h2 =>
  intro hh
  have a1:(1:Int)<=(cs.length:Int):=by omega
  have a2:(cs.length:Int)<=6:=by omega
  simp [a1,a2] at hh
 case h3 =>
  intro _
  refine zbI (zaw ?_)
  apply zbJ (fun _ ρ=>∃ x1 x2,ρ = [some (.pub (.list (cs.map PyData.int))),x1,x2])
  case h1=>exact zca (zab (zad rfl) zai) zbM
  case h0=>exact ⟨_,_,rfl⟩
  case hst =>
   rintro i d ρ hi ⟨x1,x2,rfl⟩
   obtain ⟨x,hx,rfl⟩:=zbE hi
   obtain ⟨c,hc,rfl⟩:=List.mem_map.mp (List.mem_of_getElem? hx)
   refine ⟨_,tg_T rfl (tg_C (tg_N (of_decide_eq_true rfl) rfl) (tg_C (tg_N (of_decide_eq_true rfl) rfl) tg_0)),?_⟩
   unfold zkw
   apply zbe
   case h1=>exact zcR (zbW (zay (zab (zad rfl) (zab (zap zag zag zbb) zai)) rfl (zeV (h c hc).1 (by have:=(h c hc).2;omega))))
   case h2=>intro hh;cases hh
   case h3=>exact fun _=>zbI (zaO ⟨_,_,rfl⟩)
  case hend=>exact fun ρ ⟨x1,x2,e⟩=>⟨_,rfl⟩
theorem zmc {ls:List (List (List Int))} {n:Nat} (hn:n<=6) (h1:1<=ls.length) (h7:ls.length<=7) (h:∀ rs ∈ ls,zcf n rs):F_af [.list (ls.map zaC),.int n]=some .none:=by
 refine zke (ρ:=[some (.pub (.list (ls.map zaC))),some (.pub (.int n)),none,none]) rfl ?_
 unfold g_af
 have hlen:oLen [.list (ls.map zaC)]=some (.int ls.length):=by rw [zaE,List.length_map]
 apply zaU
 apply zbe
 case h1=>exact zcE (ρ1:=[some (.pub (.list (ls.map zaC))),some (.pub (.int n)),none,none]) (zcO (zad rfl) rfl) (zcR (zfJ zag (zbu rfl hlen) rfl (fun _=>zag) (fun _=>rfl)))
 case h2 =>
  intro hh
  have a1:(1:Int)<=(ls.length:Int):=by omega
  have a2:(ls.length:Int)<=7:=by omega
  simp [a1,a2] at hh
 case h3 =>
  intro _
  refine zbI (zaw ?_)
  apply zbJ (fun _ ρ=>∃ x2 x3,ρ = [some (.pub (.list (ls.map zaC))),some (.pub (.int n)),x2,x3])
  case h1=>exact zca (zab (zad rfl) zai) zbM
  case h0=>exact ⟨_,_,rfl⟩
  case hst =>
   rintro i d ρ hi ⟨x1,x2,rfl⟩
   obtain ⟨x,hx,rfl⟩:=zbE hi
   obtain ⟨rs,hrs,rfl⟩:=List.mem_map.mp (List.mem_of_getElem? hx)
   refine ⟨_,tg_T rfl (tg_C (tg_N (of_decide_eq_true rfl) rfl) (tg_C (tg_N (of_decide_eq_true rfl) rfl) tg_0)),?_⟩
   unfold zkv
   have hfl:=zde (h rs hrs)
   apply zbe
   case h1=>exact zcR (zbW (zay (zab (zad rfl) (zab (zad rfl) zai)) rfl (zhz (h rs hrs) hn (by omega))))
   case h2=>intro hh;cases hh
   case h3=>exact fun _=>zbI (zaO ⟨_,_,rfl⟩)
  case hend=>exact fun ρ ⟨x1,x2,e⟩=>⟨_,rfl⟩
theorem zeX {cs:List Int} {ls:List (List (List Int))} (g:Good cs ls):F_ag [zaz cs ls]=some .none:=by
 refine zke (ρ:=[some (.pub (zaz cs ls)),none,none]) rfl ?_
 unfold g_ag
 apply zaU
 apply zbe
 case h1=>exact zcE (ρ1:=[some (.pub (zaz cs ls)),none,none]) (zcO (zad rfl) rfl) (zap (zbu rfl rfl) zag zhr)
 case h2=>intro hh;cases hh
 case h3 =>
  intro _
  refine zbI (zaw ?_)
  have hlen:oLen [.list (cs.map PyData.int)]=some (.int (cs.length:Nat)):=by rw [zaE,List.length_map]
  refine zar (zfp (zad rfl) (tg_T rfl (tg_C (tg_N (of_decide_eq_true rfl) rfl) (tg_C (tg_N (of_decide_eq_true rfl) rfl) tg_0)))) ?_
  refine zar (zd3 (zay (zab (zad rfl) zai) rfl (zkP g.c1 g.c6 g.c7))) ?_
  exact za4 (zd3 (zay (zab (zad rfl) (zab (zbu rfl hlen) zai)) rfl (zmc g.c6 g.l1 g.l7 g.rk))) ⟨_,rfl⟩
theorem zh9:∀ (xs ys:List Int),PyData.eqvAll (xs.map PyData.int) (ys.map PyData.int)=decide (xs=ys)
 | [],[]=>rfl
 | [],y :: ys=>by simp [PyData.eqvAll]
 | x :: xs,[]=>by simp [PyData.eqvAll]
 | x :: xs,y :: ys=>by
  have ih:=zh9 xs ys
  show (PyData.eqv (.int x) (.int y) && PyData.eqvAll (xs.map PyData.int) (ys.map PyData.int))=_
  rw [ih]
  have:PyData.eqv (.int x) (.int y)=decide (x=y):=rfl
  rw [this,Bool.eq_iff_iff]
  simp
theorem zgP {xs:List Int}:oNe (.list (xs.map PyData.int)) (.list [])=some (!decide (xs=[])):=by
 unfold oNe
 have h1:(PyData.list (xs.map PyData.int)).canLay0=true:=zh8 xs
 have h3:(PyData.list (xs.map PyData.int)).depth<=60:=by have:=zmb xs;unfold za9 at this;omega
 rw [if_pos ⟨h1,rfl,h3⟩]
 congr 2
 exact zh9 xs []
theorem zkQ {xs:List D} {x:D} (h:xs.getLast?=some x):oIx (.list xs) (.int (-1))=some x:=by
 unfold oIx atI
 have hl:xs ≠ []:=by rintro rfl;cases h
 have hp:0 < xs.length:=List.length_pos_iff.mpr hl
 rw [List.getLast?_eq_getElem?] at h
 show (ixN xs.length (-1)).bind _=_
 unfold ixN
 rw [if_neg (by decide),if_pos (by omega)]
 have e2:(-1+(xs.length:Int)).toNat=xs.length - 1:=by omega
 simp only [Option.bind_some]
 rw [e2];exact h
theorem zeY {xs:List Int} {k:Nat} (h:k < xs.length):oIx (.list (xs.map PyData.int)) (.int k)=some (.int (xs.getD k 0)):=by
 refine zaW ?_
 rw [List.getElem?_map,List.getElem?_eq_getElem h]
 simp [List.getD,List.getElem?_eq_getElem h]
theorem zcg (ns:List Int) (k:Nat) (hl:ns.length<=1000):∃ v,F_bb [.list (ns.map PyData.int),.int k]=some (.int v):=by
 have hlen:oLen [.list (ns.map PyData.int)]=some (.int ns.length):=by rw [zaE,List.length_map]
 by_cases h:k < ns.length
 ·refine ⟨ns.getD k 0,zbf (ρ:=[some (.pub (.list (ns.map PyData.int))),some (.pub (.int k))]) rfl ?_⟩
  unfold g_bb
  apply zaU
  apply zbe
  case h1=>exact zbB rfl (zbu rfl hlen) rfl
  case h2=>exact fun _=>zaJ (zaY rfl (zad rfl) (zeY h)) (zdF rfl)
  case h3 =>
        intro hh;have : ¬ (k:Int) < (ns.length:Int):=by simpa using hh
        omega
 ·refine ⟨0,zbf (ρ:=[some (.pub (.list (ns.map PyData.int))),some (.pub (.int k))]) rfl ?_⟩
  unfold g_bb
  apply zaU
  apply zbe
  case h1=>exact zbB rfl (zbu rfl hlen) rfl
  case h2 =>
        intro hh;have:(k:Int) < (ns.length:Int):=by simpa using hh
        omega
  case h3=>exact fun _=>zbI (zaw (zaJ zag rfl))
def sz6:List Int:=6 :: 7 :: List.replicate 6 11
def szP:List Int:=List.replicate 6 6 ++ [2]
theorem zoQ:∀ x ∈ sz6,0 < x/\x < 18446744073709551616:=by decide
theorem zoR:∀ x ∈ szP,0 < x/\x < 18446744073709551616:=by decide
def tab:List Int:=[1,1,2,0,3,7,1,4,5,6,1]
theorem zmH {z:Int} (h0:0<=z) (h1:z < 11):oIx (.list (tab.map PyData.int)) (.int z)=some (.int (tab.getD z.toNat 0))/\0<=tab.getD z.toNat 0/\tab.getD z.toNat 0 < 8:=by
 have e:z=0 ∨ z=1 ∨ z=2 ∨ z=3 ∨ z=4 ∨ z=5 ∨ z=6 ∨ z=7 ∨ z=8 ∨ z=9 ∨ z=10:=by omega
 rcases e with rfl|rfl|rfl|rfl|rfl|rfl|rfl|rfl|rfl|rfl|rfl <;> exact ⟨rfl,by decide,by decide⟩
structure zdO (n:Nat) (pl:List Int) (j:Nat) (rs:List (List Int)):Prop where
 few:rs.length<=j
 some:∀ r ∈ rs,r ≠ []
 there:∀ r ∈ rs,∀ t ∈ r,(0<=t/\t < n)/\pl.getD t.toNat 0 < 1+(j:Int)
 once:rs.flatten.Nodup
def zgQ (n:Nat) (pl:List Int) (r:Int):List Int:=((List.range n).filter fun k=>decide (pl.getD k 0=r)).map fun k:Nat=>(k:Int)
theorem zhA (n:Nat) (pl:List Int) (r:Int):(zgQ n pl r).Nodup:=by
 unfold zgQ
 refine List.Pairwise.map _ (fun a b h e=>h (by omega)) ((List.nodup_range).filter _)
theorem zgR {n:Nat} {pl:List Int} {r t:Int} (h:t ∈ zgQ n pl r):(0<=t/\t < n)/\pl.getD t.toNat 0=r:=by
 unfold zgQ at h
 obtain ⟨k,hk,rfl⟩:=List.mem_map.mp h
 have hk:=List.mem_filter.mp hk
 have h1:=List.mem_range.mp hk.1
 have h2:pl.getD k 0=r:=by simpa using hk.2
 exact ⟨⟨by omega,by omega⟩,by rw [Int.toNat_natCast];exact h2⟩
theorem zdO.add {n:Nat} {pl:List Int} {j:Nat} {rs:List (List Int)} {row:List Int} (g:zdO n pl j rs) (hne:row ≠ []) (hm:∀ t ∈ row,t ∈ zgQ n pl (1+(j:Int))) (hn:row.Nodup):zdO n pl (j+1) (rs ++ [row]) where
 few:=by rw [List.length_append,List.length_singleton];have:=g.few;omega
 some:=fun r hr=>by
  rcases List.mem_append.mp hr with z | z
  ·exact g.some r z
  ·rw [List.mem_singleton.mp z];exact hne
 there:=fun r hr t ht=>by
  rcases List.mem_append.mp hr with z | z
  ·have:=g.there r z t ht;exact ⟨this.1,by omega⟩
  ·rw [List.mem_singleton.mp z] at ht
   have:=zgR (hm t ht)
   exact ⟨this.1,by omega⟩
 once:=by
  rw [List.flatten_append,List.flatten_singleton]
  refine List.nodup_append.mpr ⟨g.once,hn,fun a ha b hb e=>?_⟩
  subst e
  obtain ⟨r,hr,har⟩:=List.mem_flatten.mp ha
  have h1:=(g.there r hr a har).2
  have h2:=(zgR (hm a hb)).2
  omega
theorem zdO.next {n:Nat} {pl:List Int} {j:Nat} {rs:List (List Int)} (g:zdO n pl j rs):zdO n pl (j+1) rs :=
 ⟨by have:=g.few;omega,g.some,fun r hr t ht=>⟨(g.there r hr t ht).1,by have:=(g.there r hr t ht).2;omega⟩,g.once⟩
theorem zdO.good {n:Nat} {pl:List Int} {rs:List (List Int)} (g:zdO n pl 5 rs):zcf n rs:=⟨g.few,g.some,fun r hr t ht=>(g.there r hr t ht).1,g.once⟩
def invK (S dz sz:D) (at_ n:Nat) (cs pl:List Int) (ls:List (List (List Int))) (x9 x10:Option Sl) (j:Nat) (ρ : DEnv):Prop:=∃ (rs:List (List Int)) (x13 x14:Option Sl),
 ρ = [some (.pub S),some (.pub (.int at_)),some (.pub (.int 6)),some (.pub (.int 7)),some (.pub (.int 5)),some (.pub sz),some (.pub dz),some (.own (cs.map PyData.int)),some (.own (ls.map zaC)),x9,x10,some (.pub (.list (pl.map PyData.int))),some (.own (rs.map za9)),x13,x14]/\zdO n pl j rs
theorem zkR {S dz sz:D} {at_ n:Nat} {cs pl:List Int} {ls:List (List (List Int))} {v9 v10:D} {j:Nat} {d:D} {ρ : DEnv} {Q:Out->Prop} (hcs:cs.length=n) (hn:n<=6) (hpl:pl.length=7) (hlast:pl.getD 6 0=0 ∨ pl.getD 6 0=1)
  (hj:(zbp 1 (5+1))[j]?=some d) (h:invK S dz sz at_ n cs pl ls (some (.pub v9)) (some (.pub v10)) j ρ) :
  ∃ ρ2,gN 13 d ρ = some ρ2/\Ho zhw ρ2 (zeQ (invK S dz sz at_ n cs pl ls (some (.pub v9)) (some (.pub v10)) (j+1)) Q):=by
 obtain ⟨rs,x13,x14,rfl,g⟩:=h
 obtain ⟨rfl,hlt⟩:=zbL hj
 have hj5:j < 5:=by omega
 refine ⟨_,tg_N (of_decide_eq_true rfl) (by walk_at "set"),?_⟩
 unfold zhw
 have hrd:zbp 0 ((n:Nat):Int)=(List.range n).map fun k=>.int (k:Int):=by
  unfold zbp
  have:((n:Int) - 0).toNat=n:=by omega
  rw [this]
  apply List.map_congr_left
  intro k _
  rw [Int.zero_add]
 have hc:zbl (gN 15) (dBin oEq (dIxN 11 (dVar 15)) (dVar 13)) (dVar 15) (zbp 0 ((n:Nat):Int)) (zaH [some (.pub S),some (.pub (.int at_)),some (.pub (.int 6)),some (.pub (.int 7)),some (.pub (.int 5)),some (.pub sz),some (.pub dz),some (.own (cs.map PyData.int)),some (.own (ls.map zaC)),some (.pub v9),some (.pub v10),some (.pub (.list (pl.map PyData.int))),some (.own (rs.map za9)),some (.pub (.int (1+(j:Int)))),x14] ++ List.replicate 1 none) []=some ((zgQ n pl (1+(j:Int))).map PyData.int):=by
  rw [hrd,zce (fun d=>match d with | .int k=>decide (pl.getD k.toNat 0=1+(j:Int)) | _=>false) (fun d=>d) (fun ρ=>∃ x,ρ = [some (.pub S),some (.pub (.int at_)),some (.pub (.int 6)),some (.pub (.int 7)),some (.pub (.int 5)),some (.pub sz),some (.pub dz),none,none,some (.pub v9),some (.pub v10),some (.pub (.list (pl.map PyData.int))),none,some (.pub (.int (1+(j:Int)))),zd0 x14,x])]
  ·rw [List.nil_append,List.map_id',List.filter_map]
   unfold zgQ
   rw [List.map_map]
   rfl
  ·rintro d hm ρ ⟨x,rfl⟩
   obtain ⟨k,hk,rfl⟩:=List.mem_map.mp hm
   have hk:=List.mem_range.mp hk
   refine ⟨_,tg_N (of_decide_eq_true rfl) rfl,zap (zaY rfl (zad rfl) (zeY (by omega))) (zad rfl) zbU,fun _=>zad rfl,some (.pub (.int k)),?_⟩
   unfold zaH
   cases x14 with
   | none=>rfl
   | some sl=>cases sl <;> rfl
  ·exact ⟨none,rfl⟩
  ·rw [List.length_map,List.length_range,List.length_nil];omega
 have hlen:(cs.map PyData.int).length=n:=by rw [List.length_map,hcs]
 refine zar (zbk (zbC (zcN (zab (zfI rfl) zai) (by rw [hlen];exact zck (by omega) (by omega))) hc) (of_decide_eq_true rfl) rfl) ?_
 generalize hrow:zgQ n pl (1+(j:Int))=row
 apply zbe
 case h1=>exact zfM rfl (zba zai (by decide)) rfl zgP
 case h2 =>
  intro hh
  have hne:row ≠ []:=by simpa using hh
  have hlx:oIx (.list (pl.map PyData.int)) (.int (-1))=some (.int (pl.getD 6 0)):=zkQ (by
   rw [List.getLast?_eq_getElem?,List.length_map,hpl,List.getElem?_map,List.getElem?_eq_getElem (show 7 - 1 < pl.length by omega)]
   simp [List.getD,List.getElem?_eq_getElem (show 6 < pl.length by omega)])
  obtain ⟨row',hix,hrow'⟩:∃ row':List Int,oIx (.list [.list (row.map PyData.int),.list (row.map PyData.int).reverse]) (.int (pl.getD 6 0))=some (za9 row')/\(row'=row ∨ row'=row.reverse):=by
   rcases hlast with e | e
   ·rw [e];exact ⟨row,rfl,.inl rfl⟩
   ·rw [e];exact ⟨row.reverse,by show some (PyData.list (row.map PyData.int).reverse)=_;unfold za9;rw [List.map_reverse],.inr rfl⟩
  have hrl:(rs.map za9).length < 1000000:=by rw [List.length_map];have:=g.few;omega
  refine za4 (zdE rfl (zap (zba (zab (zbt rfl rfl) (zab (zoI (zad rfl) zag zag (zbT (zeP zag))) zai)) (of_decide_eq_true rfl)) (zaY rfl (zeP zag) hlx) hix) rfl hrl rfl) ?_
  refine zaO ⟨rs ++ [row'],some (.pub (.int (1+(j:Int)))),some (.pub (.list (row.map PyData.int))),by rw [List.map_append];rfl,g.add ?_ ?_ ?_⟩
  ·rcases hrow' with e | e <;> rw [e]
   ·exact hne
   ·exact fun z=>hne (List.reverse_eq_nil_iff.mp z)
  ·intro t ht
   rw [hrow]
   rcases hrow' with e | e <;> rw [e] at ht
   ·exact ht
   ·exact List.mem_reverse.mp ht
  ·have hnd:=zhA n pl (1+(j:Int))
   rw [hrow] at hnd
   rcases hrow' with e | e <;> rw [e]
   ·exact hnd
   ·exact (List.reverse_perm row).nodup_iff.mpr hnd
 case h3=>exact fun _=>zbI (zaO ⟨rs,_,_,rfl,g.next⟩)
def invA (S dz sz:D) (at_ n:Nat) (cs:List Int) (i:Nat) (ρ : DEnv):Prop:=∃ (ls:List (List (List Int))) (x9 x10 x11 x12 x13 x14:Option Sl),
 ρ = [some (.pub S),some (.pub (.int at_)),some (.pub (.int 6)),some (.pub (.int 7)),some (.pub (.int 5)),some (.pub sz),some (.pub dz),some (.own (cs.map PyData.int)),some (.own (ls.map zaC)),x9,x10,x11,x12,x13,x14]/\ls.length=i/\∀ rs ∈ ls,zcf n rs
theorem ziZ {ns:List Int} {dz sz:D} {at_ n:Nat} {cs:List Int} {i:Nat} {m:Int} {d:D} {ρ : DEnv} {Q:Out->Prop} (hns:ns.length<=1000) (hcs:cs.length=n) (hn:n<=6) (hm:m<=100)
  (hi:(zbp 0 m)[i]?=some d) (h:invA (.list (ns.map PyData.int)) dz sz at_ n cs i ρ) :
  ∃ ρ2,gN 9 d ρ = some ρ2/\Ho zhx ρ2 (zeQ (invA (.list (ns.map PyData.int)) dz sz at_ n cs (i+1)) Q):=by
 obtain ⟨ls,x9,x10,x11,x12,x13,x14,rfl,hl,hg⟩:=h
 obtain ⟨rfl,hlt⟩:=zbL hi
 refine ⟨_,tg_N (of_decide_eq_true rfl) (by walk_at "set"),?_⟩
 unfold zhx
 obtain ⟨v,hv⟩:=zcg ns (at_+1+i) hns
 have ev:((at_:Int)+1+(0+(i:Int)))=((at_+1+i:Nat):Int):=by omega
 rw [← ev] at hv
 refine zar (zaS (zay (zab (zad rfl) (zab (zap (zap (zad rfl) zag zbb) (zad rfl) zbb) zai)) rfl hv) (of_decide_eq_true rfl) rfl) ?_
 obtain ⟨r,hF,pl,rfl,hpl,hpb⟩:=zbZ v (11 * (at_:Int)+3 * (0+(i:Int))+1) (sizes:=szP) zoR (by decide)
 have hpl7:pl.length=7:=hpl
 have hmul:oMul (.list [.int (5+1)]) (.int 6)=some (.list ((List.replicate 6 6).map PyData.int)):=zcD (by decide)
 have hadd:oAdd (.list ((List.replicate 6 6).map PyData.int)) (.list [.int 2])=some (.list (szP.map PyData.int)):=zbv (by decide)
 refine zar (zaS (zay (zab (zad rfl) (zab (zap (zap (zap zag (zad rfl) (zfL (by decide) (by decide))) (zap zag (zad rfl) (zfL (by decide) (by decide))) zbb) zag zbb) (zab (zap (zap (zba (zab (zap (zad rfl) zag zbb) zai) (of_decide_eq_true rfl)) (zad rfl) hmul) (zba (zab zag zai) (of_decide_eq_true rfl)) hadd) zai))) rfl hF) (of_decide_eq_true rfl) rfl) ?_
 refine zar (zbk (zc3 zai (of_decide_eq_true rfl)) (of_decide_eq_true rfl) rfl) ?_
 have hlast:pl.getD 6 0=0 ∨ pl.getD 6 0=1:=by
  have e:pl[6]?=some pl[6]:=List.getElem?_eq_getElem (by omega)
  have:=hpb 6 pl[6] 2 e rfl
  have e2:pl.getD 6 0=pl[6]:=by simp [List.getD,e]
  rw [e2];omega
 apply zaU
 apply zbJ (invK (.list (ns.map PyData.int)) dz sz at_ n cs pl ls (some (.pub (.int (0+(i:Int))))) (some (.pub (.int v))))
 case h1=>exact zj8 (zab zag (zab (zap (zad rfl) zag zbb) zai)) (zlW (by decide) (by decide) (by decide) (by decide))
 case h0=>exact ⟨[],x13,x14,rfl,⟨Nat.le_refl _,fun _ h=>(by cases h),fun _ h=>(by cases h),List.nodup_nil⟩⟩
 case hst=>exact fun j d ρ e h=>zkR hcs hn hpl7 hlast e h
 case hend =>
  rintro ρ ⟨rs,y13,y14,rfl,g⟩
  refine zaw ?_
  have hl5:(zbp 1 (5+1)).length=5:=rfl
  rw [hl5] at g
  have hll:(ls.map zaC).length < 1000000:=by rw [List.length_map];omega
  refine za4 (zdE rfl (zbt rfl rfl) rfl hll rfl) ?_
  refine zaO ⟨ls ++ [rs],some (.pub (.int (0+(i:Int)))),some (.pub (.int v)),some (.pub (.list (pl.map PyData.int))),some (.pub (.list (rs.map za9))),y13,y14,by rw [List.map_append];rfl,by rw [List.length_append,hl];rfl,fun x hx=>?_⟩
  rcases List.mem_append.mp hx with z | z
  ·exact hg x z
  ·rw [List.mem_singleton.mp z];exact g.good
theorem zhB {ns:List Int} (hns:ns.length<=1000) (at_:Nat):∃ r,F_bd [.list (ns.map PyData.int),.int at_,.int 6,.int 7,.int 5]=some r/\∃ cs ls,r=zaz cs ls/\Good cs ls:=by
 obtain ⟨v,hv⟩:=zcg ns at_ hns
 obtain ⟨r,hF,ds,rfl,hl,hd⟩:=zbZ v at_ (sizes:=sz6) zoQ (by decide)
 have hl8:ds.length=8:=hl
 have at':∀ (j:Nat) (k z:Int),k=j->sz6[j]?=some z->∃ d,oIx (.list (ds.map PyData.int)) (.int k)=some (.int d)/\ds[j]?=some d/\0<=d/\d < z:=fun j k z hk hz=>by
  subst hk
  have hj:j < ds.length:=by rw [hl];exact (List.getElem?_eq_some_iff.mp hz).1
  have e:ds[j]?=some ds[j]:=List.getElem?_eq_getElem hj
  obtain ⟨p0,p1⟩:=hd j ds[j] z e hz
  exact ⟨ds[j],zaW (by rw [List.getElem?_map,e];rfl),e,p0,p1⟩
 obtain ⟨d0,x0,e0,p0,q0⟩:=at' 0 0 6 rfl rfl
 obtain ⟨d1,x1,e1,p1,q1⟩:=at' 1 1 7 rfl rfl
 have hmul:oMul (.list [.int 11]) (.int 6)=some (.list ((List.replicate 6 11).map PyData.int)):=zcD (by decide)
 have hadd:oAdd (.list [.int 6,.int 7]) (.list ((List.replicate 6 11).map PyData.int))=some (.list (sz6.map PyData.int)):=zbv (by decide)
 obtain ⟨n,hn⟩:∃ n:Nat,1+d0=n:=⟨(1+d0).toNat,by omega⟩
 refine zcS (ρ:=[some (.pub (.list (ns.map PyData.int))),some (.pub (.int at_)),some (.pub (.int 6)),some (.pub (.int 7)),some (.pub (.int 5)),none,none,none,none,none,none,none,none,none,none]) rfl ?_
 unfold g_bd
 refine zar (zaS (zap (zba (zab (zad rfl) (zab (zad rfl) zai)) (of_decide_eq_true rfl)) (zap (zba (zab zag zai) (of_decide_eq_true rfl)) (zad rfl) hmul) hadd) (of_decide_eq_true rfl) rfl) ?_
 refine zar (zaS (zay (zab (zay (zab (zad rfl) (zab (zad rfl) zai)) rfl hv) (zab (zad rfl) (zab (zad rfl) zai))) rfl hF) (of_decide_eq_true rfl) rfl) ?_
 have hcut:DL.cutD (ds.map PyData.int) (some 2) (some (3+d0))=((ds.drop 2).take n).map PyData.int:=by
  rw [zlY (by decide) (by omega) (by omega)]
  have:(3+d0).toNat - (2:Int).toNat=n:=by omega
  rw [this];rfl
 have hrowl:((ds.drop 2).take n).length=n:=by rw [List.length_take,List.length_drop,hl8];omega
 have each:∀ z ∈ (ds.drop 2).take n,0<=z/\z < 11:=fun z hz=>by
  have hz:=List.mem_of_mem_take hz
  obtain ⟨k,hk,e⟩:=List.getElem_of_mem hz
  rw [List.length_drop,hl8] at hk
  rw [List.getElem_drop] at e
  have e2:ds[2+k]?=some z:=by rw [← e];exact List.getElem?_eq_getElem _
  refine hd (2+k) z 11 e2 ?_
  have:k=0 ∨ k=1 ∨ k=2 ∨ k=3 ∨ k=4 ∨ k=5:=by omega
  rcases this with rfl | rfl | rfl | rfl | rfl | rfl <;> rfl
 let cs:List Int:=((ds.drop 2).take n).map fun z=>tab.getD z.toNat 0
 have hcl:cs.length=n:=by show (List.map _ _).length=n;rw [List.length_map,hrowl]
 have hc:∀ xs:List (Option Sl),zaH xs=xs->xs.length=15->zbl (gN 15) (zah true) (dBin oIx (mLst (zae (zah (.int 1)) (zae (zah (.int 1)) (zae (zah (.int 2)) (zae (zah (.int 0)) (zae (zah (.int 3)) (zae (zah (.int 7)) (zae (zah (.int 1)) (zae (zah (.int 4)) (zae (zah (.int 5)) (zae (zah (.int 6)) (zae (zah (.int 1)) (mNil))))))))))))) (dVar 15)) (((ds.drop 2).take n).map PyData.int) (zaH xs ++ List.replicate 1 none) []=some (cs.map PyData.int):=by
  intro xs hx hxl
  rw [hx,zce (fun _=>true) (fun d=>match d with | .int z=>.int (tab.getD z.toNat 0) | _=>.none) (fun ρ=>∃ x,ρ = xs ++ [x])]
  ·rw [List.filter_eq_self.mpr (fun _ _=>rfl),List.nil_append,List.map_map]
   show _=some ((((ds.drop 2).take n).map fun z=>tab.getD z.toNat 0).map PyData.int)
   rw [List.map_map]
   rfl
  ·rintro d hm ρ ⟨x,rfl⟩
   obtain ⟨z,hz,rfl⟩:=List.mem_map.mp hm
   have ht:=zmH (each z hz).1 (each z hz).2
   have hset:(xs ++ [x]).set 15 (some (Sl.pub (.int z)))=xs ++ [some (.pub (.int z))]:=by
    rw [List.set_append_right _ _ (by omega),hxl];rfl
   have hget:(xs ++ [some (Sl.pub (.int z))])[15]?=some (some (Sl.pub (.int z))):=by
    rw [List.getElem?_append_right (by omega),hxl];rfl
   refine ⟨_,tg_N (by rw [List.length_append,hxl];exact of_decide_eq_true rfl) hset,rfl,fun _=>?_,some (.pub (.int z)),?_⟩
   ·exact zap (zba (zab zag (zab zag (zab zag (zab zag (zab zag (zab zag (zab zag (zab zag (zab zag (zab zag (zab zag zai))))))))))) (of_decide_eq_true rfl)) (zad hget) ht.1
   ·unfold zaH at hx ⊢
    rw [List.map_append,hx];rfl
  ·exact ⟨none,rfl⟩
  ·rw [List.length_map,hrowl,List.length_nil];omega
 refine zar (zbk (zbC (zaT (zcT (zad rfl) (zbT zag) (zbT (zap zag (zaY rfl zag x0) zbb)) (by rw [zbX,hcut])) zbw) (hc _ rfl rfl)) (of_decide_eq_true rfl) rfl) ?_
 refine zar (zbk (zc3 zai (of_decide_eq_true rfl)) (of_decide_eq_true rfl) rfl) ?_
 apply zaU
 apply zbJ (invA (.list (ns.map PyData.int)) (.list (ds.map PyData.int)) (.list (sz6.map PyData.int)) at_ n cs)
 case h1=>exact zcN (zab (zap zag (zaY rfl zag x1) zbb) zai) (zck (by omega) (by omega))
 case h0=>exact ⟨[],_,_,_,_,_,_,rfl,rfl,fun _ h=>by cases h⟩
 case hst=>exact fun i d ρ e h=>ziZ hns hcl (by omega) (by omega) e h
 case hend =>
  rintro ρ ⟨ls,y9,y10,y11,y12,y13,y14,rfl,hll,hg⟩
  rw [za0] at hll
  refine zaw (zaJ (zcC (zab (zbt rfl rfl) (zab (zbt rfl rfl) zai)) (of_decide_eq_true rfl)) ⟨_,rfl,cs,ls,rfl,?_⟩)
  exact ⟨by omega,by omega,fun c hc=>by
   obtain ⟨z,hz,rfl⟩:=List.mem_map.mp hc
   exact (zmH (each z hz).1 (each z hz).2).2,by omega,by omega,fun rs hrs=>by rw [hcl];exact hg rs hrs⟩
theorem zkS {x:D} {m:Nat} (h:m<=1000):oMul (.list [x]) (.int m)=some (.list (List.replicate m x)):=by
 rw [zcD ⟨by omega,by omega,by rw [Int.toNat_natCast];show 1 * m<=_;omega⟩,Int.toNat_natCast]
 congr 2
 induction m with
 | zero=>rfl
 | succ m ih=>rw [List.replicate_succ,List.flatten_cons,ih (by omega)];rfl
def zcU (t:Int) (rs:List (List Int)):Nat:=if rs.findIdx (fun r=>r.contains t) < rs.length then rs.findIdx (fun r=>r.contains t)+1 else 0
theorem znz (a b:Int):PyData.eqv (.int a) (.int b)=(a == b):=by simp [PyData.eqv]
theorem zhC (t:Int) (r:List Int):oIn (.int t) (za9 r)=some (r.contains t):=by
 have h1:PyData.canLayAll0 (r.map PyData.int)=true:=by
  induction r with
  | nil=>rfl
  | cons x r ih=>rw [List.map_cons];unfold PyData.canLayAll0;rw [ih];rfl
 unfold oIn za9
 dsimp only
 rw [if_pos ⟨rfl,h1,Nat.zero_le _⟩]
 congr 1
 rw [List.any_map]
 clear h1
 induction r with
 | nil=>rfl
 | cons x r ih =>
  rw [List.any_cons,ih,List.contains_cons]
  congr 1
  show PyData.eqv (.int x) (.int t)=(t == x)
  rw [znz]
  exact Bool.eq_iff_iff.2 ⟨fun h=>beq_iff_eq.2 (beq_iff_eq.1 h).symm,fun h=>beq_iff_eq.2 (beq_iff_eq.1 h).symm⟩
theorem zkT {t:Int} {rs:List (List Int)} {i:Nat} {r:List Int} (hr:rs[i]?=some r) (h:r.contains t=true) (hb:∀ j r,j < i->rs[j]?=some r->r.contains t=false):zcU t rs=1+i:=by
 obtain ⟨hi,e⟩:=List.getElem?_eq_some_iff.1 hr
 have hf:rs.findIdx (fun r=>r.contains t)=i:=(List.findIdx_eq hi).2 ⟨by rw [e];exact h,fun j hj=>hb j _ hj (List.getElem?_eq_getElem (Nat.lt_trans hj hi))⟩
 unfold zcU
 rw [hf,if_pos hi,Nat.add_comm]
theorem zkU {t:Int} {rs:List (List Int)} (hb:∀ j r,j < rs.length->rs[j]?=some r->r.contains t=false):zcU t rs=0:=by
 have hf:rs.findIdx (fun r=>r.contains t)=rs.length:=List.findIdx_eq_length.2 fun r hr=>by
  obtain ⟨j,hj,e⟩:=List.mem_iff_getElem.1 hr
  exact hb j r hj (by rw [List.getElem?_eq_getElem hj,e])
 unfold zcU
 rw [hf,if_neg (Nat.lt_irrefl _)]
theorem zi0 (t:Int) (rs:List (List Int)):F_ah [zaC rs,.int t]=some (.int (zcU t rs:Nat)):=by
 refine zbf (ρ:=[some (.pub (zaC rs)),some (.pub (.int t)),none,none]) rfl ?_
 unfold g_ah
 apply zaU
 apply zbJ (fun i ρ=>(∃ x2 x3,ρ = [some (.pub (zaC rs)),some (.pub (.int t)),x2,x3])/\∀ j r,j < i->rs[j]?=some r->r.contains t=false)
 case h1=>exact zhZ (zab (zad rfl) zai) zgA
 case h0=>exact ⟨⟨_,_,rfl⟩,fun j r h=>absurd h (Nat.not_lt_zero _)⟩
 case hst =>
  rintro i d ρ hi ⟨⟨x2,x3,rfl⟩,hb⟩
  obtain ⟨x,hx,rfl⟩:=zbE hi
  rw [List.getElem?_map] at hx
  cases hr:rs[i]? with
  | none=>rw [hr] at hx;cases hx
  | some r =>
   rw [hr] at hx
   cases hx
   refine ⟨_,tg_T rfl (tg_C (tg_N (of_decide_eq_true rfl) rfl) (tg_C (tg_N (of_decide_eq_true rfl) rfl) tg_0)),?_⟩
   unfold zkx
   apply zbe
   case h1=>exact zbB rfl (zad rfl) (zhC t r)
   case h2 =>
    intro hh
    refine zaJ (zad rfl) (zdc ?_)
    rw [zkT hr hh hb]
    exact ⟨rfl⟩
   case h3 =>
    intro hh
    refine zbI (zaO ⟨⟨_,_,rfl⟩,fun j r' hj hr'=>?_⟩)
    rcases Nat.lt_succ_iff_lt_or_eq.1 hj with h | rfl
    ·exact hb j r' h hr'
    ·rw [hr] at hr';cases hr';exact hh
 case hend =>
  rintro ρ ⟨⟨x2,x3,rfl⟩,hb⟩
  rw [zax,List.length_map] at hb
  refine zaw ?_
  rw [zkU hb]
  exact zaJ zag rfl
def optD:Option Int->D
 | none=>.none
 | some t=>.int t
def zaG (ws:List (Option Int)):D:=.list (ws.map optD)
structure Deal (cs:List Int) (ls:List (List (List Int))) (ws:List (Option Int)):Prop where
 len:ws.length=ls.length
 wish:∀ (i:Nat) t rs,ws[i]?=some (some t)->ls[i]?=some rs->t ∈ rs.flatten
 cop:∀ (k:Nat) c,cs[k]?=some c->((ws.count (some (k:Int)):Nat):Int)<=c
theorem zmd (ws:List (Option Int)):PyData.canLayAll0 (ws.map optD)=true:=zeU fun x hx=>by
 obtain ⟨y,_,rfl⟩:=List.mem_map.mp hx
 cases y <;> rfl
theorem zhD (a b:Option Int):PyData.eqv (optD a) (optD b)=decide (a=b):=by
 rw [Bool.eq_iff_iff]
 cases a <;> cases b <;> simp [optD,PyData.eqv]
theorem zd6 {ws:List (Option Int)} {k:Int}:zc2 (zaG ws) (.int k)=some (.int (ws.count (some k):Nat)):=by
 unfold zaG zc2
 dsimp only
 rw [if_pos ⟨rfl,zmd ws,by simp [PyData.depth]⟩]
 congr 3
 induction ws with
 | nil=>rfl
 | cons w r ih =>
  rw [List.map_cons,List.countP_cons,List.count_cons,ih]
  congr 1
  have:=zhD w (some k)
  have e:optD (some k)=.int k:=rfl
  rw [e] at this
  rw [this]
  cases w with
  | none=>simp
  | some z=>simp
theorem zia {f:M (List D)} {k:Nat} {s:D->DEnv->Option DEnv} {t:M Bool} {g:M D} {ρ ρ1:DEnv} {ds es:List D} (h1:f ρ = .ok ds ρ1) (h2:zbl s t g ds (zb7 ρ1 ++ List.replicate k none) []=some es) (h3:es.all flat=true):zfk f k s t g ρ = .ok es ρ1:=by
 unfold zfk;rw [h1];dsimp only;rw [h2];dsimp only;rw [if_pos h3]
theorem zdP {cs:List Int} {ls:List (List (List Int))} {rs:List (List Int)} {i:Nat} (hi:ls[i]?=some rs) (hl:rs.flatten.length < 64):F_be [zaz cs ls,.int i]=some (.list ((zb0 rs.flatten).map PyData.int)):=by
 refine zbf (ρ:=[some (.pub (zaz cs ls)),some (.pub (.int i))]) rfl ?_
 unfold g_be
 have i1:oIx (zaz cs ls) (.int 1)=some (.list (ls.map zaC)):=zaW (j:=1) rfl
 have i2:oIx (.list (ls.map zaC)) (.int i)=some (zaC rs):=zaW (by rw [List.getElem?_map,hi];rfl)
 have hs:ze8 [zaC rs,.list []]=some (.list (rs.flatten.map PyData.int)):=by
  have e:zaC rs=.list ((rs.map fun r=>r.map PyData.int).map PyData.list):=by unfold zaC;rw [List.map_map];rfl
  have e2:(rs.map fun r=>r.map PyData.int).flatten=rs.flatten.map PyData.int:=by rw [List.map_flatten]
  rw [e]
  unfold ze8
  dsimp only
  rw [zfo]
  dsimp only
  rw [e2,if_pos (by rw [List.length_map];omega)]
 exact zaJ (zaQ (zab (zaQ (zab (zap (zaY rfl zag i1) (zad rfl) i2) (zab (zba zai (of_decide_eq_true rfl)) zai)) hs) zai) (zft hl)) rfl
structure zdt (cs:List Int) (ls:List (List (List Int))) (lf:List Int) (ws:List (Option Int)):Prop where
 wish:∀ (i:Nat) t rs,ws[i]?=some (some t)->ls[i]?=some rs->t ∈ rs.flatten
 len:lf.length=cs.length
 cop:∀ (k:Nat) c,cs[k]?=some c->lf[k]?=some (c - ((ws.count (some (k:Int)):Nat):Int))/\0<=c - ((ws.count (some (k:Int)):Nat):Int)
theorem zeZ {ls:List (List (List Int))} {ws:List (Option Int)} {o:Option Int} {rs:List (List Int)} (h:∀ (i:Nat) t rs,ws[i]?=some (some t)->ls[i]?=some rs->t ∈ rs.flatten) (hi:ls[ws.length]?=some rs) (ho:∀ t,o=some t->t ∈ rs.flatten) :
  ∀ (i:Nat) t rs,(ws ++ [o])[i]?=some (some t)->ls[i]?=some rs->t ∈ rs.flatten:=by
 intro j t rs' e1 e2
 by_cases hj:j < ws.length
 ·rw [List.getElem?_append_left hj] at e1;exact h j t rs' e1 e2
 ·by_cases hj2:j=ws.length
  ·subst hj2
   rw [hi] at e2
   cases e2
   rw [List.getElem?_append_right (Nat.le_refl _),Nat.sub_self,List.getElem?_cons_zero] at e1
   cases e1
   exact ho t rfl
  ·rw [List.getElem?_eq_none (by rw [List.length_append,List.length_singleton];omega)] at e1
   cases e1
theorem zdt.none {cs:List Int} {ls:List (List (List Int))} {lf:List Int} {ws:List (Option Int)} {rs:List (List Int)} (d:zdt cs ls lf ws) (hi:ls[ws.length]?=some rs):zdt cs ls lf (ws ++ [Option.none]) where
 wish:=zeZ d.wish hi fun t e=>by cases e
 len:=d.len
 cop:=fun k c e=>by rw [List.count_append];simpa using d.cop k c e
theorem zdt.give {cs:List Int} {ls:List (List (List Int))} {lf:List Int} {ws:List (Option Int)} {rs:List (List Int)} {t v:Int} (d:zdt cs ls lf ws) (hi:ls[ws.length]?=some rs) (ht:t ∈ rs.flatten) (h0:0<=t) (hv:lf[t.toNat]?=some v) (hp:0 < v):zdt cs ls (lf.set t.toNat (v - 1)) (ws ++ [some t]) where
 wish:=zeZ d.wish hi fun t' e=>by cases e;exact ht
 len:=by rw [List.length_set];exact d.len
 cop:=fun k c e=>by
  obtain ⟨h1,h2⟩:=d.cop k c e
  rw [List.count_append]
  by_cases hk:t=(k:Int)
  ·subst hk
   rw [Int.toNat_natCast] at hv ⊢
   rw [h1] at hv
   cases hv
   have hl:k < lf.length:=(List.getElem?_eq_some_iff.mp h1).1
   rw [List.getElem?_set_self hl]
   simp only [List.count_singleton_self]
   refine ⟨by congr 1;omega,by omega⟩
  ·have hne:t.toNat ≠ k:=by omega
   rw [List.getElem?_set_ne hne]
   have:List.count (some (k:Int)) [some t]=0:=by
    rw [List.count_eq_zero]
    intro z
    have:=List.mem_singleton.mp z
    exact hk (Option.some.inj this).symm
   rw [this]
   exact ⟨h1,h2⟩
theorem zib {os:List (Option Int)} {k:Nat} (h:k < os.length):oIx (.list (os.map optD)) (.int k)=some (optD os[k]):=zaW (by rw [List.getElem?_map,List.getElem?_eq_getElem h];rfl)
theorem zic {ws:List (Option Int)} {o:Option Int}:(ws ++ [o]).map optD=ws.map optD ++ [optD o]:=by rw [List.map_append];rfl
def invD (cs:List Int) (ls:List (List (List Int))) (c s:D) (dg:List Int) (i:Nat) (ρ : DEnv):Prop:=∃ (lf:List Int) (ws:List (Option Int)) (x6 x7 x8:Option Sl),
 ρ = [some (.pub (zaz cs ls)),some (.pub c),some (.pub s),some (.own (lf.map PyData.int)),some (.pub (.list (dg.map PyData.int))),some (.own (ws.map optD)),x6,x7,x8]/\ws.length=i/\zdt cs ls lf ws
theorem zi1 {cs:List Int} {ls:List (List (List Int))} {c s:D} {dg:List Int} {i:Nat} {d:D} {ρ : DEnv} {Q:Out->Prop} (g:Good cs ls) (hdl:dg.length=ls.length) (hd0:∀ x ∈ dg,0<=x) (hi:(zbp 0 ls.length)[i]?=some d) (h:invD cs ls c s dg i ρ) :
  ∃ ρ2,gN 6 d ρ = some ρ2/\Ho zhv ρ2 (zeQ (invD cs ls c s dg (i+1)) Q):=by
 obtain ⟨lf,ws,x6,x7,x8,rfl,hw,dl⟩:=h
 obtain ⟨rfl,hlt⟩:=zbL hi
 have hil:i < ls.length:=by omega
 have hls:ls[i]?=some ls[i]:=List.getElem?_eq_getElem hil
 have gr:=g.rk _ (List.mem_of_getElem? hls)
 have hfl:=zde gr
 refine ⟨_,tg_N (of_decide_eq_true rfl) (by walk_at "set"),?_⟩
 unfold zhv
 rw [Int.zero_add]
 generalize hrs:ls[i]=rs at *
 have hmem:∀ t ∈ zb0 rs.flatten,t ∈ rs.flatten:=fun t ht=>(za1 _).mem_iff.mp ht
 have hthere:∀ t ∈ rs.flatten,0<=t/\t < lf.length:=fun t ht=>by
  obtain ⟨r,hr,htr⟩:=List.mem_flatten.mp ht
  have:=gr.there r hr t htr
  rw [dl.len];exact this
 let L:=(zb0 rs.flatten).filter fun t=>decide (0 < lf.getD t.toNat 0)
 have hc:zbl (gN 9) (dBin (oIB fun i j=>decide (j < i)) (dIxN 3 (dVar 9)) (zah (.int 0))) (dVar 9) ((zb0 rs.flatten).map PyData.int) (zb7 [some (.pub (zaz cs ls)),some (.pub c),some (.pub s),some (.own (lf.map PyData.int)),some (.pub (.list (dg.map PyData.int))),some (.own (ws.map optD)),some (.pub (.int (i:Int))),x7,x8] ++ List.replicate 1 none) []=some (L.map PyData.int):=by
  rw [zce (fun d=>match d with | .int t=>decide (0 < lf.getD t.toNat 0) | _=>false) (fun d=>d) (fun ρ=>∃ x y7 y8,ρ = [some (.pub (zaz cs ls)),some (.pub c),some (.pub s),some (.pub (.list (lf.map PyData.int))),some (.pub (.list (dg.map PyData.int))),some (.pub (.list (ws.map optD))),some (.pub (.int (i:Int))),y7,y8,x])]
  ·rw [List.nil_append,List.map_id',List.filter_map]
   rfl
  ·rintro d hm ρ ⟨x,y7,y8,rfl⟩
   obtain ⟨t,ht,rfl⟩:=List.mem_map.mp hm
   obtain ⟨h0,h1⟩:=hthere t (hmem t ht)
   obtain ⟨k,rfl⟩:∃ k:Nat,t=k:=⟨t.toNat,by omega⟩
   refine ⟨_,tg_N (of_decide_eq_true rfl) rfl,zap (zaY rfl (zad rfl) (zeY (by omega))) zag rfl,fun _=>zad rfl,some (.pub (.int k)),zd0 y7,zd0 y8,rfl⟩
  ·exact ⟨none,znh x7,znh x8,rfl⟩
  ·rw [List.length_map,List.length_nil,(za1 _).length_eq];have:=g.c6;omega
 have hLl:L.length<=6:=by
  have:L.length<=(zb0 rs.flatten).length:=List.length_filter_le _ _
  rw [(za1 _).length_eq] at this;have:=g.c6;omega
 have hadd:oAdd (.list (L.map PyData.int)) (.list [.none])=some (.list ((L.map some ++ [none]).map optD)):=by
  rw [zbv (by rw [List.length_map];show L.length+1<=_;omega),List.map_append,List.map_map];rfl
 refine zar (zaS (zap (zaK (zia (zaT (zay (zab (zad rfl) (zab (zad rfl) zai)) rfl (zdP (cs:=cs) hls (by have:=g.c6;omega))) zbw) hc (by rw [List.all_map,List.all_eq_true];exact fun _ _=>rfl))) (zba (zab zag zai) (of_decide_eq_true rfl)) hadd) (of_decide_eq_true rfl) rfl) ?_
 have hol:(L.map some ++ [none]:List (Option Int)).length=L.length+1:=by rw [List.length_append,List.length_map];rfl
 have hlen:oLen [.list ((L.map some ++ [none]:List (Option Int)).map optD)]=some (.int ((L.length+1:Nat):Int)):=by rw [zaE,List.length_map,hol]
 have hdi:dg[i]?=some dg[i]:=List.getElem?_eq_getElem (by omega)
 have hx0:=hd0 _ (List.mem_of_getElem? hdi)
 have hix:oIx (.list (dg.map PyData.int)) (.int (i:Int))=some (.int dg[i]):=zaW (by rw [List.getElem?_map,hdi];rfl)
 have hm0:0<=dg[i] % ((L.length+1:Nat):Int):=Int.emod_nonneg _ (by omega)
 have hm1:dg[i] % ((L.length+1:Nat):Int) < ((L.length+1:Nat):Int):=Int.emod_lt_of_pos _ (by omega)
 obtain ⟨k,hk⟩:∃ k:Nat,dg[i] % ((L.length+1:Nat):Int)=k:=⟨(dg[i] % ((L.length+1:Nat):Int)).toNat,by omega⟩
 have hkl:k < (L.map some ++ [none]:List (Option Int)).length:=by rw [hol];omega
 have hpick:=zib (os:=L.map some ++ [none]) hkl
 rw [← hk] at hpick
 generalize ho:(L.map some ++ [none]:List (Option Int))[k]=o at hpick
 refine zar (zaS (zaY rfl (zap (zaY rfl (zad rfl) hix) (zbu rfl hlen) (zds (by omega))) hpick) (of_decide_eq_true rfl) rfl) ?_
 have hwl:(ws.map optD).length < 1000000:=by rw [List.length_map];have:=g.l7;omega
 have hls':ls[ws.length]?=some rs:=by rw [hw];exact hls
 cases o with
 | none =>
  apply zaU
  apply zbe
  case h1=>exact zoP (zad rfl) rfl
  case h2=>intro hh;cases hh
  case h3 =>
   intro _
   refine zbI (zaw ?_)
   refine za4 (zdE rfl (zad rfl) rfl hwl rfl) ?_
   exact zaO ⟨lf,ws ++ [none],_,_,_,by rw [zic (ws:=ws)];rfl,by rw [List.length_append,hw];rfl,dl.none hls'⟩
 | some t =>
  have htL:t ∈ L:=by
   have hm:some t ∈ (L.map some ++ [none]:List (Option Int)):=ho ▸ List.getElem_mem hkl
   rcases List.mem_append.mp hm with z | z
   ·obtain ⟨t',h1,h2⟩:=List.mem_map.mp z
    cases h2;exact h1
   ·cases List.mem_singleton.mp z
  obtain ⟨htm,htp⟩:=List.mem_filter.mp htL
  have htf:=hmem t htm
  obtain ⟨h0,h1⟩:=hthere t htf
  have hv:lf[t.toNat]?=some lf[t.toNat]:=List.getElem?_eq_getElem (by omega)
  have hvd:lf.getD t.toNat 0=lf[t.toNat]:=by simp [List.getD,hv]
  have hpos:0 < lf[t.toNat]:=by rw [hvd] at htp;simpa using htp
  have hvx:oIx (.list (lf.map PyData.int)) (.int t)=some (.int lf[t.toNat]):=zoF h0 (by rw [List.getElem?_map,hv];rfl)
  apply zaU
  apply zbe
  case h1=>exact zoP (zad rfl) rfl
  case h2 =>
   intro _
   refine za4 (zc4 (zap (zhV rfl (zad rfl) rfl hvx) zag zfK) rfl (zad rfl) rfl ⟨h0,by rw [List.length_map];exact h1⟩ rfl) ?_
   refine zaw ?_
   refine za4 (zdE rfl (zad rfl) rfl hwl rfl) ?_
   exact zaO ⟨lf.set t.toNat (lf[t.toNat] - 1),ws ++ [some t],_,_,_,by rw [zic (ws:=ws),← zlX];rfl,by rw [List.length_append,hw];rfl,dl.give hls' htf h0 hv hpos⟩
  case h3=>intro hh;cases hh
theorem zfw {cs:List Int} {ls:List (List (List Int))} (g:Good cs ls) (c s:Int):∃ r,F_bf [zaz cs ls,.int c,.int s]=some r/\∃ ws,r=zaG ws/\Deal cs ls ws:=by
 refine zcS (ρ:=[some (.pub (zaz cs ls)),some (.pub (.int c)),some (.pub (.int s)),none,none,none,none,none,none]) rfl ?_
 unfold g_bf
 have i0:oIx (zaz cs ls) (.int 0)=some (.list (cs.map PyData.int)):=zaW (j:=0) rfl
 have i1:oIx (zaz cs ls) (.int 1)=some (.list (ls.map zaC)):=zaW (j:=1) rfl
 have hlen:oLen [.list (ls.map zaC)]=some (.int ls.length):=by rw [zaE,List.length_map]
 refine zar (zbk (zau (zab (zaY rfl zag i0) zai) (zbP (show zc1 [.list (cs.map PyData.int)]=some (cs.map PyData.int) from rfl))) (of_decide_eq_true rfl) rfl) ?_
 have hmul:oMul (.list [.int 61]) (.int ls.length)=some (.list ((List.replicate ls.length (61:Int)).map PyData.int)):=by
  rw [zcD ⟨by omega,by have:=g.l7;omega,by show 1 * _<=_;have:=g.l7;omega⟩]
  congr 2
  rw [Int.toNat_natCast]
  generalize ls.length=n
  induction n with
  | zero=>rfl
  | succ n ih=>rw [List.replicate_succ,List.flatten_cons,ih,List.replicate_succ,List.map_cons];rfl
 obtain ⟨r,hF,dg,rfl,hdl,hdb⟩:=zbZ c s (sizes:=List.replicate ls.length (61:Int)) (fun x hx=>by rw [(List.mem_replicate.mp hx).2];decide) (by rw [List.length_replicate];have:=g.l7;omega)
 rw [List.length_replicate] at hdl
 refine zar (zaS (zay (zab (zad rfl) (zab (zad rfl) (zab (zap (zba (zab zag zai) (of_decide_eq_true rfl)) (zaQ (zab (zaY rfl zag i1) zai) hlen) hmul) zai))) rfl hF) (of_decide_eq_true rfl) rfl) ?_
 refine zar (zbk (zc3 zai (of_decide_eq_true rfl)) (of_decide_eq_true rfl) rfl) ?_
 apply zaU
 apply zbJ (invD cs ls (.int c) (.int s) dg)
 case h1=>exact zcN (zab (zaQ (zab (zaY rfl zag i1) zai) hlen) zai) (zck (by have:=g.l7;omega) (by omega))
 case h0=>exact ⟨cs,[],_,_,_,rfl,rfl,⟨fun _ _ _ h=>(by cases h),rfl,fun k c e=>by
  have:=g.c7 c (List.mem_of_getElem? e)
  simp only [List.count_nil]
  exact ⟨by rw [e];congr 1;omega,by omega⟩⟩⟩
 case hst=>exact fun i d ρ e h=>zi1 g hdl (fun x hx=>by
  obtain ⟨j,hj,e⟩:=List.mem_iff_getElem.mp hx
  exact (hdb j x 61 (by rw [List.getElem?_eq_getElem hj,e]) (by rw [List.getElem?_replicate,if_pos (by omega)])).1) e h
 case hend =>
  rintro ρ ⟨lf,ws,x6,x7,x8,rfl,hw,dl⟩
  rw [za0] at hw
  refine zaw (zaJ (zbt rfl rfl) ⟨_,rfl,ws,rfl,⟨by omega,dl.wish,fun k c e=>by have:=(dl.cop k c e).2;omega⟩⟩)
theorem zb6 {s:D->DEnv->Option DEnv} {t:M Bool} {g:M D} (I:DEnv->Prop):∀ (ds qs:List D) (ρ : DEnv) (es:List D),qs.length=ds.length ->
  (∀ (i:Nat) d e,ds[i]?=some d->qs[i]?=some e->∀ ρ,I ρ -> ∃ ρ1,s d ρ = some ρ1/\t ρ1=.ok true ρ1/\g ρ1=.ok e ρ1/\I (zaH ρ1))->I ρ -> es.length+ds.length<=1000000->zbl s t g ds ρ es=some (es ++ qs)
 | [],[],ρ,es,_,_,_,_=>by rw [zbl,List.append_nil]
 | d :: r,e :: q,ρ,es,hl,st,h0,hz=>by
  obtain ⟨ρ1,e1,e2,e3,h1⟩:=st 0 d e rfl rfl ρ h0
  rw [List.length_cons] at hz
  rw [zbl,e1]
  dsimp only
  rw [e2]
  dsimp only
  rw [if_pos rfl,e3]
  dsimp only
  rw [if_pos (by omega),zb6 I r q (zaH ρ1) (es ++ [e]) (by simpa using hl) (fun i d' e' x y=>st (i+1) d' e' (by simpa using x) (by simpa using y)) h1 (by rw [List.length_append,List.length_singleton];omega),List.append_assoc]
  rfl
theorem zkV {i:Nat} {d:D} {ρ : DEnv} (h : ρ[i]?=some (some (.pub d)) ∨ ∃ ds,d=.list ds /\ ρ[i]?=some (some (.own ds))):dVar i ρ = .ok d (ρ.set i (some (.pub d))):=by
 rcases h with h | ⟨ds,rfl,h⟩
 ·rw [zad h]
  congr 1
  obtain ⟨hi,e⟩:=List.getElem?_eq_some_iff.mp h
  rw [← e,List.set_getElem_self]
 ·exact zbt h rfl
def zdQ (cs:List Int) (ws:List (Option Int)):List Int:=(List.range cs.length).map fun k:Nat=>cs.getD k 0 - ((ws.count (some (k:Int)):Nat):Int)
section
variable {cs:List Int} {ls:List (List (List Int))} {ws:List (Option Int)}
theorem zem:oIx (zaz cs ls) (.int 0)=some (.list (cs.map PyData.int)):=zaW (j:=0) rfl
theorem zfc:oIx (zaz cs ls) (.int 1)=some (.list (ls.map zaC)):=zaW (j:=1) rfl
theorem zpI {i:Nat} {rs:List (List Int)} (h:ls[i]?=some rs):oIx (.list (ls.map zaC)) (.int i)=some (zaC rs):=zaW (by rw [List.getElem?_map,h];rfl)
theorem zfd (g:Good cs ls):F_aj [zaz cs ls,zaG ws]=some (.list ((zdQ cs ws).map PyData.int)):=by
 refine zbf (ρ:=[some (.pub (zaz cs ls)),some (.pub (zaG ws))]) rfl ?_
 unfold g_aj
 have hw:=zeX g
 have hc:zbl (gT 2 (gNC (gN 2) (gNC (gN 3) (gN0)))) (zah true) (dBin oSub (dVar 3) (zeL (dVar 1) (zae (dVar 2) (mNil)))) (zcr 0 (cs.map PyData.int)) (zaH [some (.pub (zaz cs ls)),some (.pub (zaG ws))] ++ List.replicate 2 none) []=some ((zdQ cs ws).map PyData.int):=by
  refine zb6 (fun ρ=>∃ x y,ρ = [some (.pub (zaz cs ls)),some (.pub (zaG ws)),x,y]) _ _ _ _ (by unfold zdQ;rw [List.length_map,List.length_map,List.length_range,zax,List.length_map]) ?_ ⟨none,none,rfl⟩ (by rw [zax,List.length_map,List.length_nil];have:=g.c6;omega)
  rintro i d e hd he ρ ⟨x,y,rfl⟩
  obtain ⟨z,hz,rfl⟩:=zbE hd
  rw [List.getElem?_map] at hz
  cases hci:cs[i]? with
  | none=>rw [hci] at hz;cases hz
  | some c =>
  rw [hci] at hz
  cases hz
  have hil:i < cs.length:=(List.getElem?_eq_some_iff.mp hci).1
  unfold zdQ at he
  rw [List.getElem?_map,List.getElem?_map,List.getElem?_eq_getElem (by rw [List.length_range];exact hil),List.getElem_range] at he
  cases he
  rw [Nat.zero_add]
  have e:cs.getD i 0=c:=by simp [List.getD,hci]
  dsimp only
  rw [e]
  exact ⟨_,tg_T rfl (tg_C (tg_N (of_decide_eq_true rfl) rfl) (tg_C (tg_N (of_decide_eq_true rfl) rfl) tg_0)),rfl,zap (zad rfl) (zer (zad rfl) (zab (zad rfl) zai) zd6) zfK,_,_,rfl⟩
 refine zar (zd3 (zay (zab (zad rfl) zai) rfl hw)) ?_
 exact zaJ (zaK (zbC (zca (zab (zaY rfl zag zem) zai) zbM) hc)) rfl
end
theorem znA {d:D} (h1:d.canLay0=true) (h2:d.depth<=60):oNe d d=some false:=by
 unfold oNe
 rw [if_pos ⟨h1,h1,h2⟩,zh7 _ h1];rfl
theorem zoS {a b:Option Int}:oEq (optD a) (optD b)=some (decide (a=b)):=by
 unfold oEq
 rw [if_pos ⟨by cases a <;> rfl,by cases b <;> rfl,by cases a <;> simp [optD,PyData.depth]⟩,zhD]
theorem zoT {a b:Option Int}:oNe (optD a) (optD b)=some (!decide (a=b)):=by
 unfold oNe
 rw [if_pos ⟨by cases a <;> rfl,by cases b <;> rfl,by cases a <;> simp [optD,PyData.depth]⟩,zhD]
section
variable {cs:List Int} {ls:List (List (List Int))} {ws:List (Option Int)} {a:Nat} {o had:Option Int} {rs:List (List Int)} {t:Int}
end
theorem zoU {xs:List D} {a:Nat} (h:a<=xs.length):DL.cutD xs none (some (a:Int))=xs.take a:=by
 unfold DL.cutD HT.sIx
 dsimp only
 rw [if_neg (by omega),Int.toNat_natCast]
 have:min a xs.length=a:=by omega
 rw [this]
 simp
theorem zfU {xs:List D} {a:Nat} (h:a<=xs.length):DL.cutD xs (some (a:Int)) none=xs.drop a:=by
 unfold DL.cutD HT.sIx
 dsimp only
 rw [if_neg (by omega),Int.toNat_natCast]
 have:min a xs.length=a:=by omega
 rw [this,List.take_of_length_le (by rw [List.length_drop];omega)]
theorem zfx {s:D->DEnv->Option DEnv} {t:M Bool} {g:M D} (I:DEnv->Prop):∀ (ds qs:List D) (ρ : DEnv) (es:List D),qs.length=ds.length ->
  (∀ (i:Nat) d e,ds[i]?=some d->qs[i]?=some e->∀ ρ,I ρ -> ∃ ρ1,s d ρ = some ρ1/\t ρ1=.ok true ρ1/\g ρ1=.ok e ρ1/\I (zaH ρ1))->I ρ -> es.length+ds.length<=1000000->∃ ρ',zcd s t g ds ρ es=some (es ++ qs,ρ')/\I ρ'
 | [],[],ρ,es,_,_,h0,_=>⟨ρ,by rw [zcd,List.append_nil],h0⟩
 | d :: r,e :: q,ρ,es,hl,st,h0,hz=>by
  obtain ⟨ρ1,e1,e2,e3,h1⟩:=st 0 d e rfl rfl ρ h0
  rw [List.length_cons] at hz
  obtain ⟨ρ',e',h'⟩:=zfx I r q (zaH ρ1) (es ++ [e]) (by simpa using hl) (fun i d' e' x y=>st (i+1) d' e' (by simpa using x) (by simpa using y)) h1 (by rw [List.length_append,List.length_singleton];omega)
  refine ⟨ρ',?_,h'⟩
  rw [zcd,e1]
  dsimp only
  rw [e2]
  dsimp only
  rw [if_pos rfl,e3]
  dsimp only
  rw [if_pos (by omega),e',List.append_assoc]
  rfl
theorem zd7 {s:D->DEnv->Option DEnv} {t:M Bool} {f:M (List D)} {Rd:List D->DEnv->List D->Option (List D × DEnv)} (I:DEnv->Prop):∀ (ds:List D) (qs:List (List D)) (ρ : DEnv) (es:List D),qs.length=ds.length ->
  (∀ (i:Nat) d q,ds[i]?=some d->qs[i]?=some q->∀ ρ es,I ρ -> es.length+q.length<=1000000->∃ ρ1 xs ρ2 ρ3,s d ρ = some ρ1/\t ρ1=.ok true ρ1/\f ρ1=.ok xs ρ2/\Rd xs (zaH ρ2) es=some (es ++ q,ρ3)/\I ρ3)->I ρ -> es.length+qs.flatten.length<=1000000->∃ ρ',zcu s t f Rd ds ρ es=some (es ++ qs.flatten,ρ')/\I ρ'
 | [],[],ρ,es,_,_,h0,_=>⟨ρ,by rw [zcu,List.flatten_nil,List.append_nil],h0⟩
 | d :: r,q :: qr,ρ,es,hl,st,h0,hz=>by
  rw [List.flatten_cons,List.length_append] at hz
  obtain ⟨ρ1,xs,ρ2,ρ3,e1,e2,e3,e4,h1⟩:=st 0 d q rfl rfl ρ es h0 (by omega)
  obtain ⟨ρ',e',h'⟩:=zd7 I r qr ρ3 (es ++ q) (by simpa using hl) (fun i d' e' x y=>st (i+1) d' e' (by simpa using x) (by simpa using y)) h1 (by rw [List.length_append];omega)
  refine ⟨ρ',?_,h'⟩
  rw [zcu,e1]
  dsimp only
  rw [e2]
  dsimp only
  rw [if_pos rfl,e3]
  dsimp only
  rw [e4]
  dsimp only
  rw [e',List.flatten_cons,List.append_assoc]
def zfe (i:Nat) (rs:List (List Int)):List (Int × Int):=rs.flatten.map fun t=>((i:Int),t)
def rawW (k:Nat):List (List (List Int))->List (Int × Int)
 | []=>[]
 | rs :: ls=>zfe k rs ++ rawW (k+1) ls
def allW (k:Nat):List (List (List Int))->List (Int × Int)
 | []=>[]
 | rs :: ls=>(zb0 rs.flatten).map (fun t=>((k:Int),t)) ++ allW (k+1) ls
theorem zdR:∀ (ls:List (List (List Int))) (k:Nat),(allW k ls).Perm (rawW k ls)
 | [],_=>.nil
 | rs :: ls,k=>((za1 rs.flatten).map _).append (zdR ls (k+1))
theorem zfV:∀ (ls:List (List (List Int))) (k:Nat),∀ q ∈ allW k ls,(k:Int)<=q.1
 | [],_,q,h=>by cases h
 | rs :: ls,k,q,h=>by
  rcases List.mem_append.mp h with h | h
  ·obtain ⟨t,_,rfl⟩:=List.mem_map.mp h;exact Int.le_refl _
  ·have:=zfV ls (k+1) q h;omega
theorem zdf:∀ {ls:List (List (List Int))} {k:Nat} {q:Int × Int},q ∈ allW k ls->∃ i rs,ls[i]?=some rs/\q.1=((k+i:Nat):Int)/\q.2 ∈ rs.flatten
 | [],_,q,h=>by cases h
 | rs :: ls,k,q,h=>by
  rcases List.mem_append.mp h with h | h
  ·obtain ⟨t,ht,rfl⟩:=List.mem_map.mp h
   exact ⟨0,rs,rfl,rfl,(za1 _).mem_iff.mp ht⟩
  ·obtain ⟨i,rs',h1,h2,h3⟩:=zdf h
   exact ⟨i+1,rs',by simpa using h1,by rw [h2];congr 1;omega,h3⟩
theorem zid:∀ {ls:List (List (List Int))} {k i:Nat} {rs:List (List Int)} {t:Int},ls[i]?=some rs->t ∈ rs.flatten->(((k+i:Nat):Int),t) ∈ allW k ls
 | rs :: ls,k,0,rs',t,h,ht=>by
  cases h
  exact List.mem_append_left _ (List.mem_map.mpr ⟨t,(za1 _).mem_iff.mpr ht,rfl⟩)
 | rs :: ls,k,i+1,rs',t,h,ht=>by
  have:=zid (ls:=ls) (k:=k+1) (i:=i) (by simpa using h) ht
  rw [show k+1+i=k+(i+1) by omega] at this
  exact List.mem_append_right _ this
theorem zie {n:Nat} (hn:n<=6):∀ (ls:List (List (List Int))) (k:Nat),(∀ rs ∈ ls,∀ t ∈ rs.flatten,0<=t/\t < n)->(allW k ls).Pairwise fun x y=>keyP x<=keyP y
 | [],_,_=>.nil
 | rs :: ls,k,h=>by
  refine List.pairwise_append.mpr ⟨?_,zie hn ls (k+1) fun rs' hr=>h rs' (List.mem_cons_of_mem _ hr),fun x hx y hy=>?_⟩
  ·rw [List.pairwise_map]
   refine (zgw rs.flatten).imp fun {a b} hab=>?_
   unfold keyP
   dsimp only
   omega
  ·obtain ⟨t,ht,rfl⟩:=List.mem_map.mp hx
   have h1:=zfV ls (k+1) y hy
   have h2:=h rs List.mem_cons_self t ((za1 _).mem_iff.mp ht)
   obtain ⟨i,rs',g1,g2,g3⟩:=zdf hy
   have h3:=h rs' (List.mem_cons_of_mem _ (List.mem_of_getElem? g1)) y.2 g3
   unfold keyP
   dsimp only
   omega
theorem zcf.flat {n:Nat} {rs:List (List Int)} (g:zcf n rs):∀ t ∈ rs.flatten,0<=t/\t < n:=fun t ht=>by
 obtain ⟨r,h1,h2⟩:=List.mem_flatten.mp ht
 exact g.there r h1 t h2
section
variable {cs:List Int} {ls:List (List (List Int))}
theorem zif (n:Nat):∀ (ls:List (List (List Int))) (k:Nat),(∀ rs ∈ ls,rs.flatten.length<=n)->(rawW k ls).length<=ls.length * n
 | [],_,_=>by simp [rawW]
 | rs :: ls,k,h=>by
  have h1:=zif n ls (k+1) fun r hr=>h r (List.mem_cons_of_mem _ hr)
  have h2:=h rs List.mem_cons_self
  show (zfe k rs ++ rawW (k+1) ls).length<=_
  rw [List.length_append,List.length_cons,Nat.succ_mul]
  unfold zfe
  rw [List.length_map]
  omega
theorem zi2 (g:Good cs ls):zfQ (rawW 0 ls)=allW 0 ls:=by
 have hf:∀ rs ∈ ls,∀ t ∈ rs.flatten,0<=t/\t < cs.length:=fun rs hr=>(g.rk rs hr).flat
 have ok:∀ q ∈ allW 0 ls,okP q:=fun q hq=>by
  obtain ⟨i,rs,h1,h2,h3⟩:=zdf hq
  have:=hf rs (List.mem_of_getElem? h1) q.2 h3
  have:=g.c6
  exact ⟨by omega,by omega⟩
 exact (zfR ok ((zdR ls 0).trans (zfs _).symm) (zie g.c6 ls 0 hf) (zgF _)).symm
theorem zoV (g:Good cs ls):∀ q ∈ rawW 0 ls,okP q:=fun q hq=>by
 obtain ⟨i,rs,h1,h2,h3⟩:=zdf ((zdR ls 0).mem_iff.mpr hq)
 have:=(g.rk rs (List.mem_of_getElem? h1)).flat q.2 h3
 have:=g.c6
 exact ⟨by omega,by omega⟩
theorem zhE (g:Good cs ls):(rawW 0 ls).length<=42:=by
 have h:=zif 6 ls 0 fun rs hr=>Nat.le_trans (zde (g.rk rs hr)) g.c6
 have:=g.l7
 omega
theorem zhF:∀ (ls:List (List (List Int))) (k:Nat),((ls.zipIdx k).map fun p=>(zfe p.2 p.1).map duoD).flatten=(rawW k ls).map duoD
 | [],_=>rfl
 | rs :: ls,k=>by
  rw [List.zipIdx_cons,List.map_cons,List.flatten_cons,zhF ls (k+1)]
  show _=(zfe k rs ++ rawW (k+1) ls).map duoD
  rw [List.map_append]
theorem zfW (g:Good cs ls):F_ai [zaz cs ls]=some (.list ((allW 0 ls).map duoD)):=by
 refine zbf (ρ:=[some (.pub (zaz cs ls))]) rfl ?_
 unfold g_ai
 refine zar (zd3 (zay (zab (zad rfl) zai) rfl (zeX g))) ?_
 have hc:∃ ρ',zcu (gT 2 (gNC (gN 1) (gNC (gN 2) (gN0)))) (zah true) (za2 (dVar 2)) (zcu (gN 3) (zah true) (za2 (dVar 3)) (zcd (gN 4) (zah true) (mTup (zae (dVar 1) (zae (dVar 4) (mNil)))))) (zcr 0 (ls.map zaC)) (zaH [some (.pub (zaz cs ls))] ++ List.replicate 4 none) []=some ((rawW 0 ls).map duoD,ρ'):=by
  have key:=zd7 (s:=gT 2 (gNC (gN 1) (gNC (gN 2) (gN0)))) (t:=zah true) (f:=za2 (dVar 2)) (Rd:=zcu (gN 3) (zah true) (za2 (dVar 3)) (zcd (gN 4) (zah true) (mTup (zae (dVar 1) (zae (dVar 4) (mNil))))))
   (fun ρ=>∃ x1 x2 x3 x4,ρ = [some (.pub (zaz cs ls)),x1,x2,x3,x4]) (zcr 0 (ls.map zaC)) ((ls.zipIdx 0).map fun p=>(zfe p.2 p.1).map duoD) (zaH [some (.pub (zaz cs ls))] ++ List.replicate 4 none) [] (by rw [List.length_map,List.length_zipIdx,zax,List.length_map]) ?_ ⟨none,none,none,none,rfl⟩ (by
    rw [zhF,List.length_map,List.length_nil];have:=zhE g;omega)
  ·obtain ⟨ρ',e,_⟩:=key
   rw [zhF,List.nil_append] at e
   exact ⟨ρ',e⟩
  rintro i d q hd hq ρ es ⟨x1,x2,x3,x4,rfl⟩ hlen
  obtain ⟨z,hz,rfl⟩:=zbE hd
  rw [List.getElem?_map] at hz
  rw [List.getElem?_map,List.getElem?_zipIdx] at hq
  cases hls:ls[i]? with
  | none=>rw [hls] at hz;cases hz
  | some rs =>
  rw [hls] at hz hq
  cases hz
  cases hq
  rw [Nat.zero_add] at *
  dsimp only at hlen ⊢
  have inner:=zd7 (s:=gN 3) (t:=zah true) (f:=za2 (dVar 3)) (Rd:=zcd (gN 4) (zah true) (mTup (zae (dVar 1) (zae (dVar 4) (mNil)))))
   (fun ρ=>∃ x3 x4,ρ = [some (.pub (zaz cs ls)),some (.pub (.int i)),some (.pub (zaC rs)),x3,x4]) (rs.map za9) (rs.map fun r=>r.map fun t=>duoD ((i:Int),t)) (zaH [some (.pub (zaz cs ls)),some (.pub (.int i)),some (.pub (zaC rs)),x3,x4]) es (by rw [List.length_map,List.length_map]) ?_ ⟨zd0 x3,zd0 x4,rfl⟩ ?_
  ·obtain ⟨ρ3,e3,y3,y4,h3⟩:=inner
   have ef:(rs.map fun r=>r.map fun t=>duoD ((i:Int),t)).flatten=(zfe i rs).map duoD:=by
    unfold zfe
    rw [List.map_map,List.map_flatten];rfl
   rw [ef] at e3
   exact ⟨_,_,_,ρ3,tg_T rfl (tg_C (tg_N (of_decide_eq_true rfl) rfl) (tg_C (tg_N (of_decide_eq_true rfl) rfl) tg_0)),rfl,zaT (zad rfl) rfl,e3,_,_,_,_,h3⟩
  ·rintro j d q hd hq ρ es' ⟨y3,y4,rfl⟩ hlen'
   rw [List.getElem?_map] at hd hq
   cases hr:rs[j]? with
   | none=>rw [hr] at hd;cases hd
   | some r =>
   rw [hr] at hd hq
   cases hd
   cases hq
   obtain ⟨ρ3,e3,z4,h3⟩:=zfx (s:=gN 4) (t:=zah true) (g:=mTup (zae (dVar 1) (zae (dVar 4) (mNil)))) (fun ρ=>∃ x4,ρ = [some (.pub (zaz cs ls)),some (.pub (.int i)),some (.pub (zaC rs)),some (.pub (za9 r)),x4]) (r.map PyData.int) (r.map fun t=>duoD ((i:Int),t)) (zaH [some (.pub (zaz cs ls)),some (.pub (.int i)),some (.pub (zaC rs)),some (.pub (za9 r)),y4]) es' (by rw [List.length_map,List.length_map]) (by
    rintro m d e hd he ρ ⟨x4,rfl⟩
    rw [List.getElem?_map] at hd he
    cases hm:r[m]? with
    | none=>rw [hm] at hd;cases hd
    | some t =>
    rw [hm] at hd he
    cases hd
    cases he
    exact ⟨_,tg_N (of_decide_eq_true rfl) rfl,rfl,zcC (zab (zad rfl) (zab (zad rfl) zai)) (of_decide_eq_true rfl),_,rfl⟩) ⟨zd0 y4,rfl⟩ (by rw [List.length_map] at hlen' ⊢;exact hlen')
   exact ⟨_,_,_,ρ3,tg_N (of_decide_eq_true rfl) rfl,rfl,zaT (zad rfl) rfl,e3,_,_,h3⟩
  ·have ef:(rs.map fun r=>r.map fun t=>duoD ((i:Int),t)).flatten=(zfe i rs).map duoD:=by
    unfold zfe
    rw [List.map_map,List.map_flatten];rfl
   rw [ef];exact hlen
 obtain ⟨ρ',hc⟩:=hc
 have hs:=zkl (qs:=rawW 0 ls) (by have:=zhE g;omega) (zoV g)
 rw [zi2 g] at hs
 exact zaJ (zaQ (zab (zaK (zlI (zca (zab (zaY rfl zag zfc) zai) zbM) hc)) zai) hs) rfl
end
theorem zfX {t:Int} {r:List Int}:oIn (.int t) (.list (r.map PyData.int))=some (r.contains t):=zhC t r
theorem zmI {x:D} {m:Nat} (h:m<=1000):oMul (.list [x]) (.int m)=some (.list (List.replicate m x)):=by
 rw [zcD ⟨by omega,by omega,by show 1 * _<=_;omega⟩]
 congr 2
 rw [Int.toNat_natCast]
 clear h
 induction m with
 | zero=>rfl
 | succ n ih=>rw [List.replicate_succ,List.flatten_cons,ih,List.replicate_succ];rfl
theorem zme {t:Int} {r:List Int}:oNin (.int t) (.list (r.map PyData.int))=some (!r.contains t):=by
 unfold oNin
 rw [zfX]
 rfl
theorem zcG {s:D->DEnv->Option DEnv} {t:M Bool} {g:M D} (I:DEnv->Prop):∀ (ds:List D) (qs:List (Option D)) (ρ : DEnv) (es:List D),qs.length=ds.length ->
  (∀ (i:Nat) d e,ds[i]?=some d->qs[i]?=some e->∀ ρ,I ρ -> ∃ ρ1,s d ρ = some ρ1/\t ρ1=.ok e.isSome ρ1/\(∀ x,e=some x->g ρ1=.ok x ρ1)/\I (zaH ρ1))->I ρ -> es.length+ds.length<=1000000->zbl s t g ds ρ es=some (es ++ qs.filterMap id)
 | [],[],ρ,es,_,_,_,_=>by rw [zbl];simp
 | d :: r,e :: q,ρ,es,hl,st,h0,hz=>by
  obtain ⟨ρ1,e1,e2,e3,h1⟩:=st 0 d e rfl rfl ρ h0
  rw [List.length_cons] at hz
  have ih:=fun es' hz'=>zcG I r q (zaH ρ1) es' (by simpa using hl) (fun i d' e' x y=>st (i+1) d' e' (by simpa using x) (by simpa using y)) h1 hz'
  rw [zbl,e1]
  dsimp only
  rw [e2]
  dsimp only
  cases e with
  | none =>
   rw [if_neg (show ¬ (none:Option D).isSome=true by simp),ih es (by omega)]
   rfl
  | some x =>
   rw [if_pos (show (some x).isSome=true from rfl),e3 x rfl]
   dsimp only
   rw [if_pos (by omega),ih (es ++ [x]) (by rw [List.length_append,List.length_singleton];omega),List.append_assoc]
   rfl
section
variable {cs:List Int} {ls:List (List (List Int))} {old:Option (List (Option Int))} {ts:List Int} {ws:List (Option Int)}
def zcy (V:Int->Int->Int) (q:Int × Int):D:=.tuple [.int q.1,.int q.2,.int (V q.1 q.2)]
end
section
variable {cs:List Int} {ls:List (List (List Int))} {ws us:List (Option Int)}
theorem ix_c {t:Int} (h0:0<=t) (h:t < cs.length):oIx (.list (cs.map PyData.int)) (.int t)=some (.int (cs.getD t.toNat 0)):=by
 have e:t=((t.toNat:Nat):Int):=by omega
 rw [e]
 refine zaW ?_
 rw [List.getElem?_map,List.getElem?_eq_getElem (by omega),List.getD_eq_getElem?_getD,Int.toNat_natCast,List.getElem?_eq_getElem (by omega)]
 rfl
theorem zi3 {t:Int} {fl:List Int}:oNin (.int t) (.list ((zb0 fl).map PyData.int))=some (!fl.contains t):=by
 have e:(zb0 fl).contains t=fl.contains t:=by
  rw [Bool.eq_iff_iff]
  simp only [List.contains_iff_mem]
  exact (za1 fl).mem_iff
 unfold oNin
 rw [zfX,e]
 rfl
theorem zfY (i:Int):F_bg [.int i]=some (.bool true):=by
 refine zbf (ρ:=[some (.pub (.int i))]) rfl ?_
 unfold g_bg
 exact zaJ (zhp (zaK (k:=fun d=>PyData.bool (isTy d "int")) (zad rfl)) (fun _=>zj9 (zaK (k:=fun d=>PyData.bool (isTy d "bool")) (zad rfl)))) rfl
theorem ze0 (g:Good cs ls) (hl:us.length=ls.length) (hr:∀ t,some t ∈ us->0<=t/\t < cs.length):∃ r,F_bh [zaz cs ls,zaG us]=some r/\∃ b,r=.bool b/\(b=true->Deal cs ls us):=by
 refine zcS (ρ:=[some (.pub (zaz cs ls)),some (.pub (zaG us)),none,none]) rfl ?_
 unfold g_bh
 have l7:=g.l7
 have hll:oLen [.list (ls.map zaC)]=some (.int ls.length):=by rw [zaE,List.length_map]
 have hul:oLen [zaG us]=some (.int us.length):=by unfold zaG;rw [zaE,List.length_map]
 have hne:oNe (.int us.length) (.int ls.length)=some false:=by rw [zhr,hl];simp
 have hsz:∀ ρ : DEnv,ρ[0]?=some (some (.pub (zaz cs ls))) -> ρ[1]?=some (some (.pub (zaG us)))->dBin oNe (zb1 1) (zbg oLen (zae (dIxN 0 (zah (.int 1))) mNil)) ρ = .ok false ρ:=fun ρ r0 r1 =>
  zap (zbu r1 hul) (zaQ (zab (zaY r0 zag zfc) zai) hll) hne
 apply zaU
 apply zbe
 case h1=>exact zcE (zcR (zbW (zaK (k:=fun d=>PyData.bool (isTy d "list")) (x:=zaG us) (zad rfl)))) (hsz _ rfl rfl)
 case h2=>intro h;cases h
 case h3 =>
  intro _
  refine zbI (zaw ?_)
  apply zaU
  apply zbJ (fun i ρ=>(∃ x2 x3,ρ = [some (.pub (zaz cs ls)),some (.pub (zaG us)),x2,x3])/\∀ (j:Nat) t rs,j < i->us[j]?=some (some t)->ls[j]?=some rs->t ∈ rs.flatten/\((us.count (some t):Nat):Int)<=cs.getD t.toNat 0)
  case h1=>exact zca (zab (zad rfl) zai) zbM
  case h0=>exact ⟨⟨_,_,rfl⟩,fun j t rs h=>absurd h (Nat.not_lt_zero _)⟩
  case hst =>
   rintro i d ρ hi ⟨⟨x2,x3,rfl⟩,hb⟩
   obtain ⟨z,hz,rfl⟩:=zbE hi
   rw [List.getElem?_map] at hz
   cases hwi:us[i]? with
   | none=>rw [hwi] at hz;cases hz
   | some o =>
   rw [hwi] at hz
   cases hz
   have hil:i < ls.length:=by have:=(List.getElem?_eq_some_iff.mp hwi).1;omega
   have hls:ls[i]?=some ls[i]:=List.getElem?_eq_getElem hil
   rw [Nat.zero_add]
   refine ⟨_,tg_T rfl (tg_C (tg_N (of_decide_eq_true rfl) rfl) (tg_C (tg_N (of_decide_eq_true rfl) rfl) tg_0)),?_⟩
   unfold zkz
   cases o with
   | none =>
    apply zaU
    apply zbe
    case h1=>exact zkc (zaK (k:=fun d=>!isNon d) (x:=PyData.none) (zad rfl))
    case h2=>intro h;cases h
    case h3 =>
     intro _
     refine zbI (zaw ?_)
     apply zbe
     case h1=>exact zkc (zaK (k:=fun d=>!isNon d) (x:=PyData.none) (zad rfl))
     case h2=>intro h;cases h
     case h3 =>
      intro _
      refine zbI (zaO ⟨⟨_,_,rfl⟩,fun j t rs hj e1 e2=>?_⟩)
      rcases Nat.lt_succ_iff_lt_or_eq.mp hj with hj | rfl
      ·exact hb j t rs hj e1 e2
      ·rw [hwi] at e1;cases e1
   | some t =>
    have ht:=hr t (List.mem_of_getElem? hwi)
    have hfl:(ls[i]).flatten.length < 64:=by
     have gr:=g.rk ls[i] (List.mem_of_getElem? hls)
     have:=zdN cs.length _ gr.once gr.flat
     have:=g.c6
     omega
    apply zaU
    apply zbe
    case h1=>exact zkd (zaK (k:=fun d=>!isNon d) (x:=PyData.int t) (zad rfl)) (zcE (zcR (zbW (zay (zab (zad rfl) zai) rfl (zfY t)))) (zbB rfl (zay (zab (zad rfl) (zab (zad rfl) zai)) rfl (zdP hls hfl)) zi3))
    case h2=>exact fun _=>zaJ zag (zdF (zdc ⟨_,rfl,false,rfl,fun h=>by cases h⟩))
    case h3 =>
     intro h1
     refine zbI (zaw ?_)
     apply zbe
     case h1=>exact zkd (zaK (k:=fun d=>!isNon d) (x:=PyData.int t) (zad rfl)) (zap (zer (zad rfl) (zab (zad rfl) zai) zd6) (zap (zaY rfl zag zem) (zad rfl) (ix_c ht.1 ht.2)) rfl)
     case h2=>exact fun _=>zaJ zag (zdc ⟨_,rfl,false,rfl,fun h=>by cases h⟩)
     case h3 =>
      intro h2
      refine zbI (zaO ⟨⟨_,_,rfl⟩,fun j t' rs hj e1 e2=>?_⟩)
      rcases Nat.lt_succ_iff_lt_or_eq.mp hj with hj | rfl
      ·exact hb j t' rs hj e1 e2
      ·rw [hwi] at e1
       rw [hls] at e2
       cases e1
       cases e2
       have h2:=of_decide_eq_false h2
       exact ⟨by simpa using h1,by omega⟩
  case hend =>
   rintro ρ ⟨⟨x2,x3,rfl⟩,hb⟩
   refine zaw (zaJ zag ⟨_,rfl,true,rfl,fun _=>⟨hl,fun i t rs h1 h2=>?_,fun k c hk=>?_⟩⟩)
   ·exact (hb i t rs (by rw [zax,List.length_map];exact (List.getElem?_eq_some_iff.mp h1).1) h1 h2).1
   ·rcases Nat.eq_zero_or_pos (us.count (some (k:Int))) with h0 | h0
    ·rw [h0];exact (g.c7 c (List.mem_of_getElem? hk)).1
    ·obtain ⟨i,hi,e⟩:=List.mem_iff_getElem.mp (List.count_pos_iff.mp h0)
     have e1:us[i]?=some (some (k:Int)):=by rw [List.getElem?_eq_getElem hi,e]
     have hil:i < ls.length:=by omega
     have:=(hb i k ls[i] (by rw [zax,List.length_map];exact hi) e1 (List.getElem?_eq_getElem hil)).2
     rw [Int.toNat_natCast,List.getD_eq_getElem?_getD,hk] at this
     exact this
theorem Deal.range (g:Good cs ls) (dl:Deal cs ls ws):∀ t,some t ∈ ws->0<=t/\t < cs.length:=fun t ht=>by
 obtain ⟨i,hi,e⟩:=List.mem_iff_getElem.mp ht
 have hil:i < ls.length:=by have:=dl.len;omega
 have hls:ls[i]?=some ls[i]:=List.getElem?_eq_getElem hil
 exact (g.rk _ (List.mem_of_getElem? hls)).flat t (dl.wish i t _ (by rw [List.getElem?_eq_getElem hi,e]) hls)
end
section
variable {cs:List Int} {ls:List (List (List Int))} {ws:List (Option Int)}
theorem zig (g:Good cs ls) (dl:Deal cs ls ws) {us:List (Option Int)} {x2 x3 x4 x5 x6 x8:Option Sl} (hl:us.length=ls.length) (hr:∀ t,some t ∈ us->0<=t/\t < cs.length) :
  Ho (sSeq (sIf (zbN (ziV 2 F_bh (zae (dVar 0) (zfu 7 (mNil))))) (sRet (dVar 7)) (sNx)) (sRet (mMap PyData.list (zdC 1))))
   [some (.pub (zaz cs ls)),some (.pub (zaG ws)),x2,x3,x4,x5,x6,some (.own (us.map optD)),x8] (fun o=>∃ d,o=Out.rt d/\∃ vs,d=zaG vs/\Deal cs ls vs):=by
 obtain ⟨r,hF,b,rfl,hb⟩:=ze0 g hl hr
 apply zaU
 apply zbe
 case h1=>exact zbW (zns (zab (zad rfl) (zl6 rfl zai rfl)) rfl hF)
 case h2=>exact fun h=>zaJ (zbt rfl rfl) (zdF ⟨_,rfl,us,rfl,hb h⟩)
 case h3=>exact fun _=>zbI (zaw (zaJ (zaK (zes rfl (show zc1 [zaG ws]=some (ws.map optD) from rfl))) ⟨_,rfl,ws,rfl,dl⟩))
theorem zhG {us:List (Option Int)} {k:Nat} {o:Option Int}:(us.map optD).set k (optD o)=(us.set k o).map optD:=by rw [List.map_set]
theorem zkW (g:Good cs ls) (dl:Deal cs ls ws) (c s:Int):∃ r,F_bi [zaz cs ls,zaG ws,.int c,.int s]=some r/\∃ vs,r=zaG vs/\Deal cs ls vs:=by
 refine zcS (ρ:=[some (.pub (zaz cs ls)),some (.pub (zaG ws)),some (.pub (.int c)),some (.pub (.int s)),none,none,none,none,none]) rfl ?_
 unfold g_bi
 have l7:=g.l7;have l1:=g.l1;have len:=dl.len
 obtain ⟨r,hF,dg,rfl,hdl,hdb⟩:=zbZ c s (sizes:=[2,7,7,61]) (fun x hx=>by
  have hx:x=2 ∨ x=7 ∨ x=61:=by simpa using hx
  omega) (by show 4<=1000;decide)
 have hd4:dg.length=4:=hdl
 match dg,hd4 with
 | [d0,d1,d2,d3],_ =>
 have b1:=hdb 1 d1 _ rfl rfl
 have b2:=hdb 2 d2 _ rfl rfl
 have b3:=hdb 3 d3 _ rfl rfl
 refine zar (zaS (zay (zab (zad rfl) (zab (zad rfl) (zab (zba (zab zag (zab zag (zab zag (zab zag zai)))) (of_decide_eq_true rfl)) zai))) rfl hF) (of_decide_eq_true rfl) rfl) ?_
 have x0:oIx (.list ([d0,d1,d2,d3].map PyData.int)) (.int 0)=some (.int d0):=zaW (j:=0) rfl
 have x1:oIx (.list ([d0,d1,d2,d3].map PyData.int)) (.int 1)=some (.int d1):=zaW (j:=1) rfl
 have x2:oIx (.list ([d0,d1,d2,d3].map PyData.int)) (.int 2)=some (.int d2):=zaW (j:=2) rfl
 have x3:oIx (.list ([d0,d1,d2,d3].map PyData.int)) (.int 3)=some (.int d3):=zaW (j:=3) rfl
 have hul:oLen [zaG ws]=some (.int ws.length):=by unfold zaG;rw [zaE,List.length_map]
 obtain ⟨a,ha⟩:∃ a:Nat,d1 % (ws.length:Int)=a:=⟨(d1 % (ws.length:Int)).toNat,by have:=Int.emod_nonneg d1 (show (ws.length:Int) ≠ 0 by omega);omega⟩
 obtain ⟨b,hb⟩:∃ b:Nat,d2 % (ws.length:Int)=b:=⟨(d2 % (ws.length:Int)).toNat,by have:=Int.emod_nonneg d2 (show (ws.length:Int) ≠ 0 by omega);omega⟩
 have hal:a < ws.length:=by have:=Int.emod_lt_of_pos d1 (show 0 < (ws.length:Int) by omega);omega
 have hbl:b < ws.length:=by have:=Int.emod_lt_of_pos d2 (show 0 < (ws.length:Int) by omega);omega
 have m1:oMod (.int d1) (.int ws.length)=some (.int a):=by rw [zds (by omega),ha]
 have m2:oMod (.int d2) (.int ws.length)=some (.int b):=by rw [zds (by omega),hb]
 refine zar (zaS (zap (zaY rfl zag x1) (zbu rfl hul) m1) (of_decide_eq_true rfl) rfl) ?_
 refine zar (zaS (zap (zaY rfl zag x2) (zbu rfl hul) m2) (of_decide_eq_true rfl) rfl) ?_
 refine zar (zbk (zes rfl (show zc1 [zaG ws]=some (ws.map optD) from rfl)) (of_decide_eq_true rfl) rfl) ?_
 have hrg:=dl.range g
 have ia:oIx (zaG ws) (.int a)=some (optD ws[a]):=zib hal
 have ib:oIx (zaG ws) (.int b)=some (optD ws[b]):=zib hbl
 have hls:ls[a]?=some (ls[a]'(by omega)):=List.getElem?_eq_getElem (by omega)
 generalize ls[a]'(by omega)=rs at hls
 have gr:=g.rk rs (List.mem_of_getElem? hls)
 apply zaU
 apply zbe
 case h1=>exact zap (zaY rfl zag x0) zag zbU
 case h2 =>
  intro _
  refine zar (zc4 (k:=a) (zaY rfl (zad rfl) ib) rfl (zad rfl) rfl (by rw [List.length_map];omega) rfl) ?_
  refine za4 (zc4 (k:=b) (zaY rfl (zad rfl) ia) rfl (zad rfl) rfl (by rw [List.length_set,List.length_map];omega) rfl) ?_
  refine zaw ?_
  rw [Int.toNat_natCast,Int.toNat_natCast,zhG,zhG]
  refine zig g dl (by rw [List.length_set,List.length_set];exact len) fun t ht=>?_
  rcases List.mem_or_eq_of_mem_set ht with ht | ht
  ·rcases List.mem_or_eq_of_mem_set ht with ht | ht
   ·exact hrg t ht
   ·exact hrg t (by rw [ht];exact List.getElem_mem _)
  ·exact hrg t (by rw [ht];exact List.getElem_mem _)
 case h3 =>
  intro _
  have hfl:rs.flatten.length < 64:=by
   have:=zdN cs.length _ gr.once gr.flat
   have:=g.c6
   omega
  let os:List (Option Int):=(zb0 rs.flatten).map some ++ [none]
  have hos:os.map optD=(zb0 rs.flatten).map PyData.int ++ [.none]:=by show (List.map some (zb0 rs.flatten) ++ [none]).map optD=_;rw [List.map_append,List.map_map];rfl
  have hsl:(zb0 rs.flatten).length=rs.flatten.length:=(za1 rs.flatten).length_eq
  have hadd:oAdd (.list ((zb0 rs.flatten).map PyData.int)) (.list [.none])=some (.list (os.map optD)):=by
   rw [zbv (by rw [List.length_map,hsl];show _+1<=_;omega),hos]
  have hol:0 < os.length:=by show 0 < (List.map some (zb0 rs.flatten) ++ [none]).length;rw [List.length_append];show 0 < _+1;omega
  have hlo:oLen [.list (os.map optD)]=some (.int os.length):=by rw [zaE,List.length_map]
  refine zar (zaS (zap (zay (zab (zad rfl) (zab (zad rfl) zai)) rfl (zdP hls hfl)) (zba (zab zag zai) (of_decide_eq_true rfl)) hadd) (of_decide_eq_true rfl) rfl) ?_
  obtain ⟨k,hk⟩:∃ k:Nat,d3 % (os.length:Int)=k:=⟨(d3 % (os.length:Int)).toNat,by have:=Int.emod_nonneg d3 (show (os.length:Int) ≠ 0 by omega);omega⟩
  have hkl:k < os.length:=by have:=Int.emod_lt_of_pos d3 (show 0 < (os.length:Int) by omega);omega
  have m3:oMod (.int d3) (.int os.length)=some (.int k):=by rw [zds (by omega),hk]
  refine za4 (zc4 (k:=a) (zaY rfl (zap (zaY rfl zag x3) (zbu rfl hlo) m3) (zib hkl)) rfl (zad rfl) rfl (by rw [List.length_map];omega) rfl) ?_
  refine zaw ?_
  rw [Int.toNat_natCast,zhG]
  refine zig g dl (by rw [List.length_set];exact len) fun t ht=>?_
  rcases List.mem_or_eq_of_mem_set ht with ht | ht
  ·exact hrg t ht
  ·have hm:os[k] ∈ os:=List.getElem_mem _
   rw [← ht] at hm
   rcases List.mem_append.mp hm with hm | hm
   ·obtain ⟨y,hy,e⟩:=List.mem_map.mp hm
    cases e
    exact gr.flat t ((za1 rs.flatten).mem_iff.mp hy)
   ·cases List.mem_singleton.mp hm
end
theorem zi4 {d:D} {m:Int} (h:d ∈ zbp 0 m):∃ i:Int,(0<=i/\i < m)/\d=.int i:=by
 obtain ⟨j,hj,e⟩:=List.getElem_of_mem h
 have h2:(zbp 0 m)[j]?=some d:=by rw [List.getElem?_eq_getElem hj,e]
 obtain ⟨h3,h4⟩:=zbL h2
 exact ⟨0+(j:Int),⟨by omega,by omega⟩,h3⟩
theorem zgS {i:Int}:oNe (.int i) (.int i)=some false:=znA rfl (by simp [PyData.depth])
theorem zi5 {α β : Type} {f : α -> β} (hf:∀ a b,f a=f b->a=b) {l:List α} (h:l.Nodup):(l.map f).Nodup:=by
 unfold List.Nodup at h ⊢
 rw [List.pairwise_map]
 exact h.imp fun hne e=>hne (hf _ _ e)
theorem zfy:∀ (ls:List (List (List Int))) (k:Nat),(∀ rs ∈ ls,rs.flatten.Nodup)->(allW k ls).Nodup
 | [],_,_=>List.nodup_nil
 | rs :: ls,k,h=>by
  show ((zb0 rs.flatten).map (fun t=>((k:Int),t)) ++ allW (k+1) ls).Nodup
  rw [List.nodup_append]
  refine ⟨?_,zfy ls (k+1) fun r hr=>h r (List.mem_cons_of_mem _ hr),fun a ha b hb e=>?_⟩
  ·exact zi5 (fun x y e=>(Prod.mk.inj e).2) ((za1 _).nodup_iff.mpr (h rs List.mem_cons_self))
  ·subst e
   obtain ⟨t,_,rfl⟩:=List.mem_map.mp ha
   have:=zfV ls (k+1) _ hb
   simp at this
   omega
theorem zfZ {zs:List Int} {k:Nat} {v:Int} (h:zs[k]?=some v):oIx (.list (zs.map PyData.int)) (.int k)=some (.int v):=zaW (by rw [List.getElem?_map,h];rfl)
theorem zoW {zs:List Int} {k:Int} (h0:0<=k) (h1:k < zs.length):∃ v ∈ zs,oIx (.list (zs.map PyData.int)) (.int k)=some (.int v):=by
 obtain ⟨n,rfl⟩:∃ n:Nat,k=n:=⟨k.toNat,by omega⟩
 have hl:n < zs.length:=by omega
 exact ⟨zs[n],List.getElem_mem hl,zfZ (List.getElem?_eq_getElem hl)⟩
theorem zkX (l:List Int):(l.map PyData.int).all flat=true:=by
 rw [List.all_eq_true];intro x hx;obtain ⟨y,_,rfl⟩:=List.mem_map.mp hx;rfl
def zmf (ps cs:List Int):List Int:=(ps.zip cs).map fun p=>p.1 * p.2
def zgT (cs as ps:List Int):Int:=as.sum+(zmf ps cs).sum
theorem znB {cs:List Int} {ls:List (List (List Int))} (g:Good cs ls):∀ q ∈ allW 0 ls,(0<=q.1/\q.1 < ls.length)/\0<=q.2/\q.2 < cs.length:=fun q hq=>by
 obtain ⟨i,rs,h1,h2,h3⟩:=zdf hq
 have:=(g.rk rs (List.mem_of_getElem? h1)).flat q.2 h3
 have:=(List.getElem?_eq_some_iff.mp h1).1
 omega
theorem zkY {ns:List Int} {k:Int} (h0:0<=k) (h1:k < ns.length):oIx (.list (ns.map PyData.int)) (.int k)=some (.int (ns.getD k.toNat 0)):=by
 obtain ⟨j,rfl⟩:∃ j:Nat,k=j:=⟨k.toNat,by omega⟩
 rw [Int.toNat_natCast]
 exact zeY (by omega)
structure OkP (n m:Nat) (V:Int->Int->Int) (qs:List (Int × Int)) (tm:Int) (as ps:List Int):Prop where
 t0:0<=tm
 la:as.length=m
 lp:ps.length=n
 aa:∀ a ∈ as,0<=a
 pp:∀ p ∈ ps,0<=p
 le:∀ q ∈ qs,tm * V q.1 q.2<=as.getD q.1.toNat 0+ps.getD q.2.toNat 0
def pz (ps:List Int) (ws:List (Option Int)):Int:=(ws.map fun o=>match o with | some t=>ps.getD t.toNat 0 | none=>0).sum
def sumF (n:Nat) (f:Nat->Int):Int:=((List.range n).map f).sum
theorem zco {n:Nat} {f:Nat->Int}:sumF (n+1) f=sumF n f+f n:=by
 unfold sumF
 rw [List.range_succ,List.map_append,List.sum_append]
 simp
theorem zf0 {f h:Nat->Int}:∀ (n:Nat),sumF n (fun k=>f k+h k)=sumF n f+sumF n h
 | 0=>rfl
 | n+1=>by rw [zco,zco,zco,zf0 n];omega
theorem zf1 {f h:Nat->Int}:∀ (n:Nat),(∀ k,k < n->f k<=h k)->sumF n f<=sumF n h
 | 0,_=>Int.le_refl _
 | n+1,e=>by
  have h1:=zf1 n fun k hk=>e k (by omega)
  have h2:=e n (by omega)
  rw [zco,zco]
  omega
theorem zdS:∀ (n:Nat) (f:Nat->Int),(∀ k,k < n->f k=0)->sumF n f=0
 | 0,_,_=>rfl
 | n+1,f,e=>by rw [zco,zdS n f fun k hk=>e k (by omega),e n (by omega)];rfl
theorem zf2 {p:Nat->Int} {j:Nat}:∀ (n:Nat),j < n->sumF n (fun k=>if k=j then p k else 0)=p j
 | n+1,h=>by
  rw [zco]
  by_cases e:n=j
  ·subst e
   rw [if_pos rfl,zdS n _ fun k hk=>if_neg (by omega)]
   omega
  ·rw [if_neg e,zf2 n (by omega)]
   omega
theorem zcH {f h:Nat->Int} {n:Nat} (e:∀ k,k < n->f k=h k):sumF n f=sumF n h:=Int.le_antisymm (zf1 n fun k hk=>by rw [e k hk];exact Int.le_refl _) (zf1 n fun k hk=>by rw [e k hk];exact Int.le_refl _)
theorem ze1 {ps:List Int} {n:Nat}:∀ (ws:List (Option Int)),(∀ t,some t ∈ ws->0<=t/\t < n)->pz ps ws=sumF n fun k=>((ws.count (some (k:Int)):Nat):Int) * ps.getD k 0
 | [],_=>by
  rw [zdS n _ fun k _=>by simp]
  rfl
 | o :: ws,h=>by
  have ih:=ze1 (ps:=ps) ws fun t ht=>h t (List.mem_cons_of_mem _ ht)
  cases o with
  | none =>
   show ((0:Int) :: (ws.map fun o=>match o with | some t=>ps.getD t.toNat 0 | none=>0)).sum=_
   rw [List.sum_cons]
   unfold pz at ih
   rw [ih,Int.zero_add]
   exact zcH fun k _=>by rw [List.count_cons];simp
  | some t =>
   have ht:=h t List.mem_cons_self
   show (ps.getD t.toNat 0 :: (ws.map fun o=>match o with | some t=>ps.getD t.toNat 0 | none=>0)).sum=_
   rw [List.sum_cons]
   unfold pz at ih
   rw [ih,← zf2 (p:=fun k=>ps.getD k 0) (j:=t.toNat) n (by omega),← zf0]
   refine zcH fun k _=>?_
   rw [List.count_cons]
   by_cases e:k=t.toNat
   ·subst e
    have:(some t == some ((t.toNat:Nat):Int))=true:=by simp;omega
    rw [if_pos rfl,if_pos this,Int.natCast_add,Int.add_mul]
    omega
   ·have : ¬ (some t == some ((k:Nat):Int))=true:=by simp;omega
    rw [if_neg e,if_neg this,Int.zero_add,Nat.add_zero]
theorem zd8:∀ (ps cs:List Int),ps.length=cs.length->(zmf ps cs).sum=sumF cs.length fun k=>cs.getD k 0 * ps.getD k 0
 | ps,cs,h=>by
  unfold sumF zmf
  congr 1
  apply List.ext_getElem?
  intro i
  rw [List.getElem?_map,List.getElem?_map]
  by_cases hi:i < cs.length
  ·rw [List.getElem?_range hi]
   have h1:ps[i]?=some ps[i]:=List.getElem?_eq_getElem (by omega)
   have h2:cs[i]?=some cs[i]:=List.getElem?_eq_getElem hi
   have hz:(ps.zip cs)[i]?=some (ps[i],cs[i]):=List.getElem?_zip_eq_some.mpr ⟨h1,h2⟩
   rw [hz]
   simp only [Option.map_some,List.getD_eq_getElem?_getD,h1,h2,Option.getD_some,Int.mul_comm]
  ·rw [List.getElem?_eq_none (l:=ps.zip cs) (by rw [List.length_zip];omega),List.getElem?_eq_none (l:=List.range cs.length) (by rw [List.length_range];omega)]
   rfl
structure Stp where
 a:Nat
 b:Nat
 g:Int
 w:Option Nat
abbrev Tab:=List (Int × List Stp)
def ent (T:Tab) (p:Nat):Int × List Stp:=T.getD p (0,[])
def zcQ (W T:Tab) (s:Stp):Tab:=if (ent T s.b).1 < (ent W s.a).1+s.g then T.set s.b ((ent W s.a).1+s.g,(ent W s.a).2 ++ [s]) else T
def zih (W:Tab) (S:List Stp):Tab:=S.foldl (zcQ W) W
def zaD (n:Nat) (S:List Stp):Nat->Tab
 | 0=>List.replicate n (0,[])
 | t+1=>zih (zaD n S t) S
theorem zgU {T:Tab} {p:Nat} {x:Int × List Stp} (h:p < T.length):ent (T.set p x) p=x:=by
 unfold ent;rw [List.getD_eq_getElem?_getD,List.getElem?_set_self h];rfl
theorem zd9 {T:Tab} {p q:Nat} {x:Int × List Stp} (h:p ≠ q):ent (T.set p x) q=ent T q:=by
 unfold ent;rw [List.getD_eq_getElem?_getD,List.getElem?_set_ne h,← List.getD_eq_getElem?_getD]
theorem zkZ (W T:Tab) (s:Stp):(zcQ W T s).length=T.length:=by
 unfold zcQ;split
 ·rw [List.length_set]
 ·rfl
structure zfz (W T:Tab) (S:List Stp):Prop where
 len:T.length=W.length
 up:∀ p,(ent W p).1<=(ent T p).1
 how:∀ p,ent T p=ent W p ∨ ∃ s ∈ S,s.b=p/\ent T p=((ent W s.a).1+s.g,(ent W s.a).2 ++ [s])/\(ent W p).1 < (ent T p).1
theorem zgV {W T:Tab} {S:List Stp} {s:Stp} (hs:s ∈ S) (hb:s.b < W.length) (k:zfz W T S):zfz W (zcQ W T s) S/\(∀ p,(ent T p).1<=(ent (zcQ W T s) p).1)/\(ent W s.a).1+s.g<=(ent (zcQ W T s) s.b).1:=by
 have hbT:s.b < T.length:=by rw [k.len];exact hb
 unfold zcQ
 split
 ·rename_i h
  have self:=zgU (x:=((ent W s.a).1+s.g,(ent W s.a).2 ++ [s])) hbT
  refine ⟨⟨by rw [List.length_set];exact k.len,fun p=>?_,fun p=>?_⟩,fun p=>?_,by rw [self];exact Int.le_refl _⟩
  ·by_cases z:s.b=p
   ·subst z;rw [self];have:=k.up s.b;show _<=(ent W s.a).1+s.g;omega
   ·rw [zd9 z];exact k.up p
  ·by_cases z:s.b=p
   ·subst z;right;exact ⟨s,hs,rfl,self,by rw [self];have:=k.up s.b;show _ < (ent W s.a).1+s.g;omega⟩
   ·rw [zd9 z];exact k.how p
  ·by_cases z:s.b=p
   ·subst z;rw [self];show _<=(ent W s.a).1+s.g;omega
   ·rw [zd9 z];exact Int.le_refl _
 ·rename_i h
  exact ⟨k,fun p=>Int.le_refl _,by omega⟩
theorem ze2 {W:Tab} {S:List Stp} (hS:∀ s ∈ S,s.b < W.length):∀ (R:List Stp) (T:Tab),(∀ s ∈ R,s ∈ S)->zfz W T S->zfz W (R.foldl (zcQ W) T) S/\(∀ p,(ent T p).1<=(ent (R.foldl (zcQ W) T) p).1)/\∀ s ∈ R,(ent W s.a).1+s.g<=(ent (R.foldl (zcQ W) T) s.b).1
 | [],T,_,k=>⟨k,fun _=>Int.le_refl _,fun s h=>by cases h⟩
 | s :: R,T,hR,k=>by
  obtain ⟨k1,u1,c1⟩:=zgV (hR s List.mem_cons_self) (hS s (hR s List.mem_cons_self)) k
  obtain ⟨k2,u2,c2⟩:=ze2 hS R (zcQ W T s) (fun x hx=>hR x (List.mem_cons_of_mem _ hx)) k1
  refine ⟨k2,fun p=>Int.le_trans (u1 p) (u2 p),fun x hx=>?_⟩
  rcases List.mem_cons.mp hx with rfl | hx
  ·exact Int.le_trans c1 (u2 x.b)
  ·exact c2 x hx
theorem zdT {W:Tab} {S:List Stp} (hS:∀ s ∈ S,s.b < W.length):zfz W (zih W S) S/\∀ s ∈ S,(ent W s.a).1+s.g<=(ent (zih W S) s.b).1:=by
 obtain ⟨k,_,c⟩:=ze2 hS S W (fun _ h=>h) ⟨rfl,fun _=>Int.le_refl _,fun _=>.inl rfl⟩
 exact ⟨k,c⟩
section
variable {n:Nat} {S:List Stp} (hS:∀ s ∈ S,s.a < n/\s.b < n)
include hS
theorem zcI:∀ t,(zaD n S t).length=n
 | 0=>by unfold zaD;rw [List.length_replicate]
 | t+1=>by
  unfold zaD
  rw [(zdT (fun s h=>by rw [zcI t];exact (hS s h).2)).1.len,zcI t]
theorem zbY (t:Nat):zfz (zaD n S t) (zaD n S (t+1)) S/\∀ s ∈ S,(ent (zaD n S t) s.a).1+s.g<=(ent (zaD n S (t+1)) s.b).1 :=
 zdT (fun s h=>by rw [zcI hS t];exact (hS s h).2)
theorem zdU (p:Nat):ent (zaD n S 0) p=(0,[]):=by
 unfold ent zaD
 rw [List.getD_eq_getElem?_getD,List.getElem?_replicate]
 split <;> rfl
theorem zdg:∀ t,(∀ p,(ent (zaD n S t) p).2.length<=t)/\(∀ p,0 < t->ent (zaD n S t) p ≠ ent (zaD n S (t - 1)) p->(ent (zaD n S t) p).2.length=t)
 | 0=>⟨fun p=>by rw [zdU hS];exact Nat.le_refl _,fun p h=>absurd h (Nat.lt_irrefl _)⟩
 | t+1=>by
  obtain ⟨h1,h2⟩:=zdg t
  obtain ⟨k,c⟩:=zbY hS t
  have key:∀ p,ent (zaD n S (t+1)) p ≠ ent (zaD n S t) p->(ent (zaD n S (t+1)) p).2.length=t+1:=fun p hne=>by
   rcases k.how p with e | ⟨s,hs,hb,e,lt⟩
   ·exact absurd e hne
   ·rw [e,List.length_append,List.length_singleton]
    congr 1
    cases t with
    | zero=>rw [zdU hS];rfl
    | succ t =>
     refine h2 s.a (Nat.succ_pos t) fun z=>?_
     obtain ⟨k0,c0⟩:=zbY hS t
     have:=c0 s hs
     rw [Nat.add_sub_cancel] at z
     rw [e,z,← hb] at lt
     exact absurd lt (by show ¬ _ < (ent (zaD n S t) s.a).1+s.g;omega)
  refine ⟨fun p=>?_,fun p _ hne=>key p (by rw [Nat.add_sub_cancel] at hne;exact hne)⟩
  by_cases z:ent (zaD n S (t+1)) p=ent (zaD n S t) p
  ·rw [z];exact Nat.le_succ_of_le (h1 p)
  ·rw [key p z];exact Nat.le_refl _
end
inductive Walk (S:List Stp):Nat->List Stp->Prop where
 | nil (p:Nat):Walk S p []
 | snoc {w:List Stp} {s:Stp} (hs:s ∈ S) (h:Walk S s.a w):Walk S s.b (w ++ [s])
def gain (w:List Stp):Int:=(w.map Stp.g).sum
theorem zii:gain []=0:=rfl
theorem zbx (u v:List Stp):gain (u ++ v)=gain u+gain v:=by unfold gain;rw [List.map_append,List.sum_append]
theorem zdh (s:Stp):gain [s]=s.g:=by unfold gain;simp
section
variable {n:Nat} {S:List Stp} (hS:∀ s ∈ S,s.a < n/\s.b < n)
include hS
theorem zc6:∀ t p,Walk S p (ent (zaD n S t) p).2/\gain (ent (zaD n S t) p).2=(ent (zaD n S t) p).1
 | 0,p=>by rw [zdU hS];exact ⟨.nil p,rfl⟩
 | t+1,p=>by
  rcases (zbY hS t).1.how p with e | ⟨s,hs,hb,e,_⟩
  ·rw [e];exact zc6 t p
  ·obtain ⟨h1,h2⟩:=zc6 t s.a
   rw [e,← hb]
   exact ⟨.snoc hs h1,by rw [zbx,zdh,h2]⟩
theorem zgW {t u:Nat} (h:t<=u) (p:Nat):(ent (zaD n S t) p).1<=(ent (zaD n S u) p).1:=by
 induction h with
 | refl=>exact Int.le_refl _
 | step _ ih=>exact Int.le_trans ih ((zbY hS _).1.up p)
theorem zk0 {p:Nat} {w:List Stp} (h:Walk S p w):∀ (t:Nat),w.length<=t->gain w<=(ent (zaD n S t) p).1:=by
 induction h with
 | nil p =>
  intro t _
  have:=zgW hS (Nat.zero_le t) p
  rw [zdU hS] at this
  exact this
 | @snoc w s hs h ih =>
  intro t hl
  rw [List.length_append,List.length_singleton] at hl
  obtain ⟨u,rfl⟩:∃ u,t=u+1:=⟨t - 1,by omega⟩
  have:=ih u (by omega)
  have:=(zbY hS u).2 s hs
  rw [zbx,zdh]
  omega
theorem zi6 {t:Nat} (h0:0 < t) (h:∀ p,p < n->(ent (zaD n S t) p).2.length ≠ t):∀ s ∈ S,(ent (zaD n S t) s.a).1+s.g<=(ent (zaD n S t) s.b).1:=fun s hs=>by
 obtain ⟨u,rfl⟩:∃ u,t=u+1:=⟨t - 1,by omega⟩
 have e:ent (zaD n S (u+1)) s.a=ent (zaD n S u) s.a:=Classical.byContradiction fun z=>h s.a (hS s hs).1 ((zdg hS (u+1)).2 s.a h0 z)
 rw [e]
 exact (zbY hS u).2 s hs
end
inductive Path (S:List Stp):Nat->List Stp->Nat->Prop where
 | nil (p:Nat):Path S p [] p
 | cons {s:Stp} {w:List Stp} {p:Nat} (hs:s ∈ S) (h:Path S s.b w p):Path S s.a (s :: w) p
section
variable {S:List Stp}
theorem Path.append {q m p:Nat} {u v:List Stp} (h1:Path S q u m) (h2:Path S m v p):Path S q (u ++ v) p:=by
 induction h1 with
 | nil p=>exact h2
 | cons hs h ih=>exact .cons hs (ih h2)
theorem Path.split {p:Nat} {v:List Stp}:∀ {u:List Stp} {q:Nat},Path S q (u ++ v) p->∃ m,Path S q u m/\Path S m v p
 | [],q,h=>⟨q,.nil q,h⟩
 | s :: u,q,h=>by
  cases h with
  | cons hs h =>
   obtain ⟨m,h1,h2⟩:=Path.split (u:=u) h
   exact ⟨m,.cons hs h1,h2⟩
theorem Path.mem {q p:Nat} {w:List Stp} (h:Path S q w p):∀ s ∈ w,s ∈ S:=by
 induction h with
 | nil p=>intro s h;cases h
 | cons hs h ih =>
  intro s hm
  rcases List.mem_cons.mp hm with rfl | hm
  ·exact hs
  ·exact ih s hm
theorem Walk.path {p:Nat} {w:List Stp} (h:Walk S p w):∃ q,Path S q w p:=by
 induction h with
 | nil p=>exact ⟨p,.nil p⟩
 | snoc hs h ih =>
  obtain ⟨q,hq⟩:=ih
  exact ⟨q,hq.append (.cons hs (.nil _))⟩
theorem Path.walk {p:Nat}:∀ {w:List Stp} {q:Nat},Path S q w p->∀ {u:List Stp},Walk S q u->Walk S p (u ++ w)
 | [],q,h,u,hu=>by cases h;rw [List.append_nil];exact hu
 | s :: w,q,h,u,hu=>by
  cases h with
  | cons hs h =>
   have:=Path.walk h (Walk.snoc hs hu)
   rw [List.append_assoc] at this
   exact this
theorem Path.head {q p:Nat} {s:Stp} {w:List Stp} (h:Path S q (s :: w) p):q=s.a:=by cases h;rfl
theorem Path.step {q p:Nat} {s:Stp} {w:List Stp} (h:Path S q (s :: w) p):s ∈ S/\Path S s.b w p:=by cases h with | cons hs h=>exact ⟨hs,h⟩
theorem Path.at {q p:Nat} {w:List Stp} (h:Path S q w p) {i:Nat} {s:Stp} (hi:w[i]?=some s):Path S q (w.take i) s.a/\Path S q (w.take (i+1)) s.b/\Path S s.b (w.drop (i+1)) p:=by
 have hl:i < w.length:=(List.getElem?_eq_some_iff.mp hi).1
 have e:w.drop i=s :: w.drop (i+1):=by
  rw [List.drop_eq_getElem_cons hl]
  congr 1
  exact (List.getElem?_eq_some_iff.mp hi).2
 have h':Path S q (w.take i ++ w.drop i) p:=by rw [List.take_append_drop];exact h
 obtain ⟨m,h1,h2⟩:=h'.split
 rw [e] at h2
 have hm:=h2.head
 subst hm
 obtain ⟨hs,h3⟩:=h2.step
 refine ⟨h1,?_,h3⟩
 rw [List.take_succ,hi]
 exact h1.append (.cons hs (.nil _))
theorem Path.next {q p:Nat} {w:List Stp} (h:Path S q w p) {i:Nat} {s t:Stp} (hi:w[i]?=some s) (hj:w[i+1]?=some t):t.a=s.b:=by
 obtain ⟨_,_,h3⟩:=h.at hi
 have hl:i+1 < w.length:=(List.getElem?_eq_some_iff.mp hj).1
 rw [List.drop_eq_getElem_cons hl] at h3
 rw [← (List.getElem?_eq_some_iff.mp hj).2]
 exact h3.head.symm
structure zhH (w:List Stp) (i j:Nat):Prop where
 ij:i<=j
 jl:j < w.length
 same:∀ s t,w[i]?=some s->w[j]?=some t->s.a=t.b
 first:∀ j' < j,∀ i' ≤ j',∀ s t,w[i']?=some s->w[j']?=some t->s.a ≠ t.b
def zk1 (w:List Stp):Prop:=∀ j < w.length,∀ i ≤ j,∀ s t,w[i]?=some s->w[j]?=some t->s.a ≠ t.b
theorem zmg {n:Nat} (hS:∀ s ∈ S,s.a < n/\s.b < n) {q p:Nat} {w:List Stp} (h:Path S q w p) (hl:n<=w.length) (h0:0 < n) : ¬ zk1 w:=fun hn=>by
 obtain ⟨s0,w0,rfl⟩:∃ s0 w0,w=s0 :: w0:=by
  cases w with
  | nil=>rw [List.length_nil] at hl;omega
  | cons a b=>exact ⟨a,b,rfl⟩
 let P:List Nat:=s0.a :: (s0 :: w0).map Stp.b
 have key:∀ k l:Nat,k < l->∀ x y:Nat,P[k]?=some x->P[l]?=some y->x ≠ y:=fun k l hkl x y hx hy=>by
  obtain ⟨l,rfl⟩:∃ m,l=m+1:=⟨l - 1,by omega⟩
  have hy:((s0 :: w0).map Stp.b)[l]?=some y:=hy
  rw [List.getElem?_map] at hy
  cases ht:(s0 :: w0)[l]? with
  | none=>rw [ht] at hy;cases hy
  | some t =>
  rw [ht] at hy
  cases hy
  have hll:l < (s0 :: w0).length:=(List.getElem?_eq_some_iff.mp ht).1
  obtain ⟨s,hs⟩:∃ s,(s0 :: w0)[k]?=some s:=⟨_,List.getElem?_eq_getElem (by omega)⟩
  have hxs:x=s.a:=by
   cases k with
   | zero=>cases hs;cases hx;rfl
   | succ k =>
    have hx:((s0 :: w0).map Stp.b)[k]?=some x:=hx
    rw [List.getElem?_map] at hx
    obtain ⟨r,hr⟩:∃ r,(s0 :: w0)[k]?=some r:=⟨_,List.getElem?_eq_getElem (by omega)⟩
    rw [hr] at hx
    cases hx
    exact (h.next hr hs).symm
  rw [hxs]
  exact hn l hll k (by omega) s t hs ht
 have nd:P.Nodup:=by
  rw [List.nodup_iff_pairwise_ne,List.pairwise_iff_getElem]
  intro k l hk hl2 hkl
  exact key k l hkl _ _ (List.getElem?_eq_getElem hk) (List.getElem?_eq_getElem hl2)
 have bound:∀ x ∈ P,x < n:=fun x hx=>by
  rcases List.mem_cons.mp hx with rfl | hx
  ·exact (hS s0 h.step.1).1
  ·obtain ⟨s,hs,rfl⟩:=List.mem_map.mp hx
   exact (hS s (h.mem s hs)).2
 have le:P.length<=n:=by
  have:=List.Nodup.length_le_of_subset nd (l₂:=List.range n) fun x hx=>List.mem_range.mpr (bound x hx)
  rwa [List.length_range] at this
 have:P.length=(s0 :: w0).length+1:=by show ((s0 :: w0).map Stp.b).length+1=_;rw [List.length_map]
 omega
theorem zi7 {n:Nat} (hS:∀ s ∈ S,s.a < n/\s.b < n) (h0:0 < n) {p:Nat} (hw:(ent (zaD n S n) p).2.length=n) {i j:Nat} (r:zhH (ent (zaD n S n) p).2 i j) :
  ∃ x,Path S x (((ent (zaD n S n) p).2.take (j+1)).drop i) x/\0 < gain (((ent (zaD n S n) p).2.take (j+1)).drop i):=by
 obtain ⟨hwk,hg⟩:=zc6 hS n p
 generalize hW:(ent (zaD n S n) p).2=w at hw r hwk hg ⊢
 obtain ⟨q,hp⟩:=hwk.path
 have hij:=r.ij
 have hjl:=r.jl
 obtain ⟨s,hs⟩:∃ s,w[i]?=some s:=⟨_,List.getElem?_eq_getElem (by omega)⟩
 obtain ⟨t,ht⟩:∃ t,w[j]?=some t:=⟨_,List.getElem?_eq_getElem hjl⟩
 have hst:=r.same s t hs ht
 obtain ⟨a1,a2,a3⟩:=hp.at hs
 obtain ⟨b1,b2,b3⟩:=hp.at ht
 have e1:w.take (j+1)=w.take i ++ (w.take (j+1)).drop i:=by
  have:=(List.take_append_drop i (w.take (j+1))).symm
  rw [List.take_take,Nat.min_eq_left (by omega)] at this
  exact this
 rw [e1] at b2
 obtain ⟨m,c1,c2⟩:=b2.split
 have hm:m=s.a:=by
  have e2:(w.take (j+1)).drop i=s :: (w.take (j+1)).drop (i+1):=by
   rw [List.drop_eq_getElem_cons (by rw [List.length_take];omega)]
   congr 1
   rw [List.getElem_take]
   exact (List.getElem?_eq_some_iff.mp hs).2
  rw [e2] at c2
  exact c2.head
 subst hm
 rw [← hst] at c2 b3
 refine ⟨s.a,c2,?_⟩
 have hsh:Path S q (w.take i ++ w.drop (j+1)) p:=a1.append b3
 have hshw:=hsh.walk (u:=[]) (.nil q)
 rw [List.nil_append] at hshw
 have hlen:(w.take i ++ w.drop (j+1)).length<=n - 1:=by rw [List.length_append,List.length_take,List.length_drop];omega
 have most:=zk0 hS hshw (n - 1) hlen
 have hgw:gain w=gain (w.take i)+gain ((w.take (j+1)).drop i)+gain (w.drop (j+1)):=by
  rw [← zbx,← e1,← zbx,List.take_append_drop]
 rw [zbx] at most
 have lt:(ent (zaD n S (n - 1)) p).1 < (ent (zaD n S n) p).1:=by
  obtain ⟨k,_⟩:=zbY hS (n - 1)
  rw [Nat.sub_add_cancel h0] at k
  rcases k.how p with e | ⟨_,_,_,_,lt⟩
  ·have:=(zdg hS (n - 1)).1 p
   rw [← e,hW,hw] at this
   omega
  ·exact lt
 omega
theorem zhI {q p:Nat} {w:List Stp} (h:Path S q w p) {i j:Nat} (r:zhH w i j):(((w.take (j+1)).drop i).map Stp.a).Nodup:=by
 rw [List.nodup_iff_pairwise_ne,List.pairwise_iff_getElem]
 intro k l hk hl hkl
 have hij:=r.ij
 have hjl:=r.jl
 simp only [List.length_map,List.length_drop,List.length_take] at hk hl
 simp only [List.getElem_map,List.getElem_drop,List.getElem_take]
 obtain ⟨m,rfl⟩:∃ m,l=m+1:=⟨l - 1,by omega⟩
 have e1:w[i+m]?=some w[i+m]:=List.getElem?_eq_getElem (by omega)
 have e2:w[i+m+1]?=some w[i+(m+1)]:=List.getElem?_eq_getElem (by omega)
 have e3:w[i+k]?=some w[i+k]:=List.getElem?_eq_getElem (by omega)
 rw [h.next e1 e2]
 exact r.first (i+m) (by omega) (i+k) (by omega) _ _ e3 e1
end
def hadO (f:Int × Int->Int) (i:Nat):Option Int->Int
 | none=>0
 | some t=>f ((i:Int),t)
def plF (n:Nat):Option Int->Nat
 | none=>n
 | some t=>t.toNat
def unpl (n b:Nat):Option Int:=if b=n then none else some (b:Int)
def totF (f:Int × Int->Int) (k:Nat):List (Option Int)->Int
 | []=>0
 | o :: r=>hadO f k o+totF f (k+1) r
theorem zij (f:Int × Int->Int) {o':Option Int}:∀ {d:List (Option Int)} {k i:Nat} {o:Option Int},d[i]?=some o->totF f k (d.set i o')=totF f k d+hadO f (k+i) o' - hadO f (k+i) o
 | [],_,_,_,h=>by cases h
 | x :: d,k,0,o,h=>by
  cases h
  show hadO f k o'+totF f (k+1) d=hadO f k x+totF f (k+1) d+hadO f k o' - hadO f k x
  omega
 | x :: d,k,i+1,o,h=>by
  rw [List.set_cons_succ]
  unfold totF
  rw [zij f (d:=d) (k:=k+1) (i:=i) (o:=o) (by simpa using h),show k+1+i=k+(i+1) by omega]
  omega
theorem zgX {o' x:Option Int}:∀ {d:List (Option Int)} {i:Nat} {o:Option Int},d[i]?=some o->(((d.set i o').count x:Nat):Int)=(d.count x:Nat)+(if o'=x then 1 else 0) - (if o=x then 1 else 0)
 | [],_,_,h=>by cases h
 | y :: d,0,o,h=>by
  cases h
  rw [List.set_cons_zero,List.count_cons,List.count_cons]
  by_cases h1:o'=x <;> by_cases h2:y=x <;> simp [h1,h2] <;> omega
 | y :: d,i+1,o,h=>by
  have ih:=zgX (o':=o') (x:=x) (d:=d) (i:=i) (o:=o) (by simpa using h)
  rw [List.set_cons_succ,List.count_cons,List.count_cons]
  omega
structure zcp (cs:List Int) (qs:List (Int × Int)) (m:Nat) (ws:List (Option Int)):Prop where
 len:ws.length=m
 wish:∀ (i:Nat) t,ws[i]?=some (some t)->((i:Int),t) ∈ qs
 cop:∀ (k:Nat) c,cs[k]?=some c->((ws.count (some (k:Int)):Nat):Int)<=c
structure zc7 (n m:Nat) (qs:List (Int × Int)):Prop where
 nd:qs.Nodup
 lo:∀ q ∈ qs,0<=q.1/\q.1 < m/\0<=q.2/\q.2 < n
inductive IsSt (cs:List Int) (f:Int × Int->Int) (qs:List (Int × Int)) (ws:List (Option Int)):Stp->Prop where
 | mv {i:Nat} {o o':Option Int} (h:ws[i]?=some o) (hne:o' ≠ o) (hq:∀ t,o'=some t->((i:Int),t) ∈ qs):IsSt cs f qs ws ⟨plF cs.length o,plF cs.length o',hadO f i o' - hadO f i o,some i⟩
 | left {t:Nat} {c:Int} (h:cs[t]?=some c) (hl:((ws.count (some (t:Int)):Nat):Int) < c):IsSt cs f qs ws ⟨t,cs.length,0,none⟩
 | give {t:Nat} (h:t < cs.length):IsSt cs f qs ws ⟨cs.length,t,0,none⟩
def app (n:Nat) (d:List (Option Int)) (s:Stp):List (Option Int):=match s.w with
 | some i=>d.set i (unpl n s.b)
 | none=>d
def nIn (t:Nat) (R:List Stp):Nat:=(R.filter fun s=>s.w.isSome && s.b == t).length
def nOut (t:Nat) (R:List Stp):Nat:=(R.filter fun s=>s.w.isSome && s.a == t).length
section
variable {cs:List Int} {f:Int × Int->Int} {qs:List (Int × Int)} {m:Nat} {ws:List (Option Int)}
theorem zpJ (hp:zc7 cs.length m qs) {i:Nat} {o:Option Int} (h:∀ t,o=some t->((i:Int),t) ∈ qs):unpl cs.length (plF cs.length o)=o:=by
 cases o with
 | none=>unfold unpl plF;rw [if_pos rfl]
 | some t =>
  have:=hp.lo _ (h t rfl)
  show (if t.toNat=cs.length then none else some ((t.toNat:Nat):Int))=some t
  rw [if_neg (by omega)]
  congr 1
  omega
theorem zik (hp:zc7 cs.length m qs) {i:Nat} {o:Option Int} {t:Nat} (ht:t < cs.length) (h:∀ t,o=some t->((i:Int),t) ∈ qs):plF cs.length o=t ↔ o=some (t:Int):=by
 cases o with
 | none=>exact ⟨fun e=>by have e:cs.length=t:=e;omega,fun e=>by cases e⟩
 | some u =>
  have:=hp.lo _ (h u rfl)
  show u.toNat=t ↔ _
  constructor
  ·intro e;congr 1;omega
  ·intro e;cases e;omega
theorem zet (hp:zc7 cs.length m qs) (hd:zcp cs qs m ws):∀ (R:List Stp) (d:List (Option Int)),(∀ s ∈ R,IsSt cs f qs ws s)->(R.map Stp.a).Nodup->(∀ s ∈ R,∀ i,s.w=some i->d[i]?=ws[i]?)->d.length=ws.length->(∀ (i:Nat) t,d[i]?=some (some t)->((i:Int),t) ∈ qs) ->
  totF f 0 (R.foldl (app cs.length) d)=totF f 0 d+gain R/\(R.foldl (app cs.length) d).length=ws.length/\(∀ (i:Nat) t,(R.foldl (app cs.length) d)[i]?=some (some t)->((i:Int),t) ∈ qs) /\
  ∀ t,t < cs.length->(((R.foldl (app cs.length) d).count (some (t:Int)):Nat):Int)=(d.count (some (t:Int)):Nat)+(nIn t R:Nat) - (nOut t R:Nat)
 | [],d,_,_,_,hl,hq=>⟨by show _=_+gain [];rw [zii];show totF f 0 d=_;omega,hl,hq,fun t _=>by show ((d.count _:Nat):Int)=_+((0:Nat):Int) - ((0:Nat):Int);omega⟩
 | s :: R,d,hR,hn,ha,hl,hq=>by
  rw [List.map_cons,List.nodup_cons] at hn
  have hgc:gain (s :: R)=s.g+gain R:=by show gain ([s] ++ R)=_;rw [zbx,zdh]
  rw [List.foldl_cons,hgc]
  cases hR s List.mem_cons_self with
  | @mv i o o' h hne hq' =>
   have hdi:d[i]?=some o:=(ha _ List.mem_cons_self i rfl).trans h
   have ho:∀ t,o=some t->((i:Int),t) ∈ qs:=fun t e=>hd.wish i t (by rw [h,e])
   have hil:i < d.length:=(List.getElem?_eq_some_iff.mp hdi).1
   have eapp:app cs.length d ⟨plF cs.length o,plF cs.length o',hadO f i o' - hadO f i o,some i⟩=d.set i o':=by
    show d.set i (unpl cs.length (plF cs.length o'))=_
    rw [zpJ hp hq']
   rw [eapp]
   obtain ⟨k1,k2,k3,k4⟩:=zet hp hd R (d.set i o') (fun s hs=>hR s (List.mem_cons_of_mem _ hs)) hn.2 (fun s hs j hj=>by
    have hji:i ≠ j:=fun z=>by
     subst z
     cases hR s (List.mem_cons_of_mem _ hs) with
     | @mv i2 o2 o2' h2 _ _ =>
      cases hj
      rw [h] at h2
      cases h2
      exact hn.1 (List.mem_map.mpr ⟨_,hs,rfl⟩)
     | left _ _=>cases hj
     | give _=>cases hj
    rw [List.getElem?_set_ne hji]
    exact ha s (List.mem_cons_of_mem _ hs) j hj) (by rw [List.length_set];exact hl) (fun j t e=>by
    by_cases z:i=j
    ·subst z
     rw [List.getElem?_set_self hil] at e
     cases e
     exact hq' t rfl
    ·rw [List.getElem?_set_ne z] at e;exact hq j t e)
   refine ⟨?_,k2,k3,fun t ht=>?_⟩
   ·rw [k1,zij f hdi,Nat.zero_add]
    show _=totF f 0 d+((hadO f i o' - hadO f i o)+gain R)
    omega
   ·rw [k4 t ht,zgX hdi]
    have e1:(if o'=some (t:Int) then (1:Int) else 0)=if plF cs.length o'=t then 1 else 0:=by
     by_cases z:o'=some (t:Int)
     ·rw [if_pos z,if_pos ((zik hp ht hq').mpr z)]
     ·rw [if_neg z,if_neg (fun y=>z ((zik hp ht hq').mp y))]
    have e2:(if o=some (t:Int) then (1:Int) else 0)=if plF cs.length o=t then 1 else 0:=by
     by_cases z:o=some (t:Int)
     ·rw [if_pos z,if_pos ((zik hp ht ho).mpr z)]
     ·rw [if_neg z,if_neg (fun y=>z ((zik hp ht ho).mp y))]
    have e3:∀ (x:Nat),((nIn t (⟨plF cs.length o,plF cs.length o',hadO f i o' - hadO f i o,some i⟩ :: R):Nat):Int)=(if plF cs.length o'=t then 1 else 0)+(nIn t R:Nat):=fun x=>by
     unfold nIn
     rw [List.filter_cons]
     by_cases z:plF cs.length o'=t
     ·rw [if_pos z,if_pos (by simp [z]),List.length_cons];omega
     ·rw [if_neg z,if_neg (by simp [z])];omega
    have e4:∀ (x:Nat),((nOut t (⟨plF cs.length o,plF cs.length o',hadO f i o' - hadO f i o,some i⟩ :: R):Nat):Int)=(if plF cs.length o=t then 1 else 0)+(nOut t R:Nat):=fun x=>by
     unfold nOut
     rw [List.filter_cons]
     by_cases z:plF cs.length o=t
     ·rw [if_pos z,if_pos (by simp [z]),List.length_cons];omega
     ·rw [if_neg z,if_neg (by simp [z])];omega
    rw [e1,e2,e3 0,e4 0]
    omega
  | left _ _ =>
   obtain ⟨k1,k2,k3,k4⟩:=zet hp hd R d (fun s hs=>hR s (List.mem_cons_of_mem _ hs)) hn.2 (fun s hs=>ha s (List.mem_cons_of_mem _ hs)) hl hq
   refine ⟨?_,k2,k3,k4⟩
   show totF f 0 (R.foldl _ d)=totF f 0 d+(0+gain R)
   rw [k1];omega
  | give _ =>
   obtain ⟨k1,k2,k3,k4⟩:=zet hp hd R d (fun s hs=>hR s (List.mem_cons_of_mem _ hs)) hn.2 (fun s hs=>ha s (List.mem_cons_of_mem _ hs)) hl hq
   refine ⟨?_,k2,k3,k4⟩
   show totF f 0 (R.foldl _ d)=totF f 0 d+(0+gain R)
   rw [k1];omega
theorem zmJ (t:Nat):∀ R:List Stp,nIn t R<=(R.map Stp.b).count t
 | []=>Nat.le_refl _
 | s :: R=>by
  have ih:=zmJ t R
  unfold nIn at ih ⊢
  rw [List.filter_cons,List.map_cons,List.count_cons]
  split
  ·rename_i h
   rw [Bool.and_eq_true] at h
   rw [List.length_cons,if_pos h.2]
   omega
  ·omega
theorem zmh (hp:zc7 cs.length m qs) (hd:zcp cs qs m ws) {R:List Stp} (hR:∀ s ∈ R,IsSt cs f qs ws s) (hn:(R.map Stp.a).Nodup) (hb:(R.map Stp.b).Perm (R.map Stp.a)):zcp cs qs m (R.foldl (app cs.length) ws)/\totF f 0 (R.foldl (app cs.length) ws)=totF f 0 ws+gain R:=by
 obtain ⟨k1,k2,k3,k4⟩:=zet hp hd R ws hR hn (fun s hs i e=>rfl) rfl hd.wish
 refine ⟨⟨by rw [k2];exact hd.len,k3,fun t c hc=>?_⟩,k1⟩
 have ht:t < cs.length:=(List.getElem?_eq_some_iff.mp hc).1
 rw [k4 t ht]
 have h0:=hd.cop t c hc
 have h1:(R.map Stp.a).count t<=1:=List.nodup_iff_count.mp hn t
 have h2:=zmJ t R
 rw [hb.count_eq] at h2
 by_cases z:nIn t R=0
 ·omega
 ·have hin:nIn t R=1:=by omega
  have hmem:t ∈ R.map Stp.a:=List.count_pos_iff.mp (by omega)
  obtain ⟨s,hs,hst⟩:=List.mem_map.mp hmem
  cases hR s hs with
  | @mv i o o' h hne hq' =>
   have:1<=nOut t R:=by
    unfold nOut
    exact List.length_pos_iff.mpr (List.ne_nil_of_mem (List.mem_filter.mpr ⟨hs,by simpa using hst⟩))
   omega
  | @left u c' h hl =>
   have hst:u=t:=hst
   subst hst
   rw [h] at hc
   cases hc
   omega
  | @give u h =>
   have hst:cs.length=t:=hst
   omega
end
theorem znC {S:List Stp} {q p:Nat} {w:List Stp} (h:Path S q w p):w.map Stp.a ++ [p]=q :: w.map Stp.b:=by
 induction h with
 | nil p=>rfl
 | cons hs h ih=>rw [List.map_cons,List.map_cons,List.cons_append,ih]
theorem zi8 {S:List Stp} {x:Nat} {w:List Stp} (h:Path S x w x):(w.map Stp.b).Perm (w.map Stp.a):=by
 have e:=znC h
 have p1:(w.map Stp.a ++ [x]).Perm (x :: w.map Stp.a):=List.perm_append_comm
 rw [e] at p1
 exact List.Perm.cons_inv p1
def zen (f:Int × Int->Int) (V:Nat->Int) (qs:List (Int × Int)) (i:Int):Int:=qs.foldl (fun a q=>if q.1=i then max a (f q - V q.2.toNat) else a) 0
theorem zdi (f:Int × Int->Int) (V:Nat->Int) (i:Int):∀ (qs:List (Int × Int)) (a:Int),a<=qs.foldl (fun a q=>if q.1=i then max a (f q - V q.2.toNat) else a) a /\
  (∀ q ∈ qs,q.1=i->f q - V q.2.toNat<=qs.foldl (fun a q=>if q.1=i then max a (f q - V q.2.toNat) else a) a) /\
  ∀ B,a<=B->(∀ q ∈ qs,q.1=i->f q - V q.2.toNat<=B)->qs.foldl (fun a q=>if q.1=i then max a (f q - V q.2.toNat) else a) a<=B
 | [],a=>⟨Int.le_refl _,(fun q h=>by cases h),fun B h _=>h⟩
 | q :: qs,a=>by
  rw [List.foldl_cons]
  obtain ⟨h1,h2,h3⟩:=zdi f V i qs (if q.1=i then max a (f q - V q.2.toNat) else a)
  have hb:a<=(if q.1=i then max a (f q - V q.2.toNat) else a):=by split <;> omega
  refine ⟨Int.le_trans hb h1,fun p hp e=>?_,fun B ha hB=>h3 B ?_ fun p hp=>hB p (List.mem_cons_of_mem _ hp)⟩
  ·rcases List.mem_cons.mp hp with rfl | hp
   ·rw [if_pos e] at h1 ⊢
    omega
   ·exact h2 p hp e
  ·have:=hB q List.mem_cons_self
   split
   ·rename_i e
    have:=this e
    omega
   ·exact ha
theorem zgY {f:Int × Int->Int} {ps:List Int}:∀ (ws:List (Option Int)) (k:Nat) (A:Nat->Int),(∀ (j:Nat) o,ws[j]?=some o->A (k+j)=hadO f (k+j) o - (match o with | some t=>ps.getD t.toNat 0 | none=>0))->((List.range' k ws.length).map A).sum=totF f k ws - pz ps ws
 | [],k,A,_=>by show (0:Int)=0 - 0;omega
 | o :: ws,k,A,h=>by
  rw [List.length_cons,List.range'_succ,List.map_cons,List.sum_cons,zgY ws (k+1) A fun j o' e=>by
   have:=h (j+1) o' (by simpa using e)
   rw [show k+1+j=k+(j+1) by omega]
   exact this]
  have h0:=h 0 o rfl
  rw [Nat.add_zero] at h0
  rw [h0]
  cases o with
  | none=>show hadO f k none - 0+(totF f (k+1) ws - pz ps ws)=hadO f k none+totF f (k+1) ws - (0+pz ps ws);omega
  | some t=>show hadO f k (some t) - ps.getD t.toNat 0+(totF f (k+1) ws - pz ps ws)=hadO f k (some t)+totF f (k+1) ws - (ps.getD t.toNat 0+pz ps ws);omega
section
variable {cs:List Int} {f:Int × Int->Int} {qs:List (Int × Int)} {m:Nat} {ws:List (Option Int)} {S:List Stp}
theorem IsSt.lt (hp:zc7 cs.length m qs) (hd:zcp cs qs m ws) {s:Stp} (h:IsSt cs f qs ws s):s.a < cs.length+1/\s.b < cs.length+1:=by
 have key:∀ {i:Nat} {o:Option Int},(∀ t,o=some t->((i:Int),t) ∈ qs)->plF cs.length o < cs.length+1:=fun {i o} h=>by
  cases o with
  | none=>exact Nat.lt_succ_self _
  | some t=>have:=hp.lo _ (h t rfl);show t.toNat < _;omega
 cases h with
 | mv h hne hq=>exact ⟨key fun t e=>hd.wish _ t (by rw [h,e]),key hq⟩
 | left h hl=>have:=(List.getElem?_eq_some_iff.mp h).1;exact ⟨Nat.lt_succ_of_lt this,Nat.lt_succ_self _⟩
 | give h=>exact ⟨Nat.lt_succ_self _,Nat.lt_succ_of_lt h⟩
theorem zmi {V:Nat->Int} (still:∀ s ∈ S,V s.a+s.g<=V s.b) {q p:Nat} {w:List Stp} (h:Path S q w p):V q+gain w<=V p:=by
 induction h with
 | nil p=>rw [zii];omega
 | @cons s w p hs h ih =>
  have:=still s hs
  have e:gain (s :: w)=s.g+gain w:=by show gain ([s] ++ w)=_;rw [zbx,zdh]
  omega
theorem zmj (hp:zc7 cs.length m qs) (hd:zcp cs qs m ws) (hin:∀ s ∈ S,IsSt cs f qs ws s) (hall:∀ s,IsSt cs f qs ws s->s ∈ S) {V:Nat->Int} (hV:∀ p,V p=(ent (zaD (cs.length+1) S (cs.length+1)) p).1)
  (still:∀ p,p < cs.length+1->(ent (zaD (cs.length+1) S (cs.length+1)) p).2.length ≠ cs.length+1) :
  OkP cs.length m (fun a b=>f (a,b)) qs 1 ((List.range m).map fun i:Nat=>zen f V qs (i:Int)) ((List.range cs.length).map V)/\zgT cs ((List.range m).map fun i:Nat=>zen f V qs (i:Int)) ((List.range cs.length).map V)=totF f 0 ws:=by
 have hS:∀ s ∈ S,s.a < cs.length+1/\s.b < cs.length+1:=fun s hs=>(hin s hs).lt hp hd
 have st:∀ s ∈ S,V s.a+s.g<=V s.b:=fun s hs=>by rw [hV,hV];exact zi6 hS (Nat.succ_pos _) still s hs
 have v0:∀ p,0<=V p:=fun p=>by
  have:=zgW hS (Nat.zero_le (cs.length+1)) p
  rw [zdU hS] at this
  rw [hV]
  exact this
 have vn:V cs.length=0:=by
  obtain ⟨hw,hg⟩:=zc6 hS (cs.length+1) cs.length
  obtain ⟨q,hq⟩:=hw.path
  have h1:=zmi st hq
  rw [hg,← hV] at h1
  have h2:=v0 q
  by_cases z:q=cs.length
  ·rw [z] at h1 h2;omega
  ·have hql:q < cs.length:=by
    cases hw2:(ent (zaD (cs.length+1) S (cs.length+1)) cs.length).2 with
    | nil=>rw [hw2] at hq;cases hq;exact absurd rfl z
    | cons s w =>
     rw [hw2] at hq
     have:=(hS s hq.step.1).1
     rw [← hq.head] at this
     omega
   have h3:=st _ (hall _ (.give hql))
   have h3:V cs.length+0<=V q:=h3
   have:=v0 cs.length
   omega
 have psD:∀ k,k < cs.length->((List.range cs.length).map V).getD k 0=V k:=fun k hk=>by
  rw [List.getD_eq_getElem?_getD,List.getElem?_map,List.getElem?_range hk]
  rfl
 have ask:∀ (i:Nat) o,ws[i]?=some o->zen f V qs (i:Int)=hadO f i o - (match o with | some t=>((List.range cs.length).map V).getD t.toNat 0 | none=>0):=fun i o h=>by
  obtain ⟨a1,a2,a3⟩:=zdi f V (i:Int) qs 0
  cases o with
  | none =>
   have:zen f V qs (i:Int)<=0:=a3 0 (Int.le_refl _) fun q hq e=>by
    have h1:=st _ (hall _ (.mv (f:=f) h (o':=some q.2) (by intro z;cases z) fun t et=>by cases et;rw [← e];exact hq))
    have h1:V cs.length+(f ((i:Int),q.2) - 0)<=V q.2.toNat:=h1
    rw [← e] at h1
    have:f (q.1,q.2)=f q:=rfl
    omega
   show zen f V qs (i:Int)=0 - 0
   have:0<=zen f V qs (i:Int):=a1
   omega
  | some t =>
   have hq:=hd.wish i t h
   have hb:=hp.lo _ hq
   have hup:=st _ (hall _ (.mv (f:=f) h (o':=none) (by intro z;cases z) fun t et=>by cases et))
   have hup:V t.toNat+(0 - f ((i:Int),t))<=V cs.length:=hup
   show zen f V qs (i:Int)=f ((i:Int),t) - ((List.range cs.length).map V).getD t.toNat 0
   rw [psD t.toNat (by omega)]
   have lo:f ((i:Int),t) - V t.toNat<=zen f V qs (i:Int):=a2 _ hq rfl
   have hi:zen f V qs (i:Int)<=f ((i:Int),t) - V t.toNat:=a3 _ (by omega) fun q hq e=>by
    by_cases z:q.2=t
    ·have:q=((i:Int),t):=by rw [← e,← z]
     rw [this]
     exact Int.le_refl _
    ·have h1:=st _ (hall _ (.mv (f:=f) h (o':=some q.2) (by intro y;cases y;exact z rfl) fun t et=>by cases et;rw [← e];exact hq))
     have h1:V t.toNat+(f ((i:Int),q.2) - f ((i:Int),t))<=V q.2.toNat:=h1
     have:f (((i:Int)),q.2)=f q:=by rw [← e]
     omega
   omega
 refine ⟨⟨by decide,by rw [List.length_map,List.length_range],by rw [List.length_map,List.length_range],fun a ha=>?_,fun p hp'=>?_,fun q hq=>?_⟩,?_⟩
 ·obtain ⟨i,_,rfl⟩:=List.mem_map.mp ha
  exact (zdi f V (i:Int) qs 0).1
 ·obtain ⟨i,_,rfl⟩:=List.mem_map.mp hp'
  exact v0 i
 ·have hb:=hp.lo q hq
  rw [psD q.2.toNat (by omega),List.getD_eq_getElem?_getD,List.getElem?_map,List.getElem?_range (by omega)]
  have h2:=(zdi f V q.1 qs 0).2.1 q hq rfl
  show 1 * f q<=zen f V qs ((q.1.toNat:Nat):Int)+V q.2.toNat
  have e:((q.1.toNat:Nat):Int)=q.1:=by omega
  rw [e]
  have h2:f q - V q.2.toNat<=zen f V qs q.1:=h2
  omega
 ·unfold zgT
  rw [List.range_eq_range' (n:=m),← hd.len,zgY (f:=f) (ps:=(List.range cs.length).map V) ws 0 (fun i:Nat=>zen f V qs (i:Int)) fun j o e=>by rw [Nat.zero_add];exact ask j o e]
  have hth:∀ t,some t ∈ ws->0<=t/\t < cs.length:=fun t ht=>by
   obtain ⟨i,hi⟩:=List.mem_iff_getElem?.mp ht
   have:=hp.lo _ (hd.wish i t hi)
   exact ⟨this.2.2.1,this.2.2.2⟩
  rw [ze1 ws hth,zd8 _ _ (by rw [List.length_map,List.length_range])]
  have e:sumF cs.length (fun k=>cs.getD k 0 * ((List.range cs.length).map V).getD k 0)=sumF cs.length fun k=>((ws.count (some (k:Int)):Nat):Int) * ((List.range cs.length).map V).getD k 0:=zcH fun k hk=>by
   rw [psD k hk]
   have hc:cs[k]?=some (cs.getD k 0):=by rw [List.getD_eq_getElem?_getD,List.getElem?_eq_getElem hk];rfl
   have hle:=hd.cop k _ hc
   by_cases z:((ws.count (some (k:Int)):Nat):Int)=cs.getD k 0
   ·rw [z]
   ·have h1:=st _ (hall _ (.left (f:=f) (qs:=qs) hc (by omega)))
    have h1:V k+0<=V cs.length:=h1
    have:=v0 k
    have hz:V k=0:=by omega
    rw [hz,Int.mul_zero,Int.mul_zero]
  rw [e]
  omega
end
def askD:Option Nat->D
 | some i=>.int i
 | none=>.none
def stpD (s:Stp):D:=.tuple [.int s.a,.int s.b,.int s.g,askD s.w]
def zdV (x:Int × List Stp):D:=.tuple [.int x.1,.list (x.2.map stpD)]
def uncV (V:Int->Int->Int) (q:Int × Int):Int:=V q.1 q.2
def stA1 (n:Nat) (f:Int × Int->Int) (ws:List (Option Int)):List Stp:=(List.range ws.length).filterMap fun i=>match ws.getD i none with
 | none=>none
 | some t=>some ⟨t.toNat,n, -(hadO f i (some t)),some i⟩
def stA2 (n:Nat) (f:Int × Int->Int) (qs:List (Int × Int)) (ws:List (Option Int)):List Stp:=qs.filterMap fun q=>if ws.getD q.1.toNat none ≠ some q.2 then some ⟨plF n (ws.getD q.1.toNat none),q.2.toNat,f q - hadO f q.1.toNat (ws.getD q.1.toNat none),some q.1.toNat⟩ else none
def stC1 (cs:List Int) (ws:List (Option Int)):List Stp:=(List.range cs.length).filterMap fun t=>if 0 < cs.getD t 0 - ((ws.count (some (t:Int)):Nat):Int) then some ⟨t,cs.length,0,none⟩ else none
def stC2 (n:Nat):List Stp:=(List.range n).map fun t=>⟨n,t,0,none⟩
def zea (cs:List Int) (f:Int × Int->Int) (qs:List (Int × Int)) (ws:List (Option Int)):List Stp:=stA1 cs.length f ws ++ stA2 cs.length f qs ws ++ (stC1 cs ws ++ stC2 cs.length)
theorem zk2 {m j:Nat} {h h':Nat->Int} (hj:j < m) (e:∀ i,i ≠ j->h' i=h i):(((List.range m).map h).map PyData.int).set j (.int (h' j))=((List.range m).map h').map PyData.int:=by
 apply List.ext_getElem?
 intro i
 by_cases z:j=i
 ·subst z
  rw [List.getElem?_set_self (by rw [List.length_map,List.length_map,List.length_range];exact hj),List.getElem?_map,List.getElem?_map,List.getElem?_range hj]
  rfl
 ·rw [List.getElem?_set_ne z,List.getElem?_map,List.getElem?_map,List.getElem?_map,List.getElem?_map]
  by_cases hi:i < m
  ·rw [List.getElem?_range hi]
   show some (PyData.int (h i))=some (PyData.int (h' i))
   rw [e i fun y=>z y.symm]
  ·rw [List.getElem?_eq_none (by rw [List.length_range];omega)]
   rfl
theorem zil {m:Nat} {h:Nat->Int} {j:Nat} (hj:j < m):oIx (.list (((List.range m).map h).map PyData.int)) (.int (j:Int))=some (.int (h j)):=zaW (by rw [List.getElem?_map,List.getElem?_map,List.getElem?_range hj];rfl)
section
variable {cs:List Int} {ls:List (List (List Int))} {ws:List (Option Int)} {V:Int->Int->Int} {qs:List (Int × Int)}
theorem zhJ {n:Nat} {o:Option Int} (h:∀ t,o=some t->0<=t):F_al [.int n,optD o]=some (.int (plF n o)):=by
 refine zbf (ρ:=[some (.pub (.int n)),some (.pub (optD o))]) rfl ?_
 unfold g_al
 cases o with
 | none=>exact zaJ (zmC (zaK (k:=isNon) (x:=PyData.none) (zad rfl)) (zad rfl)) rfl
 | some t =>
  refine zaJ (zmD (zaK (k:=isNon) (x:=PyData.int t) (zad rfl)) (zad rfl)) ?_
  have:=h t rfl
  show Out.rt (.int t)=Out.rt (.int ((t.toNat:Nat):Int))
  rw [show ((t.toNat:Nat):Int)=t by omega]
def zcs (V:Int->Int->Int) (ws:List (Option Int)) (qs:List (Int × Int)) (i:Nat):Int:=match ws.getD i none with
 | none=>0
 | some t=>if ((i:Int),t) ∈ qs then V i t else 0
theorem zhK {k:Int} (h0:0<=k) (h1:k < ws.length):oIx (zaG ws) (.int k)=some (optD (ws.getD k.toNat none)):=by
 obtain ⟨j,rfl⟩:∃ j:Nat,k=j:=⟨k.toNat,by omega⟩
 refine zaW ?_
 rw [List.getElem?_map,Int.toNat_natCast,List.getD_eq_getElem?_getD,List.getElem?_eq_getElem (by omega)]
 rfl
theorem zim {i:Nat} {o:Option Int} (h:ws[i]?=some o):ws.getD i none=o:=by rw [List.getD_eq_getElem?_getD,h];rfl
theorem zk3 (hp:zc7 cs.length ws.length qs) (hd:zcp cs qs ws.length ws) (hm:ws.length<=1000) (hq1:qs.length<=1000):F_am [.int (cs.length:Nat),.list (qs.map (zcy V)),zaG ws]=some (.list ((stA1 cs.length (uncV V) ws ++ stA2 cs.length (uncV V) qs ws).map stpD)):=by
 refine zbf (ρ:=[some (.pub (.int (cs.length:Nat))),some (.pub (.list (qs.map (zcy V)))),some (.pub (zaG ws)),none,none,none,none,none]) rfl ?_
 unfold g_am
 have hlen:oLen [zaG ws]=some (.int ws.length):=by show oLen [.list (ws.map optD)]=_;rw [zaE,List.length_map]
 have pos:∀ i t,ws.getD i none=some t->i < ws.length/\((i:Int),t) ∈ qs:=fun i t e=>by
  by_cases hi:i < ws.length
  ·rw [List.getD_eq_getElem?_getD,List.getElem?_eq_getElem hi] at e
   exact ⟨hi,hd.wish i t (by rw [List.getElem?_eq_getElem hi];exact congrArg some e)⟩
  ·rw [List.getD_eq_getElem?_getD,List.getElem?_eq_none (by omega)] at e;cases e
 refine zar (zbk (znu (n:=ws.length) (zba (zab zag zai) (of_decide_eq_true rfl)) (zbu rfl hlen) hm) (of_decide_eq_true rfl) rfl) ?_
 apply zaU
 apply zbJ (fun k ρ=>∃ x4 x5 x6,ρ = [some (.pub (.int (cs.length:Nat))),some (.pub (.list (qs.map (zcy V)))),some (.pub (zaG ws)),some (.own (((List.range ws.length).map (zcs V ws (qs.take k))).map PyData.int)),x4,x5,x6,none])
 case h1=>exact zaT (zad rfl) zbw
 case h0 =>
  refine ⟨none,none,none,?_⟩
  have e:((List.range ws.length).map (zcs V ws (qs.take 0))).map PyData.int=List.replicate ws.length (.int 0):=by
   rw [List.eq_replicate_iff]
   refine ⟨by rw [List.length_map,List.length_map,List.length_range],fun b hb=>?_⟩
   obtain ⟨x,hx,rfl⟩:=List.mem_map.mp hb
   obtain ⟨i,_,rfl⟩:=List.mem_map.mp hx
   unfold zcs
   split
   ·rfl
   ·rw [if_neg (by rw [List.take_zero];simp)]
  rw [e]
  rfl
 case hst =>
  rintro k d ρ hk ⟨x4,x5,x6,rfl⟩
  rw [List.getElem?_map] at hk
  cases hq:qs[k]? with
  | none=>rw [hq] at hk;cases hk
  | some q =>
  rw [hq] at hk
  cases hk
  have hb:=hp.lo q (List.mem_of_getElem? hq)
  refine ⟨_,tg_T rfl (tg_C (tg_N (of_decide_eq_true rfl) rfl) (tg_C (tg_N (of_decide_eq_true rfl) rfl) (tg_C (tg_N (of_decide_eq_true rfl) rfl) tg_0))),?_⟩
  unfold zkE
  have hta:qs.take (k+1)=qs.take k ++ [q]:=by rw [List.take_succ,hq];rfl
  apply zbe
  case h1=>exact zap (zaY rfl (zad rfl) (zhK hb.1 hb.2.1)) (zad rfl) (zoS (b:=some q.2))
  case h2 =>
   intro hh
   have hh:ws.getD q.1.toNat none=some q.2:=of_decide_eq_true hh
   refine za4 (zc4 (zad rfl) rfl (zad rfl) rfl ⟨hb.1,by rw [List.length_map,List.length_map,List.length_range];exact hb.2.1⟩ rfl) (zaO ⟨some (.pub (.int q.1)),some (.pub (.int q.2)),some (.pub (.int (V q.1 q.2))),?_⟩)
   have e:=zk2 (m:=ws.length) (j:=q.1.toNat) (h:=zcs V ws (qs.take k)) (h':=zcs V ws (qs.take (k+1))) (by omega) fun i hne=>by
    unfold zcs
    cases ws.getD i none with
    | none=>rfl
    | some t =>
     dsimp only
     rw [hta]
     by_cases z:((i:Int),t) ∈ qs.take k
     ·rw [if_pos z,if_pos (List.mem_append_left _ z)]
     ·rw [if_neg z,if_neg]
      intro y
      rcases List.mem_append.mp y with y | y
      ·exact z y
      ·have:=List.mem_singleton.mp y
       rw [← this] at hne
       exact hne (by show i=((i:Int)).toNat;rw [Int.toNat_natCast])
   have ev:zcs V ws (qs.take (k+1)) q.1.toNat=V q.1 q.2:=by
    unfold zcs
    rw [hh]
    have ei:((q.1.toNat:Nat):Int)=q.1:=by omega
    dsimp only
    rw [ei,if_pos (by rw [hta];exact List.mem_append_right _ (by simp))]
   rw [ev] at e
   rw [← e]
   rfl
  case h3 =>
   intro hh
   have hh : ¬ ws.getD q.1.toNat none=some q.2:=of_decide_eq_false hh
   refine zbI (zaO ⟨some (.pub (.int q.1)),some (.pub (.int q.2)),some (.pub (.int (V q.1 q.2))),?_⟩)
   have e:(List.range ws.length).map (zcs V ws (qs.take (k+1)))=(List.range ws.length).map (zcs V ws (qs.take k)):=List.map_congr_left fun i _=>by
    unfold zcs
    cases hw:ws.getD i none with
    | none=>rfl
    | some t =>
     dsimp only
     rw [hta]
     by_cases z:((i:Int),t) ∈ qs.take k
     ·rw [if_pos z,if_pos (List.mem_append_left _ z)]
     ·rw [if_neg z,if_neg]
      intro y
      rcases List.mem_append.mp y with y | y
      ·exact z y
      ·have y:=List.mem_singleton.mp y
       rw [← y] at hh
       exact hh (by show ws.getD ((i:Int)).toNat none=some t;rw [Int.toNat_natCast];exact hw)
   rw [e]
   rfl
 case hend =>
  rintro ρ ⟨x4,x5,x6,rfl⟩
  refine zaw ?_
  have hth:qs.take (qs.map (zcy V)).length=qs:=by rw [List.length_map,List.take_length]
  rw [hth]
  have hadE:∀ i,zcs V ws qs i=hadO (uncV V) i (ws.getD i none):=fun i=>by
   unfold zcs
   cases hw:ws.getD i none with
   | none=>rfl
   | some t=>exact if_pos (pos i t hw).2
  have hc:∀ y4 y5 y6 y7:Option Sl,zbl (gT 2 (gNC (gN 8) (gNC (gN 9) (gN0)))) (mMap (fun d=>!isNon d) (dVar 9)) (mTup (zae (dVar 9) (zae (dVar 0) (zae (dNeg (dIxN 3 (dVar 8))) (zae (dVar 8) (mNil)))))) (zcr 0 (ws.map optD)) ([some (.pub (.int (cs.length:Nat))),some (.pub (.list (qs.map (zcy V)))),some (.pub (zaG ws)),some (.pub (.list (((List.range ws.length).map (zcs V ws qs)).map PyData.int))),y4,y5,y6,y7] ++ List.replicate 2 none) []=some ((stA1 cs.length (uncV V) ws).map stpD):=by
   intro y4 y5 y6 y7
   have em:(stA1 cs.length (uncV V) ws).map stpD=((List.range ws.length).map fun i=>(match ws.getD i none with | none=>none | some t=>some (stpD ⟨t.toNat,cs.length, -(hadO (uncV V) i (some t)),some i⟩):Option D)).filterMap id:=by
    unfold stA1
    rw [List.map_filterMap,List.filterMap_map]
    congr 1
    funext i
    dsimp only [Function.comp,id]
    cases ws.getD i none <;> rfl
   rw [em]
   refine zcG (fun ρ=>∃ z4 z5 z6 z7 x y,ρ = [some (.pub (.int (cs.length:Nat))),some (.pub (.list (qs.map (zcy V)))),some (.pub (zaG ws)),some (.pub (.list (((List.range ws.length).map (zcs V ws qs)).map PyData.int))),z4,z5,z6,z7,x,y]) _ _ _ _ (by rw [List.length_map,List.length_range,zax,List.length_map]) ?_ ⟨y4,y5,y6,y7,none,none,rfl⟩ (by rw [zax,List.length_map,List.length_nil];omega)
   rintro i d e hdd he ρ ⟨z4,z5,z6,z7,x,y,rfl⟩
   obtain ⟨z,hz,rfl⟩:=zbE hdd
   rw [List.getElem?_map] at hz
   cases hw:ws[i]? with
   | none=>rw [hw] at hz;cases hz
   | some o =>
   rw [hw] at hz
   cases hz
   have hil:i < ws.length:=(List.getElem?_eq_some_iff.mp hw).1
   have hg:=zim hw
   rw [List.getElem?_map,List.getElem?_range hil] at he
   have he:some (match ws.getD i none with | none=>none | some t=>some (stpD ⟨t.toNat,cs.length, -(hadO (uncV V) i (some t)),some i⟩):Option D)=some e:=he
   rw [hg] at he
   cases he
   rw [Nat.zero_add]
   refine ⟨_,tg_T rfl (tg_C (tg_N (of_decide_eq_true rfl) rfl) (tg_C (tg_N (of_decide_eq_true rfl) rfl) tg_0)),?_,?_,_,_,_,_,_,_,rfl⟩
   ·cases o with
    | none=>exact zaK (k:=fun d=>!isNon d) (x:=PyData.none) (zad rfl)
    | some t=>exact zaK (k:=fun d=>!isNon d) (x:=PyData.int t) (zad rfl)
   ·intro v hv
    cases o with
    | none=>cases hv
    | some t =>
     cases hv
     have hb:=hp.lo _ (pos i t hg).2
     have et:((t.toNat:Nat):Int)=t:=by have:=hb.2.2.1;omega
     show _=Res.ok (PyData.tuple [.int ((t.toNat:Nat):Int),.int ((cs.length:Nat):Int),.int (-(hadO (uncV V) i (some t))),.int (i:Nat)]) _
     rw [et,show hadO (uncV V) i (some t)=zcs V ws qs i by rw [hadE,hg]]
     exact zcC (zab (zad rfl) (zab (zad rfl) (zab (zeP (zaY rfl (zad rfl) (zil hil))) (zab (zad rfl) zai)))) (of_decide_eq_true rfl)
  have nlS:∀ S:List Stp,(S.map stpD).all nl0=true:=fun S=>List.all_eq_true.mpr fun d hd=>by
   obtain ⟨s,_,rfl⟩:=List.mem_map.mp hd
   obtain ⟨a,b,g,w⟩:=s
   cases w <;> rfl
  have hcl:∀ x4 x5 x6:Option Sl,zdn (zcm (zcY (zae (dVar 2) (mNil))) 2 (gT 2 (gNC (gN 8) (gNC (gN 9) (gN0)))) (mMap (fun d=>!isNon d) (dVar 9)) (mTup (zae (dVar 9) (zae (dVar 0) (zae (dNeg (dIxN 3 (dVar 8))) (zae (dVar 8) (mNil))))))) [some (.pub (.int (cs.length:Nat))),some (.pub (.list (qs.map (zcy V)))),some (.pub (zaG ws)),some (.own (((List.range ws.length).map (zcs V ws qs)).map PyData.int)),x4,x5,x6,none]=.ok ((stA1 cs.length (uncV V) ws).map stpD) [some (.pub (.int (cs.length:Nat))),some (.pub (.list (qs.map (zcy V)))),some (.pub (zaG ws)),some (.own (((List.range ws.length).map (zcs V ws qs)).map PyData.int)),x4,x5,x6,none]:=fun x4 x5 x6 =>
   zma (ρ':=zb7 [some (.pub (.int (cs.length:Nat))),some (.pub (.list (qs.map (zcy V)))),some (.pub (zaG ws)),some (.own (((List.range ws.length).map (zcs V ws qs)).map PyData.int)),x4,x5,x6,none]) (zbC (zca (zab (zad rfl) zai) zbM) (hc _ _ _ _)) (nlS _)
  refine zar (zbk (hcl _ _ _) (of_decide_eq_true rfl) rfl) ?_
  apply zaU
  apply zbJ (fun k ρ=>∃ x4 x5 x6,ρ = [some (.pub (.int (cs.length:Nat))),some (.pub (.list (qs.map (zcy V)))),some (.pub (zaG ws)),some (.own (((List.range ws.length).map (zcs V ws qs)).map PyData.int)),x4,x5,x6,some (.own ((stA1 cs.length (uncV V) ws ++ stA2 cs.length (uncV V) (qs.take k) ws).map stpD))])
  case h1=>exact zaT (zad rfl) zbw
  case h0=>exact ⟨_,_,_,by rw [List.take_zero];show _=[_,_,_,_,_,_,_,some (Sl.own ((stA1 cs.length (uncV V) ws ++ []).map stpD))];rw [List.append_nil];rfl⟩
  case hst =>
   rintro k d ρ hk ⟨x4,x5,x6,rfl⟩
   rw [List.getElem?_map] at hk
   cases hq:qs[k]? with
   | none=>rw [hq] at hk;cases hk
   | some q =>
   rw [hq] at hk
   cases hk
   have hb:=hp.lo q (List.mem_of_getElem? hq)
   have hta:qs.take (k+1)=qs.take k ++ [q]:=by rw [List.take_succ,hq];rfl
   have hkl:k < qs.length:=(List.getElem?_eq_some_iff.mp hq).1
   have hsz:((stA1 cs.length (uncV V) ws ++ stA2 cs.length (uncV V) (qs.take k) ws).map stpD).length < 1000000:=by
    rw [List.length_map,List.length_append]
    have h1:(stA1 cs.length (uncV V) ws).length<=ws.length:=by unfold stA1;have:=List.length_filterMap_le (fun i=>match ws.getD i none with | none=>none | some t=>some (⟨t.toNat,cs.length, -(hadO (uncV V) i (some t)),some i⟩:Stp)) (List.range ws.length);rw [List.length_range] at this;exact this
    have h2:(stA2 cs.length (uncV V) (qs.take k) ws).length<=qs.length:=by unfold stA2;refine Nat.le_trans (List.length_filterMap_le _ _) ?_;rw [List.length_take];omega
    omega
   refine ⟨_,tg_T rfl (tg_C (tg_N (of_decide_eq_true rfl) rfl) (tg_C (tg_N (of_decide_eq_true rfl) rfl) (tg_C (tg_N (of_decide_eq_true rfl) rfl) tg_0))),?_⟩
   unfold zkD
   have e2:∀ r:List Stp,stA2 cs.length (uncV V) [q] ws=r->stA2 cs.length (uncV V) (qs.take (k+1)) ws=stA2 cs.length (uncV V) (qs.take k) ws ++ r:=fun r hr=>by rw [hta];unfold stA2 at hr ⊢;rw [List.filterMap_append,hr]
   apply zbe
   case h1=>exact zap (zaY rfl (zad rfl) (zhK hb.1 hb.2.1)) (zad rfl) (zoT (b:=some q.2))
   case h2 =>
    intro hh
    have hh : ¬ ws.getD q.1.toNat none=some q.2:=by simpa using hh
    have hpl:F_al [.int (cs.length:Nat),optD (ws.getD q.1.toNat none)]=some (.int (plF cs.length (ws.getD q.1.toNat none))):=zhJ fun t e=>by have:=hp.lo _ (pos _ t e).2;exact this.2.2.1
    refine za4 (zdE rfl (zcC (zab (zay (zab (zad rfl) (zab (zaY rfl (zad rfl) (zhK hb.1 hb.2.1)) zai)) rfl hpl) (zab (zad rfl) (zab (zap (zad rfl) (zhV rfl (zad rfl) rfl (show oIx _ (.int q.1)=some (.int (zcs V ws qs q.1.toNat)) from by have:=zil (m:=ws.length) (h:=zcs V ws qs) (j:=q.1.toNat) (by omega);rw [show ((q.1.toNat:Nat):Int)=q.1 by omega] at this;exact this)) zfK) (zab (zad rfl) zai)))) (of_decide_eq_true rfl)) rfl hsz rfl) (zaO ⟨some (.pub (.int q.1)),some (.pub (.int q.2)),some (.pub (.int (V q.1 q.2))),?_⟩)
    have er:stA2 cs.length (uncV V) [q] ws=[⟨plF cs.length (ws.getD q.1.toNat none),q.2.toNat,uncV V q - hadO (uncV V) q.1.toNat (ws.getD q.1.toNat none),some q.1.toNat⟩]:=by
     unfold stA2
     rw [List.filterMap_cons,if_pos hh]
     rfl
    rw [e2 _ er,← List.append_assoc,List.map_append (l₂:=[_])]
    show _=[_,_,_,_,_,_,_,some (Sl.own (_ ++ [PyData.tuple [_,.int ((q.2.toNat:Nat):Int),.int (uncV V q - hadO (uncV V) q.1.toNat (ws.getD q.1.toNat none)),.int ((q.1.toNat:Nat):Int)]]))]
    rw [show ((q.2.toNat:Nat):Int)=q.2 by omega,show ((q.1.toNat:Nat):Int)=q.1 by omega,← hadE]
    rfl
   case h3 =>
    intro hh
    have hh:ws.getD q.1.toNat none=some q.2:=by simpa using hh
    refine zbI (zaO ⟨some (.pub (.int q.1)),some (.pub (.int q.2)),some (.pub (.int (V q.1 q.2))),?_⟩)
    have er:stA2 cs.length (uncV V) [q] ws=[]:=by
     unfold stA2
     rw [List.filterMap_cons,if_neg (by rw [hh];simp)]
     rfl
    rw [e2 _ er,List.append_nil]
    rfl
  case hend =>
   rintro ρ ⟨x4,x5,x6,rfl⟩
   rw [hth]
   exact zaw (zaJ (zbt rfl rfl) rfl)
end
section
variable {cs:List Int} {ls:List (List (List Int))} {ws:List (Option Int)} {V:Int->Int->Int} {qs:List (Int × Int)}
theorem zk4 (g:Good cs ls) (hm:ws.length=ls.length):F_an [zaz cs ls,zaG ws]=some (.list ((stC1 cs ws ++ stC2 cs.length).map stpD)):=by
 refine zbf (ρ:=[some (.pub (zaz cs ls)),some (.pub (zaG ws)),none,none,none]) rfl ?_
 unfold g_an
 have c6:=g.c6
 have hlc:oLen [.list (cs.map PyData.int)]=some (.int cs.length):=by rw [zaE,List.length_map]
 refine zar (zaS (zaQ (zab (zaY rfl zag zem) zai) hlc) (of_decide_eq_true rfl) rfl) ?_
 refine zar (zaS (zay (zab (zad rfl) (zab (zad rfl) zai)) rfl (zfd g)) (of_decide_eq_true rfl) rfl) ?_
 have hll:(zdQ cs ws).length=cs.length:=by unfold zdQ;rw [List.length_map,List.length_range]
 have hc:zbl (gT 2 (gNC (gN 5) (gNC (gN 6) (gN0)))) (zby (oIB fun i j=>decide (j < i)) 6 (zah (.int 0))) (mTup (zae (dVar 5) (zae (dVar 2) (zae (zah (.int 0)) (zae (zah .none) (mNil)))))) (zcr 0 ((zdQ cs ws).map PyData.int)) (zaH [some (.pub (zaz cs ls)),some (.pub (zaG ws)),some (.pub (.int cs.length)),some (.pub (.list ((zdQ cs ws).map PyData.int))),none] ++ List.replicate 2 none) []=some ((stC1 cs ws).map stpD):=by
  have em:(stC1 cs ws).map stpD=((List.range cs.length).map fun t=>(if 0 < cs.getD t 0 - ((ws.count (some (t:Int)):Nat):Int) then some (stpD ⟨t,cs.length,0,none⟩) else none:Option D)).filterMap id:=by
   unfold stC1
   rw [List.map_filterMap,List.filterMap_map]
   congr 1
   funext i
   dsimp only [Function.comp,id]
   split <;> rfl
  rw [em]
  refine zcG (fun ρ=>∃ x y,ρ = [some (.pub (zaz cs ls)),some (.pub (zaG ws)),some (.pub (.int cs.length)),some (.pub (.list ((zdQ cs ws).map PyData.int))),none,x,y]) _ _ _ _ (by rw [List.length_map,List.length_range,zax,List.length_map,hll]) ?_ ⟨none,none,rfl⟩ (by rw [zax,List.length_map,hll,List.length_nil];omega)
  rintro i d e hd he ρ ⟨x,y,rfl⟩
  obtain ⟨z,hz,rfl⟩:=zbE hd
  rw [List.getElem?_map] at hz
  have hil:i < cs.length:=by
   rw [← hll]
   cases hw:(zdQ cs ws)[i]? with
   | none=>rw [hw] at hz;cases hz
   | some v=>exact (List.getElem?_eq_some_iff.mp hw).1
  have hlv:(zdQ cs ws)[i]?=some (cs.getD i 0 - ((ws.count (some (i:Int)):Nat):Int)):=by unfold zdQ;rw [List.getElem?_map,List.getElem?_range hil];rfl
  rw [hlv] at hz
  cases hz
  rw [List.getElem?_map,List.getElem?_range hil] at he
  cases he
  rw [Nat.zero_add]
  refine ⟨_,tg_T rfl (tg_C (tg_N (of_decide_eq_true rfl) rfl) (tg_C (tg_N (of_decide_eq_true rfl) rfl) tg_0)),?_,?_,_,_,rfl⟩
  ·have e:(if 0 < cs.getD i 0 - ((ws.count (some (i:Int)):Nat):Int) then some (stpD ⟨i,cs.length,0,none⟩) else none:Option D).isSome=decide (0 < cs.getD i 0 - ((ws.count (some (i:Int)):Nat):Int)):=by
    by_cases h:0 < cs.getD i 0 - ((ws.count (some (i:Int)):Nat):Int)
    ·rw [if_pos h,decide_eq_true h];rfl
    ·rw [if_neg h,decide_eq_false h];rfl
   rw [e]
   exact zbB rfl zag rfl
  ·intro v hv
   dsimp only at hv
   split at hv
   ·cases hv
    exact zcC (zab (zad rfl) (zab (zad rfl) (zab zag (zab zag zai)))) (of_decide_eq_true rfl)
   ·cases hv
 refine zar (zbk (zbC (zca (zab (zad rfl) zai) zbM) hc) (of_decide_eq_true rfl) rfl) ?_
 have hrl:(zbp 0 (cs.length:Int)).length=cs.length:=by rw [za0];omega
 have hc2:∀ x4:Option Sl,zbl (gN 5) (zah true) (mTup (zae (dVar 2) (zae (dVar 5) (zae (zah (.int 0)) (zae (zah .none) (mNil)))))) (zbp 0 (cs.length:Int)) (zaH [some (.pub (zaz cs ls)),some (.pub (zaG ws)),some (.pub (.int cs.length)),some (.pub (.list ((zdQ cs ws).map PyData.int))),x4] ++ List.replicate 1 none) []=some ((stC2 cs.length).map stpD):=fun x4=>by
  refine zb6 (fun ρ=>∃ z x,ρ = [some (.pub (zaz cs ls)),some (.pub (zaG ws)),some (.pub (.int cs.length)),some (.pub (.list ((zdQ cs ws).map PyData.int))),z,x]) _ _ _ _ (by unfold stC2;rw [List.length_map,List.length_map,List.length_range,hrl]) ?_ ⟨_,none,rfl⟩ (by rw [hrl,List.length_nil];omega)
  rintro i d e hd he ρ ⟨z,x,rfl⟩
  obtain ⟨rfl,hlt⟩:=zbL hd
  unfold stC2 at he
  rw [List.getElem?_map,List.getElem?_map,List.getElem?_range (by omega)] at he
  cases he
  rw [Int.zero_add]
  exact ⟨_,tg_N (of_decide_eq_true rfl) rfl,rfl,zcC (zab (zad rfl) (zab (zad rfl) (zab zag (zab zag zai)))) (of_decide_eq_true rfl),_,_,rfl⟩
 have h1:(stC1 cs ws).length<=cs.length:=by unfold stC1;have:=List.length_filterMap_le (fun t=>if 0 < cs.getD t 0 - ((ws.count (some (t:Int)):Nat):Int) then some (⟨t,cs.length,0,none⟩:Stp) else none) (List.range cs.length);rw [List.length_range] at this;exact this
 have h2:(stC2 cs.length).length=cs.length:=by unfold stC2;rw [List.length_map,List.length_range]
 refine zaJ (zap (zbt rfl rfl) (zaK (zbC (zcN (zab (zad rfl) zai) (zck (by omega) (by omega))) (hc2 _))) (zbv (by rw [List.length_map,List.length_map];omega))) ?_
 rw [List.map_append]
theorem zgZ (g:Good cs ls) (hm:ws.length=ls.length) (hp:zc7 cs.length ws.length qs) (hd:zcp cs qs ws.length ws) (hq1:qs.length<=1000):F_ao [zaz cs ls,.list (qs.map (zcy V)),zaG ws]=some (.list ((zea cs (uncV V) qs ws).map stpD)):=by
 refine zbf (ρ:=[some (.pub (zaz cs ls)),some (.pub (.list (qs.map (zcy V)))),some (.pub (zaG ws))]) rfl ?_
 unfold g_ao
 have c6:=g.c6;have l7:=g.l7
 have hlc:oLen [.list (cs.map PyData.int)]=some (.int (cs.length:Nat)):=by rw [zaE,List.length_map]
 have h1:(stA1 cs.length (uncV V) ws).length<=ws.length:=by unfold stA1;have:=List.length_filterMap_le (fun i=>match ws.getD i none with | none=>none | some t=>some (⟨t.toNat,cs.length, -(hadO (uncV V) i (some t)),some i⟩:Stp)) (List.range ws.length);rw [List.length_range] at this;exact this
 have h2:(stA2 cs.length (uncV V) qs ws).length<=qs.length:=by unfold stA2;exact List.length_filterMap_le _ _
 have h3:(stC1 cs ws).length<=cs.length:=by unfold stC1;have:=List.length_filterMap_le (fun t=>if 0 < cs.getD t 0 - ((ws.count (some (t:Int)):Nat):Int) then some (⟨t,cs.length,0,none⟩:Stp) else none) (List.range cs.length);rw [List.length_range] at this;exact this
 have h4:(stC2 cs.length).length=cs.length:=by unfold stC2;rw [List.length_map,List.length_range]
 refine zaJ (zap (zay (zab (zaQ (zab (zaY rfl zag zem) zai) hlc) (zab (zad rfl) (zab (zad rfl) zai))) rfl (zk3 hp hd (by omega) hq1)) (zay (zab (zad rfl) (zab (zad rfl) zai)) rfl (zk4 g hm)) (zbv (by rw [List.length_map,List.length_map,List.length_append,List.length_append];omega))) ?_
 unfold zea
 rw [List.map_append (l₁:=stA1 cs.length (uncV V) ws ++ stA2 cs.length (uncV V) qs ws)]
theorem zf3 {m:Nat} {f:Int × Int->Int} (hp:zc7 cs.length m qs) (hd:zcp cs qs m ws):∀ s ∈ zea cs f qs ws,IsSt cs f qs ws s:=fun s hs=>by
 have gt:∀ {i:Nat} {o:Option Int},i < ws.length->ws.getD i none=o->ws[i]?=some o:=fun {i o} hi e=>by
  rw [List.getD_eq_getElem?_getD,List.getElem?_eq_getElem hi] at e
  rw [List.getElem?_eq_getElem hi]
  exact congrArg some e
 unfold zea at hs
 rcases List.mem_append.mp hs with hs | hs
 ·rcases List.mem_append.mp hs with hs | hs
  ·unfold stA1 at hs
   obtain ⟨i,hi,e⟩:=List.mem_filterMap.mp hs
   have hi:=List.mem_range.mp hi
   cases hw:ws.getD i none with
   | none=>rw [hw] at e;cases e
   | some t =>
    rw [hw] at e
    have e:=Option.some.inj e
    subst e
    have:=IsSt.mv (cs:=cs) (f:=f) (qs:=qs) (gt hi hw) (o':=none) (by intro z;cases z) (fun t e=>by cases e)
    have e2:hadO f i none - hadO f i (some t) = -(hadO f i (some t)):=by show 0 - _=_;omega
    rw [e2] at this
    exact this
  ·unfold stA2 at hs
   obtain ⟨q,hq,e⟩:=List.mem_filterMap.mp hs
   have hb:=hp.lo q hq
   split at e
   ·rename_i hne
    have e:=Option.some.inj e
    subst e
    have hi:q.1.toNat < ws.length:=by rw [hd.len];omega
    have ei:((q.1.toNat:Nat):Int)=q.1:=by omega
    have:=IsSt.mv (cs:=cs) (f:=f) (qs:=qs) (gt hi rfl) (o':=some q.2) (fun z=>hne z.symm) (fun t e=>by cases e;rw [ei];exact hq)
    have e2:hadO f q.1.toNat (some q.2)=f q:=by show f (((q.1.toNat:Nat):Int),q.2)=_;rw [ei]
    rw [e2] at this
    exact this
   ·cases e
 ·rcases List.mem_append.mp hs with hs | hs
  ·unfold stC1 at hs
   obtain ⟨t,ht,e⟩:=List.mem_filterMap.mp hs
   have ht:=List.mem_range.mp ht
   split at e
   ·rename_i hl
    have e:=Option.some.inj e
    subst e
    exact .left (c:=cs.getD t 0) (by rw [List.getD_eq_getElem?_getD,List.getElem?_eq_getElem ht];rfl) (by omega)
   ·cases e
  ·unfold stC2 at hs
   obtain ⟨t,ht,rfl⟩:=List.mem_map.mp hs
   exact .give (List.mem_range.mp ht)
theorem zk5 {m:Nat} {f:Int × Int->Int} (hp:zc7 cs.length m qs) (hd:zcp cs qs m ws):∀ s,IsSt cs f qs ws s->s ∈ zea cs f qs ws:=fun s hs=>by
 unfold zea
 cases hs with
 | @mv i o o' h hne hq =>
  have hi:i < ws.length:=(List.getElem?_eq_some_iff.mp h).1
  have hg:=zim h
  refine List.mem_append_left _ ?_
  cases o' with
  | none =>
   refine List.mem_append_left _ ?_
   cases o with
   | none=>exact absurd rfl hne
   | some t =>
    unfold stA1
    refine List.mem_filterMap.mpr ⟨i,List.mem_range.mpr hi,?_⟩
    rw [hg]
    show some (⟨t.toNat,cs.length, -(hadO f i (some t)),some i⟩:Stp)=some ⟨t.toNat,cs.length,0 - hadO f i (some t),some i⟩
    rw [show (0:Int) - hadO f i (some t) = -(hadO f i (some t)) by omega]
  | some t =>
   refine List.mem_append_right _ ?_
   have hqt:=hq t rfl
   have hb:=hp.lo _ hqt
   unfold stA2
   refine List.mem_filterMap.mpr ⟨((i:Int),t),hqt,?_⟩
   dsimp only
   rw [Int.toNat_natCast,hg,if_pos (fun z=>hne z.symm)]
   rfl
 | @left t c h hl =>
  refine List.mem_append_right _ (List.mem_append_left _ ?_)
  have ht:t < cs.length:=(List.getElem?_eq_some_iff.mp h).1
  unfold stC1
  refine List.mem_filterMap.mpr ⟨t,List.mem_range.mpr ht,?_⟩
  have e:cs.getD t 0=c:=by rw [List.getD_eq_getElem?_getD,h];rfl
  rw [e,if_pos (by omega)]
 | @give t h =>
  refine List.mem_append_right _ (List.mem_append_right _ ?_)
  unfold stC2
  exact List.mem_map.mpr ⟨t,List.mem_range.mpr h,rfl⟩
end
theorem zk6 {W:Tab} {p:Nat} (h:p < W.length):oIx (.list (W.map zdV)) (.int (p:Int))=some (zdV (ent W p)):=by
 refine zaW ?_
 unfold ent
 rw [List.getElem?_map,List.getD_eq_getElem?_getD,List.getElem?_eq_getElem h]
 rfl
theorem zk7 {W:Tab} {S:List Stp} (hS:∀ s ∈ S,s.a < W.length/\s.b < W.length) (hW:∀ p,(ent W p).2.length<=1000) (hl:W.length<=1000):F_ap [.list (W.map zdV),.list (S.map stpD)]=some (.list ((zih W S).map zdV)):=by
 refine zbf (ρ:=[some (.pub (.list (W.map zdV))),some (.pub (.list (S.map stpD))),none,none,none,none,none,none,none,none]) rfl ?_
 unfold g_ap
 refine zar (zbk (zes rfl (show zc1 [.list (W.map zdV)]=some (W.map zdV) from rfl)) (of_decide_eq_true rfl) rfl) ?_
 apply zaU
 apply zbJ (fun k ρ=>∃ x3 x4 x5 x6 x7 x8 x9,ρ = [some (.pub (.list (W.map zdV))),some (.pub (.list (S.map stpD))),some (.own (((S.take k).foldl (zcQ W) W).map zdV)),x3,x4,x5,x6,x7,x8,x9])
 case h1=>exact zaT (zad rfl) zbw
 case h0=>exact ⟨_,_,_,_,_,_,_,rfl⟩
 case hst =>
  rintro k d ρ hk ⟨x3,x4,x5,x6,x7,x8,x9,rfl⟩
  rw [List.getElem?_map] at hk
  cases hq:S[k]? with
  | none=>rw [hq] at hk;cases hk
  | some s =>
  rw [hq] at hk
  cases hk
  have hs:=hS s (List.mem_of_getElem? hq)
  have hta:S.take (k+1)=S.take k ++ [s]:=by rw [List.take_succ,hq];rfl
  have hfl:(S.take (k+1)).foldl (zcQ W) W=zcQ W ((S.take k).foldl (zcQ W) W) s:=by rw [hta,List.foldl_append];rfl
  have hTl:∀ (R:List Stp) (T:Tab),(R.foldl (zcQ W) T).length=T.length:=fun R=>by
   induction R with
   | nil=>intro T;rfl
   | cons x R ih=>intro T;rw [List.foldl_cons,ih,zkZ]
  generalize hT:(S.take k).foldl (zcQ W) W=T at hfl ⊢
  have hTlen:T.length=W.length:=by rw [← hT,hTl]
  refine ⟨_,tg_N (of_decide_eq_true rfl) rfl,?_⟩
  unfold zkF
  refine zar (zfp (zad rfl) (tg_T rfl (tg_C (tg_N (of_decide_eq_true rfl) rfl) (tg_C (tg_N (of_decide_eq_true rfl) rfl) (tg_C (tg_N (of_decide_eq_true rfl) rfl) (tg_C (tg_N (of_decide_eq_true rfl) rfl) tg_0)))))) ?_
  refine zar (zfp (zaY rfl (zad rfl) (zk6 hs.1)) (tg_T rfl (tg_C (tg_N (of_decide_eq_true rfl) rfl) (tg_C (tg_N (of_decide_eq_true rfl) rfl) tg_0)))) ?_
  have i0:oIx (zdV (ent T s.b)) (.int 0)=some (.int (ent T s.b).1):=zaW (j:=0) rfl
  apply zbe
  case h1=>exact zap (zap (zad rfl) (zad rfl) zbb) (zap (zhV rfl (zad rfl) rfl (zk6 (by rw [hTlen];exact hs.2))) zag i0) rfl
  case h2 =>
   intro hh
   have hh:(ent T s.b).1 < (ent W s.a).1+s.g:=of_decide_eq_true hh
   have hadd:oAdd (.list ((ent W s.a).2.map stpD)) (.list [stpD s])=some (.list (((ent W s.a).2 ++ [s]).map stpD)):=by
    rw [zbv (by rw [List.length_map];have:=hW s.a;show _+1<=_;omega),List.map_append];rfl
   refine za4 (zc4 (zcC (zab (zap (zad rfl) (zad rfl) zbb) (zab (zap (zad rfl) (zba (zab (zad rfl) zai) (of_decide_eq_true rfl)) hadd) zai)) (of_decide_eq_true rfl)) rfl (zad rfl) rfl ⟨Int.natCast_nonneg _,by rw [List.length_map,hTlen];have:=hs.2;omega⟩ rfl) (zaO ⟨some (.pub (stpD s)),some (.pub (.int s.a)),some (.pub (.int s.b)),some (.pub (.int s.g)),some (.pub (askD s.w)),some (.pub (.int (ent W s.a).1)),some (.pub (.list ((ent W s.a).2.map stpD))),?_⟩)
   rw [hfl]
   unfold zcQ
   rw [if_pos hh,List.map_set]
   show [_,_,some (Sl.own ((T.map zdV).set ((s.b:Int)).toNat _)),_,_,_,_,_,_,_]=_
   rw [Int.toNat_natCast]
   rfl
  case h3 =>
   intro hh
   have hh : ¬ (ent T s.b).1 < (ent W s.a).1+s.g:=of_decide_eq_false hh
   refine zbI (zaO ⟨some (.pub (stpD s)),some (.pub (.int s.a)),some (.pub (.int s.b)),some (.pub (.int s.g)),some (.pub (askD s.w)),some (.pub (.int (ent W s.a).1)),some (.pub (.list ((ent W s.a).2.map stpD))),?_⟩)
   rw [hfl]
   unfold zcQ
   rw [if_neg hh]
   rfl
 case hend =>
  rintro ρ ⟨x3,x4,x5,x6,x7,x8,x9,rfl⟩
  refine zaw (zaJ (zbt rfl rfl) ?_)
  rw [List.length_map,List.take_length]
  rfl
theorem zk8 {n:Nat} {S:List Stp} (hS:∀ s ∈ S,s.a < n/\s.b < n) (hn:n<=100):F_aq [.int (n:Nat),.list (S.map stpD)]=some (.list ((zaD n S n).map zdV)):=by
 refine zbf (ρ:=[some (.pub (.int (n:Nat))),some (.pub (.list (S.map stpD))),none,none]) rfl ?_
 unfold g_aq
 have hmul:oMul (.list [.tuple [.int 0,.list []]]) (.int (n:Nat))=some (.list ((zaD n S 0).map zdV)):=by
  rw [zkS (by omega)]
  unfold zaD
  rw [List.map_replicate]
  rfl
 refine zar (zaS (zap (zba (zab (zcC (zab zag (zab (zba zai (of_decide_eq_true rfl)) zai)) (of_decide_eq_true rfl)) zai) (of_decide_eq_true rfl)) (zad rfl) hmul) (of_decide_eq_true rfl) rfl) ?_
 apply zaU
 apply zbJ (fun k ρ=>k<=n/\∃ x3,ρ = [some (.pub (.int (n:Nat))),some (.pub (.list (S.map stpD))),some (.pub (.list ((zaD n S k).map zdV))),x3])
 case h1=>exact zcN (zab (zad rfl) zai) (zck (by omega) (by omega))
 case h0=>exact ⟨Nat.zero_le _,_,rfl⟩
 case hst =>
  rintro k d ρ hk ⟨_,x3,rfl⟩
  obtain ⟨rfl,hlt⟩:=zbL hk
  refine ⟨_,tg_N (of_decide_eq_true rfl) rfl,?_⟩
  unfold zkG
  have hl:=zcI hS k
  have hlo:=zk7 (W:=zaD n S k) (S:=S) (by rw [hl];exact hS) (fun p=>Nat.le_trans ((zdg hS k).1 p) (by omega)) (by rw [hl];omega)
  exact za4 (zaS (zay (zab (zad rfl) (zab (zad rfl) zai)) rfl hlo) (of_decide_eq_true rfl) rfl) (zaO ⟨by omega,_,rfl⟩)
 case hend =>
  rintro ρ ⟨_,x3,rfl⟩
  refine zaw (zaJ (zad rfl) ?_)
  rw [za0,show ((n:Int) - 0).toNat=n by omega]
theorem zoX {xs:List D} {i j:Nat} (hij:i<=j) (hj:j<=xs.length):DL.cutD xs (some (i:Int)) (some (j:Int))=(xs.take j).drop i:=by
 unfold DL.cutD HT.sIx
 dsimp only
 rw [if_neg (by omega),if_neg (by omega),Int.toNat_natCast,Int.toNat_natCast,Nat.min_eq_left hj,Nat.min_eq_left (show i<=xs.length by omega),List.drop_take]
theorem ze3 {w:List Stp} (hl:w.length<=1000):∃ d,F_ar [.list (w.map stpD)]=some d/\∃ r,d=.list (r.map stpD)/\((zk1 w/\r=[]) ∨ ∃ i j,zhH w i j/\r=(w.take (j+1)).drop i):=by
 refine zcS (ρ:=[some (.pub (.list (w.map stpD))),none,none,none]) rfl ?_
 unfold g_ar
 apply zaU
 apply zbJ (fun k ρ=>(∃ x1 x2 x3,ρ = [some (.pub (.list (w.map stpD))),x1,x2,x3])/\∀ j' < k,∀ i' ≤ j',∀ s t,w[i']?=some s->w[j']?=some t->s.a ≠ t.b)
 case h1=>exact zca (zab (zad rfl) zai) zbM
 case h0=>exact ⟨⟨_,_,_,rfl⟩,fun j' h=>absurd h (Nat.not_lt_zero _)⟩
 case hst =>
  rintro k d ρ hk ⟨⟨x1,x2,x3,rfl⟩,hb⟩
  obtain ⟨z,hz,rfl⟩:=zbE hk
  rw [List.getElem?_map] at hz
  cases ht:w[k]? with
  | none=>rw [ht] at hz;cases hz
  | some t =>
  rw [ht] at hz
  cases hz
  have hkl:k < w.length:=(List.getElem?_eq_some_iff.mp ht).1
  rw [Nat.zero_add]
  refine ⟨_,tg_T rfl (tg_C (tg_N (of_decide_eq_true rfl) rfl) (tg_C (tg_N (of_decide_eq_true rfl) rfl) tg_0)),?_⟩
  unfold zkI
  apply zbJ (fun l ρ=>(∃ x3,ρ = [some (.pub (.list (w.map stpD))),some (.pub (.int (k:Nat))),some (.pub (stpD t)),x3])/\∀ i' < l,∀ s,w[i']?=some s->s.a ≠ t.b)
  case h1=>exact zcN (zab (zap (zad rfl) zag zbb) zai) (zck (by omega) (by omega))
  case h0=>exact ⟨⟨_,rfl⟩,fun i' h=>absurd h (Nat.not_lt_zero _)⟩
  case hst =>
   rintro l d ρ hl2 ⟨⟨x3,rfl⟩,hc⟩
   obtain ⟨rfl,hlt⟩:=zbL hl2
   have hlk:l<=k:=by omega
   obtain ⟨s,hs⟩:∃ s,w[l]?=some s:=⟨_,List.getElem?_eq_getElem (by omega)⟩
   refine ⟨_,tg_N (of_decide_eq_true rfl) rfl,?_⟩
   have zl:(0:Int)+(l:Int)=l:=by omega
   rw [zl]
   unfold zkH
   have il:oIx (.list (w.map stpD)) (.int (l:Int))=some (stpD s):=zaW (by rw [List.getElem?_map,hs];rfl)
   have i0:oIx (stpD s) (.int 0)=some (.int s.a):=zaW (j:=0) rfl
   have i1:oIx (stpD t) (.int 1)=some (.int t.b):=zaW (j:=1) rfl
   apply zbe
   case h1=>exact zap (zap (zaY rfl (zad rfl) il) zag i0) (zaY rfl zag i1) zbU
   case h2 =>
    intro hh
    have hh:(s.a:Int)=(t.b:Int):=of_decide_eq_true hh
    have hcut:oSlA (.list (w.map stpD)) (some (l:Int)) (some ((k:Int)+1))=some (.list (((w.take (k+1)).drop l).map stpD)):=by
     rw [zbX,show ((k:Int)+1)=((k+1:Nat):Int) by omega,zoX (by omega) (by rw [List.length_map];omega),List.map_drop,List.map_take]
    refine zaJ (zcT (zad rfl) (zbT (zad rfl)) (zbT (zap (zad rfl) zag zbb)) hcut) (zdc (zdc (zdF ⟨_,rfl,_,rfl,.inr ⟨l,k,⟨hlk,hkl,fun s' t' e1 e2=>?_,hb⟩,rfl⟩⟩)))
    rw [hs] at e1
    rw [ht] at e2
    cases e1
    cases e2
    omega
   case h3 =>
    intro hh
    have hh : ¬ (s.a:Int)=(t.b:Int):=of_decide_eq_false hh
    refine zbI (zaO ⟨⟨_,rfl⟩,fun i' hi' s' e=>?_⟩)
    rcases Nat.lt_succ_iff_lt_or_eq.mp hi' with hi' | rfl
    ·exact hc i' hi' s' e
    ·rw [hs] at e;cases e;omega
  case hend =>
   rintro ρ ⟨⟨x3,rfl⟩,hc⟩
   refine zaO ⟨⟨_,_,_,rfl⟩,fun j' hj' i' hi' s' t' e1 e2=>?_⟩
   rcases Nat.lt_succ_iff_lt_or_eq.mp hj' with hj' | rfl
   ·exact hb j' hj' i' hi' s' t' e1 e2
   ·rw [ht] at e2
    cases e2
    exact hc i' (by rw [za0];omega) s' e1
 case hend =>
  rintro ρ ⟨⟨x1,x2,x3,rfl⟩,hb⟩
  refine zaw (zaJ (zba zai (of_decide_eq_true rfl)) ⟨_,rfl,[],rfl,.inl ⟨fun j hj=>hb j (by rw [zax,List.length_map];exact hj),rfl⟩⟩)
def zcJ (n:Nat) (s:Stp):Option (Nat × Option Int):=s.w.map fun i=>(i,unpl n s.b)
def takD (p:Nat × Option Int):D:=.tuple [.int (p.1:Nat),optD p.2]
def rot (b:Nat) (r:List Stp):List Stp:=r.drop b ++ r.take b
theorem zin (b:Nat) (r:List Stp):(rot b r).Perm r:=by
 unfold rot
 have:=List.perm_append_comm (l₁:=r.drop b) (l₂:=r.take b)
 rw [List.take_append_drop] at this
 exact this
theorem zg0 {n:Nat} {r:List Stp} (hl:r.length<=1000):∃ b,b<=r.length/\((∃ s,r[b]?=some s/\s.a=n) ∨ (b=0/\∀ s ∈ r,s.a ≠ n))/\F_as [.int (n:Nat),.list (r.map stpD)]=some (.list (((rot b r).filterMap (zcJ n)).map takD)):=by
 have key:∃ d,F_as [.int (n:Nat),.list (r.map stpD)]=some d/\∃ b,b<=r.length/\((∃ s,r[b]?=some s/\s.a=n) ∨ (b=0/\∀ s ∈ r,s.a ≠ n))/\d=.list (((rot b r).filterMap (zcJ n)).map takD):=by
  refine zcS (ρ:=[some (.pub (.int (n:Nat))),some (.pub (.list (r.map stpD))),none,none,none,none,none,none,none,none]) rfl ?_
  unfold g_as
  refine zar (zaS zag (of_decide_eq_true rfl) rfl) ?_
  apply zaU
  apply zbJ (fun k ρ=>∃ (b:Nat) (x3 x4:Option Sl),ρ = [some (.pub (.int (n:Nat))),some (.pub (.list (r.map stpD))),some (.pub (.int (b:Nat))),x3,x4,none,none,none,none,none]/\b<=r.length/\((∃ s,r[b]?=some s/\s.a=n) ∨ (b=0/\∀ s ∈ r.take k,s.a ≠ n)))
  case h1=>exact zca (zab (zad rfl) zai) zbM
  case h0=>exact ⟨0,_,_,rfl,Nat.zero_le _,.inr ⟨rfl,fun s h=>by rw [List.take_zero] at h;cases h⟩⟩
  case hst =>
   rintro k d ρ hk ⟨b,x3,x4,rfl,hbl,hb⟩
   obtain ⟨z,hz,rfl⟩:=zbE hk
   rw [List.getElem?_map] at hz
   cases ht:r[k]? with
   | none=>rw [ht] at hz;cases hz
   | some t =>
   rw [ht] at hz
   cases hz
   have hkl:k < r.length:=(List.getElem?_eq_some_iff.mp ht).1
   rw [Nat.zero_add]
   refine ⟨_,tg_T rfl (tg_C (tg_N (of_decide_eq_true rfl) rfl) (tg_C (tg_N (of_decide_eq_true rfl) rfl) tg_0)),?_⟩
   unfold zkK
   have i0:oIx (stpD t) (.int 0)=some (.int t.a):=zaW (j:=0) rfl
   apply zbe
   case h1=>exact zap (zaY rfl zag i0) (zad rfl) zbU
   case h2 =>
    intro hh
    have hh:(t.a:Int)=(n:Int):=of_decide_eq_true hh
    exact za4 (zaS (zad rfl) (of_decide_eq_true rfl) rfl) (zaO ⟨k,_,_,rfl,by omega,.inl ⟨t,ht,by omega⟩⟩)
   case h3 =>
    intro hh
    have hh : ¬ (t.a:Int)=(n:Int):=of_decide_eq_false hh
    refine zbI (zaO ⟨b,_,_,rfl,hbl,?_⟩)
    rcases hb with hb | ⟨hb,hc⟩
    ·exact .inl hb
    ·refine .inr ⟨hb,fun s hs=>?_⟩
     rw [List.take_succ,ht] at hs
     rcases List.mem_append.mp hs with hs | hs
     ·exact hc s hs
     ·rw [List.mem_singleton.mp hs];omega
  case hend =>
   rintro ρ ⟨b,x3,x4,rfl,hbl,hb⟩
   refine zaw ?_
   have hb':(∃ s,r[b]?=some s/\s.a=n) ∨ (b=0/\∀ s ∈ r,s.a ≠ n):=by
    rw [zax,List.length_map,List.take_length] at hb
    exact hb
   refine zar (zbk (zc3 zai (of_decide_eq_true rfl)) (of_decide_eq_true rfl) rfl) ?_
   have c1:oSlA (.list (r.map stpD)) (some (b:Int)) none=some (.list ((r.drop b).map stpD)):=by rw [zbX,zfU (by rw [List.length_map];exact hbl),List.map_drop]
   have c2:oSlA (.list (r.map stpD)) none (some (b:Int))=some (.list ((r.take b).map stpD)):=by rw [zbX,zoU (by rw [List.length_map];exact hbl),List.map_take]
   have c3:oAdd (.list ((r.drop b).map stpD)) (.list ((r.take b).map stpD))=some (.list ((rot b r).map stpD)):=by
    rw [zbv (by rw [List.length_map,List.length_map,List.length_drop,List.length_take];omega)]
    unfold rot
    rw [List.map_append]
   apply zaU
   apply zbJ (fun k ρ=>∃ x6 x7 x8 x9,ρ = [some (.pub (.int (n:Nat))),some (.pub (.list (r.map stpD))),some (.pub (.int (b:Nat))),x3,x4,some (.own ((((rot b r).take k).filterMap (zcJ n)).map takD)),x6,x7,x8,x9])
   case h1=>exact zaT (zap (zcT (zad rfl) (zbT (zad rfl)) zag c1) (zcT (zad rfl) zag (zbT (zad rfl)) c2) c3) zbw
   case h0=>exact ⟨_,_,_,_,rfl⟩
   case hst =>
    rintro k d ρ hk ⟨x6,x7,x8,x9,rfl⟩
    rw [List.getElem?_map] at hk
    cases hq:(rot b r)[k]? with
    | none=>rw [hq] at hk;cases hk
    | some s =>
    rw [hq] at hk
    cases hk
    have hkl:k < (rot b r).length:=(List.getElem?_eq_some_iff.mp hq).1
    have hrl:(rot b r).length=r.length:=(zin b r).length_eq
    have hta:(rot b r).take (k+1)=(rot b r).take k ++ [s]:=by rw [List.take_succ,hq];rfl
    refine ⟨_,tg_T rfl (tg_C (tg_N (of_decide_eq_true rfl) rfl) (tg_C (tg_N (of_decide_eq_true rfl) rfl) (tg_C (tg_N (of_decide_eq_true rfl) rfl) (tg_C (tg_N (of_decide_eq_true rfl) rfl) tg_0)))),?_⟩
    unfold zkJ
    have hsz:((((rot b r).take k).filterMap (zcJ n)).map takD).length < 1000000:=by
     rw [List.length_map]
     have:=List.length_filterMap_le (zcJ n) ((rot b r).take k)
     rw [List.length_take] at this
     omega
    cases hw:s.w with
    | none =>
     apply zbe
     case h1=>exact zaK (k:=fun d=>!isNon d) (x:=askD none) (zad rfl)
     case h2=>intro hh;cases hh
     case h3 =>
      intro _
      refine zbI (zaO ⟨some (.pub (.int s.a)),some (.pub (.int s.b)),some (.pub (.int s.g)),some (.pub (askD none)),?_⟩)
      rw [hta,List.filterMap_append]
      have:[s].filterMap (zcJ n)=[]:=by unfold zcJ;rw [List.filterMap_cons,hw];rfl
      rw [this,List.append_nil]
      rfl
    | some i =>
     apply zbe
     case h1=>exact zaK (k:=fun d=>!isNon d) (x:=askD (some i)) (zad rfl)
     case h3=>intro hh;cases hh
     case h2 =>
      intro _
      have htest:∀ ρ : DEnv,ρ[7]?=some (some (.pub (.int (s.b:Int)))) -> ρ[0]?=some (some (.pub (.int (n:Int))))->mIf (zby oEq 7 (dVar 0)) (zah .none) (dVar 7) ρ = .ok (optD (unpl n s.b)) ρ:=fun ρ h7 h0=>by
       unfold unpl
       by_cases z:s.b=n
       ·rw [if_pos z]
        exact zmC (zbB h7 (zad h0) (by rw [zbU,decide_eq_true (by rw [z])])) zag
       ·rw [if_neg z]
        exact zmD (zbB h7 (zad h0) (by rw [zbU,decide_eq_false (by omega)])) (zad h7)
      refine za4 (zdE rfl (zcC (zab (zad rfl) (zab (htest _ rfl rfl) zai)) (of_decide_eq_true rfl)) rfl hsz rfl) (zaO ⟨some (.pub (.int s.a)),some (.pub (.int s.b)),some (.pub (.int s.g)),some (.pub (askD (some i))),?_⟩)
      rw [hta,List.filterMap_append]
      have:[s].filterMap (zcJ n)=[(i,unpl n s.b)]:=by unfold zcJ;rw [List.filterMap_cons,hw];rfl
      rw [this,List.map_append]
      rfl
   case hend =>
    rintro ρ ⟨x6,x7,x8,x9,rfl⟩
    refine zaw (zaJ (zbt rfl rfl) ⟨_,rfl,b,hbl,hb',?_⟩)
    rw [List.length_map,List.take_length]
 obtain ⟨d,e,b,h1,h2,rfl⟩:=key
 exact ⟨b,h1,h2,e⟩
theorem ze4 (n:Nat):∀ (R:List Stp) (d:List (Option Int)),(R.filterMap (zcJ n)).foldl (fun d p=>d.set p.1 p.2) d=R.foldl (app n) d
 | [],d=>rfl
 | s :: R,d=>by
  rw [List.foldl_cons,List.filterMap_cons]
  unfold zcJ app
  cases s.w with
  | none=>exact ze4 n R d
  | some i=>exact ze4 n R (d.set i (unpl n s.b))
theorem zk9 {ws:List (Option Int)} {tk:List (Nat × Option Int)} (h:∀ p ∈ tk,p.1 < ws.length):F_ak [zaG ws,.list (tk.map takD)]=some (zaG (tk.foldl (fun d p=>d.set p.1 p.2) ws)):=by
 refine zbf (ρ:=[some (.pub (zaG ws)),some (.pub (.list (tk.map takD))),none,none,none]) rfl ?_
 unfold g_ak
 refine zar (zbk (zes rfl (show zc1 [zaG ws]=some (ws.map optD) from rfl)) (of_decide_eq_true rfl) rfl) ?_
 have hlen:∀ (R:List (Nat × Option Int)) (d:List (Option Int)),(R.foldl (fun d p=>d.set p.1 p.2) d).length=d.length:=fun R=>by
  induction R with
  | nil=>intro d;rfl
  | cons p R ih=>intro d;rw [List.foldl_cons,ih,List.length_set]
 apply zaU
 apply zbJ (fun k ρ=>∃ x3 x4,ρ = [some (.pub (zaG ws)),some (.pub (.list (tk.map takD))),some (.own (((tk.take k).foldl (fun d p=>d.set p.1 p.2) ws).map optD)),x3,x4])
 case h1=>exact zaT (zad rfl) zbw
 case h0=>exact ⟨_,_,rfl⟩
 case hst =>
  rintro k d ρ hk ⟨x3,x4,rfl⟩
  rw [List.getElem?_map] at hk
  cases hq:tk[k]? with
  | none=>rw [hq] at hk;cases hk
  | some p =>
  rw [hq] at hk
  cases hk
  have hpl:=h p (List.mem_of_getElem? hq)
  have hta:tk.take (k+1)=tk.take k ++ [p]:=by rw [List.take_succ,hq];rfl
  refine ⟨_,tg_T rfl (tg_C (tg_N (of_decide_eq_true rfl) rfl) (tg_C (tg_N (of_decide_eq_true rfl) rfl) tg_0)),?_⟩
  unfold zkM
  refine za4 (zc4 (zad rfl) rfl (zad rfl) rfl ⟨Int.natCast_nonneg _,by rw [List.length_map,hlen];omega⟩ rfl) (zaO ⟨some (.pub (.int (p.1:Nat))),some (.pub (optD p.2)),?_⟩)
  rw [hta,List.foldl_append]
  show [_,_,some (Sl.own ((((tk.take k).foldl (fun d p=>d.set p.1 p.2) ws).map optD).set ((p.1:Int)).toNat (optD p.2))),_,_]=[_,_,some (Sl.own ((((tk.take k).foldl (fun d p=>d.set p.1 p.2) ws).set p.1 p.2).map optD)),_,_]
  rw [Int.toNat_natCast,List.map_set]
 case hend =>
  rintro ρ ⟨x3,x4,rfl⟩
  refine zaw (zaJ (zbt rfl rfl) ?_)
  rw [List.length_map,List.take_length]
  rfl
def ze5 (cs:List Int) (f:Int × Int->Int) (qs:List (Int × Int)) (ws:List (Option Int)):Prop:=∀ p,p < cs.length+1->(ent (zaD (cs.length+1) (zea cs f qs ws) (cs.length+1)) p).2.length ≠ cs.length+1
structure zmk (cs:List Int) (f:Int × Int->Int) (qs:List (Int × Int)) (ws:List (Option Int)) (r:List Stp) (b:Nat):Prop where
 rnd:∃ x,Path (zea cs f qs ws) x r x
 nd:(r.map Stp.a).Nodup
 pos:0 < gain r
 bl:b<=r.length
 bat:(∃ s,r[b]?=some s/\s.a=cs.length) ∨ (b=0/\∀ s ∈ r,s.a ≠ cs.length)
def wayR (n b:Nat) (r:List Stp):List (Nat × Option Int):=(rot b r).filterMap (zcJ n)
theorem zcK (s:Stp) (R:List Stp):gain (s :: R)=s.g+gain R:=by show gain ([s] ++ R)=_;rw [zbx,zdh]
theorem zla {u v:List Stp} (h:u.Perm v):gain u=gain v:=by
 induction h with
 | nil=>rfl
 | cons x _ ih=>rw [zcK,zcK,ih]
 | swap x y l=>rw [zcK,zcK,zcK,zcK];omega
 | trans _ _ ih1 ih2=>rw [ih1,ih2]
theorem zlb {R:List Stp} (h:∀ s ∈ R,s.g=0):gain R=0:=by
 induction R with
 | nil=>rfl
 | cons s R ih =>
  have e:gain (s :: R)=s.g+gain R:=by show gain ([s] ++ R)=_;rw [zbx,zdh]
  rw [e,h s List.mem_cons_self,ih fun x hx=>h x (List.mem_cons_of_mem _ hx)]
  rfl
section
variable {cs:List Int} {ls:List (List (List Int))} {ws:List (Option Int)} {V:Int->Int->Int} {qs:List (Int × Int)} {f:Int × Int->Int} {m:Nat}
theorem zmk.does (hp:zc7 cs.length m qs) (hd:zcp cs qs m ws) {r:List Stp} {b:Nat} (h:zmk cs f qs ws r b):zcp cs qs m ((wayR cs.length b r).foldl (fun d p=>d.set p.1 p.2) ws)/\totF f 0 ((wayR cs.length b r).foldl (fun d p=>d.set p.1 p.2) ws)=totF f 0 ws+gain r/\wayR cs.length b r ≠ []/\∀ p ∈ wayR cs.length b r,p.1 < ws.length:=by
 obtain ⟨x,hx⟩:=h.rnd
 have hin:∀ s ∈ r,IsSt cs f qs ws s:=fun s hs=>zf3 hp hd s (hx.mem s hs)
 have pr:=zin b r
 have hinR:∀ s ∈ rot b r,IsSt cs f qs ws s:=fun s hs=>hin s (pr.mem_iff.mp hs)
 have ndR:((rot b r).map Stp.a).Nodup:=(pr.map Stp.a).nodup_iff.mpr h.nd
 have pbR:((rot b r).map Stp.b).Perm ((rot b r).map Stp.a):=((pr.map Stp.b).trans (zi8 hx)).trans (pr.map Stp.a).symm
 obtain ⟨h1,h2⟩:=zmh hp hd hinR ndR pbR
 unfold wayR
 rw [ze4]
 refine ⟨h1,by rw [h2,zla pr],fun z=>?_,fun p hpm=>?_⟩
 ·have:gain r=0:=zlb fun s hs=>by
   have hw:zcJ cs.length s=none:=by
    have:=List.filterMap_eq_nil_iff.mp z s (pr.mem_iff.mpr hs)
    exact this
   cases hin s hs with
   | mv _ _ _=>cases hw
   | left _ _=>rfl
   | give _=>rfl
  have:=h.pos
  omega
 ·obtain ⟨s,hs,e⟩:=List.mem_filterMap.mp hpm
  cases hinR s hs with
  | @mv i o o' hw _ _ =>
   cases e
   exact (List.getElem?_eq_some_iff.mp hw).1
  | left _ _=>cases e
  | give _=>cases e
theorem zfA (g:Good cs ls) (hm:ws.length=ls.length) (hp:zc7 cs.length ws.length qs) (hd:zcp cs qs ws.length ws) (hq1:qs.length<=500):∃ d,F_at [zaz cs ls,.list (qs.map (zcy V)),zaG ws]=some d/\((d=.list []/\ze5 cs (uncV V) qs ws) ∨ ∃ r b,d=.list ((wayR cs.length b r).map takD)/\zmk cs (uncV V) qs ws r b):=by
 refine zcS (ρ:=[some (.pub (zaz cs ls)),some (.pub (.list (qs.map (zcy V)))),some (.pub (zaG ws)),none,none,none]) rfl ?_
 unfold g_at
 have c6:=g.c6;have l7:=g.l7
 have hlc:oLen [.list (cs.map PyData.int)]=some (.int cs.length):=by rw [zaE,List.length_map]
 have hS:∀ s ∈ zea cs (uncV V) qs ws,s.a < cs.length+1/\s.b < cs.length+1:=fun s hs=>(zf3 hp hd s hs).lt hp hd
 have hwd:=zk8 hS (by omega)
 have hsteps:=zgZ (V:=V) g hm hp hd (by omega)
 refine zar (zaS (zaQ (zab (zaY rfl zag zem) zai) hlc) (of_decide_eq_true rfl) rfl) ?_
 have hadd:oAdd (.int (cs.length:Int)) (.int 1)=some (.int ((cs.length+1:Nat):Int)):=by rw [zbb];rfl
 apply zaU
 apply zbJ (fun k ρ=>(∃ x4 x5,ρ = [some (.pub (zaz cs ls)),some (.pub (.list (qs.map (zcy V)))),some (.pub (zaG ws)),some (.pub (.int cs.length)),x4,x5])/\∀ p < k,(ent (zaD (cs.length+1) (zea cs (uncV V) qs ws) (cs.length+1)) p).2.length ≠ cs.length+1)
 case h1=>exact zaT (zay (zab (zap (zad rfl) zag hadd) (zab (zay (zab (zad rfl) (zab (zad rfl) (zab (zad rfl) zai))) rfl hsteps) zai)) rfl hwd) zbw
 case h0=>exact ⟨⟨_,_,rfl⟩,fun p h=>absurd h (Nat.not_lt_zero _)⟩
 case hst =>
  rintro k d ρ hk ⟨⟨x4,x5,rfl⟩,hb⟩
  rw [List.getElem?_map] at hk
  cases hq:(zaD (cs.length+1) (zea cs (uncV V) qs ws) (cs.length+1))[k]? with
  | none=>rw [hq] at hk;cases hk
  | some e =>
  rw [hq] at hk
  cases hk
  have he:ent (zaD (cs.length+1) (zea cs (uncV V) qs ws) (cs.length+1)) k=e:=by unfold ent;rw [List.getD_eq_getElem?_getD,hq];rfl
  refine ⟨_,tg_T rfl (tg_C (tg_N (of_decide_eq_true rfl) rfl) (tg_C (tg_N (of_decide_eq_true rfl) rfl) tg_0)),?_⟩
  unfold zkL
  have hlw:oLen [.list (e.2.map stpD)]=some (.int e.2.length):=by rw [zaE,List.length_map]
  apply zbe
  case h1=>exact zap (zbu rfl hlw) (zap (zad rfl) zag hadd) zbU
  case h2 =>
   intro hh
   have hh:((e.2.length:Nat):Int)=((cs.length+1:Nat):Int):=of_decide_eq_true hh
   have hlen:e.2.length=cs.length+1:=by omega
   obtain ⟨d,hrw,r,rfl,hr⟩:=ze3 (w:=e.2) (by omega)
   have hwk:=zc6 hS (cs.length+1) k
   rw [he] at hwk
   obtain ⟨q,hpath⟩:=hwk.1.path
   rcases hr with ⟨hno,rfl⟩ | ⟨i,j,hra,rfl⟩
   ·exact absurd hno (zmg hS hpath (by omega) (Nat.succ_pos _))
   ·have hlr:((e.2.take (j+1)).drop i).length<=1000:=by rw [List.length_drop,List.length_take];omega
    obtain ⟨b,hbl,hbat,hway⟩:=zg0 (n:=cs.length) hlr
    have hrg:=zi7 hS (Nat.succ_pos _) (p:=k) (by rw [he];exact hlen) (by rw [he];exact hra)
    rw [he] at hrg
    obtain ⟨x,hx,hgp⟩:=hrg
    exact zaJ (zay (zab (zad rfl) (zab (zay (zab (zad rfl) zai) rfl hrw) zai)) rfl hway) (zdc (zdF ⟨_,rfl,.inr ⟨_,b,rfl,⟨⟨x,hx⟩,zhI hpath hra,hgp,hbl,hbat⟩⟩⟩))
  case h3 =>
   intro hh
   have hh : ¬ ((e.2.length:Nat):Int)=((cs.length+1:Nat):Int):=of_decide_eq_false hh
   refine zbI (zaO ⟨⟨_,_,rfl⟩,fun p hpk=>?_⟩)
   rcases Nat.lt_succ_iff_lt_or_eq.mp hpk with hpk | rfl
   ·exact hb p hpk
   ·rw [he];omega
 case hend =>
  rintro ρ ⟨⟨x4,x5,rfl⟩,hb⟩
  refine zaw (zaJ (zba zai (of_decide_eq_true rfl)) ⟨_,rfl,.inl ⟨rfl,fun p hpn=>hb p ?_⟩⟩)
  rw [List.length_map,zcI hS]
  exact hpn
theorem zlc {M:Int} (hM0:0<=M) (hM:∀ q ∈ qs,f q<=M):∀ (ws:List (Option Int)) (k:Nat),(∀ (i:Nat) t,ws[i]?=some (some t)->(((k+i:Nat):Int),t) ∈ qs)->totF f k ws<=ws.length * M
 | [],k,_=>by show (0:Int)<=((0:Nat):Int) * M;rw [show (((0:Nat)):Int)=0 from rfl,Int.zero_mul];exact Int.le_refl _
 | o :: ws,k,h=>by
  have ih:=zlc hM0 hM ws (k+1) fun i t e=>by
   have:=h (i+1) t (by simpa using e)
   rw [show k+1+i=k+(i+1) by omega]
   exact this
  have h0:hadO f k o<=M:=by
   cases o with
   | none=>exact hM0
   | some t=>exact hM _ (by have:=h 0 t rfl;rw [Nat.add_zero] at this;exact this)
  rw [List.length_cons]
  show hadO f k o+totF f (k+1) ws<=_
  rw [show (((ws.length+1:Nat)):Int)=(ws.length:Int)+1 by omega,Int.add_mul,Int.one_mul]
  omega
theorem zg1 (g:Good cs ls) (hm:m=ls.length) (hp:zc7 cs.length m qs) (hq1:qs.length<=500) {M:Int} (hM0:0<=M) (hM:∀ q ∈ qs,uncV V q<=M):∀ (N:Nat) (ws:List (Option Int)) (d:D),zcp cs qs m ws->((d=.list []/\ze5 cs (uncV V) qs ws) ∨ ∃ r b,d=.list ((wayR cs.length b r).map takD)/\zmk cs (uncV V) qs ws r b) ->
  (m * M - totF (uncV V) 0 ws < N)->∃ ws',zcp cs qs m ws'/\ze5 cs (uncV V) qs ws'/\zdm (zeT (dVar 3)) zfS N [some (.pub (zaz cs ls)),some (.pub (.list (qs.map (zcy V)))),some (.pub (zaG ws)),some (.pub d)]=.nx [some (.pub (zaz cs ls)),some (.pub (.list (qs.map (zcy V)))),some (.pub (zaG ws')),some (.pub (.list []))]
 | 0,ws,d,hd,_,hN=>by
  have:=zlc hM0 hM ws 0 (fun i t e=>by rw [Nat.zero_add];exact hd.wish i t e)
  rw [hd.len] at this
  exact absurd hN (by omega)
 | N+1,ws,d,hd,hg,hN=>by
  rcases hg with ⟨rfl,hst⟩ | ⟨r,b,rfl,hgr⟩
  ·refine ⟨ws,hd,hst,?_⟩
   unfold zdm
   rw [zgL (ds:=[]) (zad rfl)]
   rfl
  ·obtain ⟨h1,h2,h3,h4⟩:=hgr.does hp hd
   generalize hws':(wayR cs.length b r).foldl (fun d p=>d.set p.1 p.2) ws=ws' at h1 h2
   have hbe:=zk9 h4
   rw [hws'] at hbe
   obtain ⟨d',hgw,hg'⟩:=zfA (V:=V) (ws:=ws') g (by rw [h1.len,hm]) (by rw [h1.len];exact hp) (by rw [h1.len];exact h1) hq1
   obtain ⟨ws2,k1,k2,k3⟩:=zg1 g hm hp hq1 hM0 hM N ws' d' h1 hg' (by have:=hgr.pos;omega)
   refine ⟨ws2,k1,k2,?_⟩
   unfold zdm
   rw [zgL (ds:=(wayR cs.length b r).map takD) (zad rfl)]
   have hne:(!((wayR cs.length b r).map takD).isEmpty)=true:=by
    cases hw:wayR cs.length b r with
    | nil=>exact absurd hw h3
    | cons _ _=>rfl
   dsimp only
   rw [if_pos hne]
   have hb:Ho zfS [some (.pub (zaz cs ls)),some (.pub (.list (qs.map (zcy V)))),some (.pub (zaG ws)),some (.pub (.list ((wayR cs.length b r).map takD)))] (fun o=>o=.nx [some (.pub (zaz cs ls)),some (.pub (.list (qs.map (zcy V)))),some (.pub (zaG ws')),some (.pub d')]):=by
    unfold zfS
    refine zar (zaS (zay (zab (zad rfl) (zab (zad rfl) zai)) rfl hbe) (of_decide_eq_true rfl) rfl) ?_
    exact za4 (zaS (zay (zab (zad rfl) (zab (zad rfl) (zab (zad rfl) zai))) rfl hgw) (of_decide_eq_true rfl) rfl) rfl
   rw [hb.out]
   exact k3
theorem zi9 (g:Good cs ls) (hp:zc7 cs.length ls.length qs) (hq1:qs.length<=500) {M:Int} (hM0:0<=M) (hM:∀ q ∈ qs,uncV V q<=M) (hF:ls.length * M < 10 ^ 60):∃ d,F_au [zaz cs ls,.list (qs.map (zcy V))]=some d/\∃ ws,d=zaG ws/\zcp cs qs ls.length ws/\ze5 cs (uncV V) qs ws:=by
 refine zcS (ρ:=[some (.pub (zaz cs ls)),some (.pub (.list (qs.map (zcy V)))),none,none]) rfl ?_
 unfold g_au
 have l7:=g.l7
 have hll:oLen [.list (ls.map zaC)]=some (.int (ls.length:Nat)):=by rw [zaE,List.length_map]
 let ws0:List (Option Int):=List.replicate ls.length none
 have hmul:oMul (.list [.none]) (.int (ls.length:Nat))=some (zaG ws0):=by
  rw [zkS (by omega)]
  show _=some (PyData.list ((List.replicate ls.length none).map optD))
  rw [List.map_replicate]
  rfl
 have hd0:zcp cs qs ls.length ws0:=⟨by show (List.replicate _ _).length=_;rw [List.length_replicate],(fun i t h=>by
  have h:(List.replicate ls.length (none:Option Int))[i]?=some (some t):=h
  rw [List.getElem?_replicate] at h
  split at h
  ·cases h
  ·cases h),fun k c e=>by
  have h0:ws0.count (some (k:Int))=0:=List.count_eq_zero.mpr fun h=>by cases (List.mem_replicate.mp h).2
  rw [h0]
  have:=g.c7 c (List.mem_of_getElem? e)
  show (0:Int)<=c
  omega⟩
 refine zar (zaS (zap (zba (zab zag zai) (of_decide_eq_true rfl)) (zaQ (zab (zaY rfl zag zfc) zai) hll) hmul) (of_decide_eq_true rfl) rfl) ?_
 obtain ⟨d',hgw,hg'⟩:=zfA (V:=V) (ws:=ws0) g hd0.len (by rw [hd0.len];exact hp) (by rw [hd0.len];exact hd0) hq1
 refine zar (zaS (zay (zab (zad rfl) (zab (zad rfl) (zab (zad rfl) zai))) rfl hgw) (of_decide_eq_true rfl) rfl) ?_
 have h0:∀ (n k:Nat),totF (uncV V) k (List.replicate n none)=0:=fun n=>by
  induction n with
  | zero=>intro k;rfl
  | succ n ih=>intro k;rw [List.replicate_succ];show 0+totF (uncV V) (k+1) (List.replicate n none)=0;rw [ih];rfl
 have hfu:ls.length * M - totF (uncV V) 0 ws0 < (FUEL:Nat):=by
  have e:totF (uncV V) 0 ws0=0:=h0 _ _
  have e2:((FUEL:Nat):Int)=10 ^ 60:=by unfold FUEL;rfl
  rw [e,e2]
  omega
 obtain ⟨ws',k1,k2,k3⟩:=zg1 g rfl hp hq1 hM0 hM FUEL ws0 d' hd0 hg' hfu
 refine zar k3 ?_
 exact zaJ (zad rfl) ⟨_,rfl,ws',rfl,k1,k2⟩
end
section
variable {cs:List Int} {ls:List (List (List Int))}
theorem zld {xs:List D} {a:Nat}:DL.cutD xs none (some (a:Int))=xs.take a:=by
 unfold DL.cutD HT.sIx
 dsimp only
 rw [if_neg (by omega),Int.toNat_natCast]
 by_cases h:a<=xs.length
 ·rw [Nat.min_eq_left h];simp
 ·rw [Nat.min_eq_right (by omega),List.take_of_length_le (i:=a) (by omega)];simp
theorem zle {xs:List D}:DL.cutD xs (some 1) none=xs.drop 1:=by
 cases xs with
 | nil=>rfl
 | cons x r=>exact zfU (a:=1) (by simp)
def zbO (r:Nat) (ls:List (List (List Int))):List (List Int):=ls.map fun rs=>(rs.take r).flatten
theorem ze6 (g:Good cs ls) (r:Nat):F_bj [zaz cs ls,.int r]=some (.list ((zbO r ls).map za9)):=by
 refine zbf (ρ:=[some (.pub (zaz cs ls)),some (.pub (.int r))]) rfl ?_
 unfold g_bj
 have l7:=g.l7
 have hc:zbl (gN 2) (zah true) (zbg ze8 (zae (dSlA (dVar 2) (zah none) (zas (dVar 1) fun x=>mOpt (zcq x))) (zae (mLst (mNil)) (mNil)))) (ls.map zaC) (zaH [some (.pub (zaz cs ls)),some (.pub (.int r))] ++ List.replicate 1 none) []=some ([] ++ (zbO r ls).map za9):=by
  refine zb6 (fun ρ=>∃ x,ρ = [some (.pub (zaz cs ls)),some (.pub (.int r)),x]) _ _ _ _ ?_ ?_ ⟨none,rfl⟩ ?_
  ·unfold zbO;rw [List.length_map,List.length_map,List.length_map]
  ·rintro i d e hd he ρ ⟨x,rfl⟩
   rw [List.getElem?_map] at hd
   obtain ⟨rs,hrs,rfl⟩:=Option.map_eq_some_iff.mp hd
   unfold zbO at he
   rw [List.getElem?_map,List.getElem?_map,hrs] at he
   cases he
   have gr:=g.rk rs (List.mem_of_getElem? hrs)
   have hfl:((rs.take r).map (List.map PyData.int)).flatten.length<=1000000:=by
    rw [← List.map_flatten,List.length_map]
    have h1:rs.flatten=(rs.take r).flatten ++ (rs.drop r).flatten:=by rw [← List.flatten_append,List.take_append_drop]
    have h2:=congrArg List.length h1
    rw [List.length_append] at h2
    have h3:rs.flatten.length<=cs.length:=zde gr
    have:=g.c6
    omega
   refine ⟨_,tg_N (of_decide_eq_true rfl) rfl,rfl,zaQ (zab (zcT (zad rfl) zag (zbT (zad rfl)) zbX) (zab (zba zai (of_decide_eq_true rfl)) zai)) ?_,⟨_,rfl⟩⟩
   rw [zld,← List.map_take,show (rs.take r).map za9=((rs.take r).map (List.map PyData.int)).map PyData.list by rw [List.map_map];rfl,zlU hfl,← List.map_flatten]
   rfl
  ·rw [List.length_map,List.length_nil];omega
 exact zaJ (zaK (zbC (zaT (zaY rfl zag zfc) zbw) hc)) rfl
structure Asc (n:Nat) (as:List Int):Prop where
 up:as.Pairwise (· < ·)
 inn:∀ a ∈ as,0<=a/\a < n
theorem Asc.sub {n:Nat} {as bs:List Int} (h:Asc n as) (s:bs.Sublist as):Asc n bs:=⟨h.up.sublist s,fun a ha=>h.inn a (s.subset ha)⟩
theorem Asc.cut {n k:Nat} {as:List Int} (h:Asc n as):Asc n (as.take k ++ as.drop (k+1)):=h.sub (by rw [← List.eraseIdx_eq_take_drop_succ];exact List.eraseIdx_sublist _ _)
theorem zio:∀ {as:List Int} {lo:Int} {n:Nat},as.Pairwise (· < ·)->(∀ a ∈ as,lo<=a/\a < lo+n)->as.length<=n
 | [],_,_,_,_=>Nat.zero_le _
 | a :: r,lo,n,h,hb=>by
  have ha:=hb a List.mem_cons_self
  have h':=List.pairwise_cons.mp h
  have:=zio (as:=r) (lo:=a+1) (n:=(lo+n - (a+1)).toNat) h'.2 (fun b hr=>by
   have h1:=h'.1 b hr
   have h2:=hb b (List.mem_cons_of_mem _ hr)
   omega)
  rw [List.length_cons]
  omega
theorem Asc.len {n:Nat} {as:List Int} (h:Asc n as):as.length<=n:=zio (lo:=0) h.up fun a ha=>by have:=h.inn a ha;omega
def covD (as ps:List Int):D:=.tuple [.list (as.map PyData.int),.list (ps.map PyData.int)]
def szc (n m:Nat):List Int:=List.replicate n 3 ++ List.replicate m 6 ++ [3,7]
theorem zlf (n m:Nat):(szc n m).length=n+m+2:=by unfold szc;simp only [List.length_append,List.length_replicate,List.length_cons,List.length_nil]
theorem znD {xs:List D} {a b:D}:oIx (.list (xs ++ [a,b])) (.int (-2))=some a:=by
 unfold oIx atI
 show (ixN (xs ++ [a,b]).length (-2)).bind _=_
 have hl:(xs ++ [a,b]).length=xs.length+2:=by rw [List.length_append];rfl
 unfold ixN
 rw [if_neg (by decide),if_pos (by omega)]
 have e2:(-2+((xs ++ [a,b]).length:Int)).toNat=xs.length:=by omega
 simp only [Option.bind_some]
 rw [e2,List.getElem?_append_right (Nat.le_refl _),Nat.sub_self]
 rfl
theorem zml {dg:List Int} {n:Nat} (h:dg.length=n+2):∃ pre a b,dg=pre ++ [a,b]/\dg[n]?=some a/\dg[n+1]?=some b:=by
 have h1:n < dg.length:=by omega
 have h2:n+1 < dg.length:=by omega
 refine ⟨dg.take n,dg[n],dg[n+1],?_,List.getElem?_eq_getElem h1,List.getElem?_eq_getElem h2⟩
 have e1:=List.drop_eq_getElem_cons h1
 have e2:=List.drop_eq_getElem_cons h2
 rw [List.drop_of_length_le (i:=n+1+1) (by omega)] at e2
 rw [e2] at e1
 rw [← e1,List.take_append_drop]
end
section
variable {cs:List Int} {ls:List (List (List Int))}
theorem zja (g:Good cs ls) (r:Nat) (c s:Int):∃ d,F_bk [zaz cs ls,.int r,.int c,.int s]=some d/\∃ as ps,d=covD as ps/\Asc ls.length as/\Asc cs.length ps:=by
 have l7:=g.l7;have l1:=g.l1;have c6:=g.c6;have c1:=g.c1
 refine zcS (ρ:=[some (.pub (zaz cs ls)),some (.pub (.int r)),some (.pub (.int c)),some (.pub (.int s)),none,none,none,none,none,none,none,none]) rfl ?_
 unfold g_bk
 have hn:oLen [.list (cs.map PyData.int)]=some (.int cs.length):=by rw [zaE,List.length_map]
 have hm:oLen [.list (ls.map zaC)]=some (.int ls.length):=by rw [zaE,List.length_map]
 have a1:=zmI (x:=.int 3) (m:=cs.length) (by omega)
 have a2:=zmI (x:=.int 6) (m:=ls.length) (by omega)
 have e0:∀ ρ : DEnv,ρ[0]?=some (some (.pub (zaz cs ls)))->dBin oAdd (dBin oAdd (dBin oMul (mLst (zae (zah (.int 3)) (mNil))) (zbg oLen (zae (dIxN 0 (zah (.int 0))) (mNil)))) (dBin oMul (mLst (zae (zah (.int 6)) (mNil))) (zbg oLen (zae (dIxN 0 (zah (.int 1))) (mNil))))) (mLst (zae (zah (.int 3)) (zae (zah (.int 7)) (mNil)))) ρ = .ok (.list ((szc cs.length ls.length).map PyData.int)) ρ:=by
  intro ρ h0
  have b1:=zap (zap (zba (zab zag zai) (of_decide_eq_true rfl)) (zaQ (zab (zaY h0 zag zem) zai) hn) a1) (zap (zba (zab zag zai) (of_decide_eq_true rfl)) (zaQ (zab (zaY h0 zag zfc) zai) hm) a2) (zbv (by simp;omega))
  have b2:=zap b1 (zba (zab zag (zab zag zai)) (of_decide_eq_true rfl)) (zbv (y:=[.int 3,.int 7]) (by simp;omega))
  refine Eq.trans b2 ?_
  unfold szc
  simp only [List.map_append,List.map_replicate,List.map_cons,List.map_nil]
 refine zar (zaS (e0 _ rfl) (of_decide_eq_true rfl) rfl) ?_
 obtain ⟨r',hF,dg,rfl,hdl,hdb⟩:=zbZ c s (sizes:=szc cs.length ls.length) (fun x hx=>by
  unfold szc at hx
  simp only [List.mem_append,List.mem_replicate,List.mem_cons] at hx
  rcases hx with (⟨_,rfl⟩ | ⟨_,rfl⟩) | rfl | rfl | hx <;> first | omega | cases hx) (by rw [zlf];omega)
 rw [zlf] at hdl
 refine zar (zaS (zay (zab (zad rfl) (zab (zad rfl) (zab (zad rfl) zai))) rfl hF) (of_decide_eq_true rfl) rfl) ?_
 obtain ⟨pre,q2,q1,epre,hq2,hq1⟩:=zml hdl
 have hs2:(szc cs.length ls.length)[cs.length+ls.length]?=some 3:=by
  unfold szc
  rw [List.getElem?_append_right (by simp),List.length_append,List.length_replicate,List.length_replicate,Nat.sub_self]
  rfl
 have hs1:(szc cs.length ls.length)[cs.length+ls.length+1]?=some 7:=by
  unfold szc
  rw [List.getElem?_append_right (by simp),List.length_append,List.length_replicate,List.length_replicate,show cs.length+ls.length+1 - (cs.length+ls.length)=1 by omega]
  rfl
 obtain ⟨q20,q23⟩:=hdb _ _ _ hq2 hs2
 obtain ⟨q10,q17⟩:=hdb _ _ _ hq1 hs1
 obtain ⟨k,rfl⟩:∃ k:Nat,q1=k:=⟨q1.toNat,by omega⟩
 have x1:oIx (.list (dg.map PyData.int)) (.int (-1))=some (.int k):=zkQ (by rw [epre,List.map_append];simp)
 have x2:oIx (.list (dg.map PyData.int)) (.int (-2))=some (.int q2):=by rw [epre,List.map_append];exact znD
 let S0:Option Sl:=some (.pub (zaz cs ls))
 let S1:Option Sl:=some (.pub (.int r))
 let S2:Option Sl:=some (.pub (.int c))
 let S3:Option Sl:=some (.pub (.int s))
 let S4:Option Sl:=some (.pub (.list ((szc cs.length ls.length).map PyData.int)))
 let S5:Option Sl:=some (.pub (.list (dg.map PyData.int)))
 have hc:∃ ps:List Int,Asc cs.length ps/\zbl (gN 12) (dBin oEq (dIxN 5 (dVar 12)) (zah (.int 0))) (dVar 12) (zbp 0 cs.length) (zaH [S0,S1,S2,S3,S4,S5,none,none,none,none,none,none] ++ List.replicate 1 none) []=some (ps.map PyData.int):=by
  refine ⟨((List.range cs.length).filter fun j=>decide (dg.getD j 0=0)).map (fun j:Nat=>(j:Int)),⟨?_,?_⟩,?_⟩
  ·rw [List.pairwise_map]
   exact ((List.pairwise_lt_range).filter _).imp fun {a b} h=>by omega
  ·intro a ha
   obtain ⟨j,hj,rfl⟩:=List.mem_map.mp ha
   have:=List.mem_range.mp (List.mem_filter.mp hj).1
   omega
  ·rw [zce (fun d=>match d with | .int j=>decide (dg.getD j.toNat 0=0) | _=>false) (fun d=>d) (fun ρ=>∃ x,ρ = [S0,S1,S2,S3,S4,S5,none,none,none,none,none,none,x])]
   ·rw [List.nil_append,List.map_id']
    unfold zbp
    rw [List.filter_map,List.map_map]
    simp only [Int.sub_zero,Int.toNat_natCast,Int.zero_add]
    refine congrArg (fun l=>some (List.map (fun k:Nat=>PyData.int (k:Int)) l)) (List.filter_congr fun j hj=>?_)
    show decide (dg.getD (j:Int).toNat 0=0)=_
    rw [Int.toNat_natCast]
   ·rintro d hd ρ ⟨x,rfl⟩
    obtain ⟨j,⟨j0,j1⟩,rfl⟩:=zi4 hd
    refine ⟨_,tg_N (of_decide_eq_true rfl) rfl,zap (zaY rfl (zad rfl) (zkY j0 (by omega))) zag zbU,fun _=>zad rfl,⟨_,rfl⟩⟩
   ·exact ⟨none,rfl⟩
   ·rw [za0,List.length_nil];omega
 obtain ⟨ps,hps,hcl⟩:=hc
 refine zar (zbk (zbC (zcN (zab (zaQ (zab (zaY rfl zag zem) zai) hn) zai) (zck (by omega) (by omega))) hcl) (of_decide_eq_true rfl) rfl) ?_
 refine zar (zbk (zc3 zai (of_decide_eq_true rfl)) (of_decide_eq_true rfl) rfl) ?_
 let S6:Option Sl:=some (.own (ps.map PyData.int))
 let S11:Option Sl:=some (.pub (.int (k:Int)))
 have plen:=hps.len
 have r2:∀ (as ps:List Int) (X6 X7 x8 x9 x10:Option Sl),(X6=some (.pub (.list (ps.map PyData.int))) ∨ X6=some (.own (ps.map PyData.int)))->(X7=some (.pub (.list (as.map PyData.int))) ∨ X7=some (.own (as.map PyData.int)))->Asc ls.length as->Asc cs.length ps ->
   Ho (sRet (mTup (zae (dVar 7) (zae (dVar 6) (mNil))))) [S0,S1,S2,S3,S4,S5,X6,X7,x8,x9,x10,S11] (fun o=>∃ d,o=.rt d/\∃ as ps,d=covD as ps/\Asc ls.length as/\Asc cs.length ps):=by
  intro as ps X6 X7 x8 x9 x10 h6 h7 ha hp
  refine zaJ (zcC (zab (zkV (d:=.list (as.map PyData.int)) ?_) (zab (zkV (d:=.list (ps.map PyData.int)) ?_) zai)) (of_decide_eq_true rfl)) ⟨_,rfl,as,ps,rfl,ha,hp⟩
  ·rcases h7 with rfl | rfl
   ·exact .inl rfl
   ·exact .inr ⟨_,rfl,rfl⟩
  ·rcases h6 with rfl | rfl
   ·exact .inl rfl
   ·exact .inr ⟨_,rfl,rfl⟩
 have cutK:∀ {n:Nat} {xs:List Int},Asc n xs->k < xs.length->n<=1000->oAdd (.list (DL.cutD (xs.map PyData.int) none (some (k:Int)))) (.list (DL.cutD (xs.map PyData.int) (some ((k:Int)+1)) none))=some (.list ((xs.take k ++ xs.drop (k+1)).map PyData.int)):=by
  intro n xs hx hk hn
  have hl:=hx.len
  rw [zld,show ((k:Int)+1)=((k+1:Nat):Int) by omega,zfU (by rw [List.length_map];omega),← List.map_take,← List.map_drop,zbv (by rw [List.length_map,List.length_map,List.length_take,List.length_drop];omega),← List.map_append]
 have r1:∀ (as:List Int) (X7 x8 x9 x10:Option Sl),(X7=some (.pub (.list (as.map PyData.int))) ∨ X7=some (.own (as.map PyData.int)))->Asc ls.length as ->
   Ho (sSeq (sIf (mAnd (dBin oEq (dIxN 5 (dNeg (zah (.int 2)))) (zah (.int 2))) (zby (oIB fun i j=>decide (i < j)) 11 (zb1 6)))
 (sSet 6 (dBin oAdd (dSlA (dVar 6) (zah none) (zas (dVar 11) fun x=>mOpt (zcq x))) (dSlA (dVar 6) (zas (dBin oAdd (dVar 11) (zah (.int 1))) fun x=>mOpt (zcq x)) (zah none))))
 (sNx)) (sRet (mTup (zae (dVar 7) (zae (dVar 6) (mNil)))))) [S0,S1,S2,S3,S4,S5,S6,X7,x8,x9,x10,S11] (fun o=>∃ d,o=.rt d/\∃ as ps,d=covD as ps/\Asc ls.length as/\Asc cs.length ps):=by
  intro as X7 x8 x9 x10 h7 ha
  apply zaU
  refine zbe (zhW (zap (zaY rfl (zeP zag) x2) zag zbU) (fun _=>zbB rfl (zfI rfl) zhX)) (fun h=>?_) (fun _=>zbI (zaw (r2 as ps _ _ _ _ _ (.inr rfl) h7 ha hps)))
  have hk:k < ps.length:=by
   have:=(Bool.and_eq_true_iff.mp h).2
   have:=of_decide_eq_true this
   rw [List.length_map] at this
   omega
  refine za4 (zaS (zap (zcT (zbt rfl rfl) zag (zbT (zad rfl)) zbX) (zcT (zad rfl) (zbT (zap (zad rfl) zag zbb)) zag zbX) (cutK hps hk (by omega))) (of_decide_eq_true rfl) rfl) (zaw (r2 as (ps.take k ++ ps.drop (k+1)) _ _ _ _ _ (.inl rfl) h7 ha hps.cut))
 apply zaU
 apply zbJ (fun i ρ=>∃ (as:List Int) (x8 x9 x10:Option Sl),ρ = [S0,S1,S2,S3,S4,S5,S6,some (.own (as.map PyData.int)),x8,x9,x10,none]/\Asc i as)
 case h1=>exact zca (zab (zay (zab (zad rfl) (zab (zad rfl) zai)) rfl (ze6 g r)) zai) zbM
 case h0=>exact ⟨[],none,none,none,rfl,.nil,fun a h=>by cases h⟩
 case hst =>
  rintro i d ρ hi ⟨as,x8,x9,x10,rfl,ha⟩
  obtain ⟨x,hx,rfl⟩:=zbE hi
  rw [List.getElem?_map] at hx
  obtain ⟨row,hrow,rfl⟩:=Option.map_eq_some_iff.mp hx
  rw [Nat.zero_add]
  have hil:i < ls.length:=by
   have:=(List.getElem?_eq_some_iff.mp hrow).1
   unfold zbO at this
   rw [List.length_map] at this
   exact this
  have hrl:row.length<=6:=by
   unfold zbO at hrow
   rw [List.getElem?_map] at hrow
   obtain ⟨rs,hrs,rfl⟩:=Option.map_eq_some_iff.mp hrow
   have h1:rs.flatten=(rs.take r).flatten ++ (rs.drop r).flatten:=by rw [← List.flatten_append,List.take_append_drop]
   have h2:=congrArg List.length h1
   rw [List.length_append] at h2
   have h3:rs.flatten.length<=cs.length:=zde (g.rk rs (List.mem_of_getElem? hrs))
   omega
  refine ⟨[S0,S1,S2,S3,S4,S5,S6,some (.own (as.map PyData.int)),some (.pub (.int i)),some (.pub (za9 row)),x10,none],tg_T rfl (tg_C (tg_N (of_decide_eq_true rfl) rfl) (tg_C (tg_N (of_decide_eq_true rfl) rfl) tg_0)),?_⟩
  unfold zky
  have hc2:zbl (gN 12) (zby oNin 12 (dVar 6)) (dVar 12) (row.map PyData.int) (zb7 [S0,S1,S2,S3,S4,S5,S6,some (.own (as.map PyData.int)),some (.pub (.int i)),some (.pub (za9 row)),x10,none] ++ List.replicate 1 none) []=some ((row.filter fun t=>!ps.contains t).map PyData.int):=by
   rw [zce (fun d=>match d with | .int t=>!ps.contains t | _=>false) (fun d=>d) (fun ρ=>∃ y6 y7 y10 x,ρ = [S0,S1,S2,S3,S4,S5,some (.pub (.list (ps.map PyData.int))),y6,y7,some (.pub (za9 row)),y10,none,x])]
   ·rw [List.nil_append,List.map_id',List.filter_map]
    rfl
   ·rintro d hd ρ ⟨y6,y7,y10,x,rfl⟩
    obtain ⟨t,_,rfl⟩:=List.mem_map.mp hd
    exact ⟨_,tg_N (of_decide_eq_true rfl) rfl,zbB rfl (zad rfl) zme,fun _=>zad rfl,_,_,_,_,rfl⟩
   ·exact ⟨_,_,_,_,rfl⟩
   ·rw [List.length_map,List.length_nil];omega
  have hz:(szc cs.length ls.length)[cs.length+i]?=some 6:=by
   unfold szc
   rw [List.append_assoc,List.getElem?_append_right (by simp),List.getElem?_append_left (by simp;omega),List.getElem?_replicate,if_pos (by simp;omega)]
  have hj:cs.length+i < dg.length:=by omega
  have xd:oIx (.list (dg.map PyData.int)) (.int ((cs.length:Int)+(i:Int)))=some (.int dg[cs.length+i]):=by
   rw [show ((cs.length:Int)+(i:Int))=((cs.length+i:Nat):Int) by omega]
   exact zfZ (List.getElem?_eq_getElem hj)
  let S8:Option Sl:=some (.pub (.int (i:Int)))
  let S9:Option Sl:=some (.pub (za9 row))
  let S10:Option Sl:=some (.own ((row.filter fun t=>!ps.contains t).map PyData.int))
  refine zar (ρ1:=[S0,S1,S2,S3,S4,S5,S6,some (.own (as.map PyData.int)),S8,S9,S10,none]) (zbk (zia (zaT (zad rfl) zbw) hc2 (zkX _)) (of_decide_eq_true rfl) rfl) ?_
  have up:Asc (i+1) as:=⟨ha.up,fun a h=>by have:=ha.inn a h;omega⟩
  have up1:Asc (i+1) (as ++ [(i:Int)]):=⟨List.pairwise_append.mpr ⟨ha.up,List.pairwise_singleton _ _,fun a h b hb=>by
   have:=ha.inn a h
   have:=List.mem_singleton.mp hb
   omega⟩,fun a h=>by
   rcases List.mem_append.mp h with h | h
   ·have:=ha.inn a h;omega
   ·have:=List.mem_singleton.mp h;omega⟩
  have alen:=ha.len
  refine zbe (ρ1:=[S0,S1,S2,S3,S4,S5,S6,some (.own (as.map PyData.int)),S8,S9,S10,none]) (zpz (zfM rfl (zba zai (of_decide_eq_true rfl)) rfl zgP) (fun _=>zap (zaY rfl (zap (zaQ (zab (zaY rfl zag zem) zai) hn) (zad rfl) zbb) xd) zag zbU)) (fun _=>?_) (fun _=>zbI (zaO ⟨as,_,_,_,rfl,up⟩))
  refine za4 (zdE rfl (zad rfl) rfl (by rw [List.length_map];omega) rfl) (zaO ⟨as ++ [(i:Int)],S8,S9,S10,by rw [List.map_append];rfl,up1⟩)
 case hend =>
  rintro ρ ⟨as,x8,x9,x10,rfl,ha⟩
  have hll:((zcr 0 ((zbO r ls).map za9)).length)=ls.length:=by rw [zax,List.length_map];unfold zbO;rw [List.length_map]
  rw [hll] at ha
  have alen:=ha.len
  refine zaw ?_
  refine zar (ρ1:=[S0,S1,S2,S3,S4,S5,S6,some (.own (as.map PyData.int)),x8,x9,x10,S11]) (zaS (zaY rfl (zeP zag) x1) (of_decide_eq_true rfl) rfl) ?_
  apply zaU
  refine zbe (zhW (zap (zaY rfl (zeP zag) x2) zag zbU) (fun _=>zbB rfl (zfI rfl) zhX)) (fun h=>?_) (fun _=>zbI (zaw (r1 as _ _ _ _ (.inr rfl) ha)))
  have hk:k < as.length:=by
   have:=(Bool.and_eq_true_iff.mp h).2
   have:=of_decide_eq_true this
   rw [List.length_map] at this
   omega
  exact za4 (zaS (zap (zcT (zbt rfl rfl) zag (zbT (zad rfl)) zbX) (zcT (zad rfl) (zbT (zap (zad rfl) zag zbb)) zag zbX) (cutK ha hk (by omega))) (of_decide_eq_true rfl) rfl) (zaw (r1 (as.take k ++ as.drop (k+1)) _ _ _ _ (.inl rfl) ha.cut))
end
section
variable {cs:List Int} {ls:List (List (List Int))} {as ps:List Int}
theorem zhL (g:Good cs ls):(allW 0 ls).length<=42:=by rw [(zdR ls 0).length_eq];exact zhE g
theorem zlg:∀ {as:List Int},as.Pairwise (· < ·)->∀ p ∈ as.zip (as.drop 1),p.1 < p.2
 | [],_,p,h=>by cases h
 | [a],_,p,h=>by cases h
 | a :: b :: r,h,p,hp=>by
  have h':=List.pairwise_cons.mp h
  rw [List.drop_succ_cons,List.drop_zero,List.zip_cons_cons] at hp
  rcases List.mem_cons.mp hp with rfl | hp
  ·exact h'.1 b List.mem_cons_self
  ·exact zlg (as:=b :: r) h'.2 p hp
theorem zeh {n:Nat} (h:Asc n as) (hn:n<=1000):F_ay [.list (as.map PyData.int),.int n]=some (.bool true):=by
 refine zbf (ρ:=[some (.pub (.list (as.map PyData.int))),some (.pub (.int n))]) rfl ?_
 unfold g_ay
 have hl:=h.len
 have c1:zbl (gN 2) (zah true) (dFun 2 F_ab (zae (dVar 2) (zae (dVar 1) (mNil)))) (as.map PyData.int) (zaH [some (.pub (.list (as.map PyData.int))),some (.pub (.int n))] ++ List.replicate 1 none) []=some ([] ++ (as.map fun _=>true).map PyData.bool):=by
  refine zb6 (fun ρ=>∃ x,ρ = [some (.pub (.list (as.map PyData.int))),some (.pub (.int n)),x]) _ _ _ _ (by simp) ?_ ⟨none,rfl⟩ (by rw [List.length_map,List.length_nil];omega)
  rintro i d e hd he ρ ⟨x,rfl⟩
  rw [List.getElem?_map] at hd
  obtain ⟨a,ha,rfl⟩:=Option.map_eq_some_iff.mp hd
  rw [List.getElem?_map,List.getElem?_map,ha] at he
  cases he
  have:=h.inn a (List.mem_of_getElem? ha)
  exact ⟨_,tg_N (of_decide_eq_true rfl) rfl,rfl,zay (zab (zad rfl) (zab (zad rfl) zai)) rfl (zeV this.1 this.2),_,rfl⟩
 have all1:((as.map fun _=>true).all id)=true:=by rw [List.all_map];exact List.all_eq_true.mpr fun _ _=>rfl
 have c2:zbl (gT 2 (gNC (gN 2) (gNC (gN 3) (gN0)))) (zah true) (mMap PyData.bool (zby (oIB fun i j=>decide (i < j)) 2 (dVar 3))) (zipD (as.map PyData.int) (DL.cutD (as.map PyData.int) (some 1) none)) (zaH [some (.pub (.list (as.map PyData.int))),some (.pub (.int n))] ++ List.replicate 2 none) []=some ([] ++ ((as.zip (as.drop 1)).map fun _=>true).map PyData.bool):=by
  rw [zle,← List.map_drop,zkf]
  refine zb6 (fun ρ=>∃ x y,ρ = [some (.pub (.list (as.map PyData.int))),some (.pub (.int n)),x,y]) _ _ _ _ (by simp) ?_ ⟨none,none,rfl⟩ (by rw [List.length_map,List.length_nil,List.length_zip];omega)
  rintro i d e hd he ρ ⟨x,y,rfl⟩
  rw [List.getElem?_map] at hd
  obtain ⟨p,hp,rfl⟩:=Option.map_eq_some_iff.mp hd
  rw [List.getElem?_map,List.getElem?_map,hp] at he
  cases he
  refine ⟨_,tg_T rfl (tg_C (tg_N (of_decide_eq_true rfl) rfl) (tg_C (tg_N (of_decide_eq_true rfl) rfl) tg_0)),rfl,zaK (x:=true) (zbB rfl (zad rfl) ?_),_,_,rfl⟩
  show some (decide (p.1 < p.2))=_
  rw [decide_eq_true (zlg h.up p (List.mem_of_getElem? hp))]
 have all2:(((as.zip (as.drop 1)).map fun _=>true).all id)=true:=by rw [List.all_map];exact List.all_eq_true.mpr fun _ _=>rfl
 have v1:=zfN (bs:=as.map fun _=>true)
 rw [all1] at v1
 have v2:=zfN (bs:=(as.zip (as.drop 1)).map fun _=>true)
 rw [all2] at v2
 apply zaU
 refine zbe (b:=false) (zcE (zcO (t:=false) (zad rfl) rfl) (zcR (zbW (t:=true) (zaQ (zab (zaK (zbC (zaT (zad rfl) zbw) c1)) zai) v1)))) (fun z=>by cases z) (fun _=>zbI (zaw ?_))
 exact zaJ (zaQ (zab (zaK (zbC (zmE (zab (zad rfl) (zab (zcT (zad rfl) (zbT zag) zag zbX) zai)) rfl) c2)) zai) v2) rfl
def rk (ls:List (List (List Int))) (q:Int × Int):Nat:=zcU q.2 (ls.getD q.1.toNat [])
def wq (r:Nat) (ls:List (List (List Int))):List (Int × Int):=(allW 0 ls).filter fun q=>decide (rk ls q<=r)
def triD (q:Int × Int):D:=.tuple [.int q.1,.int q.2,.int 1]
theorem zlh (p:Int × Int->Bool):∀ (qs:List (Int × Int)),(qs.map fun q=>if p q then some (triD q) else none).filterMap id=(qs.filter p).map triD
 | []=>rfl
 | q :: r=>by
  have ih:=zlh p r
  rw [List.map_cons]
  cases h:p q with
  | true=>rw [List.filter_cons_of_pos h,List.map_cons,← ih];rfl
  | false=>rw [List.filter_cons_of_neg (by rw [h];decide),← ih];rfl
theorem zcV (g:Good cs ls) (r:Nat):F_av [zaz cs ls,.int r]=some (.list ((wq r ls).map triD)):=by
 refine zbf (ρ:=[some (.pub (zaz cs ls)),some (.pub (.int r))]) rfl ?_
 unfold g_av
 have few:=zhL g
 have hc:zbl (gT 2 (gNC (gN 2) (gNC (gN 3) (gN0)))) (dBin (oIB fun i j=>decide (i<=j)) (dFun 2 F_ah (zae (dBin oIx (dIxN 0 (zah (.int 1))) (dVar 2)) (zae (dVar 3) (mNil)))) (dVar 1)) (mTup (zae (dVar 2) (zae (dVar 3) (zae (zah (.int 1)) (mNil))))) ((allW 0 ls).map duoD) (zaH [some (.pub (zaz cs ls)),some (.pub (.int r))] ++ List.replicate 2 none) []=some ([] ++ (((allW 0 ls).map fun q=>if decide (rk ls q<=r) then some (triD q) else none).filterMap id)):=by
  refine zcG (fun ρ=>∃ x y,ρ = [some (.pub (zaz cs ls)),some (.pub (.int r)),x,y]) _ _ _ _ (by simp) ?_ ⟨none,none,rfl⟩ (by rw [List.length_map,List.length_nil];omega)
  rintro i d e hd he ρ ⟨x,y,rfl⟩
  rw [List.getElem?_map] at hd
  obtain ⟨q,hq,rfl⟩:=Option.map_eq_some_iff.mp hd
  rw [List.getElem?_map,hq] at he
  cases he
  obtain ⟨j,rs,h1,h2,h3⟩:=zdf (List.mem_of_getElem? hq)
  rw [Nat.zero_add] at h2
  have hg:ls.getD q.1.toNat []=rs:=by rw [h2,Int.toNat_natCast,List.getD_eq_getElem?_getD,h1];rfl
  have hix:oIx (.list (ls.map zaC)) (.int q.1)=some (zaC rs):=by rw [h2];exact zpI h1
  refine ⟨[some (.pub (zaz cs ls)),some (.pub (.int r)),some (.pub (.int q.1)),some (.pub (.int q.2))],tg_T rfl (tg_C (tg_N (of_decide_eq_true rfl) rfl) (tg_C (tg_N (of_decide_eq_true rfl) rfl) tg_0)),?_,?_,_,_,rfl⟩
  ·refine (zap (zay (zab (zap (zaY rfl zag zfc) (zad rfl) hix) (zab (zad rfl) zai)) rfl (zi0 q.2 rs)) (zad rfl) zhX).trans ?_
   dsimp only
   unfold rk
   rw [hg]
   by_cases hr:zcU q.2 rs<=r
   ·rw [decide_eq_true (show ((zcU q.2 rs:Nat):Int)<=(r:Int) by omega),decide_eq_true hr];rfl
   ·rw [decide_eq_false (show ¬ ((zcU q.2 rs:Nat):Int)<=(r:Int) by omega),decide_eq_false hr];rfl
  ·intro z hz
   dsimp only at hz
   split at hz
   ·cases hz
    exact zcC (zab (zad rfl) (zab (zad rfl) (zab zag zai))) (of_decide_eq_true rfl)
   ·cases hz
 rw [zlh] at hc
 exact zaJ (zaK (zbC (zaT (zay (zab (zad rfl) zai) rfl (zfW g)) zbw) hc)) rfl
def cvB (r:Nat) (ls:List (List (List Int))) (as ps:List Int):Bool:=(wq r ls).all fun q=>as.contains q.1 || ps.contains q.2
theorem zf4 (g:Good cs ls) (r:Nat) (ha:Asc ls.length as) (hp:Asc cs.length ps):F_az [zaz cs ls,.int r,covD as ps]=some (.bool (cvB r ls as ps)):=by
 have l7:=g.l7;have c6:=g.c6
 have few:=zhL g
 have hwl:(wq r ls).length<=42:=Nat.le_trans (List.length_filter_le _ _) few
 refine zbf (ρ:=[some (.pub (zaz cs ls)),some (.pub (.int r)),some (.pub (covD as ps)),none,none,none]) rfl ?_
 unfold g_az
 have hn:oLen [.list (cs.map PyData.int)]=some (.int cs.length):=by rw [zaE,List.length_map]
 have hm:oLen [.list (ls.map zaC)]=some (.int ls.length):=by rw [zaE,List.length_map]
 let S0:Option Sl:=some (.pub (zaz cs ls))
 let S1:Option Sl:=some (.pub (.int r))
 let S2:Option Sl:=some (.pub (covD as ps))
 let S3:Option Sl:=some (.pub (.list ((wq r ls).map triD)))
 let S4:Option Sl:=some (.pub (.list (as.map PyData.int)))
 let S5:Option Sl:=some (.pub (.list (ps.map PyData.int)))
 refine zar (ρ1:=[S0,S1,S2,S3,none,none]) (zaS (zay (zab (zad rfl) (zab (zad rfl) zai)) rfl (zcV g r)) (of_decide_eq_true rfl) rfl) ?_
 apply zaU
 refine zbe (b:=false) (ρ1:=[S0,S1,S2,S3,none,none]) (zcE (zcO (t:=false) (zad rfl) rfl) (zap (zbu rfl zhY) zag zgS)) (fun z=>by cases z) (fun _=>zbI (zaw ?_))
 refine zar (ρ1:=[S0,S1,S2,S3,S4,S5]) (zfp (zad rfl) (tg_T rfl (tg_C (tg_N (of_decide_eq_true rfl) rfl) (tg_C (tg_N (of_decide_eq_true rfl) rfl) tg_0)))) ?_
 apply zaU
 refine zbe (b:=false) (ρ1:=[S0,S1,S2,S3,S4,S5]) (zcE (zcR (zbW (t:=true) (zay (zab (zad rfl) (zab (zaQ (zab (zaY rfl zag zfc) zai) hm) zai)) rfl (zeh ha (by omega))))) (zcR (zbW (t:=true) (zay (zab (zad rfl) (zab (zaQ (zab (zaY rfl zag zem) zai) hn) zai)) rfl (zeh hp (by omega)))))) (fun z=>by cases z) (fun _=>zbI (zaw ?_))
 have hc:zbl (gT 3 (gNC (gN 6) (gNC (gN 7) (gNC (gN 8) (gN0))))) (zah true) (mOrV (mMap PyData.bool (zby oIn 6 (dVar 4))) (mMap PyData.bool (zby oIn 7 (dVar 5)))) ((wq r ls).map triD) (zaH [S0,S1,S2,S3,S4,S5] ++ List.replicate 3 none) []=some ([] ++ ((wq r ls).map fun q=>as.contains q.1 || ps.contains q.2).map PyData.bool):=by
  refine zb6 (fun ρ=>∃ x y z,ρ = [S0,S1,S2,S3,S4,S5,x,y,z]) _ _ _ _ (by simp) ?_ ⟨none,none,none,rfl⟩ (by rw [List.length_map,List.length_nil];omega)
  rintro i d e hd he ρ ⟨x,y,z,rfl⟩
  rw [List.getElem?_map] at hd
  obtain ⟨q,hq,rfl⟩:=Option.map_eq_some_iff.mp hd
  rw [List.getElem?_map,List.getElem?_map,hq] at he
  cases he
  exact ⟨_,tg_T rfl (tg_C (tg_N (of_decide_eq_true rfl) rfl) (tg_C (tg_N (of_decide_eq_true rfl) rfl) (tg_C (tg_N (of_decide_eq_true rfl) rfl) tg_0))),rfl,zoG (zaK (zbB rfl (zad rfl) zfX)) (fun _=>zaK (zbB rfl (zad rfl) zfX)),_,_,_,rfl⟩
 have v:=zfN (bs:=(wq r ls).map fun q=>as.contains q.1 || ps.contains q.2)
 rw [List.all_map] at v
 exact zaJ (zaQ (zab (zaK (zbC (zaT (zad rfl) zbw) hc)) zai) v) rfl
theorem zmm {t:Int} {rs:List (List Int)} (h:t ∈ rs.flatten) (r:Nat):zcU t rs<=r ↔ t ∈ (rs.take r).flatten:=by
 have hx:∃ x ∈ rs,(fun r:List Int=>r.contains t) x=true:=by
  obtain ⟨x,hx,ht⟩:=List.mem_flatten.mp h
  exact ⟨x,hx,List.contains_iff_mem.mpr ht⟩
 have hlt:=List.findIdx_lt_length.mpr hx
 have hat:=List.findIdx_getElem (w:=hlt)
 unfold zcU
 rw [if_pos hlt]
 constructor
 ·intro hr
  refine List.mem_flatten.mpr ⟨rs[rs.findIdx fun r=>r.contains t],?_,List.contains_iff_mem.mp hat⟩
  exact List.mem_take_iff_getElem.mpr ⟨_,by omega,rfl⟩
 ·intro ht
  obtain ⟨x,hx,hxt⟩:=List.mem_flatten.mp ht
  obtain ⟨j,hj,rfl⟩:=List.mem_take_iff_getElem.mp hx
  have : ¬ j < rs.findIdx (fun r=>r.contains t):=fun hl=>by
   have:=List.not_of_lt_findIdx hl
   exact absurd (List.contains_iff_mem.mpr hxt) (by simpa using this)
  omega
end
section
variable {cs:List Int} {ls:List (List (List Int))} {as ps:List Int}
theorem zpK:oIx (covD as ps) (.int 0)=some (.list (as.map PyData.int)):=zaW (j:=0) rfl
theorem zpL:oIx (covD as ps) (.int 1)=some (.list (ps.map PyData.int)):=zaW (j:=1) rfl
def sizI (cs as ps:List Int):Int:=as.length+(ps.map fun t=>cs.getD t.toNat 0).sum
theorem zjb (g:Good cs ls) (ha:Asc ls.length as) (hp:Asc cs.length ps):F_ba [zaz cs ls,covD as ps]=some (.int (sizI cs as ps)):=by
 have l7:=g.l7;have c6:=g.c6
 have hl:=hp.len
 refine zbf (ρ:=[some (.pub (zaz cs ls)),some (.pub (covD as ps)),none,none]) rfl ?_
 unfold g_ba
 let S0:Option Sl:=some (.pub (zaz cs ls))
 let S1:Option Sl:=some (.pub (covD as ps))
 let S2:Option Sl:=some (.pub (.list (as.map PyData.int)))
 let S3:Option Sl:=some (.pub (.list (ps.map PyData.int)))
 refine zar (ρ1:=[S0,S1,none,none]) (zd3 (zay (zab (zad rfl) zai) rfl (zeX g))) ?_
 refine zar (ρ1:=[S0,S1,S2,S3]) (zfp (zad rfl) (tg_T rfl (tg_C (tg_N (of_decide_eq_true rfl) rfl) (tg_C (tg_N (of_decide_eq_true rfl) rfl) tg_0)))) ?_
 have hc:zbl (gN 4) (zah true) (dBin oIx (dIxN 0 (zah (.int 0))) (dVar 4)) (ps.map PyData.int) (zaH [S0,S1,S2,S3] ++ List.replicate 1 none) []=some ([] ++ (ps.map fun t=>cs.getD t.toNat 0).map PyData.int):=by
  refine zb6 (fun ρ=>∃ x,ρ = [S0,S1,S2,S3,x]) _ _ _ _ (by simp) ?_ ⟨none,rfl⟩ (by rw [List.length_map,List.length_nil];omega)
  rintro i d e hd he ρ ⟨x,rfl⟩
  rw [List.getElem?_map] at hd
  obtain ⟨t,ht,rfl⟩:=Option.map_eq_some_iff.mp hd
  rw [List.getElem?_map,List.getElem?_map,ht] at he
  cases he
  have:=hp.inn t (List.mem_of_getElem? ht)
  exact ⟨_,tg_N (of_decide_eq_true rfl) rfl,rfl,zap (zaY rfl zag zem) (zad rfl) (zkY this.1 (by omega)),_,rfl⟩
 refine zaJ (zap (zbu rfl zaE) (zaQ (zab (zaK (zbC (zaT (zad rfl) zbw) hc)) zai) zh0) zbb) ?_
 rw [List.length_map]
 rfl
theorem zg2 (c s:Int):∃ r:Nat,F_bl [.int c,.int s]=some (.int r):=by
 obtain ⟨r',hF,dg,rfl,hdl,hdb⟩:=zbZ c s (sizes:=[8,1000000000000000000]) (fun x hx=>by
  simp only [List.mem_cons] at hx
  rcases hx with rfl | rfl | hx <;> first | omega | cases hx) (by decide)
 have hdl:dg.length=2:=hdl
 obtain ⟨d0,d1,rfl⟩:∃ d0 d1,dg=[d0,d1]:=by
  match dg,hdl with
  | [a,b],_=>exact ⟨a,b,rfl⟩
 have b0:=hdb 0 d0 8 rfl rfl
 have b1:=hdb 1 d1 1000000000000000000 rfl rfl
 obtain ⟨v,hv,ev⟩:=zoW (zs:=[0,1,2,3,4,5,6,6+d1]) (k:=d0) b0.1 b0.2
 have v0:0<=v:=by
  simp only [List.mem_cons,List.not_mem_nil,or_false] at hv
  omega
 obtain ⟨r,rfl⟩:∃ r:Nat,v=r:=⟨v.toNat,by omega⟩
 refine ⟨r,?_⟩
 refine zbf (ρ:=[some (.pub (.int c)),some (.pub (.int s)),none]) rfl ?_
 unfold g_bl
 refine zar (zaS (zay (zab (zad rfl) (zab (zad rfl) (zab (zba (zab zag (zab (zap zag zag (zka (i:=10) (j:=18) (by decide))) zai)) (of_decide_eq_true rfl)) zai))) rfl hF) (of_decide_eq_true rfl) rfl) ?_
 exact zaJ (zap (zba (zab zag (zab zag (zab zag (zab zag (zab zag (zab zag (zab zag (zab (zap zag (zaY rfl zag (zfZ (k:=1) (v:=d1) rfl)) zbb) zai)))))))) (of_decide_eq_true rfl)) (zaY rfl zag (zfZ (k:=0) (v:=d0) rfl)) ev) rfl
end
section
variable {cs:List Int} {ls:List (List (List Int))}
def zg3 (cs:List Int) (ls:List (List (List Int))) (j:Nat) (d:D):Prop:=∃ ws:List (Option Int),d=zaG ws/\ws.length=j/\(∀ (i:Nat) t rs,ws[i]?=some (some t)->ls[i]?=some rs->t ∈ rs.flatten)/\∀ (k:Nat) c,cs[k]?=some c->((ws.count (some (k:Int)):Nat):Int)<=c
theorem zg4 {ws:List (Option Int)} {o:Option Int} {rs:List (List Int)} (hi:ls[ws.length]?=some rs) (h1:∀ (i:Nat) t rs,ws[i]?=some (some t)->ls[i]?=some rs->t ∈ rs.flatten) (h2:∀ (k:Nat) c,cs[k]?=some c->((ws.count (some (k:Int)):Nat):Int)<=c) (ho:∀ t,o=some t->t ∈ rs.flatten) (hc:∀ (k:Nat) c,o=some (k:Int)->cs[k]?=some c->((ws.count (some (k:Int)):Nat):Int) < c):zg3 cs ls (ws.length+1) (.list (ws.map optD ++ [optD o])):=by
 refine ⟨ws ++ [o],by unfold zaG;rw [List.map_append];rfl,by rw [List.length_append];rfl,zeZ h1 hi ho,fun k c e=>?_⟩
 rw [List.count_append,List.count_singleton]
 split
 ·rename_i z
  have:=hc k c (by simpa using z) e
  omega
 ·have:=h2 k c e
  omega
theorem zmn (g:Good cs ls) (hn:cs.length < 4) (hm:ls.length < 4):∃ r,F_bn [zaz cs ls]=some r/\∃ ds,r=.list ds/\0 < ds.length/\ds.length<=64/\∀ d ∈ ds,∃ ws,d=zaG ws/\Deal cs ls ws:=by
 refine zcS (ρ:=[some (.pub (zaz cs ls)),none,none,none,none,none]) rfl ?_
 unfold g_bn
 refine zar (zbk (zc3 (zab (zba zai (of_decide_eq_true rfl)) zai) (of_decide_eq_true rfl)) (of_decide_eq_true rfl) rfl) ?_
 let S0:Option Sl:=some (.pub (zaz cs ls))
 apply zaU
 apply zbJ (fun j ρ=>∃ (s1 x2 x3 x4 x5:Option Sl) (ds:List D),ρ = [S0,s1,x2,x3,x4,x5]/\(s1=some (.pub (.list ds)) ∨ s1=some (.own ds))/\0 < ds.length/\ds.length<=4 ^ j/\∀ d ∈ ds,zg3 cs ls j d)
 case h1=>exact zcN (zab (zaQ (zab (zaY rfl zag zfc) zai) zaE) zai) (zck (by rw [List.length_map];omega) (by omega))
 case h0 =>
  refine ⟨_,none,none,none,none,[.list []],rfl,.inr rfl,Nat.succ_pos _,Nat.le_refl _,fun d hd=>?_⟩
  rw [List.mem_singleton.mp hd]
  exact ⟨[],rfl,rfl,fun i t rs e=>by simp at e,fun k c e=>by have:=g.c7 c (List.mem_of_getElem? e);simp;omega⟩
 case hst =>
  rintro j d ρ hj ⟨s1,x2,x3,x4,x5,ds,rfl,hs1,h0,h4,hp⟩
  obtain ⟨rfl,hjl⟩:=zbL hj
  rw [List.length_map] at hjl
  have hjm:j < ls.length:=by omega
  have h16:4 ^ j<=16:=by
   have:j=0 ∨ j=1 ∨ j=2:=by omega
   rcases this with rfl | rfl | rfl <;> decide
  have hls:ls[j]?=some ls[j]:=List.getElem?_eq_getElem hjm
  have gr:=g.rk _ (List.getElem_mem hjm)
  have hfl:=zde gr
  refine ⟨_,tg_N (of_decide_eq_true rfl) (by walk_at "set"),?_⟩
  unfold zkC
  rw [Int.zero_add]
  let S2:Option Sl:=some (.pub (.int j))
  refine zar (ρ1:=[S0,s1,S2,some (.own []),x4,x5]) (zbk (zc3 zai (of_decide_eq_true rfl)) (of_decide_eq_true rfl) rfl) ?_
  let S1:Option Sl:=some (.pub (.list ds))
  have hv:dVar 1 [S0,s1,S2,some (.own []),x4,x5]=.ok (.list ds) [S0,S1,S2,some (.own []),x4,x5]:=by
   rcases hs1 with rfl | rfl
   ·exact zad rfl
   ·exact zbt rfl rfl
  apply zaU
  apply zbJ (fun a ρ=>∃ (es:List D) (y4 y5:Option Sl),ρ = [S0,S1,S2,some (.own es),y4,y5]/\(0 < a->0 < es.length)/\es.length<=4 * a/\∀ d ∈ es,zg3 cs ls (j+1) d)
  case h1=>exact zaT hv zbw
  case h0=>exact ⟨[],x4,x5,rfl,fun h=>absurd h (Nat.lt_irrefl 0),Nat.le_refl _,fun d h=>by cases h⟩
  case hst =>
   rintro a d ρ ha ⟨es,y4,y5,rfl,he0,he4,hep⟩
   have hal:a < ds.length:=(List.getElem?_eq_some_iff.mp ha).1
   obtain ⟨ws,rfl,hwl,hw1,hw2⟩:=hp d (List.mem_of_getElem? ha)
   refine ⟨_,tg_N (of_decide_eq_true rfl) (by walk_at "set"),?_⟩
   unfold zkB
   let S4:Option Sl:=some (.pub (zaG ws))
   let th:List (Option Int):=none :: (zb0 ls[j].flatten).map some
   have hth:th.length<=4:=by show ((zb0 ls[j].flatten).map some).length+1<=4;rw [List.length_map,(za1 _).length_eq];omega
   have hit:oAdd (.list [.none]) (.list ((zb0 ls[j].flatten).map PyData.int))=some (.list (th.map optD)):=by
    rw [zbv (by rw [List.length_map,(za1 _).length_eq];show 1+_<=_;omega)]
    show _=some (PyData.list (.none :: ((zb0 ls[j].flatten).map some).map optD))
    rw [List.map_map]
    rfl
   have hw:=zdP (cs:=cs) hls (by omega)
   apply zbJ (fun b ρ=>∃ (es:List D) (y5:Option Sl),ρ = [S0,S1,S2,some (.own es),S4,y5]/\(0 < a+b->0 < es.length)/\es.length<=4 * a+b/\∀ d ∈ es,zg3 cs ls (j+1) d)
   case h1=>exact zaT (zap (zba (zab zag zai) (of_decide_eq_true rfl)) (zay (zab (zad rfl) (zab (zad rfl) zai)) rfl hw) hit) zbw
   case h0=>exact ⟨es,y5,rfl,he0,he4,hep⟩
   case hst =>
    rintro b d ρ hb ⟨fs,z5,rfl,hf0,hf4,hfp⟩
    rw [List.getElem?_map] at hb
    cases hz:th[b]? with
    | none=>rw [hz] at hb;cases hb
    | some u =>
    rw [hz] at hb
    cases hb
    have hbl:b < th.length:=(List.getElem?_eq_some_iff.mp hz).1
    refine ⟨_,tg_N (of_decide_eq_true rfl) (by walk_at "set"),?_⟩
    unfold zkA
    have happ:∀ hg:zg3 cs ls (j+1) (.list (ws.map optD ++ [optD u])),Ho (sApp 3 (dBin oAdd (dVar 4) (mLst (zae (dVar 5) (mNil))))) [S0,S1,S2,some (.own fs),S4,some (.pub (optD u))] (zeQ (fun ρ=>∃ (es:List D) (y5:Option Sl),ρ = [S0,S1,S2,some (.own es),S4,y5]/\(0 < a+(b+1)->0 < es.length)/\es.length<=4 * a+(b+1)/\∀ d ∈ es,zg3 cs ls (j+1) d) (zeQ (fun ρ=>∃ (es:List D) (y4 y5:Option Sl),ρ = [S0,S1,S2,some (.own es),y4,y5]/\(0 < a+1->0 < es.length)/\es.length<=4 * (a+1)/\∀ d ∈ es,zg3 cs ls (j+1) d) (ziP (sSet 1 (dVar 3)) (zeQ (fun ρ=>∃ (s1 x2 x3 x4 x5:Option Sl) (ds:List D),ρ = [S0,s1,x2,x3,x4,x5]/\(s1=some (.pub (.list ds)) ∨ s1=some (.own ds))/\0 < ds.length/\ds.length<=4 ^ (j+1)/\∀ d ∈ ds,zg3 cs ls (j+1) d) (ziP (sRet (dVar 1)) fun o=>∃ d,o=.rt d/\∃ ds,d=.list ds/\0 < ds.length/\ds.length<=64/\∀ d ∈ ds,∃ ws,d=zaG ws/\Deal cs ls ws))))):=by
     intro hg
     refine za4 (zdE rfl (zap (zad rfl) (zba (zab (zad rfl) zai) (of_decide_eq_true rfl)) (zbv (x:=ws.map optD) (by rw [List.length_map];show _+1<=_;omega))) rfl (by omega) rfl) (zaO ⟨fs ++ [.list (ws.map optD ++ [optD u])],some (.pub (optD u)),rfl,fun _=>by rw [List.length_append];exact Nat.succ_pos _,by rw [List.length_append];show _+1<=_;omega,fun x hx=>?_⟩)
     rcases List.mem_append.mp hx with h | h
     ·exact hfp x h
     ·rw [List.mem_singleton.mp h];exact hg
    cases u with
    | none =>
     refine zbe (b:=true) (ρ1:=[S0,S1,S2,some (.own fs),S4,some (.pub .none)]) (zoH (zaK (k:=isNon) (x:=PyData.none) (zad rfl))) (fun _=>happ ?_) fun z=>by cases z
     have:=zg4 (o:=none) (rs:=ls[j]) (by rw [hwl];exact hls) hw1 hw2 (fun t e=>by cases e) (fun k c e=>by cases e)
     rw [hwl] at this
     exact this
    | some t =>
     have htm:t ∈ ls[j].flatten:=by
      have hm:=List.mem_of_getElem? hz
      rcases List.mem_cons.mp hm with h | h
      ·cases h
      ·obtain ⟨t',ht',e⟩:=List.mem_map.mp h
       cases e
       exact (za1 _).mem_iff.mp ht'
     have htn:=gr.flat t htm
     have hct:oIx (.list (cs.map PyData.int)) (.int t)=some (.int (cs.getD t.toNat 0)):=by
      obtain ⟨k,rfl⟩:∃ k:Nat,t=k:=⟨t.toNat,by omega⟩
      rw [Int.toNat_natCast]
      exact zeY (by omega)
     refine zbe (b:=decide (((ws.count (some t):Nat):Int) < cs.getD t.toNat 0)) (ρ1:=[S0,S1,S2,some (.own fs),S4,some (.pub (.int t))]) (zcE (zaK (k:=isNon) (x:=PyData.int t) (zad rfl)) (zap (zer (zad rfl) (zab (zad rfl) zai) zd6) (zap (zaY rfl zag zem) (zad rfl) hct) rfl)) (fun hh=>happ ?_) fun hh=>?_
     ·have hlt:((ws.count (some t):Nat):Int) < cs.getD t.toNat 0:=of_decide_eq_true hh
      have:=zg4 (cs:=cs) (o:=some t) (rs:=ls[j]) (by rw [hwl];exact hls) hw1 hw2 (fun t' e=>by cases e;exact htm) (fun k c e ec=>by
       cases e
       rw [Int.toNat_natCast,List.getD_eq_getElem?_getD,ec] at hlt
       exact hlt)
      rw [hwl] at this
      exact this
     ·refine zbI (zaO ⟨fs,some (.pub (.int t)),rfl,fun _=>?_,by omega,hfp⟩)
      have hb0:b ≠ 0:=fun e=>by subst e;cases hz
      exact hf0 (by omega)
   case hend =>
    rintro ρ ⟨fs,z5,rfl,hf0,hf4,hfp⟩
    rw [List.length_map] at hf0 hf4
    have:1<=th.length:=Nat.succ_pos _
    exact zaO ⟨fs,_,_,rfl,fun _=>hf0 (by omega),by omega,hfp⟩
  case hend =>
   rintro ρ ⟨es,y4,y5,rfl,he0,he4,hep⟩
   refine zaw (za4 (zaS (zbt rfl rfl) (of_decide_eq_true rfl) rfl) (zaO ⟨_,_,_,_,_,es,rfl,.inl rfl,he0 h0,?_,hep⟩))
   rw [Nat.pow_succ]
   omega
 case hend =>
  rintro ρ ⟨s1,x2,x3,x4,x5,ds,rfl,hs1,h0,h4,hp⟩
  rw [za0,List.length_map,show ((ls.length:Int) - 0).toNat=ls.length by omega] at h4 hp
  have h64:4 ^ ls.length<=64:=by
   have:=g.l1
   have:ls.length=1 ∨ ls.length=2 ∨ ls.length=3:=by omega
   rcases this with e | e | e <;> rw [e] <;> decide
  have fin:∃ d,(Out.rt (.list ds))=.rt d/\∃ ds,d=.list ds/\0 < ds.length/\ds.length<=64/\∀ d ∈ ds,∃ ws,d=zaG ws/\Deal cs ls ws:=⟨_,rfl,ds,rfl,h0,by omega,fun d hd=>by
   obtain ⟨ws,e,h1,h2,h3⟩:=hp d hd
   exact ⟨ws,e,⟨h1,h2,h3⟩⟩⟩
  rcases hs1 with rfl | rfl
  ·exact zaw (zaJ (zad rfl) fin)
  ·exact zaw (zaJ (zbt rfl rfl) fin)
end
theorem ziq {f:Int × Int->Int} {ps:List Int}:∀ (ws:List (Option Int)) (as:List Int) (k:Nat),as.length=ws.length->(∀ a ∈ as,0<=a)->(∀ (i:Nat) t,ws[i]?=some (some t)->f (((k+i:Nat):Int),t)<=as.getD i 0+ps.getD t.toNat 0)->totF f k ws<=as.sum+pz ps ws
 | [],[],k,_,_,_=>by show (0:Int)<=0+0;omega
 | o :: ws,a :: as,k,hl,ha,h=>by
  have ih:=ziq (f:=f) (ps:=ps) ws as (k+1) (by simpa using hl) (fun x hx=>ha x (List.mem_cons_of_mem _ hx)) fun i t e=>by
   have:=h (i+1) t (by simpa using e)
   rw [show k+1+i=k+(i+1) by omega]
   simpa using this
  have h0:=ha a List.mem_cons_self
  rw [List.sum_cons]
  cases o with
  | none =>
   show 0+totF f (k+1) ws<=a+as.sum+(0+pz ps ws)
   omega
  | some t =>
   have h1:=h 0 t rfl
   have h1:f ((k:Int),t)<=a+ps.getD t.toNat 0:=by simpa using h1
   show f ((k:Int),t)+totF f (k+1) ws<=a+as.sum+(ps.getD t.toNat 0+pz ps ws)
   omega
 | [],_ :: _,_,hl,_,_=>by cases hl
 | _ :: _,[],_,hl,_,_=>by cases hl
section
variable {cs:List Int} {ls:List (List (List Int))} {ws:List (Option Int)} {qs:List (Int × Int)} {f:Int × Int->Int} {m:Nat} {as ps:List Int}
theorem zg5 (hp:zc7 cs.length m qs) (hd:zcp cs qs m ws) (ok:OkP cs.length m (fun a b=>f (a,b)) qs 1 as ps):totF f 0 ws<=zgT cs as ps:=by
 have h1:=ziq (f:=f) (ps:=ps) ws as 0 (by rw [ok.la,hd.len]) ok.aa fun i t e=>by
  have:=ok.le _ (hd.wish i t e)
  rw [Nat.zero_add]
  have e1:((i:Int)).toNat=i:=Int.toNat_natCast i
  rw [Int.one_mul] at this
  dsimp only at this
  rw [e1] at this
  exact this
 have hth:∀ t,some t ∈ ws->0<=t/\t < cs.length:=fun t ht=>by
  obtain ⟨i,hi⟩:=List.mem_iff_getElem?.mp ht
  have:=hp.lo _ (hd.wish i t hi)
  exact ⟨this.2.2.1,this.2.2.2⟩
 rw [ze1 ws hth] at h1
 unfold zgT
 rw [zd8 _ _ ok.lp]
 have h2:sumF cs.length (fun k=>((ws.count (some (k:Int)):Nat):Int) * ps.getD k 0)<=sumF cs.length fun k=>cs.getD k 0 * ps.getD k 0:=zf1 _ fun k hk=>by
  have hc:cs[k]?=some (cs.getD k 0):=by rw [List.getD_eq_getElem?_getD,List.getElem?_eq_getElem hk];rfl
  have hk2:0<=ps.getD k 0:=by
   rw [List.getD_eq_getElem?_getD,List.getElem?_eq_getElem (by rw [ok.lp];exact hk)]
   exact ok.pp _ (List.getElem_mem _)
  exact Int.mul_le_mul_of_nonneg_right (hd.cop k _ hc) hk2
 omega
theorem zjc (hp:zc7 cs.length m qs) (hd:zcp cs qs m ws) (st:ze5 cs f qs ws) {us:List (Option Int)} (hu:zcp cs qs m us):totF f 0 us<=totF f 0 ws:=by
 obtain ⟨ok,e⟩:=zmj hp hd (zf3 hp hd) (zk5 hp hd) (V:=fun p=>(ent (zaD (cs.length+1) (zea cs f qs ws) (cs.length+1)) p).1) (fun _=>rfl) st
 have:=zg5 hp hu ok
 rw [e] at this
 exact this
abbrev f1:Int × Int->Int:=uncV fun _ _=>1
def zbV (ws:List (Option Int)):Nat:=(ws.filter Option.isSome).length
theorem tot1:∀ (ws:List (Option Int)) (k:Nat),totF f1 k ws=(zbV ws:Nat)
 | [],_=>rfl
 | none :: ws,k=>by
  show 0+totF f1 (k+1) ws=_
  rw [tot1 ws (k+1)]
  show _=(((none :: ws).filter Option.isSome).length:Int)
  rw [List.filter_cons_of_neg (by simp)]
  unfold zbV
  omega
 | some t :: ws,k=>by
  show 1+totF f1 (k+1) ws=_
  rw [tot1 ws (k+1)]
  show _=(((some t :: ws).filter Option.isSome).length:Int)
  rw [List.filter_cons_of_pos (by simp),List.length_cons]
  unfold zbV
  omega
theorem zeu (g:Good cs ls) (r:Nat):zc7 cs.length ls.length (wq r ls) where
 nd:=(zfy ls 0 fun rs hr=>(g.rk rs hr).once).filter _
 lo:=fun q hq=>by
  have:=znB g q (List.mem_filter.mp hq).1
  exact ⟨this.1.1,this.1.2,this.2.1,this.2.2⟩
theorem zoY (g:Good cs ls) (r:Nat):(wq r ls).length<=42:=Nat.le_trans (List.length_filter_le _ _) (zhL g)
theorem zeo (g:Good cs ls) (r:Nat):∃ ws,F_aw [zaz cs ls,.int r]=some (zaG ws)/\zcp cs (wq r ls) ls.length ws/\ze5 cs f1 (wq r ls) ws:=by
 obtain ⟨d,hb,ws,rfl,h1,h2⟩:=zi9 (V:=fun _ _=>1) g (zeu g r) (by have:=zoY g r;omega) (M:=1) (by decide) (fun q _=>Int.le_refl _) (by have:=g.l7;omega)
 refine ⟨ws,?_,h1,h2⟩
 refine zbf (ρ:=[some (.pub (zaz cs ls)),some (.pub (.int r))]) rfl ?_
 unfold g_aw
 exact zaJ (zay (zab (zad rfl) (zab (zay (zab (zad rfl) (zab (zad rfl) zai)) rfl (zcV g r)) zai)) rfl hb) rfl
theorem zhM (g:Good cs ls) (r:Nat):∃ ws,F_ax [zaz cs ls,.int r]=some (.int (zbV ws:Nat))/\zcp cs (wq r ls) ls.length ws/\ze5 cs f1 (wq r ls) ws:=by
 obtain ⟨ws,hb,h1,h2⟩:=zeo g r
 refine ⟨ws,?_,h1,h2⟩
 refine zbf (ρ:=[some (.pub (zaz cs ls)),some (.pub (.int r))]) rfl ?_
 unfold g_ax
 have hl:ws.length<=7:=by rw [h1.len];exact g.l7
 have hc:zbl (gN 2) (mMap (fun d=>!isNon d) (dVar 2)) (dVar 2) (ws.map optD) (zaH [some (.pub (zaz cs ls)),some (.pub (.int r))] ++ List.replicate 1 none) []=some ((ws.filter Option.isSome).map optD):=by
  have em:(ws.filter Option.isSome).map optD=(ws.map fun o=>(if o.isSome then some (optD o) else none:Option D)).filterMap id:=by
   rw [List.filterMap_map]
   clear h1 h2 hb hl
   induction ws with
   | nil=>rfl
   | cons o ws ih=>cases o <;> simp [ih]
  rw [em]
  refine zcG (fun ρ=>∃ x,ρ = [some (.pub (zaz cs ls)),some (.pub (.int r)),x]) _ _ _ _ (by simp only [List.length_map]) ?_ ⟨none,rfl⟩ (by rw [List.length_map,List.length_nil];omega)
  rintro i d e hd he ρ ⟨x,rfl⟩
  rw [List.getElem?_map] at hd he
  cases hw:ws[i]? with
  | none=>rw [hw] at hd;cases hd
  | some o =>
  rw [hw] at hd he
  cases hd
  cases he
  refine ⟨_,tg_N (of_decide_eq_true rfl) rfl,?_,?_,_,rfl⟩
  ·cases o with
   | none=>exact zaK (k:=fun d=>!isNon d) (x:=PyData.none) (zad rfl)
   | some t=>exact zaK (k:=fun d=>!isNon d) (x:=PyData.int t) (zad rfl)
  ·intro v hv
   cases o with
   | none=>cases hv
   | some t=>cases hv;exact zad rfl
 refine zaJ (zaQ (zab (zaK (zbC (zaT (zay (zab (zad rfl) (zab (zad rfl) zai)) rfl hb) zbw) hc)) zai) zaE) ?_
 rw [List.length_map]
 rfl
def cutS (r:Nat) (ls:List (List (List Int))) (ws:List (Option Int)):List (Option Int):=List.zipWith (fun rs o=>match o with | some t=>if t ∈ (rs.take r).flatten then some t else none | none=>none) ls ws
theorem zg6 (r:Nat) (x:Int):∀ (ls:List (List (List Int))) (ws:List (Option Int)),(cutS r ls ws).count (some x)<=ws.count (some x)
 | [],ws=>by unfold cutS;simp
 | rs :: ls,[]=>by unfold cutS;simp
 | rs :: ls,o :: ws=>by
  have ih:=zg6 r x ls ws
  cases o with
  | none =>
   show (none :: cutS r ls ws).count (some x)<=(none :: ws).count (some x)
   rw [List.count_cons,List.count_cons]
   exact Nat.add_le_add ih (Nat.le_refl _)
  | some t =>
   show ((if t ∈ (rs.take r).flatten then some t else none) :: cutS r ls ws).count (some x)<=(some t :: ws).count (some x)
   have hc:(if t ∈ (rs.take r).flatten then some t else none)=some t ∨ (if t ∈ (rs.take r).flatten then some t else none)=none:=by split <;> simp
   generalize (if t ∈ (rs.take r).flatten then some t else none)=c at hc
   rcases hc with rfl | rfl
   ·rw [List.count_cons,List.count_cons]
    exact Nat.add_le_add ih (Nat.le_refl _)
   ·rw [List.count_cons,List.count_cons,show ((none:Option Int) == some x)=false from rfl]
    simp
    omega
theorem zmo (g:Good cs ls) (dl:Deal cs ls ws) (r:Nat):zcp cs (wq r ls) ls.length (cutS r ls ws) where
 len:=by unfold cutS;rw [List.length_zipWith,dl.len,Nat.min_self]
 wish:=fun i t h=>by
  unfold cutS at h
  rw [List.getElem?_zipWith] at h
  cases hl:ls[i]? with
  | none=>rw [hl] at h;cases h
  | some rs =>
  cases hw:ws[i]? with
  | none=>rw [hl,hw] at h;cases h
  | some o =>
  rw [hl,hw] at h
  cases o with
  | none=>cases h
  | some u =>
   have h:some (if u ∈ (rs.take r).flatten then some u else none)=some (some t):=h
   split at h
   ·rename_i hm
    cases h
    have hf:=dl.wish i t rs hw hl
    unfold wq
    refine List.mem_filter.mpr ⟨?_,?_⟩
    ·have:=zid (k:=0) hl hf
     rwa [Nat.zero_add] at this
    ·refine decide_eq_true ?_
     show zcU t (ls.getD ((i:Int)).toNat [])<=r
     rw [Int.toNat_natCast,List.getD_eq_getElem?_getD,hl]
     exact (zmm hf r).mpr hm
   ·cases h
 cop:=fun k c e=>by
  have h1:=zg6 r (k:Int) ls ws
  have h2:=dl.cop k c e
  omega
theorem zf5 {w:Nat->Int} {n:Nat}:∀ (l:List Int),l.Nodup->(∀ a ∈ l,0<=a/\a < n)->sumF n (fun k=>if (k:Int) ∈ l then w k else 0)=(l.map fun t=>w t.toNat).sum
 | [],_,_=>zdS n _ fun k _=>if_neg (by simp)
 | a :: l,hn,hl=>by
  rw [List.nodup_cons] at hn
  have ih:=zf5 (w:=w) (n:=n) l hn.2 fun x hx=>hl x (List.mem_cons_of_mem _ hx)
  have ha:=hl a List.mem_cons_self
  have e:sumF n (fun k=>if (k:Int) ∈ a :: l then w k else 0)=sumF n fun k=>(if k=a.toNat then w k else 0)+(if (k:Int) ∈ l then w k else 0):=zcH fun k hk=>by
   by_cases z:(k:Int)=a
   ·have h1:k=a.toNat:=by omega
    rw [if_pos (by rw [z];exact List.mem_cons_self),if_pos h1,if_neg (by rw [z];exact hn.1)]
    omega
   ·have h1 : ¬ k=a.toNat:=by omega
    rw [if_neg h1]
    by_cases y:(k:Int) ∈ l
    ·rw [if_pos (List.mem_cons_of_mem _ y),if_pos y];omega
    ·rw [if_neg (fun h=>by rcases List.mem_cons.mp h with h | h;exact z h;exact y h),if_neg y];rfl
  rw [e,zf0,zf2 n (by omega),ih,List.map_cons,List.sum_cons]
theorem zg7 {n:Nat} (h:Asc n as):as.Nodup:=h.up.imp fun h=>Int.ne_of_lt h
theorem zhN (g:Good cs ls) (r:Nat) (ha:Asc ls.length as) (hp:Asc cs.length ps) (hc:cvB r ls as ps=true) {us:List (Option Int)} (hu:zcp cs (wq r ls) ls.length us):(zbV us:Int)<=sizI cs as ps:=by
 let A:List Int:=(List.range ls.length).map fun i:Nat=>if (i:Int) ∈ as then 1 else 0
 let P:List Int:=(List.range cs.length).map fun t:Nat=>if (t:Int) ∈ ps then 1 else 0
 have ix:∀ (n:Nat) (h:Nat->Int) (k:Nat),k < n->((List.range n).map h).getD k 0=h k:=fun n h k hk=>by rw [List.getD_eq_getElem?_getD,List.getElem?_map,List.getElem?_range hk];rfl
 have ok:OkP cs.length ls.length (fun a b=>f1 (a,b)) (wq r ls) 1 A P:=⟨by decide,by show (List.map _ _).length=_;rw [List.length_map,List.length_range],by show (List.map _ _).length=_;rw [List.length_map,List.length_range],(fun a h=>by obtain ⟨i,_,rfl⟩:=List.mem_map.mp h;split <;> decide),(fun a h=>by obtain ⟨i,_,rfl⟩:=List.mem_map.mp h;split <;> decide),fun q hq=>by
  have hb:=(zeu g r).lo q hq
  have hcq:=List.all_eq_true.mp hc q hq
  rw [Bool.or_eq_true] at hcq
  have e1:((q.1.toNat:Nat):Int)=q.1:=by omega
  have e2:((q.2.toNat:Nat):Int)=q.2:=by omega
  show 1 * (1:Int)<=A.getD q.1.toNat 0+P.getD q.2.toNat 0
  rw [ix _ _ _ (by omega),ix _ _ _ (by omega),e1,e2]
  rcases hcq with h | h
  ·rw [if_pos (by simpa using h)];split <;> decide
  ·rw [if_pos (show q.2 ∈ ps by simpa using h)];split <;> decide⟩
 have h:=zg5 (f:=f1) (zeu g r) hu ok
 rw [tot1] at h
 have eA:A.sum=as.length:=by
  have:=zf5 (w:=fun _=>1) (n:=ls.length) as (zg7 ha) ha.inn
  show sumF ls.length (fun i:Nat=>if (i:Int) ∈ as then 1 else 0)=_
  rw [this]
  clear this h ok ha hc
  induction as with
  | nil=>rfl
  | cons a as ih=>rw [List.map_cons,List.sum_cons,ih,List.length_cons];omega
 have eP:(zmf P cs).sum=(ps.map fun t=>cs.getD t.toNat 0).sum:=by
  rw [zd8 _ _ (by show (List.map _ _).length=_;rw [List.length_map,List.length_range])]
  have:=zf5 (w:=fun k=>cs.getD k 0) (n:=cs.length) ps (zg7 hp) hp.inn
  rw [← this]
  refine zcH fun k hk=>?_
  rw [ix _ _ _ hk]
  by_cases z:(k:Int) ∈ ps
  ·rw [if_pos z,if_pos z,Int.mul_one]
  ·rw [if_neg z,if_neg z,Int.mul_zero]
 unfold zgT at h
 rw [eA,eP] at h
 unfold sizI
 exact h
end
def cutO (r:List Int):Option Int->Option Int
 | some t=>if t ∈ r then some t else none
 | none=>none
theorem zjd (r:List Int):oIn .none (za9 r)=some false:=by
 have h1:PyData.canLayAll0 (r.map PyData.int)=true:=zh8 r
 unfold oIn za9
 dsimp only
 rw [if_pos ⟨rfl,h1,by simp [PyData.depth]⟩]
 congr 1
 rw [List.any_map,List.any_eq_false]
 intro x _
 simp [PyData.eqv]
theorem zoZ (o:Option Int) (r:List Int):oIn (optD o) (za9 r)=some (cutO r o).isSome:=by
 cases o with
 | none=>exact zjd _
 | some t =>
  show oIn (.int t) _=_
  rw [zhC]
  unfold cutO
  by_cases h:t ∈ r
  ·simp [h]
  ·simp [h]
section
variable {cs:List Int} {ls:List (List (List Int))} {ws:List (Option Int)}
theorem zdW (g:Good cs ls) (dl:Deal cs ls ws) (r:Nat):F_bm [zaz cs ls,.int r,zaG ws]=some (.int (zbV (cutS r ls ws):Nat)):=by
 refine zbf (ρ:=[some (.pub (zaz cs ls)),some (.pub (.int r)),some (.pub (zaG ws)),none]) rfl ?_
 unfold g_bm
 have l7:=g.l7
 have hl:=dl.len
 refine zar (zaS (zay (zab (zad rfl) (zab (zad rfl) zai)) rfl (ze6 g r)) (of_decide_eq_true rfl) rfl) ?_
 have hc:zbl (gT 2 (gNC (gN 4) (gNC (gN 5) (gN0)))) (zby oIn 5 (dIxN 3 (dVar 4))) (dVar 4) (zcr 0 (ws.map optD)) (zaH [some (.pub (zaz cs ls)),some (.pub (.int r)),some (.pub (zaG ws)),some (.pub (.list ((zbO r ls).map za9)))] ++ List.replicate 2 none) []=some (((List.range ws.length).map fun i=>(if ((cutS r ls ws).getD i none).isSome then some (PyData.int (i:Nat)) else none:Option D)).filterMap id):=by
  refine zcG (fun ρ=>∃ x y,ρ = [some (.pub (zaz cs ls)),some (.pub (.int r)),some (.pub (zaG ws)),some (.pub (.list ((zbO r ls).map za9))),x,y]) _ _ _ _ (by rw [List.length_map,List.length_range,zax,List.length_map]) ?_ ⟨none,none,rfl⟩ (by rw [zax,List.length_map,List.length_nil];omega)
  rintro i d e hd he ρ ⟨x,y,rfl⟩
  obtain ⟨z,hz,rfl⟩:=zbE hd
  rw [List.getElem?_map] at hz
  cases hw:ws[i]? with
  | none=>rw [hw] at hz;cases hz
  | some o =>
  rw [hw] at hz
  cases hz
  have hil:i < ws.length:=(List.getElem?_eq_some_iff.mp hw).1
  obtain ⟨rs,hrs⟩:∃ rs,ls[i]?=some rs:=⟨_,List.getElem?_eq_getElem (by omega)⟩
  have hrow:oIx (.list ((zbO r ls).map za9)) (.int (i:Int))=some (za9 (rs.take r).flatten):=zaW (by unfold zbO;rw [List.getElem?_map,List.getElem?_map,hrs];rfl)
  have hcut:(cutS r ls ws).getD i none=(cutO (rs.take r).flatten o):=by
   unfold cutS
   rw [List.getD_eq_getElem?_getD,List.getElem?_zipWith,hrs,hw]
   cases o <;> rfl
  rw [List.getElem?_map,List.getElem?_range hil] at he
  cases he
  rw [Nat.zero_add]
  dsimp only
  rw [hcut]
  have hin:=zoZ o (rs.take r).flatten
  refine ⟨_,tg_T rfl (tg_C (tg_N (of_decide_eq_true rfl) rfl) (tg_C (tg_N (of_decide_eq_true rfl) rfl) tg_0)),?_,?_,_,_,rfl⟩
  ·have e:(if (cutO (rs.take r).flatten o).isSome=true then some (PyData.int (i:Nat)) else none:Option D).isSome=(cutO (rs.take r).flatten o).isSome:=by
    cases (cutO (rs.take r).flatten o) <;> rfl
   rw [e]
   exact zbB rfl (zaY rfl (zad rfl) hrow) hin
  ·intro v hv
   split at hv
   ·cases hv;exact zad rfl
   ·cases hv
 have hcl:(cutS r ls ws).length=ws.length:=by unfold cutS;rw [List.length_zipWith];omega
 have hcount:∀ (us:List (Option Int)) (k:Nat),(((List.range' k us.length).map fun i=>(if (us.getD (i - k) none).isSome then some (PyData.int (i:Nat)) else none:Option D)).filterMap id).length=zbV us:=fun us=>by
  induction us with
  | nil=>intro k;rfl
  | cons o us ih =>
   intro k
   rw [List.length_cons,List.range'_succ,List.map_cons]
   have e:(List.range' (k+1) us.length).map (fun i=>(if ((o :: us).getD (i - k) none).isSome then some (PyData.int (i:Nat)) else none:Option D))=(List.range' (k+1) us.length).map fun i=>(if (us.getD (i - (k+1)) none).isSome then some (PyData.int (i:Nat)) else none:Option D):=List.map_congr_left fun i hi=>by
    have:=(List.mem_range'_1.mp hi).1
    rw [show i - k=(i - (k+1))+1 by omega]
    rfl
   rw [e,Nat.sub_self]
   cases o with
   | none =>
    show (List.filterMap id (none :: _)).length=_
    rw [List.filterMap_cons]
    show (List.filterMap id _).length=_
    rw [ih (k+1)]
    unfold zbV
    rw [List.filter_cons_of_neg (by simp)]
   | some t =>
    show (List.filterMap id (some _ :: _)).length=_
    rw [List.filterMap_cons]
    show (List.filterMap id _).length+1=_
    rw [ih (k+1)]
    unfold zbV
    rw [List.filter_cons_of_pos (by simp),List.length_cons]
 refine zaJ (zaQ (zab (zaK (zbC (zca (zab (zad rfl) zai) zbM) hc)) zai) zaE) ?_
 have:=hcount (cutS r ls ws) 0
 rw [hcl,← List.range_eq_range'] at this
 simp only [Nat.sub_zero] at this
 rw [this]
end
theorem zmp:∀ ns:List Int,ns.length<=63->F_bo [.list (ns.map PyData.int)]=some (.bool true):=by
 intro ns hns
 refine zbf (ρ:=[some (.pub (.list (ns.map PyData.int))),none,none,none,none,none,none,none,none,none,none]) rfl ?_
 unfold g_bo
 obtain ⟨r,hr,cs,ls,rfl,g⟩:=zhB (ns:=ns) (by omega) 1
 have l7:=g.l7;have c6:=g.c6
 refine zar (zaS (zay (zab (zad rfl) (zab zag (zab zag (zab zag (zab zag zai))))) rfl hr) (of_decide_eq_true rfl) rfl) ?_
 obtain ⟨v0,hv0⟩:=zcg ns 0 (by omega)
 obtain ⟨v2,hv2⟩:=zcg ns 2 (by omega)
 obtain ⟨v3,hv3⟩:=zcg ns 3 (by omega)
 obtain ⟨rk,hrk⟩:=zg2 v0 5
 refine zar (zaS (zay (zab (zay (zab (zad rfl) (zab zag zai)) rfl hv0) (zab zag zai)) rfl hrk) (of_decide_eq_true rfl) rfl) ?_
 obtain ⟨lw,hlv,hld,hst⟩:=zhM g rk
 refine zar (zaS (zay (zab (zad rfl) (zab (zad rfl) zai)) rfl hlv) (of_decide_eq_true rfl) rfl) ?_
 obtain ⟨r,hdt,ws,rfl,dw⟩:=zfw g v3 2
 refine zar (zaS (zay (zab (zad rfl) (zab (zay (zab (zad rfl) (zab zag zai)) rfl hv3) (zab zag zai))) rfl hdt) (of_decide_eq_true rfl) rfl) ?_
 have hll:oLen [.list (ls.map zaC)]=some (.int ls.length):=by rw [zaE,List.length_map]
 have hlc:oLen [.list (cs.map PyData.int)]=some (.int cs.length):=by rw [zaE,List.length_map]
 refine zar (zaS (zaQ (zab (zaY rfl zag zfc) zai) hll) (of_decide_eq_true rfl) rfl) ?_
 refine zar (zaS zag (of_decide_eq_true rfl) rfl) ?_
 have lev:∀ us,Deal cs ls us->zbV (cutS rk ls us)<=zbV lw:=fun us du=>by
  have:=zjc (zeu g rk) hld hst (zmo g du rk)
  rw [tot1,tot1] at this
  omega
 have hlm:zbV lw<=ls.length:=by unfold zbV;rw [← hld.len];exact List.length_filter_le _ _
 have main:∀ (mo:Nat) (x7 x8 x9 x10:Option Sl),mo<=zbV lw->Ho (sSeq (sFor (zcY (zae (dBin oAdd (mLst (zae (dFun 2 F_bb (zae (dVar 0) (zae (zah (.int 2)) (mNil)))) (mNil))) (dSlA (dVar 0) (zas (zah (.int 9)) fun x=>mOpt (zcq x)) (zas (zah (.int 63)) fun x=>mOpt (zcq x)))) (mNil))) (gT 2 (gNC (gN 7) (gNC (gN 8) (gN0)))) zhy) (sRet (zah (.bool true)))) [some (.pub (.list (ns.map PyData.int))),some (.pub (zaz cs ls)),some (.pub (.int rk)),some (.pub (.int (zbV lw:Nat))),some (.pub (zaG ws)),some (.pub (.int ls.length)),some (.pub (.int (mo:Nat))),x7,x8,x9,x10] (fun o=>o=.rt (.bool true)):=fun mo x7 x8 x9 x10 hmo=>by
  apply zaU
  apply zbJ (fun _ ρ=>∃ (us:List (Option Int)) (sz:Int) (y7 y8 y9 y10:Option Sl),ρ = [some (.pub (.list (ns.map PyData.int))),some (.pub (zaz cs ls)),some (.pub (.int rk)),some (.pub (.int (zbV lw:Nat))),some (.pub (zaG us)),some (.pub (.int sz)),some (.pub (.int (mo:Nat))),y7,y8,y9,y10]/\Deal cs ls us/\((zbV lw:Nat):Int)<=sz)
  case h1 =>
   refine zca (zab (zap (zba (zab (zay (zab (zad rfl) (zab zag zai)) rfl hv2) zai) (of_decide_eq_true rfl)) (zcT (zad rfl) (zbT zag) (zbT zag) zbX) (zbv ?_)) zai) zbM
   have h1:(DL.cutD (ns.map PyData.int) (some 9) (some 63)).length<=ns.length:=by
    unfold DL.cutD
    rw [List.length_take,List.length_drop,List.length_map]
    omega
   show 1+_<=_
   omega
  case h0=>exact ⟨ws,ls.length,_,_,_,_,rfl,dw,by omega⟩
  case hst =>
   rintro i d ρ hi ⟨us,sz,y7,y8,y9,y10,rfl,du,hsz⟩
   obtain ⟨x,hx,rfl⟩:=zbE hi
   obtain ⟨c,rfl⟩:∃ c:Int,x=.int c:=by
    rcases List.mem_append.mp (List.mem_of_getElem? hx) with h | h
    ·exact ⟨v2,List.mem_singleton.mp h⟩
    ·unfold DL.cutD at h
     obtain ⟨c,_,rfl⟩:=List.mem_map.mp (List.mem_of_mem_drop (List.mem_of_mem_take h))
     exact ⟨c,rfl⟩
   refine ⟨_,tg_T rfl (tg_C (tg_N (of_decide_eq_true rfl) rfl) (tg_C (tg_N (of_decide_eq_true rfl) rfl) tg_0)),?_⟩
   rw [Nat.zero_add]
   unfold zhy
   have rest:∀ (vs:List (Option Int)) (sz2:Int) (z7 z8 z9 z10:Option Sl),Deal cs ls vs->((zbV lw:Nat):Int)<=sz2->Ho (sSeq (sSet 10 (zbg zix (zae (dVar 6) (zae (dFun 3 F_bm (zae (dVar 1) (zae (dVar 2) (zae (dVar 4) (mNil))))) (mNil)))))
     (sIf (mOr (zby (oIB fun i j=>decide (j < i)) 10 (dVar 5)) (mOr (zby (oIB fun i j=>decide (j < i)) 3 (dVar 5)) (zby (oIB fun i j=>decide (j < i)) 10 (dVar 3))))
     (sRet (zah (.bool false)))
     (sNx))) [some (.pub (.list (ns.map PyData.int))),some (.pub (zaz cs ls)),some (.pub (.int rk)),some (.pub (.int (zbV lw:Nat))),some (.pub (zaG vs)),some (.pub (.int sz2)),some (.pub (.int (mo:Nat))),z7,z8,z9,z10] (zeQ (fun ρ=>∃ (us:List (Option Int)) (sz:Int) (y7 y8 y9 y10:Option Sl),ρ = [some (.pub (.list (ns.map PyData.int))),some (.pub (zaz cs ls)),some (.pub (.int rk)),some (.pub (.int (zbV lw:Nat))),some (.pub (zaG us)),some (.pub (.int sz)),some (.pub (.int (mo:Nat))),y7,y8,y9,y10]/\Deal cs ls us/\((zbV lw:Nat):Int)<=sz) (ziP (sRet (zah (.bool true))) (fun o=>o=.rt (.bool true)))):=fun vs sz2 z7 z8 z9 z10 dv hs2=>by
    have hs:=lev vs dv
    refine zar (zaS (zaQ (zab (zad rfl) (zab (zay (zab (zad rfl) (zab (zad rfl) (zab (zad rfl) zai))) rfl (zdW g dv rk)) zai)) zkb) (of_decide_eq_true rfl) rfl) ?_
    generalize hmx:(if ((zbV (cutS rk ls vs):Nat):Int) > ((mo:Nat):Int) then ((zbV (cutS rk ls vs):Nat):Int) else ((mo:Nat):Int))=mx
    have hm1:mx<=((zbV lw:Nat):Int):=by rw [← hmx];split <;> omega
    have t1:oIB (fun i j=>decide (j < i)) (.int mx) (.int sz2)=some false:=by show some (decide (sz2 < mx))=_;rw [decide_eq_false (by omega)]
    have t2:oIB (fun i j=>decide (j < i)) (.int (zbV lw:Nat)) (.int sz2)=some false:=by show some (decide (sz2 < ((zbV lw:Nat):Int)))=_;rw [decide_eq_false (by omega)]
    have t3:oIB (fun i j=>decide (j < i)) (.int mx) (.int (zbV lw:Nat))=some false:=by show some (decide (((zbV lw:Nat):Int) < mx))=_;rw [decide_eq_false (by omega)]
    apply zbe
    case h1=>exact zcE (zbB rfl (zad rfl) t1) (zcE (zbB rfl (zad rfl) t2) (zbB rfl (zad rfl) t3))
    case h2=>intro hh;cases hh
    case h3=>exact fun _=>zbI (zaO ⟨vs,sz2,_,_,_,_,rfl,dv,hs2⟩)
   apply zaU
   apply zbe
   case h1=>exact zap (zap (zad rfl) zag (zds (by decide))) zag zbU
   case h2 =>
    intro _
    obtain ⟨dc,hcv,as,ps,rfl,ha,hp⟩:=zja g rk c (31+(i:Int))
    refine zar (zaS (zay (zab (zad rfl) (zab (zad rfl) (zab (zad rfl) (zab (zap zag (zad rfl) zbb) zai)))) rfl hcv) (of_decide_eq_true rfl) rfl) ?_
    have hlc2:F_az [zaz cs ls,.int rk,.tuple [.list (as.map PyData.int),.list (ps.map PyData.int)]]=some (.bool (cvB rk ls as ps)):=zf4 g rk ha hp
    apply zbe
    case h1=>exact zbW (zay (zab (zad rfl) (zab (zad rfl) (zab (zcC (zab (zaK (zau (zab (zaY rfl zag zpK) zai) (zbP (show zc1 [.list (as.map PyData.int)]=some (as.map PyData.int) from rfl)))) (zab (zaK (zau (zab (zaY rfl zag zpL) zai) (zbP (show zc1 [.list (ps.map PyData.int)]=some (ps.map PyData.int) from rfl)))) zai)) (of_decide_eq_true rfl)) zai))) rfl hlc2)
    case h2 =>
     intro hcb
     refine za4 (zaS (zay (zab (zad rfl) (zab (zad rfl) zai)) rfl (zjb g ha hp)) (of_decide_eq_true rfl) rfl) (zaw ?_)
     exact rest us _ _ _ _ _ du (zhN g rk ha hp hcb hld)
    case h3 =>
     intro _
     exact zbI (zaw (rest us sz _ _ _ _ du hsz))
   case h3 =>
    intro _
    obtain ⟨r1,hd1,w1,rfl,dw1⟩:=zfw g c (31+(i:Int))
    obtain ⟨r2,hd2,w2,rfl,dw2⟩:=zkW g du c (31+(i:Int))
    apply zbe
    case h1=>exact zap (zap (zad rfl) zag (zds (by decide))) zag zbU
    case h2 =>
     intro _
     refine za4 (zaS (zay (zab (zad rfl) (zab (zad rfl) (zab (zap zag (zad rfl) zbb) zai))) rfl hd1) (of_decide_eq_true rfl) rfl) (zaw ?_)
     exact rest w1 sz _ _ _ _ dw1 hsz
    case h3 =>
     intro _
     refine za4 (zaS (zay (zab (zad rfl) (zab (zad rfl) (zab (zad rfl) (zab (zap zag (zad rfl) zbb) zai)))) rfl hd2) (of_decide_eq_true rfl) rfl) (zaw ?_)
     exact rest w2 sz _ _ _ _ dw2 hsz
  case hend =>
   rintro ρ ⟨us,sz,y7,y8,y9,y10,rfl,_,_⟩
   exact zaw (zaJ zag rfl)
 apply zaU
 apply zbe
 case h1=>exact zhW (zap (zaQ (zab (zaY rfl zag zem) zai) hlc) zag rfl) (fun _=>zap (zaQ (zab (zaY rfl zag zfc) zai) hll) zag rfl)
 case h2 =>
  intro hh
  rw [Bool.and_eq_true] at hh
  have hn:cs.length < 4:=by have:=of_decide_eq_true hh.1;omega
  have hm:ls.length < 4:=by have:=of_decide_eq_true hh.2;omega
  obtain ⟨r,hal,ds,rfl,h0,h64,hds⟩:=zmn g hn hm
  have hserv:∃ xs:List Int,xs.length=ds.length/\(∀ x ∈ xs,0<=x/\x<=((zbV lw:Nat):Int))/\∀ y7 y8 y9 y10:Option Sl,zbl (gN 11) (zah true) (dFun 3 F_bm (zae (dVar 1) (zae (dVar 2) (zae (dVar 11) (mNil))))) ds ([some (.pub (.list (ns.map PyData.int))),some (.pub (zaz cs ls)),some (.pub (.int rk)),some (.pub (.int (zbV lw:Nat))),some (.pub (zaG ws)),some (.pub (.int ls.length)),some (.pub (.int 0)),y7,y8,y9,y10] ++ List.replicate 1 none) []=some (xs.map PyData.int):=by
   have key:∀ (es:List D),(∀ d ∈ es,∃ ws,d=zaG ws/\Deal cs ls ws)->∃ xs:List Int,xs.length=es.length/\(∀ x ∈ xs,0<=x/\x<=((zbV lw:Nat):Int))/\∀ (i:Nat) d,es[i]?=some d->∃ x,xs[i]?=some x/\F_bm [zaz cs ls,.int rk,d]=some (.int x):=fun es=>by
    induction es with
    | nil=>exact fun _=>⟨[],rfl,(fun x h=>by cases h),fun i d h=>by cases h⟩
    | cons d es ih =>
     intro hes
     obtain ⟨xs,h1,h2,h3⟩:=ih fun x hx=>hes x (List.mem_cons_of_mem _ hx)
     obtain ⟨us,rfl,du⟩:=hes d List.mem_cons_self
     refine ⟨((zbV (cutS rk ls us):Nat):Int) :: xs,by rw [List.length_cons,List.length_cons,h1],fun x hx=>?_,fun i d' hd'=>?_⟩
     ·rcases List.mem_cons.mp hx with rfl | hx
      ·have:=lev us du;omega
      ·exact h2 x hx
     ·cases i with
      | zero=>cases hd';exact ⟨_,rfl,zdW g du rk⟩
      | succ i=>exact h3 i d' (by simpa using hd')
   obtain ⟨xs,h1,h2,h3⟩:=key ds hds
   refine ⟨xs,h1,h2,fun y7 y8 y9 y10=>?_⟩
   refine zb6 (fun ρ=>∃ z7 z8 z9 z10 x,ρ = [some (.pub (.list (ns.map PyData.int))),some (.pub (zaz cs ls)),some (.pub (.int rk)),some (.pub (.int (zbV lw:Nat))),some (.pub (zaG ws)),some (.pub (.int ls.length)),some (.pub (.int 0)),z7,z8,z9,z10,x]) _ _ _ _ (by rw [List.length_map,h1]) ?_ ⟨y7,y8,y9,y10,none,rfl⟩ (by rw [List.length_nil];omega)
   rintro i d e hd he ρ ⟨z7,z8,z9,z10,x,rfl⟩
   obtain ⟨y,hy,hF⟩:=h3 i d hd
   rw [List.getElem?_map,hy] at he
   cases he
   exact ⟨_,tg_N (of_decide_eq_true rfl) rfl,rfl,zay (zab (zad rfl) (zab (zad rfl) (zab (zad rfl) zai))) rfl hF,_,_,_,_,_,rfl⟩
  obtain ⟨xs,hx1,hx2,hx3⟩:=hserv
  have hxl:1<=xs.length:=by omega
  have hmem:=zfG hxl
  obtain ⟨mo,hmo⟩:∃ mo:Nat,most xs=mo:=⟨(most xs).toNat,by have:=(hx2 _ hmem).1;omega⟩
  refine za4 (zaS (zaQ (zab (zaK (zbC (zaT (zay (zab (zad rfl) zai) rfl hal) zbw) (hx3 _ _ _ _))) zai) (zlS hxl)) (of_decide_eq_true rfl) rfl) (zaw ?_)
  rw [hmo]
  exact main mo _ _ _ _ (by have:=(hx2 _ hmem).2;omega)
 case h3 =>
  intro _
  exact zbI (zaw (main 0 _ _ _ _ (Nat.zero_le _)))
end W
open PySem PySem.W PyProof.Rows
set_option maxRecDepth 100000 in
set_option maxHeartbeats 0 in
theorem PySem.Challenge.cw_wishdeal_k53_whole_no_dealing_beyond_a_c_holds : PySem.Challenge.rw_wishdeal_k53_whole_no_dealing_beyond_a_c.Holds := by
 w_on;o_law
 refine holds_open (q:=W.q0) (loose:=[]) (Xt:=fun s=>xlAt W.q0 [] s && recOk [] s) (XP:=XL W.q0 []) (Yf:=Hook.obs .none) (Ya:=Hook.val .none) (YP:=Hook.says .none) (N:=3720) (d:=W.d_bo) (kwd:=[])
  W.zo2 (Hook.of .none) (Hook.keeps .none) (fun s e=>xl_of s (Bool.and_eq_true_iff.mp e).1) XL.keeps (by rfl) (by rfl) (by rfl)
  (fun s e=>recFacts_of (Bool.and_eq_true_iff.mp e).2) (by rfl) (by assumption) (by decide +kernel) ⟨rfl,rfl,rfl,rfl,rfl,by decide +kernel⟩ ?hw (W.walk W.zmp)
 case hw=>w_witness2


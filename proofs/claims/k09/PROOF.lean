import PyProof.Rows.All
import Wide.All
import OpenK.AllK
import Wide.FinOn
import Lean
import PyProof.EqAt
import PyProof.EqKinds
import PyProof.TupleCall
import PyProof.EnumMake
import PyProof.ZipIter
import PyProof.ExcClass2
import PyProof.ExcInit
import PyProof.ExcBaseAll.ValueError
import PyProof.FString2
import PyProof.ExcArgsOwn
import PyProof.InstStoreFacts
import ObjForm.Fk.InstStore
import ObjForm.Fk.InstLoad
import PyProof.StationsW
import PyProof.RulesAs
import PyProof.NsDelKeeps
import OpenK.KMore
import PyProof.IsiBase
import OpenK.KNot
import PyProof.Rows.RuleN_isinstance
import PyProof.NeData
import PyProof.P3In
import PyProof.StrWalks
import PyProof.ConsumeWalk
import PyProof.SliceStr2
import PyProof.MeetsStr
import KE.KItem
import KE.KUnpack
import KE.KRevSl
import PyProof.Rows.SetFrom
import PyProof.SetRoads
import PyProof.Rows.Range3
import PyProof.CallType
import PyProof.Rows.CallKwBuiltin
import PyProof.Rows.MinMaxN
import PyProof.SumWalkG
import PyProof.Rows.SeqMore
import PyProof.Rows.SortWalk
import PyProof.Rows.SumAny
import PyProof.Rows.SeqMore2
import KE.KSortTup
import PyProof.Rows.SortShellK
import PyProof.ReprRoads
import PyProof.ReprBulk
import PyProof.CallFns
import PyProof.NeKinds
import PyProof.Rows.StrJoinMade
import PyProof.StrCalls
import KE.KIntText
import PyProof.ReprDict
import PyProof.DictIter
import PyProof.Rows.DictUnroll
import PySem.Challenge.RW_wishdeal_k09_longest_and_all
set_option Elab.async false
set_option linter.all false
set_option maxRecDepth 100000
set_option maxHeartbeats 4000000
namespace DL
open PySem PySem.Spec PySem.W PyProof.Rows
def topRunT (tb:String->Option Builtin) (p:Program) (w:World) (m:Nat) (ann:Option Value):Nat->SharedT->Thread->Option SharedT
 | 0,_,_=>none
 | n+1,s,t=>match through t,stepOk m ann t with
  | true,_=>some s
  | false,false=>none
  | false,true=>match stepT (denote tb) p w s t with
   | some x=>topRunT tb p w m ann n x.1 x.2
   | none=>none
theorem zdc {tb:String->Option Builtin} {p:Program} {w:World} {m:Nat} {ann:Option Value}:∀ {n:Nat} {s s':SharedT} {t:Thread},topRunT tb p w m ann n s t=some s'->topRun tb p w m ann n s.abs t=some s'.abs
 | 0,_,_,_,h=>by cases h
 | n+1,s,s',t,h=>by
  rw [topRunT] at h
  rw [topRun]
  cases ht:through t with
  | true=>rw [ht] at h;cases h;rfl
  | false =>
   rw [ht] at h
   cases hk:stepOk m ann t with
   | false=>rw [hk] at h;cases h
   | true =>
    rw [hk] at h
    dsimp only at h ⊢
    cases hs:stepT (denote tb) p w s t with
    | none=>rw [hs] at h;cases h
    | some x=>rw [hs] at h;rw [stepT_spec hs];exact zdc h
def btOf (l:List Obj):BT:=(l.foldl (fun (x:BT × Nat) o=>(x.1.ins x.2 o,x.2+1)) (.nil,0)).1
noncomputable def T0 (w:World) (os:OsState):SharedT:=⟨btOf (boot_heap w.params).objs.toList,11,(boot_heap w.params).life,#[],boot_drawn,boot_toks,os⟩
theorem ziV (w:World) (os:OsState):(T0 w os).abs=⟨boot_heap w.params,#[],boot_drawn,boot_toks,os⟩:=by kernel_rfl
theorem zhj (w:World):((boot_heap w.params).isNs mainGlobals && (#[]:Array GenState).size == 0,(boot_heap w.params).objs.size,(boot_heap w.params).nsMap mainGlobals "__annotations__")=(true,11,some (.ref 6)):=by kernel_rfl
noncomputable abbrev zmg (p q:Program) (loose:List Str) (Xt:Shared->Bool) (w:World) (t:SharedT) :=
 ((staticsOk (importedModules p.main.body) (boot_heap w.params) t.abs.heap && namesBound p t.abs.heap && gensDone t.abs && laidKept (boot_heap w.params) t.abs.heap),openSeen q loose (importedModules p.main.body) Xt true t.abs)
theorem zj2 {p q:Program} {loose:List Str} {Xt:Shared->Bool} {N M:Nat} (e:opening p=plainProg p.main.scope.names) (hN:Nat.ble 600 N=true) (f:∀ s,fenceModules? p s=some s) (le:Nat.ble M N=true)
  (run:∀ (w:World) (os:OsState),(topRunT treeTable p w 11 (some (.ref 6)) M (T0 w os) (topStub p)).map (zmg p q loose Xt w)=some (true,openGood q loose)):LeftO p q loose Xt (Hook.obs .none) (Hook.val .none) N:=fun w=>by
 obtain ⟨⟨h,gs,d,k,os⟩,e0,e'⟩:=Option.map_eq_some_iff.mp (boot_open e hN f w)
 have e':(h,gs,d,k)=(boot_heap w.params,#[],boot_drawn,boot_toks):=e'
 obtain ⟨rfl,rfl,rfl,rfl⟩:h=boot_heap w.params/\gs = #[]/\d=boot_drawn/\k=boot_toks:=by simpa only [Prod.mk.injEq] using e'
 obtain ⟨t,ht,l⟩:=Option.map_eq_some_iff.mp (run w os)
 have hr:=zdc ht
 rw [ziV] at hr
 have r:=topRun_mono (N - M) _ _ _ _ hr
 rw [show M+(N - M)=N by have:=Nat.le_of_ble_eq_true le;omega] at r
 obtain ⟨l1,l2⟩:=Prod.mk.inj l
 have z:=zhj w
 obtain ⟨z1,z2,z3⟩:_/\_/\_:=by simpa only [Prod.mk.injEq] using z
 have tf:topFrom treeTable p w N ⟨boot_heap w.params,#[],boot_drawn,boot_toks,os⟩=some t.abs:=by
  unfold topFrom
  dsimp only
  rw [z1,z2,z3,r]
  show (match staticsOk (importedModules p.main.body) (boot_heap w.params) t.abs.heap && namesBound p t.abs.heap && gensDone t.abs && laidKept (boot_heap w.params) t.abs.heap with | true=>some t.abs | false=>none)=_
  rw [l1]
 unfold openEnds
 rw [e0]
 show (topFrom treeTable p w N _).map _=_
 rw [tf]
 exact congrArg some (Prod.ext l2 rfl)
end DL
open PySem in
lay_quick PySem.Challenge.pw_wishdeal_k09_longest_and_all DL.topRunT PySem.W.openGood PySem.W.staticsOk PySem.W.namesBound PySem.W.laidKept PySem.W.xlAt
namespace W
open PySem PySem.Spec DL
abbrev p0:Program:=PySem.Challenge.pw_wishdeal_k09_longest_and_all
def zdm:List Nat:=[1,2,4,5,7,8,9,10,11,12,13,14,15,16,17,19,20,21,22,23,24,25,26,27]
def ixL:List Nat:=[4,5,11,12,13,14,15,16,17,19,20,21,22,23,24,25,26,27]
abbrev q0:Program:=PySem.W.view p0 zdm
theorem zmh:∀ (w:World) (os:OsState),(PySem.W.Fast.tw10708255244068714335 PySem.W.Fast.tw14364793385576792824 PySem.W.Fast.tw9858352083553473798 w 11 (some (.ref 6)) 1183 (T0 w os) (PySem.W.topStub PySem.W.Fast.tw9858352083553473798)).map (fun t=>((PySem.W.Fast.tw13471830651028734593 (PySem.W.Fast.tw5923862056798008813 (Program.main PySem.W.Fast.tw9858352083553473798).body) (PySem.W.boot_heap w.params) t.abs.heap && PySem.W.Fast.tw4683006035507612052 PySem.W.Fast.tw9858352083553473798 t.abs.heap && PySem.W.gensDone t.abs && PySem.W.Fast.tw16898566250750103049 (PySem.W.boot_heap w.params) t.abs.heap),PySem.W.Fast.tw4187177175401517315 (PySem.W.view PySem.W.Fast.tw9858352083553473798 zdm) [] (PySem.W.Fast.tw5923862056798008813 (Program.main PySem.W.Fast.tw9858352083553473798).body) (fun s=>PySem.W.Fast.tw4757257242682413121 (PySem.W.view PySem.W.Fast.tw9858352083553473798 zdm) [] s && PySem.W.recOk [] s) true t.abs))=some (true,PySem.W.Fast.tw3486900944545009338 (PySem.W.view PySem.W.Fast.tw9858352083553473798 zdm) []):=by
 intro w os
 kernel_rfl
theorem zmi:PySem.W.LeftO p0 q0 [] (fun s=>PySem.W.xlAt q0 [] s && PySem.W.recOk [] s) (PySem.W.Hook.obs .none) (PySem.W.Hook.val .none) 2266:=by
 refine zj2 (M:=1183) (by kernel_rfl) rfl (fun s=>by kernel_rfl) rfl fun w os=>?_
 have h:=zmh w os
 rw [← PySem.W.Fast.te10708255244068714335,← PySem.W.Fast.te14364793385576792824,← PySem.W.Fast.te4187177175401517315,← PySem.W.Fast.te5923862056798008813,← PySem.W.Fast.te13471830651028734593,← PySem.W.Fast.te4683006035507612052,← PySem.W.Fast.te16898566250750103049,← PySem.W.Fast.te4757257242682413121,← PySem.W.Fast.te3486900944545009338,← PySem.W.Fast.te9858352083553473798] at h
 exact h
end W
namespace L2
open PySem PySem.Spec PyProof.Rows
abbrev Key:=Sum Int Str
def zle:Key->Value->Bool
 | .inl k,v=>Value.isInt k v
 | .inr x,v=>Value.isStrOf x v
def keyH (w:World):Key->Int
 | .inl k=>hashInt k
 | .inr x=>hashStr w x
theorem zaJ:∀ {k:Key} {v:Value},zle k v=true->(∃ i t,k=Sum.inl i/\v=Value.int i t) ∨ (∃ x t,k=Sum.inr x/\v=Value.str x t)
 | .inl i,v,h=>by
  obtain ⟨t,e⟩:=Value.isInt_shape (k:=i) (v:=v) h
  exact .inl ⟨i,t,rfl,e⟩
 | .inr x,v,h=>by
  obtain ⟨t,e⟩:=Value.isStrOf_shape (x:=x) (v:=v) h
  exact .inr ⟨x,t,rfl,e⟩
theorem zlf (a b:Int):decide ((Sum.inl a:Key)=Sum.inl b)=(a == b):=by
 by_cases e:a=b
 ·subst e;simp
 ·have h : ¬ (Sum.inl a:Key)=Sum.inl b:=fun q=>e (Sum.inl.inj q)
  rw [decide_eq_false h]
  exact (beq_eq_false_iff_ne.mpr e).symm
theorem zlg (a b:Str):decide ((Sum.inr a:Key)=Sum.inr b)=decide (a=b):=by
 by_cases e:a=b
 ·subst e;simp
 ·have h : ¬ (Sum.inr a:Key)=Sum.inr b:=fun q=>e (Sum.inr.inj q)
  rw [decide_eq_false h,decide_eq_false e]
theorem zlh (a:Int) (b:Str):decide ((Sum.inl a:Key)=Sum.inr b)=false:=decide_eq_false (fun q=>nomatch q)
theorem zli (a:Str) (b:Int):decide ((Sum.inr a:Key)=Sum.inl b)=false:=decide_eq_false (fun q=>nomatch q)
def zhk (prog:Program) (w:World):PySem.KeyKind prog w Key where
 is:=zle
 hash:=keyH w
 inj:=fun v a b ha hb=>by
  rcases zaJ ha with ⟨i,t,rfl,rfl⟩ | ⟨x,t,rfl,rfl⟩
  ·rcases zaJ hb with ⟨j,u,rfl,e⟩ | ⟨y,u,rfl,e⟩
   ·injection e with e1 _;rw [e1]
   ·exact nomatch e
  ·rcases zaJ hb with ⟨j,u,rfl,e⟩ | ⟨y,u,rfl,e⟩
   ·exact nomatch e
   ·injection e with e1 _;rw [e1]
 byValue:=fun k v h=>by
  rcases zaJ h with ⟨i,t,rfl,rfl⟩ | ⟨x,t,rfl,rfl⟩ <;> rfl
 pyHash:=fun hv h=>by
  rcases zaJ hv with ⟨i,t,rfl,rfl⟩ | ⟨x,t,rfl,rfl⟩
  ·exact wpAny_pyHash_int h
  ·exact wpAny_pyHash_str h
 eqBool:=fun hu hv h=>by
  rcases zaJ hu with ⟨i,t,rfl,rfl⟩ | ⟨x,t,rfl,rfl⟩
  ·rcases zaJ hv with ⟨j,u,rfl,rfl⟩ | ⟨y,u,rfl,rfl⟩
   ·rw [zlf] at h;exact wpAny_eqBool_int h
   ·rw [zlh] at h;exact SeqAt.EqAt.int_str i t y u _ _ _ _ h
  ·rcases zaJ hv with ⟨j,u,rfl,rfl⟩ | ⟨y,u,rfl,rfl⟩
   ·rw [zli] at h;exact SeqAt.EqAt.str_int x t j u _ _ _ _ h
   ·rw [zlg] at h;exact wpAny_eqBool_str h
 «strs»:=fun k x t v h=>by
  rcases zaJ h with ⟨i,u,rfl,e⟩ | ⟨y,u,rfl,e⟩
  ·exact nomatch e
  ·injection e with e1 _
   subst e1
   cases v <;> rfl
inductive V where
 | non | bl (b:Bool) | int (i:Int) | str (x:Str) | byt (b:Array UInt8) | flt (b:UInt64) | ref (a:Addr) | ty (n:String)
 deriving DecidableEq
def RelV:V->Value->Prop
 | .non,u=>u=Value.none
 | .bl b,u=>u=Value.bool b
 | .int i,u=>∃ t,u=Value.int i t
 | .str x,u=>∃ t,u=Value.str x t
 | .byt b,u=>∃ t,u=Value.bytes b t
 | .flt b,u=>∃ t,u=Value.float b t
 | .ref a,u=>u=Value.ref a
 | .ty n,u=>u=Value.type n
abbrev Vals:List V->List Value->Prop:=Paired RelV
theorem Vals.length {xs:List V} {us:List Value} (r:Vals xs us):xs.length=us.length:=Paired.length r
theorem Vals.get:∀ {xs:List V} {us:List Value} {i:Nat} {x:V},Vals xs us->xs[i]?=some x->∃ u,us[i]?=some u/\RelV x u
 | _,_,_,_,.nil,e=>by simp at e
 | _,_,0,_,.cons r _,e=>by simp at e;subst e;exact ⟨_,rfl,r⟩
 | _,_,i+1,x,.cons _ t,e=>by
  obtain ⟨u,h1,h2⟩:=Vals.get (i:=i) (x:=x) t (by simpa using e)
  exact ⟨u,by simpa using h1,h2⟩
theorem Vals.append:∀ {xs ys:List V} {us ws:List Value},Vals xs us->Vals ys ws->Vals (xs ++ ys) (us ++ ws)
 | _,_,_,_,.nil,s=>s
 | _,_,_,_,.cons r t,s=>.cons r (Vals.append t s)
theorem Vals.take:∀ {xs:List V} {us:List Value} (n:Nat),Vals xs us->Vals (xs.take n) (us.take n)
 | _,_,0,_=>.nil
 | _,_,_+1,.nil=>.nil
 | _,_,n+1,.cons r t=>.cons r (Vals.take n t)
theorem Vals.drop:∀ {xs:List V} {us:List Value} (n:Nat),Vals xs us->Vals (xs.drop n) (us.drop n)
 | _,_,0,r=>r
 | _,_,_+1,.nil=>.nil
 | _,_,n+1,.cons _ t=>Vals.drop n t
def RelO:Option V->Option Value->Prop
 | some v,some u=>RelV v u
 | none,none=>True
 | _,_=>False
def KV {κ : Type}:List (κ × V)->List (κ × Value)->Prop:=Paired fun (p : κ × V) (q : κ × Value)=>p.1=q.1/\RelV p.2 q.2
def kV:Key->V
 | .inl i=>.int i
 | .inr x=>.str x
inductive HO where
  | lst (xs:List V)
  | tup (xs:List V)
  | dK (kvs:List (Key × V)) | dT (kvs:List (List Key × V))
  | set (S:Int->Bool) (n:Nat)
  | ins (C dx:Addr) (fs:List (Str × V))
  | own (x:Addr)
  | xd (fs:List (Str × V))
  | met (f x:Addr)
  | rng (lo hi:Int)
  | frz (o:Obj) (u:HO)
  | tbl (ps:Array Value)
  | ext (φ : Heap->Prop)
abbrev Hp:=Addr->Option HO
def upd (H:Hp) (a:Addr) (o:HO):Hp:=fun b=>if b=a then some o else H b
theorem zas {H:Hp} {a:Addr} {o:HO}:upd H a o a=some o:=by unfold upd;rw [if_pos rfl]
theorem zar {H:Hp} {a b:Addr} {o:HO} (h:b ≠ a):upd H a o b=H b:=by unfold upd;rw [if_neg h]
theorem zax {H:Hp} {a b:Addr} {o:HO} (h:H a=some o) (h':H b=none):a ≠ b:=by
 intro e;subst e;rw [h] at h';cases h'
section
variable (P:Program) (w:World)
def zb1 (H:Hp) (h:Heap) (a:Addr):HO->Prop
 | .lst xs=>xs.length<=sizeLine/\∃ (its:List Value) (n:Nat),Vals xs its/\h.get? a=some { cls:=.type "list", data:=.seq its.toArray n }
 | .tup xs=>xs.length<=sizeLine/\∃ its:List Value,Vals xs its/\IsTup h a its.toArray
 | .dK kvs=>kvs.length<=sizeLine/\(a == sysModules)=false/\∃ vs,KV kvs vs/\h.DictOf (zhk P w) a vs
 | .dT kvs=>kvs.length<=sizeLine/\(a == sysModules)=false/\∃ xs:List (List Key × Addr × Value),
   Paired (fun (p:List Key × V) (q:List Key × Addr × Value)=>p.1=q.1/\H q.2.1=some (.tup (p.1.map kV))/\RelV p.2 q.2.2) kvs xs /\
   ∃ o es ep,h.get? a=some o/\o.ExactDict/\o.data=.dict es ep/\es.toList=xs.map (entryOfKey (tupleKind (zhk P w)))/\(xs.map (·.1)).Nodup
 | .set S n=>h.SetOf (intKind P w) a S n
 | .ins C dx fs=>H dx=some (.own a)/\fs.length<=1000/\dx ≠ a/\h.get? a=some (PySem.W.instObj C dx) /\
   ∃ mA,h.Ns1 dx mA/\(∀ f,RelO (fs.lookup f) (mA f))/\PySem.Within mA (fs.map (·.1))
 | .own _=>∃ o,h.get? a=some o
 | .xd fs=>∃ mA,h.Ns1 a mA/\∀ f,RelO (fs.lookup f) (mA f)
 | .rng lo hi=>∃ t u v,h.get? a=some { cls:=.type "range", data:=.fields #[.int lo t,.int hi u,.int 1 v] }
 | .frz o u=>h.get? a=some o/\zb1 H h a u
 | .tbl ps=>h.get? a=some { cls:=.none,data:=.fields ps }
 | .met f x=>h.get? a=some (PySem.W.methodObj (.ref f) (.ref x))
 | .ext φ=>φ h/\(∃ o,h.get? a=some o)/\∀ h1 h2:Heap,φ h1->(∀ o,h1.get? a=some o->h2.get? a=some o) -> φ h2
def HOk (H:Hp) (h:Heap):Prop:=∀ a o,H a=some o->zb1 P w H h a o
end
section
variable {P:Program} {w:World} {H H':Hp} {h h':Heap} {a:Addr} {o:HO}
theorem zb1.lt (x:zb1 P w H h a o):a < h.objs.size:=by
 cases o with
 | lst xs=>obtain ⟨_,_,_,_,e⟩:=x;exact Heap.lt_size e
 | tup xs=>obtain ⟨_,_,_,p⟩:=x;exact p.lt
 | dK kvs=>obtain ⟨_,_,_,_,o,_,_,e,_⟩:=x;exact Heap.lt_size e
 | dT kvs=>obtain ⟨_,_,_,_,o,_,_,e,_⟩:=x;exact Heap.lt_size e
 | set S n=>obtain ⟨o,_,_,_,e,_⟩:=x;exact Heap.lt_size e
 | ins C dx fs=>obtain ⟨_,_,_,e,_⟩:=x;exact Heap.lt_size e
 | own y=>obtain ⟨_,e⟩:=x;exact Heap.lt_size e
 | xd fs=>obtain ⟨_,⟨_,_,_,e,_⟩,_⟩:=x;exact Heap.lt_size e
 | rng lo hi=>obtain ⟨_,_,_,e⟩:=x;exact Heap.lt_size e
 | frz ob u=>obtain ⟨e,_⟩:=x;exact Heap.lt_size e
 | tbl ps=>exact Heap.lt_size (show h.get? a=some _ from x)
 | met f y=>exact Heap.lt_size (show h.get? a=some _ from x)
 | ext φ=>obtain ⟨_,⟨_,e⟩,_⟩:=x;exact Heap.lt_size e
theorem Paired.mapP {α β : Type} {F G : α -> β -> Prop}:∀ {l₁ : List α} {l₂ : List β},Paired F l₁ l₂ -> (∀ a b,F a b->G a b)->Paired G l₁ l₂
 | _,_,.nil,_=>.nil
 | _,_,.cons r t,f=>.cons (f _ _ r) (Paired.mapP t f)
theorem zb1.stay (x:zb1 P w H h a o) (k:∀ b u,(b=a ∨ H b=some (.own a))->h.get? b=some u->h'.get? b=some u)
  (ho:∀ b,H b=some (.own a)->H' b=some (.own a)) (ht:∀ b xs,H b=some (.tup xs)->H' b=some (.tup xs)):zb1 P w H' h' a o:=by
 induction o with
 | lst xs=>obtain ⟨z,its,n,r,e⟩:=x;exact ⟨z,its,n,r,k _ _ (.inl rfl) e⟩
 | tup xs=>obtain ⟨z,its,r,ob,e,c⟩:=x;exact ⟨z,its,r,ob,k _ _ (.inl rfl) e,c⟩
 | dK kvs=>obtain ⟨z,y,vs,r,ob,es,ep,e,c⟩:=x;exact ⟨z,y,vs,r,ob,es,ep,k _ _ (.inl rfl) e,c⟩
 | dT kvs =>
  obtain ⟨z,y,xs,r,ob,es,ep,e,c⟩:=x
  exact ⟨z,y,xs,Paired.mapP r fun p q z=>⟨z.1,ht _ _ z.2.1,z.2.2⟩,ob,es,ep,k _ _ (.inl rfl) e,c⟩
 | set S n=>obtain ⟨ob,es,ep,t,e,c⟩:=x;exact ⟨ob,es,ep,t,k _ _ (.inl rfl) e,c⟩
 | ins C dx fs =>
  obtain ⟨d,z,ne,e,mA,⟨od,es,ep,e2,c⟩,r⟩:=x
  exact ⟨ho _ d,z,ne,k _ _ (.inl rfl) e,mA,⟨od,es,ep,k _ _ (.inr d) e2,c⟩,r⟩
 | own y=>obtain ⟨ob,e⟩:=x;exact ⟨ob,k _ _ (.inl rfl) e⟩
 | xd fs=>obtain ⟨mA,⟨od,es,ep,e,c⟩,r⟩:=x;exact ⟨mA,⟨od,es,ep,k _ _ (.inl rfl) e,c⟩,r⟩
 | rng lo hi=>obtain ⟨t,u,v,e⟩:=x;exact ⟨t,u,v,k _ _ (.inl rfl) e⟩
 | frz ob u ih=>obtain ⟨e,q⟩:=x;exact ⟨k _ _ (.inl rfl) e,ih q⟩
 | tbl ps =>
  have e:h.get? a=some { cls:=.none,data:=.fields ps }:=x
  show h'.get? a=some { cls:=.none,data:=.fields ps }
  exact k a _ (.inl rfl) e
 | met f y =>
  have e:h.get? a=some (PySem.W.methodObj (.ref f) (.ref y)):=x
  show h'.get? a=some (PySem.W.methodObj (.ref f) (.ref y))
  exact k a _ (.inl rfl) e
 | ext φ=>obtain ⟨p,⟨o,e⟩,st⟩:=x;exact ⟨st _ _ p fun o q=>k _ _ (.inl rfl) q,⟨o,k _ _ (.inl rfl) e⟩,st⟩
theorem HOk.lt (x:HOk P w H h) (e:H a=some o):a < h.objs.size:=(x a o e).lt
theorem HOk.fresh (x:HOk P w H h) (e:h.objs.size<=a):H a=none:=by
 cases q:H a with
 | none=>rfl
 | some u=>exact absurd (Nat.lt_of_lt_of_le (x.lt q) e) (Nat.lt_irrefl _)
theorem HOk.kept (x:HOk P w H h) (k:∀ b u,h.get? b=some u->h'.get? b=some u):HOk P w H h':=fun a o e =>
 (x a o e).stay (fun b u _ q=>k b u q) (fun _ q=>q) fun _ _ q=>q
theorem HOk.laid (x:HOk P w H h) (k:∀ b u,h.get? b=some u->h'.get? b=some u) (hp:h.objs.size<=a) (new:zb1 P w (upd H a o) h' a o):HOk P w (upd H a o) h':=fun b u e=>by
 have hn:=x.fresh hp
 by_cases hb:b=a
 ·subst hb;rw [zas] at e;cases e;exact new
 ·rw [zar hb] at e
  exact (x b u e).stay (fun c v _ q=>k c v q) (fun c q=>by rw [zar (zax q hn)];exact q) fun c xs q=>by rw [zar (zax q hn)];exact q
end
def Rd (H:Hp) (a:Addr) (u:HO):Prop:=H a=some u ∨ ∃ o,H a=some (.frz o u)
theorem Rd.ok {P:Program} {w:World} {H:Hp} {h:Heap} {a:Addr} {u:HO} (r:Rd H a u) (x:HOk P w H h):zb1 P w H h a u:=by
 rcases r with r | ⟨o,r⟩
 ·exact x a u r
 ·obtain ⟨_,q⟩:=x a _ r
  exact q
def Mut:Option HO->Prop
 | some (.lst _)=>True
 | some (.dK _)=>True
 | some (.dT _)=>True
 | some (.set _ _)=>True
 | some (.ins _ _ _)=>True
 | some (.ext _)=>True
 | _=>False
section
variable {P:Program} {w:World} {H:Hp} {h h':Heap} {x e:Addr} {o':HO}
theorem HOk.write (ok:HOk P w H h) (mu:Mut (H x)) (he:e=x ∨ H e=some (.own x)) (k:∀ b u,b ≠ e->h.get? b=some u->h'.get? b=some u) (heo:∃ u,h'.get? e=some u)
  (new:zb1 P w (upd H x o') h' x o'):HOk P w (upd H x o') h':=fun b u q=>by
 have nown:∀ c y,H c=some (.own y)->c ≠ x:=fun c y r z=>by subst z;rw [r] at mu;exact mu
 have ntup:∀ c xs,H c=some (.tup xs)->c ≠ x:=fun c xs r z=>by subst z;rw [r] at mu;exact mu
 by_cases hb:b=x
 ·subst hb;rw [zas] at q;cases q;exact new
 ·rw [zar hb] at q
  by_cases hbe:b=e
  ·have q':H b=some (.own x):=by
    rcases he with z | z
    ·exact absurd (hbe.trans z) hb
    ·rw [hbe];exact z
   rw [q] at q';cases q'
   obtain ⟨v,hv⟩:=heo
   exact ⟨v,by rw [hbe];exact hv⟩
  ·refine (ok b u q).stay (fun c v hc r=>k c v ?_ r) (fun c r=>by rw [zar (nown c b r)];exact r) fun c xs r=>by rw [zar (ntup c xs r)];exact r
   rcases hc with rfl | hc
   ·exact hbe
   ·rintro rfl
    rcases he with z | z
    ·exact nown c b hc z
    ·rw [hc] at z;cases z;exact hb rfl
end
structure Un (fs ex:List Addr) (H H':Hp) (h h':Heap):Prop where
 keep:∀ b o,h.get? b=some o->H b=none->b ∉ fs->b ∉ ex->h'.get? b=some o
 slot:∀ b o,h.get? b=some o->H b=none->b ∈ fs->b ∉ ex->∃ sl,h'.get? b=some { o with slots:=sl }
 free:∀ b o,h.get? b=some o->H b=none->b ∉ ex->H' b=none
 there:∀ b o,h.get? b=some o->b ∉ ex->∃ o',h'.get? b=some o'
 tups:∀ b xs,H b=some (.tup xs)->H' b=some (.tup xs)
 frzs:∀ b o u,H b=some (.frz o u)->H' b=some (.frz o u)
 tbls:∀ b ps,H b=some (.tbl ps)->∃ more,H' b=some (.tbl (ps ++ more))
section
variable {fs fs' ex ex':List Addr} {H H1 H2:Hp} {h h1 h2 h':Heap} {a x e:Addr} {o:HO}
theorem Un.any (u:Un fs ex H H1 h h1) {b:Addr} {ob:Obj} (q:h.get? b=some ob) (n:H b=none) (hx:b ∉ ex):∃ sl,h1.get? b=some { ob with slots:=sl }:=by
 by_cases hb:b ∈ fs
 ·exact u.slot b ob q n hb hx
 ·exact ⟨ob.slots,u.keep b ob q n hb hx⟩
theorem Un.kept (k:∀ b u,h.get? b=some u->h'.get? b=some u):Un fs ex H H h h' :=
 ⟨fun b ob q _ _ _=>k b ob q,fun b ob q _ _ _=>⟨ob.slots,k b ob q⟩,fun _ _ _ n _=>n,fun b ob q _=>⟨ob,k b ob q⟩,fun _ _ q=>q,fun _ _ _ q=>q,fun _ ps q=>⟨#[],by rw [q];simp⟩⟩
theorem Un.refl:Un fs ex H H h h:=Un.kept fun _ _ q=>q
theorem Un.laid (k:∀ b u,h.get? b=some u->h'.get? b=some u) (hp:h.objs.size<=a) (hn:H a=none):Un fs ex H (upd H a o) h h' where
 keep:=fun b u q _ _ _=>k b u q
 slot:=fun b u q _ _ _=>⟨u.slots,k b u q⟩
 free:=fun b u q n _=>by rw [zar (Nat.ne_of_lt (Nat.lt_of_lt_of_le (Heap.lt_size q) hp))];exact n
 there:=fun b u q _=>⟨u,k b u q⟩
 tups:=fun b xs q=>by rw [zar (zax q hn)];exact q
 frzs:=fun b u xs q=>by rw [zar (zax q hn)];exact q
 tbls:=fun b ps q=>⟨#[],by rw [zar (zax q hn),q];simp⟩
theorem Un.write (mu:Mut (H x)) (he:e=x ∨ H e=some (.own x)) (k:∀ b u,b ≠ e->h.get? b=some u->h'.get? b=some u) (heo:∃ u,h'.get? e=some u):Un fs ex H (upd H x o) h h':=by
 have hx:∀ b,H b=none->b ≠ x:=fun b n z=>by subst z;rw [n] at mu;exact mu
 have hb:∀ b,H b=none->b ≠ e:=fun b n z=>by
  subst z
  rcases he with r | r
  ·exact hx b n r
  ·rw [n] at r;cases r
 have hm:∀ b u,H b=some u -> ¬ Mut (some u)->b ≠ x:=fun b u q nm z=>by subst z;rw [q] at mu;exact nm mu
 refine ⟨fun b u q n _ _=>k b u (hb b n) q,fun b u q n _ _=>⟨u.slots,k b u (hb b n) q⟩,fun b u q n _=>by rw [zar (hx b n)];exact n,fun b u q _=>?_,
  fun b xs q=>by rw [zar (hm b _ q fun z=>z)];exact q,fun b u xs q=>by rw [zar (hm b _ q fun z=>z)];exact q,fun b ps q=>⟨#[],by rw [zar (hm b _ q fun z=>z),q];simp⟩⟩
 by_cases hbe:b=e
 ·subst hbe;exact heo
 ·exact ⟨u,k b u hbe q⟩
end
def trk (h:Heap) (H:Hp):List Addr:=(List.range h.objs.size).filter fun a=>(H a).isSome
def hidT (h:Heap) (H:Hp):Heap:=PySem.W.hideAll h (trk h H)
theorem zhl (h:Heap) (H:Hp):(hidT h H).objs.size=h.objs.size:=PySem.W.hideAll_size _ _
theorem ziW {h:Heap} {H:Hp} {b:Addr} {o:Obj} (e:h.get? b=some o) (n:H b=none):(hidT h H).get? b=some o :=
 PySem.W.hideAll_get _ e fun hm=>by
  have q:(H b).isSome=true:=(List.mem_filter.mp hm).2
  rw [n] at q;simp at q
theorem zj3 {h:Heap} {H:Hp} {b:Addr} {o:Obj} (e:(hidT h H).get? b=some o):h.get? b=some o/\H b=none:=by
 have e':h.get? b=some o:=PySem.W.of_hideAll (trk h H) e
 refine ⟨e',?_⟩
 cases q:H b with
 | none=>rfl
 | some x =>
  have hm:b ∈ trk h H:=List.mem_filter.mpr ⟨List.mem_range.mpr (Heap.lt_size e'),by simp [q]⟩
  have z:(hidT h H).get? b=none:=PySem.W.hideAll_none (trk h H) hm
  rw [z] at e;cases e
structure Mod (K:PySem.W.Frag) (mg:Str->Option Value) (base:Heap):Prop where
 kin:K.In base
 glob:base.Ns mainGlobals mg
 blt:∃ mb,base.Ns builtinsNs mb/\∀ x:Str,x ≠ "__name__" -> mb x=bootBuiltins x
 nolimit:base.NoLimit
structure Cx where
 prog:Program
 w:World
 K:PySem.W.Frag
 mg:Str->Option Value
 base:Heap
 A:Around
 N:List Str
 s₀ : Shared
 H₀ : Hp
 env:Env
 outer:List Env
 stack:List Env
 ex:List Addr
 fn:Str->Bool
 calm:Bool
 pn:List (Addr × Obj)
 xe:Value->Shared->Prop
def frs (l:List Env):List Addr:=l.filterMap (·.frame)
abbrev Cx.fs (X:Cx):List Addr:=frs X.outer
def Vis (sc:Scope) (x:Str):Prop:=sc.names.lookup x=some .local ∨ sc.names.lookup x=some .cell ∨ sc.names.lookup x=some .free
def Loc (sc:Scope) (x:Str):Prop:=sc.names.lookup x=some .local ∨ sc.names.lookup x=some .cell
def Look (env:Env) (h:Heap) (m:Str->Option Value) (x:Str) (u:Value):Prop :=
 (env.kindOf x=some .local/\m x=some u) ∨ ((env.kindOf x=some .cell ∨ env.kindOf x=some .free)/\∃ c,env.cells.lookup x=some c/\h.IsCell c (some u))
structure Cx.Ok (X:Cx):Prop where
 mod:Mod X.K X.mg X.base
 kind:X.env.scope.kind=.function
 glob:X.env.globals=mainGlobals
 blt:X.env.builtins=builtinsNs
 above:X.s₀.heap.objs.size<=X.env.locals
 inj:∀ x y c,X.env.cells.lookup x=some c->X.env.cells.lookup y=some c->x=y
 has:∀ x,(X.env.kindOf x=some .cell ∨ X.env.kindOf x=some .free)->∃ c,X.env.cells.lookup x=some c
 cab:∀ x c,X.fn x=true->X.env.cells.lookup x=some c->X.s₀.heap.objs.size<=c
 hd:X.calm=true->X.A.handled=none
 frames:X.A.frames=some X.stack
 stk:X.stack=X.outer ∨ (X.stack=X.env :: X.outer/\X.env.frame=some X.env.locals)
 exf:∀ b ∈ X.ex,b ≠ X.env.locals/\∀ x c,X.env.cells.lookup x=some c->c ≠ b
 bs:∀ b o,X.base.get? b=some o->X.s₀.heap.get? b=some o/\X.H₀ b=none
 bsz:X.base.objs.size<=X.s₀.heap.objs.size
 noex:∀ b o,X.base.get? b=some o->b ∉ X.ex
 exfs:∀ b ∈ X.ex,b ∉ X.fs
 funs:X.s₀.heap.FunFrames X.base X.outer
 frf:∀ b ∈ X.fs,X.H₀ b=none
structure Inv (X:Cx) (pins:List (Addr × Obj)) (σ : List (Option V)) (H:Hp) (s:Shared):Prop where
 ok:X.Ok
 os:s.os=X.s₀.os
 bare:AllBare s.gens
 base:Un X.fs X.ex X.H₀ H X.s₀.heap s.heap
 loc:∃ m,s.heap.Ns X.env.locals m/\∀ (i:Nat) (x:Str) (v:V),X.N[i]?=some x -> σ[i]?=some (some v)->Vis X.env.scope x->∃ u,RelV v u/\Look X.env s.heap m x u
 cell:∀ x c,X.env.cells.lookup x=some c->∃ v,s.heap.IsCell c v
 free:H X.env.locals=none
 freeC:∀ x c,X.env.cells.lookup x=some c->H c=none
 pin:∀ p ∈ X.pn ++ pins,s.heap.get? p.1=some p.2/\H p.1=none/\p.1 ≠ X.env.locals/\p.1 ∉ X.fs/\∀ v,p.2.data ≠ .cell v
 hok:HOk X.prog X.w H s.heap
 len : σ.length=X.N.length
section
variable {X:Cx} {pins:List (Addr × Obj)} {σ : List (Option V)} {H H':Hp} {s:Shared} {h':Heap}
theorem Cx.Ok.nofr (ok:X.Ok) {b:Addr} {o:Obj} (e:X.base.get? b=some o):b ∉ X.fs:=fun hb=>by
 have:=(ok.funs.mem hb).1
 rw [e] at this;cases this
theorem Inv.bs (I:Inv X pins σ H s):∀ b o,X.base.get? b=some o->s.heap.get? b=some o/\H b=none:=fun b o e =>
 ⟨I.base.keep b o (I.ok.bs b o e).1 (I.ok.bs b o e).2 (I.ok.nofr e) (I.ok.noex b o e),I.base.free b o (I.ok.bs b o e).1 (I.ok.bs b o e).2 (I.ok.noex b o e)⟩
theorem Inv.bk (I:Inv X pins σ H s):∀ b o,X.base.get? b=some o->s.heap.get? b=some o:=fun b o e=>(I.bs b o e).1
theorem Inv.mod (I:Inv X pins σ H s):Mod X.K X.mg X.base:=I.ok.mod
theorem Inv.kIn (I:Inv X pins σ H s):X.K.In s.heap:=I.ok.mod.kin.keeps I.bk
theorem Inv.lt (I:Inv X pins σ H s):X.env.locals < s.heap.objs.size:=let ⟨_,hn,_⟩:=I.loc;hn.lt
theorem Inv.sz (I:Inv X pins σ H s):X.s₀.heap.objs.size<=s.heap.objs.size:=Nat.le_trans I.ok.above (Nat.le_of_lt I.lt)
theorem Inv.nofs (I:Inv X pins σ H s) {a:Addr} (h:s.heap.objs.size<=a):a ∉ X.fs:=fun hb=>by
 obtain ⟨_,o,ho,_⟩:=I.ok.funs.mem hb
 exact absurd (Nat.lt_of_lt_of_le (Heap.lt_size ho) (Nat.le_trans I.sz h)) (Nat.lt_irrefl _)
theorem Inv.cne (I:Inv X pins σ H s):∀ x c,X.env.cells.lookup x=some c->c ≠ X.env.locals:=fun x c e z=>by
 obtain ⟨v,o,ho,hd⟩:=I.cell x c e
 obtain ⟨m,⟨o',es,ep,ho',hd',_⟩,_⟩:=I.loc
 rw [z,ho'] at ho;cases ho;rw [hd'] at hd;cases hd
theorem Inv.funs (I:Inv X pins σ H s):s.heap.FunFrames X.base X.outer:=by
 have all:∀ (l:List Env),(∀ b ∈ frs l,b ∈ X.fs)->X.s₀.heap.FunFrames X.base l->s.heap.FunFrames X.base l:=by
  intro l
  induction l with
  | nil=>intro _ _;trivial
  | cons env r ih =>
   intro hs hl
   obtain ⟨hk,⟨L,o,hf,hn,ho,hd⟩,hr⟩:=hl
   have hL:L ∈ X.fs:=hs L (by unfold frs;rw [List.filterMap_cons,hf];exact List.mem_cons_self)
   obtain ⟨sl,e⟩:=I.base.slot L o ho (I.ok.frf L hL) hL fun z=>I.ok.exfs L z hL
   exact ⟨hk,⟨L,_,hf,hn,e,hd⟩,ih (fun b hb=>hs b (by unfold frs;rw [List.filterMap_cons,hf];exact List.mem_cons_of_mem _ hb)) hr⟩
 exact all X.outer (fun _ hb=>hb) I.ok.funs
theorem Inv.stack (I:Inv X pins σ H s):s.heap.FunFrames X.base X.stack:=by
 rcases I.ok.stk with e | ⟨e,hf⟩
 ·rw [e];exact I.funs
 ·rw [e]
  obtain ⟨m,hn,_⟩:=I.loc
  refine .cons (by rw [I.ok.kind];decide) hf hn ?_ I.funs
  exact Heap.get?_none_of_le (Nat.le_trans I.ok.bsz I.ok.above)
theorem Inv.stkSub (I:Inv X pins σ H s):∀ b ∈ frs X.stack,b ∈ X.env.locals :: X.fs:=fun b hb=>by
 rcases I.ok.stk with e | ⟨e,hf⟩
 ·rw [e] at hb;exact List.mem_cons_of_mem _ hb
 ·rw [e] at hb
  unfold frs at hb
  rw [List.filterMap_cons,hf] at hb
  exact hb
theorem Inv.stkFree (I:Inv X pins σ H s):∀ b ∈ frs X.stack,H b=none:=fun b hb=>by
 rcases List.mem_cons.mp (I.stkSub b hb) with e | hb
 ·rw [e];exact I.free
 ·obtain ⟨_,o,ho,_⟩:=I.ok.funs.mem hb
  exact I.base.free b o ho (I.ok.frf b hb) fun z=>I.ok.exfs b z hb
theorem Inv.step {g':Array GenState} {t':Nat} {d':Drawn} {ch:List Addr} (I:Inv X pins σ H s)
  (hch:∀ b ∈ ch,(b ∈ X.ex ∨ X.s₀.heap.objs.size<=b)/\b ≠ X.env.locals/\(∀ x c,X.env.cells.lookup x=some c->c ≠ b)/\∀ p ∈ X.pn ++ pins,p.1 ≠ b)
  (keep:∀ b o,b ≠ X.env.locals->b ∉ X.fs->b ∉ ch->s.heap.get? b=some o->H b=none->h'.get? b=some o)
  (slot:∀ b o,b ≠ X.env.locals->b ∈ X.fs->b ∉ ch->s.heap.get? b=some o->H b=none->∃ sl,h'.get? b=some { o with slots:=sl }) (free:∀ b o,b ∉ ch->s.heap.get? b=some o->H b=none->H' b=none)
  (there:∀ b o,b ∉ ch->s.heap.get? b=some o->∃ o',h'.get? b=some o')
  (tups:∀ b xs,H b=some (.tup xs)->H' b=some (.tup xs)) (frzs:∀ b o u,H b=some (.frz o u)->H' b=some (.frz o u)) (tbls:∀ b ps,H b=some (.tbl ps)->∃ more,H' b=some (.tbl (ps ++ more)))
  (ns:∀ m,s.heap.Ns X.env.locals m->h'.Ns X.env.locals m) (hok:HOk X.prog X.w H' h') (hg:AllBare g') :
  Inv X pins σ H' { s with heap:=h',gens:=g',drawn:=d',toks:=t' }:=by
 have neL:∀ b o,X.s₀.heap.get? b=some o->b ≠ X.env.locals:=fun b o e=>Nat.ne_of_lt (Nat.lt_of_lt_of_le (Heap.lt_size e) I.ok.above)
 have neC:∀ b o,X.s₀.heap.get? b=some o->b ∉ X.ex->b ∉ ch:=fun b o e hx hb=>by
  rcases (hch b hb).1 with z | z
  ·exact hx z
  ·exact absurd (Nat.lt_of_lt_of_le (Heap.lt_size e) z) (Nat.lt_irrefl _)
 have cellK:∀ x c,X.env.cells.lookup x=some c->∀ v,s.heap.IsCell c v->h'.IsCell c v:=fun x c e v ⟨o,ho,hd⟩=>by
  have nch:c ∉ ch:=fun z=>(hch c z).2.2.1 x c e rfl
  by_cases hc:c ∈ X.fs
  ·obtain ⟨sl,q⟩:=slot c o (I.cne x c e) hc nch ho (I.freeC x c e)
   exact ⟨_,q,hd⟩
  ·exact ⟨o,keep c o (I.cne x c e) hc nch ho (I.freeC x c e),hd⟩
 refine ⟨I.ok,I.os,hg,⟨fun b o e n hb hx=>?_,fun b o e n hb hx=>?_,fun b o e n hx=>?_,fun b o e hx=>?_,fun b xs e=>tups b xs (I.base.tups b xs e),fun b o xs e=>frzs b o xs (I.base.frzs b o xs e),fun b ps e=>?_⟩,?_,fun x c e=>?_,?_,fun x c e=>?_,fun p hp=>?_,hok,I.len⟩
 ·exact keep b o (neL b o e) hb (neC b o e hx) (I.base.keep b o e n hb hx) (I.base.free b o e n hx)
 ·obtain ⟨sl,e1⟩:=I.base.slot b o e n hb hx
  obtain ⟨sl',e2⟩:=slot b _ (neL b o e) hb (neC b o e hx) e1 (I.base.free b o e n hx)
  exact ⟨sl',e2⟩
 ·obtain ⟨o',e1⟩:=I.base.there b o e hx
  exact free b o' (neC b o e hx) e1 (I.base.free b o e n hx)
 ·obtain ⟨o',e1⟩:=I.base.there b o e hx
  exact there b o' (neC b o e hx) e1
 ·obtain ⟨m1,e1⟩:=I.base.tbls b ps e
  obtain ⟨m2,e2⟩:=tbls b _ e1
  exact ⟨m1 ++ m2,by rw [e2,Array.append_assoc]⟩
 ·obtain ⟨m,hn,hl⟩:=I.loc
  refine ⟨m,ns m hn,fun i x v e1 e2 e3=>?_⟩
  obtain ⟨u,r,l⟩:=hl i x v e1 e2 e3
  refine ⟨u,r,?_⟩
  rcases l with l | ⟨k,c,e,z⟩
  ·exact .inl l
  ·exact .inr ⟨k,c,e,cellK x c e _ z⟩
 ·obtain ⟨v,z⟩:=I.cell x c e
  exact ⟨v,cellK x c e v z⟩
 ·obtain ⟨m,⟨o,_,_,ho,_⟩,_⟩:=I.loc
  exact free _ o (fun z=>(hch _ z).2.1 rfl) ho I.free
 ·obtain ⟨v,o,ho,hd⟩:=I.cell x c e
  exact free c o (fun z=>(hch c z).2.2.1 x c e rfl) ho (I.freeC x c e)
 ·obtain ⟨e,n,ne,nf,d⟩:=I.pin p hp
  have nch:p.1 ∉ ch:=fun z=>(hch p.1 z).2.2.2 p hp rfl
  exact ⟨keep p.1 p.2 ne nf nch e n,free p.1 p.2 nch e n,ne,nf,d⟩
theorem Inv.un {t':Nat} (I:Inv X pins σ H s) (u:Un X.fs [] H H' s.heap h') (hok:HOk X.prog X.w H' h'):Inv X pins σ H' { s with heap:=h',toks:=t' }:=by
 obtain ⟨m,⟨o,es,ep,ho,r⟩,_⟩:=id I.loc
 obtain ⟨sl,hL⟩:=u.any ho I.free (by simp)
 exact I.step (g':=s.gens) (d':=s.drawn) (ch:=[]) (fun _ z=>nomatch z) (fun b o _ hb _ e n=>u.keep b o e n hb (by simp)) (fun b o _ hb _ e n=>u.slot b o e n hb (by simp)) (fun b o _ e n=>u.free b o e n (by simp)) (fun b o _ e=>u.there b o e (by simp)) u.tups u.frzs u.tbls (fun m' hm=>by
  obtain ⟨o',es',ep',ho',r'⟩:=hm
  rw [ho] at ho';cases ho'
  exact ⟨_,es',ep',hL,r'⟩) hok I.bare
theorem Inv.call {g':Array GenState} {t':Nat} {d':Drawn} {ch:List Addr} (I:Inv X pins σ H s) (u:Un (frs X.stack) ch H H' s.heap h') (hok:HOk X.prog X.w H' h') (hg:AllBare g')
  (hch:∀ b ∈ ch,(b ∈ X.ex ∨ X.s₀.heap.objs.size<=b)/\b ≠ X.env.locals/\(∀ x c,X.env.cells.lookup x=some c->c ≠ b)/\∀ p ∈ X.pn ++ pins,p.1 ≠ b) :
  Inv X pins σ H' { s with heap:=h',gens:=g',drawn:=d',toks:=t' }:=by
 obtain ⟨m,⟨o,es,ep,ho,r⟩,_⟩:=id I.loc
 obtain ⟨sl,hL⟩:=u.any ho I.free fun z=>(hch _ z).2.1 rfl
 exact I.step (ch:=ch) hch (fun b o hL hb hc e n=>u.keep b o e n (fun z=>(List.mem_cons.mp (I.stkSub b z)).elim hL hb) hc) (fun b o _ _ hc e n=>u.any e n hc) (fun b o hc e n=>u.free b o e n hc) (fun b o hc e=>u.there b o e hc) u.tups u.frzs u.tbls (fun m' hm=>by
  obtain ⟨o',es',ep',ho',r'⟩:=hm
  rw [ho] at ho';cases ho'
  exact ⟨_,es',ep',hL,r'⟩) hok hg
theorem Inv.turned {t':Nat} {it:Addr} (I:Inv X pins σ H s) (k:∀ b o,b ≠ it->s.heap.get? b=some o->h'.get? b=some o) (hn:H it=none) (hL:it ≠ X.env.locals)
  (h1:it ∈ X.ex ∨ X.s₀.heap.objs.size<=it) (h2:∀ x c,X.env.cells.lookup x=some c->c ≠ it) (h3:∀ p ∈ X.pn ++ pins,p.1 ≠ it):Inv X pins σ H { s with heap:=h',toks:=t' }:=by
 have nit:∀ b u,H b=some u->b ≠ it:=fun b u e z=>by rw [z,hn] at e;cases e
 refine I.step (g':=s.gens) (d':=s.drawn) (ch:=[it]) (fun b hb=>?_) (fun b o _ _ hc e _=>k b o (fun z=>hc (by simp [z])) e) (fun b o _ _ hc e _=>⟨o.slots,k b o (fun z=>hc (by simp [z])) e⟩) (fun _ _ _ _ n=>n)
  (fun b o hc e=>⟨o,k b o (fun z=>hc (by simp [z])) e⟩) (fun _ _ e=>e) (fun _ _ _ e=>e) (fun b ps e=>⟨#[],by rw [e];simp⟩) (fun m hm=>?_) (fun b u e=>?_) I.bare
 ·have e:b=it:=by simpa using hb
  subst e
  exact ⟨h1,hL,h2,h3⟩
 ·obtain ⟨o,es,ep,ho,r⟩:=hm
  exact ⟨o,es,ep,k _ o (Ne.symm hL) ho,r⟩
 ·refine (I.hok b u e).stay (fun c v hc q=>k c v ?_ q) (fun _ q=>q) fun _ _ q=>q
  rcases hc with z | z
  ·rw [z];exact nit b u e
  ·exact nit c _ z
theorem Inv.tok (I:Inv X pins σ H s) (t:Nat):Inv X pins σ H { s with toks:=t }:=I.un (h':=s.heap) (t':=t) Un.refl I.hok
theorem Inv.kept {t':Nat} (I:Inv X pins σ H s) (k:∀ b u,s.heap.get? b=some u->h'.get? b=some u):Inv X pins σ H { s with heap:=h',toks:=t' }:=I.un (Un.kept k) (I.hok.kept k)
theorem Inv.laid {a:Addr} {o:HO} {t':Nat} (I:Inv X pins σ H s) (k:∀ b u,s.heap.get? b=some u->h'.get? b=some u) (hp:s.heap.objs.size<=a) (new:zb1 X.prog X.w (upd H a o) h' a o) :
  Inv X pins σ (upd H a o) { s with heap:=h',toks:=t' }:=I.un (Un.laid k hp (I.hok.fresh hp)) (I.hok.laid k hp new)
theorem Inv.write {x e:Addr} {o:HO} {t':Nat} (I:Inv X pins σ H s) (mu:Mut (H x)) (he:e=x ∨ H e=some (.own x)) (k:∀ b u,b ≠ e->s.heap.get? b=some u->h'.get? b=some u) (heo:∃ u,h'.get? e=some u)
  (new:zb1 X.prog X.w (upd H x o) h' x o):Inv X pins σ (upd H x o) { s with heap:=h',toks:=t' }:=I.un (Un.write mu he k heo) (I.hok.write mu he k heo new)
theorem Inv.pins_of {pins':List (Addr × Obj)} (I:Inv X pins σ H s) (h:∀ p ∈ pins',s.heap.get? p.1=some p.2/\H p.1=none/\p.1 ≠ X.env.locals/\p.1 ∉ X.fs/\∀ v,p.2.data ≠ .cell v):Inv X pins' σ H s :=
 ⟨I.ok,I.os,I.bare,I.base,I.loc,I.cell,I.free,I.freeC,fun p hp=>(List.mem_append.mp hp).elim (fun z=>I.pin p (List.mem_append_left _ z)) (h p),I.hok,I.len⟩
theorem zgk {N:List Str} (hN:N.Nodup) {i j:Nat} {x:Str} (a:N[i]?=some x) (b:N[j]?=some x):i=j:=by
 obtain ⟨h1,e1⟩:=List.getElem?_eq_some_iff.mp a
 obtain ⟨h2,e2⟩:=List.getElem?_eq_some_iff.mp b
 exact (List.getElem_inj hN).mp (e1.trans e2.symm)
theorem ze8 {M:Model} {A:Around} {E:Value->Shared->Prop} {i:Nat} {x:Str} {v:V} {u:Value} {Q:Unit->Shared->Prop} (I:Inv X pins σ H s) (hN:X.N.Nodup) (hi:X.N[i]?=some x) (hx:Loc X.env.scope x) (r:RelV v u)
  (h:∀ s',Inv X pins (σ.set i (some v)) H s'->(∃ a,Heap.SameBut a s.heap s'.heap/\(a=X.env.locals ∨ X.env.cells.lookup x=some a))->Q () s') (hf:X.fn x=true ∨ X.env.scope.names.lookup x=some .local:=by first | exact .inl rfl | exact .inr rfl | assumption):wpAny M A (storeName X.env x u) Q E s:=by
 obtain ⟨m,hn,hl⟩:=id I.loc
 have hcls:(X.env.scope.kind == .class || (X.env.scope.kind == .module && X.env.locals != X.env.globals))=false:=by rw [I.ok.kind];rfl
 have hiσ : i < σ.length:=by rw [I.len];exact (List.getElem?_eq_some_iff.mp hi).1
 have cne:=I.cne
 have tracked:∀ {a:Addr} {h':Heap},(∃ o,s.heap.get? a=some o/\H a=none)->Heap.SameBut a s.heap h'->HOk X.prog X.w H h':=fun {a h'} ha hs b ob e=>by
  obtain ⟨_,_,hfree⟩:=ha
  refine (I.hok b ob e).stay (fun c w' hc q=>(hs.2 c ?_).trans q) (fun _ q=>q) fun _ _ q=>q
  rintro rfl
  rcases hc with rfl | hc
  ·rw [hfree] at e;cases e
  ·rw [hfree] at hc;cases hc
 rcases hx with hk | hk
 ·refine wpAny_storeName_local hk hn (fun h' hn' hs=>?_) hcls
  obtain ⟨oL,_,_,hoL,_⟩:=id hn
  refine h _ ⟨I.ok,I.os,I.bare,⟨fun b o e n hb hx=>?_,fun b o e n hb hx=>?_,I.base.free,fun b o e hx=>?_,I.base.tups,I.base.frzs,I.base.tbls⟩,⟨_,hn',fun j y v' e1 e2 e3=>?_⟩,fun y c e=>?_,I.free,I.freeC,fun p hp=>?_,tracked ⟨oL,hoL,I.free⟩ hs,by simpa using I.len⟩ ⟨_,hs,.inl rfl⟩
  ·exact (hs.2 b (Nat.ne_of_lt (Nat.lt_of_lt_of_le (Heap.lt_size e) I.ok.above))).trans (I.base.keep b o e n hb hx)
  ·obtain ⟨sl,e1⟩:=I.base.slot b o e n hb hx
   exact ⟨sl,(hs.2 b (Nat.ne_of_lt (Nat.lt_of_lt_of_le (Heap.lt_size e) I.ok.above))).trans e1⟩
  ·obtain ⟨o',e1⟩:=I.base.there b o e hx
   exact ⟨o',(hs.2 b (Nat.ne_of_lt (Nat.lt_of_lt_of_le (Heap.lt_size e) I.ok.above))).trans e1⟩
  ·by_cases hj:j=i
   ·subst hj
    rw [hi] at e1;cases e1
    rw [List.getElem?_set_self hiσ] at e2
    cases e2
    exact ⟨u,r,.inl ⟨hk,by simp⟩⟩
   ·rw [List.getElem?_set_ne (Ne.symm hj)] at e2
    obtain ⟨u',r',q⟩:=hl j y v' e1 e2 e3
    refine ⟨u',r',?_⟩
    rcases q with ⟨k,e⟩ | ⟨k,c,e,z⟩
    ·refine .inl ⟨k,?_⟩
     have:y ≠ x:=fun e=>hj (zgk hN e1 (e ▸ hi))
     simp [this,e]
    ·exact .inr ⟨k,c,e,z.sameBut hs (cne y c e)⟩
  ·obtain ⟨w',z⟩:=I.cell y c e
   exact ⟨w',z.sameBut hs (cne y c e)⟩
  ·obtain ⟨e,n,ne,nf,d⟩:=I.pin p hp
   exact ⟨(hs.2 p.1 ne).trans e,n,ne,nf,d⟩
 ·have hfn:X.fn x=true:=by
   rcases hf with z | z
   ·exact z
   ·rw [z] at hk;cases hk
  obtain ⟨c,hc⟩:=I.ok.has x (.inl hk)
  obtain ⟨w',z⟩:=I.cell x c hc
  refine wpAny_storeName_cell I.ok.kind hk hc z (fun h' hc' hs=>?_)
  obtain ⟨oc,hoc,hocd⟩:=id z
  refine h { s with heap:=h' } ⟨I.ok,I.os,I.bare,⟨fun b o e n hb hx=>?_,fun b o e n hb hx=>?_,I.base.free,fun b o e hx=>?_,I.base.tups,I.base.frzs,I.base.tbls⟩,⟨m,hn.sameBut hs (Ne.symm (cne x c hc)),fun j y v' e1 e2 e3=>?_⟩,fun y c' e=>?_,I.free,I.freeC,fun p hp=>?_,tracked ⟨oc,hoc,I.freeC x c hc⟩ hs,by simpa using I.len⟩ ⟨c,hs,.inr hc⟩
  ·exact (hs.2 b (Nat.ne_of_lt (Nat.lt_of_lt_of_le (Heap.lt_size e) (I.ok.cab x c hfn hc)))).trans (I.base.keep b o e n hb hx)
  ·obtain ⟨sl,e1⟩:=I.base.slot b o e n hb hx
   exact ⟨sl,(hs.2 b (Nat.ne_of_lt (Nat.lt_of_lt_of_le (Heap.lt_size e) (I.ok.cab x c hfn hc)))).trans e1⟩
  ·obtain ⟨o',e1⟩:=I.base.there b o e hx
   exact ⟨o',(hs.2 b (Nat.ne_of_lt (Nat.lt_of_lt_of_le (Heap.lt_size e) (I.ok.cab x c hfn hc)))).trans e1⟩
  ·by_cases hj:j=i
   ·subst hj
    rw [hi] at e1;cases e1
    rw [List.getElem?_set_self hiσ] at e2
    cases e2
    exact ⟨u,r,.inr ⟨.inl hk,c,hc,hc'⟩⟩
   ·rw [List.getElem?_set_ne (Ne.symm hj)] at e2
    obtain ⟨u',r',q⟩:=hl j y v' e1 e2 e3
    refine ⟨u',r',?_⟩
    rcases q with q | ⟨k,c',e,z'⟩
    ·exact .inl q
    ·refine .inr ⟨k,c',e,z'.sameBut hs ?_⟩
     rintro rfl
     exact hj (zgk hN e1 (I.ok.inj _ _ _ e hc ▸ hi))
  ·by_cases hcc:c'=c
   ·subst hcc;exact ⟨_,hc'⟩
   ·obtain ⟨w2,z2⟩:=I.cell y c' e
    exact ⟨w2,z2.sameBut hs hcc⟩
  ·obtain ⟨e,n,ne,nf,d⟩:=I.pin p hp
   refine ⟨(hs.2 p.1 ?_).trans e,n,ne,nf,d⟩
   intro q
   rw [q,hoc] at e
   have q':oc=p.2:=Option.some.inj e
   exact d w' (by rw [← q'];exact hocd)
theorem zgl {M:Model} {A:Around} {E:Value->Shared->Prop} {i:Nat} {x:Str} {v:V} {u:Value} {Q:Unit->Shared->Prop} (I:Inv X pins σ H s) (hN:X.N.Nodup) (hi:X.N[i]?=some x) (hx:Loc X.env.scope x) (r:RelV v u)
  (h:∀ s',Inv X pins (σ.set i (some v)) H s'->Q () s') (hf:X.fn x=true ∨ X.env.scope.names.lookup x=some .local:=by first | exact .inl rfl | exact .inr rfl | assumption):wpAny M A (storeName X.env x u) Q E s :=
 ze8 I hN hi hx r (fun s' I' _=>h s' I') hf
theorem Inv.call' {s':Shared} {ch:List Addr} (I:Inv X pins σ H s) (ho:s'.os=s.os) (u:Un (frs X.stack) ch H H' s.heap s'.heap) (hok:HOk X.prog X.w H' s'.heap) (hg:AllBare s'.gens)
  (hch:∀ b ∈ ch,(b ∈ X.ex ∨ X.s₀.heap.objs.size<=b)/\b ≠ X.env.locals/\(∀ x c,X.env.cells.lookup x=some c->c ≠ b)/\∀ p ∈ X.pn ++ pins,p.1 ≠ b):Inv X pins σ H' s':=by
 obtain ⟨h',g',d',t',o'⟩:=s'
 have e:o'=s.os:=ho
 subst e
 exact I.call (g':=g') (t':=t') (d':=d') u hok hg hch
end
abbrev XK:=Value->Option Addr->Hp->Prop
abbrev St:=List (Option V)
abbrev VK:=V->Hp->Prop
abbrev TE:=St->Hp->VK->Prop
abbrev TT:=St->Hp->(Bool->Hp->Prop)->Prop
abbrev TA:=St->Hp->(List V->Hp->Prop)->Prop
structure Ends where
 nx:St->Hp->Prop
 rt:VK
 bk:St->Hp->Prop:=fun _ _=>False
 ct:St->Hp->Prop:=fun _ _=>False
abbrev TS:=Ends->St->Hp->Prop
def EP (X:Cx) (pins:List (Addr × Obj)) (σ : St) (Q:VK) (u:Value) (s':Shared):Prop:=∃ v H',Inv X pins σ H' s'/\RelV v u/\Q v H'
def TP (X:Cx) (pins:List (Addr × Obj)) (σ : St) (Q:Bool->Hp->Prop) (b:Bool) (s':Shared):Prop:=∃ H',Inv X pins σ H' s'/\Q b H'
def AP (X:Cx) (pins:List (Addr × Obj)) (σ : St) (Q:List V->Hp->Prop) (us:List Value) (s':Shared):Prop:=∃ vs H',Inv X pins σ H' s'/\Vals vs us/\Q vs H'
def SP (X:Cx) (pins:List (Addr × Obj)) (D:Ends) (f:Flow) (s':Shared):Prop :=
 match f with
 | .next=>∃ σ' H',Inv X pins σ' H' s'/\D.nx σ' H'
 | .brk=>∃ σ' H',Inv X pins σ' H' s'/\D.bk σ' H'
 | .cont=>∃ σ' H',Inv X pins σ' H' s'/\D.ct σ' H'
 | .ret u=>∃ v σ' H',Inv X pins σ' H' s'/\RelV v u/\D.rt v H'
def PE (X:Cx) (e:Expr) (t:TE):Prop :=
 ∀ (pins:List (Addr × Obj)) (s:Shared) (σ : St) (H:Hp) (Q:VK),Inv X pins σ H s->t σ H Q->wpAny (model X.prog X.w) X.A (eval e X.env) (EP X pins σ Q) X.xe s
def PT (X:Cx) (e:Expr) (t:TT):Prop :=
 ∀ (pins:List (Addr × Obj)) (s:Shared) (σ : St) (H:Hp) (Q:Bool->Hp->Prop),Inv X pins σ H s->t σ H Q->wpAny (model X.prog X.w) X.A (isTrue e X.env (eval e X.env)) (TP X pins σ Q) X.xe s
def PW (X:Cx) (e:Expr) (t:TT):Prop :=
 ∀ (whole:Sem Value) (pins:List (Addr × Obj)) (s:Shared) (σ : St) (H:Hp) (Q:Bool->Hp->Prop),Inv X pins σ H s->t σ H Q->wpAny (model X.prog X.w) X.A (isTrue e X.env whole) (TP X pins σ Q) X.xe s
theorem PW.pt {X:Cx} {e:Expr} {t:TT} (h:PW X e t):PT X e t:=h _
def PA (X:Cx) (es:List Expr) (t:TA):Prop :=
 ∀ (pos:Pos) (pins:List (Addr × Obj)) (s:Shared) (σ : St) (H:Hp) (Q:List V->Hp->Prop),Inv X pins σ H s->t σ H Q->wpAny (model X.prog X.w) X.A (spliced (backTo pos (starEach es X.env))) (AP X pins σ Q) X.xe s
def PS (X:Cx) (st:Stmt) (t:TS):Prop :=
 ∀ (pins:List (Addr × Obj)) (s:Shared) (σ : St) (H:Hp) (D:Ends),Inv X pins σ H s->t D σ H->wpAny (model X.prog X.w) X.A (exec st X.env) (SP X pins D) X.xe s
def PSs (X:Cx) (st:List Stmt) (t:TS):Prop :=
 ∀ (pins:List (Addr × Obj)) (s:Shared) (σ : St) (H:Hp) (D:Ends),Inv X pins σ H s->t D σ H->wpAny (model X.prog X.w) X.A (execs st X.env) (SP X pins D) X.xe s
theorem thn {α : Type} {t:Sem α} {Q Q' : α -> Shared->Prop} {M:Model} {A:Around} {E:Value->Shared->Prop} {s:Shared} (h:wpAny M A t Q E s) (hQ:∀ a s,Q a s->Q' a s):wpAny M A t Q' E s:=wpAny_mono h hQ fun _ _ x=>x
section
variable {X:Cx}
def tVar (i:Nat):TE:=fun σ H Q=>∃ v,σ[i]?=some (some v)/\Q v H
def tC (v:V):TE:=fun _ H Q=>Q v H
theorem zjK {i:Nat} {x:Str} {pos:Pos} (hN:X.N[i]?=some x) (hv:Vis X.env.scope x) (hd:(x == ("__debug__" : Str))=false:=by decide) (hcd:(x == ("__classdict__" : Str))=false:=by decide):PE X (.Name x pos) (tVar i):=by
 intro pins s σ H Q I h
 obtain ⟨v,e,h⟩:=h
 obtain ⟨m,hn,hl⟩:=I.loc
 obtain ⟨u,r,l⟩:=hl i x v hN e hv
 have fin:EP X pins σ Q u s:=⟨v,H,I,r,h⟩
 rcases l with ⟨hk,hm⟩ | ⟨hk,c,hc,hcell⟩
 ·exact wpAny_Name (wpAny_loadName_local I.ok.kind hk hn hm fin) hd
 ·rcases hk with hk | hk
  ·exact wpAny_Name (wpAny_loadName_cell I.ok.kind hk hc hcell fin) hd
  ·exact wpAny_Name (wpAny_loadName_free I.ok.kind hk hc hcell fin hcd) hd
theorem zjL {i j pos}:PE X (.Constant (.int i) j pos) (tC (.int i)):=fun _ _ _ H _ I h=>wpAny_Constant_int ⟨.int i,H,I.tok _,⟨_,rfl⟩,h⟩
theorem zmj {b j pos}:PE X (.Constant (.bool b) j pos) (tC (.bl b)):=fun _ _ _ H _ I h=>Constant_bool ⟨.bl b,H,I,rfl,h⟩
def Gl (X:Cx) (x:Str):Prop:=X.env.kindOf x=some .globalImplicit
theorem zhm {E:Value->Shared->Prop} {pins:List (Addr × Obj)} {s:Shared} {σ : St} {H:Hp} {x:Str} {u:Value} {pos:Pos} {Q:Value->Shared->Prop} (I:Inv X pins σ H s) (hg:Gl X x) (hm:X.mg x=some u) (h:Q u s)
  (hd:(x == ("__debug__" : Str))=false:=by decide):wpAny (model X.prog X.w) X.A (eval (.Name x pos) X.env) Q E s :=
 Calls.Name_function_global I.ok.kind hg (Calls.loadGlobal_global (by rw [I.ok.glob];exact I.mod.glob.keeps I.bk) hm h) hd
theorem zdn {E:Value->Shared->Prop} {pins:List (Addr × Obj)} {s:Shared} {σ : St} {H:Hp} {x:Str} {u:Value} {pos:Pos} {Q:Value->Shared->Prop} (I:Inv X pins σ H s) (hg:Gl X x) (hm:X.mg x=none) (hv:bootBuiltins x=some u) (h:Q u s)
  (hn:x ≠ "__name__" := by decide) (hd:(x == ("__debug__" : Str))=false:=by decide):wpAny (model X.prog X.w) X.A (eval (.Name x pos) X.env) Q E s:=by
 obtain ⟨mb,h1,h2⟩:=I.mod.blt
 exact Calls.Name_function_global I.ok.kind hg (Calls.loadGlobal_builtin (by rw [I.ok.glob];exact I.mod.glob.keeps I.bk) hm (by rw [I.ok.blt];exact h1.keeps I.bk) ((h2 x hn).trans hv) h) hd
theorem zj4 {x:Str} {v:V} {u:Value} {pos:Pos} (hg:Gl X x) (hm:X.mg x=some u) (r:RelV v u) (hd:(x == ("__debug__" : Str))=false:=by decide):PE X (.Name x pos) (tC v) :=
 fun _ _ _ H _ I h=>zhm I hg hm ⟨v,H,I,r,h⟩ hd
theorem zj5 {x:Str} {v:V} {u:Value} {pos:Pos} (hg:Gl X x) (hm:X.mg x=none) (hv:bootBuiltins x=some u) (r:RelV v u) (hn:x ≠ "__name__" := by decide) (hd:(x == ("__debug__" : Str))=false:=by decide):PE X (.Name x pos) (tC v) :=
 fun _ _ _ H _ I h=>zdn I hg hm hv ⟨v,H,I,r,h⟩ hn hd
variable {a b:Expr} {ta tb:TE} {pos:Pos}
def tB (t:TE):TT:=fun σ H Q=>t σ H fun x H1=>∃ c,x=.bl c/\Q c H1
theorem zlj {e:Expr} {t:TE} (h:PE X e t) (he:∀ whole,isTrue e X.env whole=(do let v ← whole;standAt e.pos;holding [v] (truthy v)):=by intro _;rfl):PT X e (tB t):=by
 intro pins s σ H Q I hw
 refine isTrue_plain (thn (h pins s σ H _ I hw) fun v s1 ⟨x,H1,I1,r1,q1⟩=>?_) (he _)
 obtain ⟨d,rfl,q⟩:=q1
 cases r1
 exact wpAny_truthy_bool ⟨H1,I1,q⟩
variable {tA tB':TT} {rest:List Expr}
def tAnd (t u:TT):TT:=fun σ H Q=>t σ H fun c H1=>if c=true then u σ H1 Q else Q false H1
def tOr (t u:TT):TT:=fun σ H Q=>t σ H fun c H1=>if c=true then Q true H1 else u σ H1 Q
def tNot (t:TT):TT:=fun σ H Q=>t σ H fun c H1=>Q (!c) H1
theorem zj6 (ha:PT X a tA):PW X (.BoolOp .And [a] pos) tA:=by
 intro wh pins s σ H Q I h
 refine isTrue_and (thn (ha pins s σ H Q I h) fun c s1 e=>?_)
 cases c with
 | true=>exact isTrue_and_nil e
 | false=>exact e
theorem zlk (ha:PT X a tA):PW X (.BoolOp .Or [a] pos) tA:=by
 intro wh pins s σ H Q I h
 refine isTrue_or (thn (ha pins s σ H Q I h) fun c s1 e=>?_)
 cases c with
 | false=>exact isTrue_or_nil e
 | true=>exact e
theorem zll (ha:PT X a tA) (hb:PW X (.BoolOp .And (b :: rest) pos) tB'):PW X (.BoolOp .And (a :: b :: rest) pos) (tAnd tA tB'):=by
 intro wh pins s σ H Q I h
 refine isTrue_and (thn (ha pins s σ H _ I h) fun c s1 ⟨H1,I1,q1⟩=>?_)
 cases c with
 | true=>exact hb wh pins s1 σ H1 Q I1 q1
 | false=>exact ⟨H1,I1,q1⟩
theorem zmk (ha:PT X a tA) (hb:PW X (.BoolOp .Or (b :: rest) pos) tB'):PW X (.BoolOp .Or (a :: b :: rest) pos) (tOr tA tB'):=by
 intro wh pins s σ H Q I h
 refine isTrue_or (thn (ha pins s σ H _ I h) fun c s1 ⟨H1,I1,q1⟩=>?_)
 cases c with
 | true=>exact ⟨H1,I1,q1⟩
 | false=>exact hb wh pins s1 σ H1 Q I1 q1
theorem zlm (ha:PT X a tA):PT X (.UnaryOp .Not a pos) (tNot tA):=by
 intro pins s σ H Q I h
 exact isTrue_not (ha pins s σ H (fun c H1=>Q (!c) H1) I h)
def zml (ta tb:TE):TE:=fun σ H Q=>ta σ H fun x H1=>∃ c,x=.bl c/\if c=true then tb σ H1 Q else Q (.bl false) H1
def zmm (ta:TE):TE:=fun σ H Q=>ta σ H fun x H1=>∃ c,x=.bl c/\Q (.bl (!c)) H1
theorem zln {op} {t:TE} (h:PE X a t):PE X (.BoolOp op [a] pos) t:=fun pins s σ H Q I hw=>BoolOp_one (h pins s σ H Q I hw)
theorem zlo (ha:PE X a ta) (hb:PE X (.BoolOp .And (b :: rest) pos) tb):PE X (.BoolOp .And (a :: b :: rest) pos) (zml ta tb):=by
 intro pins s σ H Q I h
 refine BoolOp_and (thn (ha pins s σ H _ I h) fun v s1 ⟨x,H1,I1,r1,q1⟩=>?_)
 obtain ⟨c,rfl,q1⟩:=q1
 cases r1
 refine wpAny_truthy_bool ?_
 cases c with
 | true=>exact hb pins s1 σ H1 Q I1 q1
 | false=>exact ⟨.bl false,H1,I1,rfl,q1⟩
theorem zlp (ha:PE X a ta):PE X (.UnaryOp .Not a pos) (zmm ta):=by
 intro pins s σ H Q I h
 refine UnaryOp_ (thn (ha pins s σ H _ I h) fun v s1 ⟨x,H1,I1,r1,q1⟩=>?_)
 obtain ⟨c,rfl,q1⟩:=q1
 cases r1
 exact not_of (wpAny_truthy_bool ⟨.bl (!c),H1,I1,rfl,q1⟩)
end
def SqL (K:PySem.W.Frag) (H:Hp) (a:Addr) (xs:List V):Prop :=
 Rd H a (.lst xs) ∨
  ∃ (o:Obj) (its:Array Value) (n:Nat),K.lookup a=some o/\o.cls=.type "list" /\ o.dict=none/\o.data=.seq its n/\its.size<=sizeLine/\Vals xs its.toList
def SqT (K:PySem.W.Frag) (H:Hp) (a:Addr) (xs:List V):Prop :=
 Rd H a (.tup xs) ∨
  ∃ (o:Obj) (its:Array Value) (n:Nat),K.lookup a=some o/\o.cls=.type "tuple" /\ o.data=.seq its n/\its.size<=sizeLine/\Vals xs its.toList
def absV:Value->Option V
 | .none=>some .non
 | .bool b=>some (.bl b)
 | .int i _=>some (.int i)
 | .str x _=>some (.str x)
 | .bytes b _=>some (.byt b)
 | .float b _=>some (.flt b)
 | .ref a=>some (.ref a)
 | .type n=>some (.ty n)
 | _=>none
theorem RelV.abs {x:V} {u:Value} (r:RelV x u):absV u=some x:=by
 cases x with
 | non=>cases r;rfl
 | bl _=>cases r;rfl
 | int _=>obtain ⟨t,rfl⟩:=r;rfl
 | str _=>obtain ⟨t,rfl⟩:=r;rfl
 | byt _=>obtain ⟨t,rfl⟩:=r;rfl
 | flt _=>obtain ⟨t,rfl⟩:=r;rfl
 | ref _=>cases r;rfl
 | ty _=>cases r;rfl
theorem RelV.inj {x y:V} {u:Value} (r:RelV x u) (q:RelV y u):x=y:=Option.some.inj (r.abs.symm.trans q.abs)
theorem Vals.inj:∀ {xs ys:List V} {us:List Value},Vals xs us->Vals ys us->xs=ys
 | _,_,_,.nil,.nil=>rfl
 | _,_,_,.cons r t,.cons r' t'=>by rw [r.inj r',Vals.inj t t']
section
variable {X:Cx} {pins:List (Addr × Obj)} {σ : St} {H:Hp} {s:Shared} {a:Addr} {xs ys:List V}
theorem SqL.of {K:PySem.W.Frag} (h:H a=some (.lst xs)):SqL K H a xs:=.inl (.inl h)
theorem SqT.of {K:PySem.W.Frag} (h:H a=some (.tup xs)):SqT K H a xs:=.inl (.inl h)
theorem Inv.list (I:Inv X pins σ H s) (h:SqL X.K H a xs):∃ its:List Value,Vals xs its/\PlainL s.heap a its.toArray/\xs.length<=sizeLine:=by
 rcases h with h | ⟨o,its,n,hk,hc,hd,hs,hz,r⟩
 ·obtain ⟨z,its,n,r,e⟩:=h.ok I.hok
  exact ⟨its,r,⟨_,n,e,rfl,rfl,rfl⟩,z⟩
 ·refine ⟨its.toList,r,⟨o,n,I.kIn a o hk,hc,hd,by simpa using hs⟩,?_⟩
  have e:=r.length
  simp only [Array.length_toList] at e
  omega
theorem Inv.tuple (I:Inv X pins σ H s) (h:SqT X.K H a xs):∃ its:List Value,Vals xs its/\IsTup s.heap a its.toArray/\xs.length<=sizeLine:=by
 rcases h with h | ⟨o,its,n,hk,hc,hs,hz,r⟩
 ·obtain ⟨z,its,r,p⟩:=h.ok I.hok
  exact ⟨its,r,p,z⟩
 ·refine ⟨its.toList,r,⟨o,I.kIn a o hk,hc,n,by simpa using hs⟩,?_⟩
  have e:=r.length
  simp only [Array.length_toList] at e
  omega
theorem Inv.list_inj (I:Inv X pins σ H s) (h:SqL X.K H a xs) (h':SqL X.K H a ys):xs=ys:=by
 obtain ⟨its,r,⟨o,n,e,_,_,d⟩,_⟩:=I.list h
 obtain ⟨its',r',⟨o',n',e',_,_,d'⟩,_⟩:=I.list h'
 rw [e] at e';cases e'
 rw [d] at d'
 injection d' with d1 _
 have:its=its':=by simpa using congrArg Array.toList d1
 subst this
 exact r.inj r'
theorem Inv.tuple_inj (I:Inv X pins σ H s) (h:SqT X.K H a xs) (h':SqT X.K H a ys):xs=ys:=by
 obtain ⟨its,r,⟨o,e,_,n,d⟩,_⟩:=I.tuple h
 obtain ⟨its',r',⟨o',e',_,n',d'⟩,_⟩:=I.tuple h'
 rw [e] at e';cases e'
 rw [d] at d'
 injection d' with d1 _
 have:its=its':=by simpa using congrArg Array.toList d1
 subst this
 exact r.inj r'
end
abbrev Cx.wish (X:Cx) (E:Value->Shared->Prop):Cx:={ X with xe:=E }
abbrev Cx.nox (X:Cx):Cx:=X.wish fun _ _=>False
theorem Cx.Ok.wish {X:Cx} (ok:X.Ok) (E:Value->Shared->Prop):(X.wish E).Ok :=
 ⟨ok.mod,ok.kind,ok.glob,ok.blt,ok.above,ok.inj,ok.has,ok.cab,ok.hd,ok.frames,ok.stk,ok.exf,ok.bs,ok.bsz,ok.noex,ok.exfs,ok.funs,ok.frf⟩
theorem Cx.Ok.unwish {X:Cx} {E:Value->Shared->Prop} (ok:(X.wish E).Ok):X.Ok :=
 ⟨ok.mod,ok.kind,ok.glob,ok.blt,ok.above,ok.inj,ok.has,ok.cab,ok.hd,ok.frames,ok.stk,ok.exf,ok.bs,ok.bsz,ok.noex,ok.exfs,ok.funs,ok.frf⟩
section
variable {X:Cx} {pins:List (Addr × Obj)} {σ : St} {H:Hp} {s:Shared} {E:Value->Shared->Prop}
theorem Inv.wish (I:Inv X pins σ H s) (E:Value->Shared->Prop):Inv (X.wish E) pins σ H s:=⟨I.ok.wish E,I.os,I.bare,I.base,I.loc,I.cell,I.free,I.freeC,I.pin,I.hok,I.len⟩
theorem Inv.unwish (I:Inv (X.wish E) pins σ H s):Inv X pins σ H s:=⟨I.ok.unwish,I.os,I.bare,I.base,I.loc,I.cell,I.free,I.freeC,I.pin,I.hok,I.len⟩
theorem SP.unwish {D:Ends} {f:Flow} {s':Shared} (h:SP (X.wish E) pins D f s'):SP X pins D f s':=by
 cases f with
 | next=>obtain ⟨σ',H',I,q⟩:=h;exact ⟨σ',H',I.unwish,q⟩
 | brk=>obtain ⟨σ',H',I,q⟩:=h;exact ⟨σ',H',I.unwish,q⟩
 | cont=>obtain ⟨σ',H',I,q⟩:=h;exact ⟨σ',H',I.unwish,q⟩
 | ret u=>obtain ⟨v,σ',H',I,r,q⟩:=h;exact ⟨v,σ',H',I.unwish,r,q⟩
theorem PSs.nox {st:List Stmt} {t:TS} (h:PSs X.nox st t):PSs X st t:=fun pins s σ H D I hw =>
 wpAny_mono (h pins s σ H D (I.wish _) hw) (fun _ _ q=>q.unwish) fun _ _ z=>False.elim z
end
section
variable {X:Cx} {st:Stmt} {rest:List Stmt} {t u:TS} {e:Expr} {te:TE} {pos:Pos}
def zmn:TS:=fun D σ H=>D.nx σ H
def tSeq (t u:TS):TS:=fun D σ H=>t { D with nx:=u D } σ H
theorem zj7:PSs X [] zmn:=fun _ _ σ H _ I h=>wpAny_execs_nil ⟨σ,H,I,h⟩
theorem zew (h1:PS X st t) (h2:PSs X rest u):PSs X (st :: rest) (tSeq t u):=by
 intro pins s σ H D I h
 refine wpAny_execs_cons (thn (h1 pins s σ H { D with nx:=u D } I h) fun f s1 q=>?_)
 cases f with
 | next =>
  obtain ⟨σ',H',I',q⟩:=q
  exact h2 pins s1 σ' H' D I' q
 | ret v=>exact q
 | brk=>exact q
 | cont=>exact q
theorem zfT (h1:PS X st t):PSs X [st] t:=by
 intro pins s σ H D I h
 refine wpAny_execs_cons (thn (h1 pins s σ H D I h) fun f s1 q=>?_)
 cases f with
 | next=>exact wpAny_execs_nil q
 | ret v=>exact q
 | brk=>exact q
 | cont=>exact q
theorem Inv.quiet {pins:List (Addr × Obj)} {σ : St} {H:Hp} {s:Shared} (I:Inv X pins σ H s):interactive X.env=false:=by simp [interactive,I.ok.kind]
def zmo (te:TE):TS:=fun D σ H=>te σ H fun _ H1=>D.nx σ H1
theorem zdo (he:PE X e te) (hs:swapsWith e none pos.line X.env=pure false:=by rfl):PS X (.Expr e pos) (zmo te):=by
 intro pins s σ H D I h
 exact wpAny_Expr_any (thn (he pins s σ H _ I h) fun v s1 ⟨x,H1,I1,r1,q1⟩=>⟨σ,H1,I1,q1⟩) I.quiet hs
def tRet (te:TE):TS:=fun D σ H=>te σ H D.rt
theorem zhn (he:PE X e te):PS X (.Return (some e) pos) (tRet te):=by
 intro pins s σ H D I h
 exact wpAny_Return_some (thn (he pins s σ H _ I h) fun v s1 ⟨x,H1,I1,r1,q1⟩=>⟨x,σ,H1,I1,r1,q1⟩)
def tIfS (c:TT) (t u:TS):TS:=fun D σ H=>c σ H fun b H1=>if b=true then t D σ H1 else u D σ H1
theorem zmp {c:Expr} {a b:List Stmt} {tc:TT} (hc:PT X c tc) (ha:PSs X a t) (hb:PSs X b u):PS X (.If c a b pos) (tIfS tc t u):=by
 intro pins s σ H D I h
 refine wpAny_If (thn (hc pins s σ H _ I h) fun d s1 ⟨H1,I1,q1⟩=>?_)
 cases d with
 | true=>exact ha pins s1 σ H1 D I1 q1
 | false=>exact hb pins s1 σ H1 D I1 q1
end
abbrev TG:=V->St->Hp->(St->Hp->Prop)->Prop
abbrev TGs:=List V->St->Hp->(St->Hp->Prop)->Prop
def PG (X:Cx) (target:Expr) (t:TG):Prop :=
 ∀ (pins:List (Addr × Obj)) (s:Shared) (σ : St) (H:Hp) (v:V) (u:Value) (Q:St->Hp->Prop),Inv X pins σ H s->RelV v u->t v σ H Q ->
  wpAny (model X.prog X.w) X.A (assign target X.env u) (fun _ s'=>∃ σ' H',Inv X pins σ' H' s'/\Q σ' H') X.xe s
def PGs (X:Cx) (ts:List Expr) (t:TGs):Prop :=
 ∀ (pins:List (Addr × Obj)) (s:Shared) (σ : St) (H:Hp) (vs:List V) (us:List Value) (Q:St->Hp->Prop),Inv X pins σ H s->Vals vs us->t vs σ H Q ->
  wpAny (model X.prog X.w) X.A (assignInOrder ((assignEach ts X.env).map (·.2)) us) (fun _ s'=>∃ σ' H',Inv X pins σ' H' s'/\Q σ' H') X.xe s
section
variable {X:Cx} {pos:Pos}
def zj8 (i:Nat):TG:=fun v σ H Q=>Q (σ.set i (some v)) H
theorem zau {i:Nat} {x:Str} (hN:X.N.Nodup) (hi:X.N[i]?=some x) (hx:Loc X.env.scope x) (hf:X.fn x=true ∨ X.env.scope.names.lookup x=some .local:=by first | exact .inl rfl | exact .inr rfl | assumption):PG X (.Name x pos) (zj8 i):=by
 intro pins s σ H v u Q I r h
 exact wpAny_assign_Name (zgl I hN hi hx r (fun s' I'=>⟨_,H,I',h⟩) hf)
def gNil:TGs:=fun vs σ H Q=>vs=[]/\Q σ H
def zmq (t:TG) (u:TGs):TGs:=fun vs σ H Q=>∃ v r,vs=v :: r/\t v σ H fun σ' H'=>u r σ' H' Q
theorem zj9:PGs X [] gNil:=by
 intro pins s σ H vs us Q I r h
 obtain ⟨e,h⟩:=h
 subst e
 cases r
 exact assignInOrder_nil ⟨σ,H,I,h⟩
theorem ziX {e:Expr} {es:List Expr} {t:TG} {u:TGs} (h1:PG X e t) (h2:PGs X es u)
  (hs:(assignEach (e :: es) X.env).map (·.2)=assign e X.env :: (assignEach es X.env).map (·.2):=by rfl):PGs X (e :: es) (zmq t u):=by
 intro pins s σ H vs us Q I r h
 obtain ⟨v,vr,e1,h⟩:=h
 subst e1
 cases r with
 | cons r rr =>
  rw [hs]
  refine assignInOrder_cons (thn (h1 pins s σ H _ _ _ I r h) fun _ s1 ⟨σ1,H1,I1,q1⟩=>?_)
  exact h2 pins s1 σ1 H1 _ _ Q I1 rr q1
def gTup (K:PySem.W.Frag) (n:Nat) (t:TGs):TG:=fun v σ H Q=>∃ a xs,v=.ref a/\SqT K H a xs/\xs.length=n/\t xs σ H Q
theorem zlq {es:List Expr} {k:Nat} {t:TGs} {n:Nat} (hc:X.calm=true) (h:PGs X es t)
  (hn:(assignEach es X.env).length=n:=by rfl) (hst:(assignEach es X.env).findIdx? (·.1)=none:=by rfl):PG X (.Tuple es k pos) (gTup X.K n t):=by
 intro pins s σ H v u Q I r hw
 obtain ⟨a,xs,e1,hq,hl,hw⟩:=hw
 subst e1
 cases r
 obtain ⟨its,rv,ht,hz⟩:=I.tuple hq
 refine assign_Tuple_tuple (I.ok.hd hc) ht (by simp [hn,← hl,rv.length]) hst fun h' hx=>?_
 have I1:Inv X pins σ H { s with heap:=h' }:=I.kept (t':=s.toks) fun b o e=>hx b o (Nat.ne_of_lt (Heap.lt_size e)) e
 exact h pins _ σ H xs _ Q I1 (by simpa using rv) hw
def tAsg (te:TE) (g:TG):TS:=fun D σ H=>te σ H fun x H1=>g x σ H1 D.nx
theorem zlr {tg e:Expr} {te:TE} {g:TG} (he:PE X e te) (hg:PG X tg g) (hs:swapsWithSole [tg] e pos.line X.env=pure false:=by rfl) (hw:swappedStores [tg] e X.env=pure none:=by rfl)
  (h1:(assignEach [tg] X.env).map (·.2)=[assign tg X.env]:=by rfl):PS X (.Assign [tg] e pos) (tAsg te g):=by
 intro pins s σ H D I h
 refine wpAny_Assign_stores (thn (he pins s σ H _ I h) fun v s1 ⟨x,H1,I1,r1,q1⟩=>?_) hs hw
 rw [h1]
 exact thn (hg pins s1 σ H1 x v _ I1 r1 q1) fun _ s2 q=>q
theorem zho {i:Nat} {x:Str} {e:Expr} {te:TE} {pos':Pos} (hN:X.N.Nodup) (hi:X.N[i]?=some x) (hx:Loc X.env.scope x) (he:PE X e te) (hs:swapsWith e (some (.Name x pos')) pos.line X.env=pure false:=by rfl) (hf:X.fn x=true ∨ X.env.scope.names.lookup x=some .local:=by first | exact .inl rfl | exact .inr rfl | assumption) :
  PS X (.Assign [.Name x pos'] e pos) (tAsg te (zj8 i)):=by
 intro pins s σ H D I h
 refine wpAny_Assign_Name (thn (he pins s σ H _ I h) fun v s1 ⟨y,H1,I1,r1,q1⟩=>?_) hs
 exact zgl I1 hN hi hx r1 (fun s2 I2=>⟨_,H1,I2,q1⟩) hf
end
section
variable {X:Cx} {pos:Pos}
end
structure It where
 go:Nat->Hp->Prop
 yld:Nat->Hp->V->Hp->Prop
 stop:Nat->Hp->Prop
def FpOk (X:Cx) (pins:List (Addr × Obj)) (H:Hp) (b:Addr):Prop :=
 H b=none/\b ≠ X.env.locals/\b ∉ X.fs/\(b ∈ X.ex ∨ X.s₀.heap.objs.size<=b)/\(∀ x c,X.env.cells.lookup x=some c->c ≠ b)/\∀ p ∈ X.pn ++ pins,p.1 ≠ b
theorem Inv.fpOk {X:Cx} {pins:List (Addr × Obj)} {σ : St} {H H':Hp} {s:Shared} {b:Addr} (I:Inv X pins σ H s) (hb:s.heap.objs.size<=b) (hn:H' b=none):FpOk X pins H' b:=by
 refine ⟨hn,Nat.ne_of_gt (Nat.lt_of_lt_of_le I.lt hb),I.nofs hb,.inr (Nat.le_trans I.sz hb),fun x c e z=>?_,fun p hp z=>?_⟩
 ·obtain ⟨v,q⟩:=I.cell x c e
  exact absurd (Nat.lt_of_lt_of_le q.lt (by rw [z];exact hb)) (Nat.lt_irrefl _)
 ·exact absurd (Nat.lt_of_lt_of_le (Heap.lt_size (I.pin p hp).1) (by rw [z];exact hb)) (Nat.lt_irrefl _)
structure Turn (P:Program) (w:World) (K:PySem.W.Frag) (tg:Expr) (J:It) (fp:List Addr) (it:Addr) (tn:Nat->Heap->Prop):Prop where
 mem:it ∈ fp
 obj:∀ i h,tn i h->∀ b ∈ fp,∃ o,h.get? b=some o/\∀ v,o.data ≠ .cell v
 keep:∀ i h h',tn i h->(∀ b ∈ fp,∀ o,h.get? b=some o->h'.get? b=some o)->tn i h'
 item:∀ (X:Cx),X.prog=P->X.w=w->X.K=K->X.calm=true->∀ (i:Nat) (pins:List (Addr × Obj)) (s:Shared) (σ : St) (H:Hp) (E:Value->Shared->Prop),Inv X pins σ H s->(∀ b ∈ fp,FpOk X pins H b)->tn i s.heap->J.go i H ->
  wpAny (model P w) X.A (pyNext (.ref it)) (fun r s1=>∃ u,r=some u /\
   wpAny (model P w) X.A (letOwnedTupleGo tg (.ref it) u) (fun _ s2=>∃ x H',Inv X pins σ H' s2/\RelV x u/\J.yld i H x H'/\tn (i+1) s2.heap/\∀ b ∈ fp,H' b=none) E s1) E s
 done:∀ (X:Cx),X.prog=P->X.w=w->X.K=K->X.calm=true->∀ (i:Nat) (pins:List (Addr × Obj)) (s:Shared) (σ : St) (H:Hp) (E:Value->Shared->Prop),Inv X pins σ H s->(∀ b ∈ fp,FpOk X pins H b)->tn i s.heap->J.stop i H ->
  wpAny (model P w) X.A (pyNext (.ref it)) (fun r s1=>r=none/\Inv X pins σ H s1) E s
 self:∀ (A:Around) (i:Nat) (s:Shared) (Q:Value->Shared->Prop) (E:Value->Shared->Prop),tn i s.heap->Q (.ref it) s->wpAny (model P w) A (pyIter (.ref it)) Q E s
abbrev TI:=St->Hp->(It->Hp->Prop)->Prop
def PIE (X:Cx) (pins:List (Addr × Obj)) (σ : St) (tg:Expr) (R:It->Hp->Prop) (itv:Value) (s2:Shared):Prop :=
 ∃ (it:Addr) (fp:List Addr) (tn:Nat->Heap->Prop) (J:It) (H':Hp),itv=.ref it/\Inv X pins σ H' s2/\Turn X.prog X.w X.K tg J fp it tn/\tn 0 s2.heap/\(∀ b ∈ fp,FpOk X pins H' b)/\R J H'
def PI (X:Cx) (tg iter:Expr) (wi:TI):Prop :=
 ∀ (pins:List (Addr × Obj)) (s:Shared) (σ : St) (H:Hp) (R:It->Hp->Prop),Inv X pins σ H s->wi σ H R ->
  wpAny (model X.prog X.w) X.A (eval iter X.env) (fun v s1=>wpAny (model X.prog X.w) X.A (pyIter v) (PIE X pins σ tg R) X.xe s1) X.xe s
theorem zhp {M:Model} {A:Around} {E:Value->Shared->Prop} {s:Shared} {tg:Expr} {it:Addr} {u:Value} {o:Obj} {n:String} {vs:Array Value} {Q:Unit->Shared->Prop} (ho:s.heap.get? it=some o) (hc:o.cls=.type n) (hd:o.data=.fields vs)
  (hn:["enumerate", "zip", "dict_itemiterator", "dict_reverseitemiterator", "odict_iterator", "itertools.zip_longest", "itertools.pairwise"].contains n=false) (hQ:Q () s):wpAny M A (letOwnedTupleGo tg (.ref it) u) Q E s:=by
 unfold letOwnedTupleGo
 cases tg <;> first
  | exact wpAny_pure hQ
  | (cases u <;> first
    | exact wpAny_pure hQ
    | (
      refine wpAny_bind (wpAny_load ho ?_)
      rw [hc,hd]
      show wpAny M A (if (["enumerate", "zip", "dict_itemiterator", "dict_reverseitemiterator", "odict_iterator", "itertools.zip_longest", "itertools.pairwise"].contains n && vs[0]? == some (rawInt _))=true then _ else _) Q E s
      rw [if_neg (by intro h;rw [hn,Bool.false_and] at h;cases h)]
      exact wpAny_pure hQ))
def Itl (K:PySem.W.Frag) (a:Addr):It :=
 ⟨fun i H=>∃ xs x,SqL K H a xs/\xs[i]?=some x,fun i H x H'=>H'=H/\∀ xs,SqL K H a xs->xs[i]?=some x,fun i H=>∃ xs,SqL K H a xs/\xs.length<=i⟩
def Itt (K:PySem.W.Frag) (a:Addr):It :=
 ⟨fun i H=>∃ xs x,SqT K H a xs/\xs[i]?=some x,fun i H x H'=>H'=H/\∀ xs,SqT K H a xs->xs[i]?=some x,fun i H=>∃ xs,SqT K H a xs/\xs.length<=i⟩
def Itr (lo:Int) (n:Nat):It:=⟨fun i _=>i < n,fun i H x H'=>H'=H/\x=.int (lo+i),fun i _=>n<=i⟩
theorem zhq {P:Program} {w:World} {K:PySem.W.Frag} {tg:Expr} (a it:Addr):Turn P w K tg (Itl K a) [it] it (fun i h=>h.IsListIter it a i) where
 mem:=by simp
 obj:=fun i h st b hb=>by
  have e:b=it:=by simpa using hb
  subst e
  obtain ⟨o,e,c,d⟩:=st
  exact ⟨o,e,fun v z=>by rw [d] at z;cases z⟩
 keep:=fun i h h' st k=>st.at fun o e=>k it (by simp) o e
 item:=by
  intro X hP hw hK hc i pins s σ H E I hf st hg
  subst hP hw hK
  obtain ⟨xs,x,hq,hx⟩:=hg
  obtain ⟨its,rv,p,hz⟩:=I.list hq
  obtain ⟨u,hu,ru⟩:=rv.get hx
  obtain ⟨f0,f1,f2,f3,f4,f5⟩:=hf it (by simp)
  refine wpAny_pyNext_list_item st p.isList (x:=u) (by simpa using hu) fun h' st' sb=>?_
  have I1:Inv X pins σ H { s with heap:=h' }:=I.turned (t':=s.toks) (fun b o hb e=>(sb.2 b hb).trans e) f0 f1 f3 f4 f5
  obtain ⟨o,e,c,d⟩:=id st'
  exact ⟨u,rfl,zhp (s:={ s with heap:=h' }) e c d (by decide) ⟨x,H,I1,ru,⟨rfl,fun ys hy=>by rw [I.list_inj hy hq];exact hx⟩,st',fun b hb=>(hf b hb).1⟩⟩
 done:=by
  intro X hP hw hK hc i pins s σ H E I hf st hg
  subst hP hw hK
  obtain ⟨xs,hq,hx⟩:=hg
  obtain ⟨its,rv,p,hz⟩:=I.list hq
  obtain ⟨f0,f1,f2,f3,f4,f5⟩:=hf it (by simp)
  have hl:=rv.length
  exact wpAny_pyNext_list_end (I.ok.hd hc) st p.isList (by simp;omega) fun h' eb=>⟨rfl,I.turned (t':=s.toks) (fun b o hb e=>eb b o hb e) f0 f1 f3 f4 f5⟩
 self:=fun _ _ _ _ _ st h=>wpAny_pyIter_listiter st h
theorem zgO {P:Program} {w:World} {K:PySem.W.Frag} {tg:Expr} (a it:Addr):Turn P w K tg (Itt K a) [it] it (fun i h=>h.IsTupleIter it a i) where
 mem:=by simp
 obj:=fun i h st b hb=>by
  have e:b=it:=by simpa using hb
  subst e
  obtain ⟨o,e,c,d⟩:=st
  exact ⟨o,e,fun v z=>by rw [d] at z;cases z⟩
 keep:=fun i h h' st k=>st.at fun o e=>k it (by simp) o e
 item:=by
  intro X hP hw hK hc i pins s σ H E I hf st hg
  subst hP hw hK
  obtain ⟨xs,x,hq,hx⟩:=hg
  obtain ⟨its,rv,p,hz⟩:=I.tuple hq
  obtain ⟨u,hu,ru⟩:=rv.get hx
  obtain ⟨f0,f1,f2,f3,f4,f5⟩:=hf it (by simp)
  refine wpAny_pyNext_tuple_item st (show s.heap.IsTuple a its.toArray from p) (x:=u) (by simpa using hu) fun h' st' sb=>?_
  have I1:Inv X pins σ H { s with heap:=h' }:=I.turned (t':=s.toks) (fun b o hb e=>(sb.2 b hb).trans e) f0 f1 f3 f4 f5
  obtain ⟨o,e,c,d⟩:=id st'
  exact ⟨u,rfl,zhp (s:={ s with heap:=h' }) e c d (by decide) ⟨x,H,I1,ru,⟨rfl,fun ys hy=>by rw [I.tuple_inj hy hq];exact hx⟩,st',fun b hb=>(hf b hb).1⟩⟩
 done:=by
  intro X hP hw hK hc i pins s σ H E I hf st hg
  subst hP hw hK
  obtain ⟨xs,hq,hx⟩:=hg
  obtain ⟨its,rv,p,hz⟩:=I.tuple hq
  obtain ⟨f0,f1,f2,f3,f4,f5⟩:=hf it (by simp)
  have hl:=rv.length
  exact wpAny_pyNext_tuple_end (I.ok.hd hc) st (show s.heap.IsTuple a its.toArray from p) (by simp;omega) fun h' eb=>⟨rfl,I.turned (t':=s.toks) (fun b o hb e=>eb b o hb e) f0 f1 f3 f4 f5⟩
 self:=fun _ _ _ _ _ st h=>wpAny_pyIter_tupleiter st h
theorem zgP {P:Program} {w:World} {K:PySem.W.Frag} {tg:Expr} (it:Addr) (lo:Int) (n:Nat):Turn P w K tg (Itr lo n) [it] it (fun i h=>IsRangeIter h it (lo+(i:Nat) * 1) ((n:Int) - (i:Nat)) 1) where
 mem:=by simp
 obj:=fun i h st b hb=>by
  have e:b=it:=by simpa using hb
  subst e
  exact ⟨_,st,fun v z=>by
   have z':Data.fields _=Data.cell v:=z
   cases z'⟩
 keep:=fun i h h' st k=>k it (by simp) _ st
 item:=by
  intro X hP hw hK hc i pins s σ H E I hf st hg
  subst hP hw hK
  obtain ⟨f0,f1,f2,f3,f4,f5⟩:=hf it (by simp)
  have W:=Walks.range (prog:=X.prog) (w:=X.w) (I.ok.hd hc) it lo 1 n
  refine W.item i s _ _ hg st fun v h' tk hv st' kk=>?_
  obtain ⟨t,rfl⟩:=hv
  have I1:Inv X pins σ H { s with heap:=h',toks:=tk }:=I.turned (fun b o hb e=>kk b o (by simpa using hb) e) f0 f1 f3 f4 f5
  refine ⟨_,rfl,zhp (s:={ s with heap:=h',toks:=tk }) (n := "range_iterator") st' rfl rfl (by decide) ⟨.int (lo+i),H,I1,⟨t,?_⟩,⟨rfl,rfl⟩,st',fun b hb=>(hf b hb).1⟩⟩
  rw [Int.mul_one]
 done:=by
  intro X hP hw hK hc i pins s σ H E I hf st hg
  subst hP hw hK
  obtain ⟨f0,f1,f2,f3,f4,f5⟩:=hf it (by simp)
  exact wpAny_pyNext_range_end (I.ok.hd hc) st (by have:n<=i:=hg;omega) fun h' eb=>⟨rfl,I.turned (t':=s.toks) (fun b o hb e=>eb b o hb e) f0 f1 f3 f4 f5⟩
 self:=fun _ _ _ _ _ st h=>wpAny_pyIter_rangeiter st h
section
variable {X:Cx} {tg:Expr}
theorem zgm {pins:List (Addr × Obj)} {σ : St} {H:Hp} {s:Shared} {R:It->Hp->Prop} {E:Value->Shared->Prop} {lo hi:Int} {t u v:Tok} {tk:Nat} (I:Inv X pins σ H s) (h1 : -(2 ^ 62)<=lo) (h2:lo < 2 ^ 62) (h3 : -(2 ^ 62)<=hi) (h4:hi < 2 ^ 62)
  (q:R (Itr lo (hi - lo).toNat) H):wpAny (model X.prog X.w) X.A (pyIter (.ref s.heap.objs.size)) (PIE X pins σ tg R) E { s with heap:=s.heap.push { cls:=.type "range", data:=.fields #[.int lo t,.int hi u,.int 1 v] },toks:=tk }:=by
 refine wpAny_pyIter_range (IsRange.new ..) (small_one h1 h2 h3 h4) ?_
 have I1:Inv X pins σ H { s with heap:=s.heap.push { cls:=.type "range", data:=.fields #[.int lo t,.int hi u,.int 1 v] },toks:=tk }:=I.kept fun b o e=>Heap.get?_push_of_some _ e
 refine ⟨(s.heap.push { cls:=.type "range", data:=.fields #[.int lo t,.int hi u,.int 1 v] }).objs.size,[(s.heap.push { cls:=.type "range", data:=.fields #[.int lo t,.int hi u,.int 1 v] }).objs.size],_,_,H,rfl,
  I1.kept (t':=tk) fun b o e=>Heap.get?_push_of_some _ e,zgP _ lo (hi - lo).toNat,?_,fun b hb=>?_,q⟩
 ·have e1:lo+((0:Nat):Int) * 1=lo:=by simp
  have e2:(((hi - lo).toNat:Nat):Int) - ((0:Nat):Int)=Builtin.Range.rangeSize lo hi 1:=by rw [rangeSize_one];split <;> omega
  show IsRangeIter _ _ (lo+((0:Nat):Int) * 1) ((((hi - lo).toNat:Nat):Int) - ((0:Nat):Int)) 1
  rw [e1,e2]
  exact Heap.get?_push_size _ rfl
 ·have e:b=(s.heap.push { cls:=.type "range", data:=.fields #[.int lo t,.int hi u,.int 1 v] }).objs.size:=by simpa using hb
  subst e
  exact I1.fpOk (Nat.le_refl _) (I1.hok.fresh (Nat.le_refl _))
def zmr (ta:TA):TI:=fun σ H R=>ta σ H fun vs H1=>∃ j:Int,vs=[.int j] /\ -(2 ^ 62)<=j/\j < 2 ^ 62/\R (Itr 0 j.toNat) H1
def zms (ta:TA):TI:=fun σ H R=>ta σ H fun vs H1=>∃ i j:Int,vs=[.int i,.int j]/\(-(2 ^ 62)<=i/\i < 2 ^ 62 /\ -(2 ^ 62)<=j/\j < 2 ^ 62)/\R (Itr i (j - i).toNat) H1
theorem zhr {a:Expr} {ta:TA} {p pos:Pos} (hg:Gl X "range") (hm:X.mg "range" = none) (ha:PA X [a] ta) (hs:starEach [a] X.env=[(false,eval a X.env)]:=by rfl):PI X tg (.Call (.Name "range" p) [a] [] pos) (zmr ta):=by
 intro pins s σ H R I h
 refine Call_ (zdn I hg hm boot_range (PyProof.Rows.callWith_type1 (thn (ha pos pins s σ H _ I h) fun us s1 ⟨vs,H1,I1,r1,q1⟩=>?_) hs rfl))
 obtain ⟨j,e,q1,q2,q⟩:=q1
 subst e
 cases r1 with
 | cons r rr =>
  cases rr
  obtain ⟨t,rfl⟩:=r
  exact call_range_1 (zgm I1 (by omega) (by omega) q1 q2 (by simpa using q))
theorem zhs {a b:Expr} {ta:TA} {p pos:Pos} (hg:Gl X "range") (hm:X.mg "range" = none) (ha:PA X [a,b] ta) (hs:starEach [a,b] X.env=[(false,eval a X.env),(false,eval b X.env)]:=by rfl) (hs2:starEach [b] X.env=[(false,eval b X.env)]:=by rfl) :
  PI X tg (.Call (.Name "range" p) [a,b] [] pos) (zms ta):=by
 intro pins s σ H R I h
 refine Call_ (zdn I hg hm boot_range (PyProof.Rows.callWith_type1 (thn (ha pos pins s σ H _ I h) fun us s1 ⟨vs,H1,I1,r1,q1⟩=>?_) (by rw [hs,hs2]) (by rw [hs2];rfl)))
 obtain ⟨i,j,e,⟨q1,q2,q3,q4⟩,q⟩:=q1
 subst e
 cases r1 with
 | cons r rr =>
  cases rr with
  | cons r' rr =>
   cases rr
   obtain ⟨t,rfl⟩:=r
   obtain ⟨t',rfl⟩:=r'
   exact call_range_2 (zgm I1 q1 q2 q3 q4 q)
def tFor (wi:TI) (g:TG) (tb:TS):TS:=fun D σ H=>wi σ H fun J H1=>∃ W:Nat->Nat->St->Hp->Prop,(∃ m,W 0 m σ H1)/\∀ i m σ H,W i m σ H ->
 (J.stop i H/\D.nx σ H) ∨ (J.go i H/\∃ N:St->Hp->Prop,(∀ σ' H',N σ' H'->∃ m',m' < m/\W (i+1) m' σ' H')/\∀ x H',J.yld i H x H'->g x σ H' fun σ2 H2=>tb { D with nx:=N,ct:=N,bk:=D.nx } σ2 H2)
def ze9 (fp:List Addr) (h:Heap):List (Addr × Obj):=fp.filterMap fun b=>(h.get? b).map fun o=>(b,o)
theorem zcm {fp:List Addr} {h:Heap} {b:Addr} {o:Obj} (hb:b ∈ fp) (e:h.get? b=some o):(b,o) ∈ ze9 fp h:=List.mem_filterMap.mpr ⟨b,hb,by rw [e];rfl⟩
theorem zht {fp:List Addr} {h:Heap} {p:Addr × Obj} (hp:p ∈ ze9 fp h):p.1 ∈ fp/\h.get? p.1=some p.2:=by
 obtain ⟨b,hb,e⟩:=List.mem_filterMap.mp hp
 cases q:h.get? b with
 | none=>rw [q] at e;cases e
 | some o =>
  rw [q] at e
  have e':(b,o)=p:=Option.some.inj e
  subst e'
  exact ⟨hb,q⟩
theorem Inv.pinned {pins:List (Addr × Obj)} {σ : St} {H:Hp} {s:Shared} {fp:List Addr} (I:Inv X pins σ H s) (hf:∀ b ∈ fp,FpOk X pins H b) (ho:∀ b ∈ fp,∃ o,s.heap.get? b=some o/\∀ v,o.data ≠ .cell v):Inv X (pins ++ ze9 fp s.heap) σ H s :=
 I.pins_of fun p hp=>(List.mem_append.mp hp).elim (fun z=>I.pin p (List.mem_append_right _ z)) fun z=>by
  obtain ⟨hb,e⟩:=zht z
  obtain ⟨f0,f1,f2,_⟩:=hf p.1 hb
  obtain ⟨o,e',d⟩:=ho p.1 hb
  rw [e] at e';cases e'
  exact ⟨e,f0,f1,f2,d⟩
theorem Inv.unpinned {pins pl:List (Addr × Obj)} {σ : St} {H:Hp} {s:Shared} (I:Inv X (pins ++ pl) σ H s):Inv X pins σ H s:=I.pins_of fun p hp=>I.pin p (List.mem_append_right _ (List.mem_append_left _ hp))
theorem zls {iter:Expr} {body:List Stmt} {wi:TI} {g:TG} {tb:TS} {pos:Pos} (hp:PassesOwn (model X.prog X.w) X.A X.env X.xe) (hc:X.calm=true) (hi:PI X tg iter wi) (hg:PG X tg g) (hb:PSs X body tb)
  (hs:∀ x,foldedSetIterable iter X.env x=pure x:=by intro _;rfl):PS X (.For tg iter body [] pos) (tFor wi g tb):=by
 intro pins s σ H D I h
 refine wpAny_For (thn (hi pins s σ H _ I h) fun v s1 h1=>thn h1 fun itv s2 h2=>?_) hs
 obtain ⟨it,fp,tn,J,H2,e,I2,T,st2,f2,W,⟨m0,w0⟩,turn⟩:=h2
 subst e
 have stat:∀ {H':Hp},(∀ b ∈ fp,H' b=none)->∀ b ∈ fp,FpOk X pins H' b:=fun hn b hb=>⟨hn b hb,(f2 b hb).2⟩
 refine codeAny_forLoop_any (fun n s'=>∃ i σ' H',Inv X pins σ' H' s'/\tn i s'.heap/\(∀ b ∈ fp,H' b=none)/\W i n σ' H') ?_ m0 ⟨0,σ,H2,I2,st2,fun b hb=>(f2 b hb).1,w0⟩
 rintro n s3 ⟨i,σ3,H3,I3,st3,fr3,w3⟩
 rcases turn i n σ3 H3 w3 with ⟨stop,qn⟩ | ⟨go,N,hN,step⟩
 ·refine wpAny_passesOwn hp (thn (T.done X rfl rfl rfl hc i pins s3 σ3 H3 X.xe I3 (stat fr3) st3 stop) fun r s4 ⟨hr,I4⟩=>?_)
  subst hr
  exact wpAny_execs_nil ⟨σ3,H3,I4,qn⟩
 ·refine wpAny_passesOwn hp (thn (T.item X rfl rfl rfl hc i pins s3 σ3 H3 X.xe I3 (stat fr3) st3 go) fun r s4 ⟨u,hr,h4⟩=>?_)
  subst hr
  refine wpAny_passesOwn hp (thn h4 fun _ s5 ⟨x,H5,I5,r5,y5,st5,fr5⟩=>?_)
  have I5':=I5.pinned (stat fr5) (T.obj _ _ st5)
  refine wpAny_passesOwn hp (thn (hg _ s5 σ3 H5 x u _ I5' r5 (step x H5 y5)) fun _ s6 ⟨σ6,H6,I6,q6⟩=>?_)
  refine wpAny_passesOwn hp (thn (hb _ s6 σ6 H6 _ I6 q6) fun f s7 q7=>?_)
  have again:∀ {σ7:St} {H7:Hp},Inv X (pins ++ ze9 fp s5.heap) σ7 H7 s7->N σ7 H7->∃ m,m < n/\∃ i σ' H',Inv X pins σ' H' s7/\tn i s7.heap/\(∀ b ∈ fp,H' b=none)/\W i m σ' H':=fun {σ7 H7} I7 n7=>by
   obtain ⟨m',hm,w7⟩:=hN σ7 H7 n7
   refine ⟨m',hm,i+1,σ7,H7,I7.unpinned,T.keep _ _ _ st5 fun b hb o e=>(I7.pin (b,o) (List.mem_append_right _ (List.mem_append_right _ (zcm hb e)))).1,fun b hb=>?_,w7⟩
   obtain ⟨o,e,d⟩:=T.obj _ _ st5 b hb
   exact (I7.pin (b,o) (List.mem_append_right _ (List.mem_append_right _ (zcm hb e)))).2.1
  cases f with
  | next=>obtain ⟨σ7,H7,I7,n7⟩:=q7;exact again I7 n7
  | cont=>obtain ⟨σ7,H7,I7,n7⟩:=q7;exact again I7 n7
  | brk=>obtain ⟨σ7,H7,I7,q7⟩:=q7;exact ⟨σ7,H7,I7.unpinned,q7⟩
  | ret v=>obtain ⟨x7,σ7,H7,I7,r7,q7⟩:=q7;exact ⟨x7,σ7,H7,I7.unpinned,r7,q7⟩
end
abbrev R2:=V->V->Hp->VK->Prop
def OpR (X:Cx) (f:Value->Value->Sem Value) (r:R2):Prop :=
 ∀ (pins:List (Addr × Obj)) (s:Shared) (σ : St) (H:Hp) (x y:V) (v u:Value) (Q:VK),Inv X pins σ H s->RelV x v->RelV y u->r x y H Q ->
  wpAny (model X.prog X.w) X.A (f v u) (EP X pins σ Q) X.xe s
def UnR (X:Cx) (f:Value->Sem Value) (r:V->Hp->VK->Prop):Prop :=
 ∀ (pins:List (Addr × Obj)) (s:Shared) (σ : St) (H:Hp) (x:V) (v:Value) (Q:VK),Inv X pins σ H s->RelV x v->r x H Q ->
  wpAny (model X.prog X.w) X.A (f v) (EP X pins σ Q) X.xe s
def zcu (X:Cx) (f:Value) (r:List V->Hp->VK->Prop):Prop :=
 ∀ (pins:List (Addr × Obj)) (s:Shared) (σ : St) (H:Hp) (xs:List V) (us:List Value) (Q:VK),Inv X pins σ H s->Vals xs us->r xs H Q ->
  wpAny (model X.prog X.w) X.A (call f us) (EP X pins σ Q) X.xe s
def tOp (r:R2) (ta tb:TE):TE:=fun σ H Q=>ta σ H fun x H1=>tb σ H1 fun y H2=>r x y H2 Q
def tUn (r:V->Hp->VK->Prop) (ta:TE):TE:=fun σ H Q=>ta σ H fun x H1=>r x H1 Q
def rI (C:Int->Int->Prop) (g:Int->Int->V):R2:=fun x y H Q=>∃ i j,x=.int i/\y=.int j/\C i j/\Q (g i j) H
def rI0 (g:Int->Int->V):R2:=fun x y H Q=>∃ i j,x=.int i/\y=.int j/\Q (g i j) H
def rU (g:Int->V):V->Hp->VK->Prop:=fun x H Q=>∃ i,x=.int i/\Q (g i) H
section
variable {X:Cx} {a b c:Expr} {ta tb tc:TE} {pos:Pos}
theorem binT (ha:PE X a ta) (hb:PE X b tb) {pins:List (Addr × Obj)} {s:Shared} {σ : St} {H:Hp} {R:V->V->Hp->Prop} (I:Inv X pins σ H s)
  (h:ta σ H fun x H1=>tb σ H1 fun y H2=>R x y H2) {Q:Value->Shared->Prop} {f:Value->Value->Sem Value}
  (hf:∀ v u s2 x y H2,Inv X pins σ H2 s2->RelV x v->RelV y u->R x y H2->wpAny (model X.prog X.w) X.A (f v u) Q X.xe s2) :
  wpAny (model X.prog X.w) X.A (eval a X.env) (fun v s₁=>wpAny (model X.prog X.w) X.A (eval b X.env) (fun u s₂=>wpAny (model X.prog X.w) X.A (f v u) Q X.xe s₂) X.xe s₁) X.xe s:=by
 refine thn (ha pins s σ H _ I h) fun v s1 ⟨x,H1,I1,r1,q1⟩=>?_
 refine thn (hb pins s1 σ H1 _ I1 q1) fun u s2 ⟨y,H2,I2,r2,q2⟩=>?_
 exact hf v u s2 x y H2 I2 r1 r2 q2
theorem zmt {op:Operator} {r:R2} (ho:OpR X (binaryOp op) r) (ha:PE X a ta) (hb:PE X b tb):PE X (.BinOp a op b pos) (tOp r ta tb):=by
 intro pins s σ H Q I h
 exact wpAny_BinOp (binT ha hb I h fun v u s2 x y H2 I2 rx ry q=>ho pins s2 σ H2 x y v u Q I2 rx ry q)
theorem zmu {op:UnaryOp} {r:V->Hp->VK->Prop} (ho:UnR X (unaryOp op) r) (ha:PE X a ta):PE X (.UnaryOp op a pos) (tUn r ta):=by
 intro pins s σ H Q I h
 exact UnaryOp_ (thn (ha pins s σ H _ I h) fun v s1 ⟨x,H1,I1,r1,q1⟩=>ho pins s1 σ H1 x v Q I1 r1 q1)
theorem opI {f:Value->Value->Sem Value} {C:Int->Int->Prop} {g:Int->Int->Int}
  (rule:∀ (i j:Int) (t u:Tok) (s:Shared) (Q:Value->Shared->Prop) (E:Value->Shared->Prop),C i j->Q (.int (g i j) s.toks) { s with toks:=s.toks+1 }->wpAny (model X.prog X.w) X.A (f (.int i t) (.int j u)) Q E s) :
  OpR X f (rI C fun i j=>.int (g i j)):=by
 intro pins s σ H x y v u Q I rx ry h
 obtain ⟨i,j,rfl,rfl,hc,q⟩:=h
 obtain ⟨t,rfl⟩:=rx
 obtain ⟨t',rfl⟩:=ry
 exact rule i j t t' s _ _ hc ⟨.int (g i j),H,I.tok _,⟨_,rfl⟩,q⟩
theorem opI0 {f:Value->Value->Sem Value} {g:Int->Int->Int}
  (rule:∀ (i j:Int) (t u:Tok) (s:Shared) (Q:Value->Shared->Prop) (E:Value->Shared->Prop),Q (.int (g i j) s.toks) { s with toks:=s.toks+1 }->wpAny (model X.prog X.w) X.A (f (.int i t) (.int j u)) Q E s) :
  OpR X f (rI0 fun i j=>.int (g i j)):=by
 intro pins s σ H x y v u Q I rx ry h
 obtain ⟨i,j,rfl,rfl,q⟩:=h
 obtain ⟨t,rfl⟩:=rx
 obtain ⟨t',rfl⟩:=ry
 exact rule i j t t' s _ _ ⟨.int (g i j),H,I.tok _,⟨_,rfl⟩,q⟩
theorem opB0 {f:Value->Value->Sem Value} {g:Int->Int->Bool}
  (rule:∀ (i j:Int) (t u:Tok) (s:Shared) (Q:Value->Shared->Prop) (E:Value->Shared->Prop),Q (.bool (g i j)) s->wpAny (model X.prog X.w) X.A (f (.int i t) (.int j u)) Q E s) :
  OpR X f (rI0 fun i j=>.bl (g i j)):=by
 intro pins s σ H x y v u Q I rx ry h
 obtain ⟨i,j,rfl,rfl,q⟩:=h
 obtain ⟨t,rfl⟩:=rx
 obtain ⟨t',rfl⟩:=ry
 exact rule i j t t' s _ _ ⟨.bl (g i j),H,I,rfl,q⟩
def CPow (i j:Int):Prop:=0<=j/\j<=1000000/\i.natAbs < 2 ^ 64
def CMul (i j:Int):Prop:=(-(2 ^ 64) < i/\i < 2 ^ 64) ∨ (-(2 ^ 64) < j/\j < 2 ^ 64)
theorem CMul.ok {i j:Int} (h:CMul i j):IntMulOk i j:=by
 rcases h with ⟨h1,h2⟩ | ⟨h1,h2⟩
 ·exact .of_left (intBits_le_64 h1 h2)
 ·exact .of_right (intBits_le_64 h1 h2)
theorem zlt:OpR X (binaryOp .Add) (rI0 fun i j=>.int (i+j)):=opI0 fun _ _ _ _ _ _ _ q=>add_int q
theorem zlu:OpR X (binaryOp .Sub) (rI0 fun i j=>.int (i - j)):=opI0 fun _ _ _ _ _ _ _ q=>sub_int q
theorem zlv:OpR X (binaryOp .Mult) (rI CMul fun i j=>.int (i * j)):=opI fun _ _ _ _ _ _ _ hc q=>mul_int q hc.ok
theorem zlw:OpR X (binaryOp .Mod) (rI (fun _ j=>0 < j) fun i j=>.int (i % j)):=opI fun i j _ _ _ _ _ hc q=>by
 have h1:(0:Int) < j:=hc
 exact mod_int' (by omega) (by rw [Int.fmod_eq_emod_of_nonneg i (by omega)];exact q)
theorem zlx:OpR X (binaryOp .Pow) (rI CPow fun i j=>.int (i ^ j.toNat)):=opI fun _ _ _ _ _ _ _ hc q=>pow_int_small hc.1 hc.2.1 hc.2.2 q
theorem unI {f:Value->Sem Value} {g:Int->Int}
  (rule:∀ (i:Int) (t:Tok) (s:Shared) (Q:Value->Shared->Prop) (E:Value->Shared->Prop),Q (.int (g i) s.toks) { s with toks:=s.toks+1 }->wpAny (model X.prog X.w) X.A (f (.int i t)) Q E s) :
  UnR X f (rU fun i=>.int (g i)):=by
 intro pins s σ H x v Q I rx h
 obtain ⟨i,rfl,q⟩:=h
 obtain ⟨t,rfl⟩:=rx
 exact rule i t s _ _ ⟨.int (g i),H,I.tok _,⟨_,rfl⟩,q⟩
theorem zly:UnR X (unaryOp .USub) (rU fun i=>.int (-i)):=unI fun _ _ _ _ _ q=>neg_int q
end
section
variable {X:Cx} {a b c:Expr} {ta tb tc:TE} {pos:Pos}
theorem zlz {pins:List (Addr × Obj)} {σ : St} {H:Hp} {s:Shared} {Q:VK} {k k':Bool} (I:Inv X pins σ H s) (q:Q (.bl k) H) (e:k=k'):EP X pins σ Q (.bool k') s:=by
 subst e
 exact ⟨.bl k,H,I,rfl,q⟩
theorem zmv:OpR X (compareOp .Lt) (rI0 fun i j=>.bl (decide (i < j))):=opB0 fun _ _ _ _ _ _ _ q=>lt_int q
theorem zmw:OpR X (compareOp .LtE) (rI0 fun i j=>.bl (decide (i<=j))):=opB0 fun _ _ _ _ _ _ _ q=>le_int q
theorem zmx:OpR X (compareOp .Gt) (rI0 fun i j=>.bl (decide (j < i))):=opB0 fun _ _ _ _ _ _ _ q=>gt_int q
theorem zmy:OpR X (compareOp .GtE) (rI0 fun i j=>.bl (decide (j<=i))):=opB0 fun _ _ _ _ _ _ _ q=>ge_int q
theorem zhu:OpR X (compareOp .In) (fun x y H Q=>∃ i j,x=.str i/\y=.str j/\Q (.bl (!(Builtin.Str.occurrences j i 0 j.length 1).isEmpty)) H):=by
 intro pins s σ H x y v u Q I rx ry h
 obtain ⟨i,j,rfl,rfl,q⟩:=h
 obtain ⟨t,rfl⟩:=rx
 obtain ⟨t',rfl⟩:=ry
 exact in_str (zlz I q rfl)
theorem OpR.or {f:Value->Value->Sem Value} {r r':R2} (h:OpR X f r) (h':OpR X f r'):OpR X f (fun x y H Q=>r x y H Q ∨ r' x y H Q):=by
 intro pins s σ H x y v u Q I rx ry q
 rcases q with q | q
 ·exact h pins s σ H x y v u Q I rx ry q
 ·exact h' pins s σ H x y v u Q I rx ry q
theorem zbx (b:Expr) {op:CmpOp} (h:op ≠ .In:=by decide) (h2:op ≠ .NotIn:=by decide):behindInMarks op b=false:=by
 have e1:(op == CmpOp.In)=false:=by cases op <;> first | rfl | exact absurd rfl h
 have e2:(op == CmpOp.NotIn)=false:=by cases op <;> first | rfl | exact absurd rfl h2
 cases b <;> simp [behindInMarks,e1,e2]
theorem zka {op:CmpOp} {r:R2} (ho:OpR X (compareOp op) r) (ha:PE X a ta) (hb:PE X b tb) (hm:behindInMarks op b=false):PE X (.Compare a [op] [b] pos) (tOp r ta tb):=by
 intro pins s σ H Q I h
 exact wpAny_Compare1 (binT ha hb I h fun v u s2 x y H2 I2 rx ry q=>ho pins s2 σ H2 x y v u Q I2 rx ry q) hm
def zlA (t:TE):TT:=fun σ H Q=>t σ H fun x H'=>∃ k,x=.bl k/\Q k H'
theorem zhv {op:CmpOp} {r:R2} (ho:OpR X (compareOp op) r) (ha:PE X a ta) (hb:PE X b tb) (hm:behindInMarks op b=false):PT X (.Compare a [op] [b] pos) (zlA (tOp r ta tb)):=by
 intro pins s σ H Q I h
 refine wpAny_isTrue_Compare1 (thn (ha pins s σ H _ I h) fun v s1 ⟨x,H1,I1,r1,q1⟩=>thn (hb pins s1 σ H1 _ I1 q1) fun u s2 ⟨y,H2,I2,r2,q2⟩ =>
  thn (ho pins s2 σ H2 x y v u _ I2 r1 r2 q2) fun c s3 ⟨z,H3,I3,r3,k,e,q3⟩=>?_) hm
 subst e
 cases r3
 exact wpAny_truthy_bool ⟨H3,I3,q3⟩
def zjM (r r':R2) (ta tb tc:TE):TE:=fun σ H Q=>ta σ H fun x H1=>tb σ H1 fun y H2=>r x y H2 fun z H3=>∃ k,z=.bl k /\
 (if k=true then tc σ H3 fun w' H4=>r' y w' H4 Q else Q (.bl false) H3)
theorem ziY {op op':CmpOp} {r r':R2} (ho:OpR X (compareOp op) r) (ho':OpR X (compareOp op') r') (ha:PE X a ta) (hb:PE X b tb) (hc:PE X c tc)
  (hm:lastMarks [op,op'] [b,c]=false:=by with_unfolding_all rfl):PE X (.Compare a [op,op'] [b,c] pos) (zjM r r' ta tb tc):=by
 intro pins s σ H Q I h
 refine Compare_chain (thn (ha pins s σ H _ I h) fun v s1 ⟨x,H1,I1,r1,q1⟩=>chain_link (thn (hb pins s1 σ H1 _ I1 q1) fun u s2 ⟨y,H2,I2,r2,q2⟩ =>
  thn (ho pins s2 σ H2 x y v u _ I2 r1 r2 q2) fun d s3 ⟨z,H3,I3,r3,k,e,q3⟩=>?_)) hm
 subst e
 cases r3
 refine wpAny_truthy_bool ?_
 cases k with
 | false=>exact ite_ff ⟨.bl false,H3,I3,rfl,q3⟩
 | true=>exact ite_tt (chain_last (thn (hc pins s3 σ H3 _ I3 q3) fun w' s4 ⟨z',H4,I4,r4,q4⟩=>ho' pins s4 σ H4 y z' u w' Q I4 r2 r4 q4))
theorem ziZ {op op':CmpOp} {r r':R2} (ho:OpR X (compareOp op) r) (ho':OpR X (compareOp op') r') (ha:PE X a ta) (hb:PE X b tb) (hc:PE X c tc)
  (hm:lastMarks [op,op'] [b,c]=false:=by with_unfolding_all rfl):PT X (.Compare a [op,op'] [b,c] pos) (zlA (zjM r r' ta tb tc)):=by
 intro pins s σ H Q I h
 refine isTrue_chain (thn (ha pins s σ H _ I h) fun v s1 ⟨x,H1,I1,r1,q1⟩=>test_link (thn (hb pins s1 σ H1 _ I1 q1) fun u s2 ⟨y,H2,I2,r2,q2⟩ =>
  thn (ho pins s2 σ H2 x y v u _ I2 r1 r2 q2) fun d s3 ⟨z,H3,I3,r3,k,e,q3⟩=>?_)) hm
 subst e
 cases r3
 refine wpAny_truthy_bool ?_
 cases k with
 | false =>
  obtain ⟨k',e',q'⟩:=q3
  cases e'
  exact ite_ff ⟨H3,I3,q'⟩
 | true =>
  refine ite_tt (test_last (thn (hc pins s3 σ H3 _ I3 q3) fun w' s4 ⟨z',H4,I4,r4,q4⟩=>thn (ho' pins s4 σ H4 y z' u w' _ I4 r2 r4 q4) fun d' s5 ⟨z2,H5,I5,r5,k2,e2,q5⟩=>?_))
  subst e2
  cases r5
  exact wpAny_truthy_bool ⟨H5,I5,q5⟩
theorem zgn:(sizeLine:Nat) < 2 ^ 63:=by rw [sizeLine_eq];decide
theorem zgQ:OpR X (binaryOp .Add) (fun x y H Q=>∃ i j,x=.str i/\y=.str j/\i.length+j.length<=sizeLine/\Q (.str (i ++ j)) H):=by
 intro pins s σ H x y v u Q I rx ry h
 obtain ⟨i,j,rfl,rfl,hz,q⟩:=h
 obtain ⟨t,rfl⟩:=rx
 obtain ⟨t',rfl⟩:=ry
 exact add_str (fun t' tk=>⟨.str (i ++ j),H,I.tok _,⟨_,rfl⟩,q⟩) hz
theorem zmz {x:V} {us:List Value} (r:Vals [x] us):∃ u,us=[u]/\RelV x u:=by
 cases r with
 | cons r1 r2=>cases r2;exact ⟨_,rfl,r1⟩
theorem zkb {x y:V} {us:List Value} (r:Vals [x,y] us):∃ u w',us=[u,w']/\RelV x u/\RelV y w':=by
 cases r with
 | cons r1 r2 =>
  cases r2 with
  | cons r3 r4=>cases r4;exact ⟨_,_,rfl,r1,r3⟩
theorem zhw (hc:X.calm=true):zcu X (.builtin "max") (fun xs H Q=>∃ i j,xs=[.int i,.int j]/\Q (.int (if j > i then j else i)) H):=by
 intro pins s σ H xs us Q I r h
 obtain ⟨i,j,rfl,q⟩:=h
 obtain ⟨u,w',rfl,⟨t,rfl⟩,⟨t',rfl⟩⟩:=zkb r
 refine max_two_ints (I.ok.hd hc) fun h' tk k=>⟨_,H,I.kept k,?_,q⟩
 by_cases hj:j > i
 ·rw [if_pos hj,if_pos hj];exact ⟨_,rfl⟩
 ·rw [if_neg hj,if_neg hj];exact ⟨_,rfl⟩
theorem zhx (hc:X.calm=true):zcu X (.builtin "min") (fun xs H Q=>∃ i j,xs=[.int i,.int j]/\Q (.int (if j < i then j else i)) H):=by
 intro pins s σ H xs us Q I r h
 obtain ⟨i,j,rfl,q⟩:=h
 obtain ⟨u,w',rfl,⟨t,rfl⟩,⟨t',rfl⟩⟩:=zkb r
 refine min_two_ints (I.ok.hd hc) fun h' tk k=>⟨_,H,I.kept k,?_,q⟩
 by_cases hj:j < i
 ·rw [if_pos hj,if_pos hj];exact ⟨_,rfl⟩
 ·rw [if_neg hj,if_neg hj];exact ⟨_,rfl⟩
def LenV (K:PySem.W.Frag) (x:V) (H:Hp) (n:Nat):Prop :=
 match x with
 | .str y=>y.length<=sizeLine/\n=y.length
 | .byt y=>y.size<=sizeLine/\n=y.size
 | .ref p=>(∃ xs,SqL K H p xs/\n=xs.length) ∨ ∃ xs,SqT K H p xs/\n=xs.length
 | _=>False
theorem zgo:zcu X (.builtin "len") (fun xs H Q=>∃ x n,xs=[x]/\LenV X.K x H n/\Q (.int n) H):=by
 intro pins s σ H xs us Q I r h
 obtain ⟨x,n,rfl,e,q⟩:=h
 obtain ⟨u,rfl,rx⟩:=zmz r
 have hl:=zgn
 have hs:sizeLine=16777216:=sizeLine_eq
 cases x with
 | str y =>
  obtain ⟨t,rfl⟩:=rx
  obtain ⟨hy,e'⟩:y.length<=sizeLine/\n=y.length:=e
  subst e'
  exact len_str (by omega) ⟨.int _,H,I.tok _,⟨_,rfl⟩,q⟩
 | byt y =>
  obtain ⟨t,rfl⟩:=rx
  obtain ⟨hy,e'⟩:y.size<=sizeLine/\n=y.size:=e
  subst e'
  exact PySem.W.len_bytes (by omega) ⟨.int _,H,I.tok _,⟨_,rfl⟩,q⟩
 | ref p =>
  cases rx
  have e':(∃ xs,SqL X.K H p xs/\n=xs.length) ∨ ∃ xs,SqT X.K H p xs/\n=xs.length:=e
  rcases e' with ⟨xs,hx,e'⟩ | ⟨xs,hx,e'⟩
  ·subst e'
   obtain ⟨its,r',pl,hz⟩:=I.list hx
   have hlen:=r'.length
   exact Calls.call_len_list pl.isList (by simp only [List.size_toArray];omega) ⟨.int xs.length,H,I.tok _,⟨_,by simp only [List.size_toArray];rw [hlen]⟩,q⟩
  ·subst e'
   obtain ⟨its,r',pl,hz⟩:=I.tuple hx
   have hlen:=r'.length
   exact len_tuple pl (by simp only [List.size_toArray];omega) ⟨.int xs.length,H,I.tok _,⟨_,by simp only [List.size_toArray];rw [hlen]⟩,q⟩
 | _=>exact (show False from e).elim
end
section
variable {prog:Program} {w:World} {A:Around} {E:Value->Shared->Prop} {s:Shared} {K:PySem.W.Frag} {x dx C f:Addr} {mA:Str->Option Value} {name:Str} {v:Value}
end
section
variable {P:Program} {w:World} {H H':Hp} {h h':Heap} {a C dx:Addr} {fs fs':List (Str × V)}
end
section
variable {X:Cx} {pins:List (Addr × Obj)} {σ : St} {H:Hp} {s:Shared} {a C dx:Addr} {fs:List (Str × V)} {f:Str} {v:V} {A:Around} {E:Value->Shared->Prop}
end
section
variable {X:Cx} {o e value:Expr} {f:Str} {pos pos' tpos:Pos} {ta tv:TE}
end
section
variable {X:Cx} {pins:List (Addr × Obj)} {σ : St} {H:Hp} {s:Shared} {A:Around} {E:Value->Shared->Prop} {Q:Value->Shared->Prop} {c:Value} {b:Bool}
end
structure Room (k:Nat) (A:Around):Prop where
 hd:A.handled=none
 dp:A.depth+3 * k+5 < recursionLimit
 un:A.units+16 * k+200 < cLine
 gd:A.guards=some []
theorem Room.mono {j k:Nat} {A:Around} (r:Room k A) (h:j<=k):Room j A:=⟨r.hd,by have:=r.dp;omega,by have:=r.un;omega,r.gd⟩
theorem Room.deeper {k:Nat} {A:Around} (r:Room (k+1) A) (env:Env):Room k (A.deeper env) :=
 ⟨r.hd,by have:=r.dp;show A.depth+1+3 * k+5 < _;omega,by have:=r.un;show A.units+3+16 * k+200 < _;omega,r.gd⟩
theorem Room.depth {k:Nat} {A:Around} (r:Room k A):A.depth < recursionLimit:=by have:=r.dp;omega
theorem Room.units {k:Nat} {A:Around} (r:Room k A):A.units+64 < cLine:=by have:=r.un;omega
def tNil:TA:=fun _ H Q=>Q [] H
def zmA (ta:TE) (tr:TA):TA:=fun σ H Q=>ta σ H fun x H1=>tr σ H1 fun xs H2=>Q (x :: xs) H2
section
variable {X:Cx} {e:Expr} {es:List Expr} {te:TE} {t:TA} {pos:Pos}
theorem zdp:PA X [] tNil:=fun _ _ _ _ H Q I h=>Calls.spliced_nil ⟨[],H,I,.nil,h⟩
theorem zb2 (ha:PE X e te) (hr:PA X es t) (hs:starEach (e :: es) X.env=(false,eval e X.env) :: starEach es X.env:=by rfl):PA X (e :: es) (zmA te t):=by
 intro pos pins s σ H Q I h
 rw [hs]
 show wpAny _ _ (spliced ((false,eval e X.env) :: backTo pos (starEach es X.env))) _ _ s
 refine Calls.spliced_cons (thn (ha pins s σ H _ I h) fun u s1 ⟨x,H1,I1,r1,q1⟩=>?_)
 exact thn (hr pos pins s1 σ H1 _ I1 q1) fun us s2 ⟨xs,H2,I2,r2,q2⟩=>⟨x :: xs,H2,I2,.cons r1 r2,q2⟩
def tTup (t:TA):TE:=fun σ H Q=>t σ H fun xs H1=>xs.length<=sizeLine/\∀ p,H1 p=none->Q (.ref p) (upd H1 p (.tup xs))
def tLst (t:TA):TE:=fun σ H Q=>t σ H fun xs H1=>xs.length<=sizeLine/\∀ p,H1 p=none->Q (.ref p) (upd H1 p (.lst xs))
theorem zjN {x1} (h:PA X es t):PE X (.Tuple es x1 pos) (tTup t):=by
 intro pins s σ H Q I hq
 refine wpAny_Tuple_spliced (thn (h pos pins s σ H _ I hq) fun us s1 ⟨xs,H1,I1,r,z,q⟩=>⟨by rw [← r.length];exact z,?_⟩)
 have hf:H1 s1.heap.objs.size=none:=I1.hok.fresh (Nat.le_refl _)
 refine ⟨.ref s1.heap.objs.size,upd H1 s1.heap.objs.size (.tup xs),I1.laid (t':=s1.toks) (fun b u e=>Heap.get?_push_of_some _ e) (Nat.le_refl _) ?_,rfl,q _ hf⟩
 exact ⟨z,us,r,⟨_,Heap.get?_push_size _ rfl,rfl,_,rfl⟩⟩
theorem zjO (h:PA X es t):PE X (.List es pos) (tLst t):=by
 intro pins s σ H Q I hq
 refine wpAny_List_spliced (thn (h pos pins s σ H _ I hq) fun us s1 ⟨xs,H1,I1,r,z,q⟩=>⟨by rw [← r.length];exact z,?_⟩)
 have hf:H1 s1.heap.objs.size=none:=I1.hok.fresh (Nat.le_refl _)
 refine ⟨.ref s1.heap.objs.size,upd H1 s1.heap.objs.size (.lst xs),I1.laid (t':=s1.toks) (fun b u e=>Heap.get?_push_of_some _ e) (Nat.le_refl _) ?_,rfl,q _ hf⟩
 exact ⟨z,us,0,r,Heap.get?_push_size _ rfl⟩
end
abbrev Sp:=List V->Hp->VK->XK->Prop
abbrev CXT:=List Env->Hp->Shared->XK->Value->Shared->Prop
structure Env0 (P:Program) (w:World) (K:PySem.W.Frag) (mg:Str->Option Value) (base:Heap) (A:Around) (outer:List Env) (s:Shared) (H:Hp):Prop where
 frames:A.frames=some outer
 mod:Mod K mg base
 bs:∀ b o,base.get? b=some o->s.heap.get? b=some o/\H b=none
 bsz:base.objs.size<=s.heap.objs.size
 funs:s.heap.FunFrames base outer
 frf:∀ b ∈ frs outer,H b=none
 hok:HOk P w H s.heap
 bare:AllBare s.gens
def CE (outer:List Env) (P:Program) (w:World) (H:Hp) (s:Shared) (Q:VK) (u:Value) (s':Shared):Prop :=
 ∃ v H',s'.os=s.os/\AllBare s'.gens/\Un (frs outer) [] H H' s.heap s'.heap/\HOk P w H' s'.heap/\RelV v u/\Q v H'
def CR (CX:CXT) (outer:List Env) (P:Program) (w:World) (H:Hp) (s:Shared) (Q:VK) (E:XK) (r:Result) (s':Shared):Prop :=
 match r with
 | .ok (.ret u)=>CE outer P w H s Q u s'
 | .ok _=>False
 | .error e=>CX outer H s E e s'
structure FnOk (P:Program) (w:World) (K:PySem.W.Frag) (mg:Str->Option Value) (base:Heap) (CX:CXT) (k:Nat) (f:Addr) (fd:FuncData) (ps:List Str) (sp:Sp):Prop where
 len:∀ vs H Q E,sp vs H Q E->vs.length=ps.length
 run:∀ (A:Around) (outer:List Env) (s:Shared) (H:Hp) (args:Args) (us:List Value) (vs:List V) (Q:VK) (E:XK),Room k A->Env0 P w K mg base A outer s H->BindsTo s fd args (ps.zip us)->Vals vs us->sp vs H Q E ->
  codeAny (model P w) A (.call (.ref f) args) (CR CX outer P w H s Q E) s
theorem FnOk.imp {P:Program} {w:World} {K:PySem.W.Frag} {mg:Str->Option Value} {base:Heap} {CX:CXT} {k:Nat} {f:Addr} {fd:FuncData} {ps:List Str} {sp sp':Sp} (F:FnOk P w K mg base CX k f fd ps sp)
  (h:∀ vs H Q E,sp' vs H Q E->sp vs H Q E):FnOk P w K mg base CX k f fd ps sp' :=
 ⟨fun vs H Q E q=>F.len vs H Q E (h _ _ _ _ q),fun A outer s H args us vs Q E hr he hb hv hs=>F.run A outer s H args us vs Q E hr he hb hv (h _ _ _ _ hs)⟩
section
variable {X:Cx} {pins:List (Addr × Obj)} {σ : St} {H:Hp} {s s':Shared}
theorem Inv.env0 (I:Inv X pins σ H s):Env0 X.prog X.w X.K X.mg X.base X.A X.stack s H :=
 ⟨I.ok.frames,I.ok.mod,I.bs,Nat.le_trans I.ok.bsz I.sz,I.stack,I.stkFree,I.hok,I.bare⟩
theorem Inv.after {Q:VK} {u:Value} (I:Inv X pins σ H s) (h:CE X.stack X.prog X.w H s Q u s'):EP X pins σ Q u s':=by
 obtain ⟨v,H',os,bare,un,hok,r,q⟩:=h
 obtain ⟨hh,g,d,t,os'⟩:=s'
 obtain rfl:os'=s.os:=os
 exact ⟨v,H',I.call (h':=hh) (g':=g) (d':=d) (t':=t) (ch:=[]) un hok bare (fun b z=>absurd z (by simp)),r,q⟩
end
def zmB (sp:Sp) (dvs:List V) (E:XK) (t:TA):TE:=fun σ H Q=>t σ H fun vs H1=>sp (vs ++ dvs) H1 Q E
def zd0 (K:PySem.W.Frag) (fd:FuncData) (ps:List Str) (ds:List Value):Prop :=
 ∀ (s:Shared) (us:List Value),K.In s.heap->(us ++ ds).length=ps.length->BindsTo s fd ⟨us,[]⟩ (ps.zip (us ++ ds))
theorem zd0.all {K:PySem.W.Frag} {fd:FuncData} {ps:List Str} (h:∀ us:List Value,us.length=ps.length->bindArgs fd ⟨us,[]⟩=pure (ps.zip us)):zd0 K fd ps []:=fun s us _ hl=>by
 rw [List.append_nil] at hl ⊢
 exact .of_eq (h us hl)
def zhy (CX:CXT) (X:Cx) (E:XK):Prop:=∀ (pins:List (Addr × Obj)) (σ : St) (H:Hp) (s:Shared) (e:Value) (s':Shared),Inv X pins σ H s->CX X.stack H s E e s'->X.xe e s'
section
variable {X:Cx} {CX:CXT} {k:Nat} {f C:Addr} {fd:FuncData} {ps:List Str} {sp:Sp} {dvs:List V} {ds:List Value} {E:XK} {x m:Str} {p pos apos:Pos} {e o:Expr} {es:List Expr} {ta:TE} {t:TA}
theorem zlB {pins:List (Addr × Obj)} {σ : St} {H:Hp} {s:Shared} {Q:VK} {us:List Value} {vs:List V} (F:FnOk X.prog X.w X.K X.mg X.base CX k f fd ps sp) (hr:Room k X.A) (hb:zd0 X.K fd ps ds) (hd:Vals dvs ds) (hx:zhy CX X E)
  (I:Inv X pins σ H s) (r:Vals vs us) (h:sp (vs ++ dvs) H Q E):wpAny (model X.prog X.w) X.A (call (.ref f) us) (EP X pins σ Q) X.xe s:=by
 have r2:Vals (vs ++ dvs) (us ++ ds):=r.append hd
 have hl:(us ++ ds).length=ps.length:=by rw [← r2.length];exact F.len _ _ _ _ h
 refine wpAny_call (codeAny_mono (F.run X.A X.stack s H ⟨us,[]⟩ (us ++ ds) (vs ++ dvs) Q E hr I.env0 (hb s us I.kIn hl) r2 h) fun r s' hq=>?_)
 cases r with
 | error e=>exact hx pins σ H s e s' I hq
 | ok fl =>
  cases fl with
  | ret u=>exact I.after hq
  | next=>exact False.elim hq
  | brk=>exact False.elim hq
  | cont=>exact False.elim hq
theorem zfU (F:FnOk X.prog X.w X.K X.mg X.base CX k f fd ps sp) (hr:Room k X.A) (hg:Gl X x) (hm:X.mg x=some (.ref f)) (hk:PySem.W.keepIn X.K (.ref f)=true) (hb:zd0 X.K fd ps ds) (hd:Vals dvs ds) (hx:zhy CX X E)
  (ha:PA X (e :: es) t) (hdb:(x == ("__debug__" : Str))=false:=by decide) (he:starEach (e :: es) X.env=(false,eval e X.env) :: starEach es X.env:=by rfl) (hpl:(backTo pos (starEach es X.env)).any (·.1)=false:=by rfl) :
  PE X (.Call (.Name x p) (e :: es) [] pos) (zmB sp dvs E t):=by
 intro pins s σ H Q I h
 refine wpAny_Call_Name_kw (zhm I hg hm ?_ hdb)
 refine PySem.W.callWith_K (h₀:=X.base) I.ok.mod.kin hk (thn (ha pos pins s σ H _ I h) fun us s1 ⟨vs,H1,I1,r,q⟩=>⟨I1.kIn,?_⟩) he hpl
 exact zlB F hr hb hd hx I1 r q
end
section
variable {X:Cx} {CX:CXT} {k:Nat} {f C:Addr} {fd:FuncData} {ps ks:List Str} {sp:Sp} {E:XK} {x m:Str} {p pos apos kpos:Pos} {e o:Expr} {es:List Expr} {kws:List Keyword} {te ta:TE} {t tk:TA} {nm:Option Str}
variable {g:List Value->List Value->List Value} {gV:List V->List V->List V}
end
structure zcv (N P:List Str) (sc:Scope):Prop where
 kind:sc.kind=.function
 co:sc.isCoroutine=false
 gen:sc.isGenerator=false
 nd:N.Nodup
 pre:N.take P.length=P
 par:∀ x ∈ P,sc.names.lookup x=some .local ∨ sc.names.lookup x=some .cell
 nofree:∀ y ∈ sc.names,y.2 ≠ .free
theorem zfa {kindOf:Str->Option NameKind} {x:Str}:∀ {binds:List (Str × Value)} {m:Str->Option Value},(∀ v,(x,v) ∉ binds)->bindL kindOf binds m x=m x
 | [],_,_=>rfl
 | (n,v) :: r,m,h=>by
  unfold bindL
  rw [zfa fun w hw=>h w (List.mem_cons_of_mem _ hw)]
  split
  ·have:x ≠ n:=by rintro rfl;exact h v List.mem_cons_self
   simp [this]
  ·rfl
theorem zfb {kindOf:Str->Option NameKind} {x:Str}:∀ {binds:List (Str × Value)} {m:Str->Option Value},(∀ v,(x,v) ∉ binds)->bindC kindOf binds m x=m x
 | [],_,_=>rfl
 | (n,v) :: r,m,h=>by
  unfold bindC
  rw [zfb fun w hw=>h w (List.mem_cons_of_mem _ hw)]
  split
  ·rfl
  ·have:x ≠ n:=by rintro rfl;exact h v List.mem_cons_self
   simp [this]
theorem zfc {kindOf:Str->Option NameKind} {x:Str} {v:Value}:∀ {P:List Str} {vs:List Value} {i:Nat} {m:Str->Option Value},P.Nodup->P[i]?=some x->vs[i]?=some v->kindOf x=some .local ->
  bindL kindOf (P.zip vs) m x=some v
 | [],_,_,_,_,h,_,_=>by simp at h
 | _ :: _,[],_,_,_,_,h,_=>by simp at h
 | p :: P,w :: vs,0,m,nd,h1,h2,hk=>by
  simp at h1 h2;subst h1;subst h2
  show bindL kindOf ((p,w) :: P.zip vs) m p=_
  unfold bindL
  rw [zfa fun v hv=>(List.nodup_cons.mp nd).1 (List.of_mem_zip hv).1,if_pos hk]
  simp
 | p :: P,w :: vs,i+1,m,nd,h1,h2,hk=>by
  show bindL kindOf ((p,w) :: P.zip vs) m x=_
  unfold bindL
  exact zfc (i:=i) (List.nodup_cons.mp nd).2 (by simpa using h1) (by simpa using h2) hk
theorem zfd {kindOf:Str->Option NameKind} {x:Str} {v:Value}:∀ {P:List Str} {vs:List Value} {i:Nat} {m:Str->Option Value},P.Nodup->P[i]?=some x->vs[i]?=some v->kindOf x ≠ some .local ->
  bindC kindOf (P.zip vs) m x=some v
 | [],_,_,_,_,h,_,_=>by simp at h
 | _ :: _,[],_,_,_,_,h,_=>by simp at h
 | p :: P,w :: vs,0,m,nd,h1,h2,hk=>by
  simp at h1 h2;subst h1;subst h2
  show bindC kindOf ((p,w) :: P.zip vs) m p=_
  unfold bindC
  rw [zfb fun v hv=>(List.nodup_cons.mp nd).1 (List.of_mem_zip hv).1,if_neg hk]
  simp
 | p :: P,w :: vs,i+1,m,nd,h1,h2,hk=>by
  show bindC kindOf ((p,w) :: P.zip vs) m x=_
  unfold bindC
  exact zfd (i:=i) (List.nodup_cons.mp nd).2 (by simpa using h1) (by simpa using h2) hk
def zdq (N:List Str) (vs:List V):St:=vs.map some ++ List.replicate (N.length - vs.length) none
def cxOf (CX:CXT) (P:Program) (w:World) (K:PySem.W.Frag) (mg:Str->Option Value) (base:Heap) (N:List Str) (qual:Str) (scope:Scope) (f:Addr) (cd:Value) (A:Around) (outer:List Env) (s:Shared) (H:Hp) (E:XK):Cx where
 prog:=P
 w:=w
 K:=K
 mg:=mg
 base:=base
 A:=A.deeper (envOfC qual scope s.heap.objs.size f cd)
 N:=N
 s₀:=s
 H₀:=H
 env:=envOfC qual scope s.heap.objs.size f cd
 outer:=outer
 stack:=envOfC qual scope s.heap.objs.size f cd :: outer
 ex:=[]
 calm:=true
 fn:=fun _=>true
 pn:=[]
 xe:=fun e s'=>wpAny (model P w) (A.deeper (envOfC qual scope s.heap.objs.size f cd)) (leaving (envOfC qual scope s.heap.objs.size f cd) e) (fun _ s''=>CX outer H s E e s'') (fun e' s''=>CX outer H s E e' s'') s'
theorem zgp {sc:Scope} {n:Nat} {x:Str} (h:sc.names.lookup x=some .cell):∃ c,(cellsFrom n sc.names []).lookup x=some c:=by
 have q:=PySem.W.cellsFrom_some sc.names n [] (.inl h)
 exact Option.isSome_iff_exists.mp q
theorem zhz {CX:CXT} {P:Program} {w:World} {K:PySem.W.Frag} {mg:Str->Option Value} {base:Heap} {N ps:List Str} {qual:Str} {scope:Scope} {f:Addr} {cd:Value} {A:Around} {outer:List Env} {s s1:Shared} {H:Hp} {E:XK} {us:List Value} {vs:List V}
  (S:zcv N ps scope) (hd:A.handled=none) (e0:Env0 P w K mg base A outer s H) (hl:vs.length=ps.length) (r:Vals vs us)
  (x:InCallC s s.heap.objs.size (bindL (envOfC qual scope s.heap.objs.size f cd).kindOf (ps.zip us) fun _=>none) (cellsFrom (s.heap.objs.size+1) scope.names []) (bindC (envOfC qual scope s.heap.objs.size f cd).kindOf (ps.zip us) fun _=>none) s1) :
  Inv (cxOf CX P w K mg base N qual scope f cd A outer s H E) [] (zdq N vs) H s1:=by
 have hpl:ps.length<=N.length:=by have:=congrArg List.length S.pre;rw [List.length_take] at this;omega
 obtain ⟨h1,tk,rfl,hk⟩:=x.done
 have noA:∀ b:Addr,b ∉ (cxOf CX P w K mg base N qual scope f cd A outer s H E).ex:=fun b z=>absurd (show b ∈ ([]:List Addr) from z) (by simp)
 refine ⟨⟨e0.mod,S.kind,rfl,rfl,Nat.le_refl _,fun y z c h1 h2=>?_,fun y hy=>?_,fun y c _ h=>?_,fun _=>hd,Around.frames_deeper e0.frames,.inr ⟨rfl,rfl⟩,fun b z=>absurd z (noA b),e0.bs,e0.bsz,fun b _ _=>noA b,fun b z=>absurd z (noA b),e0.funs,e0.frf⟩,
  rfl,e0.bare,Un.kept hk,⟨_,x.toInCall.ns,fun i y v h1 h2 h3=>?_⟩,fun y c h=>⟨_,x.cell y c h⟩,e0.hok.fresh (Nat.le_refl _),fun y c h=>?_,fun p hp=>absurd (show p ∈ ([]:List (Addr × Obj)) from hp) (by simp),e0.hok.kept hk,?_⟩
 ·exact name_of_addr x.apart (PySem.mem_of_lookup h1) (PySem.mem_of_lookup h2)
 ·have hy:scope.names.lookup y=some .cell ∨ scope.names.lookup y=some .free:=hy
  rcases hy with hy | hy
  ·exact zgp hy
  ·exact absurd rfl (S.nofree _ (PySem.mem_of_lookup hy))
 ·exact Nat.le_of_lt (x.above y c (PySem.mem_of_lookup h))
 ·have hi:i < vs.length:=by
   unfold zdq at h2
   by_cases hi:i < vs.length
   ·exact hi
   ·rw [List.getElem?_append_right (by simpa using hi)] at h2
    rw [List.getElem?_replicate] at h2
    split at h2 <;> cases h2
  have ha:vs[i]?=some v:=by
   unfold zdq at h2
   rw [List.getElem?_append_left (by simpa using hi),List.getElem?_map] at h2
   cases e:vs[i]? with
   | none=>rw [e] at h2;cases h2
   | some a=>rw [e] at h2;cases h2;rfl
  obtain ⟨u,hu,rv⟩:=r.get ha
  have hp:ps[i]?=some y:=by
   rw [← S.pre,List.getElem?_take_of_lt (by omega)];exact h1
  have ndP:ps.Nodup:=by rw [← S.pre];exact S.nd.sublist (List.take_sublist _ _)
  refine ⟨u,rv,?_⟩
  rcases S.par y (List.mem_of_getElem? hp) with k | k
  ·exact .inl ⟨k,zfc ndP hp hu k⟩
  ·obtain ⟨c,e⟩:=zgp (n:=s.heap.objs.size+1) k
   refine .inr ⟨.inl k,c,e,?_⟩
   have q:=x.cell y c e
   rw [zfd ndP hp hu (by show scope.names.lookup y ≠ _;rw [k];decide)] at q
   exact q
 ·exact e0.hok.fresh (Nat.le_of_lt (x.above y c (PySem.mem_of_lookup h)))
 ·unfold zdq
  show _=N.length
  rw [List.length_append,List.length_map,List.length_replicate]
  omega
theorem zmC {CX:CXT} {P:Program} {w:World} {K:PySem.W.Frag} {mg:Str->Option Value} {base:Heap} {k:Nat} {f:Addr} {name qual:Str} {params:Arguments} {body:List Stmt} {scope:Scope} {dV kV doc pm cdv ct oc:Value} {an od:Option Addr}
  {osl:Array (Option Value)} {N ps:List Str} {sp:Sp} (lk:K.lookup f=some ⟨oc,od,.func (PySem.W.fnOf name qual params body scope dV kV doc pm an cdv ct),osl⟩) (hcd:PySem.W.codeIn K cdv qual=true) (S:zcv N ps scope)
  (len:∀ vs H Q E,sp vs H Q E->vs.length=ps.length)
  (hbody:∀ (A:Around) (outer:List Env) (s:Shared) (H:Hp) (vs:List V) (Q:VK) (E:XK),Room k (A.deeper (envOfC qual scope s.heap.objs.size f cdv))->sp vs H Q E ->
   ∃ t,PSs (cxOf CX P w K mg base N qual scope f cdv A outer s H E) body t/\t { nx:=fun _ H'=>Q .non H',rt:=Q } (zdq N vs) H) :
  FnOk P w K mg base CX (k+1) f (PySem.W.fnOf name qual params body scope dV kV doc pm an cdv ct) ps sp:=by
 refine ⟨len,fun A outer s H args us vs Q E hr e0 hb r hsp=>?_⟩
 have hl:=len _ _ _ _ hsp
 have KX:K.In s.heap:=e0.mod.kin.keeps fun b o e=>(e0.bs b o e).1
 have lim:s.heap.NoLimit:=e0.mod.nolimit.keeps fun b o e=>(e0.bs b o e).1
 have hkind:∀ y ∈ ps.zip us,scope.names.lookup y.1=some .local ∨ (scope.names.lookup y.1=some .cell/\((cellsFrom (s.heap.objs.size+1) scope.names []).lookup y.1).isSome=true):=fun ⟨n,v⟩ hy=>by
  rcases S.par n (List.of_mem_zip hy).1 with q | q
  ·exact .inl q
  ·exact .inr ⟨q,PySem.W.cellsFrom_some _ _ _ (.inl q)⟩
 refine codeAny_call_function hr.depth (KX _ _ lk) rfl S.co S.gen rfl (PySem.W.codeRec_of KX hcd) (hb _ _ _ _ ?_)
 refine wpAny_newFunctionEnv_cells S.kind hkind fun env he s1 x=>?_
 subst he
 refine ⟨lim.keeps x.toInCall.keep,codeAny_func ?_⟩
 obtain ⟨t,ht,hq⟩:=hbody A outer s H vs Q E (hr.deeper _) hsp
 have I:Inv (cxOf CX P w K mg base N qual scope f cdv A outer s H E) [] (zdq N vs) H s1:=zhz S hr.hd e0 hl r x
 refine wpAny_mono (ht [] s1 (zdq N vs) H _ I hq) (fun fl s' hs=>?_) fun e s' hs=>hs
 have fin:∀ {σ':St} {H':Hp} {v:V} {u:Value},Inv (cxOf CX P w K mg base N qual scope f cdv A outer s H E) [] σ' H' s'->RelV v u->Q v H'->CE outer P w H s Q u s' :=
  fun {σ' H' v u} J rv q=>⟨v,H',J.os,J.bare,J.base,J.hok,rv,q⟩
 cases fl with
 | ret u =>
  obtain ⟨v,σ',H',J,rv,q⟩:=hs
  exact fin J rv q
 | next =>
  obtain ⟨σ',H',J,q⟩:=hs
  exact fin (v:=V.non) (u:=Value.none) J rfl q
 | brk =>
  obtain ⟨_,_,_,q⟩:=hs
  exact False.elim q
 | cont =>
  obtain ⟨_,_,_,q⟩:=hs
  exact False.elim q
section
variable {X:Cx} {x:Str} {p pos:Pos} {e:Expr} {es:List Expr} {t:TA} {id T:String} {r:List V->Hp->VK->Prop}
def tCB (r:List V->Hp->VK->Prop) (t:TA):TE:=fun σ H Q=>t σ H fun vs H1=>r vs H1 Q
theorem zcC (hc:zcu X (.builtin id) r) (hg:Gl X x) (hm:X.mg x=none) (hv:bootBuiltins x=some (.builtin id)) (ha:PA X (e :: es) t) (hn:x ≠ "__name__" := by decide) (hdb:(x == ("__debug__" : Str))=false:=by decide)
  (he:starEach (e :: es) X.env=(false,eval e X.env) :: starEach es X.env:=by rfl) (hpl:(backTo pos (starEach es X.env)).any (·.1)=false:=by rfl):PE X (.Call (.Name x p) (e :: es) [] pos) (tCB r t):=by
 intro pins s σ H Q I h
 refine wpAny_Call_Name_kw (zdn I hg hm hv ?_ hn hdb)
 exact PyProof.Rows.callWith_builtin1 (thn (ha pos pins s σ H _ I h) fun us s1 ⟨vs,H1,I1,r1,q1⟩=>hc pins s1 σ H1 vs us Q I1 r1 q1) he hpl
theorem zhA (hc:zcu X (.type T) r) (hg:Gl X x) (hm:X.mg x=none) (hv:bootBuiltins x=some (.type T)) (ha:PA X (e :: es) t) (hn:x ≠ "__name__" := by decide) (hdb:(x == ("__debug__" : Str))=false:=by decide)
  (he:starEach (e :: es) X.env=(false,eval e X.env) :: starEach es X.env:=by rfl) (hpl:(backTo pos (starEach es X.env)).any (·.1)=false:=by rfl):PE X (.Call (.Name x p) (e :: es) [] pos) (tCB r t):=by
 intro pins s σ H Q I h
 refine wpAny_Call_Name_kw (zdn I hg hm hv ?_ hn hdb)
 exact PyProof.Rows.callWith_type1 (thn (ha pos pins s σ H _ I h) fun us s1 ⟨vs,H1,I1,r1,q1⟩=>hc pins s1 σ H1 vs us Q I1 r1 q1) he hpl
end
end L2
namespace HT
open PySem PyProof.Rows
section
open PySem.SeqAt
open PySem.AutoSeq1 (wpAny_loadPart')
open PySem.MeetsSeq PySem.MeetsSeq2 PySem.MeetsSeq3
end
section
variable {prog:Program} {w:World} {A:Around} {E:Value->Shared->Prop} {s:Shared}
def sIx (n d:Nat):Option Int->Nat
 | none=>d
 | some v=>if v < 0 then (v+(n:Int)).toNat else min v.toNat n
end
end HT
namespace L2
open PySem PySem.Spec PyProof.Rows
abbrev TO:=St->Hp->(Option Int->Hp->Prop)->Prop
def PO (X:Cx) (e:Option Expr) (t:TO):Prop :=
 ∀ (pins:List (Addr × Obj)) (s:Shared) (σ : St) (H:Hp) (Q:Option Int->Hp->Prop),Inv X pins σ H s->t σ H Q ->
  wpAny (model X.prog X.w) X.A (evalPart e X.env) (fun u s'=>∃ o H',Inv X pins σ H' s'/\IsPart u o/\Q o H') X.xe s
def zkc:TO:=fun _ H Q=>Q none H
def zmD (t:TE):TO:=fun σ H Q=>t σ H fun x H1=>∃ i,x=.int i/\Q (some i) H1
section
variable {X:Cx} {e:Expr} {te:TE} {lo hi:Option Expr} {tl th:TO} {pos p2:Pos}
theorem zkd:PO X none zkc:=by
 intro pins s σ H Q I h
 rw [evalPart_none]
 exact wpAny_pure ⟨none,H,I,.none,h⟩
theorem zke (h:PE X e te):PO X (some e) (zmD te):=by
 intro pins s σ H Q I hw
 rw [evalPart_some]
 refine thn (h pins s σ H _ I hw) fun u s1 ⟨x,H1,I1,r1,q1⟩=>?_
 obtain ⟨i,rfl,q⟩:=q1
 obtain ⟨t,rfl⟩:=r1
 exact ⟨some i,H1,I1,.int i t,q⟩
def SlR (X:Cx) (r:V->Option Int->Option Int->Hp->VK->Prop):Prop :=
 ∀ (pins:List (Addr × Obj)) (s:Shared) (σ : St) (H:Hp) (x:V) (v vl vu:Value) (lo hi:Option Int) (sl:Addr) (Q:VK),Inv X pins σ H s->RelV x v->s.heap.IsSliceOf sl vl vu .none->IsPart vl lo->IsPart vu hi->r x lo hi H Q ->
  ∃ T id,typeLookup (.type T) "__getitem__" = pure (some (.builtin id))/\s.TypeIs v T/\wpAny (model X.prog X.w) X.A (getItem v (.ref sl)) (EP X pins σ Q) X.xe s
theorem SlR.or {r r':V->Option Int->Option Int->Hp->VK->Prop} (h:SlR X r) (h':SlR X r'):SlR X (fun x lo hi H Q=>r x lo hi H Q ∨ r' x lo hi H Q):=by
 intro pins s σ H x v vl vu lo hi sl Q I rx hs pl pu q
 rcases q with q | q
 ·exact h pins s σ H x v vl vu lo hi sl Q I rx hs pl pu q
 ·exact h' pins s σ H x v vl vu lo hi sl Q I rx hs pl pu q
def tSl (r:V->Option Int->Option Int->Hp->VK->Prop) (te:TE) (tl th:TO):TE:=fun σ H Q=>te σ H fun x H1=>tl σ H1 fun l H2=>th σ H2 fun u H3=>r x l u H3 Q
theorem zi0 {r:V->Option Int->Option Int->Hp->VK->Prop} (hr:SlR X r) (he:PE X e te) (hl:PO X lo tl) (hu:PO X hi th):PE X (.Subscript e (.Slice lo hi none p2) pos) (tSl r te tl th):=by
 intro pins s σ H Q I h
 refine Subscript_ (thn (he pins s σ H _ I h) fun v s1 ⟨x,H1,I1,r1,q1⟩=>?_)
 refine wpAny_Slice (thn (hl pins s1 σ H1 _ I1 q1) fun vl s2 ⟨l,H2,I2,pl,q2⟩=>thn (hu pins s2 σ H2 _ I2 q2) fun vu s3 ⟨u,H3,I3,pu,q3⟩=>?_)
 rw [evalPart_none]
 refine wpAny_pure ?_
 have I4:Inv X pins σ H3 { s3 with heap:=s3.heap.push { cls:=.type "slice", data:=.fields #[vl,vu,.none] } }:=I3.kept (t':=s3.toks) fun b ob q=>Heap.get?_push_of_some _ q
 obtain ⟨T,id,hT,ht,hg⟩:=hr pins { s3 with heap:=s3.heap.push { cls:=.type "slice", data:=.fields #[vl,vu,.none] } } σ H3 x v vl vu l u s3.heap.objs.size Q I4 r1 (Heap.IsSliceOf.new ..) pl pu q3
 show wpAny (model X.prog X.w) X.A (subscriptTail e (.Slice lo hi none p2) v (.ref s3.heap.objs.size)) (EP X pins σ Q) X.xe { s3 with heap:=s3.heap.push { cls:=.type "slice", data:=.fields #[vl,vu,.none] } }
 exact tail_any (ops:=[.ref s3.heap.objs.size,v]) ht hT hg (by with_unfolding_all rfl)
def cutV (xs:List V) (lo hi:Option Int):List V:=(xs.drop (HT.sIx xs.length 0 lo)).take (HT.sIx xs.length xs.length hi - HT.sIx xs.length 0 lo)
theorem zfV (xs:List V) (lo hi:Option Int):(cutV xs lo hi).length<=xs.length:=by
 unfold cutV
 rw [List.length_take,List.length_drop]
 omega
end
def ixN (n:Nat) (i:Int):Option Nat:=if 0<=i then (if i < n then some i.toNat else none) else if -(n:Int)<=i then some (i+n).toNat else none
def atI {α : Type} (xs:List α) (i:Int):Option α:=(ixN xs.length i).bind fun j=>xs[j]?
theorem zkf {n:Nat} {i:Int} {j:Nat} (h:ixN n i=some j):seqIndex? i n=some j/\j < n /\ -(n:Int)<=i/\i < n:=by
 unfold ixN at h
 by_cases h0:0<=i
 ·rw [if_pos h0] at h
  by_cases h1:i < n
  ·rw [if_pos h1] at h
   have e:i.toNat=j:=Option.some.inj h
   exact ⟨by rw [seqIndex_of h0 h1,e],by omega,by omega,h1⟩
  ·rw [if_neg h1] at h;cases h
 ·rw [if_neg h0] at h
  by_cases h1 : -(n:Int)<=i
  ·rw [if_pos h1] at h
   have e:(i+n).toNat=j:=Option.some.inj h
   exact ⟨by rw [seqIndex_neg (by omega) h1,e],by omega,h1,by omega⟩
  ·rw [if_neg h1] at h;cases h
theorem zfW {α : Type} {xs:List α} {i:Int} {v : α} (h:atI xs i=some v):∃ j,seqIndex? i xs.length=some j/\xs[j]?=some v/\j < xs.length /\ -(xs.length:Int)<=i/\i < xs.length:=by
 unfold atI at h
 cases e:ixN xs.length i with
 | none=>rw [e] at h;cases h
 | some j =>
  rw [e] at h
  obtain ⟨h1,h2,h3,h4⟩:=zkf e
  exact ⟨j,h1,h,h2,h3,h4⟩
theorem zb3 {α : Type} {xs:List α} {j:Nat} {v : α} (h:xs[j]?=some v):atI xs (j:Int)=some v:=by
 have hj:j < xs.length:=(List.getElem?_eq_some_iff.mp h).1
 have e:ixN xs.length (j:Int)=some j:=by
  unfold ixN
  rw [if_pos (by omega),if_pos (by omega)];simp
 unfold atI;rw [e];exact h
def zex (b:Expr):Prop:=∀ o i,subscripted b false o i=operate [o,i] (getItem o i)
def IxR (X:Cx) (r:R2):Prop :=
 ∀ (value slice:Expr) (pins:List (Addr × Obj)) (s:Shared) (σ : St) (H:Hp) (x y:V) (v u:Value) (Q:VK),Inv X pins σ H s->RelV x v->RelV y u->r x y H Q ->
  subscripted slice false v u=operate [v,u] (getItem v u)->wpAny (model X.prog X.w) X.A (subscriptTail value slice v u) (EP X pins σ Q) X.xe s
def MtR (X:Cx) (id:String) (r:V->List V->Hp->VK->Prop):Prop :=
 ∀ (pins:List (Addr × Obj)) (s:Shared) (σ : St) (H:Hp) (x:V) (xs:List V) (v:Value) (us:List Value) (Q:VK),Inv X pins σ H s->RelV x v->Vals xs us->r x xs H Q ->
  wpAny (model X.prog X.w) X.A (call (.builtin id) (v :: us)) (EP X pins σ Q) X.xe s
section
variable {X:Cx} {a b:Expr} {ta tb:TE} {pos:Pos}
theorem IxR.or {r r':R2} (h:IxR X r) (h':IxR X r'):IxR X (fun x y H Q=>r x y H Q ∨ r' x y H Q):=by
 intro value slice pins s σ H x y v u Q I rx ry q hs
 rcases q with q | q
 ·exact h value slice pins s σ H x y v u Q I rx ry q hs
 ·exact h' value slice pins s σ H x y v u Q I rx ry q hs
theorem zkg {r:R2} (hr:IxR X r) (ha:PE X a ta) (hb:PE X b tb) (hs:zex b):PE X (.Subscript a b pos) (tOp r ta tb):=by
 intro pins s σ H Q I h
 exact Subscript_ (binT ha hb I h fun v u s2 x y H2 I2 rx ry q=>hr a b pins s2 σ H2 x y v u Q I2 rx ry q (hs _ _))
def rIxL (K:PySem.W.Frag):R2:=fun x y H Q=>∃ p xs i v,x=.ref p/\y=.int i/\SqL K H p xs/\atI xs i=some v/\Q v H
def rIxT (K:PySem.W.Frag):R2:=fun x y H Q=>∃ p xs i v,x=.ref p/\y=.int i/\SqT K H p xs/\atI xs i=some v/\Q v H
def rIxS:R2:=fun x y H Q=>∃ z i c,x=.str z/\y=.int i/\z.length<=sizeLine/\atI z.cps.toList i=some c/\Q (.str ⟨#[c]⟩) H
theorem zkh:IxR X (rIxL X.K):=by
 intro value slice pins s σ H x y v u Q I rx ry h hs
 obtain ⟨p,xs,i,z,rfl,rfl,hq,he,q⟩:=h
 cases rx
 obtain ⟨t,rfl⟩:=ry
 obtain ⟨its,r,pl,hz⟩:=I.list hq
 obtain ⟨j,h1,h2,h3,h4,h5⟩:=zfW he
 obtain ⟨w,ew,rw'⟩:=r.get h2
 have hl:=r.length
 have hn:=zgn
 have fin:EP X pins σ Q w s:=⟨z,H,I,rw',q⟩
 by_cases h0:0<=i
 ·have hj:i.toNat=j:=by
   rw [seqIndex_of h0 h5] at h1
   exact Option.some.inj h1
  exact item_listR pl.isList h0 (by omega) (by rw [hj];simpa using ew) fin hs
 ·have hj:(i+(its.toArray.size:Int)).toNat=j:=by
   rw [seqIndex_neg (by omega) h4] at h1
   rw [List.size_toArray,← hl]
   exact Option.some.inj h1
  exact subscriptTail_builtinR (x:=w) pl.isList.typeIs slot_list_getitem.lookup
   (wpAny_getItem_list_neg (Q:=fun r s'=>r=w/\EP X pins σ Q r s') pl.isList (by omega) (by rw [List.size_toArray] <;> omega) (by omega) (by rw [hj];simpa using ew) ⟨rfl,fin⟩) hs
theorem zlC:IxR X (rIxT X.K):=by
 intro value slice pins s σ H x y v u Q I rx ry h hs
 obtain ⟨p,xs,i,z,rfl,rfl,hq,he,q⟩:=h
 cases rx
 obtain ⟨t,rfl⟩:=ry
 obtain ⟨its,r,pl,hz⟩:=I.tuple hq
 obtain ⟨j,h1,h2,h3,h4,h5⟩:=zfW he
 obtain ⟨w,ew,rw'⟩:=r.get h2
 have hl:=r.length
 have hn:=zgn
 have fin:EP X pins σ Q w s:=⟨z,H,I,rw',q⟩
 exact subscriptTail_builtinR (x:=w) pl.typeIs slot_tuple_getitem.lookup
  (getItem_tuple (j:=j) (Q:=fun r s'=>r=w/\EP X pins σ Q r s') pl (by omega) (by omega) (by rw [List.size_toArray,← hl];exact h1) (by simpa using ew) ⟨rfl,fin⟩) hs
theorem zlD:IxR X rIxS:=by
 intro value slice pins s σ H x y v u Q I rx ry h hs
 obtain ⟨z,i,c,rfl,rfl,hz,he,q⟩:=h
 obtain ⟨t,rfl⟩:=rx
 obtain ⟨t',rfl⟩:=ry
 obtain ⟨j,h1,h2,h3,h4,h5⟩:=zfW he
 have hl:z.cps.toList.length=z.length:=by simp [Str.length]
 rw [hl] at h1 h4 h5
 have hn:=zgn
 exact tail_any (typeIs_str s z t) slot_str_getitem.lookup (getItem_str (c:=c) (by
  have e1:decide (i < -(2 ^ 63:Int))=false:=decide_eq_false (by omega)
  have e2:decide (i ≥ 2 ^ 63)=false:=decide_eq_false (by omega)
  rw [e1,e2,Bool.or_false]) (by rw [h1];simpa using h2) ⟨.str ⟨#[c]⟩,H,I.tok _,⟨_,rfl⟩,q⟩) hs
def rIx (K:PySem.W.Frag):R2:=fun x y H Q=>rIxL K x y H Q ∨ rIxT K x y H Q ∨ rIxS x y H Q
theorem zhB:IxR X (rIx X.K):=zkh.or (zlC.or zlD)
theorem zfe (lo hi:Option Int) (n:Nat):(sliceBounds lo hi none n).1=((HT.sIx n 0 lo:Nat):Int)/\(sliceBounds lo hi none n).2.1=((HT.sIx n n hi:Nat):Int)/\(sliceBounds lo hi none n).2.2=1:=by
 refine ⟨?_,?_,rfl⟩
 ·cases lo with
  | none=>simp [sliceBounds,HT.sIx]
  | some i =>
   simp only [sliceBounds,HT.sIx,Option.getD_none,show (1:Int) > 0 by decide,if_true]
   by_cases h:i < 0
   ·simp only [h,if_true] <;> omega
   ·simp only [h,if_false] <;> omega
 ·cases hi with
  | none=>simp [sliceBounds,HT.sIx]
  | some i =>
   simp only [sliceBounds,HT.sIx,Option.getD_none,show (1:Int) > 0 by decide,if_true]
   by_cases h:i < 0
   ·simp only [h,if_true] <;> omega
   ·simp only [h,if_false] <;> omega
theorem zey (its:List Value) (lo hi:Option Int):slicePick its.toArray lo hi none=((its.drop (HT.sIx its.length 0 lo)).take (HT.sIx its.length its.length hi - HT.sIx its.length 0 lo)).toArray:=by
 obtain ⟨h1,h2,h3⟩:=zfe lo hi its.toArray.size
 unfold slicePick
 rw [h1,h2,h3]
 simp only [sliceRange_one,pick_run,List.size_toArray] <;> rfl
def rSlL (K:PySem.W.Frag):V->Option Int->Option Int->Hp->VK->Prop:=fun x lo hi H Q=>∃ a xs,x=.ref a/\SqL K H a xs/\∀ p,H p=none->Q (.ref p) (upd H p (.lst (cutV xs lo hi)))
theorem zki:SlR X (rSlL X.K):=by
 intro pins s σ H x v vl vu lo hi sl Q I rx hs pl pu h
 obtain ⟨a,xs,rfl,hx,q⟩:=h
 cases rx
 obtain ⟨its,r,ht,hz⟩:=I.list hx
 have hlen:=r.length
 refine ⟨"list", _,slot_list_getitem.lookup,ht.isList.typeIs,?_⟩
 refine wpAny_getItem_list_slice ht.isList hs pl pu .none (by simp) ?_ (by rw [List.size_toArray] <;> omega)
 rw [zey,← hlen]
 refine ⟨.ref s.heap.objs.size,_,I.laid (t':=s.toks) (o:=.lst (cutV xs lo hi)) (fun b ob q=>Heap.get?_push_of_some _ q) (Nat.le_refl _) ?_,rfl,q _ (I.hok.fresh (Nat.le_refl _))⟩
 exact ⟨Nat.le_trans (zfV xs lo hi) hz,_,0,(r.drop (HT.sIx xs.length 0 lo)).take (HT.sIx xs.length xs.length hi - HT.sIx xs.length 0 lo),Heap.get?_push_size _ rfl⟩
def tyV (K:PySem.W.Frag) (T:String) (x:V) (H:Hp):Prop:=match x with
 | .str _=>T = "str"
 | .int _=>T = "int"
 | .ref p=>(T = "list" /\ ∃ xs,SqL K H p xs) ∨ (T = "tuple" /\ ∃ o,K.lookup p=some o/\o.cls=.type "tuple" /\ o.dict=none) ∨
   (T = "dict" /\ ((∃ kvs,H p=some (.dK kvs)) ∨ ∃ kvs,H p=some (.dT kvs))) ∨ (T = "set" /\ ∃ S n,H p=some (.set S n))
 | _=>False
theorem zjP {pins:List (Addr × Obj)} {σ : St} {H:Hp} {s:Shared} {T:String} {x:V} {v:Value} (I:Inv X pins σ H s) (r:RelV x v) (ty:tyV X.K T x H) :
  s.TypeIs v T/\∀ a,v=.ref a->∃ ob,s.heap.get? a=some ob/\ob.dict=none:=by
 cases x with
 | str z =>
  obtain ⟨t,rfl⟩:=r
  cases (show T = "str" from ty)
  exact ⟨typeIs_str s z t,fun _ e=>nomatch e⟩
 | int i =>
  obtain ⟨t,rfl⟩:=r
  cases (show T = "int" from ty)
  exact ⟨typeIs_int s i t,fun _ e=>nomatch e⟩
 | ref p =>
  cases r
  rcases ty with ⟨rfl,xs,hq⟩ | ⟨rfl,o,hk,hc,hd⟩ | ⟨rfl,hk⟩ | ⟨rfl,S,n,hk⟩
  ·obtain ⟨its,_,pl,_⟩:=I.list hq
   refine ⟨pl.isList.typeIs,fun a e=>?_⟩
   cases e
   obtain ⟨o,n,e,c,hd,_⟩:=pl
   exact ⟨o,e,hd⟩
  ·refine ⟨⟨o,I.kIn p o hk,hc⟩,fun a e=>?_⟩
   cases e
   exact ⟨o,I.kIn _ o hk,hd⟩
  ·have z:∃ o,s.heap.get? p=some o/\o.ExactDict:=by
    rcases hk with ⟨kvs,hk⟩ | ⟨kvs,hk⟩
    ·obtain ⟨_,_,_,_,o,_,_,e,ex,_⟩:=I.hok p _ hk
     exact ⟨o,e,ex⟩
    ·obtain ⟨_,_,_,_,o,_,_,e,ex,_⟩:=I.hok p _ hk
     exact ⟨o,e,ex⟩
   obtain ⟨o,e,ex⟩:=z
   refine ⟨⟨o,e,ex.1⟩,fun a e2=>?_⟩
   cases e2
   exact ⟨o,e,ex.2.1⟩
  ·obtain ⟨o,_,_,_,e,ex,_⟩:=I.hok p _ hk
   refine ⟨⟨o,e,ex.1⟩,fun a e2=>?_⟩
   cases e2
   exact ⟨o,e,ex.2.1⟩
 | _=>exact False.elim ty
def tBM0 (K:PySem.W.Frag) (T:String) (r:V->List V->Hp->VK->Prop) (to:TE):TE:=fun σ H Q=>to σ H fun x H1=>tyV K T x H1/\r x [] H1 Q
def tBM (K:PySem.W.Frag) (T:String) (r:V->List V->Hp->VK->Prop) (to:TE) (t:TA):TE:=fun σ H Q=>to σ H fun x H1=>tyV K T x H1/\t σ H1 fun xs H2=>r x xs H2 Q
variable {o e:Expr} {es:List Expr} {to:TE} {t:TA} {name:Str} {apos cpos:Pos} {T id:String} {r:V->List V->Hp->VK->Prop}
theorem zjQ (pa:PlainAttrs T) (slot:Slot T name id) (hty:typeOf (.builtin id)=pure (.type "method_descriptor")) (hm:MtR X id r) (ho:PE X o to)
  (hbase:attributeBase o name X.env (eval o X.env)=eval o X.env:=by rfl) (hline:(apos.endLine == cpos.line)=true:=by rfl):PE X (.Call (.Attribute o name apos) [] [] cpos) (tBM0 X.K T r to):=by
 intro pins s σ H Q I h
 refine wpAny_Call_method0_late hbase hline (thn (ho pins s σ H _ I h) fun v s1 ⟨x,H1,I1,r1,ty,q1⟩=>?_)
 obtain ⟨h1,h2⟩:=zjP I1 r1 ty
 exact ⟨T,id,pa,slot,hty,h1,h2,Calls.callWith_builtin rfl (PySem.evalArgs_none (hm pins s1 σ H1 x [] v [] Q I1 r1 .nil q1))⟩
theorem zlE (pa:PlainAttrs T) (slot:Slot T name id) (hty:typeOf (.builtin id)=pure (.type "method_descriptor")) (hm:MtR X id r) (ho:PE X o to) (ha:PA X (e :: es) t)
  (hbase:attributeBase o name X.env (eval o X.env)=eval o X.env:=by rfl)
  (hfew:((backTo cpos (starEach (e :: es) X.env)).all (fun x=>!x.1) && (backToKw cpos (keywordEach [] X.env)).all (fun x=>x.1.isSome)
   && decide ((e :: es).length+([]:List Keyword).length+(if ([]:List Keyword).isEmpty then 0 else 1) < 30))=true:=by rfl)
  (hline:(apos.endLine == cpos.line)=true:=by rfl) (hs:starEach (e :: es) X.env=(false,eval e X.env) :: starEach es X.env:=by rfl) (hplain:(backTo cpos (starEach es X.env)).any (·.1)=false:=by rfl) :
  PE X (.Call (.Attribute o name apos) (e :: es) [] cpos) (tBM X.K T r to t):=by
 intro pins s σ H Q I h
 refine wpAny_Call_method_late hbase hfew hline rfl (thn (ho pins s σ H _ I h) fun v s1 ⟨x,H1,I1,r1,ty,q1⟩=>?_)
 obtain ⟨h1,h2⟩:=zjP I1 r1 ty
 refine ⟨T,id,pa,slot,hty,h1,h2,?_⟩
 have hA:=ha cpos pins s1 σ H1 _ I1 q1
 rw [hs] at hA ⊢
 refine Calls.callWith_builtin (by show (false || (backTo cpos (starEach es X.env)).any (·.1))=false;rw [hplain] <;> rfl) (Calls.evalArgs_plain ?_)
 exact thn hA fun us s2 ⟨vs,H2,I2,r2,q2⟩=>hm pins s2 σ H2 x vs v us Q I2 r1 r2 q2
end
def MtM (X:Cx) (id:String) (r:V->List V->Hp->VK->Prop):Prop :=
 ∀ (pins:List (Addr × Obj)) (s:Shared) (σ : St) (H:Hp) (x:V) (xs:List V) (v:Value) (us:List Value) (Q:VK),Inv X pins σ H s->RelV x v->Vals xs us->r x xs H Q ->
  wpAny (model X.prog X.w) X.A (call (.builtin id) (v :: us)) (EP X pins σ Q) X.xe s
theorem Vals.one:∀ {x:V} {us:List Value},Vals [x] us->∃ u,us=[u]/\RelV x u
 | _,_,.cons r .nil=>⟨_,rfl,r⟩
theorem Vals.two:∀ {x y:V} {us:List Value},Vals [x,y] us->∃ u v,us=[u,v]/\RelV x u/\RelV y v
 | _,_,_,.cons r (.cons q .nil)=>⟨_,_,rfl,r,q⟩
theorem Vals.zero:∀ {us:List Value},Vals [] us->us=[]
 | _,.nil=>rfl
theorem Vals.reverse {xs:List V} {us:List Value} (h:Vals xs us):Vals xs.reverse us.reverse:=by
 induction h with
 | nil=>exact .nil
 | cons r t ih=>rw [List.reverse_cons,List.reverse_cons];exact Vals.append ih (.cons r .nil)
theorem Vals.rep {xs:List V} {us:List Value} (h:Vals xs us):∀ k:Nat,Vals (List.replicate k xs).flatten (List.replicate k us).flatten
 | 0=>.nil
 | k+1=>by
  rw [List.replicate_succ,List.replicate_succ,List.flatten_cons,List.flatten_cons]
  exact Vals.append h (Vals.rep h k)
theorem zff (its:List Value):∀ (k:Nat) (acc:List Value),
  List.foldl (fun x1 x2=>x1 ++ x2) acc.toArray (List.replicate k its.toArray)=(acc ++ (List.replicate k its).flatten).toArray
 | 0,acc=>by simp
 | k+1,acc=>by
  have e:acc.toArray ++ its.toArray=(acc ++ its).toArray:=by simp
  have e2:(acc ++ its) ++ (List.replicate k its).flatten=acc ++ (List.replicate (k+1) its).flatten:=by
   rw [List.replicate_succ,List.flatten_cons,List.append_assoc]
  rw [← e2,← zff its k (acc ++ its),← e,List.replicate_succ,List.foldl_cons]
section
variable {X:Cx} {pins:List (Addr × Obj)} {σ : St} {H:Hp} {s:Shared} {l b:Addr} {xs ys zs:List V}
theorem Inv.lset {its its':List Value} {n:Nat} {f:Array Value->Array Value} {t':Nat} (I:Inv X pins σ H s) (hH:H l=some (.lst xs))
  (e:s.heap.get? l=some { cls:=.type "list", data:=.seq its.toArray n }) (hf:f its.toArray=its'.toArray) (hv:Vals ys its') (hz:ys.length<=sizeLine) :
  Inv X pins σ (upd H l (.lst ys)) { s with heap:=s.heap.update l (Obj.mapSeq f),toks:=t' }:=by
 have q:=PySem.IsL.update e f
 rw [hf] at q
 refine I.write (x:=l) (e:=l) (by rw [hH];exact trivial) (.inl rfl) (fun b' u hb hu=>(Heap.get?_update_other s.heap (Obj.mapSeq f) (Ne.symm hb)).trans hu) ⟨_,q⟩ ?_
 exact ⟨hz,its',_,hv,q⟩
theorem Inv.lnew {its:List Value} {t':Nat} (I:Inv X pins σ H s) (hv:Vals ys its) (hz:ys.length<=sizeLine) :
  Inv X pins σ (upd H s.heap.objs.size (.lst ys)) { s with heap:=s.heap.push { cls:=.type "list", data:=.seq its.toArray },toks:=t' } :=
 I.laid (fun _ _ q=>Heap.get?_push_of_some _ q) (Nat.le_refl _) ⟨hz,its,0,hv,Heap.get?_push_size _ rfl⟩
theorem Inv.fresh (I:Inv X pins σ H s):H s.heap.objs.size=none:=I.hok.fresh (Nat.le_refl _)
theorem Inv.lstM (I:Inv X pins σ H s) (hH:H l=some (.lst xs)):xs.length<=sizeLine/\∃ (its:List Value) (n:Nat),Vals xs its/\xs.length=its.length/\s.heap.get? l=some { cls:=.type "list", data:=.seq its.toArray n }:=by
 obtain ⟨z,its,n,r,e⟩:=I.hok l _ hH
 exact ⟨z,its,n,r,r.length,e⟩
theorem zi1 {n:Nat} (h:n<=sizeLine):Builtin.List.listTooLong n=false:=by
 unfold Builtin.List.listTooLong
 exact decide_eq_false (by omega)
end
section
variable {X:Cx}
def zkj:V->List V->Hp->VK->Prop:=fun x vs H Q=>∃ l xs y,x=.ref l/\vs=[y]/\H l=some (.lst xs)/\xs.length < sizeLine/\Q .non (upd H l (.lst (xs ++ [y])))
theorem zdr:MtM X "list.append" zkj:=by
 intro pins s σ H x vs v us Q I rx rv h
 obtain ⟨l,xs,y,rfl,rfl,hH,hz,q⟩:=h
 cases rx
 obtain ⟨u,rfl,ru⟩:=rv.one
 obtain ⟨z,its,n,r,hl,e⟩:=I.lstM hH
 refine call_meets F.slot_list_append ⟨_,e,rfl⟩ F.entry_list_append (F.args_list_append_2 _ _) (PySem.list_append l its.toArray n u (by rw [List.size_toArray];omega)) ⟨e,?_⟩
 refine ⟨.non,_,I.lset (its':=its ++ [u]) hH e (by simp) (r.append (.cons ru .nil)) ?_,rfl,q⟩
 rw [List.length_append,List.length_singleton]
 omega
def zi2:V->List V->Hp->VK->Prop:=fun x vs H Q=>∃ l xs,x=.ref l/\vs=[]/\H l=some (.lst xs)/\Q .non (upd H l (.lst xs.reverse))
theorem zgR:MtM X "list.reverse" zi2:=by
 intro pins s σ H x vs v us Q I rx rv h
 obtain ⟨l,xs,rfl,rfl,hH,q⟩:=h
 cases rx
 have hus:=rv.zero
 subst hus
 obtain ⟨z,its,n,r,hl,e⟩:=I.lstM hH
 refine call_meets F.slot_list_reverse ⟨_,e,rfl⟩ F.entry_list_reverse (F.args_list_reverse_1 _) (AutoSeq1.list_reverse_list_0 l its.toArray n (by rw [List.size_toArray];omega)) ⟨e,?_⟩
 refine ⟨.non,_,I.lset (its':=its.reverse) hH e (by simp) r.reverse ?_,rfl,q⟩
 rw [List.length_reverse]
 omega
def zlF:V->List V->Hp->VK->Prop:=fun x vs H Q=>∃ l xs,x=.ref l/\vs=[]/\H l=some (.lst xs)/\Q .non (upd H l (.lst []))
theorem zi3:MtM X "list.clear" zlF:=by
 intro pins s σ H x vs v us Q I rx rv h
 obtain ⟨l,xs,rfl,rfl,hH,q⟩:=h
 cases rx
 have hus:=rv.zero
 subst hus
 obtain ⟨z,its,n,r,hl,e⟩:=I.lstM hH
 refine call_meets F.slot_list_clear ⟨_,e,rfl⟩ F.entry_list_clear (F.args_list_clear_1 _) (AutoSeq1.list_clear_list_0 l its.toArray n (by rw [List.size_toArray];omega)) ⟨e,?_⟩
 exact ⟨.non,_,I.lset (its':=[]) (ys:=[]) hH e rfl .nil (Nat.zero_le _),rfl,q⟩
theorem zkk {α : Type} (xs:List α) (k:Nat):(List.replicate k xs).flatten.length=k * xs.length:=by
 induction k with
 | zero=>simp
 | succ k ih=>rw [List.replicate_succ,List.flatten_cons,List.length_append,ih,Nat.succ_mul,Nat.add_comm]
end
section
variable {prog:Program} {w:World} {A:Around} {E:Value->Shared->Prop} {s:Shared}
set_option maxRecDepth 100000 in
end
section
variable {X:Cx}
end
end L2
namespace Att
open PySem PySem.W PySem.Calls PyProof.Rows
theorem zds {P:Params} {h:Heap}:∀ (ns:List Int) (vs:List Value),WellAll P h vs (ns.map WData.int)->IntsAre vs ns:=by
 intro ns
 induction ns with
 | nil =>
  intro vs w
  rw [List.map_nil] at w
  cases w
  exact .nil
 | cons n ns ih =>
  intro vs w
  rw [List.map_cons] at w
  cases w with
  | cons a b =>
   cases a
   exact .cons _ _ (ih _ b)
theorem zhC {l:OpenLaw} {n:Nat} (hn:l.most=some n) {P:Params} {h:Heap} {args:List WData} {vals:List Value}
  (hpre:l.row.toRowW.claim.pre args=true) (hwl:WellAll P h vals args) :
  ∃ a vs ns,vals=[Value.ref a]/\args=[WData.list (ns.map WData.int)]/\h.get? a=some { cls:=.type "list", data:=.seq vs.toArray }/\IntsAre vs ns/\ns.length<=n:=by
 have hsh:WShape.hasAll [] args [.list .int]=true:=(pre_splitW hpre).1
 have hc:l.pre.holds [] { args:=args }=true:=(pre_splitW hpre).2
 obtain ⟨d,r,rfl,h1,h2⟩:=hasAllW_cons hsh
 obtain rfl:=hasAllW_nil h2
 obtain ⟨xs,rfl,h3⟩:=hasW_list h1
 obtain ⟨ns,rfl⟩:=items_int h3
 have hlen:ns.length<=n:=by
  unfold OpenLaw.pre at hc
  have h4:(WTm.not (.lt (.lit (.int (n:Int))) (.len (.arg 0)))).holds [] { args:=[.list (ns.map .int)] }=true:=by
   have h4:=(holds_andW hc).1
   rw [hn] at h4
   exact h4
  have h5:=condW_of h4 (w_not (w_lt w_lit (w_len_list (w_arg rfl))))
  rw [List.length_map] at h5
  refine Nat.le_of_not_lt fun q=>?_
  have q':(n:Int) < ((ns.length:Nat):Int):=by omega
  first
   | (rw [decide_eq_true q'] at h5;exact absurd h5 (by decide))
   | (simp at h5;omega)
 cases hwl with
 | cons w1 w2 =>
  cases w2
  cases w1 with
  | list ho hall=>exact ⟨_,_,ns,rfl,rfl,ho,zds ns _ hall,hlen⟩
theorem zhD (l:OpenLaw) (args:List WData):l.row.toRowW.claim.post args (.bool true) args=true :=
 postW_of (r:=l.row.toRowW) (X:=(true == true))
  (show WShape.has [] (.bool true) .bool=true by first | rfl | decide | simp [WShape.has,WShape.arms,WShape.armsAll])
  (show (WTm.eq .res (.lit (.bool true))).value [] { args:=args,res:=some (.bool true),after:=args }=some (.bool (true == true)) from w_eq_bool (w_res rfl) w_lit) rfl
theorem attach_call {l:OpenLaw} {n:Nat} {q:Program} {loose:List Str} {XP:(Str->Option Value)->Heap->Prop} {YP:World->Heap->Prop} {d:DefRec}
  (hn:l.most=some n) (hdf:d.params.defaults=[])
  (call:∀ (w:World) (s₀ s₁ : Shared) (mg mb:Str->Option Value) (fa:Addr) (o:Obj) (pm cd doc:Value) (a:Addr) (vs:List Value) (ns:List Int),
   Ground q loose [] XP w s₀ mg mb s₁.heap->YP w s₁.heap ->
   s₁.heap.get? fa=some o->o.data=.func (docDef d.name d.params d.body d.scope pm cd doc)->s₁.heap.CodeRec cd d.name->mg d.name=some (.ref fa) ->
   s₁.heap.get? a=some { cls:=.type "list", data:=.seq vs.toArray }->IntsAre vs ns->ns.length<=n->s₁.gens = #[] ->
   codeAny (model l.prog w) callerA (.call (.ref fa) ⟨[.ref a],[]⟩) (fun r s'=>r=.ok (.ret (.bool true))/\OldK s₁.heap s'.heap/\s'.os=s₁.os/\AllBare s'.gens) s₁) :
  WalkO q loose XP YP l.row.toRowW d [] (fun f vs=>PySem.call f vs):=by
 intro w s₀ s₁ mg mb G Y fa o pm cd doc dV kV ho hd hcd hD hmg hg args vals as hpre hlay hrd hwl hlo
 obtain rfl:dV=.none:=Dflts.none hD hdf
 obtain rfl:kV=.none:=Dflts.noKw hD
 obtain ⟨a,vs,ns,rfl,rfl,hobj,hints,hlen⟩:=zhC hn hpre hwl
 refine enter_call (codeAny_mono (call w s₀ s₁ mg mb fa o pm cd doc a vs ns G Y ho (fd_plain hd) hcd hmg hobj hints hlen hg) fun r s' hq=>?_)
 obtain ⟨rfl,h2,h3,h4⟩:=hq
 exact ⟨.inl ⟨.bool true,.bool true,[],rfl,fun _=>rfl,.bool true,zhD l _,fun _=>⟨List.Pairwise.nil,fun _ hm=>(nomatch hm)⟩⟩,h2,h3,h4⟩
section
variable {prog:Program} {w:World} {A:Around} {E:Value->Shared->Prop} {s:Shared} {K:Frag}
end
end Att
namespace L2
open PySem PySem.Spec PyProof.Rows
theorem zby:∀ {vs:List Value} {ns:List Int},IntsAre vs ns->Vals (ns.map V.int) vs
 | _,_,.nil=>.nil
 | _,_,.cons n t h=>.cons ⟨t,rfl⟩ (zby h)
def Only (H:Hp):Prop:=∀ b,H b=none ∨ ∃ o xs,H b=some (.frz o (.lst xs))
theorem zi4 {P:Program} {w:World} {K:PySem.W.Frag} {mg mb:Str->Option Value} {CX:CXT} {k:Nat} {fa a:Addr} {fd:FuncData} {x:Str} {sp:Sp} {s₁ : Shared} {vs:List Value} {ns:List Int}
  (KX:K.In s₁.heap) (hns:s₁.heap.Ns mainGlobals mg) (hb:s₁.heap.Ns builtinsNs mb) (hbb:∀ x:Str,x ≠ "__name__" -> mb x=bootBuiltins x) (hlim:s₁.heap.NoLimit) (hg:s₁.gens = #[])
  (ha:s₁.heap.get? a=some { cls:=.type "list", data:=.seq vs.toArray }) (hi:IntsAre vs ns) (hl:ns.length<=sizeLine) (hr:Room k callerA)
  (F:∀ base:Heap,K.In base->base.Ns mainGlobals mg->FnOk P w K mg base CX k fa fd [x] sp) (hbind:∀ (s:Shared) (u:Value),BindsTo s fd ⟨[u],[]⟩ [(x,u)])
  (hsp:∀ H:Hp,Only H->SqL K H a (ns.map V.int)->sp [.ref a] H (fun v _=>v=.bl true) fun _ _ _=>False)
  (hCX:∀ H e s',CX [] H s₁ (fun _ _ _=>False) e s'->False) :
  codeAny (model P w) callerA (.call (.ref fa) ⟨[.ref a],[]⟩) (fun r s'=>r=.ok (.ret (.bool true))/\OldK s₁.heap s'.heap/\s'.os=s₁.os/\AllBare s'.gens) s₁:=by
 have rv:=zby hi
 have lenV:=hi.length
 have core:∀ H:Hp,Only H->SqL K H a (ns.map V.int)->HOk P w H s₁.heap->(∀ b,H b ≠ none->b=a)->(H a ≠ none->K.lookup a=none) ->
   codeAny (model P w) callerA (.call (.ref fa) ⟨[.ref a],[]⟩) (fun r s'=>r=.ok (.ret (.bool true))/\OldK s₁.heap s'.heap/\s'.os=s₁.os/\AllBare s'.gens) s₁:=by
  intro H hO hS hok hA hK
  have base_of:∀ {b:Addr} {o:Obj},s₁.heap.get? b=some o->H b=none->(hidT s₁.heap H).get? b=some o:=fun e n=>ziW e n
  have noA:∀ {b:Addr} {o:Obj} {es:Array DictEntry} {ep:Nat},s₁.heap.get? b=some o->o.data=.dict es ep->H b=none:=fun {b o es ep} e d=>by
   cases q:H b with
   | none=>rfl
   | some u =>
    have e':b=a:=hA b (by rw [q];simp)
    subst e'
    rw [ha] at e;cases e
    have d':Data.seq vs.toArray _=Data.dict es ep:=d
    cases d'
  have nsK:∀ {b:Addr} {m:Str->Option Value},s₁.heap.Ns b m->(hidT s₁.heap H).Ns b m:=fun {b m} ⟨o,es,ep,e,d,r⟩=>⟨o,es,ep,base_of e (noA e d),d,r⟩
  have hKb:K.In (hidT s₁.heap H):=fun b o e=>base_of (KX b o e) (by
   cases q:H b with
   | none=>rfl
   | some u =>
    have e':b=a:=hA b (by rw [q];simp)
    subst e'
    rw [hK (by rw [q];simp)] at e;cases e)
  have hM:Mod K mg (hidT s₁.heap H):=⟨hKb,nsK hns,⟨mb,nsK hb,hbb⟩,let ⟨mc,h1,h2⟩:=hlim;⟨mc,nsK h1,h2⟩⟩
  have e0:Env0 P w K mg (hidT s₁.heap H) callerA [] s₁ H:=⟨rfl,hM,fun b o e=>zj3 e,Nat.le_of_eq (zhl _ _),trivial,fun b hb=>absurd (show b ∈ ([]:List Addr) from hb) (by simp),hok,.of_eq hg⟩
  refine codeAny_mono ((F _ hKb (nsK hns)).run callerA [] s₁ H ⟨[.ref a],[]⟩ [.ref a] [.ref a] _ _ hr e0 (hbind s₁ (.ref a)) (.cons rfl .nil) (hsp H hO hS)) fun r s' h=>?_
  cases r with
  | error e=>exact (hCX H e s' h).elim
  | ok fl =>
   cases fl with
   | next=>exact False.elim h
   | brk=>exact False.elim h
   | cont=>exact False.elim h
   | ret u =>
    obtain ⟨v,H',os,bare,un,hok',r',q⟩:=h
    have q':v=.bl true:=q
    subst q'
    obtain rfl:u=Value.bool true:=r'
    refine ⟨rfl,OldK.of_keep fun b o e=>?_,os,bare⟩
    cases q:H b with
    | none=>exact un.keep b o e q (by intro z;exact absurd (show b ∈ ([]:List Addr) from z) (by simp)) (by simp)
    | some u =>
     rcases hO b with z | ⟨ob,xs,z⟩
     ·rw [q] at z;cases z
     ·have z2:=un.frzs b ob _ z
      obtain ⟨e1,_⟩:=hok b _ z
      obtain ⟨e2,_⟩:=hok' b _ z2
      rw [e] at e1;cases e1
      exact e2
 cases hk:K.lookup a with
 | some o =>
  have e:=KX a o hk
  rw [ha] at e
  cases e
  refine core (fun _=>none) (fun _=>.inl rfl) (.inr ⟨_,vs.toArray,_,hk,rfl,rfl,rfl,by rw [List.size_toArray,lenV];exact hl,by simpa using rv⟩) (fun b u z=>by have z':(none:Option HO)=some u:=z;cases z') (fun b z=>absurd rfl z) fun z=>absurd rfl z
 | none =>
  refine core (fun b=>if b=a then some (.frz { cls:=.type "list", data:=.seq vs.toArray } (.lst (ns.map V.int))) else none) (fun b=>?_) (.inl (.inr ⟨{ cls:=.type "list", data:=.seq vs.toArray },if_pos rfl⟩)) (fun b u z=>?_) (fun b z=>?_) fun _=>hk
  ·by_cases hb:b=a
   ·exact .inr ⟨_,_,if_pos hb⟩
   ·exact .inl (if_neg hb)
  ·by_cases hb:b=a
   ·have z':=(if_pos hb).symm.trans z
    cases z'
    subst hb
    exact ⟨ha,by rw [List.length_map];exact hl,vs,_,rv,ha⟩
   ·have z':=(if_neg hb).symm.trans z
    cases z'
  ·by_cases hb:b=a
   ·exact hb
   ·exact absurd (if_neg hb) z
def zcc (s:Stmt):Arguments:=match s with
 | .FunctionDef _ a _ _ _ _ _ _ _ _=>a
 | _=>{ posonlyargs:=[],args:=[],vararg:=none,kwonlyargs:=[],kw_defaults:=[],kwarg:=none,defaults:=[] }
def zbn (s:Stmt):List Stmt:=match s with
 | .FunctionDef _ _ b _ _ _ _ _ _ _=>b
 | _=>[]
def zah (s:Stmt):Scope:=match s with
 | .FunctionDef _ _ _ _ _ _ sc _ _ _=>sc
 | _=>{ kind:=.function,names:=[],isGenerator:=false,isCoroutine:=false }
abbrev CX0:CXT:=fun _ _ _ _ _ _=>False
abbrev E0:XK:=fun _ _ _=>False
theorem zkl {X:Cx}:zhy CX0 X E0:=fun _ _ _ _ _ _ _ h=>h.elim
structure Fun (K:PySem.W.Frag) (x qual:Str) (st:Stmt) (f:Addr) (fd:FuncData):Prop where
 ex:∃ (oc:Value) (od:Option Addr) (kV doc pm:Value) (an:Option Addr) (cdv ct:Value) (osl:Array (Option Value)),
  fd=PySem.W.fnOf x qual (zcc st) (zbn st) (zah st) .none kV doc pm an cdv ct/\K.lookup f=some ⟨oc,od,.func fd,osl⟩/\PySem.W.codeIn K cdv qual=true
 kp:PySem.W.keepIn K (.ref f)=true
section
variable {P:Program} {w:World} {K:PySem.W.Frag} {mg:Str->Option Value} {base:Heap}
theorem Fun.ok {x qual:Str} {st:Stmt} {f:Addr} {fd:FuncData} {N ps:List Str} {k:Nat} {sp:Sp} (F:Fun K x qual st f fd) (S:zcv N ps (zah st)) (len:∀ vs H Q E,sp vs H Q E->vs.length=ps.length)
  (hbody:∀ (cdv:Value) (A:Around) (outer:List Env) (s:Shared) (H:Hp) (vs:List V) (Q:VK) (E:XK),Room k (A.deeper (envOfC qual (zah st) s.heap.objs.size f cdv))->sp vs H Q E ->
   ∃ t,PSs (cxOf CX0 P w K mg base N qual (zah st) f cdv A outer s H E).nox (zbn st) t/\t { nx:=fun _ H'=>Q .non H',rt:=Q } (zdq N vs) H):FnOk P w K mg base CX0 (k+1) f fd ps sp:=by
 obtain ⟨oc,od,kV,doc,pm,an,cdv,ct,osl,rfl,lk,hcd⟩:=F.ex
 refine zmC lk hcd S len fun A outer s H vs Q E hr hsp=>?_
 obtain ⟨t,h,q⟩:=hbody cdv A outer s H vs Q E hr hsp
 exact ⟨t,h.nox,q⟩
theorem Fun.binds {x qual:Str} {st:Stmt} {f:Addr} {fd:FuncData} {ps:List Str} (F:Fun K x qual st f fd)
  (h:∀ (kV doc pm:Value) (an:Option Addr) (cdv ct:Value) (us:List Value),us.length=ps.length->bindArgs (PySem.W.fnOf x qual (zcc st) (zbn st) (zah st) .none kV doc pm an cdv ct) ⟨us,[]⟩=pure (ps.zip us)):zd0 K fd ps []:=by
 obtain ⟨oc,od,kV,doc,pm,an,cdv,ct,osl,rfl,lk,hcd⟩:=F.ex
 exact .all (h kV doc pm an cdv ct)
end
section
variable {X:Cx}
end
def Same (H H':Hp):Prop:=∀ b o,H b=some o->H' b=some o
theorem Same.refl (H:Hp):Same H H:=fun _ _ h=>h
theorem Same.trans {H H1 H2:Hp} (a:Same H H1) (b:Same H1 H2):Same H H2:=fun c o h=>b c o (a c o h)
theorem Same.free {H H':Hp} (e:Same H H') {l:Addr} (h:H' l=Option.none):H l=Option.none:=by
 cases q:H l with
 | none=>rfl
 | some o =>
  rw [e l o q] at h
  cases h
theorem Same.seq {K:PySem.W.Frag} {H H':Hp} {a:Addr} {xs:List V} (e:Same H H') (h:SqL K H a xs):SqL K H' a xs:=by
 rcases h with (h | ⟨o,h⟩) | h
 ·exact .inl (.inl (e _ _ h))
 ·exact .inl (.inr ⟨o,e _ _ h⟩)
 ·exact .inr h
section
variable {X:Cx} {pins:List (Addr × Obj)} {σ : St} {H:Hp} {s:Shared} {h':Heap}
theorem Inv.turnedNew {t':Nat} {fp:List Addr} {p:Addr} {o:HO} (I:Inv X pins σ H s) (hf:∀ b ∈ fp,FpOk X pins H b)
  (k:∀ b o,b ∉ fp->s.heap.get? b=some o->h'.get? b=some o) (hp:s.heap.objs.size<=p) (new:zb1 X.prog X.w (upd H p o) h' p o) :
  Inv X pins σ (upd H p o) { s with heap:=h',toks:=t' }:=by
 have hn:H p=none:=I.hok.fresh hp
 have trk:∀ b u,H b=some u->b ∉ fp:=fun b u e z=>by rw [(hf b z).1] at e;cases e
 refine I.step (g':=s.gens) (d':=s.drawn) (ch:=fp) (fun b hb=>?_) (fun b o _ _ hc e _=>k b o hc e) (fun b o _ _ hc e _=>⟨o.slots,k b o hc e⟩)
  (fun b o _ e n=>by rw [zar (Nat.ne_of_lt (Nat.lt_of_lt_of_le (Heap.lt_size e) hp))];exact n) (fun b o hc e=>⟨o,k b o hc e⟩)
  (fun b xs e=>by rw [zar (zax e hn)];exact e) (fun b ob u e=>by rw [zar (zax e hn)];exact e) (fun b ps e=>⟨#[],by rw [zar (zax e hn),e];simp⟩)
  (fun m hm=>?_) (fun b u e=>?_) I.bare
 ·obtain ⟨_,f1,_,f3,f4,f5⟩:=hf b hb
  exact ⟨f3,f1,f4,f5⟩
 ·obtain ⟨ob,es,ep,ho,r⟩:=hm
  exact ⟨ob,es,ep,k _ ob (fun z=>(hf _ z).2.1 rfl) ho,r⟩
 ·by_cases hb:b=p
  ·subst hb;rw [zas] at e;cases e;exact new
  ·rw [zar hb] at e
   refine (I.hok b u e).stay (fun c v hc q=>k c v ?_ q) (fun c q=>by rw [zar (zax q hn)];exact q) fun c xs q=>by rw [zar (zax q hn)];exact q
   rcases hc with z | z
   ·rw [z];exact trk b u e
   ·exact trk c _ z
theorem Inv.turnedL {t':Nat} {fp:List Addr} (I:Inv X pins σ H s) (hf:∀ b ∈ fp,FpOk X pins H b)
  (k:∀ b o,b ∉ fp->s.heap.get? b=some o->h'.get? b=some o):Inv X pins σ H { s with heap:=h',toks:=t' }:=by
 have trk:∀ b u,H b=some u->b ∉ fp:=fun b u e z=>by rw [(hf b z).1] at e;cases e
 refine I.step (g':=s.gens) (d':=s.drawn) (ch:=fp) (fun b hb=>?_) (fun b o _ _ hc e _=>k b o hc e) (fun b o _ _ hc e _=>⟨o.slots,k b o hc e⟩)
  (fun _ _ _ _ n=>n) (fun b o hc e=>⟨o,k b o hc e⟩) (fun _ _ e=>e) (fun _ _ _ e=>e) (fun b ps e=>⟨#[],by rw [e];simp⟩) (fun m hm=>?_) (fun b u e=>?_) I.bare
 ·obtain ⟨_,f1,_,f3,f4,f5⟩:=hf b hb
  exact ⟨f3,f1,f4,f5⟩
 ·obtain ⟨ob,es,ep,ho,r⟩:=hm
  exact ⟨ob,es,ep,k _ ob (fun z=>(hf _ z).2.1 rfl) ho,r⟩
 ·refine (I.hok b u e).stay (fun c v hc q=>k c v ?_ q) (fun c q=>q) fun c xs q=>q
  rcases hc with z | z
  ·rw [z];exact trk b u e
  ·exact trk c _ z
end
def Ite (K:PySem.W.Frag) (a:Addr):It :=
 ⟨fun i H=>∃ xs x,SqL K H a xs/\xs[i]?=some x,
  fun i H v H'=>∃ p x,H p=none/\v=.ref p/\(∀ xs,SqL K H a xs->xs[i]?=some x)/\H'=upd H p (.tup [.int i,x]),
  fun i H=>∃ xs,SqL K H a xs/\xs.length<=i⟩
theorem zhE {P:Program} {w:World} {K:PySem.W.Frag} {elts:List Expr} {x1} {tp:Pos} (a e it:Addr) (hne:e ≠ it) :
  Turn P w K (.Tuple elts x1 tp) (Ite K a) [e,it] e (fun i h=>(∃ old,IsEnum h e it i old)/\h.IsListIter it a i) where
 mem:=by simp
 obj:=fun i h st b hb=>by
  obtain ⟨⟨old,he⟩,o,ho,c,d⟩:=st
  have hb':b=e ∨ b=it:=by simpa using hb
  rcases hb' with rfl | rfl
  ·exact ⟨_,he,fun v z=>by
    have z':Data.fields _=Data.cell v:=z
    cases z'⟩
  ·exact ⟨o,ho,fun v z=>by rw [d] at z;cases z⟩
 keep:=fun i h h' st k=>by
  obtain ⟨⟨old,he⟩,hi⟩:=st
  exact ⟨⟨old,k e (by simp) _ he⟩,hi.at fun o q=>k it (by simp) o q⟩
 item:=by
  intro X hP hw hK hc i pins s σ H E I hf st hg
  subst hP hw hK
  obtain ⟨⟨old,he⟩,hi⟩:=st
  obtain ⟨xs,x,hq,hx⟩:=hg
  obtain ⟨its,rv,p,hz⟩:=I.list hq
  obtain ⟨u,hu,ru⟩:=rv.get hx
  refine wpAny_pyNext_enum_item he hi p.isList (x:=u) (by simpa using hu) hne fun h1 out hi1 ht hsz kk=>?_
  refine ⟨_,rfl,wpAny_letOwnedTupleGo_enum out fun h2 he2 hs2=>?_⟩
  have hel:e < s.heap.objs.size:=Heap.lt_size he
  have hs2':Heap.SameBut e h1 h2:=hs2
  have ht2:h2.get? s.heap.objs.size=some { cls:=.type "tuple", data:=.seq #[.int i s.toks,u] }:=(hs2'.2 _ (Nat.ne_of_gt hel)).trans ht
  have kk2:∀ b o,b ∉ [e,it]->s.heap.get? b=some o->h2.get? b=some o:=fun b o hb q=>by
   have hbe:b ≠ e:=fun z=>hb (by simp [z])
   have hbi:b ≠ it:=fun z=>hb (by simp [z])
   exact (hs2'.2 b hbe).trans (kk b o hbe hbi q)
  have hn:H s.heap.objs.size=none:=I.hok.fresh (Nat.le_refl _)
  have I2:Inv X pins σ (upd H s.heap.objs.size (.tup [.int i,x])) { s with heap:=h2,toks:=s.toks+1 } :=
   I.turnedNew (fp:=[e,it]) hf kk2 (Nat.le_refl _) ⟨by show 2<=sizeLine;decide,[.int i s.toks,u],.cons ⟨_,rfl⟩ (.cons ru .nil),⟨_,ht2,rfl,_,rfl⟩⟩
  refine ⟨.ref s.heap.objs.size,_,I2,rfl,⟨_,x,hn,rfl,fun ys hy=>by rw [I.list_inj hy hq];exact hx,rfl⟩,⟨⟨u,?_⟩,?_⟩,fun b hb=>?_⟩
  ·have:=he2
   simpa using this
  ·have hi2:h2.IsListIter it a (i+1):=hi1.at fun o q=>(hs2'.2 it (Ne.symm hne)).trans q
   exact hi2
  ·have fr:=(hf b hb)
   have hlt:b < s.heap.objs.size:=by
    have hb':b=e ∨ b=it:=by simpa using hb
    rcases hb' with rfl | rfl
    ·exact hel
    ·obtain ⟨o,ho,_⟩:=hi;exact Heap.lt_size ho
   rw [zar (Nat.ne_of_lt hlt)]
   exact fr.1
 done:=by
  intro X hP hw hK hc i pins s σ H E I hf st hg
  subst hP hw hK
  obtain ⟨⟨old,he⟩,hi⟩:=st
  obtain ⟨xs,hq,hx⟩:=hg
  obtain ⟨its,rv,p,hz⟩:=I.list hq
  have hl:=rv.length
  exact wpAny_pyNext_enum_end (I.ok.hd hc) he hi p.isList (by simp;omega) fun h' eb=>⟨rfl,I.turnedL (t':=s.toks) hf fun b o hb q=>eb b o (fun z=>hb (by simp [z])) q⟩
 self:=fun _ _ _ _ _ st h=>by
  obtain ⟨⟨old,he⟩,_⟩:=st
  exact wpAny_pyIter_enum he h
section
variable {X:Cx}
def zmE (K:PySem.W.Frag) (ta:TA):TI:=fun σ H R=>ta σ H fun vs H1=>∃ a xs,vs=[.ref a]/\SqL K H1 a xs/\R (Ite K a) H1
theorem zkm {a:Expr} {ta:TA} {p pos:Pos} {elts:List Expr} {x1} {tp:Pos} (hg:Gl X "enumerate") (hm:X.mg "enumerate" = none) (ha:PA X [a] ta)
  (hs:starEach [a] X.env=[(false,eval a X.env)]:=by rfl):PI X (.Tuple elts x1 tp) (.Call (.Name "enumerate" p) [a] [] pos) (zmE X.K ta):=by
 intro pins s σ H R I h
 refine Call_ (zdn I hg hm boot_enumerate (PyProof.Rows.callWith_type1 (thn (ha pos pins s σ H _ I h) fun us s1 ⟨vs,H1,I1,r1,q1⟩=>?_) hs rfl))
 obtain ⟨l,xs,e,hq,q⟩:=q1
 subst e
 cases r1 with
 | cons r rr =>
  cases rr
  cases (show _=Value.ref l from r)
  obtain ⟨its,rv,pl,hz⟩:=I1.list hq
  refine call_enumerate_list pl.isList fun h' he hi hsz kk=>?_
  have I2:Inv X pins σ H1 { s1 with heap:=h' }:=I1.kept (t':=s1.toks) kk
  refine wpAny_pyIter_enum he ?_
  refine ⟨s1.heap.objs.size+1,[s1.heap.objs.size+1,s1.heap.objs.size],_,_,H1,rfl,I2,zhE l _ _ (Nat.succ_ne_self _),⟨⟨_,he⟩,hi⟩,fun b hb=>?_,q⟩
  have hb':b=s1.heap.objs.size+1 ∨ b=s1.heap.objs.size:=by simpa using hb
  rcases hb' with rfl | rfl
  ·exact I1.fpOk (Nat.le_succ _) (I1.hok.fresh (Nat.le_succ _))
  ·exact I1.fpOk (Nat.le_refl _) (I1.hok.fresh (Nat.le_refl _))
end
section
variable {κ : Type} [DecidableEq κ]
end
section
variable {P:Program} {w:World} {H:Hp} {h:Heap} {a:Addr}
end
section
variable {X:Cx} {pins:List (Addr × Obj)} {σ : St} {H:Hp} {s:Shared} {a:Addr} {y v:V} {u r:Value} {o:Option V} {A:Around} {E:Value->Shared->Prop}
end
section
variable {X:Cx} {pins:List (Addr × Obj)} {σ : St} {H:Hp} {s:Shared} {a:Addr} {kvs:List (Key × V)} {k:Key} {u:Value} {A:Around} {E:Value->Shared->Prop}
end
section
variable {X:Cx} {o i e value:Expr} {pos pos' tpos:Pos} {td ty tv:TE}
end
section
variable {X:Cx} {pos:Pos}
end
end L2
namespace L2
open PySem PySem.Spec
def Tail (bmB bm:List Value):Prop:=∀ (X:String) (b:Bool),bmB.contains (.type X)=b->bm.contains (.type X)=b
section
variable {prog:Program} {w:World} {A:Around} {E:Value->Shared->Prop} {h:Heap} {g:Array GenState} {d:Drawn} {t:Nat} {os:OsState} {R:Result->Shared->Prop}
variable {nm q:Str} {C N:Addr} {bs bm bmB:List Value} {hdct:Bool} {sn:List Str} {sub:List Value} {ab:Bool} {col:Option Bool} {dd:Option Addr} {k0 k1 k2 k3 k5:Option Value} {B newId initId:String}
end
def zbI (M:Model) (C:Addr) (name:Str) (r:Option Value) (h:Heap):Prop:=∀ (A:Around) (E:Value->Shared->Prop) (Q:Option Value->Shared->Prop) (h':Heap) (g:Array GenState) (d:Drawn) (t:Nat) (os:OsState),
 (∀ b o,h.get? b=some o->h'.get? b=some o)->Q r ⟨h',g,d,t,os⟩->wpAny M A (typeLookup (.ref C) name) Q E ⟨h',g,d,t,os⟩
theorem zbI.keeps {M:Model} {C:Addr} {name:Str} {r:Option Value} {h h':Heap} (x:zbI M C name r h) (k:∀ b o,h.get? b=some o->h'.get? b=some o):zbI M C name r h' :=
 fun A E Q h2 g d t os k2 q=>x A E Q h2 g d t os (fun b o e=>k2 b o (k b o e)) q
theorem zbI.at {M:Model} {A:Around} {E:Value->Shared->Prop} {Q:Option Value->Shared->Prop} {C:Addr} {name:Str} {r:Option Value} {h:Heap} {g:Array GenState} {d:Drawn} {t:Nat} {os:OsState} (x:zbI M C name r h) (q:Q r ⟨h,g,d,t,os⟩):wpAny M A (typeLookup (.ref C) name) Q E ⟨h,g,d,t,os⟩ :=
 x A E Q h g d t os (fun _ _ e=>e) q
section
variable {prog:Program} {w:World} {A:Around} {E:Value->Shared->Prop} {h:Heap} {g:Array GenState} {d:Drawn} {t:Nat} {os:OsState} {R:Result->Shared->Prop}
variable {nm q:Str} {C N x:Addr} {bs bm bmB:List Value} {hdct:Bool} {sn:List Str} {sub:List Value} {ab:Bool} {col:Option Bool} {dd:Option Addr} {k0 k1 k2 k3 k5:Option Value} {B newId sa owner:String} {mN mA:Str->Option Value} {name:Str} {v:Value}
theorem zhF {M:Model} {o:Obj} {nameV:Value} {Q:Unit->Shared->Prop} (T:Tail bmB bm) (hb:bmB.contains (.type "BaseException")=true) (hC:h.get? C=some (excClassObj nm q C N bs bm hdct sn sub ab col dd k0 k1 k2 k3 k5 newId))
  (hx:h.get? x=some o) (hc:o.cls=.ref C) (hq:Q () ⟨h,g,d,t,os⟩):wpAny M A (checkBuiltinCall "BaseException.__getattribute__" ⟨[.ref x,nameV],[]⟩) Q E ⟨h,g,d,t,os⟩:=by
 have hk:builtinKind "BaseException.__getattribute__" = some .slot:=by decide +kernel
 have hsplit:splitId "BaseException.__getattribute__" = some ("BaseException", "__getattribute__"):=by decide +kernel
 have hcB:(Value.ref C :: bm).contains (.type "BaseException")=true:=by rw [List.contains_cons,T _ _ hb];rfl
 have ha:=PySem.F.args_bexc_ga (.ref x) nameV
 simp only [checkBuiltinCall,hk,hsplit]
 refine wpAny_bind ?_
 ·unfold isInstance
  repeat (first | (with_reducible refine wpAny_loadPart_at hx ?_;rw [hc]) | (with_reducible refine wpAny_isSubtype_exc hC ?_;rw [hcB]) | wp_step)
  exact hq
end
section
variable {M:Model} {A:Around} {E:Value->Shared->Prop} {s:Shared} {base:Heap} {env:Env} {outer:List Env} {L e:Addr}
end
end L2
namespace L2
open PySem PySem.Spec PyProof.Rows PySem.Calls PyProof.V
def XO (fr:Bool) (e C:Addr) (dd:Option Addr):Heap->Prop:=fun h=>∃ vs sl,h.get? e=some { cls:=.ref C,dict:=dd,data:=.fields vs,slots:=sl }/\(fr=true->vs[1]?=some .none/\∃ t0,vs[0]?=some (.ref t0))
section
variable {X:Cx} {pins:List (Addr × Obj)} {σ : St} {H:Hp} {s:Shared} {e C:Addr} {dd:Option Addr} {h':Heap}
end
abbrev VB:List Value:=[.type "ValueError", .type "Exception", .type "BaseException", .type "object"]
structure XCls (M:Model) (base:Heap) (C:Addr) (bm:List Value) (fI:Addr):Prop where
 obj:∃ nm q N bs sn sub ab col dd k0 k1 k2 k3 k5,base.get? C=some (excClassObj nm q C N bs bm true sn sub ab col dd k0 k1 k2 k3 k5 "ValueError.__new__")
 tail:Tail VB bm
 init:zbI M C "__init__" (some (.ref fI)) base
 fn:∃ o,base.get? fI=some o/\o.cls=.type "function"
 sa:zbI M C "__setattr__" (some (.builtin "object.__setattr__")) base
 ga:zbI M C "__getattribute__" (some (.builtin "BaseException.__getattribute__")) base
 gh:zbI M C "__getattr__" none base
 cl:zbI M C "__class__" (some (.builtin "object.__class__")) base
 pass:∀ v,refuseLoop v "__setattr__" bm=pure ()
section
variable {X:Cx} {k:Nat} {f C:Addr} {fd:FuncData} {ps:List Str} {sp:Sp} {x:Str} {p pos cpos:Pos} {e:Expr} {es:List Expr} {t:TA} {bm:List Value}
end
section
variable {M:Model} {A:Around} {E:Value->Shared->Prop} {h:Heap} {g:Array GenState} {d:Drawn} {t:Nat} {os:OsState}
variable {nm q nm' q':Str} {C N D N' a:Addr} {bs bm bs' bm':List Value} {hdct hdct':Bool} {sn sn':List Str} {sub sub':List Value} {ab ab':Bool} {col col':Option Bool} {dd dd':Option Addr} {k0 k1 k2 k3 k5 j0 j1 j2 j3 j5:Option Value} {newId newId':String}
end
section
variable {X:Cx} {k:Nat} {f:Addr} {fd:FuncData} {ps:List Str} {sp:Sp} {x n:Str} {p pos np hpos:Pos} {e:Expr} {es:List Expr} {t:TA} {KX:V->St->Hp->Prop}
end
section
variable {prog:Program} {w:World} {A:Around} {E:Value->Shared->Prop} {h:Heap} {g:Array GenState} {d:Drawn} {t:Nat} {os:OsState}
variable {nm q:Str} {C N a:Addr} {bs bm bmB:List Value} {hdct:Bool} {sn:List Str} {sub:List Value} {ab:Bool} {col:Option Bool} {dd:Option Addr} {k0 k1 k2 k3 k5:Option Value} {B newId initId nid:String}
end
section
variable {X:Cx} {k:Nat} {f D:Addr} {fd:FuncData} {ps:List Str} {sp:Sp} {x:Str} {p pos apos:Pos} {e:Expr} {es:List Expr} {t:TA}
end
section
variable {X:Cx} {k:Nat} {f D:Addr} {fd:FuncData} {ps:List Str} {sp:Sp} {x m:Str} {p pos apos:Pos} {e:Expr} {es:List Expr} {t:TA}
end
def XD (dx:Addr) (fs:List (Str × V)):Heap->Prop:=fun h=>∃ mA,h.Ns1 dx mA/\h.ExactDictFk dx/\(∀ f,RelO (fs.lookup f) (mA f))/\PySem.Within mA (fs.map (·.1))
section
variable {X:Cx} {pins:List (Addr × Obj)} {σ : St} {H:Hp} {s:Shared} {a C dx:Addr} {h':Heap} {t':Nat}
end
section
variable {X:Cx} {o value:Expr} {f:Str} {pos pos':Pos} {ta tv:TE} {KC:Addr->List Value->Prop}
end
section
variable {X:Cx} {value:Expr} {te:TE} {pos:Pos}
end
section
variable {X:Cx} {e:Expr} {f:Str} {pos:Pos} {ta:TE} {KC:Addr->List Value->Prop}
end
end L2
namespace L2
open PySem PySem.Spec
section
variable {prog:Program} {w:World} {A:Around} {E:Value->Shared->Prop} {h:Heap} {g:Array GenState} {d:Drawn} {t:Nat} {os:OsState} {R:Result->Shared->Prop}
variable {nm q:Str} {C N a:Addr} {bs bm bmB:List Value} {hdct:Bool} {sn:List Str} {sub:List Value} {ab:Bool} {col:Option Bool} {dd:Option Addr} {k0 k1 k2 k3 k5:Option Value} {newId:String} {o:Obj}
theorem zgS (T:Tail bmB bm) (ho:bmB.contains (.type "object")=true) (hC:h.get? C=some (excClassObj nm q C N bs bm hdct sn sub ab col dd k0 k1 k2 k3 k5 newId)) (hx:h.get? a=some o) (hc:o.cls=.ref C) (hq:R (.ok (.ret (.ref C))) ⟨h,g,d,t,os⟩) :
  codeAny (model prog w) A (.call (.builtin "getset_descriptor.__get__") ⟨[.builtin "object.__class__", .ref a,.ref C],[]⟩) R ⟨h,g,d,t,os⟩:=by
 have hT5:(⟨h,g,d,t,os⟩:Shared).TypeIs (.builtin "object.__class__") "getset_descriptor" := PySem.F.typeOf_object_class
 have hcB:(Value.ref C :: bm).contains (.type (".".intercalate ("object.__class__".cutAt '.').dropLast))=true:=by
  rw [PySem.F.owner_object_class,List.contains_cons,T _ _ ho];rfl
 refine codeAny_call_builtin PySem.F.slot_gs_get.plain PySem.F.entry_gs_get (PySem.F.slot_gs_get.check _ _ _ _ _ _ _ _ hT5 (PySem.F.args_gs_get _ _ _) ?_)
 repeat (any_goals (first | assumption | (with_reducible refine wpAny_loadPart_at hx ?_;rw [hc]) | (with_reducible refine wpAny_isSubtype_exc hC ?_;rw [hcB]) | wp_step))
 refine ⟨Code.quiet_builtin _ (by decide +kernel),codeAny_builtin PySem.F.entry_object_class ?_⟩
 unfold Builtin.«object.__class__»
 repeat (any_goals (first | assumption | (with_reducible refine wpAny_loadPart_at hx ?_;rw [hc]) | wp_step))
theorem zfg {tk:Tok} {Q:PySem.Fin->Shared->Prop} (T:Tail bmB bm) (ho:bmB.contains (.type "object")=true) (hC:h.get? C=some (excClassObj nm q C N bs bm hdct sn sub ab col dd k0 k1 k2 k3 k5 newId)) (fc:zbI (model prog w) C "__class__" (some (.builtin "object.__class__")) h) (hx:h.get? a=some o) (hc:o.cls=.ref C) (hq:Q (.done (.ret (.ref C))) ⟨h,g,d,t,os⟩) :
  wpAny (model prog w) A (Builtin.«object.__getattribute__» ⟨[.ref a,.str "__class__" tk],[]⟩) Q E ⟨h,g,d,t,os⟩:=by
 have hT5:(⟨h,g,d,t,os⟩:Shared).TypeIs (.builtin "object.__class__") "getset_descriptor" := PySem.F.typeOf_object_class
 have f5:=PySem.F.typeOf_object_class
 have f6:=PySem.F.slot_gs_get.lookup
 have f7:=PySem.F.slot_gs_set.lookup
 repeat (any_goals (first | assumption | (with_reducible refine wpAny_loadPart_at hx ?_;rw [hc]) | with_reducible refine fc.at ?_ | wp_step))
 refine zgS T ho hC hx hc ?_
 repeat (any_goals (first | assumption | wp_step))
theorem zdt {Q:Option Value->Shared->Prop} (FB:ExcAttrFacts "ValueError") (T:Tail VB bm) (hC:h.get? C=some (excClassObj nm q C N bs bm hdct sn sub ab col dd k0 k1 k2 k3 k5 newId)) (fc:zbI (model prog w) C "__class__" (some (.builtin "object.__class__")) h)
  (fg:zbI (model prog w) C "__getattribute__" (some (.builtin "BaseException.__getattribute__")) h) (fa:zbI (model prog w) C "__getattr__" none h) (hx:h.get? a=some o) (hc:o.cls=.ref C) (hq:Q (some (.ref C)) ⟨h,g,d,t+1,os⟩) :
  wpAny (model prog w) A (getAttr? (.ref a) "__class__") Q E ⟨h,g,d,t,os⟩:=by
 have f3:=FB.ga.bind (.ref a)
 have hx0:(false && onTheHeap (Value.builtin "BaseException.__getattribute__"))=false:=rfl
 have hx2:(Value.builtin "BaseException.__getattribute__" == Value.builtin "object.__getattribute__")=false:=by decide +kernel
 have hx1:(onTheHeap (Value.ref C) && Value.builtin "BaseException.__getattribute__" == Value.builtin "object.__getattribute__")=false:=by rw [hx2];rfl
 unfold getAttr? getAttrBy?
 refine wpAny_bind (wpAny_mkText (wpAny_bind (wpAny_attempt ?_)))
 repeat (any_goals (first | assumption | (with_reducible refine wpAny_loadPart_at hx ?_;rw [hc]) | with_reducible refine fg.at ?_ | with_reducible refine fa.at ?_ | wp_step))
 refine codeAny_call_builtin FB.ga.plain PySem.F.entry_bexc_ga (zhF T rfl hC hx hc (zfg T rfl hC fc hx hc ?_))
 repeat (any_goals (first | assumption | wp_step))
end
end L2
namespace L2
open PySem PySem.Spec PyProof.Rows
section
variable {prog:Program} {w:World} {A:Around} {E:Value->Shared->Prop} {h:Heap} {g:Array GenState} {d:Drawn} {t:Nat} {os:OsState}
variable {nm q nm' q':Str} {C N D N' a:Addr} {bs bm bs' bm':List Value} {hdct hdct':Bool} {sn sn':List Str} {sub sub':List Value} {ab ab':Bool} {col col':Option Bool} {dd dd':Option Addr} {k0 k1 k2 k3 k5 j0 j1 j2 j3 j5:Option Value} {newId newId':String} {o:Obj} {b:Bool}
theorem zkn {Q:Value->Shared->Prop} (T:Tail VB bm) (hC:h.get? C=some (excClassObj nm q C N bs bm hdct sn sub ab col dd k0 k1 k2 k3 k5 newId)) (hD:h.get? D=some (excClassObj nm' q' D N' bs' bm' hdct' sn' sub' ab' col' dd' j0 j1 j2 j3 j5 newId'))
  (fc:zbI (model prog w) C "__class__" (some (.builtin "object.__class__")) h) (fg:zbI (model prog w) C "__getattribute__" (some (.builtin "BaseException.__getattribute__")) h) (fa:zbI (model prog w) C "__getattr__" none h)
  (hx:h.get? a=some o) (hc:o.cls=.ref C) (hb:(Value.ref C :: bm).contains (.ref D)=b) (hq:∀ tk,Q (.bool b) ⟨h,g,d,tk,os⟩):wpAny (model prog w) A (call (.builtin "isinstance") [.ref a,.ref D]) Q E ⟨h,g,d,t,os⟩:=by
 have hT:(⟨h,g,d,t,os⟩:Shared).TypeIs (.ref D) "type" := ⟨_,hD,rfl⟩
 have f2:=tc_sub
 refine call_isinstance_of ?_ (fun z=>nomatch z)
 unfold Builtin.«isinstance.nested»
 refine wpAny_bind ?_
 unfold typeOf
 refine wpAny_bind (wpAny_loadPart_at hx (wpAny_pure ?_))
 rw [hc]
 by_cases e:C=D
 ·subst e
  have hb1:b=true:=by rw [← hb];simp
  subst hb1
  rw [if_pos (by simp)]
  exact wpAny_bind (wpAny_rule (wpAny_pure (hq t)))
 ·rw [if_neg (by simp [e])]
  refine wpAny_bind (wpAny_bind (wpAny_loadPart_at hD (wpAny_pure ?_)))
  rw [if_pos (show (Value.type "type" == Value.type "type")=true by decide)]
  k_delta "plainIsInstance"
  unfold isType isInstance
  repeat (first | (with_reducible refine wpAny_loadPart_at hx ?_;rw [hc]) | with_reducible refine wpAny_loadPart_at hD ?_ | with_reducible refine wpAny_loadPart_at hC ?_ | (with_reducible refine wpAny_isSubtype_exc hC ?_;rw [hb]) | wp_step)
  cases b with
  | true=>wp_walk;exact hq t
  | false =>
   rw [if_neg (by decide)]
   refine wpAny_bind (zdt PySem.F.excAttr_ValueError T hC fc fg fa hx hc ?_)
   repeat (first | with_reducible refine wpAny_loadPart_at hC ?_ | (with_reducible refine wpAny_isSubtype_exc hC ?_;rw [hb]) | wp_step)
   exact hq _
theorem zlG {Q:Value->Shared->Prop} {X:String} (T:Tail VB bm) (hC:h.get? C=some (excClassObj nm q C N bs bm hdct sn sub ab col dd k0 k1 k2 k3 k5 newId)) (hX:typeOf (.type X)=pure (.type "type"))
  (fc:zbI (model prog w) C "__class__" (some (.builtin "object.__class__")) h) (fg:zbI (model prog w) C "__getattribute__" (some (.builtin "BaseException.__getattribute__")) h) (fa:zbI (model prog w) C "__getattr__" none h)
  (hx:h.get? a=some o) (hc:o.cls=.ref C) (hb:(Value.ref C :: bm).contains (.type X)=b) (hq:∀ tk,Q (.bool b) ⟨h,g,d,tk,os⟩):wpAny (model prog w) A (call (.builtin "isinstance") [.ref a,.type X]) Q E ⟨h,g,d,t,os⟩:=by
 refine call_isinstance_of ?_ (fun z=>nomatch z)
 unfold Builtin.«isinstance.nested»
 refine wpAny_bind ?_
 have ty:∀ {M:Model} {A:Around} {Q:Value->Shared->Prop} {E:Value->Shared->Prop},Q (.ref C) ⟨h,g,d,t,os⟩->wpAny M A (typeOf (.ref a)) Q E ⟨h,g,d,t,os⟩:=fun q=>by
  unfold typeOf
  refine wpAny_bind (wpAny_loadPart_at hx (wpAny_pure ?_))
  rw [hc];exact q
 refine ty ?_
 rw [if_neg (by simp)]
 refine wpAny_bind (wpAny_of_eq hX ?_)
 rw [if_pos (show (Value.type "type" == Value.type "type")=true by decide)]
 k_delta "plainIsInstance"
 unfold isType isInstance
 repeat (first | (with_reducible refine wpAny_loadPart_at hx ?_;rw [hc]) | with_reducible refine wpAny_loadPart_at hC ?_ | (with_reducible refine wpAny_isSubtype_exc hC ?_;rw [hb]) | wp_step)
 cases b with
 | true=>wp_walk;exact hq t
 | false =>
  rw [if_neg (by decide)]
  refine wpAny_bind (zdt PySem.F.excAttr_ValueError T hC fc fg fa hx hc ?_)
  repeat (first | with_reducible refine wpAny_loadPart_at hC ?_ | (with_reducible refine wpAny_isSubtype_exc hC ?_;rw [hb]) | wp_step)
  exact hq _
end
def rIsX (KC:Addr->List Value->Prop):List V->Hp->VK->Prop:=fun xs H Q=>∃ a C dd bm fr c b,xs=[.ref a,c]/\KC C bm/\H a=some (.ext (XO fr a C dd)) /\
 ((∃ D bm',c=.ref D/\KC D bm'/\(Value.ref C :: bm).contains (.ref D)=b) ∨ ∃ T,c=.ty T/\typeOf (.type T)=pure (.type "type")/\(Value.ref C :: bm).contains (.type T)=b)/\Q (.bl b) H
theorem zi5 {X:Cx} {KC:Addr->List Value->Prop} (hcls:∀ C bm,KC C bm->∃ fI,XCls (model X.prog X.w) X.base C bm fI):zcu X (.builtin "isinstance") (rIsX KC):=by
 rintro pins s σ H xs us Q I r ⟨a,C,dd,bm,fr,c,b,rfl,kc,hx,hD,q⟩
 cases r with
 | cons ra r =>
 cases r with
 | cons rc r =>
 cases r
 have ra':_=Value.ref a:=ra
 subst ra'
 obtain ⟨fI,XC⟩:=hcls C bm kc
 obtain ⟨nm,qn,N,bs,sn,sub,ab,col,dd1,k0,k1,k2,k3,k5,hC⟩:=XC.obj
 obtain ⟨⟨vs,sl,ga,_⟩,_,_⟩:=I.hok a _ hx
 obtain ⟨hp,g,d,tk,os⟩:=s
 rcases hD with ⟨D,bm',rfl,kd,hb⟩ | ⟨T,rfl,hT,hb⟩
 ·have rc':_=Value.ref D:=rc
  subst rc'
  obtain ⟨fI',XD'⟩:=hcls D bm' kd
  obtain ⟨nm',qn',N',bs',sn',sub',ab',col',dd2,j0,j1,j2,j3,j5,hD'⟩:=XD'.obj
  exact zkn XC.tail (I.bk _ _ hC) (I.bk _ _ hD') (XC.cl.keeps I.bk) (XC.ga.keeps I.bk) (XC.gh.keeps I.bk) ga rfl hb fun tk'=>⟨.bl b,H,I.tok tk',rfl,q⟩
 ·have rc':_=Value.type T:=rc
  subst rc'
  exact zlG XC.tail (I.bk _ _ hC) hT (XC.cl.keeps I.bk) (XC.ga.keeps I.bk) (XC.gh.keeps I.bk) ga rfl hb fun tk'=>⟨.bl b,H,I.tok tk',rfl,q⟩
def zmF (nm:Str):List Str:=if nm = "NoWishes" then ["part", "number"] else if nm = "NoAim" then ["part"] else if nm = "NoText" then ["row"] else []
def zlH (K:PySem.W.Frag) (nm:Str):Option Addr:=match PySem.W.nsIn K mainGlobals nm with | some (some (.ref C))=>some C | _=>none
def NmAt (K:PySem.W.Frag) (nm:Str) (C:Addr):Prop:=∃ o cd,K.lookup C=some o/\o.data=.cls cd/\cd.name=nm
structure ClsK (K:PySem.W.Frag) (nm:Str) (C:Addr) (bm:List Value):Prop where
 ad:zlH K nm=some C
 nmd:NmAt K nm C
 up:nm = "DealError" /\ bm=VB ∨ nm ≠ "DealError" /\ ∃ D,zlH K "DealError" = some D/\bm=.ref D :: VB/\NmAt K "DealError" D
 cls:∀ (M:Model) (h:Heap),K.In h->∃ fI,XCls M h C bm fI
 fld:∀ (M:Model) (h:Heap),K.In h->∀ f ∈ (["part", "number", "row"]:List Str),zbI M C f none h
def KC (K:PySem.W.Frag):Addr->List Value->Prop:=fun C bm=>∃ nm,ClsK K nm C bm
section
variable {K:PySem.W.Frag} {nm x:Str} {C D:Addr} {bm bm':List Value}
theorem ClsK.ty (c:ClsK K nm C bm) (T:String):(Value.ref C :: bm).contains (.type T)=VB.contains (.type T):=by
 rcases c.up with ⟨_,rfl⟩ | ⟨_,D',g,rfl,n⟩
 ·rfl
 ·rfl
end
section
variable {X:Cx} {e:Expr} {st:Stmt} {sts:List Stmt} {t:TE} {ts:TS}
theorem zmG (k:X.K.In X.base):∀ C bm,KC X.K C bm->∃ fI,XCls (model X.prog X.w) X.base C bm fI:=fun _ _ ⟨_,c⟩=>c.cls _ _ k
end
end L2
namespace DL
open PySem PySem.Spec L2
open PyProof.Rows hiding St
abbrev D:=PyData
abbrev XW:=V->St->Hp->Prop
abbrev KX0:XW:=fun _ _ _=>False
def XFs (G:Hp) (dd:Option Addr) (fs:List Str) (vs:List V):Prop:=match dd with
 | none=>fs=[]/\vs=[]
 | some dx=>fs.length=vs.length/\G dx=some (.ext (XD dx (fs.zip vs)))
theorem XFs.mono {G G1:Hp} {dd:Option Addr} {fs:List Str} {vs:List V} (e:Same G G1) (h:XFs G dd fs vs):XFs G1 dd fs vs:=by
 cases dd with
 | none=>exact h
 | some dx=>exact ⟨h.1,e _ _ h.2⟩
def kD:Key->D
 | .inl i=>.int i
 | .inr x=>.str x
def tkD (k:List Key):D:=.tuple (k.map kD)
def pdD (ks:List (List Key)) (ds:List D):List (D × D):=(.bool true,.none) :: (ks.map tkD).zip ds
mutual
inductive Rep (K:PySem.W.Frag) (G:Hp):V->D->Prop where
 | non:Rep K G .non .none
 | bl (b:Bool):Rep K G (.bl b) (.bool b)
 | int (i:Int):Rep K G (.int i) (.int i)
 | str (x:Str):Rep K G (.str x) (.str x)
 | lst {a:Addr} {vs:List V} {ds:List D} (h:SqL K G a vs) (r:Reps K G vs ds):Rep K G (.ref a) (.list ds)
 | tup {a:Addr} {vs:List V} {ds:List D} (h:SqT K G a vs) (r:Reps K G vs ds):Rep K G (.ref a) (.tuple ds)
 | dic {a:Addr} (h:G a=some (.dK [])):Rep K G (.ref a) (.dict [])
 | exc {a C:Addr} {dd:Option Addr} {bm:List Value} {nm:Str} {vs:List V} {ds:List D} (c:ClsK K nm C bm) (h:G a=some (.ext (XO false a C dd))) (hd:XFs G dd (zmF nm) vs) (r:Reps K G vs ds):Rep K G (.ref a) (.dict [(.none,.tuple [.str nm,.list ds])])
 | dct {a:Addr} {ks:List Key} {vs:List V} {ds:List D} {kvs:List (D × D)} (e:kvs=(ks.map kD).zip ds) (hne:ks ≠ []) (hl:ks.length=ds.length) (h:G a=some (.dK (ks.zip vs))) (r:Reps K G vs ds):Rep K G (.ref a) (.dict kvs)
 | dtt {a:Addr} {o:Obj} {ks:List (List Key)} {vs:List V} {ds:List D} {kvs:List (D × D)} (e:kvs=pdD ks ds) (hl:ks.length=ds.length) (h:G a=some (.frz o (.dT (ks.zip vs)))) (r:Reps K G vs ds):Rep K G (.ref a) (.dict kvs)
inductive Reps (K:PySem.W.Frag) (G:Hp):List V->List D->Prop where
 | nil:Reps K G [] []
 | cons {v:V} {d:D} {vs:List V} {ds:List D} (h:Rep K G v d) (t:Reps K G vs ds):Reps K G (v :: vs) (d :: ds)
end
variable {K:PySem.W.Frag} {B G0 G G1 G2 H H1 H2:Hp}
theorem zcY {a:Addr} {xs:List V} (e:Same G G1) (h:SqT K G a xs):SqT K G1 a xs:=by
 rcases h with (h | ⟨o,h⟩) | h
 ·exact .inl (.inl (e _ _ h))
 ·exact .inl (.inr ⟨o,e _ _ h⟩)
 ·exact .inr h
mutual
theorem Rep.mono (e:Same G G1):∀ {v:V} {d:D},Rep K G v d->Rep K G1 v d
 | _,_,.non=>.non
 | _,_,.bl b=>.bl b
 | _,_,.int i=>.int i
 | _,_,.str x=>.str x
 | _,_,.lst h r=>.lst (e.seq h) (Reps.mono e r)
 | _,_,.tup h r=>.tup (zcY e h) (Reps.mono e r)
 | _,_,.dic h=>.dic (e _ _ h)
 | _,_,.exc c h hd r=>.exc c (e _ _ h) (hd.mono e) (Reps.mono e r)
 | _,_,.dct z n l h r=>.dct z n l (e _ _ h) (Reps.mono e r)
 | _,_,.dtt z l h r=>.dtt z l (e _ _ h) (Reps.mono e r)
theorem Reps.mono (e:Same G G1):∀ {vs:List V} {ds:List D},Reps K G vs ds->Reps K G1 vs ds
 | _,_,.nil=>.nil
 | _,_,.cons h t=>.cons (Rep.mono e h) (Reps.mono e t)
end
section
variable {v:V} {vs ws:List V} {ds es:List D}
theorem Rep.bl_inv {b:Bool} (h:Rep K G v (.bool b)):v=.bl b:=by cases h;rfl
theorem Rep.int_inv {i:Int} (h:Rep K G v (.int i)):v=.int i:=by cases h;rfl
theorem Rep.str_inv {x:Str} (h:Rep K G v (.str x)):v=.str x:=by cases h;rfl
theorem Rep.lst_inv (h:Rep K G v (.list ds)):∃ a vs,v=.ref a/\SqL K G a vs/\Reps K G vs ds:=by
 cases h with
 | lst h r=>exact ⟨_,_,rfl,h,r⟩
theorem Rep.tup_inv (h:Rep K G v (.tuple ds)):∃ a vs,v=.ref a/\SqT K G a vs/\Reps K G vs ds:=by
 cases h with
 | tup h r=>exact ⟨_,_,rfl,h,r⟩
theorem Reps.length:∀ {vs:List V} {ds:List D},Reps K G vs ds->vs.length=ds.length
 | _,_,.nil=>rfl
 | _,_,.cons _ t=>by rw [List.length_cons,List.length_cons,Reps.length t]
theorem Reps.get:∀ {vs:List V} {ds:List D} {i:Nat} {d:D},Reps K G vs ds->ds[i]?=some d->∃ v,vs[i]?=some v/\Rep K G v d
 | _,_,_,_,.nil,e=>by simp at e
 | _,_,0,_,.cons h _,e=>by simp at e;subst e;exact ⟨_,rfl,h⟩
 | _,_,i+1,d,.cons _ t,e=>by
  obtain ⟨u,h1,h2⟩:=Reps.get (i:=i) (d:=d) t (by simpa using e)
  exact ⟨u,by simpa using h1,h2⟩
theorem Reps.append:∀ {vs ws:List V} {ds es:List D},Reps K G vs ds->Reps K G ws es->Reps K G (vs ++ ws) (ds ++ es)
 | _,_,_,_,.nil,s=>s
 | _,_,_,_,.cons r t,s=>.cons r (Reps.append t s)
theorem Reps.take:∀ {vs:List V} {ds:List D} (n:Nat),Reps K G vs ds->Reps K G (vs.take n) (ds.take n)
 | _,_,0,_=>by rw [List.take_zero,List.take_zero];exact .nil
 | _,_,_+1,.nil=>.nil
 | _,_,n+1,.cons r t=>.cons r (Reps.take n t)
theorem Reps.drop:∀ {vs:List V} {ds:List D} (n:Nat),Reps K G vs ds->Reps K G (vs.drop n) (ds.drop n)
 | _,_,0,r=>r
 | _,_,_+1,.nil=>.nil
 | _,_,n+1,.cons _ t=>Reps.drop n t
theorem Reps.reverse:∀ {vs:List V} {ds:List D},Reps K G vs ds->Reps K G vs.reverse ds.reverse
 | _,_,.nil=>.nil
 | _,_,.cons r t=>by rw [List.reverse_cons,List.reverse_cons];exact Reps.append (Reps.reverse t) (.cons r .nil)
theorem Reps.set {v:V} {d:D} (r:Rep K G v d):∀ {vs:List V} {ds:List D} (i:Nat),Reps K G vs ds->Reps K G (vs.set i v) (ds.set i d)
 | _,_,_,.nil=>.nil
 | _,_,0,.cons _ t=>.cons r t
 | _,_,i+1,.cons q t=>.cons q (Reps.set r i t)
theorem Reps.ints:∀ (ns:List Int),Reps K G (ns.map V.int) (ns.map PyData.int)
 | []=>.nil
 | n :: ns=>.cons (.int n) (Reps.ints ns)
end
inductive MO where
 | l (vs:List V) | k (kvs:List (Key × V)) | t (kvs:List (List Key × V))
def MO.ho:MO->HO
 | .l vs=>.lst vs
 | .k kvs=>.dK kvs
 | .t kvs=>.dT kvs
structure Ext (G H G' H':Hp):Prop where
 h:Same H H'
 g:Same G G'
 gh:Same G' H'
 np:∀ a (u:MO),H a=some u.ho->G a=none->G' a=none
theorem Ext.refl (e:Same G H):Ext G H G H:=⟨.refl _,.refl _,e,fun _ _ _ q=>q⟩
theorem zaz {p:Addr} {o:HO} (h:H p=none):Same H (upd H p o):=fun b u e=>by rw [zar (zax e h)];exact e
theorem Ext.new {p:Addr} {o:HO} (e:Same G H) (h:H p=none):Ext G H (upd G p o) (upd H p o):=by
 have hg:G p=none:=e.free h
 refine ⟨zaz h,zaz hg,fun b u q=>?_,fun a u q n=>?_⟩
 ·by_cases z:b=p
  ·subst z;rw [zas] at q ⊢;exact q
  ·rw [zar z] at q ⊢;exact e b u q
 ·rw [zar (zax q h)];exact n
theorem Ext.hid {p:Addr} {o:HO} (e:Same G H) (h:H p=none):Ext G H G (upd H p o) :=
 ⟨zaz h,.refl _,e.trans (zaz h),fun _ _ _ n=>n⟩
inductive Pat where
 | leaf | lst (p:Pat) | tup (ps:List Pat)
mutual
inductive RepO (K:PySem.W.Frag) (G H:Hp):Pat->V->D->List Addr->Prop where
 | leaf {v:V} {d:D} (r:Rep K G v d):RepO K G H .leaf v d []
 | lst {p:Pat} {a:Addr} {vs:List V} {ds:List D} {fp:List Addr} (h:H a=some (.lst vs)) (r:RepOl K G H p vs ds fp):RepO K G H (.lst p) (.ref a) (.list ds) (a :: fp)
 | tup {ps:List Pat} {a:Addr} {vs:List V} {ds:List D} {fp:List Addr} (h:H a=some (.tup vs)) (r:RepOs K G H ps vs ds fp):RepO K G H (.tup ps) (.ref a) (.tuple ds) fp
inductive RepOl (K:PySem.W.Frag) (G H:Hp):Pat->List V->List D->List Addr->Prop where
 | nil {p:Pat}:RepOl K G H p [] [] []
 | cons {p:Pat} {v:V} {d:D} {vs:List V} {ds:List D} {f1 f2:List Addr} (h:RepO K G H p v d f1) (t:RepOl K G H p vs ds f2):RepOl K G H p (v :: vs) (d :: ds) (f1 ++ f2)
inductive RepOs (K:PySem.W.Frag) (G H:Hp):List Pat->List V->List D->List Addr->Prop where
 | nil:RepOs K G H [] [] [] []
 | cons {p:Pat} {ps:List Pat} {v:V} {d:D} {vs:List V} {ds:List D} {f1 f2:List Addr} (h:RepO K G H p v d f1) (t:RepOs K G H ps vs ds f2):RepOs K G H (p :: ps) (v :: vs) (d :: ds) (f1 ++ f2)
end
mutual
theorem RepO.mono (sg:Same G G1) (sh:Same H H1):∀ {p:Pat} {v:V} {d:D} {fp:List Addr},RepO K G H p v d fp->RepO K G1 H1 p v d fp
 | _,_,_,_,.leaf r=>.leaf (r.mono sg)
 | _,_,_,_,.lst h r=>.lst (sh _ _ h) (RepOl.mono sg sh r)
 | _,_,_,_,.tup h r=>.tup (sh _ _ h) (RepOs.mono sg sh r)
theorem RepOl.mono (sg:Same G G1) (sh:Same H H1):∀ {p:Pat} {v:List V} {d:List D} {fp:List Addr},RepOl K G H p v d fp->RepOl K G1 H1 p v d fp
 | _,_,_,_,.nil=>.nil
 | _,_,_,_,.cons h t=>.cons (RepO.mono sg sh h) (RepOl.mono sg sh t)
theorem RepOs.mono (sg:Same G G1) (sh:Same H H1):∀ {p:List Pat} {v:List V} {d:List D} {fp:List Addr},RepOs K G H p v d fp->RepOs K G1 H1 p v d fp
 | _,_,_,_,.nil=>.nil
 | _,_,_,_,.cons h t=>.cons (RepO.mono sg sh h) (RepOs.mono sg sh t)
end
mutual
theorem RepO.upd {a:Addr} {o:HO} (nt:∀ vs,H a ≠ some (.tup vs)):∀ {p:Pat} {v:V} {d:D} {fp:List Addr},RepO K G H p v d fp->a ∉ fp->RepO K G (upd H a o) p v d fp
 | _,_,_,_,.leaf r,_=>.leaf r
 | _,_,_,_,.lst h r,n=>.lst (by rw [zar (fun z=>n (by rw [z];exact List.mem_cons_self))];exact h) (RepOl.upd nt r fun z=>n (List.mem_cons_of_mem _ z))
 | _,_,_,_,.tup h r,n=>.tup (by rw [zar (fun z=>by subst z;exact nt _ h)];exact h) (RepOs.upd nt r n)
theorem RepOl.upd {a:Addr} {o:HO} (nt:∀ vs,H a ≠ some (.tup vs)):∀ {p:Pat} {v:List V} {d:List D} {fp:List Addr},RepOl K G H p v d fp->a ∉ fp->RepOl K G (upd H a o) p v d fp
 | _,_,_,_,.nil,_=>.nil
 | _,_,_,_,.cons h t,n=>.cons (RepO.upd nt h fun z=>n (List.mem_append_left _ z)) (RepOl.upd nt t fun z=>n (List.mem_append_right _ z))
theorem RepOs.upd {a:Addr} {o:HO} (nt:∀ vs,H a ≠ some (.tup vs)):∀ {p:List Pat} {v:List V} {d:List D} {fp:List Addr},RepOs K G H p v d fp->a ∉ fp->RepOs K G (upd H a o) p v d fp
 | _,_,_,_,.nil,_=>.nil
 | _,_,_,_,.cons h t,n=>.cons (RepO.upd nt h fun z=>n (List.mem_append_left _ z)) (RepOs.upd nt t fun z=>n (List.mem_append_right _ z))
end
mutual
theorem RepO.rep (gh:Same G H):∀ {p:Pat} {v:V} {d:D} {fp:List Addr},RepO K G H p v d fp->Rep K H v d
 | _,_,_,_,.leaf r=>r.mono gh
 | _,_,_,_,.lst h r=>.lst (SqL.of h) (RepOl.rep gh r)
 | _,_,_,_,.tup h r=>.tup (SqT.of h) (RepOs.rep gh r)
theorem RepOl.rep (gh:Same G H):∀ {p:Pat} {v:List V} {d:List D} {fp:List Addr},RepOl K G H p v d fp->Reps K H v d
 | _,_,_,_,.nil=>.nil
 | _,_,_,_,.cons h t=>.cons (RepO.rep gh h) (RepOl.rep gh t)
theorem RepOs.rep (gh:Same G H):∀ {p:List Pat} {v:List V} {d:List D} {fp:List Addr},RepOs K G H p v d fp->Reps K H v d
 | _,_,_,_,.nil=>.nil
 | _,_,_,_,.cons h t=>.cons (RepO.rep gh h) (RepOs.rep gh t)
end
mutual
theorem RepO.isl:∀ {p:Pat} {v:V} {d:D} {fp:List Addr},RepO K G H p v d fp->∀ a ∈ fp,∃ vs,H a=some (.lst vs)
 | _,_,_,_,.leaf r,a,m=>by cases m
 | _,_,_,_,.lst h r,a,m=>by
  rcases List.mem_cons.mp m with rfl | m
  ·exact ⟨_,h⟩
  ·exact RepOl.isl r a m
 | _,_,_,_,.tup h r,a,m=>RepOs.isl r a m
theorem RepOl.isl:∀ {p:Pat} {v:List V} {d:List D} {fp:List Addr},RepOl K G H p v d fp->∀ a ∈ fp,∃ vs,H a=some (.lst vs)
 | _,_,_,_,.nil,a,m=>by cases m
 | _,_,_,_,.cons h t,a,m=>by
  rcases List.mem_append.mp m with m | m
  ·exact RepO.isl h a m
  ·exact RepOl.isl t a m
theorem RepOs.isl:∀ {p:List Pat} {v:List V} {d:List D} {fp:List Addr},RepOs K G H p v d fp->∀ a ∈ fp,∃ vs,H a=some (.lst vs)
 | _,_,_,_,.nil,a,m=>by cases m
 | _,_,_,_,.cons h t,a,m=>by
  rcases List.mem_append.mp m with m | m
  ·exact RepO.isl h a m
  ·exact RepOs.isl t a m
end
mutual
theorem RepO.uniq (sh:Same H H1):∀ {p:Pat} {v:V} {d d':D} {fp fp':List Addr},RepO K G H p v d fp->RepO K G1 H1 p v d' fp'->fp=fp'
 | _,_,_,_,_,_,.leaf _,.leaf _=>rfl
 | _,_,_,_,_,_,.lst h r,.lst h' r'=>by
  have e:=sh _ _ h
  rw [h'] at e
  cases e
  rw [RepOl.uniq sh r r']
 | _,_,_,_,_,_,.tup h r,.tup h' r'=>by
  have e:=sh _ _ h
  rw [h'] at e
  cases e
  exact RepOs.uniq sh r r'
theorem RepOl.uniq (sh:Same H H1):∀ {p:Pat} {v:List V} {d d':List D} {fp fp':List Addr},RepOl K G H p v d fp->RepOl K G1 H1 p v d' fp'->fp=fp'
 | _,_,_,_,_,_,.nil,.nil=>rfl
 | _,_,_,_,_,_,.cons h t,.cons h' t'=>by rw [RepO.uniq sh h h',RepOl.uniq sh t t']
theorem RepOs.uniq (sh:Same H H1):∀ {p:List Pat} {v:List V} {d d':List D} {fp fp':List Addr},RepOs K G H p v d fp->RepOs K G1 H1 p v d' fp'->fp=fp'
 | _,_,_,_,_,_,.nil,.nil=>rfl
 | _,_,_,_,_,_,.cons h t,.cons h' t'=>by rw [RepO.uniq sh h h',RepOs.uniq sh t t']
end
inductive Sl where
 | pub (d:D) | own (ds:List D) | deep (p:Pat) (d:D)
abbrev DEnv:=List (Option Sl)
def DpOk (K:PySem.W.Frag) (B G H:Hp) (σ : St) (ρ : DEnv):Prop:=∃ ω : Addr->Nat,
 (∀ (i:Nat) p d,ρ[i]?=some (some (.deep p d))->∃ v fp,σ[i]?=some (some v)/\RepO K G H p v d fp/\fp.Nodup/\∀ a ∈ fp,B a=none/\G a=none /\ ω a=i) /\
 (∀ (i:Nat) ds a,ρ[i]?=some (some (.own ds)) -> σ[i]?=some (some (.ref a)) -> ω a=i)
theorem DpOk.of {σ : St} {ρ : DEnv} (h1:∀ (i:Nat) p d,ρ[i]?=some (some (.deep p d))->False) (h2:∀ (i:Nat) ds,ρ[i]?=some (some (.own ds))->False):DpOk K B G H σ ρ :=
 ⟨fun _=>0,fun i p d q=>(h1 i p d q).elim,fun i ds a q=>(h2 i ds q).elim⟩
theorem DpOk.map {B1:Hp} {σ σ1:St} {ρ ρ1:DEnv} (k:DpOk K B G H σ ρ)
  (h1:∀ (i:Nat) p d,ρ1[i]?=some (some (.deep p d)) -> ρ[i]?=some (some (.deep p d)) /\ σ1[i]? = σ[i]?)
  (h2:∀ (i:Nat) ds,ρ1[i]?=some (some (.own ds))->∃ es,ρ[i]?=some (some (.own es)) /\ σ1[i]? = σ[i]?)
  (h3:∀ (i:Nat) p d v fp,ρ[i]?=some (some (.deep p d)) -> σ[i]?=some (some v)->RepO K G H p v d fp->(∀ a ∈ fp,B a=none/\G a=none)->(∀ (j:Nat) ds a,ρ[j]?=some (some (.own ds)) -> σ[j]?=some (some (.ref a))->a ∉ fp)->RepO K G1 H1 p v d fp/\∀ a ∈ fp,B1 a=none/\G1 a=none):DpOk K B1 G1 H1 σ1 ρ1:=by
 obtain ⟨ω,k1,k2⟩:=k
 refine ⟨ω,fun i p d q=>?_,fun i ds a q s=>?_⟩
 ·obtain ⟨q1,e1⟩:=h1 i p d q
  obtain ⟨v,fp,s,r,n,w⟩:=k1 i p d q1
  obtain ⟨r1,w1⟩:=h3 i p d v fp q1 s r (fun a m=>⟨(w a m).1,(w a m).2.1⟩) fun j ds a qj sj m=>by
   have z1:=k2 j ds a qj sj
   have z2:=(w a m).2.2
   rw [z1] at z2
   subst z2
   rw [q1] at qj
   cases qj
  exact ⟨v,fp,by rw [e1];exact s,r1,n,fun a m=>⟨(w1 a m).1,(w1 a m).2,(w a m).2.2⟩⟩
 ·obtain ⟨es,q1,e1⟩:=h2 i ds q
  rw [e1] at s
  exact k2 i es a q1 s
structure EOk (K:PySem.W.Frag) (B G0 G H:Hp) (σ : St) (ρ : DEnv):Prop where
 bh:Same B H
 gh:Same G H
 g0:Same G0 G
 np:∀ a (u:MO),B a=some u.ho->G0 a=none->G a=none
 len : ρ.length = σ.length
 pub:∀ (i:Nat) d,ρ[i]?=some (some (.pub d))->∃ v,σ[i]?=some (some v)/\Rep K G v d
 own:∀ (i:Nat) ds,ρ[i]?=some (some (.own ds))->∃ a vs,σ[i]?=some (some (.ref a))/\B a=none/\G a=none/\H a=some (.lst vs)/\Reps K G vs ds
 sep:∀ (i j:Nat) a ds es,ρ[i]?=some (some (.own ds)) -> ρ[j]?=some (some (.own es)) -> σ[i]?=some (some (.ref a)) -> σ[j]?=some (some (.ref a))->i=j
 dp:DpOk K B G H σ ρ
theorem EOk.ext {G' H':Hp} {σ : St} {ρ : DEnv} (k:EOk K B G0 G H σ ρ) (e:Ext G H G' H'):EOk K B G0 G' H' σ ρ where
 bh:=k.bh.trans e.h
 gh:=e.gh
 g0:=k.g0.trans e.g
 np:=fun a o q n=>e.np a o (k.bh a _ q) (k.np a o q n)
 len:=k.len
 pub:=fun i d q=>let ⟨v,h1,h2⟩:=k.pub i d q;⟨v,h1,h2.mono e.g⟩
 own:=fun i ds q=>let ⟨a,vs,h1,h2,h3,h4,h5⟩:=k.own i ds q;⟨a,vs,h1,h2,e.np a (.l _) h4 h3,e.h a _ h4,h5.mono e.g⟩
 sep:=k.sep
 dp:=k.dp.map (fun _ _ _ q=>⟨q,rfl⟩) (fun _ ds q=>⟨ds,q,rfl⟩) fun i p d v fp q s r w n=>⟨r.mono e.g e.h,fun a m=>let ⟨_,hl⟩:=r.isl a m;⟨(w a m).1,e.np a (.l _) hl (w a m).2⟩⟩
theorem EOk.publish {σ : St} {ρ : DEnv} {i:Nat} {ds:List D} (k:EOk K B G0 G H σ ρ) (h : ρ[i]?=some (some (.own ds))) :
  ∃ a G',σ[i]?=some (some (.ref a))/\Same G G'/\Rep K G' (.ref a) (.list ds)/\EOk K B G0 G' H σ (ρ.set i (some (.pub (.list ds)))):=by
 obtain ⟨a,vs,h1,h2,h3,h4,h5⟩:=k.own i ds h
 have sg:Same G (upd G a (.lst vs)):=zaz h3
 have hr:Rep K (upd G a (.lst vs)) (.ref a) (.list ds):=.lst (SqL.of zas) (h5.mono sg)
 refine ⟨a,upd G a (.lst vs),h1,sg,hr,⟨k.bh,fun b u q=>?_,k.g0.trans sg,fun b o q n=>?_,by rw [List.length_set];exact k.len,fun j d q=>?_,fun j es q=>?_,fun j l c es fs q1 q2 s1 s2=>?_,?_⟩⟩
 ·by_cases z:b=a
  ·subst z;rw [zas] at q;cases q;exact h4
  ·rw [zar z] at q;exact k.gh b u q
 ·have z:b ≠ a:=fun z=>by subst z;rw [h2] at q;cases q
  rw [zar z];exact k.np b o q n
 ·by_cases z:i=j
  ·subst z
   have hl:i < ρ.length:=(List.getElem?_eq_some_iff.mp h).1
   rw [List.getElem?_set_self hl] at q
   cases q
   exact ⟨.ref a,h1,hr⟩
  ·rw [List.getElem?_set_ne z] at q
   obtain ⟨v,g1,g2⟩:=k.pub j d q
   exact ⟨v,g1,g2.mono sg⟩
 ·by_cases z:i=j
  ·subst z
   have hl:i < ρ.length:=(List.getElem?_eq_some_iff.mp h).1
   rw [List.getElem?_set_self hl] at q
   cases q
  ·rw [List.getElem?_set_ne z] at q
   obtain ⟨b,ws,g1,g2,g3,g4,g5⟩:=k.own j es q
   have zb:b ≠ a:=fun e=>z (k.sep i j a ds es h q h1 (by rw [← e];exact g1))
   exact ⟨b,ws,g1,g2,by rw [zar zb];exact g3,g4,g5.mono sg⟩
 ·have nz:∀ {m:Nat} {ts:List D},(ρ.set i (some (Sl.pub (.list ds))))[m]?=some (some (.own ts)) -> ρ[m]?=some (some (.own ts)):=fun {m ts} q=>by
   by_cases z:i=m
   ·subst z
    have hl:i < ρ.length:=(List.getElem?_eq_some_iff.mp h).1
    rw [List.getElem?_set_self hl] at q
    cases q
   ·rw [List.getElem?_set_ne z] at q;exact q
  exact k.sep j l c es fs (nz q1) (nz q2) s1 s2
 ·have hl:i < ρ.length:=(List.getElem?_eq_some_iff.mp h).1
  have nz:∀ {m:Nat} {s:Sl},(ρ.set i (some (Sl.pub (.list ds))))[m]?=some (some s)->(∃ d,s=.pub d) ∨ ρ[m]?=some (some s):=fun {m s} q=>by
   by_cases z:i=m
   ·subst z
    rw [List.getElem?_set_self hl] at q
    cases q
    exact .inl ⟨_,rfl⟩
   ·rw [List.getElem?_set_ne z] at q;exact .inr q
  refine k.dp.map (fun m p d q=>?_) (fun m es q=>?_) fun m p d v fp q s r w n=>⟨r.mono sg (.refl _),fun b mb=>⟨(w b mb).1,?_⟩⟩
  ·rcases nz q with ⟨_,e⟩ | q
   ·cases e
   ·exact ⟨q,rfl⟩
  ·rcases nz q with ⟨_,e⟩ | q
   ·cases e
   ·exact ⟨es,q,rfl⟩
  ·rw [zar (fun z=>by subst z;exact n i ds b h h1 mb)];exact (w b mb).2
inductive Res (α : Type) where
 | ok (a : α) (ρ : DEnv) | bad
abbrev M (α : Type):=DEnv->Res α
def zae {α : Type} (a : α):M α:=fun ρ=>.ok a ρ
def mOpt {α : Type} (o:Option α):M α:=fun ρ=>match o with | some a=>.ok a ρ | none=>.bad
def zap {α β : Type} (f:M α) (k : α -> M β):M β:=fun ρ=>match f ρ with | .ok a ρ'=>k a ρ' | .bad=>.bad
section
variable (K:PySem.W.Frag) (B G0:Hp)
def aft {α γ : Type} (R:Hp -> γ -> α -> Prop) (r:Res α) (G:Hp) (σ : St) (Q : γ -> Hp->Prop):Prop :=
 match r with
 | .ok d ρ'=>∀ v G' H',EOk K B G0 G' H' σ ρ'->Same G G'->R G' v d->Q v H'
 | .bad=>False
def tM {α γ : Type} (R:Hp -> γ -> α -> Prop) (f:M α):St->Hp->(γ -> Hp->Prop)->Prop:=fun σ H Q =>
 ∃ G ρ,EOk K B G0 G H σ ρ /\ aft K B G0 R (f ρ) G σ Q
abbrev tD (f:M D):TE:=tM K B G0 (Rep K) f
abbrev tDs (f:M (List D)):TA:=tM K B G0 (Reps K) f
abbrev tBo (f:M Bool):TT:=tM K B G0 (fun _ b c=>b=c) f
abbrev tOi (f:M (Option Int)):TO:=tM K B G0 (fun _ b c=>b=c) f
end
section
variable {K:PySem.W.Frag} {B G0:Hp} {α β γ δ ε : Type} {R:Hp -> γ -> α -> Prop} {S:Hp -> δ -> β -> Prop} {T:Hp -> ε -> α -> Prop} {σ : St} {H:Hp}
theorem aft.mono {r:Res α} {G G':Hp} {Q : γ -> Hp->Prop} (e:Same G G') (h:aft K B G0 R r G σ Q):aft K B G0 R r G' σ Q:=by
 cases r with
 | ok d ρ=>exact fun v G2 H2 k s q=>h v G2 H2 k (e.trans s) q
 | bad=>exact h
theorem aft.done {d : α} {ρ : DEnv} {G G' H H':Hp} {v : γ} {Q : γ -> Hp->Prop} (h:aft K B G0 R (.ok d ρ) G σ Q) (k:EOk K B G0 G H σ ρ) (e:Ext G H G' H') (r:R G' v d):Q v H' :=
 h v G' H' (k.ext e) e.g r
theorem aft.now {d : α} {ρ : DEnv} {G H:Hp} {v : γ} {Q : γ -> Hp->Prop} (h:aft K B G0 R (.ok d ρ) G σ Q) (k:EOk K B G0 G H σ ρ) (r:R G v d):Q v H :=
 h v G H k (.refl _) r
theorem aft.opt {o:Option α} {ρ : DEnv} {G:Hp} {Q : γ -> Hp->Prop} (h:aft K B G0 R (mOpt o ρ) G σ Q):∃ d,o=some d/\aft K B G0 R (.ok d ρ) G σ Q:=by
 cases o with
 | none=>exact h.elim
 | some d=>exact ⟨d,rfl,h⟩
theorem tM.bind {f:M α} {k : α -> M β} {Q : δ -> Hp->Prop} (h:tM K B G0 S (zap f k) σ H Q) :
  tM K B G0 R f σ H (fun v H1=>∃ G ρ d,EOk K B G0 G H1 σ ρ /\ R G v d/\aft K B G0 S (k d ρ) G σ Q):=by
 obtain ⟨G,ρ,e,a⟩:=h
 refine ⟨G,ρ,e,?_⟩
 unfold zap at a
 cases q:f ρ with
 | bad=>rw [q] at a;exact a.elim
 | ok d ρ1 =>
  rw [q] at a
  exact fun v G' H' e' s r=>⟨G',ρ1,d,e',r,aft.mono s a⟩
theorem tM.bind2 {α' γ':Type} {R':Hp -> γ' -> α'->Prop} {f:M α} {g : α -> M α'} {k : α -> α'->M β} {Q : δ -> Hp->Prop} (mo:∀ G G' v d,Same G G'->R G v d->R G' v d)
  (h:tM K B G0 S (zap f fun x=>zap (g x) fun y=>k x y) σ H Q) :
  tM K B G0 R f σ H (fun v H1=>∃ x,tM K B G0 R' (g x) σ H1 fun u H2=>∃ G ρ y,EOk K B G0 G H2 σ ρ /\ R G v x/\R' G u y/\aft K B G0 S (k x y ρ) G σ Q):=by
 obtain ⟨G,ρ,e,a⟩:=tM.bind (R:=R) h
 refine ⟨G,ρ,e,?_⟩
 cases q:f ρ with
 | bad=>rw [q] at a;exact a.elim
 | ok d ρ1 =>
  rw [q] at a
  intro v G' H' e' s r
  obtain ⟨G2,ρ2,d2,e2,r2,a2⟩:=a v G' H' e' s r
  refine ⟨d2,G2,ρ2,e2,?_⟩
  unfold zap at a2
  cases q2:g d2 ρ2 with
  | bad=>rw [q2] at a2;exact a2.elim
  | ok d3 ρ3 =>
   rw [q2] at a2
   exact fun u G3 H3 e3 s3 r3=>⟨G3,ρ3,d3,e3,mo _ _ _ _ s3 r2,r3,aft.mono s3 a2⟩
end
theorem zhG {K:PySem.W.Frag} (G G':Hp) (v:V) (d:D) (e:Same G G') (r:Rep K G v d):Rep K G' v d:=r.mono e
theorem tM.two {K:PySem.W.Frag} {B G0:Hp} {β δ : Type} {S:Hp -> δ -> β -> Prop} {σ : St} {H:Hp} {f g:M D} {k:D->D->M β} {Q : δ -> Hp->Prop} {P:V->V->Hp->Prop}
  (h:tM K B G0 S (zap f fun x=>zap g fun y=>k x y) σ H Q)
  (i:∀ v u H2 G ρ x y,EOk K B G0 G H2 σ ρ -> Rep K G v x->Rep K G u y->aft K B G0 S (k x y ρ) G σ Q->P v u H2) :
  tD K B G0 f σ H (fun v H1=>tD K B G0 g σ H1 fun u H2=>P v u H2):=by
 obtain ⟨G,ρ,e,a⟩:=tM.bind2 (R:=Rep K) (R':=Rep K) zhG h
 refine ⟨G,ρ,e,?_⟩
 cases q:f ρ with
 | bad=>rw [q] at a;exact a.elim
 | ok d ρ1 =>
  rw [q] at a
  intro v G' H' e' s r
  obtain ⟨x,G2,ρ2,e2,a2⟩:=a v G' H' e' s r
  refine ⟨G2,ρ2,e2,?_⟩
  cases q2:g ρ2 with
  | bad=>rw [q2] at a2;exact a2.elim
  | ok d3 ρ3 =>
   rw [q2] at a2
   intro u G3 H3 e3 s3 r3
   obtain ⟨G4,ρ4,y,e4,r4,r5,a5⟩:=a2 u G3 H3 e3 s3 r3
   exact i v u H3 G4 ρ4 x y e4 r4 r5 a5
theorem tM.one {K:PySem.W.Frag} {B G0:Hp} {α β γ δ : Type} {R:Hp -> γ -> α -> Prop} {S:Hp -> δ -> β -> Prop} {σ : St} {H:Hp} {f:M α} {k : α -> M β} {Q : δ -> Hp->Prop} {P : γ -> Hp->Prop}
  (h:tM K B G0 S (zap f k) σ H Q) (i:∀ v H2 G ρ x,EOk K B G0 G H2 σ ρ -> R G v x->aft K B G0 S (k x ρ) G σ Q->P v H2):tM K B G0 R f σ H P:=by
 obtain ⟨G,ρ,e,a⟩:=tM.bind (R:=R) h
 refine ⟨G,ρ,e,?_⟩
 cases q:f ρ with
 | bad=>rw [q] at a;exact a.elim
 | ok d ρ1 =>
  rw [q] at a
  intro v G' H' e' s r
  obtain ⟨G2,ρ2,d2,e2,r2,a2⟩:=a v G' H' e' s r
  exact i v H' G2 ρ2 d2 e2 r2 a2
section
variable {X:Cx} {B G0:Hp} {e a b:Expr} {pos:Pos}
theorem peof {t t':TE} (h:PE X e t) (i:∀ σ H Q,t' σ H Q->t σ H Q):PE X e t':=fun pins s σ H Q I q=>h pins s σ H Q I (i σ H Q q)
theorem ptof {t t':TT} (h:PT X e t) (i:∀ σ H Q,t' σ H Q->t σ H Q):PT X e t':=fun pins s σ H Q I q=>h pins s σ H Q I (i σ H Q q)
theorem paof {es:List Expr} {t t':TA} (h:PA X es t) (i:∀ σ H Q,t' σ H Q->t σ H Q):PA X es t':=fun ps pins s σ H Q I q=>h ps pins s σ H Q I (i σ H Q q)
theorem poof {eo:Option Expr} {t t':TO} (h:PO X eo t) (i:∀ σ H Q,t' σ H Q->t σ H Q):PO X eo t':=fun pins s σ H Q I q=>h pins s σ H Q I (i σ H Q q)
theorem psof {st:Stmt} {t t':TS} (h:PS X st t) (i:∀ D σ H,t' D σ H->t D σ H):PS X st t':=fun pins s σ H D I q=>h pins s σ H D I (i D σ H q)
theorem zgT {st:List Stmt} {t t':TS} (h:PSs X st t) (i:∀ D σ H,t' D σ H->t D σ H):PSs X st t':=fun pins s σ H D I q=>h pins s σ H D I (i D σ H q)
def dVar (i:Nat):M D:=fun ρ=>match ρ[i]? with
 | some (some (.pub d))=>.ok d ρ
 | some (some (.own ds))=>.ok (.list ds) (ρ.set i (some (.pub (.list ds))))
 | _=>.bad
theorem zad {i:Nat} (h:PE X e (tVar i)):PE X e (tD X.K B G0 (dVar i)):=peof h fun σ H Q ⟨G,ρ,k,a⟩=>by
 unfold dVar at a
 cases q : ρ[i]? with
 | none=>rw [q] at a;exact a.elim
 | some o =>
  cases o with
  | none=>rw [q] at a;exact a.elim
  | some sl =>
   cases sl with
   | deep _ _=>rw [q] at a;exact a.elim
   | pub d =>
    rw [q] at a
    obtain ⟨v,h1,h2⟩:=k.pub i d q
    exact ⟨v,h1,a.now k h2⟩
   | own ds =>
    rw [q] at a
    obtain ⟨ad,G',h1,h2,h3,h4⟩:=k.publish q
    exact ⟨.ref ad,h1,a (.ref ad) G' H h4 h2 h3⟩
theorem zjR {v:V} {d:D} (h:PE X e (tC v)) (r:∀ G,Rep X.K G v d):PE X e (tD X.K B G0 (zae d)):=peof h fun σ H Q ⟨G,ρ,k,a⟩=>a.now k (r G)
theorem zal {i:Int} {j}:PE X (.Constant (.int i) j pos) (tD X.K B G0 (zae (.int i))):=zjR zjL fun _=>.int i
theorem zbo {i:Bool} {j}:PE X (.Constant (.bool i) j pos) (tD X.K B G0 (zae (.bool i))):=zjR zmj fun _=>.bl i
def dBin {β : Type} (op:D->D->Option β) (f g:M D):M β:=zap f fun x=>zap g fun y=>mOpt (op x y)
def OpD (X:Cx) (f:Value->Value->Sem Value) (op:D->D->Option D):Prop :=
 ∃ r:R2,OpR X f r/\∀ v u G H x y d Q,Same G H->Rep X.K G v x->Rep X.K G u y->op x y=some d->(∀ w G' H',Ext G H G' H'->Rep X.K G' w d->Q w H')->r v u H Q
theorem zaP {op:Operator} {p:D->D->Option D} {f g:M D} (o:OpD X (binaryOp op) p) (ha:PE X a (tD X.K B G0 f)) (hb:PE X b (tD X.K B G0 g)):PE X (.BinOp a op b pos) (tD X.K B G0 (dBin p f g)):=by
 obtain ⟨r,h,i⟩:=o
 refine peof (zmt h ha hb) fun σ H Q q=>?_
 refine tM.two q fun v u H2 G ρ x y k rx ry a=>?_
 obtain ⟨d,e,a⟩:=a.opt
 exact i v u G H2 x y d Q k.gh rx ry e fun w G' H' ex rw=>a.done k ex rw
theorem OpD.or {f:Value->Value->Sem Value} {p q:D->D->Option D} (h:OpD X f p) (h':OpD X f q):OpD X f (fun x y=>(p x y).orElse fun _=>q x y):=by
 obtain ⟨r,h1,i1⟩:=h
 obtain ⟨r',h2,i2⟩:=h'
 refine ⟨_,h1.or h2,fun v u G H x y d Q s rx ry e k=>?_⟩
 dsimp only at e
 cases z:p x y with
 | some d' =>
  rw [z] at e
  have e':d'=d:=Option.some.inj e
  subst e'
  exact .inl (i1 v u G H x y d' Q s rx ry z k)
 | none =>
  rw [z] at e
  exact .inr (i2 v u G H x y d Q s rx ry e k)
def oII (g:Int->Int->Option D):D->D->Option D
 | .int i,.int j=>g i j
 | _,_=>none
theorem zhH {g:Int->Int->Option D} {x y d:D} (e:oII g x y=some d):∃ i j,x=.int i/\y=.int j/\g i j=some d:=by
 unfold oII at e
 split at e
 ·exact ⟨_,_,rfl,rfl,e⟩
 ·cases e
theorem OpD.int {f:Value->Value->Sem Value} {C:Int->Int->Prop} {g:Int->Int->V} {p:Int->Int->Option D} (h:OpR X f (rI C g)) (i:∀ i j d,p i j=some d->C i j/\∀ G,Rep X.K G (g i j) d):OpD X f (oII p):=by
 refine ⟨_,h,fun v u G H x y d Q s rx ry e k=>?_⟩
 obtain ⟨a,b,rfl,rfl,e⟩:=zhH e
 obtain ⟨c,r⟩:=i a b d e
 exact ⟨a,b,rx.int_inv,ry.int_inv,c,k _ G H (.refl s) (r G)⟩
theorem OpD.int0 {f:Value->Value->Sem Value} {g:Int->Int->V} {p:Int->Int->D} (h:OpR X f (rI0 g)) (i:∀ i j G,Rep X.K G (g i j) (p i j)):OpD X f (oII fun i j=>some (p i j)):=by
 refine ⟨_,h,fun v u G H x y d Q s rx ry e k=>?_⟩
 obtain ⟨a,b,rfl,rfl,e⟩:=zhH e
 cases e
 exact ⟨a,b,rx.int_inv,ry.int_inv,k _ G H (.refl s) (i a b G)⟩
end
section
variable {X:Cx} {B G0:Hp} {e a b c:Expr} {pos:Pos}
theorem zlI:OpD X (binaryOp .Add) (oII fun i j=>some (.int (i+j))):=.int0 zlt fun _ _ _=>.int _
theorem zlJ:OpD X (binaryOp .Sub) (oII fun i j=>some (.int (i - j))):=.int0 zlu fun _ _ _=>.int _
def gMul (i j:Int):Option D:=if (-(2 ^ 64) < i/\i < 2 ^ 64) ∨ (-(2 ^ 64) < j/\j < 2 ^ 64) then some (.int (i * j)) else none
theorem zko:OpD X (binaryOp .Mult) (oII gMul):=.int zlv fun i j d h=>by
 unfold gMul at h
 split at h
 ·rename_i c
  cases h
  exact ⟨c,fun _=>.int _⟩
 ·cases h
def gMod (i j:Int):Option D:=if 0 < j then some (.int (i % j)) else none
theorem zlK:OpD X (binaryOp .Mod) (oII gMod):=.int zlw fun i j d h=>by
 unfold gMod at h
 split at h
 ·rename_i c
  cases h
  exact ⟨c,fun _=>.int _⟩
 ·cases h
theorem zi6:OpR X (binaryOp .FloorDiv) (rI (fun i j=>0 < j/\j < 2 ^ 64) fun i j=>.int (i / j)):=opI fun i j _ _ _ _ _ hc q=>by
 have h1:(0:Int) < j:=hc.1
 have h2:j < 2 ^ 64:=hc.2
 refine floordiv_int (by omega) (by rw [Int.fdiv_eq_ediv_of_nonneg i (by omega)];exact q) (.inl (PyProof.noPylong_of_log2 ?_))
 have h0:j.natAbs ≠ 0:=by omega
 have:j.natAbs.log2 < 64:=(Nat.log2_lt h0).mpr (by omega)
 omega
def gDiv (i j:Int):Option D:=if 0 < j/\j < 2 ^ 64 then some (.int (i / j)) else none
theorem zlL:OpD X (binaryOp .FloorDiv) (oII gDiv):=.int zi6 fun i j d h=>by
 unfold gDiv at h
 split at h
 ·rename_i c
  cases h
  exact ⟨c,fun _=>.int _⟩
 ·cases h
def gPow (i j:Int):Option D:=if 0<=j/\j<=1000000/\i.natAbs < 2 ^ 64 then some (.int (i ^ j.toNat)) else none
theorem zlM:OpD X (binaryOp .Pow) (oII gPow):=.int zlx fun i j d h=>by
 unfold gPow at h
 split at h
 ·rename_i c
  cases h
  exact ⟨c,fun _=>.int _⟩
 ·cases h
theorem lim:(1000000:Nat)<=sizeLine:=by decide
def zi7:D->D->Option D
 | .str x,.str y=>if x.length+y.length<=1000000 then some (.str (x ++ y)) else none
 | _,_=>none
theorem zkp:OpD X (binaryOp .Add) zi7:=by
 refine ⟨_,zgQ,fun v u G H x y d Q s rx ry e k=>?_⟩
 unfold zi7 at e
 split at e
 ·split at e
  ·rename_i c
   cases e
   exact ⟨_,_,rx.str_inv,ry.str_inv,Nat.le_trans c lim,k _ G H (.refl s) (.str _)⟩
  ·cases e
 ·cases e
def zmH (K:PySem.W.Frag):R2:=fun x y H Q=>∃ l b xs zs,x=.ref l/\y=.ref b/\SqL K H l xs/\SqL K H b zs/\xs.length+zs.length<=sizeLine/\∀ p,H p=none->Q (.ref p) (upd H p (.lst (xs ++ zs)))
theorem zkq:OpR X (binaryOp .Add) (zmH X.K):=by
 intro pins s σ H x y v u Q I rx ry h
 obtain ⟨l,b,xs,zs,rfl,rfl,hH,hB,hz,q⟩:=h
 cases rx
 cases ry
 obtain ⟨its,r,⟨⟨c1,d1,t1,s1⟩,n1,e1,ec1,ed1,et1⟩,z1⟩:=I.list hH
 obtain ⟨its2,r2,⟨⟨c2,d2,t2,s2⟩,n2,e2,ec2,ed2,et2⟩,z2⟩:=I.list hB
 simp only at ec1 ed1 et1 ec2 ed2 et2
 subst ec1 ed1 et1 ec2 ed2 et2
 have hl:=r.length
 have hl2:=r2.length
 refine concat_meets ⟨_,e1,rfl⟩ ⟨_,e2,rfl⟩ noFill_list_add seq_list_add PySem.F.slot_list_add PySem.F.entry_list_add (PySem.F.args_list_add_2 _ _) (list_addW l b its.toArray its2.toArray n1 n2 none none s1 s2 (by rw [List.size_toArray,List.size_toArray];omega)) ⟨e1,e2,?_⟩
 have ea:its.toArray ++ its2.toArray=(its ++ its2).toArray:=by simp
 rw [ea]
 exact ⟨.ref _,_,I.lnew (t':=s.toks) (r.append r2) (by rw [List.length_append];omega),rfl,q _ I.fresh⟩
theorem zmI (a:Int) (t:Tok) (l:Addr) (items:Array Value) (n:Nat) (sl:Array (Option Value)) :
  Meets (Builtin.«int.__rmul__» ⟨[.int a t,.ref l],[]⟩) (fun _ R s=>s.heap.get? l=some { cls:=.type "list", dict:=none,data:=.seq items n,slots:=sl }/\R (.ok (.ret Value.notImplemented)) s) :=
 .of_wp fun prog w A R s h=>by obtain ⟨hp,g,d,tk,os⟩:=s;obtain ⟨hl,h⟩:=h;wp_walk;exact ⟨_,rfl,h⟩
theorem mulW (l:Addr) (items:Array Value) (n:Nat) (x:Int) (u:Tok) (sl:Array (Option Value)) (hc0 : ¬(!Builtin.List.listFitsIndex x)=true) (hc1 : ¬items.size * x.toNat > (2 ^ 63 - 1) / 8) (hc2 : ¬Builtin.List.listTooLong (items.size * x.toNat)=true) :
  Meets (Builtin.«list.__mul__» ⟨[.ref l,.int x u],[]⟩) (fun _ R s=>s.heap.get? l=some { cls:=.type "list", dict:=none,data:=.seq items n,slots:=sl }/\R (.ok (.ret (Value.ref s.heap.objs.size))) { s with heap:=s.heap.push { cls:=Value.type "list", data:=Data.seq (List.foldl (fun x1 x2=>x1 ++ x2) #[] (List.replicate (if items.isEmpty=true then 0 else x.toNat) items)) },toks:=s.toks }) :=
 .of_wp fun prog w A R s h=>by
  obtain ⟨hp,g,d,tk,os⟩:=s;obtain ⟨hl,h⟩:=h
  have hsz:=AutoListH.joined_fits hc2
  wp_walk;refine wpAny_ite_false (decide_eq_false (Nat.not_lt.mpr hsz)) ?_;wp_walk;exact ⟨_,rfl,h⟩
def zmJ (K:PySem.W.Frag):R2:=fun x y H Q=>∃ l k xs,x=.ref l/\y=.int k/\SqL K H l xs /\ -(2 ^ 63)<=k/\k < 2 ^ 63/\xs.length * k.toNat<=sizeLine /\
 ∀ p,H p=none->Q (.ref p) (upd H p (.lst (List.replicate k.toNat xs).flatten))
theorem zkr:OpR X (binaryOp .Mult) (zmJ X.K):=by
 intro pins s σ H x y v u Q I rx ry h
 obtain ⟨l,k,xs,rfl,rfl,hH,h1,h2,hz,q⟩:=h
 cases rx
 obtain ⟨t,rfl⟩:=ry
 obtain ⟨its,r,⟨⟨c1,d1,t1,sl⟩,n,e,ec1,ed1,et1⟩,z⟩:=I.list hH
 simp only at ec1 ed1 et1
 subst ec1 ed1 et1
 have hl:=r.length
 have hlen:its.toArray.size * k.toNat<=sizeLine:=by rw [List.size_toArray,← hl];exact hz
 have hcap : ¬ its.toArray.size * k.toNat > (2 ^ 63 - 1) / 8:=by
  have:(sizeLine:Nat)<=(2 ^ 63 - 1) / 8:=by decide
  omega
 have hfit : ¬ (!Builtin.List.listFitsIndex k)=true:=by
  rw [fitsIndex_both h1 h2]
  exact Bool.false_ne_true
 have hlong : ¬ Builtin.List.listTooLong (its.toArray.size * k.toNat)=true:=by
  rw [zi1 hlen]
  exact Bool.false_ne_true
 have hnew:List.foldl (fun x1 x2=>x1 ++ x2) #[] (List.replicate (if its.toArray.isEmpty=true then 0 else k.toNat) its.toArray)=(List.replicate k.toNat its).flatten.toArray:=by
  have f0:∀ m:Nat,List.foldl (fun x1 x2=>x1 ++ x2) #[] (List.replicate m its.toArray)=(List.replicate m its).flatten.toArray:=fun m=>by
   have:=zff its m []
   rw [List.nil_append] at this
   exact this
  rw [f0]
  cases its with
  | nil=>simp
  | cons a r'=>rw [if_neg (by simp)]
 refine wpAny_binaryOp_repeat_ref (T := "list") (U := "int") (by decide) ⟨_,e,rfl⟩ (fun s'=>typeIs_int s' k t) noFill_list_mul F.fills_int_mul F.slot_int_rmul repeat_list F.slot_int_index.lookup
  (call_meets F.slot_int_rmul (typeIs_int s k t) F.entry_int_rmul (F.args_int_rmul_2 _ _) (zmI k t l its.toArray n sl)
   ⟨e,rfl,⟨_,e,rfl⟩,call_meets F.slot_list_mul ⟨_,e,rfl⟩ F.entry_list_mul (F.args_list_mul_2 _ _) (mulW l its.toArray n k t sl hfit hcap hlong) ⟨e,?_⟩⟩)
 rw [hnew]
 exact ⟨.ref _,_,I.lnew (t':=s.toks) (r.rep k.toNat) (by rw [zkk,Nat.mul_comm];exact hz),rfl,q _ I.fresh⟩
def zi8:D->D->Option D
 | .list x,.list y=>if x.length+y.length<=1000000 then some (.list (x ++ y)) else none
 | _,_=>none
theorem zks:OpD X (binaryOp .Add) zi8:=by
 refine ⟨_,zkq,fun v u G H x y d Q s rx ry e k=>?_⟩
 unfold zi8 at e
 split at e
 ·split at e
  ·rename_i c
   cases e
   obtain ⟨l,vs,rfl,h1,r1⟩:=rx.lst_inv
   obtain ⟨b,ws,rfl,h2,r2⟩:=ry.lst_inv
   refine ⟨l,b,vs,ws,rfl,rfl,s.seq h1,s.seq h2,by rw [r1.length,r2.length];exact Nat.le_trans c lim,fun p hp=>k _ _ _ (Ext.new s hp) ?_⟩
   exact .lst (SqL.of zas) ((r1.append r2).mono (zaz (s.free hp)))
  ·cases e
 ·cases e
theorem Reps.rep {K:PySem.W.Frag} {G:Hp} {vs:List V} {ds:List D} (r:Reps K G vs ds):∀ n:Nat,Reps K G (List.replicate n vs).flatten (List.replicate n ds).flatten
 | 0=>.nil
 | n+1=>by rw [List.replicate_succ,List.replicate_succ,List.flatten_cons,List.flatten_cons];exact r.append (r.rep n)
def zi9:D->D->Option D
 | .list x,.int k=>if -1000000<=k/\k<=1000000/\x.length * k.toNat<=1000000 then some (.list (List.replicate k.toNat x).flatten) else none
 | _,_=>none
theorem zkt:OpD X (binaryOp .Mult) zi9:=by
 refine ⟨_,zkr,fun v u G H x y d Q s rx ry e k=>?_⟩
 unfold zi9 at e
 split at e
 ·split at e
  ·rename_i c
   cases e
   obtain ⟨l,vs,rfl,h1,r1⟩:=rx.lst_inv
   refine ⟨l,_,vs,rfl,ry.int_inv,s.seq h1,by omega,by omega,by rw [r1.length];exact Nat.le_trans c.2.2 lim,fun p hp=>k _ _ _ (Ext.new s hp) ?_⟩
   exact .lst (SqL.of zas) ((r1.rep _).mono (zaz (s.free hp)))
  ·cases e
 ·cases e
def oAdd:D->D->Option D
 | .int i,.int j=>some (.int (i+j))
 | .str x,.str y=>if x.length+y.length<=1000000 then some (.str (x ++ y)) else none
 | .list x,.list y=>if x.length+y.length<=1000000 then some (.list (x ++ y)) else none
 | _,_=>none
def oSub:D->D->Option D
 | .int i,.int j=>some (.int (i - j))
 | _,_=>none
def oMul:D->D->Option D
 | .int i,.int j=>gMul i j
 | .list x,.int k=>if -1000000<=k/\k<=1000000/\x.length * k.toNat<=1000000 then some (.list (List.replicate k.toNat x).flatten) else none
 | _,_=>none
def oMod:D->D->Option D
 | .int i,.int j=>gMod i j
 | _,_=>none
def oDiv:D->D->Option D
 | .int i,.int j=>gDiv i j
 | _,_=>none
def oPow:D->D->Option D
 | .int i,.int j=>gPow i j
 | _,_=>none
theorem OpD.congr {f:Value->Value->Sem Value} {p q:D->D->Option D} (h:OpD X f p) (e:∀ x y,q x y=p x y):OpD X f q:=by
 have:q=p:=by funext x y;exact e x y
 rw [this];exact h
theorem zcw:OpD X (binaryOp .Add) oAdd:=(zlI.or (zkp.or zks)).congr fun x y=>by cases x <;> cases y <;> first | rfl | (simp only [oAdd,oII,zi7,zi8,Option.orElse];done) | (simp only [oAdd,oII,zi7,zi8,Option.orElse];split <;> rfl)
theorem zmK:OpD X (binaryOp .Sub) oSub:=zlJ.congr fun x y=>by cases x <;> cases y <;> rfl
theorem zd1:OpD X (binaryOp .Mult) oMul:=(zko.or zkt).congr fun x y=>by
 cases x <;> cases y <;> first | rfl | (simp only [oMul,oII,zi9,Option.orElse];done) | (simp only [oMul,oII,zi9,Option.orElse];split <;> first | rfl | assumption)
theorem zgU:OpD X (binaryOp .Mod) oMod:=zlK.congr fun x y=>by cases x <;> cases y <;> rfl
theorem zlN:OpD X (binaryOp .FloorDiv) oDiv:=zlL.congr fun x y=>by cases x <;> cases y <;> rfl
theorem zmL:OpD X (binaryOp .Pow) oPow:=zlM.congr fun x y=>by cases x <;> cases y <;> rfl
end
section
variable {X:Cx} {B G0:Hp} {e a b c:Expr} {pos:Pos}
def OpB (X:Cx) (f:Value->Value->Sem Value) (op:D->D->Option Bool):Prop :=
 ∃ r:R2,OpR X f r/\∀ v u G H x y d Q,Same G H->Rep X.K G v x->Rep X.K G u y->op x y=some d->Q (.bl d) H->r v u H Q
theorem OpB.or {f:Value->Value->Sem Value} {p q:D->D->Option Bool} (h:OpB X f p) (h':OpB X f q):OpB X f (fun x y=>(p x y).orElse fun _=>q x y):=by
 obtain ⟨r,h1,i1⟩:=h
 obtain ⟨r',h2,i2⟩:=h'
 refine ⟨_,h1.or h2,fun v u G H x y d Q s rx ry e k=>?_⟩
 dsimp only at e
 cases z:p x y with
 | some d' =>
  rw [z] at e
  have e':d'=d:=Option.some.inj e
  subst e'
  exact .inl (i1 v u G H x y d' Q s rx ry z k)
 | none =>
  rw [z] at e
  exact .inr (i2 v u G H x y d Q s rx ry e k)
theorem OpB.congr {f:Value->Value->Sem Value} {p q:D->D->Option Bool} (h:OpB X f p) (e:∀ x y,q x y=p x y):OpB X f q:=by
 have:q=p:=by funext x y;exact e x y
 rw [this];exact h
theorem zcx {op:CmpOp} {p:D->D->Option Bool} {f g:M D} (o:OpB X (compareOp op) p) (ha:PE X a (tD X.K B G0 f)) (hb:PE X b (tD X.K B G0 g)) (hm:behindInMarks op b=false) :
  PT X (.Compare a [op] [b] pos) (tBo X.K B G0 (dBin p f g)):=by
 obtain ⟨r,h,i⟩:=o
 refine ptof (zhv h ha hb hm) fun σ H Q q=>?_
 refine tM.two q fun v u H2 G ρ x y k rx ry a=>?_
 obtain ⟨d,e,a⟩:=a.opt
 exact i v u G H2 x y d _ k.gh rx ry e ⟨d,rfl,a.now k rfl⟩
def mMap {α β : Type} (h : α -> β) (f:M α):M β:=zap f fun x=>zae (h x)
theorem tM.map {K:PySem.W.Frag} {α β γ δ : Type} {R:Hp -> γ -> α -> Prop} {S:Hp -> δ -> β -> Prop} {σ : St} {H:Hp} {h : α -> β} {f:M α} {Q : δ -> Hp->Prop} (j : γ -> δ) (q:tM K B G0 S (mMap h f) σ H Q)
  (i:∀ G v x,R G v x->S G (j v) (h x)):tM K B G0 R f σ H (fun v H'=>Q (j v) H') :=
 tM.one (R:=R) (f:=f) q fun v H2 G ρ x k r a=>aft.now (show aft K B G0 S (.ok (h x) ρ) G σ Q from a) k (i G v x r)
theorem tBo.val {K:PySem.W.Frag} {σ : St} {H:Hp} {f:M Bool} {Q:VK} (q:tD K B G0 (mMap PyData.bool f) σ H Q):tBo K B G0 f σ H (fun b H'=>Q (.bl b) H') :=
 tM.map (R:=fun _ b c=>b=c) V.bl q fun G v x e=>by rw [e];exact .bl x
theorem zku {op:CmpOp} {p:D->D->Option Bool} {f g:M D} (o:OpB X (compareOp op) p) (ha:PE X a (tD X.K B G0 f)) (hb:PE X b (tD X.K B G0 g)) (hm:behindInMarks op b=false) :
  PE X (.Compare a [op] [b] pos) (tD X.K B G0 (mMap PyData.bool (dBin p f g))):=by
 obtain ⟨r,h,i⟩:=o
 refine peof (zka h ha hb hm) fun σ H Q q=>?_
 refine tM.two (tBo.val q) fun v u H2 G ρ x y k rx ry a=>?_
 obtain ⟨d,e,a⟩:=a.opt
 exact i v u G H2 x y d _ k.gh rx ry e (a.now k rfl)
def zdu (p q:D->D->Option Bool) (f g h:M D):M Bool:=zap f fun x=>zap g fun y=>zap (mOpt (p x y)) fun t=>if t=true then zap h fun z=>mOpt (q y z) else zae false
theorem zfh {op op':CmpOp} {p q:D->D->Option Bool} {f g h:M D} (o:OpB X (compareOp op) p) (o':OpB X (compareOp op') q) (ha:PE X a (tD X.K B G0 f)) (hb:PE X b (tD X.K B G0 g)) (hc:PE X c (tD X.K B G0 h))
  (hm:lastMarks [op,op'] [b,c]=false:=by with_unfolding_all rfl):PT X (.Compare a [op,op'] [b,c] pos) (tBo X.K B G0 (zdu p q f g h)):=by
 obtain ⟨r,h1,i⟩:=o
 obtain ⟨r',h2,i'⟩:=o'
 refine ptof (ziZ h1 h2 ha hb hc hm) fun σ H Q w=>?_
 refine tM.two w fun v u H2 G ρ x y k rx ry a=>?_
 cases z:p x y with
 | none=>rw [z] at a;exact a.elim
 | some t =>
  rw [z] at a
  refine i v u G H2 x y t _ k.gh rx ry z ⟨t,rfl,?_⟩
  cases t with
  | false =>
   rw [if_neg Bool.false_ne_true]
   exact ⟨false,rfl,aft.now a k rfl⟩
  | true =>
   rw [if_pos rfl]
   refine ⟨G,ρ,k,?_⟩
   have a4:aft X.K B G0 (fun _ (b:Bool) c=>b=c) ((zap h fun z=>mOpt (q y z)) ρ) G σ Q:=a
   unfold zap at a4
   cases z2:h ρ with
   | bad=>rw [z2] at a4;exact a4.elim
   | ok d ρ1 =>
    rw [z2] at a4
    intro w G5 H5 k5 s5 r5
    obtain ⟨t2,e2,a6⟩:=a4.opt
    exact i' u w G5 H5 y d t2 _ k5.gh (ry.mono s5) r5 e2 ⟨t2,rfl,a6 t2 G5 H5 k5 s5 rfl⟩
theorem zhI {op op':CmpOp} {p q:D->D->Option Bool} {f g h:M D} (o:OpB X (compareOp op) p) (o':OpB X (compareOp op') q) (ha:PE X a (tD X.K B G0 f)) (hb:PE X b (tD X.K B G0 g)) (hc:PE X c (tD X.K B G0 h))
  (hm:lastMarks [op,op'] [b,c]=false:=by with_unfolding_all rfl):PE X (.Compare a [op,op'] [b,c] pos) (tD X.K B G0 (mMap PyData.bool (zdu p q f g h))):=by
 obtain ⟨r,h1,i⟩:=o
 obtain ⟨r',h2,i'⟩:=o'
 refine peof (ziY h1 h2 ha hb hc hm) fun σ H Q w=>?_
 refine tM.two (tBo.val w) fun v u H2 G ρ x y k rx ry a=>?_
 cases z:p x y with
 | none=>rw [z] at a;exact a.elim
 | some t =>
  rw [z] at a
  refine i v u G H2 x y t _ k.gh rx ry z ⟨t,rfl,?_⟩
  cases t with
  | false =>
   rw [if_neg Bool.false_ne_true]
   exact aft.now (v:=false) a k rfl
  | true =>
   rw [if_pos rfl]
   refine ⟨G,ρ,k,?_⟩
   have a4:aft X.K B G0 (fun _ (b:Bool) c=>b=c) ((zap h fun z=>mOpt (q y z)) ρ) G σ (fun b H'=>Q (.bl b) H'):=a
   unfold zap at a4
   cases z2:h ρ with
   | bad=>rw [z2] at a4;exact a4.elim
   | ok d ρ1 =>
    rw [z2] at a4
    intro w G5 H5 k5 s5 r5
    obtain ⟨t2,e2,a6⟩:=a4.opt
    exact i' u w G5 H5 y d t2 _ k5.gh (ry.mono s5) r5 e2 (a6 t2 G5 H5 k5 s5 rfl)
def oIB (g:Int->Int->Bool):D->D->Option Bool
 | .int i,.int j=>some (g i j)
 | _,_=>none
theorem OpB.int {f:Value->Value->Sem Value} {g:Int->Int->Bool} (h:OpR X f (rI0 fun i j=>.bl (g i j))):OpB X f (oIB g):=by
 refine ⟨_,h,fun v u G H x y d Q s rx ry e k=>?_⟩
 unfold oIB at e
 split at e
 ·cases e
  exact ⟨_,_,rx.int_inv,ry.int_inv,k⟩
 ·cases e
theorem B_lt:OpB X (compareOp .Lt) (oIB fun i j=>decide (i < j)):=.int zmv
theorem B_le:OpB X (compareOp .LtE) (oIB fun i j=>decide (i<=j)):=.int zmw
theorem B_gt:OpB X (compareOp .Gt) (oIB fun i j=>decide (j < i)):=.int zmx
theorem B_ge:OpB X (compareOp .GtE) (oIB fun i j=>decide (j<=i)):=.int zmy
mutual
theorem zbt {pins:List (Addr × Obj)} {s:Shared} {σ : St} {G H:Hp} (I:Inv X pins σ H s) (sg:Same G H):∀ {v:V} {d:D} {u:Value},Rep X.K G v d->RelV v u->d.canLay0=true->∃ as,Reads s.heap u d as
 | _,_,_,.non,r,_=>by cases r;exact ⟨_,.none⟩
 | _,_,_,.bl b,r,_=>by cases r;exact ⟨_,.bool b⟩
 | _,_,_,.int i,r,_=>by obtain ⟨t,rfl⟩:=r;exact ⟨_,.int i t⟩
 | _,_,_,.str x,r,_=>by obtain ⟨t,rfl⟩:=r;exact ⟨_,.str x t⟩
 | _,_,_,.lst h q,r,c=>by
  cases r
  obtain ⟨its,rv,⟨o,n,e,hc,_,hd⟩,hz⟩:=I.list (sg.seq h)
  obtain ⟨as,ra⟩:=readsAll_of I sg q rv (show PyData.canLayAll0 _=true by simpa [PyData.canLay0] using c)
  exact ⟨_,.list e hc hd (by simpa using ra)⟩
 | _,_,_,.tup h q,r,c=>by
  cases r
  obtain ⟨its,rv,p,hz⟩:=I.tuple (zcY sg h)
  obtain ⟨o,e,hc,n,hd⟩:=p
  obtain ⟨as,ra⟩:=readsAll_of I sg q rv (show PyData.canLayAll0 _=true by simpa [PyData.canLay0] using c)
  exact ⟨_,.tuple e hc hd (by simpa using ra)⟩
 | _,_,_,.dic h,r,c=>by simp [PyData.canLay0] at c
 | _,_,_,.exc _ _ _ _,r,c=>by simp [PyData.canLay0] at c
 | _,_,_,.dct _ _ _ _ _,r,c=>by simp [PyData.canLay0] at c
 | _,_,_,.dtt _ _ _ _,r,c=>by simp [PyData.canLay0] at c
theorem readsAll_of {pins:List (Addr × Obj)} {s:Shared} {σ : St} {G H:Hp} (I:Inv X pins σ H s) (sg:Same G H):∀ {vs:List V} {ds:List D} {us:List Value},Reps X.K G vs ds->Vals vs us->PyData.canLayAll0 ds=true->∃ as,ReadsAll s.heap us ds as
 | _,_,_,.nil,r,_=>by cases r;exact ⟨_,.nil⟩
 | _,_,_,.cons h t,r,c=>by
  cases r with
  | cons r1 r2 =>
   have c':=c
   rw [PyData.canLayAll0,Bool.and_eq_true] at c'
   obtain ⟨as,ra⟩:=zbt I sg h r1 c'.1
   obtain ⟨bs,rb⟩:=readsAll_of I sg t r2 c'.2
   exact ⟨_,.cons ra rb⟩
end
def oEq (x y:D):Option Bool:=if x.canLay0=true/\y.canLay0=true/\x.depth<=60 then some (PyData.eqv x y) else none
def oNe (x y:D):Option Bool:=if x.canLay0=true/\y.canLay0=true/\x.depth<=60 then some (!PyData.eqv x y) else none
theorem B_eq (hu:X.A.units+64 < cLine):OpB X (compareOp .Eq) oEq:=by
 refine ⟨fun v u H Q=>∃ G x y d,Same G H/\Rep X.K G v x/\Rep X.K G u y/\oEq x y=some d/\Q (.bl d) H,?_,fun v u G H x y d Q s rx ry e k=>⟨G,x,y,d,s,rx,ry,e,k⟩⟩
 intro pins s σ H x y v u Q I rx ry ⟨G,dx,dy,d,sg,px,py,e,q⟩
 unfold oEq at e
 split at e
 ·rename_i c
  cases e
  obtain ⟨as,ra⟩:=zbt I sg px rx c.1
  obtain ⟨bs,rb⟩:=zbt I sg py ry c.2.1
  exact SeqAt.compareEq_reads ra rb c.1 c.2.1 (by have:=c.2.2;omega) ⟨.bl _,H,I,rfl,q⟩
 ·cases e
theorem B_ne (hu:X.A.units+64 < cLine):OpB X (compareOp .NotEq) oNe:=by
 refine ⟨fun v u H Q=>∃ G x y d,Same G H/\Rep X.K G v x/\Rep X.K G u y/\oNe x y=some d/\Q (.bl d) H,?_,fun v u G H x y d Q s rx ry e k=>⟨G,x,y,d,s,rx,ry,e,k⟩⟩
 intro pins s σ H x y v u Q I rx ry ⟨G,dx,dy,d,sg,px,py,e,q⟩
 unfold oNe at e
 split at e
 ·rename_i c
  cases e
  obtain ⟨as,ra⟩:=zbt I sg px rx c.1
  obtain ⟨bs,rb⟩:=zbt I sg py ry c.2.1
  exact SeqAt.compareNe_reads ra rb c.1 c.2.1 (by have:=c.2.2;omega) ⟨.bl _,H,I,rfl,q⟩
 ·cases e
end
section
variable {X:Cx} {B G0:Hp} {e a b c:Expr} {pos:Pos} {es rest:List Expr}
theorem tM.nx {K:PySem.W.Frag} {α β γ δ : Type} {R:Hp -> γ -> α -> Prop} {S:Hp -> δ -> β -> Prop} {σ : St} {G H:Hp} {ρ : DEnv} {f:M α} {g : α -> M β} {Q : δ -> Hp->Prop} {P : γ -> Hp->Prop}
  (k:EOk K B G0 G H σ ρ) (a:aft K B G0 S (zap f g ρ) G σ Q) (i:∀ v H' G' ρ' x,EOk K B G0 G' H' σ ρ'->Same G G'->R G' v x->aft K B G0 S (g x ρ') G' σ Q->P v H'):tM K B G0 R f σ H P:=by
 refine ⟨G,ρ,k,?_⟩
 unfold zap at a
 cases q:f ρ with
 | bad=>rw [q] at a;exact a.elim
 | ok d ρ1 =>
  rw [q] at a
  exact fun v G' H' e s r=>i v H' G' ρ1 d e s r (aft.mono s a)
def mAnd (f g:M Bool):M Bool:=zap f fun t=>if t=true then g else zae false
def mOr (f g:M Bool):M Bool:=zap f fun t=>if t=true then zae true else g
def mNot (f:M Bool):M Bool:=mMap (fun t=>!t) f
theorem zkv {K:PySem.W.Frag} {f g:M Bool} {σ : St} {H:Hp} {Q:Bool->Hp->Prop} (q:tBo K B G0 (mAnd f g) σ H Q):tAnd (tBo K B G0 f) (tBo K B G0 g) σ H Q :=
 tM.one (R:=fun _ b c=>b=c) q fun v H2 G ρ x k r a=>by
  have r:v=x:=r
  subst r
  cases v with
  | true=>exact ⟨G,ρ,k,a⟩
  | false=>exact aft.now (v:=false) a k rfl
theorem zlO {K:PySem.W.Frag} {f g:M Bool} {σ : St} {H:Hp} {Q:Bool->Hp->Prop} (q:tBo K B G0 (mOr f g) σ H Q):tOr (tBo K B G0 f) (tBo K B G0 g) σ H Q :=
 tM.one (R:=fun _ b c=>b=c) q fun v H2 G ρ x k r a=>by
  have r:v=x:=r
  subst r
  cases v with
  | false=>exact ⟨G,ρ,k,a⟩
  | true=>exact aft.now (v:=true) a k rfl
theorem pwof {t t':TT} (h:PW X e t) (i:∀ σ H Q,t' σ H Q->t σ H Q):PW X e t':=fun wh pins s σ H Q I q=>h wh pins s σ H Q I (i σ H Q q)
theorem zja {f:M Bool} (ha:PT X a (tBo X.K B G0 f)):PW X (.BoolOp .And [a] pos) (tBo X.K B G0 f):=zj6 ha
theorem zbJ {f:M Bool} (ha:PT X a (tBo X.K B G0 f)):PW X (.BoolOp .Or [a] pos) (tBo X.K B G0 f):=zlk ha
theorem zkw {f g:M Bool} (ha:PT X a (tBo X.K B G0 f)) (hb:PW X (.BoolOp .And (b :: rest) pos) (tBo X.K B G0 g)):PW X (.BoolOp .And (a :: b :: rest) pos) (tBo X.K B G0 (mAnd f g)):=pwof (zll ha hb) fun _ _ _ q=>zkv q
theorem zcd {f g:M Bool} (ha:PT X a (tBo X.K B G0 f)) (hb:PW X (.BoolOp .Or (b :: rest) pos) (tBo X.K B G0 g)):PW X (.BoolOp .Or (a :: b :: rest) pos) (tBo X.K B G0 (mOr f g)):=pwof (zmk ha hb) fun _ _ _ q=>zlO q
theorem zaK {f:M Bool} (ha:PT X a (tBo X.K B G0 f)):PT X (.UnaryOp .Not a pos) (tBo X.K B G0 (mNot f)):=ptof (zlm ha) fun σ H Q q=>tM.map (R:=fun _ b c=>b=c) (fun t=>!t) q fun _ v x e=>by rw [e]
def zaX (f:M D):M Bool:=zap f fun x=>match x with | .bool t=>zae t | _=>fun _=>.bad
theorem zaQ {f:M D} (h:PE X e (tD X.K B G0 f)) (he:∀ whole,isTrue e X.env whole=(do let v ← whole;standAt e.pos;holding [v] (truthy v)):=by intro _;rfl):PT X e (tBo X.K B G0 (zaX f)) :=
 ptof (zlj h he) fun σ H Q q=>tM.one (R:=Rep X.K) q fun v H2 G ρ x k r a=>by
  cases x with
  | bool t=>exact ⟨t,r.bl_inv,aft.now (v:=t) a k rfl⟩
  | _=>exact a.elim
def zgV (f g:M D):M D:=zap f fun x=>match x with | .bool true=>g | .bool false=>zae (.bool false) | _=>fun _=>.bad
def zhJ (f:M D):M D:=zap f fun x=>match x with | .bool t=>zae (.bool (!t)) | _=>fun _=>.bad
theorem zfX {f g:M D} (ha:PE X a (tD X.K B G0 f)) (hb:PE X (.BoolOp .And (b :: rest) pos) (tD X.K B G0 g)):PE X (.BoolOp .And (a :: b :: rest) pos) (tD X.K B G0 (zgV f g)) :=
 peof (zlo ha hb) fun σ H Q q=>tM.one (R:=Rep X.K) q fun v H2 G ρ x k r a=>by
  cases x with
  | bool t =>
   refine ⟨t,r.bl_inv,?_⟩
   cases t with
   | true=>exact ⟨G,ρ,k,a⟩
   | false=>exact aft.now a k (.bl false)
  | _=>exact a.elim
theorem zfY {op} {f:M D} (h:PE X a (tD X.K B G0 f)):PE X (.BoolOp op [a] pos) (tD X.K B G0 f):=zln h
theorem zhK {f:M D} (ha:PE X a (tD X.K B G0 f)):PE X (.UnaryOp .Not a pos) (tD X.K B G0 (zhJ f)) :=
 peof (zlp ha) fun σ H Q q=>tM.one (R:=Rep X.K) q fun v H2 G ρ x k r a=>by
  cases x with
  | bool t=>exact ⟨t,r.bl_inv,aft.now a k (.bl _)⟩
  | _=>exact a.elim
def mNil:M (List D):=zae []
def zag (f:M D) (g:M (List D)):M (List D):=zap f fun x=>zap g fun xs=>zae (x :: xs)
theorem zaf:PA X [] (tDs X.K B G0 mNil):=paof zdp fun σ H Q ⟨G,ρ,k,a⟩=>aft.now a k .nil
theorem tM.twoA {K:PySem.W.Frag} {σ : St} {H:Hp} {f:M D} {g:M (List D)} {β δ : Type} {S:Hp -> δ -> β -> Prop} {k:D->List D->M β} {Q : δ -> Hp->Prop} {P:V->List V->Hp->Prop}
  (h:tM K B G0 S (zap f fun x=>zap g fun y=>k x y) σ H Q)
  (i:∀ v u H2 G ρ x y,EOk K B G0 G H2 σ ρ -> Rep K G v x->Reps K G u y->aft K B G0 S (k x y ρ) G σ Q->P v u H2) :
  tD K B G0 f σ H (fun v H1=>tDs K B G0 g σ H1 fun u H2=>P v u H2):=by
 obtain ⟨G,ρ,e,a⟩:=tM.bind2 (R:=Rep K) (R':=Reps K) zhG h
 refine ⟨G,ρ,e,?_⟩
 cases q:f ρ with
 | bad=>rw [q] at a;exact a.elim
 | ok d ρ1 =>
  rw [q] at a
  intro v G' H' e' s r
  obtain ⟨x,G2,ρ2,e2,a2⟩:=a v G' H' e' s r
  refine ⟨G2,ρ2,e2,?_⟩
  cases q2:g ρ2 with
  | bad=>rw [q2] at a2;exact a2.elim
  | ok d3 ρ3 =>
   rw [q2] at a2
   intro u G3 H3 e3 s3 r3
   obtain ⟨G4,ρ4,y,e4,r4,r5,a5⟩:=a2 u G3 H3 e3 s3 r3
   exact i v u H3 G4 ρ4 x y e4 r4 r5 a5
theorem zab {f:M D} {g:M (List D)} (ha:PE X e (tD X.K B G0 f)) (hr:PA X es (tDs X.K B G0 g)) (hs:starEach (e :: es) X.env=(false,eval e X.env) :: starEach es X.env:=by rfl) :
  PA X (e :: es) (tDs X.K B G0 (zag f g)):=paof (zb2 ha hr hs) fun σ H Q q=>tM.twoA q fun v u H2 G ρ x y k r1 r2 a=>aft.now a k (.cons r1 r2)
def mTup (f:M (List D)):M D:=zap f fun xs=>if xs.length<=1000000 then zae (.tuple xs) else fun _=>.bad
def mLst (f:M (List D)):M D:=zap f fun xs=>if xs.length<=1000000 then zae (.list xs) else fun _=>.bad
theorem zdv {x1} {f:M (List D)} (h:PA X es (tDs X.K B G0 f)):PE X (.Tuple es x1 pos) (tD X.K B G0 (mTup f)) :=
 peof (zjN h) fun σ H Q q=>tM.one (R:=Reps X.K) q fun v H2 G ρ x k r a=>by
  split at a
  ·rename_i c
   refine ⟨by rw [r.length];exact Nat.le_trans c lim,fun p hp=>?_⟩
   exact aft.done a k (Ext.new k.gh hp) (.tup (SqT.of zas) (r.mono (zaz (k.gh.free hp))))
  ·exact a.elim
theorem zcy {f:M (List D)} (h:PA X es (tDs X.K B G0 f)):PE X (.List es pos) (tD X.K B G0 (mLst f)) :=
 peof (zjO h) fun σ H Q q=>tM.one (R:=Reps X.K) q fun v H2 G ρ x k r a=>by
  split at a
  ·rename_i c
   refine ⟨by rw [r.length];exact Nat.le_trans c lim,fun p hp=>?_⟩
   exact aft.done a k (Ext.new k.gh hp) (.lst (SqL.of zas) (r.mono (zaz (k.gh.free hp))))
  ·exact a.elim
def oIx:D->D->Option D
 | .list xs,.int i=>atI xs i
 | .tuple xs,.int i=>atI xs i
 | .str z,.int i=>if z.length<=1000000 then (atI z.cps.toList i).map fun c=>.str ⟨#[c]⟩ else none
 | _,_=>none
theorem Reps.atI {K:PySem.W.Frag} {G:Hp} {vs:List V} {ds:List D} {i:Int} {d:D} (r:Reps K G vs ds) (h:L2.atI ds i=some d):∃ v,L2.atI vs i=some v/\Rep K G v d:=by
 unfold L2.atI at h ⊢
 rw [r.length]
 cases z:ixN ds.length i with
 | none=>rw [z] at h;cases h
 | some j =>
  rw [z] at h
  exact r.get (i:=j) h
theorem zjS {K:PySem.W.Frag} {v u:V} {G H:Hp} {x y d:D} {Q:VK} (s:Same G H) (rx:Rep K G v x) (ry:Rep K G u y) (e:oIx x y=some d) (k:∀ w,Rep K G w d->Q w H):rIx K v u H Q:=by
 unfold oIx at e
 split at e
 ·obtain ⟨l,vs,rfl,h1,r1⟩:=rx.lst_inv
  obtain ⟨w,e1,r2⟩:=r1.atI e
  exact .inl ⟨l,vs,_,w,rfl,ry.int_inv,s.seq h1,e1,k w r2⟩
 ·obtain ⟨l,vs,rfl,h1,r1⟩:=rx.tup_inv
  obtain ⟨w,e1,r2⟩:=r1.atI e
  exact .inr (.inl ⟨l,vs,_,w,rfl,ry.int_inv,zcY s h1,e1,k w r2⟩)
 ·split at e
  ·rename_i z i hz
   cases q:L2.atI z.cps.toList i with
   | none=>rw [q] at e;cases e
   | some ch =>
    rw [q] at e
    cases e
    exact .inr (.inr ⟨z,i,ch,rx.str_inv,ry.int_inv,Nat.le_trans hz lim,q,k _ (.str _)⟩)
  ·cases e
 ·cases e
theorem zhL {f g:M D} (ha:PE X a (tD X.K B G0 f)) (hb:PE X b (tD X.K B G0 g)) (hs:zex b):PE X (.Subscript a b pos) (tD X.K B G0 (dBin oIx f g)) :=
 peof (zkg zhB ha hb hs) fun σ H Q q=>tM.two q fun v u H2 G ρ x y k rx ry a=>by
  obtain ⟨d,e,a⟩:=a.opt
  exact zjS k.gh rx ry e fun w r=>a.now k r
def dIxN (i:Nat) (g:M D):M D:=fun ρ=>match ρ[i]? with
 | some (some (.pub d))=>(zap g fun y=>mOpt (oIx d y)) ρ
 | some (some (.own _))=>(zap g fun y=>fun ρ'=>match ρ'[i]? with | some (some (.own ds))=>mOpt (oIx (.list ds) y) ρ' | _=>.bad) ρ
 | _=>.bad
theorem zaL {i:Nat} {g:M D} (ha:PE X a (tVar i)) (hb:PE X b (tD X.K B G0 g)) (hs:zex b):PE X (.Subscript a b pos) (tD X.K B G0 (dIxN i g)) :=
 peof (zkg zhB ha hb hs) fun σ H Q ⟨G,ρ,k,a⟩=>by
  unfold dIxN at a
  cases q : ρ[i]? with
  | none=>rw [q] at a;exact a.elim
  | some o =>
   cases o with
   | none=>rw [q] at a;exact a.elim
   | some sl =>
    cases sl with
    | deep _ _=>rw [q] at a;exact a.elim
    | pub d =>
     rw [q] at a
     obtain ⟨v,h1,h2⟩:=k.pub i d q
     refine ⟨v,h1,G,ρ,k,?_⟩
     dsimp only [zap] at a
     cases z:g ρ with
     | bad=>rw [z] at a;exact a.elim
     | ok y ρ1 =>
      rw [z] at a
      intro u G' H' k' s' r'
      obtain ⟨d',e',a'⟩:=aft.opt a
      exact zjS k'.gh (h2.mono s') r' e' fun w r=>a' w G' H' k' s' r
    | own ds =>
     rw [q] at a
     obtain ⟨ad,vs,h1,h2,h3,h4,h5⟩:=k.own i ds q
     refine ⟨.ref ad,h1,G,ρ,k,?_⟩
     dsimp only [zap] at a
     cases z:g ρ with
     | bad=>rw [z] at a;exact a.elim
     | ok y ρ1 =>
      rw [z] at a
      dsimp only at a
      intro u G' H' k' s' r'
      cases z2 : ρ1[i]? with
      | none=>rw [z2] at a;exact a.elim
      | some o2 =>
       cases o2 with
       | none=>rw [z2] at a;exact a.elim
       | some sl2 =>
        cases sl2 with
        | deep _ _=>rw [z2] at a;exact a.elim
        | pub d2=>rw [z2] at a;exact a.elim
        | own es2 =>
         rw [z2] at a
         obtain ⟨d',e',a'⟩:=aft.opt a
         obtain ⟨ad',vs',g1,g2,g3,g4,g5⟩:=k'.own i es2 z2
         rw [h1] at g1
         cases g1
         unfold oIx at e'
         cases y with
         | int j =>
          obtain ⟨w,e1,r2⟩:=g5.atI e'
          exact .inl ⟨ad,vs',j,w,rfl,r'.int_inv,SqL.of g4,e1,a' w G' H' k' s' r2⟩
         | _=>cases e'
def cutD (xs:List D) (lo hi:Option Int):List D:=(xs.drop (HT.sIx xs.length 0 lo)).take (HT.sIx xs.length xs.length hi - HT.sIx xs.length 0 lo)
theorem Reps.cut {K:PySem.W.Frag} {G:Hp} {vs:List V} {ds:List D} (r:Reps K G vs ds) (lo hi:Option Int):Reps K G (cutV vs lo hi) (cutD ds lo hi):=by
 unfold cutV cutD
 rw [r.length]
 exact (r.drop _).take _
def zhM:D->Option (Option Int)
 | .int i=>some (some i)
 | _=>none
theorem zgq:PO X none (tOi X.K B G0 (zae none)):=poof zkd fun σ H Q ⟨G,ρ,k,a⟩=>aft.now a k rfl
theorem zez {f:M D} (h:PE X e (tD X.K B G0 f)):PO X (some e) (tOi X.K B G0 (zap f fun x=>mOpt (zhM x))):=poof (zke h) fun σ H Q q=>tM.one (R:=Rep X.K) q fun v H2 G ρ x k r a=>by
 cases x with
 | int i=>exact ⟨i,r.int_inv,aft.now (v:=some i) a k rfl⟩
 | _=>exact a.elim
end
def excK:List (D × D)->Bool
 | (.none,_) :: _=>true
 | _=>false
def tyOf:D->String
 | .none => "NoneType"
 | .bool _ => "bool"
 | .int _ => "int"
 | .str _ => "str"
 | .list _ => "list"
 | .tuple _ => "tuple"
 | .dict kvs=>if excK kvs=true then "" else "dict"
def isTy (d:D) (c:String):Bool:=tyOf d == c || (tyOf d == "bool" && c == "int")
def zhN:D->Bool
 | .dict kvs=>excK kvs
 | _=>false
theorem nty {kvs:List (D × D)} {c:String} (h:(("dict" == c) || ("" == c))=false):isTy (.dict kvs) c=false:=by
 obtain ⟨h1,h2⟩:=Bool.or_eq_false_iff.mp h
 show ((if excK kvs=true then "" else "dict") == c || ((if excK kvs=true then "" else "dict") == "bool" && c == "int"))=false
 cases excK kvs with
 | true=>rw [if_pos rfl,h2];rfl
 | false=>rw [if_neg (by decide),h1];rfl
theorem zjT {ks:List Key} {ds:List D}:tyOf (.dict ((ks.map kD).zip ds)) = "dict" /\ zhN (.dict ((ks.map kD).zip ds))=false:=by
 cases ks with
 | nil=>exact ⟨rfl,rfl⟩
 | cons k ks =>
  cases ds with
  | nil=>exact ⟨rfl,rfl⟩
  | cons d ds=>cases k <;> exact ⟨rfl,rfl⟩
theorem zkx (K:PySem.W.Frag) (d:D) (c:String) (nx:zhN d=false) (hc:c = "int" ∨ c = "bool" ∨ c = "str" ∨ c = "list" ∨ c = "tuple" ∨ c = "dict"):PySem.W.kitOne K (.type (tyOf d)) (.type c)=some (isTy d c):=by
 cases d with
 | dict kvs =>
  have e:tyOf (.dict kvs) = "dict" := by
   have nx:excK kvs=false:=nx
   show (if excK kvs=true then "" else "dict")=_
   rw [nx];rfl
  unfold isTy
  rw [e]
  rcases hc with rfl | rfl | rfl | rfl | rfl | rfl <;> rfl
 | _=>rcases hc with rfl | rfl | rfl | rfl | rfl | rfl <;> rfl
section
variable {X:Cx} {B G0:Hp} {e a b c:Expr} {pos:Pos} {es rest:List Expr}
def zcZ (X:Cx) (f:Value) (p:List D->Option D):Prop :=
 ∃ r,zcu X f r/\∀ vs G H ds d Q,Same G H->Reps X.K G vs ds->p ds=some d->(∀ w G' H',Ext G H G' H'->Rep X.K G' w d->Q w H')->r vs H Q
def zbQ (p:List D->Option D) (f:M (List D)):M D:=zap f fun xs=>mOpt (p xs)
theorem zaN {x:Str} {p2:Pos} {id:String} {p:List D->Option D} {f:M (List D)} (hc:zcZ X (.builtin id) p) (hg:Gl X x) (hm:X.mg x=none) (hv:bootBuiltins x=some (.builtin id)) (ha:PA X (e :: es) (tDs X.K B G0 f)) (hn:x ≠ "__name__" := by decide) (hdb:(x == ("__debug__" : Str))=false:=by decide)
  (he:starEach (e :: es) X.env=(false,eval e X.env) :: starEach es X.env:=by rfl) (hpl:(backTo pos (starEach es X.env)).any (·.1)=false:=by rfl):PE X (.Call (.Name x p2) (e :: es) [] pos) (tD X.K B G0 (zbQ p f)):=by
 obtain ⟨r,h,i⟩:=hc
 refine peof (zcC h hg hm hv ha hn hdb he hpl) fun σ H Q q=>tM.one (R:=Reps X.K) q fun v H2 G ρ x k rr a=>?_
 obtain ⟨d,e,a⟩:=a.opt
 exact i v G H2 x d Q k.gh rr e fun w G' H' ex rw=>a.done k ex rw
theorem Reps.one_inv {K:PySem.W.Frag} {G:Hp} {vs:List V} {d:D} (r:Reps K G vs [d]):∃ v,vs=[v]/\Rep K G v d:=by
 cases r with
 | cons h t=>cases t;exact ⟨_,rfl,h⟩
theorem Reps.two_inv {K:PySem.W.Frag} {G:Hp} {vs:List V} {d d':D} (r:Reps K G vs [d,d']):∃ v v',vs=[v,v']/\Rep K G v d/\Rep K G v' d':=by
 cases r with
 | cons h t =>
  obtain ⟨v',rfl,r'⟩:=t.one_inv
  exact ⟨_,v',rfl,h,r'⟩
def oLen:List D->Option D
 | [.list xs]=>some (.int xs.length)
 | [.tuple xs]=>some (.int xs.length)
 | [.str z]=>if z.length<=1000000 then some (.int z.length) else none
 | _=>none
theorem zhO:zcZ X (.builtin "len") oLen:=by
 refine ⟨_,zgo,fun vs G H ds d Q s r e k=>?_⟩
 unfold oLen at e
 split at e
 ·cases e
  obtain ⟨v,rfl,q⟩:=r.one_inv
  obtain ⟨l,ws,rfl,h1,r1⟩:=q.lst_inv
  exact ⟨.ref l,ws.length,rfl,.inl ⟨ws,s.seq h1,rfl⟩,by rw [r1.length];exact k _ G H (.refl s) (.int _)⟩
 ·cases e
  obtain ⟨v,rfl,q⟩:=r.one_inv
  obtain ⟨l,ws,rfl,h1,r1⟩:=q.tup_inv
  exact ⟨.ref l,ws.length,rfl,.inr ⟨ws,zcY s h1,rfl⟩,by rw [r1.length];exact k _ G H (.refl s) (.int _)⟩
 ·split at e
  ·rename_i z hz
   cases e
   obtain ⟨v,rfl,q⟩:=r.one_inv
   exact ⟨.str z,z.length,by rw [q.str_inv],⟨Nat.le_trans hz lim,rfl⟩,k _ G H (.refl s) (.int _)⟩
  ·cases e
 ·cases e
def zhP:List D->Option D
 | [.int i,.int j]=>some (.int (if j > i then j else i))
 | _=>none
theorem zjU (hc:X.calm=true):zcZ X (.builtin "max") zhP:=by
 refine ⟨_,zhw hc,fun vs G H ds d Q s r e k=>?_⟩
 unfold zhP at e
 split at e
 ·cases e
  obtain ⟨v,v',rfl,r1,r2⟩:=r.two_inv
  exact ⟨_,_,by rw [r1.int_inv,r2.int_inv],k _ G H (.refl s) (.int _)⟩
 ·cases e
def zjb:List D->Option D
 | [.int i,.int j]=>some (.int (if j < i then j else i))
 | _=>none
theorem zlP (hc:X.calm=true):zcZ X (.builtin "min") zjb:=by
 refine ⟨_,zhx hc,fun vs G H ds d Q s r e k=>?_⟩
 unfold zjb at e
 split at e
 ·cases e
  obtain ⟨v,v',rfl,r1,r2⟩:=r.two_inv
  exact ⟨_,_,by rw [r1.int_inv,r2.int_inv],k _ G H (.refl s) (.int _)⟩
 ·cases e
def zbK (i:Nat):M D:=fun ρ=>match ρ[i]? with
 | some (some (.pub d))=>mOpt (oLen [d]) ρ
 | some (some (.own ds))=>.ok (.int ds.length) ρ
 | _=>.bad
theorem zaS {i:Nat} {p2:Pos} (hg:Gl X "len") (hm:X.mg "len" = none) (ha:PE X e (tVar i)) (he:starEach [e] X.env=[(false,eval e X.env)]:=by rfl):PE X (.Call (.Name "len" p2) [e] [] pos) (tD X.K B G0 (zbK i)):=by
 refine peof (zcC zgo hg hm PySem.boot_len (zb2 ha zdp (by rw [he];rfl)) (by decide) (by decide) (by rw [he];rfl) rfl) fun σ H Q ⟨G,ρ,k,a⟩=>?_
 unfold zbK at a
 cases q : ρ[i]? with
 | none=>rw [q] at a;exact a.elim
 | some o =>
  cases o with
  | none=>rw [q] at a;exact a.elim
  | some sl =>
   cases sl with
   | deep _ _=>rw [q] at a;exact a.elim
   | pub d =>
    rw [q] at a
    obtain ⟨v,h1,h2⟩:=k.pub i d q
    refine ⟨v,h1,?_⟩
    obtain ⟨d',e',a'⟩:=aft.opt a
    obtain ⟨r,hr,ir⟩:=@zhO X
    show ∃ x n,[v]=[x]/\LenV X.K x H n/\Q (.int n) H
    unfold oLen at e'
    split at e'
    ·rename_i xs he'
     injection he' with he1 he2
     subst he1
     cases e'
     obtain ⟨l,ws,rfl,g1,r1⟩:=h2.lst_inv
     exact ⟨.ref l,ws.length,rfl,.inl ⟨ws,k.gh.seq g1,rfl⟩,by rw [r1.length];exact a'.now k (.int _)⟩
    ·rename_i xs he'
     injection he' with he1 he2
     subst he1
     cases e'
     obtain ⟨l,ws,rfl,g1,r1⟩:=h2.tup_inv
     exact ⟨.ref l,ws.length,rfl,.inr ⟨ws,zcY k.gh g1,rfl⟩,by rw [r1.length];exact a'.now k (.int _)⟩
    ·rename_i z he'
     injection he' with he1 he2
     subst he1
     split at e'
     ·rename_i hz
      cases e'
      exact ⟨.str z,z.length,by rw [h2.str_inv],⟨Nat.le_trans hz lim,rfl⟩,a'.now k (.int _)⟩
     ·cases e'
    ·cases e'
   | own ds =>
    rw [q] at a
    obtain ⟨ad,vs,h1,g2,g3,h4,h5⟩:=k.own i ds q
    exact ⟨.ref ad,h1,.ref ad,vs.length,rfl,.inl ⟨vs,SqL.of h4,rfl⟩,by rw [h5.length];exact aft.now a k (.int _)⟩
theorem zky {pins:List (Addr × Obj)} {s:Shared} {σ : St} {G H:Hp} {v:V} {u:Value} {d:D} {cv:Value} {t:Bool} {A:Around} {E:Value->Shared->Prop} {Q:Value->Shared->Prop} (I:Inv X pins σ H s) (sg:Same G H) (r:Rep X.K G v d) (rv:RelV v u) (nx:zhN d=false)
  (ek:PySem.W.kitOne X.K (.type (tyOf d)) cv=some t) (h:∀ tk,Q (.bool t) { s with toks:=tk }):wpAny (model X.prog X.w) A (call (.builtin "isinstance") [u,cv]) Q E s:=by
 cases r with
 | non=>cases rv;exact PySem.W.kia_one PySem.W.kitx_none I.kIn True.intro ek (fun z=>nomatch z) h
 | bl y=>cases rv;exact PySem.W.kia_one PySem.W.kitx_bool I.kIn True.intro ek (fun z=>nomatch z) h
 | int i=>obtain ⟨t',rfl⟩:=rv;exact PySem.W.kia_one PySem.W.kitx_int I.kIn True.intro ek (fun z=>nomatch z) h
 | str y=>obtain ⟨t',rfl⟩:=rv;exact PySem.W.kia_one PySem.W.kitx_str I.kIn True.intro ek (fun z=>nomatch z) h
 | lst hl _ =>
  cases rv
  obtain ⟨its,r,⟨o,n,e,hc,_,hd⟩,hz⟩:=I.list (sg.seq hl)
  exact PySem.W.kia_one PySem.W.kitx_list I.kIn ⟨o,e,hc⟩ ek (fun z=>nomatch z) h
 | tup hl _ =>
  cases rv
  obtain ⟨its,r,p,hz⟩:=I.tuple (zcY sg hl)
  obtain ⟨o,e,hc,_⟩:=p
  exact PySem.W.kia_one PySem.W.kitx_tuple I.kIn ⟨o,e,hc⟩ ek (fun z=>nomatch z) h
 | @dic ad hd =>
  cases rv
  obtain ⟨_,_,vs,_,p⟩:=(show zb1 X.prog X.w H s.heap ad (.dK []) from I.hok ad _ (sg _ _ hd))
  obtain ⟨o,es,ep,h1,h2,_⟩:=p
  exact PySem.W.kia_one PySem.W.kitx_dict I.kIn ⟨o,h1,h2.1⟩ ek (fun z=>nomatch z) h
 | exc _ _ _ _=>cases nx
 | @dct ad ks vs ds kvs e0 _ _ hd _ =>
  cases rv
  subst e0
  rw [zjT.1] at ek
  obtain ⟨_,_,vs,_,p⟩:=(show zb1 X.prog X.w H s.heap ad (.dK (ks.zip _)) from I.hok ad _ (sg _ _ hd))
  obtain ⟨o,es,ep,h1,h2,_⟩:=p
  exact PySem.W.kia_one PySem.W.kitx_dict I.kIn ⟨o,h1,h2.1⟩ ek (fun z=>nomatch z) h
 | @dtt ad ob ks vs ds kvs e0 _ hd _ =>
  cases rv
  subst e0
  obtain ⟨_,_,_,xs,_,o,es,ep,h1,h2,_⟩:=(show zb1 X.prog X.w H s.heap ad (.frz ob (.dT (ks.zip _))) from I.hok ad _ (sg _ _ hd))
  exact PySem.W.kia_one PySem.W.kitx_dict I.kIn ⟨o,h1,h2.1⟩ ek (fun z=>nomatch z) h
theorem zkz (c:String) (hc:c = "int" ∨ c = "bool" ∨ c = "str" ∨ c = "list" ∨ c = "tuple" ∨ c = "dict"):typeOf (.type c)=pure (.type "type"):=by
 rcases hc with rfl | rfl | rfl | rfl | rfl | rfl <;> kernel_rfl
theorem zjc:zcu X (.builtin "isinstance") (fun xs H Q=>∃ v c G d,xs=[v,.ty c]/\Same G H/\Rep X.K G v d/\(c = "int" ∨ c = "bool" ∨ c = "str" ∨ c = "list" ∨ c = "tuple" ∨ c = "dict")/\Q (.bl (isTy d c)) H):=by
 intro pins s σ H xs us Q I r h
 obtain ⟨v,c,G,d,rfl,sg,rp,hc,q⟩:=h
 obtain ⟨u,w',rfl,r1,r2⟩:=zkb r
 cases (show w'=Value.type c from r2)
 by_cases nx:zhN d=true
 ·cases rp with
  | @exc a C dd bm nm vs ds ck hx hd rr =>
   refine zi5 (zmG I.ok.mod.kin) pins s σ H [.ref a,.ty c] [u,.type c] Q I r ⟨a,C,dd,bm,false,.ty c,false,rfl,⟨nm,ck⟩,sg _ _ hx,.inr ⟨c,rfl,zkz c hc,?_⟩,?_⟩
   ·rw [ck.ty];rcases hc with rfl | rfl | rfl | rfl | rfl | rfl <;> rfl
   ·have e:isTy (.dict [(.none,.tuple [.str nm,.list ds])]) c=false:=by rcases hc with rfl | rfl | rfl | rfl | rfl | rfl <;> rfl
    rw [e] at q;exact q
  | dct e _ _ _ _=>subst e;rw [zjT.2] at nx;cases nx
  | dtt e _ _ _=>subst e;cases nx
  | _=>cases nx
 ·have nx:zhN d=false:=by simpa using nx
  exact zky I sg rp r1 nx (zkx X.K d c nx hc) fun tk=>⟨.bl _,H,I.tok tk,rfl,q⟩
theorem zdj:bootBuiltins "isinstance" = some (.builtin "isinstance"):=by decide +kernel
theorem zaE {f:M D} {p2 p3:Pos} {c:String} (hc:c = "int" ∨ c = "bool" ∨ c = "str" ∨ c = "list" ∨ c = "tuple" ∨ c = "dict") (hg:Gl X "isinstance") (hm:X.mg "isinstance" = none) (hg2:Gl X (Str.ofString c)) (hm2:X.mg (Str.ofString c)=none)
  (hv2:bootBuiltins (Str.ofString c)=some (.type c)) (ha:PE X e (tD X.K B G0 f)) (hn2:(Str.ofString c) ≠ "__name__") (hd2:((Str.ofString c) == ("__debug__" : Str))=false)
  (hs:starEach [e,.Name (Str.ofString c) p3] X.env=(false,eval e X.env) :: starEach [.Name (Str.ofString c) p3] X.env:=by rfl)
  (hs2:starEach [.Name (Str.ofString c) p3] X.env=[(false,eval (.Name (Str.ofString c) p3) X.env)]:=by rfl) :
  PE X (.Call (.Name "isinstance" p2) [e,.Name (Str.ofString c) p3] [] pos) (tD X.K B G0 (mMap (fun d=>.bool (isTy d c)) f)):=by
 refine peof (zcC zjc hg hm zdj (zb2 ha (zb2 (zj5 (v:=.ty c) hg2 hm2 hv2 rfl hn2 hd2) zdp (by rw [hs2];rfl)) hs) (by decide) (by decide) hs (by rw [hs2];rfl)) fun σ H Q q=>?_
 refine tM.one (R:=Rep X.K) q fun v H2 G ρ x k r a=>?_
 exact ⟨v,c,G,x,rfl,k.gh,r,hc,aft.now a k (.bl _)⟩
end
def spD (K:PySem.W.Frag) (n:Nat) (F:List D->Option D):Sp:=fun vs H Q _=>∃ G ds d,vs.length=n/\Same G H/\Reps K G vs ds/\F ds=some d/\∀ v G' H',Ext G H G' H'->Rep K G' v d->Q v H'
section
variable {K:PySem.W.Frag} {B G0 G H:Hp} {σ : St} {ρ : DEnv}
theorem EOk.exit (k:EOk K B G0 G H σ ρ):Ext G0 B G H:=⟨k.bh,k.g0,k.gh,k.np⟩
theorem zam {α : Type} {l:List α} {i:Nat} {x y : α} (h:(l.set i x)[i]?=some y):y=x:=by
 by_cases hl:i < l.length
 ·rw [List.getElem?_set_self hl] at h;cases h;rfl
 ·rw [List.getElem?_eq_none (by rw [List.length_set];omega)] at h;cases h
theorem DpOk.setOther {i:Nat} {x:Option V} {y:Option Sl} (k:DpOk K B G H σ ρ) (hy:∀ s,y=some s->∃ d,s=.pub d):DpOk K B G H (σ.set i x) (ρ.set i y):=by
 have nz:∀ {m:Nat} {s:Sl},(ρ.set i y)[m]?=some (some s)->(∃ d,s=.pub d) ∨ (ρ[m]?=some (some s)/\(σ.set i x)[m]? = σ[m]?):=fun {m s} q=>by
  by_cases z:i=m
  ·subst z
   exact .inl (hy s (zam q).symm)
  ·rw [List.getElem?_set_ne z] at q ⊢;exact .inr ⟨q,rfl⟩
 refine k.map (fun m p d q=>?_) (fun m es q=>?_) fun m p d v fp q s r w n=>⟨r,w⟩
 ·rcases nz q with ⟨_,e⟩ | q
  ·cases e
  ·exact q
 ·rcases nz q with ⟨_,e⟩ | q
  ·cases e
  ·exact ⟨es,q⟩
theorem EOk.setPub {i:Nat} {v:V} {d:D} (k:EOk K B G0 G H σ ρ) (r:Rep K G v d) (hi:i < ρ.length):EOk K B G0 G H (σ.set i (some v)) (ρ.set i (some (.pub d))) where
 bh:=k.bh
 gh:=k.gh
 g0:=k.g0
 np:=k.np
 len:=by rw [List.length_set,List.length_set];exact k.len
 pub:=fun j d' q=>by
  by_cases z:i=j
  ·subst z
   have:=zam q
   cases this
   exact ⟨v,List.getElem?_set_self (by rw [← k.len];exact hi),r⟩
  ·rw [List.getElem?_set_ne z] at q ⊢
   exact k.pub j d' q
 own:=fun j ds q=>by
  by_cases z:i=j
  ·subst z
   have:=zam q
   cases this
  ·rw [List.getElem?_set_ne z] at q ⊢
   exact k.own j ds q
 sep:=fun j l c es fs q1 q2 s1 s2=>by
  have z1:i ≠ j:=fun z=>by subst z;have:=zam q1;cases this
  have z2:i ≠ l:=fun z=>by subst z;have:=zam q2;cases this
  rw [List.getElem?_set_ne z1] at q1 s1
  rw [List.getElem?_set_ne z2] at q2 s2
  exact k.sep j l c es fs q1 q2 s1 s2
 dp:=k.dp.setOther (fun s e=>by cases e;exact ⟨_,rfl⟩)
structure NewL (K:PySem.W.Frag) (B G H:Hp) (σ : St) (ρ : DEnv) (a:Addr) (vs:List V) (ds:List D):Prop where
 b:B a=none
 g:G a=none
 h:H a=some (.lst vs)
 r:Reps K G vs ds
 f:∀ (j:Nat) es,ρ[j]?=some (some (.own es)) -> σ[j]? ≠ some (some (.ref a))
 dp:∀ (j:Nat) p d v fp,ρ[j]?=some (some (.deep p d)) -> σ[j]?=some (some v)->RepO K G H p v d fp->a ∉ fp
theorem EOk.freshD {H':Hp} {a:Addr} (k:EOk K B G0 G H σ ρ) (e:Same H H') (ha:H a=none) {G':Hp} {j:Nat} {p:Pat} {d:D} {v:V} {fp:List Addr} (q : ρ[j]?=some (some (.deep p d))) (s : σ[j]?=some (some v)) (r:RepO K G' H' p v d fp):a ∉ fp:=fun m=>by
 obtain ⟨ω,k1,k2⟩:=k.dp
 obtain ⟨v',fp',s',r',n,w⟩:=k1 j p d q
 rw [s] at s'
 cases s'
 have u:=r'.uniq e r
 subst u
 obtain ⟨ws,hl⟩:=r'.isl a m
 rw [ha] at hl
 cases hl
theorem EOk.setOwn {i:Nat} {a:Addr} {vs:List V} {ds:List D} (k:EOk K B G0 G H σ ρ) (n:NewL K B G H σ ρ a vs ds) (hi:i < ρ.length):EOk K B G0 G H (σ.set i (some (.ref a))) (ρ.set i (some (.own ds))) where
 bh:=k.bh
 gh:=k.gh
 g0:=k.g0
 np:=k.np
 len:=by rw [List.length_set,List.length_set];exact k.len
 pub:=fun j d' q=>by
  by_cases z:i=j
  ·subst z
   have:=zam q
   cases this
  ·rw [List.getElem?_set_ne z] at q ⊢
   exact k.pub j d' q
 own:=fun j es q=>by
  by_cases z:i=j
  ·subst z
   have:=zam q
   cases this
   exact ⟨a,vs,List.getElem?_set_self (by rw [← k.len];exact hi),n.b,n.g,n.h,n.r⟩
  ·rw [List.getElem?_set_ne z] at q ⊢
   exact k.own j es q
 sep:=fun j l c es fs q1 q2 s1 s2=>by
  have hs:i < σ.length:=by rw [← k.len];exact hi
  by_cases z1:i=j
  ·subst z1
   rw [List.getElem?_set_self hs] at s1
   cases s1
   by_cases z2:i=l
   ·exact z2
   ·rw [List.getElem?_set_ne z2] at q2 s2
    exact absurd s2 (n.f l fs q2)
  ·by_cases z2:i=l
   ·subst z2
    rw [List.getElem?_set_self hs] at s2
    cases s2
    rw [List.getElem?_set_ne z1] at q1 s1
    exact absurd s1 (n.f j es q1)
   ·rw [List.getElem?_set_ne z1] at q1 s1
    rw [List.getElem?_set_ne z2] at q2 s2
    exact k.sep j l c es fs q1 q2 s1 s2
 dp:=by
  obtain ⟨ω,k1,k2⟩:=k.dp
  have hs:i < σ.length:=by rw [← k.len];exact hi
  refine ⟨fun b=>if b=a then i else ω b,fun j p d q=>?_,fun j es b q s=>?_⟩
  ·by_cases z:i=j
   ·subst z;have:=zam q;cases this
   ·rw [List.getElem?_set_ne z] at q ⊢
    obtain ⟨v,fp,s,r,nn,w⟩:=k1 j p d q
    refine ⟨v,fp,s,r,nn,fun b m=>⟨(w b m).1,(w b m).2.1,?_⟩⟩
    dsimp only
    rw [if_neg (fun z=>n.dp j p d v fp q s r (by rw [← z];exact m))]
    exact (w b m).2.2
  ·by_cases z:i=j
   ·subst z
    rw [List.getElem?_set_self hs] at s
    cases s
    dsimp only
    rw [if_pos rfl]
   ·rw [List.getElem?_set_ne z] at q s
    dsimp only
    rw [if_neg (fun e=>n.f j es q (by rw [← e];exact s))]
    exact k2 j es b q s
theorem EOk.change {i:Nat} {a:Addr} {vs:List V} {ds es:List D} (k:EOk K B G0 G H σ ρ) (q : ρ[i]?=some (some (.own ds))) (ha : σ[i]?=some (some (.ref a))) (r:Reps K G vs es) :
  EOk K B G0 G (upd H a (.lst vs)) σ (ρ.set i (some (.own es))):=by
 obtain ⟨a',ws,h1,h2,h3,h4,h5⟩:=k.own i ds q
 rw [ha] at h1
 cases h1
 have hi:i < ρ.length:=(List.getElem?_eq_some_iff.mp q).1
 refine ⟨fun b o e=>?_,fun b o e=>?_,k.g0,k.np,by rw [List.length_set];exact k.len,fun j d' e=>?_,fun j fs e=>?_,fun j l c fs gs q1 q2 s1 s2=>?_,?_⟩
 ·rw [zar (zax e h2)];exact k.bh b o e
 ·rw [zar (zax e h3)];exact k.gh b o e
 ·by_cases z:i=j
  ·subst z
   have:=zam e
   cases this
  ·rw [List.getElem?_set_ne z] at e
   exact k.pub j d' e
 ·by_cases z:i=j
  ·subst z
   have:=zam e
   cases this
   exact ⟨a,vs,ha,h2,h3,zas,r⟩
  ·rw [List.getElem?_set_ne z] at e
   obtain ⟨c,us,g1,g2,g3,g4,g5⟩:=k.own j fs e
   have zc:c ≠ a:=fun w=>z (k.sep i j a ds fs q e ha (by rw [← w];exact g1))
   exact ⟨c,us,g1,g2,g3,by rw [zar zc];exact g4,g5⟩
 ·have f:∀ {m:Nat} {ts:List D},(ρ.set i (some (Sl.own es)))[m]?=some (some (.own ts))->∃ ts',ρ[m]?=some (some (.own ts')):=fun {m ts} e=>by
   by_cases z:i=m
   ·subst z;exact ⟨ds,q⟩
   ·rw [List.getElem?_set_ne z] at e;exact ⟨ts,e⟩
  obtain ⟨f1,w1⟩:=f q1
  obtain ⟨f2,w2⟩:=f q2
  exact k.sep j l c f1 f2 w1 w2 s1 s2
 ·refine k.dp.map (fun j p d e=>?_) (fun j fs e=>?_) fun j p d v fp qj s rj w n=>⟨rj.upd (fun _ z=>by rw [h4] at z;cases z) (n i ds a q ha),w⟩
  ·by_cases z:i=j
   ·subst z;have:=zam e;cases this
   ·rw [List.getElem?_set_ne z] at e;exact ⟨e,rfl⟩
  ·by_cases z:i=j
   ·subst z;exact ⟨ds,q,rfl⟩
   ·rw [List.getElem?_set_ne z] at e;exact ⟨fs,e,rfl⟩
end
inductive Out where
 | nx (ρ : DEnv) | rt (d:D) | bk (ρ : DEnv) | ct (ρ : DEnv) | ex (ρ : DEnv) (d:D) | bad
abbrev SM:=DEnv->Out
section
variable (K:PySem.W.Frag) (B G0:Hp) (KX:XW)
def aftS (o:Out) (G1:Hp) (Dn:Ends):Prop :=
 match o with
 | .nx ρ=>∀ σ G H,EOk K B G0 G H σ ρ -> Same G1 G->Dn.nx σ H
 | .bk ρ=>∀ σ G H,EOk K B G0 G H σ ρ -> Same G1 G->Dn.bk σ H
 | .ct ρ=>∀ σ G H,EOk K B G0 G H σ ρ -> Same G1 G->Dn.ct σ H
 | .rt d=>∀ v G H,Ext G0 B G H->Rep K G v d->Dn.rt v H
 | .ex ρ d=>∀ v σ G H,EOk K B G0 G H σ ρ -> Same G1 G->Rep K G v d->KX v σ H
 | .bad=>False
def tS (g:SM):TS:=fun Dn σ H=>∃ G ρ,EOk K B G0 G H σ ρ /\ aftS K B G0 KX (g ρ) G Dn
def sB {α : Type} (f:M α) (g : α -> SM):SM:=fun ρ=>match f ρ with | .ok a ρ'=>g a ρ' | .bad=>.bad
end
section
variable {X:Cx} {B G0:Hp} {KX:XW} {e a b c:Expr} {pos:Pos} {es rest:List Expr} {st:Stmt} {sts sts2:List Stmt}
theorem aftS.mono {K:PySem.W.Frag} {o:Out} {G G':Hp} {Dn:Ends} (e:Same G G') (h:aftS K B G0 KX o G Dn):aftS K B G0 KX o G' Dn:=by
 cases o with
 | nx ρ=>exact fun σ G2 H2 k s=>h σ G2 H2 k (e.trans s)
 | bk ρ=>exact fun σ G2 H2 k s=>h σ G2 H2 k (e.trans s)
 | ct ρ=>exact fun σ G2 H2 k s=>h σ G2 H2 k (e.trans s)
 | rt d=>exact h
 | ex ρ d=>exact fun v σ G2 H2 k s r=>h v σ G2 H2 k (e.trans s) r
 | bad=>exact h
theorem tS.bnd {K:PySem.W.Frag} {α γ : Type} {R:Hp -> γ -> α -> Prop} {f:M α} {g : α -> SM} {Dn:Ends} {σ : St} {H:Hp} {P : γ -> Hp->Prop} (q:tS K B G0 KX (sB f g) Dn σ H)
  (i:∀ v H' G' ρ' x,EOk K B G0 G' H' σ ρ'->R G' v x->aftS K B G0 KX (g x ρ') G' Dn->P v H'):tM K B G0 R f σ H P:=by
 obtain ⟨G,ρ,k,a⟩:=q
 refine ⟨G,ρ,k,?_⟩
 unfold sB at a
 cases z:f ρ with
 | bad=>rw [z] at a;exact a.elim
 | ok d ρ1 =>
  rw [z] at a
  exact fun v G' H' e s r=>i v H' G' ρ1 d e r (aftS.mono s a)
def sNx:SM:=fun ρ=>.nx ρ
def sSeq (g h:SM):SM:=fun ρ=>match g ρ with | .nx ρ'=>h ρ' | o=>o
theorem za2:PSs X [] (tS X.K B G0 KX sNx):=zgT zj7 fun D σ H ⟨G,ρ,k,a⟩=>a σ G H k (.refl _)
theorem zao {g h:SM} (h1:PS X st (tS X.K B G0 KX g)) (h2:PSs X sts (tS X.K B G0 KX h)):PSs X (st :: sts) (tS X.K B G0 KX (sSeq g h)):=zgT (zew h1 h2) fun D σ H ⟨G,ρ,k,a⟩=>by
 refine ⟨G,ρ,k,?_⟩
 unfold sSeq at a
 cases z:g ρ with
 | nx ρ1=>rw [z] at a;exact fun σ' G' H' k' s'=>⟨G',ρ1,k',aftS.mono s' a⟩
 | rt d=>rw [z] at a;exact a
 | bk ρ1=>rw [z] at a;exact a
 | ct ρ1=>rw [z] at a;exact a
 | ex ρ1 d=>rw [z] at a;exact a
 | bad=>rw [z] at a;exact a.elim
theorem zaq {g:SM} (h1:PS X st (tS X.K B G0 KX g)):PSs X [st] (tS X.K B G0 KX g):=zfT h1
def zeb:SM:=fun _=>.bad
theorem zcD:PS X st (tS X.K B G0 KX zeb):=fun _ _ _ _ _ _ ⟨_,_,_,a⟩=>a.elim
def sRet (f:M D):SM:=sB f fun d _=>.rt d
theorem zaH {f:M D} (h:PE X e (tD X.K B G0 f)):PS X (.Return (some e) pos) (tS X.K B G0 KX (sRet f)):=psof (zhn h) fun D σ H q=>tS.bnd (R:=Rep X.K) q fun v H' G' ρ' x k r a=>a v G' H' k.exit r
def zdk (f:M D):SM:=sB f fun _ ρ=>.nx ρ
theorem zdw {f:M D} (h:PE X e (tD X.K B G0 f)) (hs:swapsWith e none pos.line X.env=pure false:=by rfl):PS X (.Expr e pos) (tS X.K B G0 KX (zdk f)):=psof (zdo h hs) fun D σ H q=>tS.bnd (R:=Rep X.K) q fun v H' G' ρ' x k r a=>a σ G' H' k (.refl _)
def sIf (f:M Bool) (g h:SM):SM:=sB f fun t=>if t=true then g else h
theorem zbL {f:M Bool} {g h:SM} (hc:PT X c (tBo X.K B G0 f)) (ha:PSs X sts (tS X.K B G0 KX g)) (hb:PSs X sts2 (tS X.K B G0 KX h)):PS X (.If c sts sts2 pos) (tS X.K B G0 KX (sIf f g h)) :=
 psof (zmp hc ha hb) fun D σ H q=>tS.bnd (R:=fun _ b c=>b=c) q fun v H' G' ρ' x k r a=>by
  have r:v=x:=r
  subst r
  cases v with
  | true=>exact ⟨G',ρ',k,a⟩
  | false=>exact ⟨G',ρ',k,a⟩
def tG (K:PySem.W.Frag) (B G0:Hp) (s:D->DEnv->Option DEnv):TG:=fun v σ H Q=>∃ G ρ d ρ',EOk K B G0 G H σ ρ /\ Rep K G v d/\s d ρ = some ρ'/\∀ σ' G' H',EOk K B G0 G' H' σ' ρ'->Same G G'->Q σ' H'
def tGs (K:PySem.W.Frag) (B G0:Hp) (s:List D->DEnv->Option DEnv):TGs:=fun v σ H Q=>∃ G ρ d ρ',EOk K B G0 G H σ ρ /\ Reps K G v d/\s d ρ = some ρ'/\∀ σ' G' H',EOk K B G0 G' H' σ' ρ'->Same G G'->Q σ' H'
theorem pgof {t t':TG} (h:PG X e t) (i:∀ v σ H Q,t' v σ H Q->t v σ H Q):PG X e t':=fun pins s σ H v u Q I r q=>h pins s σ H v u Q I r (i v σ H Q q)
theorem zlQ {t t':TGs} (h:PGs X es t) (i:∀ v σ H Q,t' v σ H Q->t v σ H Q):PGs X es t':=fun pins s σ H v u Q I r q=>h pins s σ H v u Q I r (i v σ H Q q)
def gN (i:Nat):D->DEnv->Option DEnv:=fun d ρ=>if i < ρ.length then some (ρ.set i (some (.pub d))) else none
theorem zav {i:Nat} (h:PG X e (zj8 i)):PG X e (tG X.K B G0 (gN i)):=pgof h fun v σ H Q ⟨G,ρ,d,ρ',k,r,e,q⟩=>by
 unfold gN at e
 split at e
 ·rename_i hi
  cases e
  exact q _ G H (k.setPub r hi) (.refl _)
 ·cases e
def gN0:List D->DEnv->Option DEnv:=fun d ρ=>match d with | []=>some ρ | _=>none
def gNC (s:D->DEnv->Option DEnv) (t:List D->DEnv->Option DEnv):List D->DEnv->Option DEnv:=fun ds ρ=>match ds with | d :: r=>(s d ρ).bind (t r) | []=>none
theorem zec:PGs X [] (tGs X.K B G0 gN0):=zlQ zj9 fun v σ H Q ⟨G,ρ,d,ρ',k,r,e,q⟩=>by
 cases r with
 | nil=>cases e;exact ⟨rfl,q σ G H k (.refl _)⟩
 | cons _ _=>cases e
theorem zbp {s:D->DEnv->Option DEnv} {t:List D->DEnv->Option DEnv} (h1:PG X e (tG X.K B G0 s)) (h2:PGs X es (tGs X.K B G0 t))
  (hs:(assignEach (e :: es) X.env).map (·.2)=assign e X.env :: (assignEach es X.env).map (·.2):=by rfl):PGs X (e :: es) (tGs X.K B G0 (gNC s t)):=zlQ (ziX h1 h2 hs) fun v σ H Q ⟨G,ρ,d,ρ',k,r,e,q⟩=>by
 cases r with
 | nil=>cases e
 | @cons w dw ws dws rw rt =>
  unfold gNC at e
  dsimp only at e
  cases z:s dw ρ with
  | none=>rw [z] at e;cases e
  | some ρ1 =>
   rw [z] at e
   refine ⟨w,ws,rfl,G,ρ,dw,ρ1,k,rw,z,fun σ' G' H' k' s'=>?_⟩
   exact ⟨G',ρ1,dws,ρ',k',rt.mono s',e,fun σ2 G2 H2 k2 s2=>q σ2 G2 H2 k2 (s'.trans s2)⟩
def gT (n:Nat) (t:List D->DEnv->Option DEnv):D->DEnv->Option DEnv:=fun d ρ=>match d with | .tuple ds=>if ds.length=n then t ds ρ else none | _=>none
theorem zed {k1:Nat} {t:List D->DEnv->Option DEnv} {n:Nat} (hc:X.calm=true) (h:PGs X es (tGs X.K B G0 t))
  (hn:(assignEach es X.env).length=n:=by rfl) (hst:(assignEach es X.env).findIdx? (·.1)=none:=by rfl):PG X (.Tuple es k1 pos) (tG X.K B G0 (gT n t)):=pgof (zlq hc h hn hst) fun v σ H Q ⟨G,ρ,d,ρ',k,r,e,q⟩=>by
 unfold gT at e
 split at e
 ·split at e
  ·rename_i hl
   obtain ⟨ad,vs,rfl,h1,r1⟩:=r.tup_inv
   exact ⟨ad,vs,rfl,zcY k.gh h1,by rw [r1.length];exact hl,G,ρ,_,ρ',k,r1,e,q⟩
  ·cases e
 ·cases e
def sAsg (f:M D) (s:D->DEnv->Option DEnv):SM:=sB f fun d ρ=>match s d ρ with | some ρ'=>.nx ρ' | none=>.bad
theorem zlR {tg:Expr} {f:M D} {s:D->DEnv->Option DEnv} (he:PE X e (tD X.K B G0 f)) (hg:PG X tg (tG X.K B G0 s)) (hs:swapsWithSole [tg] e pos.line X.env=pure false:=by rfl) (hw:swappedStores [tg] e X.env=pure none:=by rfl)
  (h1:(assignEach [tg] X.env).map (·.2)=[assign tg X.env]:=by rfl):PS X (.Assign [tg] e pos) (tS X.K B G0 KX (sAsg f s)) :=
 psof (zlr he hg hs hw h1) fun D σ H q=>tS.bnd (R:=Rep X.K) q fun v H' G' ρ' x k r a=>by
  cases z:s x ρ' with
  | none=>rw [z] at a;exact a.elim
  | some ρ2=>rw [z] at a;exact ⟨G',ρ',x,ρ2,k,r,z,fun σ2 G2 H2 k2 s2=>a σ2 G2 H2 k2 s2⟩
def sSet (i:Nat) (f:M D):SM:=sAsg f (gN i)
theorem zce {i:Nat} {x:Str} {f:M D} {p2:Pos} (hN:X.N.Nodup) (hi:X.N[i]?=some x) (hx:Loc X.env.scope x) (he:PE X e (tD X.K B G0 f)) (hs:swapsWith e (some (.Name x p2)) pos.line X.env=pure false:=by rfl)
  (hf:X.fn x=true ∨ X.env.scope.names.lookup x=some .local:=by first | exact .inl rfl | exact .inr rfl | assumption):PS X (.Assign [.Name x p2] e pos) (tS X.K B G0 KX (sSet i f)) :=
 psof (zho hN hi hx he hs hf) fun D σ H q=>tS.bnd (R:=Rep X.K) q fun v H' G' ρ' x k r a=>by
  unfold gN at a
  split at a
  ·rename_i ρ2 hz
   split at hz
   ·rename_i hi2
    cases hz
    exact a _ G' H' (k.setPub r hi2) (.refl _)
   ·cases hz
  ·exact a.elim
def tL (K:PySem.W.Frag) (B G0:Hp) (f:M (List D)):TE:=fun σ H Q=>∃ G ρ,EOk K B G0 G H σ ρ /\ match f ρ with
 | .ok ds ρ'=>∀ a vs G' H',EOk K B G0 G' H' σ ρ'->Same G G'->NewL K B G' H' σ ρ' a vs ds->Q (.ref a) H'
 | .bad=>False
def zbR (i:Nat) (f:M (List D)):SM:=sB f fun ds ρ=>if i < ρ.length then .nx (ρ.set i (some (.own ds))) else .bad
theorem zcz {i:Nat} {x:Str} {f:M (List D)} {p2:Pos} (hN:X.N.Nodup) (hi:X.N[i]?=some x) (hx:Loc X.env.scope x) (he:PE X e (tL X.K B G0 f)) (hs:swapsWith e (some (.Name x p2)) pos.line X.env=pure false:=by rfl)
  (hf:X.fn x=true ∨ X.env.scope.names.lookup x=some .local:=by first | exact .inl rfl | exact .inr rfl | assumption):PS X (.Assign [.Name x p2] e pos) (tS X.K B G0 KX (zbR i f)) :=
 psof (zho hN hi hx he hs hf) fun D σ H ⟨G,ρ,k,a⟩=>by
  refine ⟨G,ρ,k,?_⟩
  unfold zbR sB at a
  cases z:f ρ with
  | bad=>rw [z] at a;exact a.elim
  | ok ds ρ1 =>
   rw [z] at a
   intro ad vs G' H' k' s' n
   dsimp only at a
   split at a
   ·rename_i hl
    exact a _ G' H' (k'.setOwn n hl) s'
   ·exact a.elim
theorem NewL.of {K:PySem.W.Frag} {G H:Hp} {σ : St} {ρ : DEnv} {p:Addr} {vs:List V} {ds:List D} (k:EOk K B G0 G H σ ρ) (hp:H p=none) (r:Reps K G vs ds):NewL K B G (upd H p (.lst vs)) σ ρ p vs ds where
 b:=k.bh.free hp
 g:=k.gh.free hp
 h:=zas
 r:=r
 f:=fun j es q z=>by
  obtain ⟨a,ws,h1,h2,h3,h4,h5⟩:=k.own j es q
  rw [z] at h1
  cases h1
  rw [hp] at h4;cases h4
 dp:=fun j pt d v fp q s rr=>k.freshD (zaz hp) hp q s rr
theorem zdx {f:M (List D)} (h:PA X es (tDs X.K B G0 f)):PE X (.List es pos) (tL X.K B G0 (zap f fun xs=>if xs.length<=1000000 then zae xs else fun _=>.bad)) :=
 peof (zjO h) fun σ H Q ⟨G,ρ,k,a⟩=>by
  refine ⟨G,ρ,k,?_⟩
  unfold zap at a
  cases z:f ρ with
  | bad=>rw [z] at a;exact a.elim
  | ok ds ρ1 =>
   rw [z] at a
   dsimp only at a
   intro v G' H' k' s' r
   by_cases c:ds.length<=1000000
   ·rw [if_pos c] at a
    refine ⟨by rw [r.length];exact Nat.le_trans c lim,fun p hp=>?_⟩
    exact a p v G' _ (k'.ext (Ext.hid k'.gh hp)) s' (NewL.of k' hp r)
   ·rw [if_neg c] at a;exact a.elim
def sApp (i:Nat) (f:M D):SM:=fun ρ0=>match ρ0[i]? with
 | some (some (.own _))=>sB f (fun d ρ=>match ρ[i]? with
  | some (some (.own ds))=>if ds.length < 1000000 then .nx (ρ.set i (some (.own (ds ++ [d])))) else .bad
  | _=>.bad) ρ0
 | _=>.bad
theorem zee {i:Nat} {f:M D} {o:Expr} {apos cpos:Pos} (ho:PE X o (tVar i)) (he:PE X e (tD X.K B G0 f))
  (hbase:attributeBase o "append" X.env (eval o X.env)=eval o X.env:=by rfl)
  (hfew:((backTo cpos (starEach [e] X.env)).all (fun x=>!x.1) && (backToKw cpos (keywordEach [] X.env)).all (fun x=>x.1.isSome)
   && decide ([e].length+([]:List Keyword).length+(if ([]:List Keyword).isEmpty then 0 else 1) < 30))=true:=by rfl)
  (hline:(apos.endLine == cpos.line)=true:=by rfl) (hs:starEach [e] X.env=[(false,eval e X.env)]:=by rfl)
  (hsw:swapsWith (.Call (.Attribute o "append" apos) [e] [] cpos) none pos.line X.env=pure false:=by rfl) :
  PS X (.Expr (.Call (.Attribute o "append" apos) [e] [] cpos) pos) (tS X.K B G0 KX (sApp i f)) :=
 psof (zdo (zlE PySem.F.plainAttrs_list PySem.F.slot_list_append PySem.F.type_list_append zdr ho (zb2 he zdp (by rw [hs];rfl)) hbase hfew hline (by rw [hs];rfl) rfl) hsw) fun D σ H ⟨G,ρ,k,a⟩=>by
  unfold sApp at a
  cases q0 : ρ[i]? with
  | none=>rw [q0] at a;exact a.elim
  | some o0 =>
   cases o0 with
   | none=>rw [q0] at a;exact a.elim
   | some sl0 =>
    cases sl0 with
    | deep _ _=>rw [q0] at a;exact a.elim
    | pub d=>rw [q0] at a;exact a.elim
    | own ds0 =>
     rw [q0] at a
     obtain ⟨ad,vs0,h1,h2,h3,h4,h5⟩:=k.own i ds0 q0
     refine ⟨.ref ad,h1,.inl ⟨rfl,_,SqL.of h4⟩,G,ρ,k,?_⟩
     unfold sB at a
     cases z:f ρ with
     | bad=>rw [z] at a;exact a.elim
     | ok d ρ1 =>
      rw [z] at a
      dsimp only at a
      intro v G' H' k' s' r'
      cases q : ρ1[i]? with
      | none=>rw [q] at a;exact a.elim
      | some o =>
       cases o with
       | none=>rw [q] at a;exact a.elim
       | some sl =>
        cases sl with
        | deep _ _=>rw [q] at a;exact a.elim
        | pub d=>rw [q] at a;exact a.elim
        | own ds =>
         rw [q] at a
         dsimp only at a
         split at a
         ·rename_i hl
          obtain ⟨ad',vs,g1,g2,g3,g4,g5⟩:=k'.own i ds q
          rw [h1] at g1
          cases g1
          refine ⟨ad,vs,v,rfl,rfl,g4,by rw [g5.length];exact Nat.lt_of_lt_of_le hl lim,?_⟩
          exact a σ G' _ (k'.change q h1 (g5.append (.cons r' .nil))) s'
         ·exact a.elim
end
structure zdy (K:PySem.W.Frag) (J:It) (ds:List D) (G1:Hp):Prop where
 go:∀ i G H,Same G1 G->Same G H->i < ds.length->J.go i H
 stop:∀ i G H,Same G1 G->Same G H->ds.length<=i->J.stop i H
 yld:∀ i G H x H' d,Same G1 G->Same G H->ds[i]?=some d->J.yld i H x H'->∃ G',Ext G H G' H'/\Rep K G' x d
def iD (K:PySem.W.Frag) (B G0:Hp) (f:M (List D)):TI:=fun σ H R=>∃ G ρ,EOk K B G0 G H σ ρ /\ match f ρ with
 | .ok ds ρ'=>∀ J G' H',EOk K B G0 G' H' σ ρ'->Same G G'->zdy K J ds G'->R J H'
 | .bad=>False
section
variable {X:Cx} {B G0:Hp} {KX:XW} {e a b c tg:Expr} {pos:Pos} {es rest:List Expr} {st:Stmt} {sts sts2:List Stmt}
theorem piof {t t':TI} (h:PI X tg e t) (i:∀ σ H R,t' σ H R->t σ H R):PI X tg e t':=fun pins s σ H R I q=>h pins s σ H R I (i σ H R q)
theorem tM.toI {K:PySem.W.Frag} {α γ : Type} {R0:Hp -> γ -> α -> Prop} {f:M α} {g : α -> M (List D)} {σ : St} {H:Hp} {R:It->Hp->Prop} {P : γ -> Hp->Prop} (q:iD K B G0 (zap f g) σ H R)
  (i:∀ v H' G' ρ' x,EOk K B G0 G' H' σ ρ'->R0 G' v x->(match g x ρ' with
   | .ok ds ρ2=>∀ J G2 H2,EOk K B G0 G2 H2 σ ρ2->Same G' G2->zdy K J ds G2->R J H2
   | .bad=>False)->P v H'):tM K B G0 R0 f σ H P:=by
 obtain ⟨G,ρ,k,a⟩:=q
 refine ⟨G,ρ,k,?_⟩
 unfold zap at a
 cases z:f ρ with
 | bad=>rw [z] at a;exact a.elim
 | ok d ρ1 =>
  rw [z] at a
  intro v G' H' e s r
  refine i v H' G' ρ1 d e r ?_
  dsimp only at a
  cases z2:g d ρ1 with
  | bad=>rw [z2] at a;exact a.elim
  | ok ds ρ2 =>
   rw [z2] at a
   exact fun J G2 H2 k2 s2 it=>a J G2 H2 k2 (s.trans s2) it
theorem zgW {K:PySem.W.Frag} {G1:Hp} {ad:Addr} {vs:List V} {ds:List D} (h:SqL K G1 ad vs) (r:Reps K G1 vs ds):zdy K (Itl K ad) ds G1 where
 go:=fun i G H s1 s2 hi=>by
  have hi':i < vs.length:=by rw [r.length];exact hi
  exact ⟨vs,vs[i],(s1.trans s2).seq h,List.getElem?_eq_getElem hi'⟩
 stop:=fun i G H s1 s2 hi=>⟨vs,(s1.trans s2).seq h,by rw [r.length];exact hi⟩
 yld:=fun i G H x H' d s1 s2 e y=>by
  obtain ⟨rfl,y⟩:=y
  obtain ⟨v,e1,r1⟩:=r.get e
  have:=y vs ((s1.trans s2).seq h)
  rw [e1] at this
  cases this
  exact ⟨G,.refl s2,r1.mono s1⟩
def zaU (lo hi:Int):List D:=(List.range (hi - lo).toNat).map fun (k:Nat)=>.int (lo+k)
theorem zaD (lo hi:Int):(zaU lo hi).length=(hi - lo).toNat:=by unfold zaU;rw [List.length_map,List.length_range]
theorem zdz {K:PySem.W.Frag} {G1:Hp} (lo hi:Int):zdy K (Itr lo (hi - lo).toNat) (zaU lo hi) G1 where
 go:=fun i G H s1 s2 h=>by rw [zaD] at h;exact h
 stop:=fun i G H s1 s2 h=>by rw [zaD] at h;exact h
 yld:=fun i G H x H' d s1 s2 e y=>by
  obtain ⟨rfl,rfl⟩:=y
  unfold zaU at e
  rw [List.getElem?_map] at e
  have hi:i < (List.range (hi - lo).toNat).length:=by
   refine Nat.lt_of_not_le fun z=>?_
   rw [List.getElem?_eq_none z] at e
   cases e
  rw [List.getElem?_eq_getElem hi,List.getElem_range] at e
  cases e
  exact ⟨G,.refl s2,.int _⟩
def zgX:List D->Option (List D)
 | [.int j]=>if j<=1000000 /\ -1000000<=j then some (zaU 0 j) else none
 | _=>none
def zgY:List D->Option (List D)
 | [.int i,.int j]=>if j<=1000000 /\ -1000000<=j/\i<=1000000 /\ -1000000<=i then some (zaU i j) else none
 | _=>none
def zdA (f:M (List D)):M (List D):=zap f fun x=>mOpt (zgX x)
def zjd (f:M (List D)):M (List D):=zap f fun x=>mOpt (zgY x)
theorem zbz {f:M (List D)} {p2:Pos} (hg:Gl X "range") (hm:X.mg "range" = none) (ha:PA X [a] (tDs X.K B G0 f)) (hs:starEach [a] X.env=[(false,eval a X.env)]:=by rfl) :
  PI X tg (.Call (.Name "range" p2) [a] [] pos) (iD X.K B G0 (zdA f)):=piof (zhr hg hm ha hs) fun σ H R q=>tM.toI (R0:=Reps X.K) q fun v H' G' ρ' x k r a=>by
 cases z:zgX x with
 | none=>rw [z] at a;exact a.elim
 | some ds =>
  rw [z] at a
  unfold zgX at z
  split at z
  ·split at z
   ·rename_i j c
    cases z
    obtain ⟨w,rfl,r'⟩:=r.one_inv
    refine ⟨j,by rw [r'.int_inv],by omega,by omega,?_⟩
    have it:=zdz (K:=X.K) (G1:=G') 0 j
    rw [Int.sub_zero] at it
    exact a _ G' H' k (.refl _) it
   ·cases z
  ·cases z
theorem zhQ {f:M (List D)} {p2:Pos} (hg:Gl X "range") (hm:X.mg "range" = none) (ha:PA X [a,b] (tDs X.K B G0 f)) (hs:starEach [a,b] X.env=[(false,eval a X.env),(false,eval b X.env)]:=by rfl) (hs2:starEach [b] X.env=[(false,eval b X.env)]:=by rfl) :
  PI X tg (.Call (.Name "range" p2) [a,b] [] pos) (iD X.K B G0 (zjd f)):=piof (zhs hg hm ha hs hs2) fun σ H R q=>tM.toI (R0:=Reps X.K) q fun v H' G' ρ' x k r a=>by
 cases z:zgY x with
 | none=>rw [z] at a;exact a.elim
 | some ds =>
  rw [z] at a
  unfold zgY at z
  split at z
  ·split at z
   ·rename_i i j c
    cases z
    obtain ⟨w,w',rfl,r1,r2⟩:=r.two_inv
    refine ⟨i,j,by rw [r1.int_inv,r2.int_inv],⟨by omega,by omega,by omega,by omega⟩,?_⟩
    exact a _ G' H' k (.refl _) (zdz i j)
   ·cases z
  ·cases z
def zc0 (n:Nat):List D->List D
 | []=>[]
 | d :: r=>.tuple [.int n,d] :: zc0 (n+1) r
theorem zbj:∀ (n:Nat) (ds:List D),(zc0 n ds).length=ds.length
 | _,[]=>rfl
 | n,d :: r=>by rw [zc0,List.length_cons,List.length_cons,zbj]
theorem zfi:∀ (n:Nat) (ds:List D) (i:Nat),(zc0 n ds)[i]?=ds[i]?.map fun d=>.tuple [.int ((n+i:Nat):Int),d]
 | _,[],i=>by simp [zc0]
 | n,d :: r,0=>by simp [zc0]
 | n,d :: r,i+1=>by
  rw [zc0,List.getElem?_cons_succ,List.getElem?_cons_succ,zfi (n+1) r i]
  have:n+1+i=n+(i+1):=by omega
  rw [this]
theorem zgZ {K:PySem.W.Frag} {G1:Hp} {ad:Addr} {vs:List V} {ds:List D} (h:SqL K G1 ad vs) (r:Reps K G1 vs ds):zdy K (Ite K ad) (zc0 0 ds) G1 where
 go:=fun i G H s1 s2 hi=>by
  rw [zbj] at hi
  have hi':i < vs.length:=by rw [r.length];exact hi
  exact ⟨vs,vs[i],(s1.trans s2).seq h,List.getElem?_eq_getElem hi'⟩
 stop:=fun i G H s1 s2 hi=>by
  rw [zbj] at hi
  exact ⟨vs,(s1.trans s2).seq h,by rw [r.length];exact hi⟩
 yld:=fun i G H x H' d s1 s2 e y=>by
  obtain ⟨p,v,hp,rfl,y,rfl⟩:=y
  rw [zfi] at e
  cases z:ds[i]? with
  | none=>rw [z] at e;cases e
  | some d0 =>
   rw [z] at e
   cases e
   obtain ⟨w,e1,r1⟩:=r.get z
   have:=y vs ((s1.trans s2).seq h)
   rw [e1] at this
   cases this
   refine ⟨upd G p (.tup [.int i,v]),Ext.new s2 hp,.tup (SqT.of zas) (.cons ?_ (.cons ((r1.mono s1).mono (zaz (s2.free hp))) .nil))⟩
   rw [Nat.zero_add]
   exact .int _
def zhR:List D->Option (List D)
 | [.list ds]=>some (zc0 0 ds)
 | _=>none
def zfj (f:M (List D)):M (List D):=zap f fun x=>mOpt (zhR x)
theorem zdB {f:M (List D)} {p2:Pos} {elts:List Expr} {x1} {tp:Pos} (hg:Gl X "enumerate") (hm:X.mg "enumerate" = none) (ha:PA X [a] (tDs X.K B G0 f)) (hs:starEach [a] X.env=[(false,eval a X.env)]:=by rfl) :
  PI X (.Tuple elts x1 tp) (.Call (.Name "enumerate" p2) [a] [] pos) (iD X.K B G0 (zfj f)):=piof (zkm hg hm ha hs) fun σ H R q=>tM.toI (R0:=Reps X.K) q fun v H' G' ρ' x k r a=>by
 cases z:zhR x with
 | none=>rw [z] at a;exact a.elim
 | some ds =>
  rw [z] at a
  unfold zhR at z
  split at z
  ·cases z
   obtain ⟨w,rfl,r'⟩:=r.one_inv
   obtain ⟨ad,vs,rfl,h1,r1⟩:=r'.lst_inv
   exact ⟨ad,vs,rfl,k.gh.seq h1,a _ G' H' k (.refl _) (zgZ h1 r1)⟩
  ·cases z
def zfk (s:D->DEnv->Option DEnv) (g:SM):List D->SM
 | [],ρ=>.nx ρ
 | d :: r,ρ=>match s d ρ with
  | none=>.bad
  | some ρ1=>match g ρ1 with
   | .nx ρ2=>zfk s g r ρ2
   | .ct ρ2=>zfk s g r ρ2
   | .bk ρ2=>.nx ρ2
   | .rt d=>.rt d
   | .ex ρ2 d=>.ex ρ2 d
   | .bad=>.bad
def sFor (f:M (List D)) (s:D->DEnv->Option DEnv) (g:SM):SM:=sB f fun ds=>zfk s g ds
theorem zb9 {iter:Expr} {body:List Stmt} {f:M (List D)} {s:D->DEnv->Option DEnv} {g:SM} (hp:PassesOwn (model X.prog X.w) X.A X.env X.xe) (hc:X.calm=true) (hi:PI X tg iter (iD X.K B G0 f)) (hg:PG X tg (tG X.K B G0 s)) (hb:PSs X body (tS X.K B G0 KX g))
  (hs:∀ x,foldedSetIterable iter X.env x=pure x:=by intro _;rfl):PS X (.For tg iter body [] pos) (tS X.K B G0 KX (sFor f s g)) :=
 psof (zls hp hc hi hg hb hs) fun Dn σ H ⟨G,ρ,k,a⟩=>by
  refine ⟨G,ρ,k,?_⟩
  unfold sFor sB at a
  cases z:f ρ with
  | bad=>rw [z] at a;exact a.elim
  | ok ds ρ1 =>
   rw [z] at a
   dsimp only at a ⊢
   intro J G1 H1 k1 s1 it
   refine ⟨fun i m σ' H'=>m=ds.length - i/\∃ G' ρ',EOk X.K B G0 G' H' σ' ρ'/\Same G1 G'/\aftS X.K B G0 KX (zfk s g (ds.drop i) ρ') G' Dn,⟨ds.length,by omega,G1,ρ1,k1,.refl _,by rw [List.drop_zero];exact aftS.mono s1 a⟩,?_⟩
   rintro i m σ' H' ⟨rfl,G',ρ',k',s',a'⟩
   by_cases hi:i < ds.length
   ·right
    refine ⟨it.go i G' H' s' k'.gh hi,fun σ2 H2=>∃ G2 ρ2,EOk X.K B G0 G2 H2 σ2 ρ2/\Same G1 G2/\aftS X.K B G0 KX (zfk s g (ds.drop (i+1)) ρ2) G2 Dn,fun σ2 H2 h2=>⟨ds.length - (i+1),by omega,rfl,h2⟩,fun x H2 y=>?_⟩
    obtain ⟨G2,ex,rx⟩:=it.yld i G' H' x H2 ds[i] s' k'.gh (List.getElem?_eq_getElem hi) y
    rw [List.drop_eq_getElem_cons hi,zfk] at a'
    cases z2:s ds[i] ρ' with
    | none=>rw [z2] at a';exact a'.elim
    | some ρ2 =>
     rw [z2] at a'
     dsimp only at a'
     refine ⟨G2,ρ',ds[i],ρ2,k'.ext ex,rx,z2,fun σ3 G3 H3 k3 s3=>⟨G3,ρ2,k3,?_⟩⟩
     have s13:Same G1 G3:=(s'.trans ex.g).trans s3
     cases z3:g ρ2 with
     | nx ρ3=>rw [z3] at a';exact fun σ4 G4 H4 k4 s4=>⟨G4,ρ3,k4,s13.trans s4,aftS.mono ((ex.g.trans s3).trans s4) a'⟩
     | ct ρ3=>rw [z3] at a';exact fun σ4 G4 H4 k4 s4=>⟨G4,ρ3,k4,s13.trans s4,aftS.mono ((ex.g.trans s3).trans s4) a'⟩
     | bk ρ3=>rw [z3] at a';exact fun σ4 G4 H4 k4 s4=>a' σ4 G4 H4 k4 ((ex.g.trans s3).trans s4)
     | rt d=>rw [z3] at a';exact a'
     | ex ρ3 d=>rw [z3] at a';exact fun v σ4 G4 H4 k4 s4 r4=>a' v σ4 G4 H4 k4 ((ex.g.trans s3).trans s4) r4
     | bad=>rw [z3] at a';exact a'.elim
   ·left
    rw [List.drop_eq_nil_of_le (by omega)] at a'
    exact ⟨it.stop i G' H' s' k'.gh (by omega),a' σ' G' H' k' (.refl _)⟩
theorem zje {k:Nat} {f:Addr} {fd:FuncData} {ps:List Str} {F:List D->Option D} {g:M (List D)} {x:Str} {p2:Pos} {n:Nat} (FK:FnOk X.prog X.w X.K X.mg X.base CX0 k f fd ps (spD X.K n F)) (hr:Room k X.A) (hg:Gl X x) (hm:X.mg x=some (.ref f)) (hk:PySem.W.keepIn X.K (.ref f)=true)
  (hb:zd0 X.K fd ps []) (ha:PA X (e :: es) (tDs X.K B G0 g)) (hn:(e :: es).length=n) (hdb:(x == ("__debug__" : Str))=false:=by decide) (he:starEach (e :: es) X.env=(false,eval e X.env) :: starEach es X.env:=by rfl) (hpl:(backTo pos (starEach es X.env)).any (·.1)=false:=by rfl) :
  PE X (.Call (.Name x p2) (e :: es) [] pos) (tD X.K B G0 (zap g fun xs=>if xs.length=n then mOpt (F xs) else fun _=>.bad)) :=
 peof (zfU FK hr hg hm hk hb .nil zkl ha hdb he hpl) fun σ H Q q=>tM.one (R:=Reps X.K) q fun v H2 G ρ ds k r a=>by
  split at a
  ·rename_i hl
   obtain ⟨d,e,a⟩:=a.opt
   exact ⟨G,ds,d,by rw [List.append_nil,r.length];exact hl,k.gh,by rw [List.append_nil];exact r,e,fun w G' H' ex rw=>a.done k ex rw⟩
  ·exact a.elim
end
def zaV (N:List Str) (ds:List D):DEnv:=(ds.map fun d=>some (Sl.pub d)) ++ List.replicate (N.length - ds.length) none
theorem zeA {K:PySem.W.Frag} {N:List Str} {G H:Hp} {vs:List V} {ds:List D} (s:Same G H) (r:Reps K G vs ds):EOk K H G G H (L2.zdq N vs) (zaV N ds) where
 bh:=.refl _
 gh:=s
 g0:=.refl _
 np:=fun _ _ _ n=>n
 len:=by unfold L2.zdq zaV;rw [List.length_append,List.length_append,List.length_map,List.length_map,List.length_replicate,List.length_replicate,r.length]
 pub:=fun i d q=>by
  unfold zaV at q
  unfold L2.zdq
  by_cases hi:i < ds.length
  ·rw [List.getElem?_append_left (by rw [List.length_map];exact hi),List.getElem?_map] at q
   cases z:ds[i]? with
   | none=>rw [z] at q;cases q
   | some d' =>
    rw [z] at q
    cases q
    obtain ⟨v,e1,r1⟩:=r.get z
    refine ⟨v,?_,r1⟩
    rw [List.getElem?_append_left (by rw [List.length_map,r.length];exact hi),List.getElem?_map,e1]
    rfl
  ·rw [List.getElem?_append_right (by rw [List.length_map];omega),List.getElem?_replicate] at q
   split at q <;> cases q
 own:=fun i es q=>by
  unfold zaV at q
  by_cases hi:i < ds.length
  ·rw [List.getElem?_append_left (by rw [List.length_map];exact hi),List.getElem?_map] at q
   cases z:ds[i]? with
   | none=>rw [z] at q;cases q
   | some d'=>rw [z] at q;cases q
  ·rw [List.getElem?_append_right (by rw [List.length_map];omega),List.getElem?_replicate] at q
   split at q <;> cases q
 sep:=fun i j a es fs q _ _ _=>by
  unfold zaV at q
  by_cases hi:i < ds.length
  ·rw [List.getElem?_append_left (by rw [List.length_map];exact hi),List.getElem?_map] at q
   cases z:ds[i]? with
   | none=>rw [z] at q;cases q
   | some d'=>rw [z] at q;cases q
  ·rw [List.getElem?_append_right (by rw [List.length_map];omega),List.getElem?_replicate] at q
   split at q <;> cases q
 dp:=by
  have key:∀ {i:Nat} {s:Sl},(zaV N ds)[i]?=some (some s)->∃ d,s=.pub d:=fun {i s} q=>by
   unfold zaV at q
   by_cases hi:i < ds.length
   ·rw [List.getElem?_append_left (by rw [List.length_map];exact hi),List.getElem?_map] at q
    cases z:ds[i]? with
    | none=>rw [z] at q;cases q
    | some d'=>rw [z] at q;cases q;exact ⟨_,rfl⟩
   ·rw [List.getElem?_append_right (by rw [List.length_map];omega),List.getElem?_replicate] at q
    split at q <;> cases q
  exact .of (fun i p d q=>by obtain ⟨_,e⟩:=key q;cases e) fun i ds q=>by obtain ⟨_,e⟩:=key q;cases e
def runD (N:List Str) (g:SM) (ds:List D):Option D:=match g (zaV N ds) with
 | .rt d=>some d
 | .nx _=>some .none
 | _=>none
theorem okD {P:Program} {w:World} {K:PySem.W.Frag} {mg:Str->Option Value} {base:Heap} {x qual:Str} {st:Stmt} {f:Addr} {fd:FuncData} {N ps:List Str} {k n:Nat} {g:SM} (F:Fun K x qual st f fd) (S:zcv N ps (zah st)) (hn:ps.length=n)
  (der:∀ (cdv:Value) (A:Around) (outer:List Env) (s:Shared) (H:Hp) (E:XK) (B G0:Hp),Room k (A.deeper (envOfC qual (zah st) s.heap.objs.size f cdv)) ->
   PSs (cxOf CX0 P w K mg base N qual (zah st) f cdv A outer s H E).nox (zbn st) (tS K B G0 KX0 g)):FnOk P w K mg base CX0 (k+1) f fd ps (spD K n (runD N g)):=by
 refine F.ok S (fun vs H Q E h=>?_) (fun cdv A outer s H vs Q E hr h=>?_)
 ·obtain ⟨_,_,_,hl,_⟩:=h
  rw [hl,hn]
 ·obtain ⟨G,ds,d,hl,sg,r,hF,q⟩:=h
  refine ⟨_,der cdv A outer s H E H G hr,G,zaV N ds,zeA sg r,?_⟩
  unfold runD at hF
  cases z:g (zaV N ds) with
  | rt d' =>
   rw [z] at hF
   cases hF
   exact fun v G' H' ex rr=>q v G' H' ex rr
  | nx ρ =>
   rw [z] at hF
   cases hF
   exact fun σ' G' H' k' _=>q .non G' H' k'.exit .non
  | bk ρ=>rw [z] at hF;cases hF
  | ct ρ=>rw [z] at hF;cases hF
  | ex ρ d=>rw [z] at hF;cases hF
  | bad=>rw [z] at hF;cases hF
section
variable {X:Cx} {B G0:Hp} {e a b c tg:Expr} {pos:Pos} {es rest:List Expr}
def oNeg:D->Option D
 | .int i=>some (.int (-i))
 | _=>none
def dNeg (f:M D):M D:=zap f fun x=>mOpt (oNeg x)
theorem zfZ {f:M D} (h:PE X a (tD X.K B G0 f)):PE X (.UnaryOp .USub a pos) (tD X.K B G0 (dNeg f)) :=
 peof (zmu zly h) fun σ H Q q=>tM.one (R:=Rep X.K) q fun v H2 G ρ x k r a=>by
  cases x with
  | int i=>exact ⟨i,r.int_inv,aft.now a k (.int _)⟩
  | _=>exact a.elim
end
def Def (P:Program) (w:World) (K:PySem.W.Frag) (mg:Str->Option Value) (base:Heap) (x:Str) (k n:Nat) (F:List D->Option D):Prop :=
 ∃ (f:Addr) (fd:FuncData) (ps:List Str),mg x=some (.ref f)/\PySem.W.keepIn K (.ref f)=true/\zd0 K fd ps []/\FnOk P w K mg base CX0 k f fd ps (spD K n F)
def dFun (n:Nat) (F:List D->Option D) (g:M (List D)):M D:=zap g fun xs=>if xs.length=n then mOpt (F xs) else fun _=>.bad
section
variable {X:Cx} {B G0:Hp} {e:Expr} {pos:Pos} {es:List Expr}
theorem zkA {k n:Nat} {F:List D->Option D} {g:M (List D)} {x:Str} {p2:Pos} (d:Def X.prog X.w X.K X.mg X.base x k n F) (hr:Room k X.A) (hg:Gl X x) (ha:PA X (e :: es) (tDs X.K B G0 g)) (hn:(e :: es).length=n:=by rfl)
  (hdb:(x == ("__debug__" : Str))=false:=by decide) (he:starEach (e :: es) X.env=(false,eval e X.env) :: starEach es X.env:=by rfl) (hpl:(backTo pos (starEach es X.env)).any (·.1)=false:=by rfl) :
  PE X (.Call (.Name x p2) (e :: es) [] pos) (tD X.K B G0 (dFun n F g)):=by
 obtain ⟨f,fd,ps,h1,h2,h3,h4⟩:=d
 exact zje h4 hr hg h1 h2 h3 ha hn hdb he hpl
end
theorem Def.mk {P:Program} {w:World} {K:PySem.W.Frag} {mg:Str->Option Value} {base:Heap} {x:Str} {k n:Nat} {F:List D->Option D} {st:Stmt} {f:Addr} {fd:FuncData} {ps:List Str} (hm:mg x=some (.ref f)) (FU:Fun K x x st f fd) (hb:zd0 K fd ps []) (ok:FnOk P w K mg base CX0 k f fd ps (spD K n F)) :
  Def P w K mg base x k n F:=⟨f,fd,ps,hm,FU.kp,hb,ok⟩
theorem zlS {K:PySem.W.Frag} {H:Hp} {a:Addr} {ns:List Int} {F:List D->Option D} {E:XK} (hS:SqL K H a (ns.map V.int)) (h:F [.list (ns.map PyData.int)]=some (.bool true)):spD K 1 F [.ref a] H (fun v _=>v=.bl true) E :=
 ⟨H,[.list (ns.map PyData.int)],.bool true,rfl,.refl _,.cons (.lst hS (Reps.ints ns)) .nil,h,fun _ _ _ _ r=>r.bl_inv⟩
end DL
namespace L2
open PySem PySem.Spec PyProof.Rows
theorem mem_of_lookup {x:Str} {k:NameKind}:∀ {l:List (Str × NameKind)},l.lookup x=some k->(x,k) ∈ l
 | [],h=>by cases h
 | (y,j) :: r,h=>by
  rw [List.lookup_cons] at h
  split at h
  ·rename_i e
   cases h
   have:x=y:=by simpa using e
   rw [this];exact List.mem_cons_self
  ·exact List.mem_cons_of_mem _ (mem_of_lookup h)
theorem zc1 {env:Env}:∀ (l:List (Str × NameKind)) (acc:List (Str × Addr)),(∀ y ∈ l,y.2=.free->∃ c,env.cells.lookup y.1=some c) ->
  ∃ cl,(forIn l acc (fun x r=>if (x.2 == NameKind.free)=true then (do let a ← cellOf env x.1;pure (ForInStep.yield ((x.1,a) :: r))) else pure (ForInStep.yield r)):Sem (List (Str × Addr)))=pure cl /\
   (∀ x c,cl.lookup x=some c->acc.lookup x=some c ∨ env.cells.lookup x=some c)/\(∀ y ∈ l,y.2=.free->∃ c,cl.lookup y.1=some c)/\(∀ x c,acc.lookup x=some c->∃ c',cl.lookup x=some c')
 | [],acc,_=>⟨acc,rfl,fun _ _ h=>.inl h,fun _ h=>absurd h (by simp),fun x c h=>⟨c,h⟩⟩
 | (n,k) :: r,acc,h=>by
  by_cases hk:k=.free
  ·subst hk
   obtain ⟨c,hc⟩:=h (n,.free) List.mem_cons_self rfl
   obtain ⟨cl,e,p1,p2,p3⟩:=zc1 r ((n,c) :: acc) fun y hy=>h y (List.mem_cons_of_mem _ hy)
   have hco:cellOf env n=pure c:=by unfold cellOf;rw [hc]
   have key:∀ x c',((n,c) :: acc).lookup x=some c'->acc.lookup x=some c' ∨ env.cells.lookup x=some c':=fun x c' q=>by
    rw [List.lookup_cons] at q
    split at q
    ·rename_i e1
     cases q
     have:x=n:=by simpa using e1
     subst this
     exact .inr hc
    ·exact .inl q
   have own:((n,c) :: acc).lookup n=some c:=by rw [List.lookup_cons];simp
   refine ⟨cl,?_,fun x c' q=>?_,fun y hy hf=>?_,fun x c' q=>?_⟩
   ·rw [List.forIn_cons]
    have:(if (((n,NameKind.free):Str × NameKind).2 == NameKind.free)=true then (do let a ← cellOf env n;pure (ForInStep.yield ((n,a) :: acc))) else pure (ForInStep.yield acc):Sem _)=pure (ForInStep.yield ((n,c) :: acc)):=by
     rw [if_pos (show ((n,NameKind.free).snd == NameKind.free)=true from rfl),hco];rfl
    refine Eq.trans ?_ e
    dsimp only at this ⊢
    rw [this]
    rfl
   ·rcases p1 x c' q with z | z
    ·exact key x c' z
    ·exact .inr z
   ·rcases List.mem_cons.mp hy with z | z
    ·subst z
     exact p3 n c own
    ·exact p2 y z hf
   ·by_cases hx:x=n
    ·subst hx;exact p3 x c own
    ·refine p3 x c' ?_
     have hb:(x == n)=false:=by simpa using hx
     rw [List.lookup_cons,hb]
     exact q
  ·obtain ⟨cl,e,p1,p2,p3⟩:=zc1 r acc fun y hy=>h y (List.mem_cons_of_mem _ hy)
   refine ⟨cl,?_,p1,fun y hy hf=>?_,p3⟩
   ·rw [List.forIn_cons]
    have hb:(k == NameKind.free)=false:=by cases k <;> first | rfl | exact absurd rfl hk
    refine Eq.trans ?_ e
    dsimp only
    rw [hb,if_neg (by decide)]
    rfl
   ·rcases List.mem_cons.mp hy with z | z
    ·subst z;exact absurd hf hk
    ·exact p2 y z hf
theorem zg0 {scope:Scope} {env:Env} (h:∀ y ∈ scope.names,y.2=.free->∃ c,env.cells.lookup y.1=some c) :
  ∃ cl,closureFor scope env=pure cl/\(∀ x c,cl.lookup x=some c->env.cells.lookup x=some c)/\∀ y ∈ scope.names,y.2=.free->∃ c,cl.lookup y.1=some c:=by
 obtain ⟨cl,e,p1,p2,_⟩:=zc1 scope.names [] h
 refine ⟨cl,?_,fun x c q=>(p1 x c q).elim (fun z=>by cases z) id,p2⟩
 have e2:((forIn scope.names [] (fun x r=>if (x.2 == NameKind.free)=true then (do let a ← cellOf env x.1;pure (ForInStep.yield ((x.1,a) :: r))) else pure (ForInStep.yield r)):Sem (List (Str × Addr))) >>= fun s=>pure s)=pure cl:=by
  rw [e];rfl
 exact e2
theorem zdC {env:Env} {x:Str} {k:NameKind}:∀ {names:List (Str × NameKind)},(names.map fun (n,k)=>if (k == NameKind.free && env.scope.kind == .function && env.kindOf n == some .cell) then (n,NameKind.cell) else (n,k)).lookup x=some k ->
  names.lookup x=some k ∨ (names.lookup x=some .free/\k=.cell)
 | [],h=>by cases h
 | (n,j) :: r,h=>by
  have ih:=@zdC env x k r
  have h:List.lookup x ((if (j == NameKind.free && env.scope.kind == .function && env.kindOf n == some .cell)=true then (n,NameKind.cell) else (n,j)) :: _)=some k:=h
  cases hx:x == n with
  | true =>
   by_cases hc:(j == NameKind.free && env.scope.kind == .function && env.kindOf n == some .cell)=true
   ·rw [if_pos hc] at h
    simp only [List.lookup_cons,hx] at h ⊢
    cases h
    simp only [Bool.and_eq_true] at hc
    have:j=.free:=by have:=hc.1.1;cases j <;> first | rfl | cases this
    subst this
    exact .inr ⟨rfl,rfl⟩
   ·rw [if_neg hc] at h
    simp only [List.lookup_cons,hx] at h ⊢
    exact .inl h
  | false =>
   by_cases hc:(j == NameKind.free && env.scope.kind == .function && env.kindOf n == some .cell)=true
   ·rw [if_pos hc] at h
    simp only [List.lookup_cons,hx] at h ⊢
    exact ih h
   ·rw [if_neg hc] at h
    simp only [List.lookup_cons,hx] at h ⊢
    exact ih h
theorem zdd {env:Env} {x:Str}:∀ {names:List (Str × NameKind)},names.lookup x=some .free ->
  (names.map fun (n,k)=>if (k == NameKind.free && env.scope.kind == .function && env.kindOf n == some .cell) then (n,NameKind.cell) else (n,k)).lookup x=some .free ∨
  (names.map fun (n,k)=>if (k == NameKind.free && env.scope.kind == .function && env.kindOf n == some .cell) then (n,NameKind.cell) else (n,k)).lookup x=some .cell
 | [],h=>by cases h
 | (n,j) :: r,h=>by
  have ih:=@zdd env x r
  show List.lookup x ((if (j == NameKind.free && env.scope.kind == .function && env.kindOf n == some .cell)=true then (n,NameKind.cell) else (n,j)) :: _)=_ ∨ List.lookup x ((if (j == NameKind.free && env.scope.kind == .function && env.kindOf n == some .cell)=true then (n,NameKind.cell) else (n,j)) :: _)=_
  cases hx:x == n with
  | true =>
   simp only [List.lookup_cons,hx] at h
   cases h
   by_cases hc:(NameKind.free == NameKind.free && env.scope.kind == .function && env.kindOf n == some .cell)=true
   ·rw [if_pos hc];simp [List.lookup_cons,hx]
   ·rw [if_neg hc];simp [List.lookup_cons,hx]
  | false =>
   simp only [List.lookup_cons,hx] at h
   by_cases hc:(j == NameKind.free && env.scope.kind == .function && env.kindOf n == some .cell)=true
   ·rw [if_pos hc];simp only [List.lookup_cons,hx];exact ih h
   ·rw [if_neg hc];simp only [List.lookup_cons,hx];exact ih h
theorem zef {env:Env} {x:Str}:∀ {names:List (Str × NameKind)},names.lookup x=some .globalImplicit ->
  (names.map fun (n,k)=>if (k == NameKind.free && env.scope.kind == .function && env.kindOf n == some .cell) then (n,NameKind.cell) else (n,k)).lookup x=some .globalImplicit
 | [],h=>by cases h
 | (n,j) :: r,h=>by
  have ih:=@zef env x r
  show List.lookup x ((if (j == NameKind.free && env.scope.kind == .function && env.kindOf n == some .cell)=true then (n,NameKind.cell) else (n,j)) :: _)=_
  cases hx:x == n with
  | true =>
   simp only [List.lookup_cons,hx] at h
   cases h
   rw [if_neg (by simp)]
   simp [List.lookup_cons,hx]
  | false =>
   simp only [List.lookup_cons,hx] at h
   by_cases hc:(j == NameKind.free && env.scope.kind == .function && env.kindOf n == some .cell)=true
   ·rw [if_pos hc];simp only [List.lookup_cons,hx];exact ih h
   ·rw [if_neg hc];simp only [List.lookup_cons,hx];exact ih h
def Cx.blk (X:Cx) (N':List Str) (scope:Scope) (cl:List (Str × Addr)) (C:Addr) (s₀ : Shared) (H₀ : Hp) (ex:List Addr):Cx :=
 { X with N:=N',s₀:=s₀,H₀:=H₀,env:=compEnvC scope cl C X.env,outer:=X.stack,ex:=ex,fn:=fun _=>false,xe:=fun _ _=>False }
section
variable {X:Cx} {N':List Str} {scope:Scope} {cl:List (Str × Addr)} {C:Addr} {s₀ : Shared} {H₀ : Hp} {ex:List Addr} {x:Str}
theorem zkB (h:scope.names.lookup x=some .local ∨ scope.names.lookup x=some .free):Vis (X.blk N' scope cl C s₀ H₀ ex).env.scope x:=by
 rcases h with h | h
 ·exact .inl (lookup_relabel_local h)
 ·rcases zdd (env:=X.env) h with z | z
  ·exact .inr (.inr z)
  ·exact .inr (.inl z)
theorem zaW (h:scope.names.lookup x=some .local):Loc (X.blk N' scope cl C s₀ H₀ ex).env.scope x:=.inl (lookup_relabel_local h)
theorem zbq (h:scope.names.lookup x=some .local):(X.blk N' scope cl C s₀ H₀ ex).env.scope.names.lookup x=some .local:=lookup_relabel_local h
theorem zgr (h:scope.names.lookup x=some .globalImplicit):Gl (X.blk N' scope cl C s₀ H₀ ex) x:=zef h
end
def zcE (names:List (Str × NameKind)) (N N2:List Str) (k:Nat):Bool :=
 N2.length == N.length+k && (List.range N2.length).all fun i=>match N2[i]? with
  | none=>true
  | some x=>match names.lookup x with
   | some .free=>N[i]? == some x
   | some .local=>decide (N.length<=i) && decide (i < N.length+k)
   | some .cell=>false
   | _=>true
theorem zfl {names:List (Str × NameKind)} {N N2:List Str} {k:Nat} (h:zcE names N N2 k=true) :
  N2.length=N.length+k/\∀ (i:Nat) x,N2[i]?=some x->(names.lookup x=some .free->N[i]?=some x)/\(names.lookup x=some .local->N.length<=i/\i < N.length+k):=by
 unfold zcE at h
 simp only [Bool.and_eq_true,beq_iff_eq,List.all_eq_true,List.mem_range] at h
 refine ⟨h.1,fun i x e=>?_⟩
 have hi:=(List.getElem?_eq_some_iff.mp e).1
 have:=h.2 i hi
 rw [e] at this
 refine ⟨fun q=>?_,fun q=>?_⟩
 ·simp only [q] at this
  simpa using this
 ·simp only [q] at this
  simpa using this
theorem Inv.enter {X:Cx} {pins:List (Addr × Obj)} {σ : St} {H:Hp} {s3:Shared} (I:Inv X pins σ H s3) {scope:Scope} {cl:List (Str × Addr)} {N2:List Str} {k:Nat} {h':Heap} {fp:List Addr} {t':Nat} {m0:Str->Option Value}
  (hb:zcE scope.names X.N N2 k=true) (hkind:scope.kind=.function) (hcell:∀ y ∈ scope.names,y.2 ≠ .cell)
  (hfree:∀ y ∈ scope.names,y.2=.free->X.env.scope.names.lookup y.1=some .cell ∨ X.env.scope.names.lookup y.1=some .free)
  (cl1:∀ x c,cl.lookup x=some c->X.env.cells.lookup x=some c) (cl2:∀ y ∈ scope.names,y.2=.free->∃ c,cl.lookup y.1=some c)
  (hn:h'.Ns s3.heap.objs.size m0) (hk:∀ b o,s3.heap.get? b=some o->h'.get? b=some o) (hf:∀ b ∈ fp,FpOk X pins H b) (hfo:∀ b ∈ fp,∃ o,s3.heap.get? b=some o) :
  Inv (X.blk N2 scope cl s3.heap.objs.size s3 H fp) pins (σ ++ List.replicate k none) H { s3 with heap:=h',toks:=t' }:=by
 obtain ⟨hl,hN⟩:=zfl hb
 have lt:∀ b o,s3.heap.get? b=some o->b ≠ s3.heap.objs.size:=fun b o e=>Nat.ne_of_lt (Heap.lt_size e)
 have ofl:∀ x,scope.names.lookup x=some .free->(x,NameKind.free) ∈ scope.names:=fun x h=>mem_of_lookup h
 have kinv:∀ x kk,(X.blk N2 scope cl s3.heap.objs.size s3 H fp).env.scope.names.lookup x=some kk->scope.names.lookup x=some kk ∨ (scope.names.lookup x=some .free/\kk=.cell):=fun x kk h=>zdC (env:=X.env) h
 have isfree:∀ x,(X.blk N2 scope cl s3.heap.objs.size s3 H fp).env.scope.names.lookup x=some .cell ∨ (X.blk N2 scope cl s3.heap.objs.size s3 H fp).env.scope.names.lookup x=some .free->scope.names.lookup x=some .free:=fun x h=>by
  rcases h with h | h
  ·rcases kinv x _ h with z | z
   ·exact absurd rfl (hcell _ (mem_of_lookup z))
   ·exact z.1
  ·rcases kinv x _ h with z | z
   ·exact z
   ·exact z.1
 have ok:(X.blk N2 scope cl s3.heap.objs.size s3 H fp).Ok :=
  {
   mod:=I.ok.mod
   kind:=hkind
   glob:=I.ok.glob
   blt:=I.ok.blt
   above:=Nat.le_refl _
   inj:=fun x y c a b=>I.ok.inj x y c (cl1 x c a) (cl1 y c b)
   has:=fun x h=>cl2 (x,.free) (ofl x (isfree x h)) rfl
   cab:=fun x c h=>by cases h
   hd:=I.ok.hd
   frames:=I.ok.frames
   stk:=.inl rfl
   exf:=fun b hb=>⟨let ⟨o,e⟩:=hfo b hb;lt b o e,fun x c e=>(hf b hb).2.2.2.2.1 x c (cl1 x c e)⟩
   bs:=I.bs
   bsz:=Nat.le_trans I.ok.bsz I.sz
   noex:=fun b o e hb=>by
    rcases (hf b hb).2.2.2.1 with z | z
    ·exact I.ok.noex b o e z
    ·exact absurd (Nat.lt_of_lt_of_le (Heap.lt_size e) (Nat.le_trans I.ok.bsz z)) (Nat.lt_irrefl _)
   exfs:=fun b hb hx=>by
    rcases List.mem_cons.mp (I.stkSub b hx) with z | z
    ·exact (hf b hb).2.1 z
    ·exact (hf b hb).2.2.1 z
   funs:=I.stack
   frf:=I.stkFree }
 refine ⟨ok,rfl,I.bare,Un.kept hk,⟨m0,hn,fun i x v e1 e2 e3=>?_⟩,fun x c e=>?_,I.hok.fresh (Nat.le_refl _),fun x c e=>I.freeC x c (cl1 x c e),fun p hp=>?_,I.hok.kept hk,?_⟩
 ·have nl:scope.names.lookup x ≠ some .local:=fun z=>by
   obtain ⟨g1,g2⟩:=(hN i x e1).2 z
   rw [← I.len] at g1 g2
   rw [List.getElem?_append_right g1,List.getElem?_replicate] at e2
   split at e2 <;> cases e2
  have fr:scope.names.lookup x=some .free:=by
   rcases e3 with z | z | z
   ·rcases kinv x _ z with q | q
    ·exact absurd q nl
    ·cases q.2
   ·exact isfree x (.inl z)
   ·exact isfree x (.inr z)
  have eN:=(hN i x e1).1 fr
  have hi:i < σ.length:=by rw [I.len];exact (List.getElem?_eq_some_iff.mp eN).1
  rw [List.getElem?_append_left hi] at e2
  obtain ⟨m,hm,hlk⟩:=I.loc
  have hkd:=hfree _ (ofl x fr) rfl
  obtain ⟨u,r,l⟩:=hlk i x v eN e2 (.inr hkd)
  refine ⟨u,r,.inr ⟨?_,?_⟩⟩
  ·rcases e3 with z | z | z
   ·rcases kinv x _ z with q | q
    ·exact absurd q nl
    ·cases q.2
   ·exact .inl z
   ·exact .inr z
  ·rcases l with l | ⟨_,c,ec,z⟩
   ·have:X.env.scope.names.lookup x=some .local:=l.1
    rcases hkd with q | q <;> (dsimp only at q;rw [this] at q;cases q)
   ·obtain ⟨c',ec'⟩:=cl2 _ (ofl x fr) rfl
    have:=cl1 _ _ ec'
    dsimp only at this ec'
    rw [ec] at this
    cases this
    obtain ⟨o,ho,hd⟩:=z
    exact ⟨c,ec',o,hk c o ho,hd⟩
 ·obtain ⟨v,o,ho,hd⟩:=I.cell x c (cl1 x c e)
  exact ⟨v,o,hk c o ho,hd⟩
 ·obtain ⟨e,n,ne,nf,d⟩:=I.pin p hp
  refine ⟨hk _ _ e,n,lt _ _ e,fun z=>?_,d⟩
  rcases List.mem_cons.mp (I.stkSub _ z) with q | q
  ·exact ne q
  ·exact nf q
 ·rw [List.length_append,List.length_replicate,I.len]
  exact hl.symm
section
variable {prog:Program} {w:World} {A:Around} {R:Result->Shared->Prop} {s:Shared}
end
abbrev nox:Value->Shared->Prop:=fun _ _=>False
def zcF (prog:Program) (w:World) (A:Around) (tg:Expr) (ifs:List Expr) (env:Env) (it:Value) (code:Code) (W:(Shared->Prop)->Shared->Prop):Prop :=
 ∀ (R:Result->Shared->Prop) (I:Nat->Shared->Prop) (n:Nat) (s:Shared),I n s ->
  (∀ n s,I n s->wpAny (model prog w) A (pyNext it) (fun r s₁=>match r with
   | none=>R (.ok .next) s₁
   | some v=>wpAny (model prog w) A (letOwnedTupleGo tg it v) (fun _ s₁'=>wpAny (model prog w) A (assign tg env v) (fun _ s₂ =>
     wpAny (model prog w) A (forIn ifs true fun c r=>if r=true then do let ok ← isTrue c env (eval c env);pure (ForInStep.yield ok) else pure (ForInStep.yield r)) (fun ok s₃ =>
      if ok=true then W (fun s₅=>∃ m,m < n/\I m s₅) s₃ else ∃ m,m < n/\I m s₃) nox s₂) nox s₁') nox s₁) nox s)->codeAny (model prog w) A code R s
section
variable {prog:Program} {w:World} {A:Around} {elt tg i:Expr} {ifs:List Expr} {gens:List Comprehension} {scope:Scope} {pos:Pos} {it acc:Value} {env:Env} {j:Nat}
theorem zhS (hg:gens[j]?=some ⟨tg,i,ifs,0⟩) (hn:gens[j+1]?=none):zcF prog w A tg ifs env it (.compLoop (.ListComp elt gens scope pos) j it acc env)
  (fun Q s=>wpAny (model prog w) A (eval elt env) (fun x s₄=>wpAny (model prog w) A (call (.builtin "list.append") [acc,x]) (fun _ s₅=>Q s₅) nox s₄) nox s):=by
 intro R I n s h turn
 refine codeAny_loop rfl I (fun n s hI=>?_) n h
 show wpAny _ A ((compTurn (.ListComp elt gens scope pos) j it acc env).onRaise (fun x=>do noteFrame x env;theTreesLotGoes x)) _ _ s
 refine wpAny_noted ?_
 unfold compTurn
 dsimp only
 simp only [hg,hn]
 refine wpAny_bind (wpAny_standAt (wpAny_bind (wpAny_mono (turn n s hI) (fun r s₁ h₁=>?_) fun _ _ h'=>h'.elim)))
 cases r with
 | none=>exact wpAny_pure h₁
 | some v =>
  refine wpAny_bind (wpAny_mono h₁ (fun _ s₁' h₁'=>?_) fun _ _ h'=>h'.elim)
  refine wpAny_bind (wpAny_mono h₁' (fun _ s₂ h₂=>wpAny_bind (wpAny_mono h₂ (fun ok s₃ h₃=>?_) fun _ _ h'=>h'.elim)) fun _ _ h'=>h'.elim)
  cases ok with
  | false=>exact wpAny_pure ⟨rfl,h₃⟩
  | true=>exact wpAny_bind (wpAny_bind (wpAny_mono h₃ (fun x s₄ h₄=>wpAny_bind (wpAny_mono h₄ (fun _ s₅ h₅=>wpAny_pure (wpAny_pure ⟨rfl,h₅⟩)) fun _ _ h'=>h'.elim)) fun _ _ h'=>h'.elim))
theorem zhT {tg1 i1:Expr} {ifs1:List Expr} (hg:gens[j]?=some ⟨tg,i,ifs,0⟩) (hn:gens[j+1]?=some ⟨tg1,i1,ifs1,0⟩) (hs:∀ x,foldedSetIterable i1 env x=pure x):zcF prog w A tg ifs env it (.compLoop (.ListComp elt gens scope pos) j it acc env)
  (fun Q s=>wpAny (model prog w) A (eval i1 env) (fun x s₄=>wpAny (model prog w) A (pyIter x) (fun it1 s₅=>codeAny (model prog w) A (.compStart (.ListComp elt gens scope pos) (j+1) it1 acc env)
   (fun r s₆=>match r with | .ok _=>Q s₆ | .error _=>False) s₅) nox s₄) nox s):=by
 intro R I n s h turn
 refine codeAny_loop rfl I (fun n s hI=>?_) n h
 show wpAny _ A ((compTurn (.ListComp elt gens scope pos) j it acc env).onRaise (fun x=>do noteFrame x env;theTreesLotGoes x)) _ _ s
 refine wpAny_noted ?_
 unfold compTurn
 dsimp only
 simp only [hg,hn]
 refine wpAny_bind (wpAny_standAt (wpAny_bind (wpAny_mono (turn n s hI) (fun r s₁ h₁=>?_) fun _ _ h'=>h'.elim)))
 cases r with
 | none=>exact wpAny_pure h₁
 | some v =>
  refine wpAny_bind (wpAny_mono h₁ (fun _ s₁' h₁'=>?_) fun _ _ h'=>h'.elim)
  refine wpAny_bind (wpAny_mono h₁' (fun _ s₂ h₂=>wpAny_bind (wpAny_mono h₂ (fun ok s₃ h₃=>?_) fun _ _ h'=>h'.elim)) fun _ _ h'=>h'.elim)
  cases ok with
  | false=>exact wpAny_pure ⟨rfl,h₃⟩
  | true =>
   refine wpAny_bind (wpAny_mono h₃ (fun x s₄ h₄=>wpAny_bind (wpAny_standAt (wpAny_bind (wpAny_of_eq (hs x) (wpAny_bind (wpAny_holding (wpAny_mono h₄ (fun it1 s₅ h₅=>?_) fun _ _ h'=>h'.elim))))))) fun _ _ h'=>h'.elim)
   refine wpAny_bind (wpAny_runOwn (codeAny_mono h₅ fun r s₆ h₆=>?_))
   cases r with
   | ok f=>exact wpAny_pure ⟨rfl,h₆⟩
   | error x=>exact h₆.elim
theorem zfm {R:Result->Shared->Prop} {s:Shared} (hg:gens[j]?=some ⟨tg,i,ifs,0⟩)
  (h0:codeAny (model prog w) A (.compLoop (.ListComp elt gens scope pos) j it acc env) R s)
  (h:wpAny (model prog w) A (pyIter it) (fun it' s'=>codeAny (model prog w) A (.compLoop (.ListComp elt gens scope pos) j it' acc env) R s') nox s) :
  codeAny (model prog w) A (.compStart (.ListComp elt gens scope pos) j it acc env) R s:=by
 refine codeAny_of_tree ?_
 show wpAny _ _ ((compStart (.ListComp elt gens scope pos) j it acc env).onRaise (fun x=>do noteFrame x env;standAt theWindowsPlace)) _ _ s
 refine wpAny_notedAt ?_
 unfold compStart
 have hc:(clausesOf (.ListComp elt gens scope pos))[j]?=some ⟨tg,i,ifs,0⟩:=hg
 simp only [hc]
 show wpAny _ _ (ask >>= _) _ _ s
 refine wpAny_bind (wpAny_askSetting (wpAny_ite ?_))
 split
 ·first
   | exact wpAny_bind (wpAny_pure (wpAny_pure (And.intro rfl h0)))
   | exact wpAny_pure (And.intro rfl h0)
 ·first
   | exact wpAny_bind (wpAny_rule (wpAny_bind (wpAny_standAt (wpAny_bind (wpAny_mono h (fun it' s' h'=>wpAny_pure (And.intro rfl h')) fun _ _ x=>x.elim)))))
   | (refine wpAny_bind (wpAny_rule ?_);show wpAny _ _ (standAt _ >>= _) _ _ s;exact wpAny_bind (wpAny_standAt (wpAny_bind (wpAny_mono h (fun it' s' h'=>wpAny_pure (And.intro rfl h')) fun _ _ x=>x.elim))))
end
end L2
namespace DL
open PySem PySem.Spec L2
open PyProof.Rows hiding St
def zdD:Option Sl->Option Sl
 | some (.own _)=>none
 | some (.deep _ _)=>none
 | x=>x
def zay (ρ : DEnv):DEnv:=ρ.map zdD
theorem zhU {ρ : DEnv} {i:Nat} {d:D} (h:(zay ρ)[i]?=some (some (.pub d))) : ρ[i]?=some (some (.pub d)):=by
 unfold zay at h
 rw [List.getElem?_map] at h
 cases e : ρ[i]? with
 | none=>rw [e] at h;cases h
 | some o =>
  rw [e] at h
  cases o with
  | none=>cases h
  | some sl=>cases sl with
   | pub d'=>cases h;rfl
   | own ds=>cases h
   | deep p d'=>cases h
theorem za6 {ρ : DEnv} {i:Nat} {ds:List D} (h:(zay ρ)[i]?=some (some (.own ds))):False:=by
 unfold zay at h
 rw [List.getElem?_map] at h
 cases e : ρ[i]? with
 | none=>rw [e] at h;cases h
 | some o =>
  rw [e] at h
  cases o with
  | none=>cases h
  | some sl=>cases sl with
   | pub d'=>cases h
   | own ds=>cases h
   | deep p d'=>cases h
theorem zc2 {ρ : DEnv} {i:Nat} {p:Pat} {d:D} (h:(zay ρ)[i]?=some (some (.deep p d))):False:=by
 unfold zay at h
 rw [List.getElem?_map] at h
 cases e : ρ[i]? with
 | none=>rw [e] at h;cases h
 | some o =>
  rw [e] at h
  cases o with
  | none=>cases h
  | some sl=>cases sl <;> cases h
def zbS (s:D->DEnv->Option DEnv) (t:M Bool) (g:M D):List D->DEnv->List D->Option (List D)
 | [],_,es=>some es
 | d :: r,ρ,es=>match s d ρ with
  | none=>none
  | some ρ1=>match t ρ1 with
   | .bad=>none
   | .ok b ρ2=>if b=true then (match g ρ2 with
     | .bad=>none
     | .ok e ρ3=>if es.length < 1000000 then zbS s t g r (zay ρ3) (es ++ [e]) else none)
    else zbS s t g r (zay ρ2) es
def zd2 (f:M (List D)) (k:Nat) (s:D->DEnv->Option DEnv) (t:M Bool) (g:M D):M (List D):=fun ρ=>match f ρ with
 | .bad=>.bad
 | .ok ds ρ1=>match zbS s t g ds (zay ρ1 ++ List.replicate k none) [] with
  | none=>.bad
  | some es=>.ok es ρ1
def PIfs (X:Cx) (ifs:List Expr) (t:TT):Prop :=
 ∀ (pins:List (Addr × Obj)) (s:Shared) (σ : St) (H:Hp) (Q:Bool->Hp->Prop),Inv X pins σ H s->t σ H Q ->
  wpAny (model X.prog X.w) X.A (forIn ifs true fun c r=>if r=true then do let ok ← isTrue c X.env (eval c X.env);pure (ForInStep.yield ok) else pure (ForInStep.yield r)) (TP X pins σ Q) X.xe s
section
variable {X:Cx} {B G0:Hp}
theorem zba:PIfs X [] (tBo X.K B G0 (zae true)):=fun pins s σ H Q I ⟨G,ρ,k,a⟩=>wpAny_tests_nil ⟨H,I,a true G H k (.refl _) rfl⟩
theorem zkC {c:Expr} {t:M Bool} (h:PT X c (tBo X.K B G0 t)):PIfs X [c] (tBo X.K B G0 t):=fun pins s σ H Q I q=>wpAny_tests_one (h pins s σ H Q I q)
theorem EOk.rebase {K:PySem.W.Frag} {G H:Hp} {σ : St} {ρ : DEnv} (k:EOk K B G0 G H σ ρ):EOk K H G G H σ (zay ρ) where
 bh:=.refl _
 gh:=k.gh
 g0:=.refl _
 np:=fun _ _ _ n=>n
 len:=by unfold zay;rw [List.length_map];exact k.len
 pub:=fun i d q=>k.pub i d (zhU q)
 own:=fun i ds q=>(za6 q).elim
 sep:=fun i j a ds es q=>(za6 q).elim
 dp:=.of (fun _ _ _ q=>zc2 q) fun _ _ q=>za6 q
theorem EOk.more {K:PySem.W.Frag} {G H:Hp} {σ : St} {ρ : DEnv} (k:EOk K H G G H σ (zay ρ)) (n:Nat):EOk K H G G H (σ ++ List.replicate n none) (zay ρ ++ List.replicate n none) where
 bh:=.refl _
 gh:=k.gh
 g0:=.refl _
 np:=fun _ _ _ n=>n
 len:=by rw [List.length_append,List.length_append,k.len,List.length_replicate,List.length_replicate]
 pub:=fun i d q=>by
  by_cases hi:i < (zay ρ).length
  ·rw [List.getElem?_append_left hi] at q
   rw [List.getElem?_append_left (by rw [← k.len];exact hi)]
   exact k.pub i d q
  ·rw [List.getElem?_append_right (Nat.le_of_not_lt hi),List.getElem?_replicate] at q
   split at q <;> cases q
 own:=fun i ds q=>by
  by_cases hi:i < (zay ρ).length
  ·rw [List.getElem?_append_left hi] at q
   exact (za6 q).elim
  ·rw [List.getElem?_append_right (Nat.le_of_not_lt hi),List.getElem?_replicate] at q
   split at q <;> cases q
 sep:=fun i j a ds es q=>by
  by_cases hi:i < (zay ρ).length
  ·rw [List.getElem?_append_left hi] at q
   exact (za6 q).elim
  ·rw [List.getElem?_append_right (Nat.le_of_not_lt hi),List.getElem?_replicate] at q
   split at q <;> cases q
 dp:=by
  refine .of (fun i p d q=>?_) fun i ds q=>?_
  ·by_cases hi:i < (zay ρ).length
   ·rw [List.getElem?_append_left hi] at q;exact zc2 q
   ·rw [List.getElem?_append_right (Nat.le_of_not_lt hi),List.getElem?_replicate] at q;split at q <;> cases q
  ·by_cases hi:i < (zay ρ).length
   ·rw [List.getElem?_append_left hi] at q;exact za6 q
   ·rw [List.getElem?_append_right (Nat.le_of_not_lt hi),List.getElem?_replicate] at q;split at q <;> cases q
theorem EOk.beside {K:PySem.W.Frag} {G H:Hp} {σ : St} {ρ : DEnv} {a:Addr} {o:HO} (k:EOk K B G0 G H σ ρ) (hg:G a=none):EOk K (upd H a o) G G (upd H a o) σ (zay ρ) where
 bh:=.refl _
 gh:=fun b u e=>by rw [zar (fun z=>by subst z;rw [hg] at e;cases e)];exact k.gh b u e
 g0:=.refl _
 np:=fun _ _ _ n=>n
 len:=k.rebase.len
 pub:=k.rebase.pub
 own:=fun i ds q=>(za6 q).elim
 sep:=fun i j a ds es q=>(za6 q).elim
 dp:=.of (fun _ _ _ q=>zc2 q) fun _ _ q=>za6 q
theorem lim1:1000000<=sizeLine:=lim
def zmM:Option Sl->Option Sl
 | some (.own ds)=>some (.pub (.list ds))
 | some (.deep _ d)=>some (.pub d)
 | x=>x
def za5 (ρ : DEnv):DEnv:=ρ.map zmM
theorem zfn {ρ : DEnv} {i:Nat} {d:D} (h:(za5 ρ)[i]?=some (some (.pub d))) : ρ[i]?=some (some (.pub d)) ∨ (∃ ds,d=.list ds /\ ρ[i]?=some (some (.own ds))) ∨ ∃ p,ρ[i]?=some (some (.deep p d)):=by
 unfold za5 at h
 rw [List.getElem?_map] at h
 cases e : ρ[i]? with
 | none=>rw [e] at h;cases h
 | some o =>
  rw [e] at h
  cases o with
  | none=>cases h
  | some sl=>cases sl with
   | pub d'=>cases h;exact .inl rfl
   | own ds=>cases h;exact .inr (.inl ⟨ds,rfl,rfl⟩)
   | deep p d'=>cases h;exact .inr (.inr ⟨p,rfl⟩)
theorem zbT {ρ : DEnv} {i:Nat} {ds:List D} (h:(za5 ρ)[i]?=some (some (.own ds))):False:=by
 unfold za5 at h
 rw [List.getElem?_map] at h
 cases e : ρ[i]? with
 | none=>rw [e] at h;cases h
 | some o =>
  rw [e] at h
  cases o with
  | none=>cases h
  | some sl=>cases sl with
   | pub d'=>cases h
   | own ds=>cases h
   | deep p d'=>cases h
theorem zeg {ρ : DEnv} {i:Nat} {p:Pat} {d:D} (h:(za5 ρ)[i]?=some (some (.deep p d))):False:=by
 unfold za5 at h
 rw [List.getElem?_map] at h
 cases e : ρ[i]? with
 | none=>rw [e] at h;cases h
 | some o =>
  rw [e] at h
  cases o with
  | none=>cases h
  | some sl=>cases sl <;> cases h
def flat:D->Bool
 | .none=>true | .bool _=>true | .int _=>true | .str _=>true | _=>false
theorem Rep.flat {K:PySem.W.Frag} {G G':Hp} {v:V} {d:D} (r:Rep K G v d) (h:DL.flat d=true):Rep K G' v d:=by
 cases r with
 | non=>exact .non
 | bl b=>exact .bl b
 | int i=>exact .int i
 | str x=>exact .str x
 | lst _ _=>cases h
 | tup _ _=>cases h
 | dic _=>cases h
 | exc _ _ _ _=>cases h
 | dct _ _ _ _ _=>cases h
 | dtt _ _ _ _=>cases h
theorem Reps.flat {K:PySem.W.Frag} {G G':Hp}:∀ {vs:List V} {ds:List D},Reps K G vs ds->ds.all DL.flat=true->Reps K G' vs ds
 | _,_,.nil,_=>.nil
 | _,_,.cons r t,h=>by
  rw [List.all_cons,Bool.and_eq_true] at h
  exact .cons (r.flat h.1) (Reps.flat t h.2)
theorem EOk.lend {K:PySem.W.Frag} {B G0 G H:Hp} {σ : St} {ρ : DEnv} {D:Addr} {o:HO} (k:EOk K B G0 G H σ ρ) (hD:H D=none) (n:Nat):EOk K (upd H D o) H H (upd H D o) (σ ++ List.replicate n none) (za5 ρ ++ List.replicate n none) where
 bh:=.refl _
 gh:=zaz hD
 g0:=.refl _
 np:=fun _ _ _ n=>n
 len:=by unfold za5;rw [List.length_append,List.length_append,List.length_map,k.len,List.length_replicate,List.length_replicate]
 pub:=fun i d q=>by
  have hl:(za5 ρ).length = ρ.length:=by unfold za5;rw [List.length_map]
  by_cases hi:i < (za5 ρ).length
  ·rw [List.getElem?_append_left hi] at q
   rw [List.getElem?_append_left (by rw [← k.len,← hl];exact hi)]
   rcases zfn q with e | ⟨ds,rfl,e⟩ | ⟨p,e⟩
   ·obtain ⟨v,h1,h2⟩:=k.pub i d e
    exact ⟨v,h1,h2.mono k.gh⟩
   ·obtain ⟨a,vs,h1,h2,h3,h4,h5⟩:=k.own i ds e
    exact ⟨.ref a,h1,.lst (SqL.of h4) (h5.mono k.gh)⟩
   ·obtain ⟨ω,k1,k2⟩:=k.dp
    obtain ⟨v,fp,s,r,_⟩:=k1 i p d e
    exact ⟨v,s,r.rep k.gh⟩
  ·rw [List.getElem?_append_right (Nat.le_of_not_lt hi),List.getElem?_replicate] at q
   split at q <;> cases q
 own:=fun i ds q=>by
  by_cases hi:i < (za5 ρ).length
  ·rw [List.getElem?_append_left hi] at q
   exact (zbT q).elim
  ·rw [List.getElem?_append_right (Nat.le_of_not_lt hi),List.getElem?_replicate] at q
   split at q <;> cases q
 sep:=fun i j a ds es q=>by
  by_cases hi:i < (za5 ρ).length
  ·rw [List.getElem?_append_left hi] at q
   exact (zbT q).elim
  ·rw [List.getElem?_append_right (Nat.le_of_not_lt hi),List.getElem?_replicate] at q
   split at q <;> cases q
 dp:=by
  refine .of (fun i p d q=>?_) fun i ds q=>?_
  ·by_cases hi:i < (za5 ρ).length
   ·rw [List.getElem?_append_left hi] at q;exact zeg q
   ·rw [List.getElem?_append_right (Nat.le_of_not_lt hi),List.getElem?_replicate] at q;split at q <;> cases q
  ·by_cases hi:i < (za5 ρ).length
   ·rw [List.getElem?_append_left hi] at q;exact zbT q
   ·rw [List.getElem?_append_right (Nat.le_of_not_lt hi),List.getElem?_replicate] at q;split at q <;> cases q
end
def zbk (s:D->DEnv->Option DEnv) (t:M Bool) (g:M D):List D->DEnv->List D->Option (List D × DEnv)
 | [],ρ,es=>some (es,ρ)
 | d :: r,ρ,es=>match s d ρ with
  | none=>none
  | some ρ1=>match t ρ1 with
   | .bad=>none
   | .ok b ρ2=>if b=true then (match g ρ2 with
     | .bad=>none
     | .ok e ρ3=>if es.length < 1000000 then zbk s t g r (zay ρ3) (es ++ [e]) else none)
    else zbk s t g r (zay ρ2) es
def zcf (s0:D->DEnv->Option DEnv) (t0:M Bool) (f1:M (List D)) (s1:D->DEnv->Option DEnv) (t1:M Bool) (g:M D):List D->DEnv->List D->Option (List D)
 | [],_,es=>some es
 | d :: r,ρ,es=>match s0 d ρ with
  | none=>none
  | some ρ1=>match t0 ρ1 with
   | .bad=>none
   | .ok b ρ2=>if b=true then (match f1 ρ2 with
     | .bad=>none
     | .ok ds ρ3=>match zbk s1 t1 g ds (zay ρ3) es with
      | none=>none
      | some (es',ρ4)=>zcf s0 t0 f1 s1 t1 g r ρ4 es')
    else zcf s0 t0 f1 s1 t1 g r (zay ρ2) es
def zfo (f:M (List D)) (k:Nat) (s:D->DEnv->Option DEnv) (t:M Bool) (f1:M (List D)) (s1':D->DEnv->Option DEnv) (t1':M Bool) (g:M D):M (List D):=fun ρ=>match f ρ with
 | .bad=>.bad
 | .ok ds ρ1=>match zcf s t f1 s1' t1' g ds (zay ρ1 ++ List.replicate k none) [] with
  | none=>.bad
  | some es=>.ok es ρ1
def zbE (s0:D->DEnv->Option DEnv) (t0:M Bool) (f1:M (List D)) (Rd:List D->DEnv->List D->Option (List D × DEnv)):List D->DEnv->List D->Option (List D × DEnv)
 | [],ρ,es=>some (es,ρ)
 | d :: r,ρ,es=>match s0 d ρ with
  | none=>none
  | some ρ1=>match t0 ρ1 with
   | .bad=>none
   | .ok b ρ2=>if b=true then (match f1 ρ2 with
     | .bad=>none
     | .ok ds ρ3=>match Rd ds (zay ρ3) es with
      | none=>none
      | some (es',ρ4)=>zbE s0 t0 f1 Rd r ρ4 es')
    else zbE s0 t0 f1 Rd r (zay ρ2) es
def lead (Rd:List D->DEnv->List D->Option (List D × DEnv)) (ds:List D) (ρ : DEnv) (es:List D):Option (List D):=(Rd ds ρ es).map (·.1)
def zeh (f:M (List D)) (k:Nat) (s:D->DEnv->Option DEnv) (t:M Bool) (f1:M (List D)) (s1':D->DEnv->Option DEnv) (t1':M Bool) (fx2:M (List D)) (s2':D->DEnv->Option DEnv) (t2':M Bool) (g:M D):M (List D):=fun ρ=>match f ρ with
 | .bad=>.bad
 | .ok ds ρ1=>match lead (zbE s t f1 (zbE s1' t1' fx2 (zbk s2' t2' g))) ds (zay ρ1 ++ List.replicate k none) [] with
  | none=>.bad
  | some es=>.ok es ρ1
abbrev RdB:=DEnv->List D->Option (List D × DEnv)
def rL (g:M D):RdB:=fun ρ es=>match g ρ with
 | .bad=>none
 | .ok e ρ3=>if es.length < 1000000 then some (es ++ [e],zay ρ3) else none
def cT (s:D->DEnv->Option DEnv) (t:M Bool) (rd:RdB):List D->DEnv->List D->Option (List D × DEnv)
 | [],ρ,es=>some (es,ρ)
 | d :: r,ρ,es=>match s d ρ with
  | none=>none
  | some ρ1=>match t ρ1 with
   | .bad=>none
   | .ok b ρ2=>if b=true then (match rd ρ2 es with
     | none=>none
     | some (es',ρ')=>cT s t rd r ρ' es')
    else cT s t rd r (zay ρ2) es
def rN (f:M (List D)) (s:D->DEnv->Option DEnv) (t:M Bool) (rd:RdB):RdB:=fun ρ es=>match f ρ with
 | .bad=>none
 | .ok ds ρ3=>cT s t rd ds (zay ρ3) es
structure Left (Y:Cx) (D':Addr) (pins:List (Addr × Obj)) (H G:Hp) (es':List D) (ρ':DEnv) (σ':St) (H' G':Hp) (vs':List V) (s':Shared):Prop where
 inv:Inv Y pins σ' H' s'
 eok:EOk Y.K H' G' G' H' σ' ρ'
 hh:∀ a o,a ≠ D'->H a=some o->H' a=some o
 gg:Same G G'
 np:∀ a (u:MO),a ≠ D'->H a=some u.ho->G a=none->G' a=none
 hd:H' D'=some (.lst vs')
 gd:G' D'=none
 rp:Reps Y.K G' vs' es'
def zhV (Y:Cx) (D':Addr) (W:(Shared->Prop)->Shared->Prop) (rd:RdB):Prop :=
 ∀ (pins:List (Addr × Obj)) (sh:Shared) (σ : St) (B1 G1 H G:Hp) (ρ ρ':DEnv) (vs:List V) (es es':List D) (Q:Shared->Prop),
  Inv Y pins σ H sh->EOk Y.K B1 G1 G H σ ρ -> B1 D'=some (.lst vs)->G1 D'=none->Reps Y.K G1 vs es->rd ρ es=some (es',ρ') ->
  (∀ σ' H' G' vs' s',Left Y D' pins B1 G1 es' ρ' σ' H' G' vs' s'->Q s')->W Q sh
section
variable {Y:Cx} {D':Addr}
theorem zhW {elt:Expr} {g:M D} (hx:Y.xe=nox) (he:∀ B1 G1,PE Y elt (tD Y.K B1 G1 g)) :
  zhV Y D' (fun Q s=>wpAny (model Y.prog Y.w) Y.A (eval elt Y.env) (fun x s₄=>wpAny (model Y.prog Y.w) Y.A (call (.builtin "list.append") [.ref D',x]) (fun _ s₅=>Q s₅) nox s₄) nox s) (rL g):=by
 intro pins sh σ B1 G1 H G ρ ρ' vs es es' Q I k hD gD r z fin
 unfold rL at z
 cases zg:g ρ with
 | bad=>rw [zg] at z;cases z
 | ok e ρ4 =>
 rw [zg] at z
 dsimp only at z
 split at z
 ·rename_i hle
  cases z
  have h:=he B1 G1 pins sh σ H (fun v H8=>∃ G8,EOk Y.K B1 G1 G8 H8 σ ρ4/\Rep Y.K G8 v e) I ⟨G,ρ,k,by unfold aft;rw [zg];exact fun v G8 H8 k8 _ q=>⟨G8,k8,q⟩⟩
  rw [hx] at h
  refine thn h fun ev s8 ⟨v,H8,I8,rv,G8,k8,r8⟩=>?_
  have h2:=zdr pins s8 σ H8 (.ref D') [v] (.ref D') [ev] (fun _ H9=>H9=upd H8 D' (.lst (vs ++ [v]))) I8 rfl (.cons rv .nil) ⟨D',vs,v,rfl,rfl,k8.bh _ _ hD,by have:=lim1;rw [r.length];omega,rfl⟩
  rw [hx] at h2
  refine thn h2 fun _ s9 ⟨_,H9,I9,_,e9⟩=>?_
  subst e9
  have g8:=k8.np _ (.l _) hD gD
  exact fin σ _ G8 _ s9 ⟨I9,k8.beside g8,fun a o z q=>by rw [zar z];exact k8.bh a o q,k8.g0,fun a o _ q w=>k8.np a o q w,zas,g8,(r.mono k8.g0).append (.cons r8 .nil)⟩
 ·cases z
theorem zgs {tg:Expr} {ifs:List Expr} {code:Code} {W:(Shared->Prop)->Shared->Prop} {s:D->DEnv->Option DEnv} {t:M Bool} {rd:RdB} {it:Addr} (hx:Y.xe=nox) (hc:Y.calm=true) (rule:zcF Y.prog Y.w Y.A tg ifs Y.env (.ref it) code W)
  (hg:∀ B1 G1,PG Y tg (tG Y.K B1 G1 s)) (ht:∀ B1 G1,PIfs Y ifs (tBo Y.K B1 G1 t)) (hb:zhV Y D' W rd)
  {pins:List (Addr × Obj)} {sh:Shared} {σ : St} {H G:Hp} {ρ ρF:DEnv} {fp:List Addr} {tn:Nat->Heap->Prop} {J:It} {ds es esF:List D} {vs:List V} {R:Result->Shared->Prop}
  (I:Inv Y pins σ H sh) (T:Turn Y.prog Y.w Y.K tg J fp it tn) (st:tn 0 sh.heap) (hf:∀ b ∈ fp,FpOk Y pins H b)
  (k:EOk Y.K H G G H σ ρ) (its:zdy Y.K J ds G) (hD:H D'=some (.lst vs)) (gD:G D'=none) (r:Reps Y.K G vs es) (zl:cT s t rd ds ρ es=some (esF,ρF))
  (hfin:∀ σ' H' G' vs' s',Left Y D' pins H G esF ρF σ' H' G' vs' s'->R (.ok .next) s'):codeAny (model Y.prog Y.w) Y.A code R sh:=by
 have stat:∀ {H':Hp},(∀ b ∈ fp,H' b=none)->∀ b ∈ fp,FpOk Y pins H' b:=fun hn b hb=>⟨hn b hb,(hf b hb).2⟩
 refine rule R (fun n s'=>∃ i σ' H' G' ρ' vs' es',n=ds.length - i/\tn i s'.heap/\(∀ b ∈ fp,H' b=none)/\Left Y D' pins H G es' ρ' σ' H' G' vs' s'/\cT s t rd (ds.drop i) ρ' es'=some (esF,ρF)) ds.length sh
  ⟨0,σ,H,G,ρ,vs,es,rfl,st,fun b hb=>(hf b hb).1,⟨I,k,fun _ _ _ q=>q,.refl _,fun _ _ _ _ n=>n,hD,gD,r⟩,by rw [List.drop_zero];exact zl⟩ ?_
 rintro n s' ⟨i,σ',H',G',ρ',vs',es',rfl,tn',fr',⟨I',k',sh',sg',np',hD',gD',r'⟩,zc⟩
 by_cases hlt:i < ds.length
 ·rw [List.drop_eq_getElem_cons hlt,cT] at zc
  cases zs:s ds[i] ρ' with
  | none=>rw [zs] at zc;cases zc
  | some ρ2 =>
  rw [zs] at zc
  dsimp only at zc
  cases zt:t ρ2 with
  | bad=>rw [zt] at zc;cases zc
  | ok b ρ3 =>
  rw [zt] at zc
  dsimp only at zc
  refine thn (T.item Y rfl rfl rfl hc i pins s' σ' H' nox I' (stat fr') tn' (its.go i G' H' sg' k'.gh hlt)) fun rr s4 ⟨u,hr,h4⟩=>?_
  subst hr
  refine thn h4 fun _ s5 ⟨x,H5,I5,r5,y5,st5,fr5⟩=>?_
  obtain ⟨G5,e5,rx⟩:=its.yld i G' H' x H5 ds[i] sg' k'.gh (List.getElem?_eq_getElem hlt) y5
  have h6:=hg H' G' _ s5 σ' H5 x u (fun σ6 H6=>∃ G6,EOk Y.K H' G' G6 H6 σ6 ρ2) (I5.pinned (stat fr5) (T.obj _ _ st5)) r5 ⟨G5,ρ',ds[i],ρ2,k'.ext e5,rx,zs,fun σ6 G6 H6 k6 _=>⟨G6,k6⟩⟩
  rw [hx] at h6
  refine thn h6 fun _ s6 ⟨σ6,H6,I6,G6,k6⟩=>?_
  have h7:=ht H' G' _ s6 σ6 H6 (fun c H7=>c=b/\∃ G7,EOk Y.K H' G' G7 H7 σ6 ρ3) I6 ⟨G6,ρ2,k6,by unfold aft;rw [zt];exact fun c G7 H7 k7 _ q=>⟨q,G7,k7⟩⟩
  rw [hx] at h7
  refine thn h7 fun ok s7 ⟨H7,I7,hb7,G7,k7⟩=>?_
  subst hb7
  have again:∀ {H9:Hp} {σ9:St} {s9:Shared},Inv Y (pins ++ ze9 fp s5.heap) σ9 H9 s9->Inv Y pins σ9 H9 s9/\tn (i+1) s9.heap/\∀ b ∈ fp,H9 b=none:=fun {H9 σ9 s9} I9=>by
   refine ⟨I9.unpinned,T.keep _ _ _ st5 fun b hb o e=>(I9.pin (b,o) (List.mem_append_right _ (List.mem_append_right _ (zcm hb e)))).1,fun b hb=>?_⟩
   obtain ⟨o,e,d⟩:=T.obj _ _ st5 b hb
   exact (I9.pin (b,o) (List.mem_append_right _ (List.mem_append_right _ (zcm hb e)))).2.1
  have lt:ds.length - (i+1) < ds.length - i:=Nat.sub_lt_sub_left hlt (Nat.lt_succ_self i)
  cases ok with
  | false =>
   rw [if_neg (by decide)] at zc ⊢
   obtain ⟨J1,J2,J3⟩:=again I7
   exact ⟨_,lt,i+1,σ6,H7,G7,zay ρ3,vs',es',rfl,J2,J3,⟨J1,k7.rebase,fun a o z q=>k7.bh a o (sh' a o z q),sg'.trans k7.g0,fun a o z q w=>k7.np a o (sh' a _ z q) (np' a o z q w),k7.bh _ _ hD',k7.np _ (.l _) hD' gD',r'.mono k7.g0⟩,zc⟩
  | true =>
   rw [if_pos rfl] at zc ⊢
   cases ze:rd ρ3 es' with
   | none=>rw [ze] at zc;cases zc
   | some pr =>
   obtain ⟨es1,ρ5⟩:=pr
   rw [ze] at zc
   refine hb _ s7 σ6 H' G' H7 G7 ρ3 ρ5 vs' es' es1 _ I7 k7 hD' gD' r' ze fun σ9 H9 G9 vs9 s9 L=>?_
   obtain ⟨J1,J2,J3⟩:=again L.inv
   exact ⟨_,lt,i+1,σ9,H9,G9,ρ5,vs9,es1,rfl,J2,J3,⟨J1,L.eok,fun a o z q=>L.hh a o z (sh' a o z q),sg'.trans L.gg,fun a o z q w=>L.np a o z (sh' a _ z q) (np' a o z q w),L.hd,L.gd,L.rp⟩,zc⟩
 ·rw [List.drop_eq_nil_of_le (Nat.le_of_not_lt hlt),cT] at zc
  cases zc
  refine thn (T.done Y rfl rfl rfl hc i pins s' σ' H' nox I' (stat fr') tn' (its.stop i G' H' sg' k'.gh (Nat.le_of_not_lt hlt))) fun rr s4 ⟨hr,I6⟩=>?_
  subst hr
  exact hfin σ' H' G' vs' s4 ⟨I6,k',sh',sg',np',hD',gD',r'⟩
theorem zhX {elt tg1 i1:Expr} {ifs1:List Expr} {gens:List Comprehension} {scope:Scope} {pos:Pos} {j:Nat} {W:Value->(Shared->Prop)->Shared->Prop} {f:M (List D)} {s:D->DEnv->Option DEnv} {t:M Bool} {rd:RdB} (hx:Y.xe=nox) (hc:Y.calm=true)
  (hn:gens[j+1]?=some ⟨tg1,i1,ifs1,0⟩) (rule:∀ it1,zcF Y.prog Y.w Y.A tg1 ifs1 Y.env it1 (.compLoop (.ListComp elt gens scope pos) (j+1) it1 (.ref D') Y.env) (W it1))
  (hi:∀ B1 G1,PI Y tg1 i1 (iD Y.K B1 G1 f)) (hg:∀ B1 G1,PG Y tg1 (tG Y.K B1 G1 s)) (ht:∀ B1 G1,PIfs Y ifs1 (tBo Y.K B1 G1 t)) (hb:∀ it1,zhV Y D' (W it1) rd) :
  zhV Y D' (fun Q s=>wpAny (model Y.prog Y.w) Y.A (eval i1 Y.env) (fun x s₄=>wpAny (model Y.prog Y.w) Y.A (pyIter x) (fun it1 s₅=>codeAny (model Y.prog Y.w) Y.A (.compStart (.ListComp elt gens scope pos) (j+1) it1 (.ref D') Y.env)
   (fun r s₆=>match r with | .ok _=>Q s₆ | .error _=>False) s₅) nox s₄) nox s) (rN f s t rd):=by
 intro pins sh σ B1 G1 H G ρ ρ' vs es es' Q I k hD gD r z fin
 unfold rN at z
 cases zf:f ρ with
 | bad=>rw [zf] at z;cases z
 | ok ds ρ3 =>
 rw [zf] at z
 have h:=hi B1 G1 pins sh σ H (fun J1 H8=>∃ G8,EOk Y.K B1 G1 G8 H8 σ ρ3/\zdy Y.K J1 ds G8) I ⟨G,ρ,k,by rw [zf];exact fun J1 G8 H8 k8 _ q=>⟨G8,k8,q⟩⟩
 rw [hx] at h
 refine thn h fun xv s8 h8=>thn h8 fun itv s9 h9=>?_
 obtain ⟨it1,fp1,tn1,J1,H9,rfl,I9,T1,st9,f9,G9,k9,its9⟩:=h9
 have loop:codeAny (model Y.prog Y.w) Y.A (.compLoop (.ListComp elt gens scope pos) (j+1) (.ref it1) (.ref D') Y.env) (fun r s₆=>match r with | .ok _=>Q s₆ | .error _=>False) s9 :=
  zgs hx hc (rule (.ref it1)) hg ht (hb _) I9 T1 st9 f9 k9.rebase its9 (k9.bh _ _ hD) (k9.np _ (.l _) hD gD) (r.mono k9.g0) z fun σ' H' G' vs' s' L =>
   fin σ' H' G' vs' s' ⟨L.inv,L.eok,fun a o z q=>L.hh a o z (k9.bh a o q),k9.g0.trans L.gg,fun a o z q w=>L.np a o z (k9.bh a _ q) (k9.np a o q w),L.hd,L.gd,L.rp⟩
 exact zfm hn loop (T1.self Y.A 0 _ _ _ st9 loop)
end
def zjf (Y:Cx) (e:Expr) (j:Nat) (tg:Expr) (ifs:List Expr) (rd:RdB):Prop :=
 ∀ (D':Addr) (it:Value),∃ W,zcF Y.prog Y.w Y.A tg ifs Y.env it (.compLoop e j it (.ref D') Y.env) W/\zhV Y D' W rd
section
variable {Y:Cx} {elt tg i:Expr} {ifs:List Expr} {gens:List Comprehension} {scope:Scope} {pos:Pos} {j:Nat}
theorem za7 {g:M D} (hx:Y.xe=nox) (hg:gens[j]?=some ⟨tg,i,ifs,0⟩) (hn:gens[j+1]?=none) (he:∀ B1 G1,PE Y elt (tD Y.K B1 G1 g)):zjf Y (.ListComp elt gens scope pos) j tg ifs (rL g) :=
 fun _ _=>⟨_,zhS hg hn,zhW hx he⟩
theorem zcg {tg1 i1:Expr} {ifs1:List Expr} {f:M (List D)} {s:D->DEnv->Option DEnv} {t:M Bool} {rd:RdB} (hx:Y.xe=nox) (hc:Y.calm=true) (hg:gens[j]?=some ⟨tg,i,ifs,0⟩) (hn:gens[j+1]?=some ⟨tg1,i1,ifs1,0⟩) (hs:∀ x,foldedSetIterable i1 Y.env x=pure x)
  (hi:∀ B1 G1,PI Y tg1 i1 (iD Y.K B1 G1 f)) (hgt:∀ B1 G1,PG Y tg1 (tG Y.K B1 G1 s)) (ht:∀ B1 G1,PIfs Y ifs1 (tBo Y.K B1 G1 t)) (hb:zjf Y (.ListComp elt gens scope pos) (j+1) tg1 ifs1 rd):zjf Y (.ListComp elt gens scope pos) j tg ifs (rN f s t rd) :=
 fun D' _=>⟨_,zhT hg hn hs,zhX hx hc hn (fun it1=>(Classical.choose_spec (hb D' it1)).1) hi hgt ht (fun it1=>(Classical.choose_spec (hb D' it1)).2)⟩
end
def envB (l:Bool) (ρ : DEnv):DEnv:=match l with | true=>za5 ρ | false=>zay ρ
theorem zmN {K:PySem.W.Frag} {B G0 G1 H2:Hp} {σ : St} {ρ1:DEnv} {D:Addr} (l:Bool) (k1:EOk K B G0 G1 H2 σ ρ1) (hfr:H2 D=none) (n:Nat) :
  ∃ Gb,EOk K (upd H2 D (.lst [])) Gb Gb (upd H2 D (.lst [])) (σ ++ List.replicate n none) (envB l ρ1 ++ List.replicate n none)/\Same G1 Gb/\Gb D=none /\
   ∀ (G' H':Hp) vs es,(l=true->es.all flat=true)->Same Gb G'->Same H2 H'->Same G' H'->(∀ a (u:MO),H2 a=some u.ho->Gb a=none->G' a=none)->G' D=none->Reps K G' vs es->∃ Gf,Ext G1 H2 Gf H'/\Gf D=none/\Reps K Gf vs es:=by
 have gD:G1 D=none:=k1.gh.free hfr
 cases l with
 | false=>exact ⟨G1,(k1.beside gD).more n,.refl _,gD,fun G' H' vs es _ g h gh np d r=>⟨G',⟨h,g,gh,np⟩,d,r⟩⟩
 | true=>exact ⟨H2,k1.lend hfr n,k1.gh,hfr,fun G' H' vs es fl _ h _ _ _ r=>⟨G1,⟨h,.refl _,k1.gh.trans h,fun _ _ _ n=>n⟩,gD,r.flat (fl rfl)⟩⟩
def dCG (l:Bool) (f:M (List D)) (k:Nat) (s:D->DEnv->Option DEnv) (t:M Bool) (rd:RdB):M (List D):=fun ρ=>match f ρ with
 | .bad=>.bad
 | .ok ds ρ1=>match cT s t rd ds (envB l ρ1 ++ List.replicate k none) [] with
  | none=>.bad
  | some (es,_)=>if l=true->es.all flat=true then .ok es ρ1 else .bad
theorem zhY {l:Bool} {f:M (List D)} {k:Nat} {s:D->DEnv->Option DEnv} {t:M Bool} {rd:RdB} {ρ ρ':DEnv} {es:List D} (h:dCG l f k s t rd ρ = .ok es ρ'):∃ ds ρF,f ρ = .ok ds ρ'/\cT s t rd ds (envB l ρ' ++ List.replicate k none) []=some (es,ρF)/\(l=true->es.all flat=true):=by
 unfold dCG at h
 cases zf:f ρ with
 | bad=>rw [zf] at h;cases h
 | ok ds ρ1 =>
 rw [zf] at h
 dsimp only at h
 cases zl:cT s t rd ds (envB l ρ1 ++ List.replicate k none) [] with
 | none=>rw [zl] at h;cases h
 | some pr =>
 obtain ⟨esF,ρF⟩:=pr
 rw [zl] at h
 dsimp only at h
 split at h
 ·rename_i hf
  cases h
  exact ⟨ds,ρF,rfl,zl,hf⟩
 ·cases h
section
variable {X:Cx} {B G0:Hp} {KX:XW}
def PBlk (X:Cx) (N2:List Str) (scope:Scope) (e tg:Expr) (ifs:List Expr) (s:D->DEnv->Option DEnv) (t:M Bool) (rd:RdB):Prop :=
 ∀ (cl:List (Str × Addr)) (C:Addr) (s₀ : Shared) (H₀ : Hp) (ex:List Addr),(∀ B' G',PG (X.blk N2 scope cl C s₀ H₀ ex) tg (tG X.K B' G' s))/\(∀ B' G',PIfs (X.blk N2 scope cl C s₀ H₀ ex) ifs (tBo X.K B' G' t))/\zjf (X.blk N2 scope cl C s₀ H₀ ex) e 0 tg ifs rd
structure zhZ (SC scope:Scope) (N1 N2:List Str) (k:Nat):Prop where
 b:zcE scope.names N1 N2 k=true
 kind:scope.kind=.function
 cell:∀ y ∈ scope.names,y.2 ≠ .cell
 names:∀ y ∈ scope.names,y.2=.local->scope.names.lookup y.1=some .local
 free:∀ y ∈ scope.names,y.2=.free->SC.names.lookup y.1=some .cell ∨ SC.names.lookup y.1=some .free
theorem zgt {l:Bool} {tg elt iter:Expr} {ifs:List Expr} {gs:List Comprehension} {scope:Scope} {pos pos':Pos} {N2:List Str} {k:Nat} {f:M (List D)} {s:D->DEnv->Option DEnv} {t:M Bool} {rd:RdB} {use:Option (Value->Sem Unit)} {Qc:Value->Shared->Prop} (hc:X.calm=true)
  (hi:PI X tg iter (iD X.K B G0 f)) (hblk:PBlk X N2 scope (.ListComp elt (⟨tg,iter,ifs,0⟩ :: gs) scope pos) tg ifs s t rd) (hb:zhZ X.env.scope scope X.N N2 k) (hs:∀ x,foldedSetIterable iter X.env x=pure x)
  {pins:List (Addr × Obj)} {s0:Shared} {σ : St} {G H:Hp} {ρ ρ1 ρF:DEnv} {ds esF:List D} (I:Inv X pins σ H s0) (k0:EOk X.K B G0 G H σ ρ) (zf:f ρ = .ok ds ρ1) (zl:cT s t rd ds (envB l ρ1 ++ List.replicate k none) []=some (esF,ρF)) (hfl:l=true->esF.all flat=true)
  (hfin:∀ (C D:Addr) (vs:List V) (G' H':Hp) (s4:Shared) (m:Str->Option Value),Inv X pins σ H' s4->s4.heap.Ns C m->H' C=none->C ≠ X.env.locals->X.s₀.heap.objs.size<=C->(∀ x c,X.env.cells.lookup x=some c->c ≠ C)->(∀ p ∈ X.pn ++ pins,p.1 ≠ C) ->
   EOk X.K B G0 G' H' σ ρ1->Same G G'->NewL X.K B G' H' σ ρ1 D vs esF->compPost (model X.prog X.w) X.A X.xe use Qc (.ref D) C (.ok .next) s4) :
  wpAny (model X.prog X.w) X.A (comprehension (.ListComp elt (⟨tg,iter,ifs,0⟩ :: gs) scope pos) scope X.env pos' (newList []) false (eval iter X.env) use) Qc X.xe s0:=by
 obtain ⟨cl,hcl,cl1,cl2⟩:=zg0 (scope:=scope) (env:=X.env) fun y hy hf=>I.ok.has y.1 (hb.free y hy hf)
 refine wpAny_comprehension_free (use:=use) rfl hs hcl hb.kind hb.names (thn (hi pins s0 σ H (fun J H1=>∃ G1,EOk X.K B G0 G1 H1 σ ρ1/\Same G G1/\zdy X.K J ds G1) I ⟨G,ρ,k0,by rw [zf];exact fun J G1 H1 k1 s1 it=>⟨G1,k1,s1,it⟩⟩) fun v s1 h1=>thn h1 fun itv s2 h2=>?_)
 obtain ⟨it,fp,tn,J,H2,rfl,I2,T,st2,f2,G1,k1,sg1,its⟩:=h2
 refine wpAny_newObj_type (wpAny_newFunctionEnv hb.cell (by intro y hy;simp at hy) (fun h₁ hns₁ hsb₁=>?_) hb.kind)
 dsimp only at hns₁ hsb₁ ⊢
 have hfr:H2 s2.heap.objs.size=none:=I2.hok.fresh (Nat.le_refl _)
 have I3:Inv X pins σ (upd H2 s2.heap.objs.size (.lst [])) { s2 with heap:=s2.heap.push { cls:=.type "list", dict:=none,data:=.seq ([]:List Value).toArray } } :=
  I2.laid (t':=s2.toks) (fun b u e=>Heap.get?_push_of_some _ e) (Nat.le_refl _) ⟨Nat.zero_le _,[],0,.nil,Heap.get?_push_size _ rfl⟩
 generalize hP:s2.heap.push { cls:=.type "list", dict:=none,data:=.seq ([]:List Value).toArray }=P at I3 hns₁ hsb₁ ⊢
 have old:∀ b o,s2.heap.get? b=some o->P.get? b=some o:=fun b o e=>hP ▸ Heap.get?_push_of_some _ e
 have kept:∀ b o,P.get? b=some o->h₁.get? b=some o:=fun b o e=>hsb₁.extBut b o (Nat.ne_of_lt (Heap.lt_size e)) (Heap.get?_push_of_some _ e)
 have fpo:∀ b ∈ fp,∃ o,s2.heap.get? b=some o:=fun b hb=>let ⟨o,e,_⟩:=T.obj _ _ st2 b hb;⟨o,e⟩
 have fpD:∀ b ∈ fp,b ≠ s2.heap.objs.size:=fun b hb=>let ⟨o,e⟩:=fpo b hb;Nat.ne_of_lt (Heap.lt_size e)
 have f3:∀ b ∈ fp,FpOk X pins (upd H2 s2.heap.objs.size (.lst [])) b:=fun b hb=>⟨by rw [zar (fpD b hb)];exact (f2 b hb).1,(f2 b hb).2⟩
 have I4:=I3.enter (scope:=scope) (cl:=cl) (N2:=N2) (k:=k) (fp:=fp) (t':=s2.toks+([]:List (Str × Value)).length) hb.b hb.kind hb.cell hb.free cl1 cl2 hns₁ kept f3 (fun b hb=>let ⟨o,e⟩:=fpo b hb;⟨o,old b o e⟩)
 dsimp only at I4
 obtain ⟨Gb,kb,sgb,gbD,ex⟩:=zmN l k1 hfr k
 have sH:Same H2 (upd H2 s2.heap.objs.size (.lst [])):=zaz hfr
 have hD3:upd H2 s2.heap.objs.size (.lst []) s2.heap.objs.size=some (.lst []):=zas
 generalize upd H2 s2.heap.objs.size (.lst [])=H3 at I3 I4 f3 kb sH hD3
 generalize s2.heap.objs.size=D at *
 have tn0:tn 0 h₁:=T.keep 0 _ _ st2 fun b hb o e=>kept b o (old b o e)
 have stat:∀ b ∈ fp,FpOk (X.blk N2 scope cl P.objs.size { s2 with heap:=P } H3 fp) pins H3 b:=fun b hb=>by
  obtain ⟨z0,z1,z2,z3,z4,z5⟩:=f3 b hb
  obtain ⟨o,e⟩:=fpo b hb
  refine ⟨z0,Nat.ne_of_lt (Heap.lt_size (old b o e)),fun z=>?_,.inl hb,fun x c q=>z4 x c (cl1 x c q),z5⟩
  rcases List.mem_cons.mp (I3.stkSub b z) with q | q
  ·exact z1 q
  ·exact z2 q
 have neD:∀ a o,H2 a=some o->a ≠ D:=fun a o q z=>by subst z;rw [hfr] at q;cases q
 obtain ⟨hg,ht,hcl'⟩:=hblk cl P.objs.size { s2 with heap:=P } H3 fp
 obtain ⟨W,rule,body⟩:=hcl' D (.ref it)
 have loop:=zgs (Y:=X.blk N2 scope cl P.objs.size { s2 with heap:=P } H3 fp) (D':=D) (R:=compPost (model X.prog X.w) X.A X.xe use Qc (.ref D) P.objs.size) rfl hc rule hg ht body I4 T tn0 stat kb
  ⟨fun i G H s1 s2 hi=>its.go i G H (sgb.trans s1) s2 hi,fun i G H s1 s2 hi=>its.stop i G H (sgb.trans s1) s2 hi,fun i G H x H' d s1 s2 e y=>its.yld i G H x H' d (sgb.trans s1) s2 e y⟩ hD3 gbD .nil zl fun σ' H' G' vs' s4 L=>by
   obtain ⟨m,hm,_⟩:=id L.inv.loc
   have I7:Inv X pins σ H' s4:=I3.call' (ch:=fp) L.inv.os L.inv.base L.inv.hok L.inv.bare fun b hb=>⟨(f3 b hb).2.2.2.1,(f3 b hb).2.1,(f3 b hb).2.2.2.2.1,(f3 b hb).2.2.2.2.2⟩
   obtain ⟨Gf,eF,dF,rF⟩:=ex G' H' vs' esF hfl L.gg (fun a o q=>L.hh a o (neD a o q) (sH a o q)) L.eok.gh (fun a o q z=>L.np a o (neD a _ q) (sH a _ q) z) L.gd L.rp
   refine hfin P.objs.size D vs' Gf H' s4 m I7 hm L.inv.free (Nat.ne_of_gt I3.lt) I3.sz (fun x c e z=>by obtain ⟨_,q⟩:=I3.cell x c e;exact absurd q.lt (by rw [z];exact Nat.lt_irrefl _)) (fun p hp z=>by have:=Heap.lt_size (I3.pin p hp).1;exact absurd this (by rw [z];exact Nat.lt_irrefl _))
    (k1.ext eF) (sg1.trans eF.g) ⟨k1.bh.free hfr,dF,L.hd,rF,fun j es' q z=>?_,fun j pt d v fp q s r=>k1.freshD eF.h hfr q s r⟩
   obtain ⟨a',ws,h1',h2',h3',h4',h5'⟩:=k1.own j es' q
   rw [z] at h1'
   cases h1'
   rw [hfr] at h4';cases h4'
 exact codeAny_compStart_list loop (T.self X.A 0 _ _ _ tn0 loop)
theorem zmO {l:Bool} {tg elt iter:Expr} {ifs:List Expr} {gs:List Comprehension} {scope:Scope} {pos:Pos} {N2:List Str} {k:Nat} {f:M (List D)} {s:D->DEnv->Option DEnv} {t:M Bool} {rd:RdB} (hc:X.calm=true)
  (hi:PI X tg iter (iD X.K B G0 f)) (hblk:PBlk X N2 scope (.ListComp elt (⟨tg,iter,ifs,0⟩ :: gs) scope pos) tg ifs s t rd) (hb:zhZ X.env.scope scope X.N N2 k) (hs:∀ x,foldedSetIterable iter X.env x=pure x:=by intro _;rfl) :
  PE X (.ListComp elt (⟨tg,iter,ifs,0⟩ :: gs) scope pos) (tL X.K B G0 (dCG l f k s t rd)):=by
 intro pins s0 σ H Q I ⟨G,ρ,k0,a⟩
 cases z:dCG l f k s t rd ρ with
 | bad=>rw [z] at a;exact a.elim
 | ok es ρ1 =>
 rw [z] at a
 obtain ⟨ds,ρF,zf,zl,hfl⟩:=zhY z
 rw [eval_ListComp]
 refine zgt hc hi hblk hb hs I k0 zf zl hfl fun C D vs G' H' s4 m I7 hm hC hL hz hcl hp k' s' n=>?_
 exact ⟨m,hm,fun h' sb=>⟨.ref D,H',I7.turned (t':=s4.toks) (it:=C) (fun b o hb e=>(sb.2 b hb).trans e) hC hL (.inr hz) hcl hp,rfl,a D vs G' H' k' s' n⟩⟩
theorem sD_g {l:Bool} {y:Str} {j:Nat} {py:Pos} {spos:Pos} {tg elt iter:Expr} {ifs:List Expr} {gs:List Comprehension} {scope:Scope} {pos:Pos} {N2:List Str} {k:Nat} {f:M (List D)} {s:D->DEnv->Option DEnv} {t:M Bool} {rd:RdB} (hN:X.N.Nodup) (hj:X.N[j]?=some y) (hy:X.env.scope.names.lookup y=some .local) (hc:X.calm=true)
  (hi:PI X tg iter (iD X.K B G0 f)) (hblk:PBlk X N2 scope (.ListComp elt (⟨tg,iter,ifs,0⟩ :: gs) scope pos) tg ifs s t rd) (hb:zhZ X.env.scope scope X.N N2 k) (hs:∀ x,foldedSetIterable iter X.env x=pure x:=by intro _;rfl)
  (hsw:swapsWith (.ListComp elt (⟨tg,iter,ifs,0⟩ :: gs) scope pos) (some (.Name y py)) spos.line X.env=pure true:=by rfl) :
  PS X (.Assign [.Name y py] (.ListComp elt (⟨tg,iter,ifs,0⟩ :: gs) scope pos) spos) (tS X.K B G0 KX (zbR j (dCG l f k s t rd))):=by
 intro pins s0 σ H Dn I ⟨G,ρ,k0,a⟩
 unfold zbR sB at a
 cases z:dCG l f k s t rd ρ with
 | bad=>rw [z] at a;exact a.elim
 | ok es ρ1 =>
 rw [z] at a
 dsimp only at a
 by_cases hl:j < ρ1.length
 ·rw [if_pos hl] at a
  obtain ⟨ds,ρF,zf,zl,hfl⟩:=zhY z
  rw [exec_Assign_Name_used _ _ _ _ hsw]
  refine wpAny_bind (wpAny_standAt (wpAny_bind ?_))
  show wpAny _ X.A (do let _ ← comprehension (.ListComp elt (⟨tg,iter,ifs,0⟩ :: gs) scope pos) scope X.env _ (newList []) false (eval iter X.env) (some (assign (.Name y py) X.env))) _ _ s0
  refine wpAny_bind (wpAny_mono (zgt (use:=some (assign (.Name y py) X.env)) (Qc:=fun _ s'=>SP X pins Dn .next s') hc hi hblk hb hs I k0 zf zl hfl fun C D vs G' H' s4 m I7 hm hC hL hz hcl hp k' s' n=>?_) (fun _ s' hq=>wpAny_pure (wpAny_pure hq)) fun _ _ e=>e)
  show wpAny _ X.A (assign (.Name y py) X.env (.ref D)) _ _ s4
  refine wpAny_assign_Name (ze8 I7 hN hj (.inl hy) (v:=.ref D) rfl (fun s5 I8 ⟨ad,sb,hx⟩=>?_) (.inr hy))
  have hCa:C ≠ ad:=by
   rcases hx with e | e
   ·rw [e];exact hL
   ·exact Ne.symm (hcl y ad e)
  refine ⟨m,hm.sameBut sb hCa,fun h' sb'=>⟨_,H',I8.turned (t':=s5.toks) (it:=C) (fun b o hb e=>(sb'.2 b hb).trans e) hC hL (.inr hz) hcl hp,?_⟩⟩
  exact a _ G' H' (k'.setOwn n hl) s'
 ·rw [if_neg hl] at a;exact a.elim
theorem zmP {K:PySem.W.Frag} {f f':M (List D)} (h:∀ ρ es ρ',f ρ = .ok es ρ'->f' ρ = .ok es ρ') {σ : St} {H:Hp} {Q:VK} (q:tL K B G0 f σ H Q):tL K B G0 f' σ H Q:=by
 obtain ⟨G,ρ,k,a⟩:=q
 refine ⟨G,ρ,k,?_⟩
 cases z:f ρ with
 | bad=>rw [z] at a;exact a.elim
 | ok es ρ'=>rw [z] at a;rw [h ρ es ρ' z];exact a
theorem zlT {K:PySem.W.Frag} {f f':M (List D)} {j:Nat} (h:∀ ρ es ρ',f ρ = .ok es ρ'->f' ρ = .ok es ρ') {Dn:_} {σ : St} {H:Hp} (q:tS K B G0 KX (zbR j f) Dn σ H):tS K B G0 KX (zbR j f') Dn σ H:=by
 obtain ⟨G,ρ,k,a⟩:=q
 refine ⟨G,ρ,k,?_⟩
 unfold zbR sB at a ⊢
 cases z:f ρ with
 | bad=>rw [z] at a;exact a.elim
 | ok es ρ'=>rw [z] at a;rw [h ρ es ρ' z];exact a
end
theorem zeB {s:D->DEnv->Option DEnv} {t:M Bool} {g:M D}:∀ {ds:List D} {ρ : DEnv} {es esF:List D},zbS s t g ds ρ es=some esF->∃ ρF,cT s t (rL g) ds ρ es=some (esF,ρF)
 | [],ρ,es,esF,h=>by rw [zbS] at h;cases h;exact ⟨ρ,rfl⟩
 | d :: r,ρ,es,esF,h=>by
  rw [zbS] at h
  rw [cT]
  cases zs:s d ρ with
  | none=>rw [zs] at h;cases h
  | some ρ1 =>
  rw [zs] at h
  dsimp only at h ⊢
  cases zt:t ρ1 with
  | bad=>rw [zt] at h;cases h
  | ok b ρ2 =>
  rw [zt] at h
  dsimp only at h ⊢
  cases b with
  | false=>exact zeB (ds:=r) h
  | true =>
   rw [if_pos rfl] at h ⊢
   unfold rL
   cases zg:g ρ2 with
   | bad=>rw [zg] at h;cases h
   | ok e ρ3 =>
   rw [zg] at h
   dsimp only at h ⊢
   split at h
   ·rename_i hl
    rw [if_pos hl]
    exact zeB (ds:=r) h
   ·cases h
theorem zcG {s:D->DEnv->Option DEnv} {t:M Bool} {g:M D}:∀ {ds:List D} {ρ : DEnv} {es:List D},zbk s t g ds ρ es=cT s t (rL g) ds ρ es
 | [],ρ,es=>rfl
 | d :: r,ρ,es=>by
  rw [zbk,cT]
  cases s d ρ with
  | none=>rfl
  | some ρ1 =>
  dsimp only
  cases t ρ1 with
  | bad=>rfl
  | ok b ρ2 =>
  dsimp only
  cases b with
  | false=>exact zcG (ds:=r)
  | true =>
   rw [if_pos rfl,if_pos rfl]
   unfold rL
   cases g ρ2 with
   | bad=>rfl
   | ok e ρ3 =>
   dsimp only
   split
   ·exact zcG (ds:=r)
   ·rfl
theorem zcH {s s1:D->DEnv->Option DEnv} {t t1:M Bool} {f:M (List D)} {Rd:List D->DEnv->List D->Option (List D × DEnv)} {rd:RdB} (hR:∀ ds ρ es,Rd ds ρ es=cT s1 t1 rd ds ρ es) :
  ∀ {ds:List D} {ρ : DEnv} {es:List D},zbE s t f Rd ds ρ es=cT s t (rN f s1 t1 rd) ds ρ es
 | [],ρ,es=>rfl
 | d :: r,ρ,es=>by
  rw [zbE,cT]
  cases s d ρ with
  | none=>rfl
  | some ρ1 =>
  dsimp only
  cases t ρ1 with
  | bad=>rfl
  | ok b ρ2 =>
  dsimp only
  cases b with
  | false=>exact zcH hR (ds:=r)
  | true =>
   rw [if_pos rfl,if_pos rfl]
   unfold rN
   cases f ρ2 with
   | bad=>rfl
   | ok ds ρ3 =>
   dsimp only
   rw [hR]
   cases cT s1 t1 rd ds (zay ρ3) es with
   | none=>rfl
   | some pr=>exact zcH hR (ds:=r)
theorem zdE {s s1:D->DEnv->Option DEnv} {t t1:M Bool} {f:M (List D)} {g:M D}:∀ {ds:List D} {ρ : DEnv} {es esF:List D},zcf s t f s1 t1 g ds ρ es=some esF->∃ ρF,cT s t (rN f s1 t1 (rL g)) ds ρ es=some (esF,ρF)
 | [],ρ,es,esF,h=>by rw [zcf] at h;cases h;exact ⟨ρ,rfl⟩
 | d :: r,ρ,es,esF,h=>by
  rw [zcf] at h
  rw [cT]
  cases zs:s d ρ with
  | none=>rw [zs] at h;cases h
  | some ρ1 =>
  rw [zs] at h
  dsimp only at h ⊢
  cases zt:t ρ1 with
  | bad=>rw [zt] at h;cases h
  | ok b ρ2 =>
  rw [zt] at h
  dsimp only at h ⊢
  cases b with
  | false=>exact zdE (ds:=r) h
  | true =>
   rw [if_pos rfl] at h ⊢
   unfold rN
   cases zg:f ρ2 with
   | bad=>rw [zg] at h;cases h
   | ok ds ρ3 =>
   rw [zg] at h
   dsimp only at h ⊢
   rw [← zcG]
   cases zl:zbk s1 t1 g ds (zay ρ3) es with
   | none=>rw [zl] at h;cases h
   | some pr=>rw [zl] at h;exact zdE (ds:=r) h
theorem zcn {f:M (List D)} {k:Nat} {s:D->DEnv->Option DEnv} {t:M Bool} {g:M D} (ρ : DEnv) (es:List D) (ρ':DEnv) (h:zd2 f k s t g ρ = .ok es ρ'):dCG false f k s t (rL g) ρ = .ok es ρ':=by
 unfold zd2 at h
 unfold dCG
 cases zf:f ρ with
 | bad=>rw [zf] at h;cases h
 | ok ds ρ1 =>
 rw [zf] at h
 dsimp only [envB] at h ⊢
 cases zl:zbS s t g ds (zay ρ1 ++ List.replicate k none) [] with
 | none=>rw [zl] at h;cases h
 | some esF =>
 rw [zl] at h
 cases h
 obtain ⟨ρF,e⟩:=zeB zl
 rw [e]
 exact if_pos fun z=>by cases z
theorem zh0 {f f1:M (List D)} {k:Nat} {s s1:D->DEnv->Option DEnv} {t t1:M Bool} {g:M D} (ρ : DEnv) (es:List D) (ρ':DEnv) (h:zfo f k s t f1 s1 t1 g ρ = .ok es ρ'):dCG false f k s t (rN f1 s1 t1 (rL g)) ρ = .ok es ρ':=by
 unfold zfo at h
 unfold dCG
 cases zf:f ρ with
 | bad=>rw [zf] at h;cases h
 | ok ds ρ1 =>
 rw [zf] at h
 dsimp only [envB] at h ⊢
 cases zl:zcf s t f1 s1 t1 g ds (zay ρ1 ++ List.replicate k none) [] with
 | none=>rw [zl] at h;cases h
 | some esF =>
 rw [zl] at h
 cases h
 obtain ⟨ρF,e⟩:=zdE zl
 rw [e]
 exact if_pos fun z=>by cases z
theorem zfp {f f1 f2:M (List D)} {k:Nat} {s s1 s2:D->DEnv->Option DEnv} {t t1 t2:M Bool} {g:M D} (ρ : DEnv) (es:List D) (ρ':DEnv) (h:zeh f k s t f1 s1 t1 f2 s2 t2 g ρ = .ok es ρ'):dCG false f k s t (rN f1 s1 t1 (rN f2 s2 t2 (rL g))) ρ = .ok es ρ':=by
 unfold zeh at h
 unfold dCG
 cases zf:f ρ with
 | bad=>rw [zf] at h;cases h
 | ok ds ρ1 =>
 rw [zf] at h
 dsimp only [envB,lead] at h ⊢
 rw [zcH fun _ _ _=>zcH fun _ _ _=>zcG] at h
 cases zl:cT s t (rN f1 s1 t1 (rN f2 s2 t2 (rL g))) ds (zay ρ1 ++ List.replicate k none) [] with
 | none=>rw [zl] at h;cases h
 | some pr =>
 rw [zl] at h
 cases h
 exact if_pos fun z=>by cases z
def zfq (q:Option NameKind->Bool) (SC scope:Scope) (N1 N2:List Str) (k:Nat):Bool :=
 zcE scope.names N1 N2 k && decide (scope.kind=.function) && scope.names.all fun y=>match y.2 with
  | .cell=>false
  | .local=>decide (scope.names.lookup y.1=some .local)
  | .free=>q (SC.names.lookup y.1)
  | _=>true
def zkD:Option NameKind->Bool
 | some .cell=>true | some .free=>true | _=>false
theorem zg1 {q:Option NameKind->Bool} {SC SC' scope:Scope} {N1 N2:List Str} {k:Nat} (h:zfq q SC scope N1 N2 k=true) (f:∀ x,q (SC.names.lookup x)=true->SC'.names.lookup x=some .cell ∨ SC'.names.lookup x=some .free):zhZ SC' scope N1 N2 k:=by
 unfold zfq at h
 rw [Bool.and_eq_true,Bool.and_eq_true,List.all_eq_true] at h
 obtain ⟨⟨h1,h2⟩,h3⟩:=h
 refine ⟨h1,of_decide_eq_true h2,fun y hy e=>?_,fun y hy e=>?_,fun y hy e=>?_⟩
 ·have:=h3 y hy;rw [e] at this;cases this
 ·have:=h3 y hy;rw [e] at this;exact of_decide_eq_true this
 ·have:=h3 y hy;rw [e] at this;exact f _ this
theorem zh1 {SC scope:Scope} {N1 N2:List Str} {k:Nat} (h:zfq zkD SC scope N1 N2 k=true):zhZ SC scope N1 N2 k:=zg1 h fun x e=>by
 cases z:SC.names.lookup x with
 | none=>rw [z] at e;cases e
 | some y=>rw [z] at e;cases y <;> first | exact .inl rfl | exact .inr rfl | cases e
section
variable {X:Cx} {B G0:Hp} {KX:XW}
theorem zg2 {l:Bool} {tg elt iter:Expr} {ifs:List Expr} {gs:List Comprehension} {scope:Scope} {pos:Pos} {f:M (List D)} {s:D->DEnv->Option DEnv} {t:M Bool} {rd:RdB} {F:M (List D)} (SC:Scope) (N1 N2:List Str) (k:Nat) (le:∀ ρ es ρ',F ρ = .ok es ρ'->dCG l f k s t rd ρ = .ok es ρ') (hc:X.calm=true)
  (hi:PI X tg iter (iD X.K B G0 f)) (hblk:PBlk X N2 scope (.ListComp elt (⟨tg,iter,ifs,0⟩ :: gs) scope pos) tg ifs s t rd) (h1:X.env.scope=SC) (h2:X.N=N1) (hb:zfq zkD SC scope N1 N2 k=true) (hs:∀ x,foldedSetIterable iter X.env x=pure x:=by intro _;rfl) :
  PE X (.ListComp elt (⟨tg,iter,ifs,0⟩ :: gs) scope pos) (tL X.K B G0 F) :=
 peof (zmO hc hi hblk (by rw [h1,h2];exact zh1 hb) hs) fun _ _ _ q=>zmP le q
theorem sD_1 {l:Bool} {y:Str} {j:Nat} {py:Pos} {spos:Pos} {tg elt iter:Expr} {ifs:List Expr} {gs:List Comprehension} {scope:Scope} {pos:Pos} {f:M (List D)} {s:D->DEnv->Option DEnv} {t:M Bool} {rd:RdB} {F:M (List D)} (SC:Scope) (N1 N2:List Str) (k:Nat) (le:∀ ρ es ρ',F ρ = .ok es ρ'->dCG l f k s t rd ρ = .ok es ρ') (hN:X.N.Nodup) (hj:X.N[j]?=some y) (hy:X.env.scope.names.lookup y=some .local) (hc:X.calm=true)
  (hi:PI X tg iter (iD X.K B G0 f)) (hblk:PBlk X N2 scope (.ListComp elt (⟨tg,iter,ifs,0⟩ :: gs) scope pos) tg ifs s t rd) (h1:X.env.scope=SC) (h2:X.N=N1) (hb:zfq zkD SC scope N1 N2 k=true) (hs:∀ x,foldedSetIterable iter X.env x=pure x:=by intro _;rfl)
  (hsw:swapsWith (.ListComp elt (⟨tg,iter,ifs,0⟩ :: gs) scope pos) (some (.Name y py)) spos.line X.env=pure true:=by rfl) :
  PS X (.Assign [.Name y py] (.ListComp elt (⟨tg,iter,ifs,0⟩ :: gs) scope pos) spos) (tS X.K B G0 KX (zbR j F)) :=
 psof (sD_g hN hj hy hc hi hblk (by rw [h1,h2];exact zh1 hb) hs hsw) fun _ _ _ q=>zlT le q
end
theorem zjg {f:M (List D)} {k:Nat} {s s1' s2':D->DEnv->Option DEnv} {t t1' t2':M Bool} {f1 f2:M (List D)} {g:M D} {ρ ρ1 ρ2:DEnv} {ds es:List D} (h1:f ρ = .ok ds ρ1) (h2:zbE s t f1 (zbE s1' t1' f2 (zbk s2' t2' g)) ds (zay ρ1 ++ List.replicate k none) []=some (es,ρ2)) :
  zeh f k s t f1 s1' t1' f2 s2' t2' g ρ = .ok es ρ1:=by
 unfold zeh;rw [h1];dsimp only [lead];rw [h2];rfl
section
variable {X:Cx} {B G0:Hp} {e a b c tg:Expr} {pos:Pos} {es rest:List Expr}
theorem EOk.given {K:PySem.W.Frag} {G H:Hp} {σ : St} {ρ : DEnv} {a:Addr} {vs:List V} {ds:List D} (k:EOk K B G0 G H σ ρ) (n:NewL K B G H σ ρ a vs ds):EOk K B G0 (upd G a (.lst vs)) H σ ρ where
 bh:=k.bh
 gh:=fun b u q=>by
  by_cases z:b=a
  ·subst z;rw [zas] at q;cases q;exact n.h
  ·rw [zar z] at q;exact k.gh b u q
 g0:=k.g0.trans (zaz n.g)
 np:=fun b o q z=>by
  have zb:b ≠ a:=fun z=>by subst z;rw [n.b] at q;cases q
  rw [zar zb];exact k.np b o q z
 len:=k.len
 pub:=fun i d q=>let ⟨v,h1,h2⟩:=k.pub i d q;⟨v,h1,h2.mono (zaz n.g)⟩
 own:=fun i ds q=>by
  obtain ⟨b,ws,h1,h2,h3,h4,h5⟩:=k.own i ds q
  have zb:b ≠ a:=fun z=>by subst z;exact n.f i ds q h1
  exact ⟨b,ws,h1,h2,by rw [zar zb];exact h3,h4,h5.mono (zaz n.g)⟩
 sep:=k.sep
 dp:=k.dp.map (fun _ _ _ q=>⟨q,rfl⟩) (fun _ ds q=>⟨ds,q,rfl⟩) fun i p d v fp q s r w nn=>⟨r.mono (zaz n.g) (.refl _),fun b m=>⟨(w b m).1,by rw [zar (fun z=>n.dp i p d v fp q s r (by rw [← z];exact m))];exact (w b m).2⟩⟩
theorem zc3 {f:M (List D)} (h:PE X e (tL X.K B G0 f)):PE X e (tD X.K B G0 (mMap PyData.list f)) :=
 peof h fun σ H Q ⟨G,ρ,k,a⟩=>by
  refine ⟨G,ρ,k,?_⟩
  unfold mMap zap at a
  cases z:f ρ with
  | bad=>rw [z] at a;exact a.elim
  | ok ds ρ1 =>
   rw [z] at a
   intro ad vs G' H' k' s' n
   exact a (.ref ad) _ H' (k'.given n) (s'.trans (zaz n.g)) (.lst (SqL.of zas) (n.r.mono (zaz n.g)))
theorem zjh (hc:X.calm=true):zcu X (.builtin "all") (fun xs H Q=>∃ l,∃ bs:List Bool,xs=[.ref l]/\SqL X.K H l (bs.map V.bl)/\Q (.bl (bs.all id)) H):=by
 intro pins s σ H xs us Q I rx h
 obtain ⟨l,bs,rfl,hq,q⟩:=h
 obtain ⟨u,rfl,ru⟩:=rx.one
 cases ru
 obtain ⟨its,rv,p,hz⟩:=I.list hq
 have hl:=p.isList
 have hlt:l < s.heap.objs.size:=by obtain ⟨_,e,_⟩:=id hl;exact Heap.lt_size e
 have key:∀ (i:Nat) v,its.toArray[i]?=some v->∃ t,bs[i]?=some t/\v=.bool t:=fun i v e=>by
  have e:its[i]?=some v:=by simpa using e
  have hi:i < bs.length:=by
   have:=(List.getElem?_eq_some_iff.mp e).1
   have h2:=rv.length
   rw [List.length_map] at h2
   omega
  obtain ⟨u,e2,r2⟩:=rv.get (i:=i) (x:=.bl bs[i]) (by rw [List.getElem?_map,List.getElem?_eq_getElem hi];rfl)
  rw [e] at e2
  cases e2
  exact ⟨bs[i],List.getElem?_eq_getElem hi,r2⟩
 refine call_all_walk (wpAny_pyIter_list hl ?_)
 refine ⟨s.heap.objs.size,[s.heap.objs.size,l],[s.heap.objs.size],its.toArray.size,_,_,fun i=>(bs[i]?).getD true,rfl,Walks.list (A:=X.A.in1) (I.ok.hd hc) _ l (Nat.ne_of_lt hlt) its.toArray,
  ⟨⟨_,Heap.get?_push_size _ rfl,rfl,rfl⟩,hl.push _⟩,fun i v s' Q' E' hP hQ=>?_,fun h' tk hk=>?_⟩
 ·obtain ⟨b,e,rfl⟩:=key i v hP
  simp only [e,Option.getD_some] at hQ
  exact wpAny_truthy_bool hQ
 ·have hn:its.toArray.size=bs.length:=by have:=rv.length;rw [List.length_map] at this;simp;omega
  have e:((List.range its.toArray.size).all fun i=>(bs[i]?).getD true)=bs.all id:=by
   rw [hn,Bool.eq_iff_iff,List.all_eq_true,List.all_eq_true]
   constructor
   ·intro h b hb
    obtain ⟨i,hi,e⟩:=List.getElem_of_mem hb
    have:=h i (List.mem_range.mpr hi)
    simp only [List.getElem?_eq_getElem hi,Option.getD_some,e] at this
    exact this
   ·intro h i hi
    have hi':=List.mem_range.mp hi
    simp only [List.getElem?_eq_getElem hi',Option.getD_some]
    exact h _ (List.getElem_mem hi')
  rw [e]
  exact ⟨.bl (bs.all id),H,I.kept (t':=tk) fun b x e=>hk b x (fun hm=>by rw [List.mem_singleton.mp hm] at e;exact Nat.lt_irrefl _ (Heap.lt_size e)) (Heap.get?_push_of_some _ e),rfl,q⟩
def zch:List D->Option (List Bool)
 | []=>some []
 | .bool b :: r=>(zch r).map (b :: ·)
 | _=>none
theorem zde {K:PySem.W.Frag} {G:Hp}:∀ {vs:List V} {ds:List D} {bs:List Bool},Reps K G vs ds->zch ds=some bs->vs=bs.map V.bl
 | _,_,bs,.nil,e=>by cases e;rfl
 | _,_,bs,.cons (d:=d) r t,e=>by
  cases d with
  | bool b =>
   unfold zch at e
   cases z:zch _ with
   | none=>rw [z] at e;cases e
   | some cs =>
    rw [z] at e
    cases e
    rw [r.bl_inv,zde t z];rfl
  | _=>cases e
def oAll:List D->Option D
 | [.list ds]=>(zch ds).map fun bs=>.bool (bs.all id)
 | _=>none
theorem zlU (hc:X.calm=true):zcZ X (.builtin "all") oAll:=by
 refine ⟨_,zjh hc,fun vs G H ds d Q s r e k=>?_⟩
 unfold oAll at e
 split at e
 ·rename_i ds
  cases z:zch ds with
  | none=>rw [z] at e;cases e
  | some bs =>
   rw [z] at e
   cases e
   obtain ⟨v,rfl,q⟩:=r.one_inv
   obtain ⟨l,ws,rfl,h1,r1⟩:=q.lst_inv
   have hw:=zde r1 z
   subst hw
   exact ⟨l,bs,rfl,s.seq h1,k _ G H (.refl s) (.bl _)⟩
 ·cases e
def Its (x:Str):It:=⟨fun i _=>i < x.cps.size,fun i H v H'=>H'=H/\∃ c,x.cps[i]?=some c/\v=.str ⟨#[c]⟩,fun i _=>x.cps.size<=i⟩
theorem zji {P:Program} {w:World} {K:PySem.W.Frag} {tg:Expr} (x:Str) (t:Tok) (it:Addr):Turn P w K tg (Its x) [it] it (fun i h=>h.IsStrIter it (strIterType x) x t i) where
 mem:=by simp
 obj:=fun i h st b hb=>by
  have e:b=it:=by simpa using hb
  subst e
  obtain ⟨o,e,c,d⟩:=st
  exact ⟨o,e,fun v z=>by rw [d] at z;cases z⟩
 keep:=fun i h h' st k=>by
  obtain ⟨o,e,c,d⟩:=st
  exact ⟨o,k it (by simp) o e,c,d⟩
 item:=by
  intro X hP hw hK hc i pins s σ H E I hf st hg
  subst hP hw hK
  obtain ⟨f0,f1,f2,f3,f4,f5⟩:=hf it (by simp)
  have hx:x.cps[i]?=some x.cps[i]:=Array.getElem?_eq_getElem hg
  have fin:∀ h' tk (T:String),strIterType x=T->h'.IsStrIter it T x t (i+1)->Heap.SameBut it s.heap h'->["enumerate", "zip", "dict_itemiterator", "dict_reverseitemiterator", "odict_iterator", "itertools.zip_longest", "itertools.pairwise"].contains T=false ->
    ∃ u,some (Value.str ⟨#[x.cps[i]]⟩ s.toks)=some u/\wpAny (model X.prog X.w) X.A (letOwnedTupleGo tg (.ref it) u) (fun _ s2=>∃ v H',Inv X pins σ H' s2/\RelV v u/\(Its x).yld i H v H'/\s2.heap.IsStrIter it (strIterType x) x t (i+1)/\∀ b ∈ [it],H' b=none) E { s with heap:=h',toks:=tk }:=by
   intro h' tk T eT st' sb hn
   have I1:Inv X pins σ H { s with heap:=h',toks:=tk }:=I.turned (t':=tk) (fun b o hb e=>(sb.2 b hb).trans e) f0 f1 f3 f4 f5
   obtain ⟨o,e,c,d⟩:=id st'
   refine ⟨_,rfl,zhp (s:={ s with heap:=h',toks:=tk }) e c d hn ⟨.str ⟨#[x.cps[i]]⟩,H,I1,⟨_,rfl⟩,⟨rfl,_,hx,rfl⟩,by rw [eT];exact st',fun b hb=>(hf b hb).1⟩⟩
  cases ha:x.cps.all (· < 128) with
  | true =>
   have eT:strIterType x = "str_ascii_iterator" := by simp [strIterType,ha]
   rw [eT] at st
   exact wpAny_pyNext_ascii_item st hx fun h' st' sb=>fin h' _ _ eT st' sb (by decide)
  | false =>
   have eT:strIterType x = "str_iterator" := by simp [strIterType,ha]
   rw [eT] at st
   exact wpAny_pyNext_wide_item st hx fun h' st' sb=>fin h' _ _ eT st' sb (by decide)
 done:=by
  intro X hP hw hK hc i pins s σ H E I hf st hg
  subst hP hw hK
  obtain ⟨f0,f1,f2,f3,f4,f5⟩:=hf it (by simp)
  have hx:x.cps[i]?=none:=Array.getElem?_eq_none hg
  cases ha:x.cps.all (· < 128) with
  | true =>
   have eT:strIterType x = "str_ascii_iterator" := by simp [strIterType,ha]
   rw [eT] at st
   exact wpAny_pyNext_ascii_end (I.ok.hd hc) st hx fun h' eb=>⟨rfl,I.turned (t':=s.toks) (fun b o hb e=>eb b o hb e) f0 f1 f3 f4 f5⟩
  | false =>
   have eT:strIterType x = "str_iterator" := by simp [strIterType,ha]
   rw [eT] at st
   exact wpAny_pyNext_wide_end (I.ok.hd hc) st hx fun h' eb=>⟨rfl,I.turned (t':=s.toks) (fun b o hb e=>eb b o hb e) f0 f1 f3 f4 f5⟩
 self:=fun A i s Q E st h=>by
  cases ha:x.cps.all (· < 128) with
  | true =>
   have eT:strIterType x = "str_ascii_iterator" := by simp [strIterType,ha]
   rw [eT] at st
   exact wpAny_pyIter_striter_ascii st h
  | false =>
   have eT:strIterType x = "str_iterator" := by simp [strIterType,ha]
   rw [eT] at st
   exact wpAny_pyIter_striter_wide st h
def iAny (K:PySem.W.Frag) (tl:TE):TI:=fun σ H R=>tl σ H fun x H1=>(∃ a,x=.ref a/\(∃ xs,SqL K H1 a xs)/\R (Itl K a) H1) ∨ (∃ a,x=.ref a/\(∃ xs,SqT K H1 a xs)/\R (Itt K a) H1) ∨ ∃ z,x=.str z/\R (Its z) H1
theorem zlV {l:Expr} {tl:TE} (hl:PE X l tl):PI X tg l (iAny X.K tl):=by
 intro pins s σ H R I h
 refine thn (hl pins s σ H _ I h) fun v s1 ⟨x,H1,I1,r1,q1⟩=>?_
 have fpOk:∀ b ∈ [s1.heap.objs.size],FpOk X pins H1 b:=fun b hb=>by
  have e:b=s1.heap.objs.size:=by simpa using hb
  subst e
  exact I1.fpOk (Nat.le_refl _) (I1.hok.fresh (Nat.le_refl _))
 rcases q1 with ⟨a,e,⟨xs,hq⟩,q⟩ | ⟨a,e,⟨xs,hq⟩,q⟩ | ⟨z,e,q⟩
 ·subst e
  cases r1
  obtain ⟨its,rv,p,hz⟩:=I1.list hq
  refine wpAny_pyIter_list p.isList ?_
  exact ⟨s1.heap.objs.size,[s1.heap.objs.size],_,_,H1,rfl,I1.kept (t':=s1.toks) fun b o e=>Heap.get?_push_of_some _ e,zhq a _,⟨_,Heap.get?_push_size _ rfl,rfl,rfl⟩,fpOk,q⟩
 ·subst e
  cases r1
  obtain ⟨its,rv,p,hz⟩:=I1.tuple hq
  refine wpAny_pyIter_tuple p ?_
  exact ⟨s1.heap.objs.size,[s1.heap.objs.size],_,_,H1,rfl,I1.kept (t':=s1.toks) fun b o e=>Heap.get?_push_of_some _ e,zgO a _,⟨_,Heap.get?_push_size _ rfl,rfl,rfl⟩,fpOk,q⟩
 ·subst e
  obtain ⟨t,rfl⟩:=r1
  refine wpAny_pyIter_strU ?_
  exact ⟨s1.heap.objs.size,[s1.heap.objs.size],_,_,H1,rfl,I1.kept (t':=s1.toks) fun b o e=>Heap.get?_push_of_some _ e,zji z t _,⟨_,Heap.get?_push_size _ rfl,rfl,rfl⟩,fpOk,q⟩
def zfr (z:Str):List D:=z.cps.toList.map fun c=>.str ⟨#[c]⟩
def zf0:D->Option (List D)
 | .list ds=>some ds
 | .tuple ds=>some ds
 | .str z=>some (zfr z)
 | _=>none
theorem zf1 {K:PySem.W.Frag} {G1:Hp} {ad:Addr} {vs:List V} {ds:List D} (h:SqT K G1 ad vs) (r:Reps K G1 vs ds):zdy K (Itt K ad) ds G1 where
 go:=fun i G H s1 s2 hi=>by
  have hi':i < vs.length:=by rw [r.length];exact hi
  exact ⟨vs,vs[i],zcY (s1.trans s2) h,List.getElem?_eq_getElem hi'⟩
 stop:=fun i G H s1 s2 hi=>⟨vs,zcY (s1.trans s2) h,by rw [r.length];exact hi⟩
 yld:=fun i G H x H' d s1 s2 e y=>by
  obtain ⟨rfl,y⟩:=y
  obtain ⟨v,e1,r1⟩:=r.get e
  have:=y vs (zcY (s1.trans s2) h)
  rw [e1] at this
  cases this
  exact ⟨G,.refl s2,r1.mono s1⟩
theorem zh2 {K:PySem.W.Frag} {G1:Hp} {z:Str}:zdy K (Its z) (zfr z) G1 where
 go:=fun i G H s1 s2 hi=>by unfold zfr at hi;simpa [Its] using hi
 stop:=fun i G H s1 s2 hi=>by unfold zfr at hi;simpa [Its] using hi
 yld:=fun i G H x H' d s1 s2 e y=>by
  obtain ⟨rfl,c,hc,rfl⟩:=y
  unfold zfr at e
  rw [List.getElem?_map] at e
  have:z.cps.toList[i]?=some c:=by simpa using hc
  rw [this] at e
  cases e
  exact ⟨G,.refl s2,.str _⟩
def zaI (f:M D):M (List D):=zap f fun x=>mOpt (zf0 x)
theorem zca {f:M D} (h:PE X e (tD X.K B G0 f)):PI X tg e (iD X.K B G0 (zaI f)):=piof (zlV h) fun σ H R q=>tM.toI (R0:=Rep X.K) q fun v H' G' ρ' x k r a=>by
 cases x with
 | list ds =>
  obtain ⟨ad,vs,rfl,h1,r1⟩:=r.lst_inv
  exact .inl ⟨ad,rfl,⟨vs,k.gh.seq h1⟩,a _ G' H' k (.refl _) (zgW h1 r1)⟩
 | tuple ds =>
  obtain ⟨ad,vs,rfl,h1,r1⟩:=r.tup_inv
  exact .inr (.inl ⟨ad,rfl,⟨vs,zcY k.gh h1⟩,a _ G' H' k (.refl _) (zf1 h1 r1)⟩)
 | str z =>
  have:=r.str_inv
  subst this
  exact .inr (.inr ⟨z,rfl,a _ G' H' k (.refl _) zh2⟩)
 | _=>exact a.elim
def inS (i j:Str):Bool:=!(Builtin.Str.occurrences j i 0 j.length 1).isEmpty
def oInS:D->D->Option Bool
 | .str i,.str j=>some (inS i j)
 | _,_=>none
theorem zmQ:OpB X (compareOp .In) oInS:=⟨_,zhu,fun v u G H x y d Q s rx ry e k=>by
 unfold oInS at e
 split at e
 ·cases e
  have:=rx.str_inv;subst this
  have:=ry.str_inv;subst this
  exact ⟨_,_,rfl,rfl,k⟩
 ·cases e⟩
theorem zjj {x:Str} {i:Int} (hg:Gl X x) (hm:∃ t,X.mg x=some (.int i t)) (hd:(x == ("__debug__" : Str))=false:=by decide):PE X (.Name x pos) (tD X.K B G0 (zae (.int i))):=by
 obtain ⟨t,hm⟩:=hm
 exact peof (zj4 (v:=.int i) hg hm ⟨t,rfl⟩ hd) fun σ H Q ⟨G,ρ,k,a⟩=>aft.now a k (.int _)
end
section
variable {X:Cx} {B G0:Hp} {KX:XW} {e o a b c tg i:Expr} {pos p2:Pos} {es rest:List Expr} {te to ti:TE}
def cutS (z:Str) (lo hi:Option Int):Str:=if (Builtin.Str.strSliceIndices lo hi 1 z.length).length=z.length then z else ⟨((Builtin.Str.strSliceIndices lo hi 1 z.length).filterMap (z.cps[·]?)).toArray⟩
theorem zlW:SlR X (fun x lo hi H Q=>∃ z,x=.str z/\(cutS z lo hi).length<=sizeLine/\Q (.str (cutS z lo hi)) H):=by
 intro pins s σ H x v vl vu lo hi sl Q I rx hs pl pu h
 obtain ⟨z,rfl,hz,q⟩:=h
 obtain ⟨t,rfl⟩:=rx
 refine ⟨"str", _,F.slot_str_getitem.lookup,typeIs_str s z t,?_⟩
 obtain ⟨l,el,e1⟩:∃ l:Option (Int × Tok),vl=partValue l/\l.map (·.1)=lo:=by
  cases pl with
  | none=>exact ⟨none,rfl,rfl⟩
  | int k t'=>exact ⟨some (k,t'),rfl,rfl⟩
 obtain ⟨u,eu,e2⟩:∃ u:Option (Int × Tok),vu=partValue u/\u.map (·.1)=hi:=by
  cases pu with
  | none=>exact ⟨none,rfl,rfl⟩
  | int k t'=>exact ⟨some (k,t'),rfl,rfl⟩
 subst el eu
 refine wpAny_getItem_str_slice (l:=l) (u:=u) (st:=none) hs rfl ?_
 unfold sliceMade slicePicked
 rw [e1,e2]
 unfold cutS at hz q
 by_cases hw:(Builtin.Str.strSliceIndices lo hi 1 z.length).length=z.length
 ·rw [if_pos hw] at hz q
  rw [if_pos (by simp [hw])]
  exact ⟨.str z,H,I,⟨t,rfl⟩,q⟩
 ·rw [if_neg hw] at hz q
  rw [if_neg (by simp [hw])]
  exact ⟨hz,.str _,H,I.tok _,⟨_,rfl⟩,q⟩
end
section
variable {X:Cx} {B G0:Hp} {KX:XW} {e o a b c tg i:Expr} {pos p2:Pos} {es rest:List Expr} {te to ti:TE}
theorem pvb (i:Nat) {x:Str} {pos:Pos} {N':List Str} {scope:Scope} {cl:List (Str × Addr)} {C:Addr} {s₀ : Shared} {H₀ : Hp} {ex:List Addr} (hN:N'[i]?=some x:=by rfl)
  (h:scope.names.lookup x=some .local ∨ scope.names.lookup x=some .free:=by first | exact .inl rfl | exact .inr rfl) (hd:(x == ("__debug__" : Str))=false:=by decide) (hcd:(x == ("__classdict__" : Str))=false:=by decide) :
  PE (X.blk N' scope cl C s₀ H₀ ex) (.Name x pos) (tVar i):=zjK hN (zkB h) hd hcd
def oSlA:D->Option Int->Option Int->Option D
 | .list xs,lo,hi=>some (.list (DL.cutD xs lo hi))
 | .str z,lo,hi=>if (cutS z lo hi).length<=1000000 then some (.str (cutS z lo hi)) else none
 | _,_,_=>none
def dSlA (f:M D) (lo hi:M (Option Int)):M D:=zap f fun x=>zap lo fun l=>zap hi fun h=>mOpt (oSlA x l h)
theorem zg3 {lo hi:Option Expr} {f:M D} {l h:M (Option Int)} (he:PE X e (tD X.K B G0 f)) (hl:PO X lo (tOi X.K B G0 l)) (hu:PO X hi (tOi X.K B G0 h)) :
  PE X (.Subscript e (.Slice lo hi none p2) pos) (tD X.K B G0 (dSlA f l h)) :=
 peof (zi0 (zki.or zlW) he hl hu) fun σ H Q q=>by
  refine tM.one (R:=Rep X.K) q fun v H2 G ρ x k r a=>?_
  refine tM.nx (R:=fun _ b c=>b=c) k a fun l' H3 G3 ρ3 xl k3 s3 r3 a3=>?_
  refine tM.nx (R:=fun _ b c=>b=c) k3 a3 fun h' H4 G4 ρ4 xh k4 s4 r4 a4=>?_
  have r3:l'=xl:=r3
  have r4:h'=xh:=r4
  subst r3 r4
  unfold mOpt oSlA at a4
  cases x with
  | list xs =>
   obtain ⟨ad,vs,rfl,h1,r1⟩:=((r.mono s3).mono s4).lst_inv
   exact .inl ⟨ad,vs,rfl,k4.gh.seq h1,fun p hp=>aft.done a4 k4 (Ext.new k4.gh hp) (.lst (SqL.of zas) ((r1.cut l' h').mono (zaz (k4.gh.free hp))))⟩
  | str z =>
   dsimp only at a4
   have:=r.str_inv;subst this
   by_cases hc:(cutS z l' h').length<=1000000
   ·rw [if_pos hc] at a4
    exact .inr ⟨z,rfl,Nat.le_trans hc lim,aft.now a4 k4 (.str _)⟩
   ·rw [if_neg hc] at a4;exact a4.elim
  | _=>exact a4.elim
end
section
variable {X:Cx} {B G0:Hp} {e o a b c tg:Expr} {pos p2:Pos} {es rest:List Expr} {te to ti:TE}
def zcA {β : Type} (p:D->D->Option β) (i:Nat) (g:M D):M β:=fun ρ=>match ρ[i]? with
 | some (some (.pub d))=>(zap g fun y=>mOpt (p d y)) ρ
 | some (some (.own _))=>(zap g fun y=>fun ρ'=>match ρ'[i]? with | some (some (.own ds))=>mOpt (p (.list ds) y) ρ' | _=>.bad) ρ
 | _=>.bad
theorem zmR {K:PySem.W.Frag} {σ : St} {H:Hp} {p:D->D->Option Bool} {r:R2} {i:Nat} {g:M D} {Q:Bool->Hp->Prop} {QV:VK} (hq:∀ t H3,Q t H3->QV (.bl t) H3) (hr:∀ v u G H x y d Q,Same G H->Rep K G v x->Rep K G u y->p x y=some d->Q (.bl d) H->r v u H Q)
  (q:tBo K B G0 (zcA p i g) σ H Q):tVar i σ H fun x H1=>tD K B G0 g σ H1 fun y H2=>r x y H2 QV:=by
 obtain ⟨G,ρ,k,a⟩:=q
 unfold zcA at a
 cases q : ρ[i]? with
 | none=>rw [q] at a;exact a.elim
 | some o =>
  cases o with
  | none=>rw [q] at a;exact a.elim
  | some sl =>
   cases sl with
   | deep _ _=>rw [q] at a;exact a.elim
   | pub d =>
    rw [q] at a
    obtain ⟨v,h1,h2⟩:=k.pub i d q
    refine ⟨v,h1,G,ρ,k,?_⟩
    dsimp only [zap] at a
    cases z:g ρ with
    | bad=>rw [z] at a;exact a.elim
    | ok y ρ1 =>
     rw [z] at a
     intro u G' H' k' s' r'
     obtain ⟨d',e',a'⟩:=aft.opt a
     exact hr v u G' H' d y d' _ k'.gh (h2.mono s') r' e' (hq _ _ (a' d' G' H' k' s' rfl))
   | own ds =>
    rw [q] at a
    obtain ⟨ad,vs,h1,h2,h3,h4,h5⟩:=k.own i ds q
    refine ⟨.ref ad,h1,G,ρ,k,?_⟩
    dsimp only [zap] at a
    cases z:g ρ with
    | bad=>rw [z] at a;exact a.elim
    | ok y ρ1 =>
     rw [z] at a
     dsimp only at a
     intro u G' H' k' s' r'
     cases q1 : ρ1[i]? with
     | none=>rw [q1] at a;exact a.elim
     | some oo =>
      cases oo with
      | none=>rw [q1] at a;exact a.elim
      | some sl1 =>
       cases sl1 with
       | deep _ _=>rw [q1] at a;exact a.elim
       | pub d1=>rw [q1] at a;exact a.elim
       | own ds1 =>
        rw [q1] at a
        dsimp only at a
        obtain ⟨ad',ws,g1,g2,g3,g4,g5⟩:=k'.own i ds1 q1
        rw [h1] at g1
        cases g1
        obtain ⟨d',e',a'⟩:=aft.opt a
        have sg:Same G' (upd G' ad (.lst ws)):=zaz g3
        have sh:Same (upd G' ad (.lst ws)) H':=fun b o q=>by
         by_cases z:b=ad
         ·subst z;rw [zas] at q;cases q;exact g4
         ·rw [zar z] at q;exact k'.gh b o q
        exact hr (.ref ad) u _ H' (.list ds1) y d' _ sh (.lst (SqL.of zas) (g5.mono sg)) (r'.mono sg) e' (hq _ _ (a' d' G' H' k' s' rfl))
theorem zci {op:CmpOp} {p:D->D->Option Bool} {i:Nat} {g:M D} (o:OpB X (compareOp op) p) (ha:PE X a (tVar i)) (hb:PE X b (tD X.K B G0 g)) (hm:behindInMarks op b=false) :
  PT X (.Compare a [op] [b] pos) (tBo X.K B G0 (zcA p i g)):=by
 obtain ⟨r,h,j⟩:=o
 exact ptof (zhv h ha hb hm) fun σ H Q q=>zmR (fun t H3 z=>⟨t,rfl,z⟩) j q
end
end DL
namespace L2
open PySem PySem.Spec PyProof.Rows
section
variable {X:Cx}
end
end L2
namespace DL
open PySem PySem.Spec L2
open PyProof.Rows hiding St
section
variable {X:Cx} {B G0:Hp} {e a b c tg:Expr} {pos:Pos} {es rest:List Expr}
end
section
variable {X:Cx} {B G0:Hp} {e o a b c tg:Expr} {pos p2 p3:Pos} {es rest:List Expr} {te to ti:TE}
def oIn:D->D->Option Bool
 | .str i,.str j=>some (inS i j)
 | x,.list xs=>if x.canLay0=true/\PyData.canLayAll0 xs=true/\x.depth<=60 then some (xs.any fun y=>PyData.eqv y x) else none
 | x,.tuple xs=>if x.canLay0=true/\PyData.canLayAll0 xs=true/\x.depth<=60 then some (xs.any fun y=>PyData.eqv y x) else none
 | _,_=>none
def oInQ (x y:D):Option Bool:=match y with
 | .list xs=>if x.canLay0=true/\PyData.canLayAll0 xs=true/\x.depth<=60 then some (xs.any fun y=>PyData.eqv y x) else none
 | .tuple xs=>if x.canLay0=true/\PyData.canLayAll0 xs=true/\x.depth<=60 then some (xs.any fun y=>PyData.eqv y x) else none
 | _=>none
theorem zmS (hu:X.A.units+64 < cLine):OpB X (compareOp .In) oInQ:=by
 refine ⟨fun v u H Q=>∃ G x y d,Same G H/\Rep X.K G v x/\Rep X.K G u y/\oInQ x y=some d/\Q (.bl d) H,?_,fun v u G H x y d Q s rx ry e k=>⟨G,x,y,d,s,rx,ry,e,k⟩⟩
 intro pins s σ H x y v u Q I rx ry ⟨G,dx,dy,d,sg,px,py,e,q⟩
 unfold oInQ at e
 split at e
 ·split at e
  ·rename_i c
   cases e
   obtain ⟨as,ra⟩:=zbt I sg px rx c.1
   obtain ⟨bs,rb⟩:=zbt I sg py ry (show PyData.canLayAll0 _=true from c.2.1)
   exact SeqAt.in_list_reads rb ra c.2.1 c.1 (by have:=c.2.2;omega) ⟨.bl _,H,I,rfl,q⟩
  ·cases e
 ·split at e
  ·rename_i c
   cases e
   obtain ⟨as,ra⟩:=zbt I sg px rx c.1
   obtain ⟨bs,rb⟩:=zbt I sg py ry (show PyData.canLayAll0 _=true from c.2.1)
   exact SeqAt.in_tuple_reads rb ra c.2.1 c.1 (by have:=c.2.2;omega) ⟨.bl _,H,I,rfl,q⟩
  ·cases e
 ·cases e
theorem B_in (hu:X.A.units+64 < cLine):OpB X (compareOp .In) oIn:=(zmQ.or (zmS hu)).congr fun x y=>by
 cases x <;> cases y <;> rfl
theorem zh3 {tl th ts:TO} {lo hi:Option Expr} {st:Expr} (he:PE X e te) (hl:PO X lo tl) (hu:PO X hi th) (hst:PO X (some st) ts):PE X (.Subscript e (.Slice lo hi (some st) p2) pos)
  (fun σ H Q=>te σ H fun x H1=>tl σ H1 fun l H2=>th σ H2 fun u H3=>ts σ H3 fun t H4=>∃ a xs,x=.ref a/\SqL X.K H4 a xs/\l=none/\u=none/\t=some (-1)/\∀ p,H4 p=none->Q (.ref p) (upd H4 p (.lst xs.reverse))):=by
 intro pins s σ H Q I h
 refine Subscript_ (thn (he pins s σ H _ I h) fun v s1 ⟨x,H1,I1,r1,q1⟩=>?_)
 refine wpAny_Slice (thn (hl pins s1 σ H1 _ I1 q1) fun vl s2 ⟨l,H2,I2,pl,q2⟩=>thn (hu pins s2 σ H2 _ I2 q2) fun vu s3 ⟨u,H3,I3,pu,q3⟩=>thn (hst pins s3 σ H3 _ I3 q3) fun vt s4 ⟨t,H4,I4,pt,q4⟩=>?_)
 obtain ⟨a,xs,rfl,hx,rfl,rfl,rfl,q⟩:=q4
 cases r1
 have I5:Inv X pins σ H4 { s4 with heap:=s4.heap.push { cls:=.type "slice", data:=.fields #[vl,vu,vt] } }:=I4.kept (t':=s4.toks) fun b ob q=>Heap.get?_push_of_some _ q
 obtain ⟨its,r,ht,hz⟩:=I5.list hx
 have hlen:=r.length
 have hg:wpAny (model X.prog X.w) X.A (getItem (.ref a) (.ref s4.heap.objs.size)) (EP X pins σ Q) X.xe { s4 with heap:=s4.heap.push { cls:=.type "slice", data:=.fields #[vl,vu,vt] } }:=by
  refine wpAny_getItem_list_slice ht.isList (Heap.IsSliceOf.new ..) pl pu pt (by simp) ?_ (by rw [List.size_toArray] <;> omega)
  rw [PySem.W.krv_pick]
  refine ⟨.ref _,_,I5.laid (t':=s4.toks) (o:=.lst xs.reverse) (fun b ob q=>Heap.get?_push_of_some _ q) (Nat.le_refl _) ?_,rfl,q _ (I5.hok.fresh (Nat.le_refl _))⟩
  exact ⟨by rw [List.length_reverse];exact hz,its.reverse,0,r.reverse,Heap.get?_push_size _ rfl⟩
 show wpAny (model X.prog X.w) X.A (subscriptTail e (.Slice lo hi (some st) p2) (.ref a) (.ref s4.heap.objs.size)) (EP X pins σ Q) X.xe { s4 with heap:=s4.heap.push { cls:=.type "slice", data:=.fields #[vl,vu,vt] } }
 exact tail_any (ops:=[.ref a,.ref s4.heap.objs.size]) ht.isList.typeIs slot_list_getitem.lookup hg (by with_unfolding_all rfl)
def oRev:D->Option Int->Option Int->Option Int->Option D
 | .list xs,none,none,some i=>if i = -1 then some (.list xs.reverse) else none
 | _,_,_,_=>none
def dRev (f:M D) (lo hi st:M (Option Int)):M D:=zap f fun x=>zap lo fun l=>zap hi fun h=>zap st fun t=>mOpt (oRev x l h t)
theorem zkE {lo hi:Option Expr} {st:Expr} {f:M D} {l h t:M (Option Int)} (he:PE X e (tD X.K B G0 f)) (hl:PO X lo (tOi X.K B G0 l)) (hu:PO X hi (tOi X.K B G0 h)) (hst:PO X (some st) (tOi X.K B G0 t)) :
  PE X (.Subscript e (.Slice lo hi (some st) p2) pos) (tD X.K B G0 (dRev f l h t)) :=
 peof (zh3 he hl hu hst) fun σ H Q q=>by
  refine tM.one (R:=Rep X.K) q fun v H2 G ρ x k r a=>?_
  refine tM.nx (R:=fun _ b c=>b=c) k a fun l' H3 G3 ρ3 xl k3 s3 r3 a3=>?_
  refine tM.nx (R:=fun _ b c=>b=c) k3 a3 fun h' H4 G4 ρ4 xh k4 s4 r4 a4=>?_
  refine tM.nx (R:=fun _ b c=>b=c) k4 a4 fun t' H5 G5 ρ5 xt k5 s5 r5 a5=>?_
  have r3:l'=xl:=r3
  have r4:h'=xh:=r4
  have r5:t'=xt:=r5
  subst r3 r4 r5
  cases x with
  | list xs =>
   cases l' with
   | some _=>exact a5.elim
   | none =>
   cases h' with
   | some _=>exact a5.elim
   | none =>
   cases t' with
   | none=>exact a5.elim
   | some i =>
   obtain ⟨ad,vs,rfl,h1,r1⟩:=(((r.mono s3).mono s4).mono s5).lst_inv
   by_cases hi:i = -1
   ·subst hi
    exact ⟨ad,vs,rfl,k5.gh.seq h1,rfl,rfl,rfl,fun p hp=>aft.done a5 k5 (Ext.new k5.gh hp) (.lst (SqL.of zas) (r1.reverse.mono (zaz (k5.gh.free hp))))⟩
   ·unfold mOpt oRev at a5
    dsimp only at a5
    rw [if_neg hi] at a5
    exact a5.elim
  | _ =>
   unfold mOpt oRev at a5
   exact a5.elim
end
section
variable {X:Cx} {B G0:Hp} {e o a b c tg:Expr} {pos p2 p3 p4:Pos} {es rest:List Expr} {te to ti:TE}
theorem zby:∀ {ns:List Int} {us:List Value},Vals (ns.map V.int) us->PyProof.Rows.IntsAre us ns
 | [],_,.nil=>.nil
 | n :: ns,_,.cons h t=>by
  obtain ⟨tk,rfl⟩:=h
  exact .cons n tk (zby t)
def zdF (ns:List Int):Nat:=(PyProof.Rows.firstMet (fun i=>ns.getD i 0) ns.length).length
theorem zh4 (hc:X.calm=true):zcu X (.type "set") (fun xs H Q=>∃ l,∃ ns:List Int,xs=[.ref l]/\SqL X.K H l (ns.map V.int)/\ns.length+1 < 4096/\∀ S p,H p=none->Q (.ref p) (upd H p (.set S (zdF ns)))):=by
 intro pins s σ H xs us Q I rx h
 obtain ⟨l,ns,rfl,hq,hb,q⟩:=h
 obtain ⟨u,rfl,ru⟩:=rx.one
 cases ru
 obtain ⟨its,rv,p,hz⟩:=I.list hq
 have hi:=zby rv
 have hn:its.toArray.size=ns.length:=by have:=rv.length;rw [List.length_map] at this;simp;omega
 refine call_set_list (I.ok.hd hc) p.isList (ns:=ns) (by simpa using hi) (by rw [hn];exact hb) fun h' tk hS hk=>?_
 rw [hn] at hS
 refine ⟨.ref s.heap.objs.size,_,I.laid (t':=tk) (fun b o e=>hk b o (Heap.lt_size e) e) (Nat.le_refl _) (show zb1 X.prog X.w _ h' _ (.set _ (zdF ns)) from hS),rfl,q _ _ (I.hok.fresh (Nat.le_refl _))⟩
theorem zh5:zcu X (.builtin "len") (fun xs H Q=>∃ p S n,xs=[.ref p]/\H p=some (.set S n)/\Q (.int n) H):=by
 intro pins s σ H xs us Q I rx h
 obtain ⟨p,S,n,rfl,hp,q⟩:=h
 obtain ⟨u,rfl,ru⟩:=rx.one
 cases ru
 obtain ⟨o,es,ep,t,h1,h2,h3,h4,h5,h6,h7,h8⟩:=(show s.heap.SetOf (intKind X.prog X.w) p S n from I.hok p _ hp)
 have hsb:scanBound=4096:=rfl
 refine call_len_set h1 h2 h3 h7 (by omega) ?_
 rw [h8]
 exact ⟨.int n,H,I.tok _,⟨_,rfl⟩,q⟩
def zbA:List D->Option (List Int)
 | []=>some []
 | .int i :: r=>(zbA r).map (i :: ·)
 | _=>none
theorem zbB {K:PySem.W.Frag} {G:Hp}:∀ {vs:List V} {ds:List D} {ns:List Int},Reps K G vs ds->zbA ds=some ns->vs=ns.map V.int
 | _,_,ns,.nil,e=>by cases e;rfl
 | _,_,ns,.cons (d:=d) r t,e=>by
  cases d with
  | int b =>
   unfold zbA at e
   cases z:zbA _ with
   | none=>rw [z] at e;cases e
   | some cs =>
    rw [z] at e
    cases e
    rw [r.int_inv,zbB t z];rfl
  | _=>cases e
theorem zc4 (ns:List Int):zbA (ns.map PyData.int)=some ns:=by
 induction ns with
 | nil=>rfl
 | cons b r ih=>rw [List.map_cons,zbA,ih];rfl
def zc5:List D->Option D
 | [.list ds]=>(match zbA ds with
  | some ns=>if ns.length+1 < 4096 then some (.int (zdF ns)) else none
  | none=>none)
 | _=>none
theorem zf2 {xs:List D} {d:D} (h:zc5 xs=some d):∃ ds ns,xs=[.list ds]/\zbA ds=some ns/\ns.length+1 < 4096/\d=.int (zdF ns):=by
 unfold zc5 at h
 split at h
 ·rename_i ds
  cases z:zbA ds with
  | none=>rw [z] at h;cases h
  | some ns =>
   rw [z] at h
   dsimp only at h
   split at h
   ·rename_i c
    cases h
    exact ⟨ds,ns,rfl,z,c,rfl⟩
   ·cases h
 ·cases h
theorem zh6:bootBuiltins "set" = some (.type "set"):=by decide +kernel
theorem zg4 {f:M (List D)} (hc:X.calm=true) (hg:Gl X "len") (hm:X.mg "len" = none) (hg2:Gl X "set") (hm2:X.mg "set" = none) (ha:PA X [a] (tDs X.K B G0 f)) (he:starEach [a] X.env=(false,eval a X.env) :: starEach [] X.env:=by rfl)
  (he2:starEach [.Call (.Name "set" p2) [a] [] p3] X.env=(false,eval (.Call (.Name "set" p2) [a] [] p3) X.env) :: starEach [] X.env:=by rfl) :
  PE X (.Call (.Name "len" p4) [.Call (.Name "set" p2) [a] [] p3] [] pos) (tD X.K B G0 (zbQ zc5 f)) :=
 peof (zcC zh5 hg hm boot_len (zb2 (zhA (zh4 hc) hg2 hm2 zh6 ha (by decide) (by decide) he rfl) zdp he2) (by decide) (by decide) he2 rfl) fun σ H Q q=>tM.one (R:=Reps X.K) q fun vs H2 G ρ x k r a=>by
  obtain ⟨d,e,a⟩:=a.opt
  obtain ⟨ds,ns,rfl,z,c,rfl⟩:=zf2 e
  obtain ⟨v,rfl,q1⟩:=r.one_inv
  obtain ⟨l,ws,rfl,h1,r1⟩:=q1.lst_inv
  have:=zbB r1 z
  subst this
  refine ⟨l,ns,rfl,k.gh.seq h1,c,fun S p hp=>⟨p,S,zdF ns,rfl,zas,?_⟩⟩
  exact aft.done a k (Ext.hid k.gh hp) (.int _)
end
end DL
namespace L2
open PySem PySem.Spec PyProof.Rows
def Itrs (lo st:Int) (n:Nat):It:=⟨fun i _=>i < n,fun i H x H'=>H'=H/\x=.int (lo+i * st),fun i _=>n<=i⟩
theorem zf3 {P:Program} {w:World} {K:PySem.W.Frag} {tg:Expr} (it:Addr) (lo st:Int) (n:Nat):Turn P w K tg (Itrs lo st n) [it] it (fun i h=>IsRangeIter h it (lo+(i:Nat) * st) ((n:Int) - (i:Nat)) st) where
 mem:=by simp
 obj:=fun i h st b hb=>by
  have e:b=it:=by simpa using hb
  subst e
  exact ⟨_,st,fun v z=>by
   have z':Data.fields _=Data.cell v:=z
   cases z'⟩
 keep:=fun i h h' st k=>k it (by simp) _ st
 item:=by
  intro X hP hw hK hc i pins s σ H E I hf sti hg
  subst hP hw hK
  obtain ⟨f0,f1,f2,f3,f4,f5⟩:=hf it (by simp)
  have W:=Walks.range (prog:=X.prog) (w:=X.w) (I.ok.hd hc) it lo st n
  refine W.item i s _ _ hg sti fun v h' tk hv st' kk=>?_
  obtain ⟨t,rfl⟩:=hv
  have I1:Inv X pins σ H { s with heap:=h',toks:=tk }:=I.turned (fun b o hb e=>kk b o (by simpa using hb) e) f0 f1 f3 f4 f5
  exact ⟨_,rfl,zhp (s:={ s with heap:=h',toks:=tk }) (n := "range_iterator") st' rfl rfl (by decide) ⟨.int (lo+i * st),H,I1,⟨t,rfl⟩,⟨rfl,rfl⟩,st',fun b hb=>(hf b hb).1⟩⟩
 done:=by
  intro X hP hw hK hc i pins s σ H E I hf sti hg
  subst hP hw hK
  obtain ⟨f0,f1,f2,f3,f4,f5⟩:=hf it (by simp)
  exact wpAny_pyNext_range_end (I.ok.hd hc) sti (by have:n<=i:=hg;omega) fun h' eb=>⟨rfl,I.turned (t':=s.toks) (fun b o hb e=>eb b o hb e) f0 f1 f3 f4 f5⟩
 self:=fun _ _ _ _ _ st h=>wpAny_pyIter_rangeiter st h
section
variable {X:Cx} {tg:Expr}
def zmT (ta:TA):TI:=fun σ H R=>ta σ H fun vs H1=>∃ i j c:Int,vs=[.int i,.int j,.int c]/\0 < c/\c<=1000000 /\ -1000000<=i/\i<=1000000 /\ -1000000<=j/\j<=1000000/\R (Itrs i c (Builtin.Range.rangeSize i j c).toNat) H1
theorem zh7 {a b c:Expr} {ta:TA} {p pos:Pos} (hg:Gl X "range") (hm:X.mg "range" = none) (ha:PA X [a,b,c] ta) (hs:starEach [a,b,c] X.env=(false,eval a X.env) :: starEach [b,c] X.env:=by rfl) (hs2:(backTo pos (starEach [b,c] X.env)).any (·.1)=false:=by rfl) :
  PI X tg (.Call (.Name "range" p) [a,b,c] [] pos) (zmT ta):=by
 intro pins s σ H R I h
 refine Call_ (zdn I hg hm boot_range (PyProof.Rows.callWith_type1 (thn (ha pos pins s σ H _ I h) fun us s1 ⟨vs,H1,I1,r1,q1⟩=>?_) hs hs2))
 obtain ⟨i,j,c,e,h1,h2,h3,h4,h5,h6,q⟩:=q1
 subst e
 cases r1 with
 | cons r rr =>
  cases rr with
  | cons r' rr =>
   cases rr with
   | cons r'' rr =>
    cases rr
    obtain ⟨t,rfl⟩:=r
    obtain ⟨t',rfl⟩:=r'
    obtain ⟨t'',rfl⟩:=r''
    refine call_range_3 (by omega) ?_ (.inl (PyProof.noPylong_small (by omega)))
    have hn0:0<=Builtin.Range.rangeSize i j c:=by
     unfold Builtin.Range.rangeSize
     rw [if_pos h1]
     split
     ·have:=Int.ediv_nonneg (show 0<=j - i - 1 by omega) (show 0<=c by omega);omega
     ·omega
    have hn1:Builtin.Range.rangeSize i j c<=2000001:=by
     unfold Builtin.Range.rangeSize
     rw [if_pos h1]
     split
     ·have:=Int.ediv_le_self c (show 0<=j - i - 1 by omega);omega
     ·omega
    refine wpAny_pyIter_range (IsRange.new ..) (by
     have fl:∀ x:Int, -4000000<=x->x<=4000000->Builtin.Range.rangeFitsLong x=true:=fun x a b=>by unfold Builtin.Range.rangeFitsLong;simp;omega
     unfold Builtin.Range.small
     rw [fl i (by omega) (by omega),fl j (by omega) (by omega),fl c (by omega) (by omega),fl _ (by omega) (by omega),if_pos h1,fl _ (by omega) (by omega)]
     simp) ?_
    have I2:Inv X pins σ H1 { s1 with heap:=s1.heap.push { cls:=.type "range", data:=.fields #[.int i t,.int j t',.int c t''] },toks:=s1.toks }:=I1.kept fun b o e=>Heap.get?_push_of_some _ e
    refine ⟨_,[(s1.heap.push { cls:=.type "range", data:=.fields #[.int i t,.int j t',.int c t''] }).objs.size],_,_,H1,rfl,
     I2.kept (t':=s1.toks) fun b o e=>Heap.get?_push_of_some _ e,zf3 _ i c (Builtin.Range.rangeSize i j c).toNat,?_,fun b hb=>?_,q⟩
    ·show IsRangeIter _ _ (i+((0:Nat):Int) * c) ((((Builtin.Range.rangeSize i j c).toNat:Nat):Int) - ((0:Nat):Int)) c
     have e1:i+((0:Nat):Int) * c=i:=by simp
     have e2:(((Builtin.Range.rangeSize i j c).toNat:Nat):Int) - ((0:Nat):Int)=Builtin.Range.rangeSize i j c:=by omega
     rw [e1,e2]
     exact Heap.get?_push_size _ rfl
    ·have e:b=(s1.heap.push { cls:=.type "range", data:=.fields #[.int i t,.int j t',.int c t''] }).objs.size:=by simpa using hb
     subst e
     exact I2.fpOk (Nat.le_refl _) (I2.hok.fresh (Nat.le_refl _))
end
end L2
namespace DL
open PySem PySem.Spec L2
open PyProof.Rows hiding St
section
variable {X:Cx} {B G0:Hp} {e a b c tg:Expr} {pos:Pos} {es rest:List Expr}
def zcj (lo st:Int) (n:Nat):List D:=(List.range n).map fun (k:Nat)=>.int (lo+k * st)
theorem zfs {K:PySem.W.Frag} {G1:Hp} {lo st:Int} {n:Nat}:zdy K (Itrs lo st n) (zcj lo st n) G1 where
 go:=fun i G H s1 s2 h=>by unfold zcj at h;simpa [Itrs] using h
 stop:=fun i G H s1 s2 h=>by unfold zcj at h;simpa [Itrs] using h
 yld:=fun i G H x H' d s1 s2 e y=>by
  obtain ⟨rfl,rfl⟩:=y
  have hl:i < (zcj lo st n).length:=(List.getElem?_eq_some_iff.mp e).1
  unfold zcj at e hl
  rw [List.length_map,List.length_range] at hl
  rw [List.getElem?_map,List.getElem?_eq_getElem (by rw [List.length_range];exact hl),List.getElem_range] at e
  cases e
  exact ⟨G,.refl s2,.int _⟩
def zf4:List D->Option (List D)
 | [.int i,.int j,.int c]=>if 0 < c/\c<=1000000 /\ -1000000<=i/\i<=1000000 /\ -1000000<=j/\j<=1000000 then some (zcj i c (Builtin.Range.rangeSize i j c).toNat) else none
 | _=>none
def zjk (f:M (List D)):M (List D):=zap f fun x=>mOpt (zf4 x)
theorem zh8 {x l:List D} (h:zf4 x=some l):∃ i j c:Int,x=[.int i,.int j,.int c]/\(0 < c/\c<=1000000 /\ -1000000<=i/\i<=1000000 /\ -1000000<=j/\j<=1000000)/\l=zcj i c (Builtin.Range.rangeSize i j c).toNat:=by
 unfold zf4 at h
 split at h
 ·split at h
  ·rename_i c
   cases h
   exact ⟨_,_,_,rfl,c,rfl⟩
  ·cases h
 ·cases h
theorem zh9 {f:M (List D)} {p2:Pos} (hg:Gl X "range") (hm:X.mg "range" = none) (ha:PA X [a,b,c] (tDs X.K B G0 f)) (hs:starEach [a,b,c] X.env=(false,eval a X.env) :: starEach [b,c] X.env:=by rfl) (hs2:(backTo pos (starEach [b,c] X.env)).any (·.1)=false:=by rfl) :
  PI X tg (.Call (.Name "range" p2) [a,b,c] [] pos) (iD X.K B G0 (zjk f)):=piof (zh7 hg hm ha hs hs2) fun σ H R q=>tM.toI (R0:=Reps X.K) q fun v H' G' ρ' x k r a=>by
 cases z:zf4 x with
 | none=>rw [z] at a;exact a.elim
 | some l =>
  rw [z] at a
  obtain ⟨i,j,c,rfl,⟨h1,h2,h3,h4,h5,h6⟩,rfl⟩:=zh8 z
  cases r with
  | cons r1 rr =>
   cases rr with
   | cons r2 rr =>
    cases rr with
    | cons r3 rr =>
     cases rr
     rw [r1.int_inv,r2.int_inv,r3.int_inv]
     exact ⟨i,j,c,rfl,h1,h2,h3,h4,h5,h6,a _ G' H' k (.refl _) zfs⟩
end
end DL
namespace L2
open PySem PySem.Spec PyProof.Rows
section
variable {prog:Program} {w:World} {A:Around} {E:Value->Shared->Prop} {s:Shared} {M:Model} {env:Env}
end
section
variable {prog:Program} {w:World} {A:Around} {E:Value->Shared->Prop} {s:Shared}
end
section
variable {X:Cx}
end
end L2
namespace DL
open PySem PySem.Spec L2
open PyProof.Rows hiding St
section
variable {X:Cx} {B G0:Hp} {e a b c tg:Expr} {pos:Pos} {es rest:List Expr}
end
section
variable {X:Cx}
def most:List Int->Int
 | []=>0
 | [n]=>n
 | n :: r=>if most r > n then most r else n
theorem zeC:∀ {ns:List Int},0 < ns.length->most ns ∈ ns
 | [n],_=>List.mem_singleton.2 rfl
 | n :: m :: r,_=>by
  have ih:=zeC (ns:=m :: r) (Nat.succ_pos _)
  unfold most
  split
  ·exact List.mem_cons_of_mem _ ih
  ·exact List.mem_cons_self ..
theorem zia:∀ {ns:List Int} {a:Int},a ∈ ns->a<=most ns
 | [n],a,h=>by rw [List.mem_singleton.1 h];exact Int.le_refl _
 | n :: m :: r,a,h=>by
  have ih:∀ b,b ∈ m :: r->b<=most (m :: r):=fun b hb=>zia hb
  unfold most
  rcases List.mem_cons.1 h with e | h
  ·subst e;split <;> omega
  ·have:=ih a h;split <;> omega
theorem zkF {ns:List Int} {M:Int} (h1:M ∈ ns) (h2:∀ a,a ∈ ns->a<=M):most ns=M :=
 Int.le_antisymm (h2 _ (zeC (List.length_pos_of_mem h1))) (zia h1)
theorem zib (hc:X.calm=true):zcu X (.builtin "max") (fun xs H Q=>∃ l,∃ ns:List Int,xs=[.ref l]/\SqL X.K H l (ns.map V.int)/\0 < ns.length/\Q (.int (most ns)) H):=by
 intro pins s σ H xs us Q I rx h
 obtain ⟨l,ns,rfl,hq,hb,q⟩:=h
 obtain ⟨u,rfl,ru⟩:=rx.one
 cases ru
 obtain ⟨its,rv,p,hz⟩:=I.list hq
 have hi:=zby rv
 obtain ⟨ys,e⟩:=hi.allInts.items
 have hns:ns=ys.toList.map (·.1):=by
  rw [← hi.numsOf,← nums_intItems,← e]
 have hsz:0 < ys.size:=by
  rw [hns,List.length_map,Array.length_toList] at hb;exact hb
 have hl:=p.isList
 rw [e] at hl
 refine max_intList (I.ok.hd hc) hl hsz fun v h' tk hv hk=>?_
 obtain ⟨t,rfl⟩:=intItems_at hv
 obtain ⟨h1,h2⟩:=argBest_gt (numAt ys) (ys.size - 1)
 refine ⟨.int (most ns),H,I.kept hk,⟨t,?_⟩,q⟩
 rw [zkF (M:=_) ?_ ?_]
 ·rw [hns,numAt_eq];exact getD_mem (by rw [List.length_map,Array.length_toList];omega)
 ·intro a ha
  rw [hns] at ha
  obtain ⟨j,hj,rfl⟩:=mem_getD ha
  rw [List.length_map,Array.length_toList] at hj
  rw [← numAt_eq];exact h2 j (by omega)
def zf5:List D->Option D
 | [.list ds]=>(match zbA ds with
  | some ns=>if 0 < ns.length then some (.int (most ns)) else none
  | none=>none)
 | _=>none
theorem zic {xs:List D} {d:D} (h:zf5 xs=some d):∃ ds ns,xs=[.list ds]/\zbA ds=some ns/\0 < ns.length/\d=.int (most ns):=by
 unfold zf5 at h
 split at h
 ·rename_i ds
  cases z:zbA ds with
  | none=>rw [z] at h;cases h
  | some ns =>
   rw [z] at h
   dsimp only at h
   split at h
   ·rename_i c
    cases h
    exact ⟨ds,ns,rfl,z,c,rfl⟩
   ·cases h
 ·cases h
theorem zjV (hc:X.calm=true):zcZ X (.builtin "max") zf5:=by
 refine ⟨_,zib hc,fun vs G H ds d Q s r e k=>?_⟩
 obtain ⟨ds,ns,rfl,z,c,rfl⟩:=zic e
 obtain ⟨v,rfl,q1⟩:=r.one_inv
 obtain ⟨l,ws,rfl,h1,r1⟩:=q1.lst_inv
 have:=zbB r1 z
 subst this
 exact ⟨l,ns,rfl,s.seq h1,c,k _ G H (.refl s) (.int _)⟩
theorem zgu {ns:List Int} (h:0 < ns.length):zf5 [.list (ns.map .int)]=some (.int (most ns)):=by
 unfold zf5
 simp only [zc4,if_pos h]
end
section
variable {X:Cx} {B G0:Hp} {e o:Expr} {es:List Expr}
end
section
variable {prog:Program} {w:World} {A:Around} {R:Result->Shared->Prop} {h0:Heap} {l I S:Addr} {rs:List (Addr × List Value)}
end
section
variable {prog:Program} {w:World} {A:Around} {E:Value->Shared->Prop} {s:Shared} {l z:Addr} {rs:List (Addr × List Value)}
end
section
variable {X:Cx} {pins:List (Addr × Obj)} {σ : St} {H:Hp} {s:Shared}
end
section
variable {X:Cx}
def zcp (ns:List Int):List Int:=ns.mergeSort fun a b=>decide (a<=b)
theorem zbb (ns:List Int):(zcp ns).Perm ns:=List.mergeSort_perm ..
theorem zdG (ns:List Int):(zcp ns).Pairwise (· <= ·):=by
 have:=List.pairwise_mergeSort (le:=fun a b:Int=>decide (a<=b)) (by intro a b c;simp;omega) (by intro a b;simp;omega) ns
 exact this.imp (by simp)
theorem zf6:∀ {a b:List Int},a.Perm b->a.Pairwise (· <= ·)->b.Pairwise (· <= ·)->a=b
 | [],b,p,_,_=>by rw [List.nil_perm.1 p]
 | x :: a,[],p,_,_=>by have:=p.length_eq;simp at this
 | x :: a,y :: b,p,ha,hb=>by
  have hx:y<=x:=by
   rcases List.mem_cons.1 (p.mem_iff.1 (List.mem_cons_self ..)) with e | e
   ·exact Int.le_of_eq e.symm
   ·exact (List.pairwise_cons.1 hb).1 x e
  have hy:x<=y:=by
   rcases List.mem_cons.1 (p.mem_iff.2 (List.mem_cons_self ..)) with e | e
   ·exact Int.le_of_eq e.symm
   ·exact (List.pairwise_cons.1 ha).1 y e
  have e:=Int.le_antisymm hy hx
  subst e
  rw [zf6 (List.Perm.cons_inv p) (List.pairwise_cons.1 ha).2 (List.pairwise_cons.1 hb).2]
theorem zft:∀ {us:List Value} {ns:List Int},PyProof.Rows.IntsAre us ns->Vals (ns.map V.int) us
 | _,_,.nil=>Paired.nil
 | _,_,.cons n t h=>Paired.cons ⟨t,rfl⟩ (zft h)
theorem zei:zcu X (.builtin "sorted") (fun xs H Q=>∃ l,∃ ns:List Int,xs=[.ref l]/\SqL X.K H l (ns.map V.int)/\ns.length < 64/\∀ p,H p=none->Q (.ref p) (upd H p (.lst ((zcp ns).map V.int)))):=by
 intro pins s σ H xs us Q I rx h
 obtain ⟨l,ns,rfl,hq,hb,q⟩:=h
 obtain ⟨u,rfl,ru⟩:=rx.one
 cases ru
 obtain ⟨its,rv,p,hz⟩:=I.list hq
 have hi:=zby rv
 have hn:its.length=ns.length:=by have:=rv.length;rw [List.length_map] at this;omega
 refine sorted_ints p.isList hi (by omega) fun out ns' a1 a2 a3=>?_
 obtain ⟨e,he⟩:=sortedAll_at s.heap its out
 have en:ns'=zcp ns:=zf6 (a2.trans (zbb ns).symm) a3 (zdG ns)
 subst en
 refine ⟨.ref (s.heap.objs.size+1),_,I.laid (t':=s.toks) (fun b o=>sortedAll_old) (Nat.le_succ _) (show zb1 X.prog X.w _ _ _ (.lst ((zcp ns).map V.int)) from ⟨?_,out.toList,e,zft a1,he⟩),rfl,q _ (I.hok.fresh (Nat.le_succ _))⟩
 rw [List.length_map,(zbb ns).length_eq]
 rw [List.length_map] at hz
 exact hz
def zcI:List D->Option D
 | [.list ds]=>(match zbA ds with
  | some ns=>if ns.length < 64 then some (.list ((zcp ns).map .int)) else none
  | none=>none)
 | _=>none
theorem zej {xs:List D} {d:D} (h:zcI xs=some d):∃ ds ns,xs=[.list ds]/\zbA ds=some ns/\ns.length < 64/\d=.list ((zcp ns).map .int):=by
 unfold zcI at h
 split at h
 ·rename_i ds
  cases z:zbA ds with
  | none=>rw [z] at h;cases h
  | some ns =>
   rw [z] at h
   dsimp only at h
   split at h
   ·rename_i c
    cases h
    exact ⟨ds,ns,rfl,z,c,rfl⟩
   ·cases h
 ·cases h
theorem zdH {K:PySem.W.Frag} {G:Hp}:∀ ns:List Int,Reps K G (ns.map V.int) (ns.map PyData.int)
 | []=>.nil
 | n :: r=>.cons (.int n) (zdH r)
theorem zkG:zcZ X (.builtin "sorted") zcI:=by
 refine ⟨_,zei,fun vs G H ds d Q s r e k=>?_⟩
 obtain ⟨ds,ns,rfl,z,c,rfl⟩:=zej e
 obtain ⟨v,rfl,q1⟩:=r.one_inv
 obtain ⟨l,ws,rfl,h1,r1⟩:=q1.lst_inv
 have:=zbB r1 z
 subst this
 exact ⟨l,ns,rfl,s.seq h1,c,fun p hp=>k _ _ _ (.new s hp) (.lst (SqL.of zas) (zdH _))⟩
theorem zid {ns:List Int} (h:ns.length < 64):zcI [.list (ns.map .int)]=some (.list ((zcp ns).map .int)):=by
 unfold zcI
 simp only [zc4,if_pos h]
end
@[simp] theorem mBind_ok {α β : Type} {f:M α} {k : α -> M β} {ρ ρ':DEnv} {x : α} (h:f ρ = .ok x ρ'):zap f k ρ = k x ρ':=by unfold zap;rw [h]
theorem zfu {s:D->DEnv->Option DEnv} {g:SM} {P:Nat->DEnv->Prop} {R:Out->Prop}:∀ (ds:List D) (n:Nat) (ρ : DEnv),P n ρ ->
  (∀ i d ρ,ds[i]?=some d->P (n+i) ρ -> ∃ ρ1,s d ρ = some ρ1/\((∃ ρ2,(g ρ1=.nx ρ2 ∨ g ρ1=.ct ρ2)/\P (n+i+1) ρ2) ∨ (∃ x,g ρ1=.rt x/\R (.rt x)) ∨ (∃ ρ2,g ρ1=.bk ρ2/\R (.nx ρ2)) ∨ ∃ ρ2 x,g ρ1=.ex ρ2 x/\R (.ex ρ2 x)))->(∀ ρ,P (n+ds.length) ρ -> R (.nx ρ))->R (zfk s g ds ρ)
 | [],n,ρ,h,_,f=>f ρ h
 | d :: r,n,ρ,h,st,f=>by
  obtain ⟨ρ1,e1,e2⟩:=st 0 d ρ rfl h
  rw [zfk,e1]
  dsimp only
  rcases e2 with ⟨ρ2,e2,h2⟩ | ⟨x,e2,h2⟩ | ⟨ρ2,e2,h2⟩ | ⟨ρ2,x,e2,h2⟩
  ·have goal:=zfu (R:=R) r (n+1) ρ2 h2 (fun i d' ρ3 q p=>by
    have e:n+1+i=n+(i+1):=by omega
    rw [e] at p ⊢
    exact st (i+1) d' ρ3 (by simpa using q) p) (fun ρ3 p=>f ρ3 (by
    have e:n+1+r.length=n+(d :: r).length:=by rw [List.length_cons];omega
    rw [e] at p
    exact p))
   rcases e2 with e2 | e2 <;> (rw [e2];exact goal)
  ·rw [e2];exact h2
  ·rw [e2];exact h2
  ·rw [e2];exact h2
theorem zbU {lo hi:Int} {i:Nat} {d:D} (h:(zaU lo hi)[i]?=some d):d=.int (lo+i)/\(i:Int) < hi - lo:=by
 have hl:i < (zaU lo hi).length:=(List.getElem?_eq_some_iff.mp h).1
 rw [zaD] at hl
 unfold zaU at h
 rw [List.getElem?_map,List.getElem?_eq_getElem (by rw [List.length_range];exact hl),List.getElem_range] at h
 cases h
 exact ⟨rfl,by omega⟩
section
variable {α β : Type} {ρ ρ1 ρ2 ρ3 ρ':DEnv} {f g h:M D}
theorem zaj {a : α}:zae a ρ = .ok a ρ:=rfl
theorem zan:mNil ρ = .ok [] ρ:=rfl
theorem zbr {o:Option α} {a : α} (h:o=some a):mOpt o ρ = .ok a ρ:=by subst h;rfl
theorem zat {f:M α} {k : α -> M β} {x : α} {r:Res β} (h:f ρ = .ok x ρ1) (h2:k x ρ1=r):zap f k ρ = r:=by unfold zap;rw [h];exact h2
theorem zbV {f:M α} {k : α -> β} {x : α} (h:f ρ = .ok x ρ1):mMap k f ρ = .ok (k x) ρ1:=by unfold mMap zap;rw [h];rfl
theorem zai {i:Nat} {d:D} (h : ρ[i]?=some (some (.pub d))):dVar i ρ = .ok d ρ:=by unfold dVar;rw [h]
theorem zeD {i:Nat} {ds:List D} (h : ρ[i]?=some (some (.own ds))) (h2 : ρ.set i (some (.pub (.list ds))) = ρ'):dVar i ρ = .ok (.list ds) ρ':=by unfold dVar;rw [h];subst h2;rfl
theorem zaF {op:D->D->Option β} {x y:D} {r : β} (h1:f ρ = .ok x ρ1) (h2:g ρ1=.ok y ρ2) (h3:op x y=some r):dBin op f g ρ = .ok r ρ2:=by
 unfold dBin;exact zat h1 (zat h2 (zbr h3))
theorem zac {g:M (List D)} {x:D} {xs:List D} (h1:f ρ = .ok x ρ1) (h2:g ρ1=.ok xs ρ2):zag f g ρ = .ok (x :: xs) ρ2:=by
 unfold zag;exact zat h1 (zat h2 rfl)
theorem zgv {g:M (List D)} {xs:List D} (h1:g ρ = .ok xs ρ1) (h2:xs.length<=1000000):mTup g ρ = .ok (.tuple xs) ρ1:=by
 unfold mTup;exact zat h1 (by rw [if_pos h2];rfl)
theorem zdf {g:M (List D)} {xs:List D} (h1:g ρ = .ok xs ρ1) (h2:xs.length<=1000000):mLst g ρ = .ok (.list xs) ρ1:=by
 unfold mLst;exact zat h1 (by rw [if_pos h2];rfl)
theorem zeE {g:M (List D)} {xs:List D} (h1:g ρ = .ok xs ρ1) (h2:xs.length<=1000000):(zap g fun xs=>if xs.length<=1000000 then zae xs else fun _=>.bad) ρ = .ok xs ρ1 :=
 zat h1 (by rw [if_pos h2];rfl)
theorem zcJ {i:Nat} {d y r:D} (h : ρ[i]?=some (some (.pub d))) (h1:g ρ = .ok y ρ1) (h2:oIx d y=some r):dIxN i g ρ = .ok r ρ1:=by
 unfold dIxN;rw [h];exact zat h1 (zbr h2)
theorem zbC {p:List D->Option D} {g:M (List D)} {xs:List D} {r:D} (h1:g ρ = .ok xs ρ1) (h2:p xs=some r):zbQ p g ρ = .ok r ρ1:=by
 unfold zbQ;exact zat h1 (zbr h2)
theorem zaC {n:Nat} {F:List D->Option D} {g:M (List D)} {xs:List D} {r:D} (h1:g ρ = .ok xs ρ1) (h2:xs.length=n) (h3:F xs=some r):dFun n F g ρ = .ok r ρ1:=by
 unfold dFun;exact zat h1 (by rw [if_pos h2];exact zbr h3)
theorem zie {i:Int} (h1:f ρ = .ok (.int i) ρ1):dNeg f ρ = .ok (.int (-i)) ρ1:=by
 unfold dNeg;exact zat h1 rfl
theorem zbc {i:Nat} {d r:D} (h : ρ[i]?=some (some (.pub d))) (h2:oLen [d]=some r):zbK i ρ = .ok r ρ:=by
 unfold zbK;rw [h];exact zbr h2
theorem zif {i:Nat} {ds:List D} (h : ρ[i]?=some (some (.own ds))):zbK i ρ = .ok (.int ds.length) ρ:=by
 unfold zbK;rw [h]
theorem zdI {g:M (List D)} {i:Int} {r:List D} (h1:g ρ = .ok [.int i] ρ1) (h2:zgX [.int i]=some r):zdA g ρ = .ok r ρ1:=by
 unfold zdA;exact zat h1 (zbr h2)
theorem zig {g:M (List D)} {i j:Int} {r:List D} (h1:g ρ = .ok [.int i,.int j] ρ1) (h2:zgY [.int i,.int j]=some r):zjd g ρ = .ok r ρ1:=by
 unfold zjd;exact zat h1 (zbr h2)
theorem zdJ {g:M (List D)} {xs r:List D} (h1:g ρ = .ok xs ρ1) (h2:zhR xs=some r):zfj g ρ = .ok r ρ1:=by
 unfold zfj;exact zat h1 (zbr h2)
theorem zeF {i:Int} (h1:f ρ = .ok (.int i) ρ1):(zap f fun x=>mOpt (zhM x)) ρ = .ok (some i) ρ1:=zat h1 rfl
theorem zbF {f:M Bool} {t:Bool} (h1:f ρ = .ok t ρ1):mNot f ρ = .ok (!t) ρ1:=zbV h1
theorem zaZ {t:Bool} (h1:f ρ = .ok (.bool t) ρ1):zaX f ρ = .ok t ρ1:=by unfold zaX;exact zat h1 rfl
theorem zlX {f g:M Bool} {t u:Bool} (h1:f ρ = .ok t ρ) (h2:t=true->g ρ = .ok u ρ):mAnd f g ρ = .ok (t && u) ρ:=by
 unfold mAnd;refine zat h1 ?_
 cases t with
 | true=>rw [if_pos rfl];exact h2 rfl
 | false=>rfl
theorem zf7 {t u:Bool} (h1:f ρ = .ok (.bool t) ρ) (h2:t=true->g ρ = .ok (.bool u) ρ):zgV f g ρ = .ok (.bool (t && u)) ρ:=by
 unfold zgV;refine zat h1 ?_
 cases t with
 | true=>exact h2 rfl
 | false=>rfl
theorem zkH {t:Bool} (h1:f ρ = .ok (.bool t) ρ1):zhJ f ρ = .ok (.bool (!t)) ρ1:=by unfold zhJ;exact zat h1 rfl
theorem zeG {p q:D->D->Option Bool} {x y z:D} {t u:Bool} (h1:f ρ = .ok x ρ) (h2:g ρ = .ok y ρ) (h3:p x y=some t) (h4:t=true->h ρ = .ok z ρ) (h5:t=true->q y z=some u):zdu p q f g h ρ = .ok (t && u) ρ:=by
 unfold zdu
 refine zat h1 (zat h2 (zat (zbr h3) ?_))
 cases t with
 | true=>rw [if_pos rfl];exact zat (h4 rfl) (zbr (h5 rfl))
 | false=>rfl
theorem zbD {i j:Int}:oAdd (.int i) (.int j)=some (.int (i+j)):=rfl
theorem zeH {x y:List D} (h:x.length+y.length<=1000000):oAdd (.list x) (.list y)=some (.list (x ++ y)):=by unfold oAdd;exact if_pos h
theorem zkI {i j:Int}:oSub (.int i) (.int j)=some (.int (i - j)):=rfl
theorem zeI {i j:Int} (h1 : -18446744073709551616 < i) (h2:i < 18446744073709551616):oMul (.int i) (.int j)=some (.int (i * j)):=by unfold oMul gMul;exact if_pos (.inl ⟨by omega,by omega⟩)
theorem zjl {i j:Int} (h1 : -18446744073709551616 < j) (h2:j < 18446744073709551616):oMul (.int i) (.int j)=some (.int (i * j)):=by unfold oMul gMul;exact if_pos (.inr ⟨by omega,by omega⟩)
theorem zg5 {x:List D} {k:Int} (h : -1000000<=k/\k<=1000000/\x.length * k.toNat<=1000000):oMul (.list x) (.int k)=some (.list (List.replicate k.toNat x).flatten):=by unfold oMul;exact if_pos h
theorem zkJ {i j:Int} (h:0 < j):oMod (.int i) (.int j)=some (.int (i % j)):=by unfold oMod gMod;exact if_pos h
theorem zkK {i j:Int} (h:0 < j) (h2:j < 18446744073709551616):oDiv (.int i) (.int j)=some (.int (i / j)):=by unfold oDiv gDiv;exact if_pos ⟨h,h2⟩
theorem zkL {i j:Int} (h:0<=j/\j<=1000000/\i.natAbs < 2 ^ 64):oPow (.int i) (.int j)=some (.int (i ^ j.toNat)):=by unfold oPow gPow;exact if_pos h
theorem zlY {p:Int->Int->Bool} {i j:Int}:oIB p (.int i) (.int j)=some (p i j):=rfl
theorem zeJ {i j:Int}:oEq (.int i) (.int j)=some (decide (i=j)):=by
 unfold oEq;rw [if_pos ⟨rfl,rfl,by simp [PyData.depth]⟩];congr 1
theorem za0 {xs:List D}:oLen [.list xs]=some (.int xs.length):=rfl
theorem zih {i j:Int}:zhP [.int i,.int j]=some (.int (if j > i then j else i)):=rfl
theorem zii {i j:Int}:zjb [.int i,.int j]=some (.int (if j < i then j else i)):=rfl
theorem zcK {j:Int} (h1:j<=1000000) (h2 : -1000000<=j):zgX [.int j]=some (zaU 0 j):=by unfold zgX;exact if_pos ⟨h1,h2⟩
theorem zjm {i j:Int} (h1:j<=1000000) (h2 : -1000000<=j) (h3:i<=1000000) (h4 : -1000000<=i):zgY [.int i,.int j]=some (zaU i j):=by unfold zgY;exact if_pos ⟨h1,h2,h3,h4⟩
theorem zcL {xs:List D}:zhR [.list xs]=some (zc0 0 xs):=rfl
theorem zek {i:Nat} {d:D} (h1:f ρ = .ok d ρ1) (h2:i < ρ1.length) (h3 : ρ1.set i (some (.pub d)) = ρ'):sSet i f ρ = .nx ρ':=by
 unfold sSet sAsg sB gN;rw [h1];dsimp only;rw [if_pos h2];subst h3;rfl
theorem zbM {i:Nat} {f:M (List D)} {ds:List D} (h1:f ρ = .ok ds ρ1) (h2:i < ρ1.length) (h3 : ρ1.set i (some (.own ds)) = ρ'):zbR i f ρ = .nx ρ':=by
 unfold zbR sB;rw [h1];dsimp only;rw [if_pos h2];subst h3;rfl
theorem zgw {i:Nat} {d:D} {ds0 ds:List D} (h0 : ρ[i]?=some (some (.own ds0))) (h1:f ρ = .ok d ρ1) (h2 : ρ1[i]?=some (some (.own ds))) (h3:ds.length < 1000000) (h4 : ρ1.set i (some (.own (ds ++ [d]))) = ρ'):sApp i f ρ = .nx ρ':=by
 unfold sApp sB;rw [h0];dsimp only;rw [h1];dsimp only;rw [h2];dsimp only;rw [if_pos h3];subst h4;rfl
theorem zjW {d:D} {s:D->DEnv->Option DEnv} (h1:f ρ = .ok d ρ1) (h2:s d ρ1=some ρ'):sAsg f s ρ = .nx ρ':=by
 unfold sAsg sB;rw [h1];dsimp only;rw [h2]
theorem zdK {d:D} (h1:f ρ = .ok d ρ1):zdk f ρ = .nx ρ1:=by unfold zdk sB;rw [h1]
theorem tg_N {i:Nat} {d:D} (h:i < ρ.length) (h2 : ρ.set i (some (.pub d)) = ρ'):gN i d ρ = some ρ':=by unfold gN;rw [if_pos h,h2]
theorem tg_0:gN0 [] ρ = some ρ:=rfl
theorem tg_C {s:D->DEnv->Option DEnv} {t:List D->DEnv->Option DEnv} {d:D} {r:List D} (h1:s d ρ = some ρ1) (h2:t r ρ1=some ρ'):gNC s t (d :: r) ρ = some ρ':=by unfold gNC;dsimp only;rw [h1];exact h2
theorem tg_T {n:Nat} {t:List D->DEnv->Option DEnv} {ds:List D} (h1:ds.length=n) (h2:t ds ρ = some ρ'):gT n t (.tuple ds) ρ = some ρ':=by unfold gT;dsimp only;rw [if_pos h1];exact h2
structure Ho (g:SM) (ρ : DEnv) (Q:Out->Prop):Prop where
 out:Q (g ρ)
def zmU (h:SM) (Q:Out->Prop):Out->Prop
 | .nx ρ'=>Ho h ρ' Q
 | o=>Q o
structure zkM (h:SM) (Q:Out->Prop) (o:Out):Prop where
 out:zmU h Q o
variable {Q:Out->Prop} {s t u:SM}
theorem za3 (h:Ho s ρ (zkM t Q)):Ho (sSeq s t) ρ Q:=by
 have h:=h.out.out
 constructor
 unfold sSeq
 cases e:s ρ with
 | nx o=>rw [e] at h;exact h.out
 | _=>rw [e] at h;exact h
theorem zaB (h1:s ρ = .nx ρ1) (h2:Ho t ρ1 Q):Ho (sSeq s t) ρ Q:=by
 constructor;unfold sSeq;rw [h1];exact h2.out
theorem zdL {o:Out} (h1:s ρ = o) (h2:Q o):Ho s ρ Q:=by constructor;rw [h1];exact h2
theorem zbN (h:Q (.nx ρ)):Ho sNx ρ Q:=⟨h⟩
theorem zaM {o:DEnv} (h:Ho t o Q):zkM t Q (.nx o):=⟨h⟩
theorem zjn {d:D} (h:Q (.rt d)):zkM t Q (.rt d):=⟨h⟩
theorem zbO {f:M Bool} {b:Bool} (h1:f ρ = .ok b ρ1) (h2:b=true->Ho s ρ1 Q) (h3:b=false->Ho t ρ1 Q):Ho (sIf f s t) ρ Q:=by
 constructor;unfold sIf sB;rw [h1];dsimp only
 cases b with
 | true=>rw [if_pos rfl];exact (h2 rfl).out
 | false=>rw [if_neg (by decide)];exact (h3 rfl).out
theorem zbs {d:D} (h1:f ρ = .ok d ρ1) (h2:Q (.rt d)):Ho (sRet f) ρ Q:=by constructor;unfold sRet sB;rw [h1];exact h2
theorem zkN {P:Out->Prop} (h:Ho s ρ P) (k:∀ o,P o->Q o):Ho s ρ Q:=⟨k _ h.out⟩
def zmV (I:DEnv->Prop) (Q:Out->Prop):Out->Prop
 | .nx ρ | .ct ρ=>I ρ
 | .bk ρ=>Q (.nx ρ)
 | .rt d=>Q (.rt d)
 | .ex ρ d=>Q (.ex ρ d)
 | .bad=>False
structure zf8 (I:DEnv->Prop) (Q:Out->Prop) (o:Out):Prop where
 out:zmV I Q o
theorem zbd {I:DEnv->Prop} (h:I ρ):zf8 I Q (.nx ρ):=⟨h⟩
theorem zjo {I:DEnv->Prop} {d:D} (h:Q (.rt d)):zf8 I Q (.rt d):=⟨h⟩
theorem zcr {f:M (List D)} {tg:D->DEnv->Option DEnv} {ds:List D} (I:Nat->DEnv->Prop) (h1:f ρ = .ok ds ρ1) (h0:I 0 ρ1)
  (hst:∀ i d ρ,ds[i]?=some d->I i ρ -> ∃ ρ2,tg d ρ = some ρ2/\Ho s ρ2 (zf8 (I (i+1)) Q)) (hend:∀ ρ,I ds.length ρ -> Q (.nx ρ)):Ho (sFor f tg s) ρ Q:=by
 constructor;unfold sFor sB;rw [h1];dsimp only
 refine zfu (P:=I) (R:=Q) ds 0 ρ1 h0 (fun i d ρ e p=>?_) (fun ρ p=>hend ρ (by rw [Nat.zero_add] at p;exact p))
 rw [Nat.zero_add] at p
 obtain ⟨ρ2,e2,q⟩:=hst i d ρ e p
 refine ⟨ρ2,e2,?_⟩
 rw [Nat.zero_add]
 have q:=q.out.out
 cases z:s ρ2 with
 | nx o=>rw [z] at q;exact .inl ⟨o,.inl rfl,q⟩
 | ct o=>rw [z] at q;exact .inl ⟨o,.inr rfl,q⟩
 | rt o=>rw [z] at q;exact .inr (.inl ⟨o,rfl,q⟩)
 | bk o=>rw [z] at q;exact .inr (.inr (.inl ⟨o,rfl,q⟩))
 | ex o x=>rw [z] at q;exact .inr (.inr (.inr ⟨o,x,rfl,q⟩))
 | bad=>rw [z] at q;exact q.elim
theorem zjX {N:List Str} {ds:List D} {P:D->Prop} (h0:zaV N ds = ρ) (h:Ho s ρ fun o=>∃ d,o=.rt d/\P d):∃ d,runD N s ds=some d/\P d:=by
 subst h0
 obtain ⟨d,e,p⟩:=h.out
 refine ⟨d,?_,p⟩
 unfold runD;rw [e]
theorem zbG {N:List Str} {ds:List D} {d:D} (h0:zaV N ds = ρ) (h:Ho s ρ fun o=>o=.rt d):runD N s ds=some d:=by
 obtain ⟨d',e,p⟩:=zjX (P:=fun x=>x=d) h0 (zkN h fun o e=>⟨d,e,rfl⟩)
 rw [e,p]
end
section
variable {α β : Type} {ρ ρ1 ρ2 ρ3 ρ':DEnv} {f g h:M D}
theorem zjY {l u:M (Option Int)} {x r:D} {a b:Option Int} (h1:f ρ = .ok x ρ1) (h2:l ρ1=.ok a ρ2) (h3:u ρ2=.ok b ρ3) (h4:oSlA x a b=some r):dSlA f l u ρ = .ok r ρ3:=by
 unfold dSlA;exact zat h1 (zat h2 (zat h3 (zbr h4)))
theorem zck {f g:M Bool} {u:Bool} (h1:f ρ = .ok false ρ1) (h2:g ρ1=.ok u ρ2):mOr f g ρ = .ok u ρ2:=by unfold mOr;exact zat h1 (by rw [if_neg (by decide)];exact h2)
theorem zb4 {c:String} {d:D} {t:Bool} (h:f ρ = .ok d ρ1) (ht:(!isTy d c)=t):mNot (zaX (mMap (fun d=>.bool (isTy d c)) f)) ρ = .ok t ρ1:=by
 subst ht;exact zbF (zaZ (zbV (k:=fun d=>PyData.bool (isTy d c)) h))
theorem za8 {x:D} {r:List D} (h1:f ρ = .ok x ρ1) (h2:zf0 x=some r):zaI f ρ = .ok r ρ1:=by
 unfold zaI;exact zat h1 (zbr h2)
theorem zcB {p:D->D->Option β} {i:Nat} {d y:D} {r : β} (h : ρ[i]?=some (some (.pub d))) (h1:g ρ = .ok y ρ1) (h2:p d y=some r):zcA p i g ρ = .ok r ρ1:=by
 unfold zcA;rw [h];exact zat h1 (zbr h2)
theorem zgx {p:D->D->Option β} {i:Nat} {ds es:List D} {y:D} {r : β} (h : ρ[i]?=some (some (.own ds))) (h1:g ρ = .ok y ρ1) (h3 : ρ1[i]?=some (some (.own es))) (h2:p (.list es) y=some r):zcA p i g ρ = .ok r ρ1:=by
 unfold zcA;rw [h];exact zat h1 (by rw [h3];exact zbr h2)
theorem zc6 {f:M (List D)} {k:Nat} {s:D->DEnv->Option DEnv} {t:M Bool} {ds es:List D} (h1:f ρ = .ok ds ρ1) (h2:zbS s t g ds (zay ρ1 ++ List.replicate k none) []=some es):zd2 f k s t g ρ = .ok es ρ1:=by
 unfold zd2;rw [h1];dsimp only;rw [h2]
theorem zcl {s:D->DEnv->Option DEnv} {t:M Bool} (p:D->Bool) (q:D->D) (I:DEnv->Prop):∀ (ds:List D) (ρ : DEnv) (es:List D),(∀ d ∈ ds,∀ ρ,I ρ -> ∃ ρ1,s d ρ = some ρ1/\t ρ1=.ok (p d) ρ1/\(p d=true->g ρ1=.ok (q d) ρ1)/\I (zay ρ1))->I ρ -> es.length+ds.length<=1000000 ->
  zbS s t g ds ρ es=some (es ++ (ds.filter p).map q)
 | [],ρ,es,_,_,_=>by rw [zbS];simp
 | d :: r,ρ,es,st,h0,hz=>by
  obtain ⟨ρ1,e1,e2,e3,h1⟩:=st d List.mem_cons_self ρ h0
  have ih:=fun es' hz'=>zcl p q I r (zay ρ1) es' (fun d' hd=>st d' (List.mem_cons_of_mem _ hd)) h1 hz'
  rw [List.length_cons] at hz
  rw [zbS,e1]
  dsimp only
  rw [e2]
  dsimp only
  cases hp:p d with
  | true =>
   rw [if_pos rfl,e3 hp]
   dsimp only
   rw [if_pos (by omega),ih _ (by rw [List.length_append,List.length_singleton];omega),List.filter_cons_of_pos hp,List.map_cons,List.append_assoc]
   rfl
  | false =>
   rw [if_neg (by decide),ih _ (by omega),List.filter_cons_of_neg (by rw [hp];decide)]
theorem zgy {xs:List D} {a b:Option Int}:oSlA (.list xs) a b=some (.list (DL.cutD xs a b)):=rfl
theorem zdM {xs:List D}:zf0 (.list xs)=some xs:=rfl
theorem zf9 (bs:List Bool):zch (bs.map PyData.bool)=some bs:=by
 induction bs with
 | nil=>rfl
 | cons b r ih=>rw [List.map_cons,zch,ih];rfl
theorem zkO {bs:List Bool}:oAll [.list (bs.map PyData.bool)]=some (.bool (bs.all id)):=by unfold oAll;dsimp only;rw [zf9];rfl
end
section
variable {α β : Type} {ρ ρ1 ρ2 ρ3 ρ4 ρ':DEnv} {f g h:M D} {s:SM}
theorem zlZ {l u t:M (Option Int)} {xs:List D} (h1:f ρ = .ok (.list xs) ρ1) (h2:l ρ1=.ok none ρ2) (h3:u ρ2=.ok none ρ3) (h4:t ρ3=.ok (some (-1)) ρ4):dRev f l u t ρ = .ok (.list xs.reverse) ρ4:=by
 unfold dRev;exact zat h1 (zat h2 (zat h3 (zat h4 (zbr (by unfold oRev;exact if_pos rfl)))))
theorem zij {N:List Str} {ds:List D} (h0:zaV N ds = ρ) (h:Ho s ρ fun o=>∃ ρ',o=.nx ρ'):runD N s ds=some .none:=by
 subst h0
 obtain ⟨ρ',e⟩:=h.out
 unfold runD;rw [e]
theorem zeK {i j:Int}:oNe (.int i) (.int j)=some (!decide (i=j)):=by
 unfold oNe;rw [if_pos ⟨rfl,rfl,by simp [PyData.depth]⟩];congr 1
theorem zjp {xs:List Int} {a b:Int} (ha:0<=a) (hb:0<=b) (hl:b<=xs.length):DL.cutD (xs.map PyData.int) (some a) (some b)=((xs.drop a.toNat).take (b.toNat - a.toNat)).map PyData.int:=by
 unfold DL.cutD HT.sIx
 dsimp only
 rw [if_neg (by omega),if_neg (by omega),List.length_map,List.map_take,List.map_drop]
 have e2:min b.toNat xs.length=b.toNat:=by omega
 rw [e2]
 by_cases hab:a.toNat<=xs.length
 ·have e1:min a.toNat xs.length=a.toNat:=by omega
  rw [e1]
 ·have e3:b.toNat - a.toNat=0:=by omega
  have e4:b.toNat - min a.toNat xs.length=0:=by omega
  rw [e3,e4,List.take_zero,List.take_zero]
end
section
variable {ρ ρ1:DEnv}
end
section
variable {X:Cx} {B G0:Hp} {KX:XW} {e o a b c tg i:Expr} {pos p2:Pos} {es rest:List Expr}
end
section
variable {X:Cx} {B G0:Hp} {KX:XW}
end
section
variable {X:Cx} {B G0:Hp} {e o a b c tg i:Expr} {pos p2:Pos} {es rest:List Expr}
end
end DL
namespace DL
open PySem PySem.Spec PySem.W PyProof.Rows
def runT {α : Type} (lt:Nat->Nat->Bool):KasT α -> α
 | .ret a=>a
 | .ask i j k=>runT lt (k (lt i j))
theorem zbW {α β : Type} {lt:Nat->Nat->Bool} {f : α -> KasT β}:∀ t:KasT α,runT lt (t.bind f)=runT lt (f (runT lt t))
 | .ret _=>rfl
 | .ask i j k=>by show runT lt ((k (lt i j)).bind f)=_;rw [zbW];rfl
section
variable {key:Nat->Int} {p:Array Nat}
def KA (key:Nat->Int) (p:Array Nat) (i:Nat):Int:=key (p.getD i 0)
def srt (key:Nat->Int) (p:Array Nat) (m:Nat):Prop:=∀ i j,i<=j->j < m->KA key p i<=KA key p j
def dsc (key:Nat->Int) (p:Array Nat) (m:Nat):Prop:=∀ i j,i<=j->j < m->KA key p j<=KA key p i
abbrev kl (key:Nat->Int) (i j:Nat):Bool:=decide (key i < key j)
theorem zfv {k d i:Nat} (hk:k < p.size) (hd:d<=k):KA key (bubble p k d) i=if i=k - d then KA key p k else if k - d < i/\i<=k then KA key p (i - 1) else KA key p i:=by
 unfold KA
 simp only [Array.getD_eq_getD_getElem?]
 rw [getElem?_bubble hk d hd]
 repeat' split
 all_goals rfl
theorem zfw {i j k:Nat} (hj:j<=p.size):KA key (kas_rev p i j) k=if i<=k/\k < j then KA key p (i+j - 1 - k) else KA key p k:=by
 unfold KA kas_rev
 simp only [Array.getD_eq_getD_getElem?]
 rw [getElem?_mirror_all hj]
 split <;> rfl
theorem zb5 {i j:Nat}:(kas_rev p i j).size=p.size:=mirror_size _ _ _ _
theorem zbu {i j:Nat}:(kas_rev p i j).Perm p:=mirror_perm _ _ _ _
theorem zeL:∀ (f n:Nat),1<=n->srt key p n->srt key p (runT (kl key) (kas_asc p f n))/\n<=runT (kl key) (kas_asc p f n)/\runT (kl key) (kas_asc p f n)<=n+f /\
  (runT (kl key) (kas_asc p f n) < n+f->KA key p (runT (kl key) (kas_asc p f n)) < KA key p (runT (kl key) (kas_asc p f n) - 1))
 | 0,n,h1,hs=>⟨hs,Nat.le_refl _,Nat.le_refl _,fun h=>absurd h (Nat.lt_irrefl _)⟩
 | f+1,n,h1,hs=>by
  unfold kas_asc runT
  cases c:kl key (p.getD n 0) (p.getD (n - 1) 0) with
  | true =>
   dsimp only
   rw [if_pos rfl]
   exact ⟨hs,Nat.le_refl _,by show n<=n+(f+1);omega,fun _=>of_decide_eq_true c⟩
  | false =>
   dsimp only
   rw [if_neg (by decide)]
   have hle:KA key p (n - 1)<=KA key p n:=Int.not_lt.mp (of_decide_eq_false c)
   obtain ⟨a1,a2,a3,a4⟩:=zeL f (n+1) (by omega) (fun i j hij hj=>by
    by_cases hjn:j=n
    ·subst hjn
     by_cases hin:i=j
     ·subst hin;exact Int.le_refl _
     ·exact Int.le_trans (hs i (j - 1) (by omega) (by omega)) hle
    ·exact hs i j hij (by omega))
   exact ⟨a1,by omega,by omega,fun h=>a4 (by omega)⟩
def eqs (key:Nat->Int) (p:Array Nat) (n q:Nat):Prop:=∀ i,n - 1 - q<=i->i < n->KA key p i=KA key p (n - 1)
theorem zcM:∀ (f:Nat) (p:Array Nat) (n q:Nat),1<=n->q+1<=n->n+f<=p.size->dsc key p n->eqs key p n q ->
  let r:=runT (kl key) (kas_desc f p n q)
  r.1.Perm p/\r.1.size=p.size/\dsc key r.1 r.2.1/\eqs key r.1 r.2.1 r.2.2/\r.2.2+1<=r.2.1/\n<=r.2.1/\r.2.1<=n+f
 | 0,p,n,q,h1,hq,hz,hd,he=>⟨Array.Perm.refl _,rfl,hd,he,hq,Nat.le_refl _,Nat.le_refl _⟩
 | f+1,p,n,q,h1,hq,hz,hd,he=>by
  intro r
  have hr:r=runT (kl key) (kas_desc (f+1) p n q):=rfl
  unfold kas_desc runT at hr
  cases c:kl key (p.getD n 0) (p.getD (n - 1) 0) with
  | true =>
   rw [c] at hr;(try dsimp only at hr);rw [if_pos rfl] at hr
   have hlt:KA key p n < KA key p (n - 1):=of_decide_eq_true c
   have ext:∀ p':Array Nat,(∀ i,KA key p' i=KA key p i)->dsc key p' (n+1)/\eqs key p' (n+1) 0:=fun p' hp=>⟨fun i j hij hj=>by
     rw [hp,hp]
     by_cases hjn:j=n
     ·subst hjn
      by_cases hin:i=j
      ·subst hin;exact Int.le_refl _
      ·exact Int.le_trans (Int.le_of_lt hlt) (hd i (j - 1) (by omega) (by omega))
     ·exact hd i j hij (by omega),fun i hi1 hi2=>by
     have:i=n:=by omega
     subst this;rfl⟩
   by_cases hq0:q > 0
   ·rw [if_pos hq0] at hr
    have same:∀ i,KA key (kas_rev p (n - (q+1)) n) i=KA key p i:=fun i=>by
     rw [zfw (by omega)]
     split
     ·rw [he _ (by omega) (by omega),he i (by omega) (by omega)]
     ·rfl
    obtain ⟨d1,e1⟩:=ext _ same
    obtain ⟨a1,a2,a3,a4,a5,a6,a7⟩:=zcM f (kas_rev p (n - (q+1)) n) (n+1) 0 (by omega) (by omega) (by rw [zb5];omega) d1 e1
    rw [← hr] at a1 a2 a3 a4 a5 a6 a7
    exact ⟨a1.trans zbu,a2.trans zb5,a3,a4,a5,by omega,by omega⟩
   ·rw [if_neg hq0] at hr
    obtain ⟨d1,e1⟩:=ext p fun _=>rfl
    obtain ⟨a1,a2,a3,a4,a5,a6,a7⟩:=zcM f p (n+1) 0 (by omega) (by omega) (by omega) d1 e1
    rw [← hr] at a1 a2 a3 a4 a5 a6 a7
    exact ⟨a1,a2,a3,a4,a5,by omega,by omega⟩
  | false =>
   rw [c] at hr;(try dsimp only at hr);rw [if_neg (by decide)] at hr
   unfold runT at hr
   have hle:KA key p (n - 1)<=KA key p n:=Int.not_lt.mp (of_decide_eq_false c)
   cases d:kl key (p.getD (n - 1) 0) (p.getD n 0) with
   | true =>
    rw [d] at hr;(try dsimp only at hr);rw [if_pos rfl] at hr
    unfold runT at hr
    rw [hr]
    exact ⟨Array.Perm.refl _,rfl,hd,he,hq,Nat.le_refl _,by show n<=n+(f+1);omega⟩
   | false =>
    rw [d] at hr;(try dsimp only at hr);rw [if_neg (by decide)] at hr
    have hge:KA key p n<=KA key p (n - 1):=Int.not_lt.mp (of_decide_eq_false d)
    obtain ⟨a1,a2,a3,a4,a5,a6,a7⟩:=zcM f p (n+1) (q+1) (by omega) (by omega) (by omega) (fun i j hij hj=>by
     by_cases hjn:j=n
     ·subst hjn
      by_cases hin:i=j
      ·subst hin;exact Int.le_refl _
      ·exact Int.le_trans hge (hd i (j - 1) (by omega) (by omega))
     ·exact hd i j hij (by omega)) (fun i hi1 hi2=>by
     have e0:KA key p n=KA key p (n - 1):=Int.le_antisymm hge hle
     show KA key p i=KA key p (n+1 - 1)
     rw [Nat.add_sub_cancel,e0]
     by_cases hin:i=n
     ·subst hin;exact e0
     ·exact he i (by omega) (by omega))
    rw [← hr] at a1 a2 a3 a4 a5 a6 a7
    exact ⟨a1,a2,a3,a4,a5,by omega,by omega⟩
theorem zel {n nrem:Nat} (h1:1<=n) (hn:n<=nrem) (hz:nrem<=p.size) (hd:dsc key p n) :
  let r:=runT (kl key) (kas_tail3 n nrem p)
  r.2.Perm p/\r.2.size=p.size/\srt key r.2 r.1/\1<=r.1/\r.1<=nrem:=by
 intro r
 have hr:r=runT (kl key) (kas_tail3 n nrem p):=rfl
 unfold kas_tail3 at hr
 rw [zbW] at hr
 have hs:srt key (kas_rev p 0 n) n:=fun i j hij hj=>by
  rw [zfw (by omega),zfw (by omega),if_pos (by omega),if_pos (by omega)]
  exact hd _ _ (by omega) (by omega)
 obtain ⟨a1,a2,a3,_⟩:=zeL (key:=key) (p:=kas_rev p 0 n) (nrem - n) n h1 hs
 rw [hr]
 exact ⟨zbu,zb5,a1,by show 1<=runT _ _;omega,by show runT _ _<=_;omega⟩
theorem zcN {n nrem:Nat} (h1:1<=n) (hn:n+1<=nrem) (hz:nrem<=p.size) (hd:dsc key p (n+1)) :
  let r:=runT (kl key) (kas_descPart n nrem p)
  r.2.Perm p/\r.2.size=p.size/\srt key r.2 r.1/\1<=r.1/\r.1<=nrem:=by
 intro r
 have hr:r=runT (kl key) (kas_descPart n nrem p):=rfl
 unfold kas_descPart at hr
 rw [zbW] at hr
 obtain ⟨a1,a2,a3,a4,a5,a6,a7⟩:=zcM (key:=key) (nrem - (n+1)) p (n+1) 0 (by omega) (by omega) (by omega) hd (fun i hi1 hi2=>by
  have:i=n:=by omega
  subst this;rfl)
 generalize runT (kl key) (kas_desc (nrem - (n+1)) p (n+1) 0)=d at hr a1 a2 a3 a4 a5 a6 a7
 obtain ⟨p1,n1,q1⟩:=d
 dsimp only at hr a1 a2 a3 a4 a5 a6 a7
 by_cases hq:q1 > 0
 ·rw [if_pos hq] at hr
  have same:∀ i,KA key (kas_rev p1 (n1 - (q1+1)) n1) i=KA key p1 i:=fun i=>by
   rw [zfw (by omega)]
   split
   ·rw [a4 _ (by omega) (by omega),a4 i (by omega) (by omega)]
   ·rfl
  obtain ⟨b1,b2,b3,b4,b5⟩:=zel (key:=key) (p:=kas_rev p1 (n1 - (q1+1)) n1) (n:=n1) (nrem:=nrem) (by omega) (by omega) (by rw [zb5];omega) (fun i j hij hj=>by rw [same,same];exact a3 i j hij hj)
  rw [hr]
  exact ⟨(b1.trans zbu).trans a1,(b2.trans zb5).trans a2,b3,b4,b5⟩
 ·rw [if_neg hq] at hr
  obtain ⟨b1,b2,b3,b4,b5⟩:=zel (key:=key) (p:=p1) (n:=n1) (nrem:=nrem) (by omega) (by omega) (by omega) a3
  rw [hr]
  exact ⟨b1.trans a1,b2.trans a2,b3,b4,b5⟩
theorem zg6 {nrem:Nat} (h1:1<=nrem) (hz:nrem<=p.size) :
  let r:=runT (kl key) (kas_count nrem p)
  r.2.Perm p/\r.2.size=p.size/\srt key r.2 r.1/\1<=r.1/\r.1<=nrem:=by
 intro r
 have hr:r=runT (kl key) (kas_count nrem p):=rfl
 unfold kas_count at hr
 rw [zbW] at hr
 obtain ⟨a1,a2,a3,a4⟩:=zeL (key:=key) (p:=p) (nrem - 1) 1 (Nat.le_refl _) (fun i j hij hj=>by
  have:i=j:=by omega
  subst this;exact Int.le_refl _)
 generalize runT (kl key) (kas_asc p (nrem - 1) 1)=n at hr a1 a2 a3 a4
 by_cases hn:(n == nrem)=true
 ·rw [if_pos hn] at hr
  unfold runT at hr
  rw [hr]
  exact ⟨Array.Perm.refl _,rfl,a1,a2,by show n<=nrem;omega⟩
 ·rw [if_neg hn] at hr
  have hne:n ≠ nrem:=by simpa using hn
  have hlt:=a4 (by omega)
  by_cases hn1:n > 1
  ·rw [if_pos hn1] at hr
   unfold runT at hr
   cases c:kl key (p.getD 0 0) (p.getD (n - 1) 0) with
   | true =>
    rw [c] at hr;(try dsimp only at hr);rw [if_pos rfl] at hr
    unfold runT at hr
    rw [hr]
    exact ⟨Array.Perm.refl _,rfl,a1,a2,by show n<=nrem;omega⟩
   | false =>
    rw [c] at hr;(try dsimp only at hr);rw [if_neg (by decide)] at hr
    have hge:KA key p (n - 1)<=KA key p 0:=Int.not_lt.mp (of_decide_eq_false c)
    have all:∀ i,i < n->KA key p i=KA key p 0:=fun i hi=>Int.le_antisymm (Int.le_trans (a1 i (n - 1) (by omega) (by omega)) hge) (a1 0 i (by omega) hi)
    have same:∀ i,KA key (kas_rev p 0 n) i=KA key p i:=fun i=>by
     rw [zfw (by omega)]
     split
     ·rw [all _ (by omega),all i (by omega)]
     ·rfl
    obtain ⟨b1,b2,b3,b4,b5⟩:=zcN (key:=key) (p:=kas_rev p 0 n) (n:=n) (nrem:=nrem) a2 (by omega) (by rw [zb5];exact hz) (fun i j hij hj=>by
     rw [same,same]
     by_cases hjn:j=n
     ·subst hjn
      by_cases hin:i=j
      ·subst hin;exact Int.le_refl _
      ·rw [all i (by omega)]
       rw [all (j - 1) (by omega)] at hlt
       exact Int.le_of_lt hlt
     ·rw [all i (by omega),all j (by omega)];exact Int.le_refl _)
    rw [hr]
    exact ⟨b1.trans zbu,b2.trans zb5,b3,b4,b5⟩
  ·rw [if_neg hn1] at hr
   have:n=1:=by omega
   subst this
   obtain ⟨b1,b2,b3,b4,b5⟩:=zcN (key:=key) (p:=p) (n:=1) (nrem:=nrem) (Nat.le_refl _) (by omega) hz (fun i j hij hj=>by
    by_cases hij2:i=j
    ·subst hij2;exact Int.le_refl _
    ·have h0:i=0:=by omega
     have h1:j=1:=by omega
     subst h0;subst h1
     exact Int.le_of_lt hlt)
   rw [hr]
   exact ⟨b1,b2,b3,b4,b5⟩
theorem zc7 {k:Nat} (hs:srt key p k):∀ (f l r:Nat),l<=r->r<=k->r - l<=f->(∀ i,i < l->KA key p i<=KA key p k)->(∀ i,r<=i->i < k->KA key p k < KA key p i) ->
  let m:=runT (kl key) (kas_place p k f l r)
  m<=k/\(∀ i,i < m->KA key p i<=KA key p k)/\(∀ i,m<=i->i < k->KA key p k < KA key p i)
 | 0,l,r,hlr,hrk,hf,h1,h2=>⟨by show l<=k;omega,h1,fun i (hi:l<=i)=>h2 i (by omega)⟩
 | f+1,l,r,hlr,hrk,hf,h1,h2=>by
  intro m
  have hm:m=runT (kl key) (kas_place p k (f+1) l r):=rfl
  unfold kas_place at hm
  by_cases hge:l ≥ r
  ·rw [if_pos hge] at hm
   unfold runT at hm
   rw [hm]
   exact ⟨by omega,h1,fun i hi=>h2 i (by omega)⟩
  ·rw [if_neg hge] at hm
   unfold runT at hm
   cases c:kl key (p.getD k 0) (p.getD ((l+r) / 2) 0) with
   | true =>
    rw [c] at hm;(try dsimp only at hm);rw [if_pos rfl] at hm
    rw [hm]
    have hlt:KA key p k < KA key p ((l+r) / 2):=of_decide_eq_true c
    exact zc7 hs f l ((l+r) / 2) (by omega) (by omega) (by omega) h1 fun i hi hik=>Int.lt_of_lt_of_le hlt (hs _ _ hi hik)
   | false =>
    rw [c] at hm;(try dsimp only at hm);rw [if_neg (by decide)] at hm
    rw [hm]
    have hle:KA key p ((l+r) / 2)<=KA key p k:=Int.not_lt.mp (of_decide_eq_false c)
    exact zc7 hs f ((l+r) / 2+1) r (by omega) hrk (by omega) (fun i hi=>Int.le_trans (hs i ((l+r) / 2) (by omega) (by omega)) hle) h2
theorem zgz:∀ (f:Nat) (p:Array Nat) (k:Nat),k+f<=p.size->srt key p k->let r:=runT (kl key) (kas_bin f p k);r.Perm p/\r.size=p.size/\srt key r (k+f)
 | 0,p,k,_,hs=>⟨Array.Perm.refl _,rfl,hs⟩
 | f+1,p,k,hz,hs=>by
  intro r
  have hr:r=runT (kl key) (kas_bin (f+1) p k):=rfl
  unfold kas_bin at hr
  rw [zbW] at hr
  obtain ⟨a1,a2,a3⟩:=zc7 (key:=key) hs k 0 k (Nat.zero_le _) (Nat.le_refl _) (by omega) (fun i hi=>by omega) (fun i h1 h2=>by omega)
  generalize runT (kl key) (kas_place p k k 0 k)=l at hr a1 a2 a3
  have hk:k < p.size:=by omega
  obtain ⟨b1,b2,b3⟩:=zgz f (bubble p k (k - l)) (k+1) (by rw [bubble_size];omega) (fun i j hij hj=>by
   rw [zfv hk (by omega),zfv hk (by omega),show k - (k - l)=l by omega]
   by_cases hi:i=l
   ·rw [if_pos hi]
    by_cases hjl:j=l
    ·rw [if_pos hjl];exact Int.le_refl _
    ·rw [if_neg hjl,if_pos (by omega)]
     exact Int.le_of_lt (a3 (j - 1) (by omega) (by omega))
   ·rw [if_neg hi]
    by_cases hi2:l < i/\i<=k
    ·rw [if_pos hi2,if_neg (show ¬ j=l by omega),if_pos (by omega)]
     exact hs _ _ (by omega) (by omega)
    ·rw [if_neg hi2]
     by_cases hjl:j=l
     ·rw [if_pos hjl];exact a2 i (by omega)
     ·rw [if_neg hjl]
      split
      ·exact hs _ _ (by omega) (by omega)
      ·exact hs _ _ (by omega) (by omega))
  rw [hr]
  exact ⟨b1.trans (bubble_perm _ _ _),b2.trans (bubble_size _ _ _),by rw [show k+(f+1)=k+1+f by omega];exact b3⟩
theorem zik {n:Nat} (h1:1<=n):let r:=runT (kl key) (kas_sort n);r.Perm (List.toArray (List.range n))/\r.size=n/\srt key r n:=by
 intro r
 have hr:r=runT (kl key) (kas_sort n):=rfl
 unfold kas_sort at hr
 rw [zbW] at hr
 have hsz:(List.toArray (List.range n)).size=n:=by simp
 obtain ⟨a1,a2,a3,a4,a5⟩:=zg6 (key:=key) (p:=List.toArray (List.range n)) (nrem:=n) h1 (by rw [hsz];exact Nat.le_refl _)
 generalize runT (kl key) (kas_count n (List.toArray (List.range n)))=d at hr a1 a2 a3 a4 a5
 by_cases hlt:d.1 < n
 ·rw [if_pos hlt] at hr
  have hmax:max d.1 1=d.1:=by omega
  rw [hmax] at hr
  obtain ⟨b1,b2,b3⟩:=zgz (key:=key) (n - d.1) d.2 d.1 (by omega) a3
  rw [hr]
  exact ⟨b1.trans a1,by omega,by rw [show d.1+(n - d.1)=n by omega] at b3;exact b3⟩
 ·rw [if_neg hlt] at hr
  unfold runT at hr
  rw [hr]
  exact ⟨a1,by omega,by rw [show d.1=n by omega] at a3;exact a3⟩
def Asks {α : Type} (N:Nat) (R : α -> Prop):KasT α -> Prop
 | .ret a=>R a
 | .ask i j k=>i < N/\j < N/\∀ b,Asks N R (k b)
theorem Asks.bind {α β : Type} {N:Nat} {R : α -> Prop} {S : β -> Prop} {f : α -> KasT β} (hf:∀ a,R a->Asks N S (f a)):∀ {t:KasT α},Asks N R t->Asks N S (t.bind f)
 | .ret a,h=>hf a h
 | .ask _ _ k,⟨h1,h2,h3⟩=>⟨h1,h2,fun b=>Asks.bind hf (h3 b)⟩
theorem zgA {α : Type} {lt:Nat->Nat->Bool} {cmp:Nat->Nat->(Bool->Shared->Prop)->Shared->Prop} {s:Shared} {N:Nat} {R : α -> Prop} (hc:∀ i j C,i < N->j < N->C (lt i j) s->cmp i j C s):∀ (t:KasT α) (Q : α -> Shared->Prop),Asks N R t->Q (runT lt t) s->t.kasWp cmp Q s
 | .ret _,_,_,h=>h
 | .ask i j k,Q,⟨h1,h2,h3⟩,h=>hc i j _ h1 h2 (zgA hc (k (lt i j)) Q (h3 _) h)
def bnd (N:Nat) (p:Array Nat):Prop:=∀ i,p.getD i 0 < N
theorem zco {N:Nat} {p q:Array Nat} (hN:0 < N) (h:bnd N p) (e:q.Perm p):bnd N q:=fun i=>by
 rw [Array.getD_eq_getD_getElem?]
 cases z:q[i]? with
 | none=>exact hN
 | some v =>
  have hm:v ∈ q:=Array.mem_of_getElem? z
  have hm2:v ∈ p:=e.mem_iff.mp hm
  obtain ⟨j,hj,e2⟩:=Array.mem_iff_getElem.mp hm2
  have:=h j
  rw [Array.getD_eq_getD_getElem?,Array.getElem?_eq_getElem hj,e2] at this
  exact this
section
variable {N:Nat} (hN:0 < N)
include hN
theorem zeM {p:Array Nat} (h:bnd N p):∀ (f n:Nat),Asks N (fun _=>True) (kas_asc p f n)
 | 0,_=>trivial
 | f+1,n=>⟨h _,h _,fun b=>by
  cases b with
  | true=>(try dsimp only);rw [if_pos rfl];trivial
  | false=>(try dsimp only);rw [if_neg (by decide)];exact zeM h f (n+1)⟩
theorem zcO:∀ (f:Nat) (p:Array Nat) (n q:Nat),bnd N p->Asks N (fun r=>bnd N r.1) (kas_desc f p n q)
 | 0,p,_,_,h=>h
 | f+1,p,n,q,h=>⟨h _,h _,fun b=>by
  cases b with
  | true =>
   dsimp only
   rw [if_pos rfl]
   split
   ·exact zcO f _ _ _ (zco hN h zbu)
   ·exact zcO f _ _ _ h
  | false =>
   dsimp only
   rw [if_neg (by decide)]
   refine ⟨h _,h _,fun b=>?_⟩
   cases b with
   | true=>(try dsimp only);rw [if_pos rfl];exact h
   | false=>(try dsimp only);rw [if_neg (by decide)];exact zcO f _ _ _ h⟩
theorem zem {p:Array Nat} {n nrem:Nat} (h:bnd N p):Asks N (fun r=>bnd N r.2) (kas_tail3 n nrem p) :=
 Asks.bind (N:=N) (R:=fun _=>True) (S:=fun r:Nat × Array Nat=>bnd N r.2) (f:=fun m=>.ret (m,kas_rev p 0 n)) (fun _ _=>zco (p:=p) (q:=kas_rev p 0 n) hN h zbu) (zeM hN (zco hN h zbu) _ _)
theorem zcP {p:Array Nat} {n nrem:Nat} (h:bnd N p):Asks N (fun r=>bnd N r.2) (kas_descPart n nrem p) :=
 Asks.bind (fun r hr=>by
  split
  ·exact zem hN (zco hN hr zbu)
  ·exact zem hN hr) (zcO hN _ _ _ _ h)
theorem zg7 {p:Array Nat} {nrem:Nat} (h:bnd N p):Asks N (fun r=>bnd N r.2) (kas_count nrem p) :=
 Asks.bind (R:=fun _=>True) (fun n _=>by
  split
  ·exact h
  ·split
   ·refine ⟨h _,h _,fun b=>?_⟩
    cases b with
    | true=>(try dsimp only);rw [if_pos rfl];exact h
    | false=>(try dsimp only);rw [if_neg (by decide)];exact zcP hN (zco hN h zbu)
   ·exact zcP hN h) (zeM hN h _ _)
theorem zc8 {p:Array Nat} (h:bnd N p) (k:Nat):∀ (f l r:Nat),Asks N (fun _=>True) (kas_place p k f l r)
 | 0,_,_=>trivial
 | f+1,l,r=>by
  unfold kas_place
  split
  ·trivial
  ·refine ⟨h _,h _,fun b=>?_⟩
   cases b with
   | true=>(try dsimp only);rw [if_pos rfl];exact zc8 h k f _ _
   | false=>(try dsimp only);rw [if_neg (by decide)];exact zc8 h k f _ _
theorem zgB:∀ (f:Nat) (p:Array Nat) (k:Nat),bnd N p->Asks N (fun _=>True) (kas_bin f p k)
 | 0,_,_,_=>trivial
 | f+1,p,k,h=>Asks.bind (R:=fun _=>True) (fun l _=>zgB f _ _ (zco hN h (bubble_perm _ _ _))) (zc8 hN h k _ _ _)
end
theorem zil {n:Nat} (hn:0 < n):Asks n (fun _=>True) (kas_sort n):=by
 have hb:bnd n (List.toArray (List.range n)):=fun i=>by
  rw [Array.getD_eq_getD_getElem?]
  by_cases hi:i < n
  ·simp [hi]
  ·simp [hi,hn]
 refine Asks.bind (fun r hr=>?_) (zg7 hn hb)
 split
 ·exact zgB hn _ _ _ hr
 ·trivial
end
def keyP (q:Int × Int):Int:=q.1 * 10000000+q.2
def okP (q:Int × Int):Prop:=-1000000<=q.2/\q.2<=1000000
theorem zkP {x y:Int × Int} (hx:okP x) (hy:okP y):keyP x < keyP y ↔ (x.1 < y.1 ∨ x.1=y.1/\x.2 < y.2):=by
 unfold keyP okP at *
 omega
theorem zjq {x y:Int × Int} (hx:okP x) (hy:okP y) (h:keyP x=keyP y):x=y:=by
 unfold keyP okP at *
 have h1:x.1=y.1:=by omega
 have h2:x.2=y.2:=by omega
 exact Prod.ext h1 h2
section
variable {prog:Program} {w:World} {A:Around} {E:Value->Shared->Prop} {s:Shared}
def zgC (h:Heap) (v:Value) (q:Int × Int):Prop:=∃ a t u o n,v=.ref a/\h.get? a=some o/\o.cls=.type "tuple" /\ o.data=.seq #[.int q.1 t,.int q.2 u] n
theorem zkQ {x y:Value} {p q:Int × Int} {Q:Bool->Shared->Prop} (hx:zgC s.heap x p) (hy:zgC s.heap y q) (h:Q (decide (p.1 < q.1 ∨ p.1=q.1/\p.2 < q.2)) s):wpAny (model prog w) A (keyLt' (tuples' true) x y) Q E s:=by
 obtain ⟨a,t,u,o,n,rfl,e1,c1,d1⟩:=hx
 obtain ⟨b,t',u',o',n',rfl,e2,c2,d2⟩:=hy
 refine kat_lt e1 d1 e2 d2 ?_
 show KatLex prog w A true _ Q [(Value.int p.1 t,Value.int q.1 t'),(Value.int p.2 u,Value.int q.2 u')] 0 s
 refine kat_cons (wpAny_eqBool_int ?_)
 by_cases h1:p.1=q.1
 ·have e:(p.1 == q.1)=true:=by simpa using h1
  rw [e]
  refine kat_yes (kat_cons (wpAny_eqBool_int ?_))
  by_cases h2:p.2=q.2
  ·have e:(p.2 == q.2)=true:=by simpa using h2
   rw [e]
   refine kat_yes (kat_nil ?_)
   have:decide (p.1 < q.1 ∨ p.1=q.1/\p.2 < q.2)=false:=decide_eq_false (by omega)
   rw [this] at h
   exact h
  ·have e:(p.2 == q.2)=false:=by simpa using h2
   rw [e]
   refine kat_no (kat_one _ _ (PyProof.Rows.lt_int ?_))
   have:decide (p.1 < q.1 ∨ p.1=q.1/\p.2 < q.2)=decide (p.2 < q.2):=by
    by_cases z:p.2 < q.2
    ·rw [decide_eq_true z,decide_eq_true (.inr ⟨h1,z⟩)]
    ·rw [decide_eq_false z,decide_eq_false (by omega)]
   rw [this] at h
   exact h
 ·have e:(p.1 == q.1)=false:=by simpa using h1
  rw [e]
  refine kat_no (oneLt_int ?_)
  have:decide (p.1 < q.1 ∨ p.1=q.1/\p.2 < q.2)=decide (p.1 < q.1):=by
   by_cases z:p.1 < q.1
   ·rw [decide_eq_true z,decide_eq_true (.inl z)]
   ·rw [decide_eq_false z,decide_eq_false (by omega)]
  rw [this] at h
  exact h
def zaR (h:Heap):List Value->List (Int × Int)->Prop
 | [],[]=>True
 | v :: vs,q :: qs=>zgC h v q/\zaR h vs qs
 | _,_=>False
theorem zaR.get {h:Heap}:∀ {vs:List Value} {qs:List (Int × Int)},zaR h vs qs->vs.length=qs.length/\∀ (i:Nat) (hi:i < vs.length),zgC h (vs.getD i .none) (qs.getD i (0,0))
 | [],[],_=>⟨rfl,fun i hi=>absurd hi (Nat.not_lt_zero _)⟩
 | v :: vs,q :: qs,⟨h1,h2⟩=>by
  obtain ⟨e,f⟩:=zaR.get h2
  refine ⟨by simp [e],fun i hi=>?_⟩
  cases i with
  | zero=>exact h1
  | succ i=>exact f i (by simpa using hi)
theorem zaR.tups {h:Heap}:∀ {vs:List Value} {qs:List (Int × Int)},zaR h vs qs->∃ fs:List Value,KatTups h vs fs/\fs.length=vs.length/\∀ v ∈ fs,∃ i t,v=.int i t
 | [],[],_=>⟨[],trivial,rfl,fun _ h=>by cases h⟩
 | v :: vs,q :: qs,⟨hp,h2⟩=>by
  obtain ⟨a,t,u,o,n,rfl,e1,c1,d1⟩:=hp
  obtain ⟨fs,f1,f2,f3⟩:=zaR.tups h2
  refine ⟨.int q.1 t :: fs,.cons e1 c1 d1 rfl f1,by simp [f2],fun v hv=>?_⟩
  rcases List.mem_cons.mp hv with rfl | hv
  ·exact ⟨_,_,rfl⟩
  ·exact f3 v hv
theorem zaR.mono {h h':Heap} (k:∀ b o,h.get? b=some o->h'.get? b=some o):∀ {vs:List Value} {qs:List (Int × Int)},zaR h vs qs->zaR h' vs qs
 | [],[],_=>trivial
 | v :: vs,q :: qs,⟨hp,h2⟩=>by
  obtain ⟨a,t,u,o,n,rfl,e1,c1,d1⟩:=hp
  exact ⟨⟨a,t,u,o,n,rfl,k _ _ e1,c1,d1⟩,zaR.mono k h2⟩
def zjr (qs:List (Int × Int)) (π : List Nat):Prop:=π.Perm (List.range qs.length)/\(π.map fun i=>qs.getD i (0,0)).Pairwise fun x y=>keyP x<=keyP y
theorem zdN {a:Addr} {vs:List Value} {qs:List (Int × Int)} {n:Nat} {P:Fin->Shared->Prop} (ho:s.heap.get? a=some (seqObj "list" vs.toArray n))
  (hp:zaR ((s.heap.update a (Obj.mapSeq fun _=>#[]))) vs qs) (hq:∀ q ∈ qs,okP q) (h64:vs.length < 64)
  (h:∀ π : List Nat,zjr qs π -> P (.done (.ret .none)) { s with heap:=sortedHeap s.heap a vs (List.toArray (π.map fun i=>vs.getD i .none)) }) :
  wpAny (model prog w) A (Builtin.«list.sort» ⟨[.ref a],[]⟩) P E s:=by
 obtain ⟨hl,hget⟩:=hp.get
 rw [list_sort_plain]
 have ha:a < s.heap.objs.size:=Heap.lt_size ho
 refine wpAny_bind (listItems_at ho rfl ?_)
 refine wpAny_bind (listUpdate_at ho rfl ?_)
 obtain ⟨e1,ho1⟩:∃ e1,(s.heap.update a (Obj.mapSeq fun _=>#[])).get? a=some (seqObj "list" #[] e1):=⟨_,get?_update_seq ho (fun _=>#[])⟩
 refine wpAny_bind (seqEpoch_at ho1 rfl ?_)
 refine wpAny_bind (wpAny_newTuple ?_)
 refine wpAny_bind (wpAny_newList ?_)
 refine wpAny_holding ?_
 have ho6:(((s.heap.update a (Obj.mapSeq fun _=>#[])).push (seqObj "tuple" vs.toArray 0)).push (seqObj "list" #[] 0)).get? a=some (seqObj "list" #[] e1):=by
  rw [Heap.get?_push_ne _ _ _ (by rw [size_push',Heap.size_update];exact Nat.ne_of_lt (Nat.lt_succ_of_lt ha)),Heap.get?_push_ne _ _ _ (by rw [Heap.size_update];exact Nat.ne_of_lt ha)]
  exact ho1
 have hp6:zaR (((s.heap.update a (Obj.mapSeq fun _=>#[])).push (seqObj "tuple" vs.toArray 0)).push (seqObj "list" #[] 0)) vs qs:=hp.mono fun b o e=>Heap.get?_push_of_some _ (Heap.get?_push_of_some _ e)
 show wpAny (model prog w) A _ P E { s with heap:=((s.heap.update a (Obj.mapSeq fun _=>#[])).push (seqObj "tuple" vs.toArray 0)).push (seqObj "list" #[] 0) }
 dsimp only
 have hsz:vs.toArray.size=vs.length:=by simp
 by_cases h2:vs.toArray.size < 2
 ·rw [if_pos h2,if_pos h2]
  refine wpAny_bind (wpAny_pure ?_)
  rw [StateT.run_pure]
  refine wpAny_bind (wpAny_pure ?_)
  dsimp only
  refine wpAny_bind (seqEpoch_at ho6 rfl ?_)
  refine wpAny_bind (listUpdate_at ho6 rfl ?_ (hsz2:=by rw [Array.size_map];show (pairsOf vs).size<=_;rw [pairsOf_size,sizeLine_eq];omega))
  simp only [bne_self_eq_false,Bool.false_eq_true,if_false]
  have hid:(arrOf (SortSt.mk' general' (vs.toArray.zip vs.toArray) #[] 7 none)).map (·.2)=List.toArray ((List.range vs.length).map fun i=>vs.getD i .none):=by
   show (vs.toArray.zip vs.toArray).map (·.2)=_
   apply Array.toList_inj.mp
   apply List.ext_getElem?
   intro i
   simp only [Array.toList_map,Array.toList_zip,List.getElem?_map,List.getElem?_zip_eq_some]
   by_cases hi:i < vs.length
   ·simp [List.getElem?_zip_eq_some,hi,List.getElem?_range]
   ·simp [hi]
  rw [hid]
  refine wpAny_pure (h (List.range vs.length) ⟨by rw [hl],?_⟩)
  rw [List.pairwise_map]
  rw [hsz] at h2
  rcases (show vs.length=0 ∨ vs.length=1 by omega) with z | z <;> rw [z]
  ·exact .nil
  ·exact List.pairwise_singleton _ _
 ·rw [if_neg h2,if_neg h2]
  rw [hsz] at h2
  obtain ⟨fs,f1,f2,f3⟩:=hp6.tups
  refine wpAny_bind (kat_kind (T:=.type "int") f1 (by omega) (fun v hv=>by obtain ⟨i,t,rfl⟩:=f3 v hv;exact (show Looks _ _ (pure (Value.type "int")) _ from .now)) rfl ?_)
  refine wpAny_bind (wpAny_mono (kat_run (ks:=vs) (G:=fun p s'=>s' = { s with heap:=((s.heap.update a (Obj.mapSeq fun _=>#[])).push (seqObj "tuple" vs.toArray 0)).push (seqObj "list" #[] 0) }/\p=runT (kl fun i=>keyP (qs.getD i (0,0))) (kas_sort vs.length))
   (Q:=fun st' s'=>s' = { s with heap:=((s.heap.update a (Obj.mapSeq fun _=>#[])).push (seqObj "tuple" vs.toArray 0)).push (seqObj "list" #[] 0) }/\failedOf st'=none/\arrOf st'=(runT (kl fun i=>keyP (qs.getD i (0,0))) (kas_sort vs.length)).map (kas_item (vs.toArray.zip vs.toArray)))
   rfl (by omega) h64 (fun p st' s' a1 a2 a3 a4=>⟨a4.1,a3,by rw [a2,a4.2]⟩) ?_) ?_ fun _ _ e=>e)
  ·refine zgA (N:=vs.length) (R:=fun _=>True) (lt:=kl fun i=>keyP (qs.getD i (0,0))) (fun i j C hi hj hC=>?_) _ _ (zil (by omega)) ⟨rfl,rfl⟩
   refine zkQ (zaR.get hp6 |>.2 i hi) (zaR.get hp6 |>.2 j hj) ?_
   have oi:okP (qs.getD i (0,0)):=hq _ (by rw [List.getD_eq_getElem?_getD,List.getElem?_eq_getElem (by omega)];exact List.getElem_mem _)
   have oj:okP (qs.getD j (0,0)):=hq _ (by rw [List.getD_eq_getElem?_getD,List.getElem?_eq_getElem (by omega)];exact List.getElem_mem _)
   have e:decide ((qs.getD i (0,0)).1 < (qs.getD j (0,0)).1 ∨ (qs.getD i (0,0)).1=(qs.getD j (0,0)).1/\(qs.getD i (0,0)).2 < (qs.getD j (0,0)).2)=kl (fun i=>keyP (qs.getD i (0,0))) i j:=by
    unfold kl
    exact decide_eq_decide.mpr (zkP oi oj).symm
   rw [e]
   exact hC
  ·rintro ⟨⟨⟩,st'⟩ s' ⟨rfl,hf,har⟩
   dsimp only
   obtain ⟨b1,b2,b3⟩:=zik (key:=fun i=>keyP (qs.getD i (0,0))) (n:=vs.length) (by omega)
   generalize runT (kl fun i=>keyP (qs.getD i (0,0))) (kas_sort vs.length)=p at har b1 b2 b3
   have hout:=kat_snds (ks:=vs) (vs:=vs) rfl har
   have hsz2:((arrOf st').map (·.2)).size=vs.length:=by rw [hout,List.size_toArray,List.length_map,Array.length_toList,b2]
   refine wpAny_bind (seqEpoch_at ho6 rfl ?_)
   refine wpAny_bind (listUpdate_at ho6 rfl ?_ (hsz2:=by rw [hsz2,sizeLine_eq];omega))
   rw [hf]
   simp only [bne_self_eq_false,Bool.false_eq_true,if_false]
   rw [hout]
   refine wpAny_pure (h p.toList ⟨?_,?_⟩)
   ·have:=Array.perm_iff_toList_perm.mp b1
    rw [← hl]
    exact this
   ·rw [List.pairwise_map,List.pairwise_iff_getElem]
    intro i j hi hj hij
    rw [Array.length_toList,b2] at hi hj
    have:=b3 i j (by omega) hj
    unfold KA at this
    rw [Array.getD_eq_getD_getElem?,Array.getD_eq_getD_getElem?,Array.getElem?_eq_getElem (by omega),Array.getElem?_eq_getElem (by omega)] at this
    simpa using this
end
section
variable {prog:Program} {w:World} {A:Around} {E:Value->Shared->Prop} {s:Shared}
theorem zfx {l:Addr} {vs:List Value} {qs:List (Int × Int)} {Q:Value->Shared->Prop} (hl:s.heap.IsList l vs.toArray) (hp:zaR s.heap vs qs) (hq:∀ q ∈ qs,okP q) (h64:vs.length < 64)
  (h:∀ π : List Nat,zjr qs π -> Q (.ref (s.heap.objs.size+1)) { s with heap:=sortedAll s.heap vs (List.toArray (π.map fun i=>vs.getD i .none)) }) :
  wpAny (model prog w) A (call (.builtin "sorted") [.ref l]) Q E s:=by
 refine Calls.call_function_entry kind_sorted plain_sorted entry_sorted (args_sorted1 _) ?_
 unfold Builtin.«sorted»
 refine wpAny_bind (m:=checkCount "sorted" 1 1 _) (wpAny_pure ?_)
 refine wpAny_bind (collect_list hl ?_)
 refine wpAny_bind (wpAny_newList ?_)
 have hsz:((s.heap.push (seqObj "list" #[] 0)).update s.heap.objs.size (Obj.mapSeq (· ++ vs.toArray))).objs.size=s.heap.objs.size+1:=by
  rw [Heap.size_update,size_push']
 have hoL:(((s.heap.push (seqObj "list" #[] 0)).update s.heap.objs.size (Obj.mapSeq (· ++ vs.toArray))).push (seqObj "list" vs.toArray 0)).get? (s.heap.objs.size+1)=some (seqObj "list" vs.toArray 0):=by
  rw [← hsz];exact Heap.get?_push_size _ rfl
 show wpAny _ _ _ _ _ { s with heap:=((s.heap.push (seqObj "list" #[] 0)).update s.heap.objs.size (Obj.mapSeq (· ++ vs.toArray))).push (seqObj "list" vs.toArray 0) }
 rw [hsz]
 refine wpAny_bind (wpAny_holding (wpAny_call_entry slot_list_sort ⟨_,hoL,rfl⟩ entry_list_sort (zdN (qs:=qs) hoL (hp.mono fun b o e=>?_) hq h64 fun π a1=>⟨_,rfl,?_⟩) (args_list_sort _)))
 ·have hlt:b < s.heap.objs.size:=Heap.lt_size e
  dsimp only
  have hlt':(b:Nat) < s.heap.objs.size:=hlt
  rw [Heap.get?_update_ne _ _ _ _ (Nat.ne_of_lt (Nat.lt_succ_of_lt hlt')),Heap.get?_push_ne _ _ _ (by rw [hsz];exact Nat.ne_of_lt (Nat.lt_succ_of_lt hlt')),Heap.get?_update_ne _ _ _ _ (Nat.ne_of_lt hlt),Heap.get?_push_ne _ _ _ (Nat.ne_of_lt hlt)]
  exact e
 ·exact wpAny_pure ⟨_,rfl,h π a1⟩
end
end DL
namespace DL
open PySem PySem.Spec L2
open PyProof.Rows hiding St
section
variable {X:Cx}
theorem zgD {pins:List (Addr × Obj)} {s:Shared} {σ : St} {H:Hp} (I:Inv X pins σ H s):∀ {as:List Addr} {us:List Value} {qs:List (Int × Int)},Vals (as.map V.ref) us->as.length=qs.length->(∀ (i:Nat) a q,as[i]?=some a->qs[i]?=some q->SqT X.K H a [.int q.1,.int q.2])->zaR s.heap us qs
 | [],_,[],.nil,_,_=>trivial
 | a :: as,_,q :: qs,.cons r t,hl,h=>by
  refine ⟨?_,zgD I t (by simpa using hl) fun i a q h1 h2=>h (i+1) a q (by simpa using h1) (by simpa using h2)⟩
  cases r
  obtain ⟨its,rv,⟨o,e,c,n,d⟩,_⟩:=I.tuple (h 0 a q rfl rfl)
  obtain ⟨u,v,rfl,r1,r2⟩:=rv.two
  obtain ⟨t1,rfl⟩:=r1
  obtain ⟨t2,rfl⟩:=r2
  exact ⟨a,t1,t2,o,n,rfl,e,c,by simpa using d⟩
theorem zfy {as:List Addr} {us:List Value} (r:Vals (as.map V.ref) us):∀ (π : List Nat),(∀ i ∈ π,i < as.length)->Vals (π.map fun i=>V.ref (as.getD i 0)) (π.map fun i=>us.getD i .none)
 | [],_=>.nil
 | i :: π,h=>by
  refine .cons ?_ (zfy r π fun j hj=>h j (List.mem_cons_of_mem _ hj))
  have hi:=h i List.mem_cons_self
  have e:(as.map V.ref)[i]?=some (.ref (as.getD i 0)):=by rw [List.getElem?_map,List.getElem?_eq_getElem hi];simp [List.getD,List.getElem?_eq_getElem hi]
  obtain ⟨u,e2,ru⟩:=r.get e
  simp only [List.getD,e2,Option.getD_some]
  exact ru
theorem zen:zcu X (.builtin "sorted") (fun xs H Q=>∃ l,∃ as:List Addr,∃ qs:List (Int × Int),xs=[.ref l]/\SqL X.K H l (as.map V.ref)/\as.length=qs.length/\(∀ (i:Nat) a q,as[i]?=some a->qs[i]?=some q->SqT X.K H a [.int q.1,.int q.2])/\(∀ q ∈ qs,okP q)/\qs.length < 64 /\
  ∀ π p,zjr qs π -> H p=none->Q (.ref p) (upd H p (.lst (π.map fun i=>V.ref (as.getD i 0))))):=by
 intro pins s σ H xs us Q I rx h
 obtain ⟨l,as,qs,rfl,hq,hl,ht,ho,hb,q⟩:=h
 obtain ⟨u,rfl,ru⟩:=rx.one
 cases ru
 obtain ⟨its,rv,p,hz⟩:=I.list hq
 have hn:its.length=qs.length:=by have:=rv.length;rw [List.length_map] at this;omega
 refine zfx (qs:=qs) p.isList (zgD I rv hl ht) ho (by omega) fun π hπ=>?_
 obtain ⟨e,he⟩:=sortedAll_at s.heap its (List.toArray (π.map fun i=>its.getD i .none))
 have hπl:∀ i ∈ π,i < as.length:=fun i hi=>by
  have:=hπ.1.mem_iff.mp hi
  rw [List.mem_range] at this
  omega
 refine ⟨.ref (s.heap.objs.size+1),_,I.laid (t':=s.toks) (fun b o=>sortedAll_old) (Nat.le_succ _) (show zb1 X.prog X.w _ _ _ (.lst (π.map fun i=>V.ref (as.getD i 0))) from ⟨?_,_,e,zfy rv π hπl,he⟩),rfl,q π _ hπ (I.hok.fresh (Nat.le_succ _))⟩
 rw [List.length_map,hπ.1.length_eq,List.length_range]
 rw [List.length_map] at hz
 omega
def zgE:D->Option (Int × Int)
 | .tuple [.int a,.int b]=>some (a,b)
 | _=>none
def zbH:List D->Option (List (Int × Int))
 | []=>some []
 | d :: r=>(zgE d).bind fun q=>(zbH r).map (q :: ·)
def duoD (q:Int × Int):D:=.tuple [.int q.1,.int q.2]
theorem zim {d:D} {q:Int × Int} (h:zgE d=some q):d=duoD q:=by
 unfold zgE at h
 split at h
 ·cases h;rfl
 ·cases h
theorem zdO:∀ {ds:List D} {qs:List (Int × Int)},zbH ds=some qs->ds=qs.map duoD
 | [],qs,h=>by cases h;rfl
 | d :: r,qs,h=>by
  unfold zbH at h
  cases z:zgE d with
  | none=>rw [z] at h;cases h
  | some q =>
   rw [z] at h
   cases z2:zbH r with
   | none=>rw [z2] at h;cases h
   | some qs'=>rw [z2] at h;cases h;rw [zim z,zdO z2];rfl
theorem zdg:∀ qs:List (Int × Int),zbH (qs.map duoD)=some qs
 | []=>rfl
 | q :: r=>by rw [List.map_cons,zbH,zdg r];rfl
def zeN (qs:List (Int × Int)):List (Int × Int):=qs.mergeSort fun x y=>decide (keyP x<=keyP y)
theorem zeo (qs:List (Int × Int)):(zeN qs).Perm qs:=List.mergeSort_perm ..
theorem zfz (qs:List (Int × Int)):(zeN qs).Pairwise fun x y=>keyP x<=keyP y:=by
 have:=List.pairwise_mergeSort (le:=fun x y:Int × Int=>decide (keyP x<=keyP y)) (by intro a b c;simp;omega) (by intro a b;simp;omega) qs
 exact this.imp (by simp)
theorem zeO:∀ {a b:List (Int × Int)},(∀ x ∈ a,okP x)->a.Perm b->a.Pairwise (fun x y=>keyP x<=keyP y)->b.Pairwise (fun x y=>keyP x<=keyP y)->a=b
 | [],b,_,p,_,_=>by rw [List.nil_perm.1 p]
 | x :: a,[],_,p,_,_=>by have:=p.length_eq;simp at this
 | x :: a,y :: b,ok,p,ha,hb=>by
  have hx:keyP y<=keyP x:=by
   rcases List.mem_cons.1 (p.mem_iff.1 (List.mem_cons_self ..)) with e | e
   ·rw [e];exact Int.le_refl _
   ·exact (List.pairwise_cons.1 hb).1 x e
  have hy:keyP x<=keyP y:=by
   rcases List.mem_cons.1 (p.mem_iff.2 (List.mem_cons_self ..)) with e | e
   ·rw [e];exact Int.le_refl _
   ·exact (List.pairwise_cons.1 ha).1 y e
  have oky:okP y:=ok y (p.mem_iff.2 (List.mem_cons_self ..))
  have e:=zjq (ok x (List.mem_cons_self ..)) oky (Int.le_antisymm hy hx)
  subst e
  rw [zeO (fun z hz=>ok z (List.mem_cons_of_mem _ hz)) (List.Perm.cons_inv p) (List.pairwise_cons.1 ha).2 (List.pairwise_cons.1 hb).2]
theorem zgF {qs:List (Int × Int)} {π : List Nat} (ok:∀ q ∈ qs,okP q) (h:zjr qs π):(π.map fun i=>qs.getD i (0,0))=zeN qs:=by
 have hp:(π.map fun i=>qs.getD i (0,0)).Perm qs:=by
  have h1:=h.1.map fun i=>qs.getD i (0,0)
  have e:(List.range qs.length).map (fun i=>qs.getD i (0,0))=qs:=by
   apply List.ext_getElem?
   intro i
   rw [List.getElem?_map]
   by_cases hi:i < qs.length
   ·rw [List.getElem?_range hi,List.getElem?_eq_getElem hi];simp [List.getD,List.getElem?_eq_getElem hi]
   ·rw [List.getElem?_eq_none (by rw [List.length_range];omega),List.getElem?_eq_none (by omega)];rfl
  rw [e] at h1
  exact h1
 exact zeO (fun x hx=>ok x (hp.mem_iff.mp hx)) (hp.trans (zeo qs).symm) h.2 (zfz qs)
def okPB (q:Int × Int):Bool:=decide (-1000000<=q.2/\q.2<=1000000)
def zep:List D->Option D
 | [.list ds]=>(match zbH ds with
  | some qs=>if qs.length < 64/\qs.all okPB=true then some (.list ((zeN qs).map duoD)) else none
  | none=>none)
 | _=>none
theorem zeq {xs:List D} {d:D} (h:zep xs=some d):∃ qs:List (Int × Int),xs=[.list (qs.map duoD)]/\qs.length < 64/\(∀ q ∈ qs,okP q)/\d=.list ((zeN qs).map duoD):=by
 unfold zep at h
 split at h
 ·rename_i ds
  cases z:zbH ds with
  | none=>rw [z] at h;cases h
  | some qs =>
   rw [z] at h
   dsimp only at h
   split at h
   ·rename_i c
    cases h
    exact ⟨qs,by rw [zdO z],c.1,fun q hq=>(show -1000000<=q.2/\q.2<=1000000 from of_decide_eq_true (List.all_eq_true.mp c.2 q hq)),rfl⟩
   ·cases h
 ·cases h
theorem zdP {K:PySem.W.Frag} {G:Hp}:∀ {vs:List V} {qs:List (Int × Int)},Reps K G vs (qs.map duoD)->∃ as:List Addr,vs=as.map V.ref/\as.length=qs.length/\∀ (i:Nat) a q,as[i]?=some a->qs[i]?=some q->SqT K G a [.int q.1,.int q.2]
 | _,[],.nil=>⟨[],rfl,rfl,fun i a q h=>by simp at h⟩
 | _,q :: qs,.cons r t=>by
  obtain ⟨as,rfl,hl,h⟩:=zdP t
  obtain ⟨a,ws,rfl,h1,r1⟩:=r.tup_inv
  cases r1 with
  | cons ra rb =>
   obtain ⟨v,rfl,rb'⟩:=rb.one_inv
   refine ⟨a :: as,rfl,by simp [hl],fun i a' q' e1 e2=>?_⟩
   cases i with
   | zero =>
    cases e1;cases e2
    rw [ra.int_inv,rb'.int_inv] at h1
    exact h1
   | succ i=>exact h i a' q' (by simpa using e1) (by simpa using e2)
theorem zjs {K:PySem.W.Frag} {G:Hp} {a:Addr} {q:Int × Int} (h:SqT K G a [.int q.1,.int q.2]):Rep K G (.ref a) (duoD q):=.tup h (.cons (.int _) (.cons (.int _) .nil))
theorem zdQ {K:PySem.W.Frag} {G:Hp} {as:List Addr} {qs:List (Int × Int)} (hl:as.length=qs.length) (h:∀ (i:Nat) a q,as[i]?=some a->qs[i]?=some q->SqT K G a [.int q.1,.int q.2]):∀ π : List Nat,(∀ i ∈ π,i < qs.length)->Reps K G (π.map fun i=>V.ref (as.getD i 0)) ((π.map fun i=>qs.getD i (0,0)).map duoD)
 | [],_=>.nil
 | i :: π,hb=>by
  refine .cons ?_ (zdQ hl h π fun j hj=>hb j (List.mem_cons_of_mem _ hj))
  have hi:=hb i List.mem_cons_self
  refine zjs (h i _ _ ?_ ?_)
  ·rw [List.getElem?_eq_getElem (by omega)];simp [List.getD,List.getElem?_eq_getElem (show i < as.length by omega)]
  ·rw [List.getElem?_eq_getElem hi];simp [List.getD,List.getElem?_eq_getElem hi]
theorem zkR:zcZ X (.builtin "sorted") zep:=by
 refine ⟨_,zen,fun vs G H ds d Q s r e k=>?_⟩
 obtain ⟨qs,rfl,h64,ok,rfl⟩:=zeq e
 obtain ⟨v,rfl,q1⟩:=r.one_inv
 obtain ⟨l,ws,rfl,h1,r1⟩:=q1.lst_inv
 obtain ⟨as,rfl,hl,ht⟩:=zdP r1
 refine ⟨l,as,qs,rfl,s.seq h1,hl,fun i a q e1 e2=>zcY s (ht i a q e1 e2),ok,h64,fun π p hπ hp=>?_⟩
 have hb:∀ i ∈ π,i < qs.length:=fun i hi=>List.mem_range.mp (hπ.1.mem_iff.mp hi)
 have rr:=(zdQ hl ht π hb).mono (zaz (s.free hp):Same G (upd G p (.lst (π.map fun i=>V.ref (as.getD i 0)))))
 rw [zgF ok hπ] at rr
 exact k _ _ _ (Ext.new s hp) (.lst (SqL.of zas) rr)
theorem zcZ.or {f:Value} {p q:List D->Option D} (h1:zcZ X f p) (h2:zcZ X f q):zcZ X f (fun xs=>(p xs).orElse fun _=>q xs):=by
 obtain ⟨r1,c1,k1⟩:=h1
 obtain ⟨r2,c2,k2⟩:=h2
 refine ⟨fun xs H Q=>r1 xs H Q ∨ r2 xs H Q,fun pins s σ H xs us Q I rx h=>?_,fun vs G H ds d Q s r e k=>?_⟩
 ·rcases h with h | h
  ·exact c1 pins s σ H xs us Q I rx h
  ·exact c2 pins s σ H xs us Q I rx h
 ·dsimp only at e
  cases z:p ds with
  | some d'=>rw [z] at e;cases e;exact .inl (k1 vs G H ds _ Q s r z k)
  | none=>rw [z] at e;exact .inr (k2 vs G H ds _ Q s r e k)
def zeP (xs:List D):Option D:=(zcI xs).orElse fun _=>zep xs
theorem zl0:zcZ X (.builtin "sorted") zeP:=zkG.or zkR
theorem zg8 {ns:List Int} (h:ns.length < 64):zeP [.list (ns.map .int)]=some (.list ((zcp ns).map .int)):=by unfold zeP;rw [zid h];rfl
theorem zin {qs:List (Int × Int)} (h:qs.length < 64) (ok:∀ q ∈ qs,okP q):zeP [.list (qs.map duoD)]=some (.list ((zeN qs).map duoD)):=by
 cases qs with
 | nil =>
  have e1:zeN []=[]:=by unfold zeN;simp
  have e2:zcp []=[]:=by unfold zcp;simp
  have:=zg8 (ns:=[]) (by decide)
  rw [e2] at this
  rw [e1];exact this
 | cons q r =>
  have e1:zcI [.list ((q :: r).map duoD)]=none:=rfl
  unfold zeP
  rw [e1,Option.orElse]
  unfold zep
  dsimp only
  rw [zdg]
  exact if_pos ⟨h,List.all_eq_true.mpr fun q hq=>decide_eq_true (show -1000000<=q.2/\q.2<=1000000 from ok q hq)⟩
end
section
variable {X:Cx}
end
section
variable {X:Cx} {B G0:Hp} {e o a b c tg:Expr} {pos p2:Pos} {es rest:List Expr} {te to ti:TE}
end
def zfA (ρ : DEnv) (j:Nat):Option D:=match ρ[j]? with
 | some (some (.pub d))=>some d
 | some (some (.own ds))=>some (.list ds)
 | some (some (.deep _ d))=>some d
 | _=>none
theorem EOk.tree {K:PySem.W.Frag} {B G0 G H:Hp} {σ : St} {ρ : DEnv} {j:Nat} {d:D} (k:EOk K B G0 G H σ ρ) (h:zfA ρ j=some d):∃ v,σ[j]?=some (some v)/\Rep K H v d:=by
 unfold zfA at h
 split at h
 ·rename_i d' e
  cases h
  obtain ⟨v,h1,h2⟩:=k.pub j _ e
  exact ⟨v,h1,h2.mono k.gh⟩
 ·rename_i ds e
  cases h
  obtain ⟨a,vs,h1,h2,h3,h4,h5⟩:=k.own j ds e
  exact ⟨.ref a,h1,.lst (SqL.of h4) (h5.mono k.gh)⟩
 ·rename_i p d' e
  cases h
  obtain ⟨ω,k1,k2⟩:=k.dp
  obtain ⟨v,fp,s,r,_⟩:=k1 j p _ e
  exact ⟨v,s,r.rep k.gh⟩
 ·cases h
section
variable {X:Cx} {B G0:Hp} {e o a b c tg:Expr} {pos p2:Pos} {es rest:List Expr}
end
end DL
namespace HT
open PySem PyProof.Rows
section
open PySem.SeqAt
open PySem.AutoSeq1 (wpAny_loadPart')
open PySem.MeetsSeq PySem.MeetsSeq2 PySem.MeetsSeq3
end
section
variable {prog:Program} {w:World} {A:Around} {E:Value->Shared->Prop} {s:Shared}
end
end HT
namespace DL
open PySem PySem.Spec L2
open PyProof.Rows hiding St
section
variable {X:Cx}
end
section
variable {X:Cx}
end
end DL
namespace DL
open PySem
theorem lz0 {P:List Value->Prop} {us:List Value} (hl:us.length=0) (h:P []):P us:=by
 cases us with
 | nil=>exact h
 | cons a r=>cases hl
theorem lzS {P:List Value->Prop} {us:List Value} {n:Nat} (hl:us.length=n+1) (h:∀ a r,r.length=n->P (a :: r)):P us:=by
 cases us with
 | nil=>cases hl
 | cons a r=>exact h a r (Nat.succ.inj hl)
theorem lz1 {P:List Value->Prop} {us:List Value} (hl:us.length=1) (h:∀ a,P [a]):P us:=lzS hl fun a r e=>lz0 (P:=fun r=>P (a :: r)) e (h a)
theorem lz2 {P:List Value->Prop} {us:List Value} (hl:us.length=2) (h:∀ a b,P [a,b]):P us:=lzS hl fun a r e=>lz1 (P:=fun r=>P (a :: r)) e (h a)
theorem lz3 {P:List Value->Prop} {us:List Value} (hl:us.length=3) (h:∀ a b c,P [a,b,c]):P us:=lzS hl fun a r e=>lz2 (P:=fun r=>P (a :: r)) e (h a)
theorem lz4 {P:List Value->Prop} {us:List Value} (hl:us.length=4) (h:∀ a b c d,P [a,b,c,d]):P us:=lzS hl fun a r e=>lz3 (P:=fun r=>P (a :: r)) e (h a)
theorem lz5 {P:List Value->Prop} {us:List Value} (hl:us.length=5) (h:∀ a b c d e,P [a,b,c,d,e]):P us:=lzS hl fun a r e=>lz4 (P:=fun r=>P (a :: r)) e (h a)
theorem bz1 {fd:FuncData} {ps:List Str} {us:List Value} (hl:us.length=1) (h:∀ a,bindArgs fd { pos:=[a] }=pure (ps.zip [a])):bindArgs fd { pos:=us }=pure (ps.zip us):=lz1 (P:=fun us=>bindArgs fd { pos:=us }=pure (ps.zip us)) hl h
theorem bz2 {fd:FuncData} {ps:List Str} {us:List Value} (hl:us.length=2) (h:∀ a b,bindArgs fd { pos:=[a,b] }=pure (ps.zip [a,b])):bindArgs fd { pos:=us }=pure (ps.zip us):=lz2 (P:=fun us=>bindArgs fd { pos:=us }=pure (ps.zip us)) hl h
theorem bz3 {fd:FuncData} {ps:List Str} {us:List Value} (hl:us.length=3) (h:∀ a b c,bindArgs fd { pos:=[a,b,c] }=pure (ps.zip [a,b,c])):bindArgs fd { pos:=us }=pure (ps.zip us):=lz3 (P:=fun us=>bindArgs fd { pos:=us }=pure (ps.zip us)) hl h
theorem bz5 {fd:FuncData} {ps:List Str} {us:List Value} (hl:us.length=5) (h:∀ a b c d e,bindArgs fd { pos:=[a,b,c,d,e] }=pure (ps.zip [a,b,c,d,e])):bindArgs fd { pos:=us }=pure (ps.zip us):=lz5 (P:=fun us=>bindArgs fd { pos:=us }=pure (ps.zip us)) hl h
end DL
namespace DL
open PySem PySem.Spec L2
open PyProof.Rows hiding St
def whole (h:Heap):PySem.W.Frag:=(List.range h.objs.size).filterMap fun a=>(h.get? a).map fun o=>(a,o)
theorem zfB {g:Addr->Option Obj} {x:Addr}:∀ l:List Addr,(l.filterMap fun a=>(g a).map fun o=>(a,o)).lookup x=if x ∈ l then g x else none
 | []=>rfl
 | y :: l=>by
  have ih:=zfB (g:=g) (x:=x) l
  by_cases e:x=y
  ·subst e
   rw [if_pos List.mem_cons_self]
   cases z:g x with
   | none=>rw [List.filterMap_cons_none (by rw [z];rfl),ih,z];split <;> rfl
   | some o=>rw [List.filterMap_cons_some (by rw [z];rfl),List.lookup_cons,beq_self_eq_true]
  ·have m:(x ∈ y :: l)=(x ∈ l):=by simp [List.mem_cons,e]
   have b:(x == y)=false:=by simpa using e
   have ih':(if x ∈ y :: l then g x else none)=_:=(by simp only [m];exact ih.symm)
   rw [ih']
   cases z:g y with
   | none=>rw [List.filterMap_cons_none (by rw [z];rfl)]
   | some o=>rw [List.filterMap_cons_some (by rw [z];rfl),List.lookup_cons,b]
theorem zcQ {h:Heap} {a:Addr}:(whole h).lookup a=h.get? a:=by
 unfold whole
 rw [zfB]
 split
 ·rfl
 ·rename_i n
  cases z:h.get? a with
  | none=>rfl
  | some o=>exact absurd (List.mem_range.mpr (Heap.lt_size z)) n
theorem zjt (h:Heap):(whole h).In h:=fun a o e=>by rw [zcQ] at e;exact e
def zmW (st:Stmt):Option DefRec:=match st with
 | .FunctionDef name a b _ _ _ sc _ _ pos=>some ⟨name,a,b,sc,pos⟩
 | _=>none
def zfC (st:Stmt):Option Str:=match st with
 | .FunctionDef name _ _ _ _ _ _ _ _ _=>some name
 | _=>none
def zmX (st:Stmt):Pos:=match st with
 | .FunctionDef _ _ _ _ _ _ _ _ _ pos=>pos
 | _=>⟨0,0,0,0⟩
abbrev stAt (p:Program) (i:Nat):Stmt:=p.main.body.getD i (.Pass ⟨0,0,0,0⟩)
def zdR (p:Program) (ix:List Nat):List DefRec:=ix.filterMap fun i=>zmW (stAt p i)
section
variable {p q:Program} {loose:List Str} {mean:ExcName->Option Value} {mg mb:Str->Option Value} {h:Heap} {w:World}
theorem zgG {ix:List Nat} (T:Top q loose mean mg mb h) (e:recsOf q=zdR p ix) (i:Nat) (x:Str) (hi:ix.contains i=true) (hn:zfC (stAt p i)=some x):∃ f fd,mg x=some (.ref f)/\Fun (whole h) x x (stAt p i) f fd:=by
 cases hs:stAt p i with
 | FunctionDef name a b _ _ _ sc _ _ pos =>
  rw [hs] at hn
  cases hn
  have hd:(⟨x,a,b,sc,pos⟩:DefRec) ∈ recsOf q:=by
   rw [e]
   exact List.mem_filterMap.mpr ⟨i,by simpa using hi,by rw [hs];rfl⟩
  obtain ⟨f,⟨oc,od,dt,osl⟩,pm,cd,doc,h1,h2,h3,h4⟩:=T.fn _ hd
  have h3:dt=_:=h3
  subst h3
  refine ⟨f,_,h1,⟨⟨oc,od,.none,doc,pm,_,cd,_,osl,rfl,by rw [zcQ];exact h2,?_⟩,?_⟩⟩
  ·obtain ⟨c,⟨_,_,dc,_⟩,vs,t,rfl,g1,g2,g3⟩:=h4
   have g2:dc=_:=g2
   subst g2
   unfold PySem.W.codeIn
   dsimp only
   rw [zcQ,g1]
   dsimp only
   have g4:vs.toList[1]?=some (.str x t):=by rw [Array.getElem?_toList];exact g3
   cases hv:vs.toList with
   | nil=>rw [hv] at g4;cases g4
   | cons v0 r =>
    rw [hv] at g4
    cases r with
    | nil=>cases g4
    | cons v1 r=>cases g4;exact beq_self_eq_true _
  ·unfold PySem.W.keepIn
   dsimp only
   rw [zcQ,h2]
 | _=>rw [hs] at hn;cases hn
theorem zio {K:PySem.W.Frag} {x qual y:Str} {st:Stmt} {f:Addr} {fd:FuncData} (F:Fun K x qual st f fd)
  (hb:∀ (kV doc pm:Value) (an:Option Addr) (cdv ct v:Value),bindArgs (PySem.W.fnOf x qual (zcc st) (zbn st) (zah st) .none kV doc pm an cdv ct) ⟨[v],[]⟩=pure [(y,v)]) (s:Shared) (v:Value):BindsTo s fd ⟨[v],[]⟩ [(y,v)]:=by
 obtain ⟨oc,od,kV,doc,pm,an,cdv,ct,osl,rfl,lk,hcd⟩:=F.ex
 exact .of_eq (hb kV doc pm an cdv ct v)
def zju (q:Program) (loose:List Str) (x:Str):Bool :=
 !startupNames.contains x && !loose.contains x && !((recsOf q).map (·.name)).contains x && !((litsOf q).map (·.1)).contains x && !((clssOf q loose).map (·.name)).contains x
theorem zbe (T:Top q loose mean mg mb h) {xs:List Str} (e:xs.all (zju q loose)=true) {x:Str} (hx:x ∈ xs):mg x=none:=by
 have:=List.all_eq_true.mp e x hx
 unfold zju at this
 simp only [Bool.and_eq_true,Bool.not_eq_true',List.contains_eq_mem,decide_eq_false_iff_not] at this
 exact T.free x this.1.1.1.1 this.1.1.1.2 this.1.1.2 this.1.2 this.2
theorem zcR (T:Top q loose mean mg mb h) {x:Str} {i:Int} (e:valOf q x=some (.int i)):∃ t,mg x=some (.int i t):=by
 obtain ⟨v,h1,h2⟩:=T.const x _ e
 have:=h2 h
 cases this
 exact ⟨_,h1⟩
end
def scOk (sc:Scope) (N gl:List Str):Bool:=(N.all fun x=>match sc.names.lookup x with | some .local=>true | some .cell=>true | _=>false) && gl.all fun x=>match sc.names.lookup x with | some .globalImplicit=>true | _=>false
def fnB (sc:Scope) (N gl:List Str):Bool:=decide (sc.kind=.function) && !sc.isCoroutine && !sc.isGenerator && decide N.Nodup && (sc.names.all fun y=>match y.2 with | .free=>false | _=>true) && scOk sc N gl
structure FnNm (sc:Scope) (N gl:List Str):Prop where
 kind:sc.kind=.function
 co:sc.isCoroutine=false
 gen:sc.isGenerator=false
 nd:N.Nodup
 nofree:∀ y ∈ sc.names,y.2 ≠ .free
 nm:∀ x ∈ N,sc.names.lookup x=some .local ∨ sc.names.lookup x=some .cell
 gl:∀ x ∈ gl,sc.names.lookup x=some .globalImplicit
theorem za4 {sc:Scope} {N gl:List Str} (H:fnB sc N gl=true):FnNm sc N gl:=by
 unfold fnB scOk at H
 simp only [Bool.and_eq_true,decide_eq_true_eq,Bool.not_eq_true',List.all_eq_true] at H
 obtain ⟨⟨⟨⟨⟨h1,h2⟩,h3⟩,h4⟩,h5⟩,h6,h7⟩:=H
 refine ⟨h1,h2,h3,h4,fun y hy e=>?_,fun x hx=>?_,fun x hx=>?_⟩
 ·have:=h5 y hy;rw [e] at this;cases this
 ·have:=h6 x hx
  split at this
  ·rename_i e;exact .inl e
  ·rename_i e;exact .inr e
  ·cases this
 ·have:=h7 x hx
  split at this
  ·rename_i e;exact e
  ·cases this
section
variable {sc:Scope} {N gl:List Str} {x:Str}
theorem nq (H:FnNm sc N gl):N.Nodup:=H.nd
theorem fq (H:FnNm sc N gl) (n:Nat):zcv N (N.take n) sc:=⟨H.kind,H.co,H.gen,H.nd,by rw [List.length_take,List.take_eq_take_iff];omega,fun x hx=>H.nm x (List.mem_of_mem_take hx),H.nofree⟩
theorem lq (H:FnNm sc N gl) (i:Nat) (h:N[i]?=some x:=by rfl):L2.Loc sc x:=H.nm x (List.mem_of_getElem? h)
theorem gq (H:FnNm sc N gl) (i:Nat) (h:gl[i]?=some x:=by rfl):sc.names.lookup x=some .globalImplicit:=H.gl x (List.mem_of_getElem? h)
theorem pq {X:Cx} {pos:Pos} (H:FnNm X.env.scope X.N gl) (i:Nat) (h:X.N[i]?=some x:=by rfl) (hd:(x == ("__debug__" : Str))=false:=by decide) (hc:(x == ("__classdict__" : Str))=false:=by decide):PE X (.Name x pos) (tVar i) :=
 zjK h ((H.nm x (List.mem_of_getElem? h)).elim .inl fun z=>.inr (.inl z)) hd hc
end
theorem zcq {q p:Program} {loose:List Str} {mean:ExcName->Option Value} {mg mb:Str->Option Value} {h:Heap} {ix:List Nat} (P:Program) (w:World) (base:Heap) {ps:List Str} {k n:Nat} {F:List D->Option D} (T:Top q loose mean mg mb h) (e:recsOf q=zdR p ix) (i:Nat) (x:Str) (hi:ix.contains i=true) (hn:zfC (stAt p i)=some x)
  (ok:∀ {f:Addr} {fd:FuncData},Fun (whole h) x x (stAt p i) f fd->FnOk P w (whole h) mg base CX0 k f fd ps (spD (whole h) n F))
  (hb:∀ (kV doc pm:Value) (an:Option Addr) (cdv ct:Value) (us:List Value),us.length=ps.length->bindArgs (PySem.W.fnOf x x (zcc (stAt p i)) (zbn (stAt p i)) (zah (stAt p i)) .none kV doc pm an cdv ct) ⟨us,[]⟩=pure (ps.zip us)):Def P w (whole h) mg base x k n F:=by
 obtain ⟨f,fd,m,FU⟩:=zgG T e i x hi hn
 exact Def.mk m FU (FU.binds hb) (ok FU)
section
variable {X:Cx} {B G0:Hp} {e:Expr} {pos:Pos} {es:List Expr}
theorem pdf {k kk n:Nat} {F:List D->Option D} {g:M (List D)} {x:Str} {p2:Pos} (d:Def X.prog X.w X.K X.mg X.base x k n F) (hr:Room kk X.A) (hg:Gl X x) (ha:PA X (e :: es) (tDs X.K B G0 g)) (hk:k<=kk:=by decide) (hn:(e :: es).length=n:=by rfl)
  (hdb:(x == ("__debug__" : Str))=false:=by decide) (he:starEach (e :: es) X.env=(false,eval e X.env) :: starEach es X.env:=by rfl) (hpl:(backTo pos (starEach es X.env)).any (·.1)=false:=by rfl) :
  PE X (.Call (.Name x p2) (e :: es) [] pos) (tD X.K B G0 (dFun n F g)):=zkA d (hr.mono hk) hg ha hn hdb he hpl
end
theorem zmY {q p:Program} {loose:List Str} {mean:ExcName->Option Value} {mg mb:Str->Option Value} {h:Heap} {ix:List Nat} {P:Program} {w:World} {k:Nat} {F:List D->Option D} {y:Str} {fa:Addr} (T:Top q loose mean mg mb h) (e:recsOf q=zdR p ix) (i:Nat) (x:Str) (hi:ix.contains i=true) (hn:zfC (stAt p i)=some x) (hfa:mg x=some (.ref fa))
  (hb:∀ (kV doc pm:Value) (an:Option Addr) (cdv ct v:Value),bindArgs (PySem.W.fnOf x x (zcc (stAt p i)) (zbn (stAt p i)) (zah (stAt p i)) .none kV doc pm an cdv ct) ⟨[v],[]⟩=pure [(y,v)])
  (ok:∀ (base:Heap) {f:Addr} {fd:FuncData},Fun (whole h) x x (stAt p i) f fd->FnOk P w (whole h) mg base CX0 k f fd [y] (spD (whole h) 1 F)) :
  ∃ fd:FuncData,(∀ (s:Shared) (v:Value),BindsTo s fd ⟨[v],[]⟩ [(y,v)])/\∀ base:Heap,FnOk P w (whole h) mg base CX0 k fa fd [y] (spD (whole h) 1 F):=by
 obtain ⟨f,fd,m,FU⟩:=zgG T e i x hi hn
 cases hfa.symm.trans m
 exact ⟨fd,zio FU hb,fun base=>ok base FU⟩
theorem zjv {l:PySem.W.OpenLaw} {n k:Nat} {q:Program} {loose:List Str} {XP:(Str->Option Value)->Heap->Prop} {YP:World->Heap->Prop} {d:DefRec} {F:List D->Option D} {x:Str}
  (hn:l.most=some n) (hn2:n<=sizeLine) (hdf:d.params.defaults=[]) (hr:Room k callerA)
  (hF:∀ (w:World) (s₀ : Shared) (mg mb:Str->Option Value) (fa:Addr) (h:Heap),PySem.W.Ground q loose [] XP w s₀ mg mb h->mg d.name=some (.ref fa) ->
   ∃ fd:FuncData,(∀ (s:Shared) (u:Value),BindsTo s fd ⟨[u],[]⟩ [(x,u)])/\∀ base:Heap,FnOk l.prog w (whole h) mg base CX0 k fa fd [x] (spD (whole h) 1 F))
  (hl:∀ ns:List Int,ns.length<=n->F [.list (ns.map PyData.int)]=some (.bool true)) :
  PySem.W.WalkO q loose XP YP l.row.toRowW d [] (fun f vs=>PySem.call f vs):=by
 refine Att.attach_call hn hdf fun w s₀ s₁ mg mb fa o pm cd doc a vs ns G Y ho hd hcd hmg hobj hints hlen hg=>?_
 obtain ⟨fd,hb,hF⟩:=hF w s₀ mg mb fa _ G hmg
 exact zi4 (zjt _) G.T.g G.T.b G.T.builtins G.T.nolimit hg hobj hints (Nat.le_trans hlen hn2) hr (fun base _ _=>hF base) hb (fun H hO hS=>zlS hS (hl ns hlen)) fun H e s' z=>z
section
variable {K:PySem.W.Frag} {G H H':Hp} {nm:Str} {C a:Addr} {bm:List Value} {vs:List V} {ds fs:List D} {dd:Option Addr}
end
section
variable {X:Cx} {B G0:Hp} {KX:XW} {e a b c:Expr} {pos p2 cpos:Pos} {es:List Expr} {st:Stmt} {sts:List Stmt} {nm x:Str} {k kk n:Nat}
end
section
variable {K:PySem.W.Frag} {B G0 G H:Hp} {σ : St} {ρ : DEnv}
end
section
variable {X:Cx} {B G0:Hp} {KX:XW} {e a b c:Expr} {pos p2 cpos np hpos:Pos} {es:List Expr} {x n:Str} {k kk:Nat}
end
section
variable {P:Program} {w:World} {K:PySem.W.Frag} {mg:Str->Option Value} {base:Heap} {st:Stmt} {f f0 D:Addr} {fd fd0:FuncData} {q:Str} {p1 p2 p3 p4 p5 p6 p7 p8 p9 r1 r2 r3 r4 r5 r6 r7 r8 r9 q1 q2:Pos} {j1 j2:Nat}
end
section
variable {h h':Heap} {nm:Str} {own:Option Stmt} {C N:Addr} {bm:List Value} {mN:Str->Option Value}
end
section
variable {h h':Heap} {nm:Str} {own ownD:Option Stmt} {C N D ND:Addr} {bm:List Value} {mN mD:Str->Option Value} {M:Model}
end
section
variable {h:Heap} {mg:Str->Option Value} {p:Program} {l:XL0} {i j:Nat} {c:Str × Option Nat} {p1 p2 p3 p4 p5 p6 p7 p8 p9 r1 r2 r3 r4 r5 r6 r7 r8 r9 q1 q2:Pos} {j1 j2:Nat}
end
section
variable {α β : Type} {ρ ρ1 ρ2 ρ3 ρ':DEnv} {f:M D} {s t:SM} {Q:Out->Prop} {d:D} {ds fs:List D} {nm x:Str} {o:Out}
theorem zjw {c:String} {t:Bool} (h:f ρ = .ok d ρ1) (ht:isTy d c=t):mMap (fun d=>PyData.bool (isTy d c)) f ρ = .ok (PyData.bool t) ρ1:=by subst ht;exact zbV (k:=fun d=>PyData.bool (isTy d c)) h
theorem zl1 {c:String} {kvs:List (D × D)} (h:f ρ = .ok (.dict kvs) ρ1) (hc:(("dict" == c) || ("" == c))=false:=by decide):mMap (fun d=>PyData.bool (isTy d c)) f ρ = .ok (PyData.bool false) ρ1:=zjw h (nty hc)
end
section
variable {X:Cx} {B G0:Hp} {KX:XW} {e o a b c:Expr} {pos p2:Pos} {es rest:List Expr}
end
end DL
namespace L2
open PySem PySem.Spec PyProof.Rows
end L2
namespace DL
open PySem PySem.Spec L2
open PyProof.Rows hiding St
section
variable {K:PySem.W.Frag} {B G0 G H:Hp} {σ : St} {ρ : DEnv}
end
section
variable {X:Cx} {B G0:Hp} {KX:XW} {e o a b c:Expr} {pos p2:Pos} {es rest:List Expr}
end
section
variable {X:Cx} {B G0:Hp} {KX:XW} {e o a b c:Expr} {pos p2 cpos:Pos} {es rest:List Expr}
end
section
variable {X:Cx}
end
end DL
namespace DL
open PySem PySem.Spec L2 PySem.SeqAt PySem.AutoSeq1
open PyProof.Rows hiding St
section
variable {X:Cx} {pins:List (Addr × Obj)} {s:Shared} {σ : L2.St} {G H:Hp} {A:Around}
end
section
variable {X:Cx} {pins:List (Addr × Obj)} {s:Shared} {σ : L2.St} {G H:Hp} {A:Around}
end
end DL
namespace DL
open PySem PySem.Spec L2
open PyProof.Rows hiding St
section
variable {X:Cx} {pins:List (Addr × Obj)} {s:Shared} {σ : L2.St} {G H:Hp}
end
section
variable {X:Cx}
end
section
variable {X:Cx} {B G0:Hp} {KX:XW} {e:Expr} {pos cpos:Pos} {sts sts2:List Stmt}
end
end DL
namespace L2
open PySem PySem.Spec PyProof.Rows
section
variable {prog:Program} {w:World} {A:Around} {E:Value->Shared->Prop} {s:Shared} {d it:Addr} {o:Obj} {es:Array DictEntry} {ep i:Nat}
end
section
variable {X:Cx} {tg:Expr}
end
end L2
namespace DL
open PySem PySem.Spec L2
open PyProof.Rows hiding St
section
variable {K:PySem.W.Frag} {B G0 G H:Hp} {σ : St} {ρ : DEnv}
end
section
variable {X:Cx} {B G0:Hp} {KX:XW} {e a b c tg:Expr} {pos:Pos}
end
section
variable {X:Cx} {B G0:Hp} {KX:XW} {e a b c tg iter:Expr} {pos:Pos}
end
section
variable {X:Cx}
end
end DL
namespace L2
open PySem PySem.Spec PyProof.Rows
end L2
namespace DL
open PySem PySem.Spec L2
open PyProof.Rows hiding St
section
variable {X:Cx} {B G0:Hp} {KX:XW} {e1 e2 e3:Expr} {pos:Pos}
end
def spO (K:PySem.W.Frag) (n:Nat) (F:List D->Option (List D)):Sp:=fun vs H Q _=>∃ G ds r,vs.length=n/\Same G H/\Reps K G vs ds/\F ds=some r/\∀ a ws G' H',Ext G H G' H'->H a=none->G' a=none->H' a=some (.lst ws)->Reps K G' ws r->Q (.ref a) H'
def tSO (K:PySem.W.Frag) (B G0:Hp) (g:SM) (f:M (List D)):TS:=fun Dn σ H=>∃ G ρ,EOk K B G0 G H σ ρ /\ match g ρ with
 | .nx ρ1=>(match f ρ1 with
  | .ok ds _=>∀ a vs G' H',Ext G0 B G' H'->B a=none->G' a=none->H' a=some (.lst vs)->Reps K G' vs ds->Dn.rt (.ref a) H'
  | .bad=>False)
 | _=>False
section
variable {X:Cx} {B G0:Hp} {e:Expr} {pos:Pos} {es:List Expr} {st:Stmt} {sts:List Stmt}
theorem zjZ {f:M (List D)} (h:PE X e (tL X.K B G0 f)):PSs X [.Return (some e) pos] (tSO X.K B G0 sNx f):=zgT (zfT (zhn h)) fun D σ H ⟨G,ρ,k,a⟩=>by
 refine ⟨G,ρ,k,?_⟩
 dsimp only [sNx] at a
 cases z:f ρ with
 | bad=>rw [z] at a;exact a.elim
 | ok ds ρ' =>
  rw [z] at a
  exact fun ad vs G' H' k' s' n=>a ad vs G' H' k'.exit n.b n.g n.h n.r
theorem zga {g h:SM} {f:M (List D)} (h1:PS X st (tS X.K B G0 KX0 g)) (h2:PSs X sts (tSO X.K B G0 h f)):PSs X (st :: sts) (tSO X.K B G0 (sSeq g h) f):=zgT (zew h1 h2) fun D σ H ⟨G,ρ,k,a⟩=>by
 refine ⟨G,ρ,k,?_⟩
 unfold sSeq at a
 cases z:g ρ with
 | nx ρ1=>rw [z] at a;exact fun σ' G' H' k' s'=>⟨G',ρ1,k',a⟩
 | rt d=>rw [z] at a;exact a.elim
 | bk ρ1=>rw [z] at a;exact a.elim
 | ct ρ1=>rw [z] at a;exact a.elim
 | ex ρ1 d=>rw [z] at a;exact a.elim
 | bad=>rw [z] at a;exact a.elim
def runO (N:List Str) (g:SM) (f:M (List D)) (ds:List D):Option (List D):=match g (zaV N ds) with
 | .nx ρ=>(match f ρ with
  | .ok r _=>some r
  | .bad=>none)
 | _=>none
theorem okO {P:Program} {w:World} {K:PySem.W.Frag} {mg:Str->Option Value} {base:Heap} {x qual:Str} {st:Stmt} {f:Addr} {fd:FuncData} {N ps:List Str} {k n:Nat} {g:SM} {q:M (List D)} (F:Fun K x qual st f fd) (S:zcv N ps (zah st)) (hn:ps.length=n)
  (der:∀ (cdv:Value) (A:Around) (outer:List Env) (s:Shared) (H:Hp) (E:XK) (B G0:Hp),Room k (A.deeper (envOfC qual (zah st) s.heap.objs.size f cdv)) ->
   PSs (cxOf CX0 P w K mg base N qual (zah st) f cdv A outer s H E).nox (zbn st) (tSO K B G0 g q)):FnOk P w K mg base CX0 (k+1) f fd ps (spO K n (runO N g q)):=by
 refine F.ok S (fun vs H Q E h=>?_) (fun cdv A outer s H vs Q E hr h=>?_)
 ·obtain ⟨_,_,_,hl,_⟩:=h
  rw [hl,hn]
 ·obtain ⟨G,ds,d,hl,sg,r,hF,qq⟩:=h
  refine ⟨_,der cdv A outer s H E H G hr,G,zaV N ds,zeA sg r,?_⟩
  unfold runO at hF
  cases z:g (zaV N ds) with
  | nx ρ =>
   rw [z] at hF
   dsimp only at hF ⊢
   cases z2:q ρ with
   | bad=>rw [z2] at hF;cases hF
   | ok d' ρ' =>
    rw [z2] at hF
    cases hF
    exact fun a vs G' H' ex hb hg hh rr=>qq a vs G' H' ex hb hg hh rr
  | rt d'=>rw [z] at hF;cases hF
  | bk ρ=>rw [z] at hF;cases hF
  | ct ρ=>rw [z] at hF;cases hF
  | ex ρ d=>rw [z] at hF;cases hF
  | bad=>rw [z] at hF;cases hF
def DefO (P:Program) (w:World) (K:PySem.W.Frag) (mg:Str->Option Value) (base:Heap) (x:Str) (k n:Nat) (F:List D->Option (List D)):Prop :=
 ∃ (f:Addr) (fd:FuncData) (ps:List Str),mg x=some (.ref f)/\PySem.W.keepIn K (.ref f)=true/\zd0 K fd ps []/\FnOk P w K mg base CX0 k f fd ps (spO K n F)
def zgb (n:Nat) (F:List D->Option (List D)) (g:M (List D)):M (List D):=zap g fun xs=>if xs.length=n then mOpt (F xs) else fun _=>.bad
theorem zdS {k kk n:Nat} {F:List D->Option (List D)} {g:M (List D)} {x:Str} {p2:Pos} (d:DefO X.prog X.w X.K X.mg X.base x k n F) (hr:Room kk X.A) (hg:Gl X x) (ha:PA X (e :: es) (tDs X.K B G0 g)) (hk:k<=kk:=by decide) (hn:(e :: es).length=n:=by rfl)
  (hdb:(x == ("__debug__" : Str))=false:=by decide) (he:starEach (e :: es) X.env=(false,eval e X.env) :: starEach es X.env:=by rfl) (hpl:(backTo pos (starEach es X.env)).any (·.1)=false:=by rfl) :
  PE X (.Call (.Name x p2) (e :: es) [] pos) (tL X.K B G0 (zgb n F g)):=by
 obtain ⟨f,fd,ps,h1,h2,h3,h4⟩:=d
 refine peof (zfU h4 (hr.mono hk) hg h1 h2 h3 .nil zkl ha hdb he hpl) fun σ H Q ⟨G,ρ,kk0,a⟩=>?_
 refine ⟨G,ρ,kk0,?_⟩
 unfold zgb zap at a
 cases z:g ρ with
 | bad=>rw [z] at a;exact a.elim
 | ok xs ρ1 =>
  rw [z] at a
  dsimp only at a ⊢
  intro vs G1 H1 k1 s1 r1
  by_cases hl:xs.length=n
  ·rw [if_pos hl] at a
   unfold mOpt at a
   cases zf:F xs with
   | none=>rw [zf] at a;exact a.elim
   | some r =>
    rw [zf] at a
    dsimp only at a
    refine ⟨G1,xs,r,by rw [List.append_nil,r1.length];exact hl,k1.gh,by rw [List.append_nil];exact r1,zf,fun ad ws G' H' ex hh hg' hH rr=>?_⟩
    refine a ad ws G' H' (k1.ext ex) (s1.trans ex.g) ⟨?_,hg',hH,rr,fun j es q w=>?_,fun j pt d v fp q s r=>k1.freshD ex.h hh q s r⟩
    ·cases q:B ad with
     | none=>rfl
     | some u=>have:=k1.bh ad u q;rw [hh] at this;cases this
    ·obtain ⟨b,us,g1,g2,g3,g4,g5⟩:=k1.own j es q
     rw [g1] at w
     cases w
     rw [hh] at g4
     cases g4
  ·rw [if_neg hl] at a
   exact a.elim
end
theorem zj0 {q p:Program} {loose:List Str} {mean:ExcName->Option Value} {mg mb:Str->Option Value} {h:Heap} {ix:List Nat} (P:Program) (w:World) (base:Heap) {ps:List Str} {k n:Nat} {F:List D->Option (List D)} (T:PyProof.Rows.Top q loose mean mg mb h) (e:recsOf q=zdR p ix) (i:Nat) (x:Str) (hi:ix.contains i=true) (hn:zfC (stAt p i)=some x)
  (ok:∀ {f:Addr} {fd:FuncData},Fun (whole h) x x (stAt p i) f fd->FnOk P w (whole h) mg base CX0 k f fd ps (spO (whole h) n F))
  (hb:∀ (kV doc pm:Value) (an:Option Addr) (cdv ct:Value) (us:List Value),us.length=ps.length->bindArgs (PySem.W.fnOf x x (zcc (stAt p i)) (zbn (stAt p i)) (zah (stAt p i)) .none kV doc pm an cdv ct) ⟨us,[]⟩=pure (ps.zip us)):DefO P w (whole h) mg base x k n F:=by
 obtain ⟨f,fd,m,FU⟩:=zgG T e i x hi hn
 exact ⟨f,fd,ps,m,FU.kp,FU.binds hb,ok FU⟩
theorem zgc {n:Nat} {F:List D->Option (List D)} {g:M (List D)} {ρ ρ1:DEnv} {xs r:List D} (h1:g ρ = .ok xs ρ1) (h2:xs.length=n) (h3:F xs=some r):zgb n F g ρ = .ok r ρ1:=by
 unfold zgb zap
 rw [h1]
 dsimp only
 rw [if_pos h2,h3]
 rfl
theorem zmZ {N:List Str} {g:SM} {f:M (List D)} {ds r:List D} {ρ ρ1 ρ2:DEnv} (h0:zaV N ds = ρ) (h1:g ρ = .nx ρ1) (h2:f ρ1=.ok r ρ2):runO N g f ds=some r:=by
 subst h0
 unfold runO
 rw [h1]
 dsimp only
 rw [h2]
section
variable {prog:Program} {w:World} {A:Around} {E:Value->Shared->Prop} {s:Shared}
end
end DL
namespace L2
open PySem PySem.Spec PyProof.Rows
section
variable {X:Cx}
end
end L2
namespace DL
open PySem PySem.Spec L2
open PyProof.Rows hiding St
section
variable {X:Cx} {B G0:Hp} {e a b c tg:Expr} {pos:Pos} {es rest:List Expr}
end
theorem EOk.lent {K:PySem.W.Frag} {B G0 G H:Hp} {σ : St} {ρ : DEnv} (k:EOk K B G0 G H σ ρ):EOk K H H H H σ (za5 ρ) where
 bh:=.refl _
 gh:=.refl _
 g0:=.refl _
 np:=fun _ _ e n=>by rw [n] at e;cases e
 len:=by unfold za5;rw [List.length_map];exact k.len
 pub:=fun i d e=>by
  rcases zfn e with e2 | ⟨ds,rfl,e2⟩ | ⟨p,e2⟩
  ·exact k.tree (by unfold zfA;rw [e2])
  ·exact k.tree (by unfold zfA;rw [e2])
  ·exact k.tree (by unfold zfA;rw [e2])
 own:=fun i ds e=>(zbT e).elim
 sep:=fun i j a ds es e=>(zbT e).elim
 dp:=.of (fun _ _ _ q=>zeg q) fun _ _ q=>zbT q
theorem EOk.back {K:PySem.W.Frag} {B G0 G H H':Hp} {σ : St} {ρ : DEnv} (k:EOk K B G0 G H σ ρ) (e:Same H H'):EOk K B G0 G H' σ ρ:=k.ext ⟨e,.refl _,k.gh.trans e,fun _ _ _ n=>n⟩
def zeQ (f:M Bool):M Bool:=fun ρ=>match f (za5 ρ) with
 | .ok b _=>.ok b ρ
 | .bad=>.bad
section
variable {X:Cx} {B G0:Hp} {KX:XW} {e a b c tg iter:Expr} {pos:Pos}
theorem zcS {f:M Bool} (h:∀ B' G',PT X e (tBo X.K B' G' f)):PT X e (tBo X.K B G0 (zeQ f)):=by
 have h':PT X e (fun σ H Q=>∃ B' G',tBo X.K B' G' f σ H Q):=fun pins s σ H Q I ⟨B',G',q⟩=>h B' G' pins s σ H Q I q
 refine ptof h' fun σ H Q ⟨G,ρ,k,a⟩=>⟨H,H,H,za5 ρ,k.lent,?_⟩
 unfold zeQ at a
 cases z:f (za5 ρ) with
 | bad=>rw [z] at a;exact a.elim
 | ok t ρ' =>
  rw [z] at a
  dsimp only at a ⊢
  exact fun v G' H' k' s' r=>a v G H' (k.back k'.bh) (.refl _) r
end
theorem zdT {f:M Bool} {ρ ρ':DEnv} {b:Bool} (h:f (za5 ρ)=.ok b ρ'):zeQ f ρ = .ok b ρ:=by unfold zeQ;rw [h]
end DL
namespace L2
open PySem PySem.Spec PyProof.Rows
section
variable {X:Cx}
end
end L2
namespace DL
open PySem PySem.Spec L2
open PyProof.Rows hiding St
section
variable {X:Cx} {B G0:Hp} {e a b c tg:Expr} {pos:Pos} {es rest:List Expr}
end
section
variable {prog:Program} {w:World} {A:Around} {E:Value->Shared->Prop} {s:Shared}
end
section
variable {X:Cx} {B G0:Hp} {e a b c:Expr} {pos p2 p3:Pos}
end
section
variable {X:Cx} {B G0:Hp} {KX:XW} {e o a b c tg i:Expr} {pos p2:Pos} {es rest:List Expr} {te to ti:TE}
end
section
variable {prog:Program} {w:World} {A:Around} {E:Value->Shared->Prop} {s:Shared}
end
section
variable {prog:Program} {w:World} {A:Around} {E:Value->Shared->Prop}
variable {K:Type} [DecidableEq K] {knd:KeyKind prog w K}
end
section
variable {prog:Program} {w:World} {A:Around} {E:Value->Shared->Prop} {h:Heap} {g:Array GenState} {d:Drawn} {t:Nat} {os:OsState} {a:Addr} {o:Obj}
end
section
variable {prog:Program} {w:World} {A:Around} {E:Value->Shared->Prop}
variable {K:Type} [DecidableEq K] {knd:KeyKind prog w K}
end
end DL
namespace L2
open PySem PySem.Spec PyProof.Rows
section
variable {X:Cx}
end
end L2
namespace DL
open PySem PySem.Spec L2
open PyProof.Rows hiding St
section
variable {X:Cx} {B G0:Hp} {a:Expr} {p p2 p3 pos:Pos}
end
theorem ziq {α : Type} (a : α):[a].Nodup:=by simp
section
variable {K:PySem.W.Frag} {B G0 G H:Hp} {σ : St} {ρ : DEnv}
structure NewT (K:PySem.W.Frag) (B G H:Hp) (σ : St) (ρ : DEnv) (pt:Pat) (v:V) (d:D) (fp:List Addr):Prop where
 r:RepO K G H pt v d fp
 nd:fp.Nodup
 b:∀ a ∈ fp,B a=none/\G a=none
 f:∀ a ∈ fp,∀ (j:Nat) es,ρ[j]?=some (some (.own es)) -> σ[j]? ≠ some (some (.ref a))
 dp:∀ a ∈ fp,∀ (j:Nat) p d v fp',ρ[j]?=some (some (.deep p d)) -> σ[j]?=some (some v)->RepO K G H p v d fp'->a ∉ fp'
theorem EOk.setDeep {i:Nat} {pt:Pat} {v:V} {d:D} {fp:List Addr} (k:EOk K B G0 G H σ ρ) (n:NewT K B G H σ ρ pt v d fp) (hi:i < ρ.length):EOk K B G0 G H (σ.set i (some v)) (ρ.set i (some (.deep pt d))) where
 bh:=k.bh
 gh:=k.gh
 g0:=k.g0
 np:=k.np
 len:=by rw [List.length_set,List.length_set];exact k.len
 pub:=fun j d' q=>by
  by_cases z:i=j
  ·subst z;have:=zam q;cases this
  ·rw [List.getElem?_set_ne z] at q ⊢
   exact k.pub j d' q
 own:=fun j es q=>by
  by_cases z:i=j
  ·subst z;have:=zam q;cases this
  ·rw [List.getElem?_set_ne z] at q ⊢
   exact k.own j es q
 sep:=fun j l c es fs q1 q2 s1 s2=>by
  have z1:i ≠ j:=fun z=>by subst z;have:=zam q1;cases this
  have z2:i ≠ l:=fun z=>by subst z;have:=zam q2;cases this
  rw [List.getElem?_set_ne z1] at q1 s1
  rw [List.getElem?_set_ne z2] at q2 s2
  exact k.sep j l c es fs q1 q2 s1 s2
 dp:=by
  obtain ⟨ω,k1,k2⟩:=k.dp
  have hs:i < σ.length:=by rw [← k.len];exact hi
  refine ⟨fun b=>if b ∈ fp then i else ω b,fun j p d' q=>?_,fun j es b q s=>?_⟩
  ·by_cases z:i=j
   ·subst z
    have:=zam q
    cases this
    exact ⟨v,fp,List.getElem?_set_self hs,n.r,n.nd,fun a m=>⟨(n.b a m).1,(n.b a m).2,if_pos m⟩⟩
   ·rw [List.getElem?_set_ne z] at q ⊢
    obtain ⟨v',fp',s,r,nn,w⟩:=k1 j p d' q
    refine ⟨v',fp',s,r,nn,fun b m=>⟨(w b m).1,(w b m).2.1,?_⟩⟩
    dsimp only
    rw [if_neg (fun z=>n.dp b z j p d' v' fp' q s r m)]
    exact (w b m).2.2
  ·by_cases z:i=j
   ·subst z;have:=zam q;cases this
   ·rw [List.getElem?_set_ne z] at q s
    dsimp only
    rw [if_neg (fun z=>n.f b z j es q s)]
    exact k2 j es b q s
theorem EOk.newT {G' H':Hp} {pt:Pat} {v:V} {d:D} {fp:List Addr} (k1:EOk K B G0 G H σ ρ) (sh:Same H H') (r:RepO K G' H' pt v d fp) (nd:fp.Nodup) (fr:∀ a ∈ fp,H a=none/\G' a=none):NewT K B G' H' σ ρ pt v d fp where
 r:=r
 nd:=nd
 b:=fun a m=>⟨k1.bh.free (fr a m).1,(fr a m).2⟩
 f:=fun a m j es q w=>by
  obtain ⟨b,us,g1,g2,g3,g4,g5⟩:=k1.own j es q
  rw [g1] at w
  cases w
  rw [(fr a m).1] at g4
  cases g4
 dp:=fun a m j p d v fp' q s r=>k1.freshD sh (fr a m).1 q s r
theorem EOk.forget {i:Nat} (k:EOk K B G0 G H σ ρ):EOk K B G0 G H σ (ρ.set i none):=by
 have nz:∀ {m:Nat} {s:Sl},(ρ.set i none)[m]?=some (some s) -> ρ[m]?=some (some s):=fun {m s} q=>by
  by_cases z:i=m
  ·subst z;have:=zam q;cases this
  ·rw [List.getElem?_set_ne z] at q;exact q
 exact ⟨k.bh,k.gh,k.g0,k.np,by rw [List.length_set];exact k.len,fun j d q=>k.pub j d (nz q),fun j ds q=>k.own j ds (nz q),fun j l c es fs q1 q2 s1 s2=>k.sep j l c es fs (nz q1) (nz q2) s1 s2,
  k.dp.map (fun m p d q=>⟨nz q,rfl⟩) (fun m es q=>⟨es,nz q,rfl⟩) fun m p d v fp q s r w n=>⟨r,w⟩⟩
theorem RepOl.leaf:∀ {vs:List V} {ds:List D},Reps K G vs ds->RepOl K G H .leaf vs ds []
 | _,_,.nil=>.nil
 | _,_,.cons h t=>.cons (f1:=[]) (f2:=[]) (.leaf h) (RepOl.leaf t)
theorem RepOl.append {p:Pat}:∀ {vs ws:List V} {ds es:List D} {f1 f2:List Addr},RepOl K G H p vs ds f1->RepOl K G H p ws es f2->RepOl K G H p (vs ++ ws) (ds ++ es) (f1 ++ f2)
 | _,_,_,_,_,_,.nil,s=>s
 | _,_,_,_,_,_,.cons r t,s=>by rw [List.append_assoc];exact .cons r (RepOl.append t s)
theorem RepOl.length {p:Pat}:∀ {vs:List V} {ds:List D} {fp:List Addr},RepOl K G H p vs ds fp->vs.length=ds.length
 | _,_,_,.nil=>rfl
 | _,_,_,.cons _ t=>by rw [List.length_cons,List.length_cons,RepOl.length t]
def zbX (ρ : DEnv) (i:Nat):Option (Pat × D):=match ρ[i]? with
 | some (some (.own ds))=>some (.lst .leaf,.list ds)
 | some (some (.deep p d))=>some (p,d)
 | _=>none
theorem EOk.slots (k:EOk K B G0 G H σ ρ):∃ ω : Addr->Nat,∀ (i:Nat) p d,zbX ρ i=some (p,d)->∃ v fp,σ[i]?=some (some v)/\RepO K G H p v d fp/\fp.Nodup/\∀ a ∈ fp,B a=none/\G a=none /\ ω a=i:=by
 obtain ⟨ω,k1,k2⟩:=k.dp
 refine ⟨ω,fun i p d h=>?_⟩
 unfold zbX at h
 split at h
 ·rename_i ds q
  cases h
  obtain ⟨a,vs,h1,h2,h3,h4,h5⟩:=k.own i ds q
  refine ⟨.ref a,[a],h1,.lst h4 (.leaf h5),ziq a,fun b m=>?_⟩
  rw [List.mem_singleton.mp m]
  exact ⟨h2,h3,k2 i ds a q h1⟩
 ·rename_i p' d' q
  cases h
  exact k1 i p d q
 ·cases h
theorem EOk.mutD {j:Nat} {p:Pat} {d d':D} {v:V} {fp fp':List Addr} {a:Addr} {o:HO} (k:EOk K B G0 G H σ ρ) (hd : ρ[j]?=some (some (.deep p d))) (hv : σ[j]?=some (some v)) (r:RepO K G H p v d fp) (ha:a ∈ fp)
  (r':RepO K G (upd H a o) p v d' fp') (nd':fp'.Nodup) (sub:∀ b ∈ fp',b ∈ fp):EOk K B G0 G (upd H a o) σ (ρ.set j (some (.deep p d'))):=by
 obtain ⟨ω,k1,k2⟩:=k.dp
 obtain ⟨v0,fp0,s0,r0,n0,w0⟩:=k1 j p d hd
 rw [hv] at s0
 cases s0
 have e0:=r0.uniq (.refl _) r
 subst e0
 obtain ⟨hb,hg,hw⟩:=w0 a ha
 obtain ⟨ws,hl⟩:=r.isl a ha
 have nt:∀ vs,H a ≠ some (.tup vs):=fun vs z=>by rw [hl] at z;cases z
 have hjl:j < ρ.length:=(List.getElem?_eq_some_iff.mp hd).1
 have nz:∀ {m:Nat} {s:Sl},j ≠ m->(ρ.set j (some (.deep p d')))[m]?=some (some s) -> ρ[m]?=some (some s):=fun {m s} z q=>by
  rw [List.getElem?_set_ne z] at q;exact q
 refine ⟨fun b u e=>?_,fun b u e=>?_,k.g0,k.np,by rw [List.length_set];exact k.len,fun m dm e=>?_,fun m es e=>?_,fun m l c es fs q1 q2 s1 s2=>?_,ω,fun m pm dm e=>?_,fun m es b e s=>?_⟩
 ·rw [zar (zax e hb)];exact k.bh b u e
 ·rw [zar (zax e hg)];exact k.gh b u e
 ·by_cases z:j=m
  ·subst z;have:=zam e;cases this
  ·exact k.pub m dm (nz z e)
 ·by_cases z:j=m
  ·subst z;have:=zam e;cases this
  ·have e:=nz z e
   obtain ⟨c,us,g1,g2,g3,g4,g5⟩:=k.own m es e
   have zc:c ≠ a:=fun w=>by subst w;exact z (hw.symm.trans (k2 m es c e g1))
   exact ⟨c,us,g1,g2,g3,by rw [zar zc];exact g4,g5⟩
 ·have z1:j ≠ m:=fun z=>by subst z;have:=zam q1;cases this
  have z2:j ≠ l:=fun z=>by subst z;have:=zam q2;cases this
  exact k.sep m l c es fs (nz z1 q1) (nz z2 q2) s1 s2
 ·by_cases z:j=m
  ·subst z
   have:=zam e
   cases this
   exact ⟨v,fp',hv,r',nd',fun b mb=>w0 b (sub b mb)⟩
  ·obtain ⟨vm,fm,sm,rm,nm,wm⟩:=k1 m pm dm (nz z e)
   exact ⟨vm,fm,sm,rm.upd nt (fun mm=>z (hw.symm.trans (wm a mm).2.2)),nm,wm⟩
 ·have z:j ≠ m:=fun z=>by subst z;have:=zam e;cases this
  exact k2 m es b (nz z e) s
theorem EOk.mutM {j i:Nat} {p:Pat} {d d':D} {v:V} {fp fp':List Addr} {ds:List D} {a b0:Addr} {o:HO} (k:EOk K B G0 G H σ ρ) (hd : ρ[j]?=some (some (.deep p d))) (hv : σ[j]?=some (some v)) (r:RepO K G H p v d fp) (ha:a ∈ fp)
  (hi : ρ[i]?=some (some (.own ds))) (hb0 : σ[i]?=some (some (.ref b0))) (r':RepO K G (upd H a o) p v d' fp') (nd':fp'.Nodup) (sub:∀ b ∈ fp',b ∈ fp ∨ b=b0):EOk K B G0 G (upd H a o) σ ((ρ.set j (some (.deep p d'))).set i none):=by
 obtain ⟨ω,k1,k2⟩:=k.dp
 have hij:i ≠ j:=fun z=>by subst z;rw [hd] at hi;cases hi
 obtain ⟨v0,fp0,s0,r0,n0,w0⟩:=k1 j p d hd
 rw [hv] at s0
 cases s0
 have e0:=r0.uniq (.refl _) r
 subst e0
 obtain ⟨hb,hg,hw⟩:=w0 a ha
 obtain ⟨ws,hl⟩:=r.isl a ha
 obtain ⟨b1,us1,i1,i2,i3,i4,i5⟩:=k.own i ds hi
 rw [hb0] at i1
 cases i1
 have hwb:=k2 i ds b0 hi hb0
 have nt:∀ vs,H a ≠ some (.tup vs):=fun vs z=>by rw [hl] at z;cases z
 have nz:∀ {m:Nat} {s:Sl},j ≠ m->((ρ.set j (some (.deep p d'))).set i none)[m]?=some (some s) -> ρ[m]?=some (some s)/\i ≠ m:=fun {m s} z q=>by
  by_cases zi:i=m
  ·subst zi;have:=zam q;cases this
  ·rw [List.getElem?_set_ne zi,List.getElem?_set_ne z] at q;exact ⟨q,zi⟩
 have atj:∀ {s:Sl},((ρ.set j (some (.deep p d'))).set i none)[j]?=some (some s)->s=.deep p d':=fun {s} q=>by
  rw [List.getElem?_set_ne hij] at q
  have:=zam q
  cases this
  rfl
 refine ⟨fun b u e=>?_,fun b u e=>?_,k.g0,k.np,by rw [List.length_set,List.length_set];exact k.len,fun m dm e=>?_,fun m es e=>?_,fun m l c es fs q1 q2 s1 s2=>?_,fun b=>if b=b0 then j else ω b,fun m pm dm e=>?_,fun m es b e s=>?_⟩
 ·rw [zar (zax e hb)];exact k.bh b u e
 ·rw [zar (zax e hg)];exact k.gh b u e
 ·by_cases z:j=m
  ·subst z;cases atj e
  ·exact k.pub m dm (nz z e).1
 ·by_cases z:j=m
  ·subst z;cases atj e
  ·have e:=(nz z e).1
   obtain ⟨c,us,g1,g2,g3,g4,g5⟩:=k.own m es e
   have zc:c ≠ a:=fun w=>by subst w;exact z (hw.symm.trans (k2 m es c e g1))
   exact ⟨c,us,g1,g2,g3,by rw [zar zc];exact g4,g5⟩
 ·have z1:j ≠ m:=fun z=>by subst z;cases atj q1
  have z2:j ≠ l:=fun z=>by subst z;cases atj q2
  exact k.sep m l c es fs (nz z1 q1).1 (nz z2 q2).1 s1 s2
 ·by_cases z:j=m
  ·subst z
   cases atj e
   refine ⟨v,fp',hv,r',nd',fun b mb=>?_⟩
   dsimp only
   rcases sub b mb with mb | rfl
   ·refine ⟨(w0 b mb).1,(w0 b mb).2.1,?_⟩
    split
    ·rfl
    ·exact (w0 b mb).2.2
   ·exact ⟨i2,i3,if_pos rfl⟩
  ·obtain ⟨e,zi⟩:=nz z e
   obtain ⟨vm,fm,sm,rm,nm,wm⟩:=k1 m pm dm e
   refine ⟨vm,fm,sm,rm.upd nt (fun mm=>z (hw.symm.trans (wm a mm).2.2)),nm,fun b mb=>⟨(wm b mb).1,(wm b mb).2.1,?_⟩⟩
   dsimp only
   rw [if_neg (fun y=>by subst y;exact zi (hwb.symm.trans (wm b mb).2.2))]
   exact (wm b mb).2.2
 ·have z:j ≠ m:=fun z=>by subst z;cases atj e
  obtain ⟨e,zi⟩:=nz z e
  dsimp only
  have:=k2 m es b e s
  rw [if_neg (fun y=>by subst y;exact zi (hwb.symm.trans this))]
  exact this
end
def tT (K:PySem.W.Frag) (B G0:Hp) (pt:Pat) (f:M D):TE:=fun σ H Q=>∃ G ρ,EOk K B G0 G H σ ρ /\ match f ρ with
 | .ok d ρ'=>∀ v fp G' H',EOk K B G0 G' H' σ ρ'->Same G G'->NewT K B G' H' σ ρ' pt v d fp->Q v H'
 | .bad=>False
def zg9 (i:Nat) (pt:Pat) (f:M D):SM:=sB f fun d ρ=>if i < ρ.length then .nx (ρ.set i (some (.deep pt d))) else .bad
def spT (K:PySem.W.Frag) (n:Nat) (pt:Pat) (F:List D->Option D):Sp:=fun vs H Q _=>∃ G ds d,vs.length=n/\Same G H/\Reps K G vs ds/\F ds=some d/\∀ v fp G' H',Ext G H G' H'->RepO K G' H' pt v d fp->fp.Nodup->(∀ a ∈ fp,H a=none/\G' a=none)->Q v H'
def tST (K:PySem.W.Frag) (B G0:Hp) (pt:Pat) (g:SM) (f:M D):TS:=fun Dn σ H=>∃ G ρ,EOk K B G0 G H σ ρ /\ match g ρ with
 | .nx ρ1=>(match f ρ1 with
  | .ok d _=>∀ v fp G' H',Ext G0 B G' H'->RepO K G' H' pt v d fp->fp.Nodup->(∀ a ∈ fp,B a=none/\G' a=none)->Dn.rt v H'
  | .bad=>False)
 | _=>False
def zir (N:List Str) (g:SM) (f:M D) (ds:List D):Option D:=match g (zaV N ds) with
 | .nx ρ=>(match f ρ with
  | .ok r _=>some r
  | .bad=>none)
 | _=>none
def DefT (P:Program) (w:World) (K:PySem.W.Frag) (mg:Str->Option Value) (base:Heap) (x:Str) (k n:Nat) (pt:Pat) (F:List D->Option D):Prop :=
 ∃ (f:Addr) (fd:FuncData) (ps:List Str),mg x=some (.ref f)/\PySem.W.keepIn K (.ref f)=true/\zd0 K fd ps []/\FnOk P w K mg base CX0 k f fd ps (spT K n pt F)
section
variable {X:Cx} {B G0:Hp} {KX:XW} {e o a b c:Expr} {pos:Pos} {es:List Expr} {st:Stmt} {sts:List Stmt} {pt:Pat}
theorem zis {i:Nat} {x:Str} {f:M D} {p2:Pos} (hN:X.N.Nodup) (hi:X.N[i]?=some x) (hx:Loc X.env.scope x) (he:PE X e (tT X.K B G0 pt f)) (hs:swapsWith e (some (.Name x p2)) pos.line X.env=pure false:=by rfl)
  (hf:X.fn x=true ∨ X.env.scope.names.lookup x=some .local:=by first | exact .inl rfl | exact .inr rfl | assumption):PS X (.Assign [.Name x p2] e pos) (tS X.K B G0 KX (zg9 i pt f)) :=
 psof (zho hN hi hx he hs hf) fun D σ H ⟨G,ρ,k,a⟩=>by
  refine ⟨G,ρ,k,?_⟩
  unfold zg9 sB at a
  cases z:f ρ with
  | bad=>rw [z] at a;exact a.elim
  | ok ds ρ1 =>
   rw [z] at a
   intro v fp G' H' k' s' n
   dsimp only at a
   split at a
   ·rename_i hl
    exact a _ G' H' (k'.setDeep n hl) s'
   ·exact a.elim
theorem NewL.tree {K:PySem.W.Frag} {G H:Hp} {σ : St} {ρ : DEnv} {ad:Addr} {vs:List V} {ds:List D} (n:NewL K B G H σ ρ ad vs ds) {p:Pat} (r:RepOl K G H p vs ds []):NewT K B G H σ ρ (.lst p) (.ref ad) (.list ds) [ad] where
 r:=.lst n.h r
 nd:=ziq ad
 b:=fun b m=>by rw [List.mem_singleton.mp m];exact ⟨n.b,n.g⟩
 f:=fun b m=>by rw [List.mem_singleton.mp m];exact n.f
 dp:=fun b m=>by rw [List.mem_singleton.mp m];exact n.dp
theorem zkS {p:Pat}:PE X (.List [] pos) (tT X.K B G0 (.lst p) (zae (.list []))):=peof (zdx (B:=B) (G0:=G0) zaf) fun σ H Q ⟨G,ρ,k,a⟩=>by
 refine ⟨G,ρ,k,?_⟩
 intro ad vs G' H' k' s' n
 have hv:vs=[]:=by have:=n.r;cases this;rfl
 subst hv
 exact a _ _ G' H' k' s' (n.tree .nil)
theorem zl2 {f:M D} (h:PE X e (tT X.K B G0 pt f)):PSs X [.Return (some e) pos] (tST X.K B G0 pt sNx f):=zgT (zfT (zhn h)) fun D σ H ⟨G,ρ,k,a⟩=>by
 refine ⟨G,ρ,k,?_⟩
 dsimp only [sNx] at a
 cases z:f ρ with
 | bad=>rw [z] at a;exact a.elim
 | ok ds ρ' =>
  rw [z] at a
  exact fun v fp G' H' k' s' n=>a v fp G' H' k'.exit n.r n.nd n.b
theorem zdU {g h:SM} {f:M D} (h1:PS X st (tS X.K B G0 KX0 g)) (h2:PSs X sts (tST X.K B G0 pt h f)):PSs X (st :: sts) (tST X.K B G0 pt (sSeq g h) f):=zgT (zew h1 h2) fun D σ H ⟨G,ρ,k,a⟩=>by
 refine ⟨G,ρ,k,?_⟩
 unfold sSeq at a
 cases z:g ρ with
 | nx ρ1=>rw [z] at a;exact fun σ' G' H' k' s'=>⟨G',ρ1,k',a⟩
 | rt d=>rw [z] at a;exact a.elim
 | bk ρ1=>rw [z] at a;exact a.elim
 | ct ρ1=>rw [z] at a;exact a.elim
 | ex ρ1 d=>rw [z] at a;exact a.elim
 | bad=>rw [z] at a;exact a.elim
theorem okT {P:Program} {w:World} {K:PySem.W.Frag} {mg:Str->Option Value} {base:Heap} {x qual:Str} {st:Stmt} {f:Addr} {fd:FuncData} {N ps:List Str} {k n:Nat} {g:SM} {q:M D} (F:Fun K x qual st f fd) (S:zcv N ps (zah st)) (hn:ps.length=n)
  (der:∀ (cdv:Value) (A:Around) (outer:List Env) (s:Shared) (H:Hp) (E:XK) (B G0:Hp),Room k (A.deeper (envOfC qual (zah st) s.heap.objs.size f cdv)) ->
   PSs (cxOf CX0 P w K mg base N qual (zah st) f cdv A outer s H E).nox (zbn st) (tST K B G0 pt g q)):FnOk P w K mg base CX0 (k+1) f fd ps (spT K n pt (zir N g q)):=by
 refine F.ok S (fun vs H Q E h=>?_) (fun cdv A outer s H vs Q E hr h=>?_)
 ·obtain ⟨_,_,_,hl,_⟩:=h
  rw [hl,hn]
 ·obtain ⟨G,ds,d,hl,sg,r,hF,qq⟩:=h
  refine ⟨_,der cdv A outer s H E H G hr,G,zaV N ds,zeA sg r,?_⟩
  unfold zir at hF
  cases z:g (zaV N ds) with
  | nx ρ =>
   rw [z] at hF
   dsimp only at hF ⊢
   cases z2:q ρ with
   | bad=>rw [z2] at hF;cases hF
   | ok d' ρ' =>
    rw [z2] at hF
    cases hF
    exact fun v fp G' H' ex rr nd fr=>qq v fp G' H' ex rr nd fr
  | rt d'=>rw [z] at hF;cases hF
  | bk ρ=>rw [z] at hF;cases hF
  | ct ρ=>rw [z] at hF;cases hF
  | ex ρ d=>rw [z] at hF;cases hF
  | bad=>rw [z] at hF;cases hF
theorem zjx {k kk n:Nat} {F:List D->Option D} {g:M (List D)} {x:Str} {p2:Pos} (d:DefT X.prog X.w X.K X.mg X.base x k n pt F) (hr:Room kk X.A) (hg:Gl X x) (ha:PA X (e :: es) (tDs X.K B G0 g)) (hk:k<=kk:=by decide) (hn:(e :: es).length=n:=by rfl)
  (hdb:(x == ("__debug__" : Str))=false:=by decide) (he:starEach (e :: es) X.env=(false,eval e X.env) :: starEach es X.env:=by rfl) (hpl:(backTo pos (starEach es X.env)).any (·.1)=false:=by rfl) :
  PE X (.Call (.Name x p2) (e :: es) [] pos) (tT X.K B G0 pt (dFun n F g)):=by
 obtain ⟨f,fd,ps,h1,h2,h3,h4⟩:=d
 refine peof (zfU h4 (hr.mono hk) hg h1 h2 h3 .nil zkl ha hdb he hpl) fun σ H Q ⟨G,ρ,kk0,a⟩=>?_
 refine ⟨G,ρ,kk0,?_⟩
 unfold dFun zap at a
 cases z:g ρ with
 | bad=>rw [z] at a;exact a.elim
 | ok xs ρ1 =>
  rw [z] at a
  dsimp only at a ⊢
  intro vs G1 H1 k1 s1 r1
  by_cases hl:xs.length=n
  ·rw [if_pos hl] at a
   unfold mOpt at a
   cases zf:F xs with
   | none=>rw [zf] at a;exact a.elim
   | some r =>
    rw [zf] at a
    dsimp only at a
    refine ⟨G1,xs,r,by rw [List.append_nil,r1.length];exact hl,k1.gh,by rw [List.append_nil];exact r1,zf,fun v fp G' H' ex rr nd fr=>?_⟩
    exact a v fp G' H' (k1.ext ex) (s1.trans ex.g) (k1.newT ex.h rr nd fr)
  ·rw [if_neg hl] at a
   exact a.elim
def zit (j i:Nat):SM:=fun ρ=>match ρ[j]?,ρ[i]? with
 | some (some (.deep (.lst (.lst .leaf)) (.list dss))),some (some (.own ds))=>if dss.length < 1000000 then .nx ((ρ.set j (some (.deep (.lst (.lst .leaf)) (.list (dss ++ [.list ds]))))).set i none) else .bad
 | _,_=>.bad
theorem zkT {j i:Nat} {apos cpos:Pos} (ho:PE X o (tVar j)) (he:PE X e (tVar i))
  (hbase:attributeBase o "append" X.env (eval o X.env)=eval o X.env:=by rfl)
  (hfew:((backTo cpos (starEach [e] X.env)).all (fun x=>!x.1) && (backToKw cpos (keywordEach [] X.env)).all (fun x=>x.1.isSome)
   && decide ([e].length+([]:List Keyword).length+(if ([]:List Keyword).isEmpty then 0 else 1) < 30))=true:=by rfl)
  (hline:(apos.endLine == cpos.line)=true:=by rfl) (hs:starEach [e] X.env=[(false,eval e X.env)]:=by rfl)
  (hsw:swapsWith (.Call (.Attribute o "append" apos) [e] [] cpos) none pos.line X.env=pure false:=by rfl) :
  PS X (.Expr (.Call (.Attribute o "append" apos) [e] [] cpos) pos) (tS X.K B G0 KX (zit j i)) :=
 psof (zdo (zlE PySem.F.plainAttrs_list PySem.F.slot_list_append PySem.F.type_list_append zdr ho (zb2 he zdp (by rw [hs];rfl)) hbase hfew hline (by rw [hs];rfl) rfl) hsw) fun D σ H ⟨G,ρ,k,q⟩=>by
  unfold zit at q
  split at q
  case h_2=>exact q.elim
  case h_1 dss ds hj hi =>
  split at q
  case isFalse=>exact q.elim
  case isTrue hlim =>
  obtain ⟨ω,ks⟩:=k.slots
  obtain ⟨v,fp,hv,r,nd,w⟩:=ks j _ _ (by unfold zbX;rw [hj])
  obtain ⟨v2,fp2,hv2,r2,nd2,w2⟩:=ks i _ _ (by unfold zbX;rw [hi])
  cases r with
  | lst h rl =>
  rename_i ad vs fp
  cases r2 with
  | lst h2 rl2 =>
  rename_i bd us fp2
  have hij:i ≠ j:=fun z=>by subst z;rw [hj] at hi;cases hi
  have hne:bd ≠ ad:=fun z=>by
   subst z
   exact hij ((w2 bd List.mem_cons_self).2.2.symm.trans (w bd List.mem_cons_self).2.2)
  have hnb:bd ∉ ad :: fp:=fun m=>hij ((w2 bd List.mem_cons_self).2.2.symm.trans (w bd m).2.2)
  have hf2:fp2=[]:=by
   obtain ⟨a',us',i1,i2,i3,i4,i5⟩:=k.own i ds hi
   rw [hv2] at i1
   cases i1
   have u:RepO X.K G H (.lst .leaf) (.ref bd) (.list ds) [bd]:=.lst i4 (.leaf i5)
   have:=(RepO.lst h2 rl2).uniq (.refl _) u
   injection this
  subst hf2
  refine ⟨.ref ad,hv,.inl ⟨rfl,_,SqL.of h⟩,.ref bd,hv2,ad,vs,.ref bd,rfl,rfl,h,by rw [rl.length];exact Nat.lt_of_lt_of_le hlim lim,?_⟩
  have nt:∀ ws,H ad ≠ some (.tup ws):=fun ws z=>by rw [h] at z;cases z
  obtain ⟨na,nf⟩:=List.nodup_cons.mp nd
  refine q σ G _ (k.mutM hj hv (.lst h rl) List.mem_cons_self hi hv2 (d':=.list (dss ++ [.list ds])) (fp':=ad :: (fp ++ ([bd] ++ []))) (.lst zas ((rl.upd nt na).append (.cons ((RepO.lst h2 rl2).upd nt (fun m=>hne (List.mem_singleton.mp m).symm)) .nil))) ?_ ?_) (.refl _)
  ·rw [List.append_nil]
   refine List.nodup_cons.mpr ⟨fun m=>?_,List.nodup_append.mpr ⟨nf,ziq bd,fun x hx y hy e=>?_⟩⟩
   ·rcases List.mem_append.mp m with m | m
    ·exact na m
    ·exact hne (List.mem_singleton.mp m).symm
   ·rw [List.mem_singleton.mp hy] at e
    subst e
    exact hnb (List.mem_cons_of_mem _ hx)
  ·intro b mb
   rw [List.append_nil] at mb
   rcases List.mem_cons.mp mb with rfl | mb
   ·exact .inl List.mem_cons_self
   ·rcases List.mem_append.mp mb with mb | mb
    ·exact .inl (List.mem_cons_of_mem _ mb)
    ·exact .inr (List.mem_singleton.mp mb)
end
section
variable {K:PySem.W.Frag} {B G0 G H:Hp} {σ : St} {ρ : DEnv}
inductive MOp where
 | rev | clr | app (d:D) | set (k:Nat) (d:D)
def MOp.dOf:MOp->Pat->List D->Option (List D)
 | .rev,_,ds=>some ds.reverse
 | .clr,_,_=>some []
 | .app d,.leaf,ds=>if ds.length < 1000000 then some (ds ++ [d]) else none
 | .set k d,.leaf,ds=>if k < ds.length then some (ds.set k d) else none
 | _,_,_=>none
def MOp.vOf:MOp->V->List V->List V
 | .rev,_,vs=>vs.reverse
 | .clr,_,_=>[]
 | .app _,u,vs=>vs ++ [u]
 | .set k _,u,vs=>vs.set k u
def MOp.arg (K:PySem.W.Frag) (G:Hp):MOp->V->Prop
 | .app d,u=>Rep K G u d
 | .set _ d,u=>Rep K G u d
 | _,_=>True
theorem MOp.app_inv {d:D} {p:Pat} {ds ds':List D} (e:(MOp.app d).dOf p ds=some ds'):p=.leaf/\ds.length < 1000000/\ds'=ds ++ [d]:=by
 cases p with
 | leaf =>
  have e:(if ds.length < 1000000 then some (ds ++ [d]) else none)=some ds':=e
  split at e
  ·rename_i h;exact ⟨rfl,h,(Option.some.inj e).symm⟩
  ·cases e
 | lst _=>cases e
 | tup _=>cases e
theorem MOp.set_inv {d:D} {k:Nat} {p:Pat} {ds ds':List D} (e:(MOp.set k d).dOf p ds=some ds'):p=.leaf/\k < ds.length/\ds'=ds.set k d:=by
 cases p with
 | leaf =>
  have e:(if k < ds.length then some (ds.set k d) else none)=some ds':=e
  split at e
  ·rename_i h;exact ⟨rfl,h,(Option.some.inj e).symm⟩
  ·cases e
 | lst _=>cases e
 | tup _=>cases e
theorem RepOl.leaf_inv:∀ {vs:List V} {ds:List D} {fp:List Addr},RepOl K G H .leaf vs ds fp->Reps K G vs ds/\fp=[]
 | _,_,_,.nil=>⟨.nil,rfl⟩
 | _,_,_,.cons (.leaf r) t=>by
  obtain ⟨r2,e⟩:=RepOl.leaf_inv t
  subst e
  exact ⟨.cons r r2,rfl⟩
theorem RepOl.reverse {p:Pat}:∀ {vs:List V} {ds:List D} {fp:List Addr},RepOl K G H p vs ds fp->∃ fp',RepOl K G H p vs.reverse ds.reverse fp'/\fp'.Perm fp
 | _,_,_,.nil=>⟨[],.nil,.refl _⟩
 | _,_,_,.cons (f1:=f1) (f2:=f2) r t=>by
  obtain ⟨f,r2,e⟩:=RepOl.reverse t
  refine ⟨f ++ (f1 ++ []),by rw [List.reverse_cons,List.reverse_cons];exact r2.append (.cons r .nil),?_⟩
  rw [List.append_nil]
  exact (e.append_right f1).trans List.perm_append_comm
theorem MOp.ok {op:MOp} {p:Pat} {vs:List V} {ds ds':List D} {fp:List Addr} {u:V} (r:RepOl K G H p vs ds fp) (e:op.dOf p ds=some ds') (ha:op.arg K G u):∃ fp',RepOl K G H p (op.vOf u vs) ds' fp'/\(∀ b ∈ fp',b ∈ fp)/\(fp.Nodup->fp'.Nodup):=by
 cases op with
 | rev =>
  cases e
  obtain ⟨fp',r2,pm⟩:=r.reverse
  exact ⟨fp',r2,fun b m=>pm.mem_iff.mp m,fun n=>pm.nodup_iff.mpr n⟩
 | clr=>cases e;exact ⟨[],.nil,(fun b m=>by simp at m),fun _=>List.nodup_nil⟩
 | app d =>
  obtain ⟨rfl,_,rfl⟩:=MOp.app_inv e
  obtain ⟨r2,rfl⟩:=r.leaf_inv
  exact ⟨[],.leaf (r2.append (.cons ha .nil)),fun b m=>m,fun n=>n⟩
 | set k d =>
  obtain ⟨rfl,_,rfl⟩:=MOp.set_inv e
  obtain ⟨r2,rfl⟩:=r.leaf_inv
  exact ⟨[],.leaf (r2.set ha k),fun b m=>m,fun n=>n⟩
def zcT (op:MOp):List Nat->Pat->D->Option D
 | [],.lst p,.list ds=>(op.dOf p ds).map .list
 | k :: r,.lst p,.list ds=>(ds[k]?).bind fun d=>(zcT op r p d).map fun d'=>.list (ds.set k d')
 | k :: r,.tup ps,.tuple ds=>(ps[k]?).bind fun p=>(ds[k]?).bind fun d=>(zcT op r p d).map fun d'=>.tuple (ds.set k d')
 | _,_,_=>none
def zfD (H:Hp):List Nat->V->Option V
 | [],v=>some v
 | k :: r,.ref a=>match H a with
  | some (.lst vs)=>(vs[k]?).bind (zfD H r)
  | some (.tup vs)=>(vs[k]?).bind (zfD H r)
  | _=>none
 | _ :: _,_=>none
theorem RepOl.at {p:Pat}:∀ {vs:List V} {ds:List D} {fp:List Addr} {k:Nat} {d:D},RepOl K G H p vs ds fp->ds[k]?=some d->fp.Nodup->∃ v f,vs[k]?=some v/\RepO K G H p v d f/\f.Nodup/\(∀ b ∈ f,b ∈ fp) /\
  ∀ a ∈ f,(∀ ws,H a ≠ some (.tup ws))->∀ o d' f',RepO K G (L2.upd H a o) p v d' f'->f'.Nodup->(∀ b ∈ f',b ∈ f)->∃ fp',RepOl K G (L2.upd H a o) p vs (ds.set k d') fp'/\fp'.Nodup/\∀ b ∈ fp',b ∈ fp
 | _,_,_,_,_,.nil,e,_=>by cases e
 | _,_,_,0,_,.cons (f1:=f1) (f2:=f2) r t,e,n=>by
  cases e
  obtain ⟨n1,n2,nn⟩:=List.nodup_append.mp n
  refine ⟨_,f1,rfl,r,n1,fun b m=>List.mem_append_left _ m,fun a m nt o d' f' r' nd' sub=>⟨f' ++ f2,.cons r' (t.upd nt (fun m2=>nn a m a m2 rfl)),List.nodup_append.mpr ⟨nd',n2,fun x hx y hy=>nn x (sub x hx) y hy⟩,fun b m=>?_⟩⟩
  rcases List.mem_append.mp m with m | m
  ·exact List.mem_append_left _ (sub b m)
  ·exact List.mem_append_right _ m
 | _,_,_,k+1,d,.cons (f1:=f1) (f2:=f2) r t,e,n=>by
  obtain ⟨n1,n2,nn⟩:=List.nodup_append.mp n
  obtain ⟨v,f,h1,h2,h3,h4,h5⟩:=RepOl.at (k:=k) (d:=d) t (by simpa using e) n2
  refine ⟨v,f,by simpa using h1,h2,h3,fun b m=>List.mem_append_right _ (h4 b m),fun a m nt o d' f' r' nd' sub=>?_⟩
  obtain ⟨fp',g1,g2,g3⟩:=h5 a m nt o d' f' r' nd' sub
  refine ⟨f1 ++ fp',.cons (r.upd nt (fun m2=>nn a m2 a (h4 a m) rfl)) g1,List.nodup_append.mpr ⟨n1,g2,fun x hx y hy=>nn x hx y (g3 y hy)⟩,fun b m=>?_⟩
  rcases List.mem_append.mp m with m | m
  ·exact List.mem_append_left _ m
  ·exact List.mem_append_right _ (g3 b m)
theorem RepOs.at:∀ {ps:List Pat} {vs:List V} {ds:List D} {fp:List Addr} {k:Nat} {p:Pat} {d:D},RepOs K G H ps vs ds fp->ps[k]?=some p->ds[k]?=some d->fp.Nodup->∃ v f,vs[k]?=some v/\RepO K G H p v d f/\f.Nodup/\(∀ b ∈ f,b ∈ fp) /\
  ∀ a ∈ f,(∀ ws,H a ≠ some (.tup ws))->∀ o d' f',RepO K G (L2.upd H a o) p v d' f'->f'.Nodup->(∀ b ∈ f',b ∈ f)->∃ fp',RepOs K G (L2.upd H a o) ps vs (ds.set k d') fp'/\fp'.Nodup/\∀ b ∈ fp',b ∈ fp
 | _,_,_,_,_,_,_,.nil,_,e,_=>by cases e
 | _,_,_,_,0,_,_,.cons (f1:=f1) (f2:=f2) r t,e0,e,n=>by
  cases e
  cases e0
  obtain ⟨n1,n2,nn⟩:=List.nodup_append.mp n
  refine ⟨_,f1,rfl,r,n1,fun b m=>List.mem_append_left _ m,fun a m nt o d' f' r' nd' sub=>⟨f' ++ f2,.cons r' (t.upd nt (fun m2=>nn a m a m2 rfl)),List.nodup_append.mpr ⟨nd',n2,fun x hx y hy=>nn x (sub x hx) y hy⟩,fun b m=>?_⟩⟩
  rcases List.mem_append.mp m with m | m
  ·exact List.mem_append_left _ (sub b m)
  ·exact List.mem_append_right _ m
 | _,_,_,_,k+1,p,d,.cons (f1:=f1) (f2:=f2) r t,e0,e,n=>by
  obtain ⟨n1,n2,nn⟩:=List.nodup_append.mp n
  obtain ⟨v,f,h1,h2,h3,h4,h5⟩:=RepOs.at (k:=k) (p:=p) (d:=d) t (by simpa using e0) (by simpa using e) n2
  refine ⟨v,f,by simpa using h1,h2,h3,fun b m=>List.mem_append_right _ (h4 b m),fun a m nt o d' f' r' nd' sub=>?_⟩
  obtain ⟨fp',g1,g2,g3⟩:=h5 a m nt o d' f' r' nd' sub
  refine ⟨f1 ++ fp',.cons (r.upd nt (fun m2=>nn a m2 a (h4 a m) rfl)) g1,List.nodup_append.mpr ⟨n1,g2,fun x hx y hy=>nn x hx y (g3 y hy)⟩,fun b m=>?_⟩
  rcases List.mem_append.mp m with m | m
  ·exact List.mem_append_left _ m
  ·exact List.mem_append_right _ (g3 b m)
theorem RepO.mut {op:MOp} {u:V} (ha:op.arg K G u):∀ (path:List Nat) {p:Pat} {v:V} {d d':D} {fp:List Addr},RepO K G H p v d fp->fp.Nodup->zcT op path p d=some d'->∃ a vs,zfD H path v=some (.ref a)/\a ∈ fp/\H a=some (.lst vs) /\
  (∃ q ds ds',vs.length=ds.length/\op.dOf q ds=some ds')/\∃ fp',RepO K G (L2.upd H a (.lst (op.vOf u vs))) p v d' fp'/\fp'.Nodup/\∀ b ∈ fp',b ∈ fp
 | [],p,v,d,d',fp,r,n,e=>by
  cases r with
  | leaf r=>cases e
  | tup h r=>cases e
  | lst h r =>
   rename_i p a vs ds fp
   unfold zcT at e
   cases z:op.dOf p ds with
   | none=>rw [z] at e;cases e
   | some ds' =>
   rw [z] at e
   cases e
   obtain ⟨na,nf⟩:=List.nodup_cons.mp n
   obtain ⟨fp',r',sub,nn⟩:=MOp.ok r z ha
   refine ⟨a,vs,rfl,List.mem_cons_self,h,⟨p,ds,ds',r.length,z⟩,a :: fp',.lst zas (r'.upd (fun ws y=>by rw [h] at y;cases y) (fun m=>na (sub a m))),List.nodup_cons.mpr ⟨fun m=>na (sub a m),nn nf⟩,fun b m=>?_⟩
   rcases List.mem_cons.mp m with rfl | m
   ·exact List.mem_cons_self
   ·exact List.mem_cons_of_mem _ (sub b m)
 | k :: path,p,v,d,d',fp,r,n,e=>by
  cases r with
  | leaf r=>cases e
  | lst h r =>
   rename_i p a0 vs ds fp
   unfold zcT at e
   cases z:ds[k]? with
   | none=>rw [z] at e;cases e
   | some d0 =>
   rw [z] at e
   dsimp only [Option.bind_some] at e
   cases z2:zcT op path p d0 with
   | none=>rw [z2] at e;cases e
   | some d1 =>
   rw [z2] at e
   cases e
   obtain ⟨na,nf⟩:=List.nodup_cons.mp n
   obtain ⟨v0,f,h1,h2,h3,h4,h5⟩:=r.at z nf
   obtain ⟨a,ws,g1,g2,g3,g4,f',g5,g6,g7⟩:=RepO.mut ha path h2 h3 z2
   have nt:∀ us,H a ≠ some (.tup us):=fun us y=>by rw [g3] at y;cases y
   obtain ⟨fp',k1,k2,k3⟩:=h5 a g2 nt _ _ _ g5 g6 g7
   have hne:a0 ≠ a:=fun y=>by subst y;exact na (h4 a0 g2)
   refine ⟨a,ws,?_,List.mem_cons_of_mem _ (h4 a g2),g3,g4,a0 :: fp',.lst (by rw [zar hne];exact h) k1,List.nodup_cons.mpr ⟨fun m=>na (k3 a0 m),k2⟩,fun b m=>?_⟩
   ·unfold zfD
    rw [h]
    dsimp only
    rw [h1]
    exact g1
   ·rcases List.mem_cons.mp m with rfl | m
    ·exact List.mem_cons_self
    ·exact List.mem_cons_of_mem _ (k3 b m)
  | tup h r =>
   rename_i ps a0 vs ds
   unfold zcT at e
   cases zp:ps[k]? with
   | none=>rw [zp] at e;cases e
   | some p0 =>
   rw [zp] at e
   dsimp only [Option.bind_some] at e
   cases z:ds[k]? with
   | none=>rw [z] at e;cases e
   | some d0 =>
   rw [z] at e
   dsimp only [Option.bind_some] at e
   cases z2:zcT op path p0 d0 with
   | none=>rw [z2] at e;cases e
   | some d1 =>
   rw [z2] at e
   cases e
   obtain ⟨v0,f,h1,h2,h3,h4,h5⟩:=r.at zp z n
   obtain ⟨a,ws,g1,g2,g3,g4,f',g5,g6,g7⟩:=RepO.mut ha path h2 h3 z2
   have nt:∀ us,H a ≠ some (.tup us):=fun us y=>by rw [g3] at y;cases y
   obtain ⟨fp',k1,k2,k3⟩:=h5 a g2 nt _ _ _ g5 g6 g7
   have hne:a0 ≠ a:=fun y=>by subst y;rw [h] at g3;cases g3
   refine ⟨a,ws,?_,h4 a g2,g3,g4,fp',.tup (by rw [zar hne];exact h) k1,k2,k3⟩
   unfold zfD
   rw [h]
   dsimp only
   rw [h1]
   exact g1
def zd3 (K:PySem.W.Frag):List Nat->V->Hp->VK->Prop
 | [],v,H,Q=>Q v H
 | k :: r,v,H,Q=>rIx K v (.int k) H fun u H'=>zd3 K r u H' Q
def tPth (K:PySem.W.Frag) (i:Nat) (path:List Nat):TE:=fun σ H Q=>∃ v,σ[i]?=some (some v)/\zd3 K path v H Q
theorem zjy {v u:V} {Q Q':VK} (h:rIx K v u H Q) (i:∀ w H',Q w H'->Q' w H'):rIx K v u H Q':=by
 rcases h with ⟨p,xs,j,w,a,b,c,d,q⟩ | ⟨p,xs,j,w,a,b,c,d,q⟩ | ⟨z,j,w,a,b,c,d,q⟩
 ·exact .inl ⟨p,xs,j,w,a,b,c,d,i _ _ q⟩
 ·exact .inr (.inl ⟨p,xs,j,w,a,b,c,d,i _ _ q⟩)
 ·exact .inr (.inr ⟨z,j,w,a,b,c,d,i _ _ q⟩)
theorem zer {k:Nat} {Q:VK}:∀ {path:List Nat} {v:V} {H:Hp},zd3 K (path ++ [k]) v H Q->zd3 K path v H fun x H1=>rIx K x (.int k) H1 Q
 | [],v,H,h=>h
 | j :: r,v,H,h=>zjy h fun w H' q=>zer q
theorem zd3.of {Q:VK}:∀ {path:List Nat} {v u:V},zfD H path v=some u->Q u H->zd3 K path v H Q
 | [],v,u,e,q=>by cases e;exact q
 | k :: r,v,u,e,q=>by
  cases v with
  | ref a =>
   unfold zfD at e
   split at e
   ·rename_i vs h
    cases z:vs[k]? with
    | none=>rw [z] at e;cases e
    | some w =>
     rw [z] at e
     exact .inl ⟨a,vs,k,w,rfl,rfl,SqL.of h,zb3 z,zd3.of e q⟩
   ·rename_i vs h
    cases z:vs[k]? with
    | none=>rw [z] at e;cases e
    | some w =>
     rw [z] at e
     exact .inr (.inl ⟨a,vs,k,w,rfl,rfl,SqT.of h,zb3 z,zd3.of e q⟩)
   ·cases e
  | _=>cases e
end
def sMut (i:Nat) (path:List Nat) (op:MOp):SM:=fun ρ=>match zbX ρ i with
 | some (p,d)=>(match zcT op path p d with
  | some d'=>(match ρ[i]? with
   | some (some (.own _))=>(match d' with
    | .list ds'=>.nx (ρ.set i (some (.own ds')))
    | _=>.bad)
   | _=>.nx (ρ.set i (some (.deep p d'))))
  | none=>.bad)
 | none=>.bad
section
variable {X:Cx} {B G0:Hp} {KX:XW} {e o a b c:Expr} {pos:Pos} {es:List Expr}
theorem zgH {i:Nat} {path:List Nat} {op:MOp} {Dn:Ends} {σ : St} {H:Hp} {G:Hp} {ρ : DEnv} {u:V} (k:EOk X.K B G0 G H σ ρ) (q:aftS X.K B G0 KX (sMut i path op ρ) G Dn) (ha:op.arg X.K G u):∃ v ad vs,σ[i]?=some (some v)/\zfD H path v=some (.ref ad)/\H ad=some (.lst vs) /\
  (∃ q ds ds',vs.length=ds.length/\op.dOf q ds=some ds')/\Dn.nx σ (upd H ad (.lst (op.vOf u vs))):=by
 unfold sMut at q
 cases z:zbX ρ i with
 | none=>rw [z] at q;exact q.elim
 | some pd =>
 obtain ⟨p,d⟩:=pd
 rw [z] at q
 dsimp only at q
 cases z2:zcT op path p d with
 | none=>rw [z2] at q;exact q.elim
 | some d' =>
 rw [z2] at q
 dsimp only at q
 obtain ⟨ω,ks⟩:=k.slots
 obtain ⟨v,fp,hv,r,nd,w⟩:=ks i p d z
 obtain ⟨ad,vs,g1,g2,g3,g4,fp',g5,g6,g7⟩:=r.mut ha path nd z2
 refine ⟨v,ad,vs,hv,g1,g3,g4,?_⟩
 unfold zbX at z
 split at z
 ·rename_i ds hi
  cases z
  rw [hi] at q
  dsimp only at q
  split at q
  ·rename_i ds'
   obtain ⟨a',us,i1,i2,i3,i4,i5⟩:=k.own i ds hi
   rw [hv] at i1
   cases i1
   cases path with
   | nil =>
    cases g1
    rw [i4] at g3
    cases g3
    cases g5 with
    | lst h rl =>
    rw [zas] at h
    cases h
    exact q σ G _ (k.change hi hv rl.leaf_inv.1) (.refl _)
   | cons k0 r0 =>
    unfold zcT at z2
    cases zz:ds[k0]? with
    | none=>rw [zz] at z2;cases z2
    | some dd =>
     rw [zz] at z2
     cases r0 <;> cases z2
  ·exact q.elim
 ·rename_i p' d0 hi
  cases z
  rw [hi] at q
  exact q σ G _ (k.mutD hi hv r g2 g5 g6 g7) (.refl _)
 ·cases z
theorem ziu {i:Nat} (h:PE X e (tVar i)):PE X e (tPth X.K i []):=h
theorem zgd {i:Nat} {path:List Nat} {k:Nat} {j} {p1:Pos} (h:PE X a (tPth X.K i path)) (hs:zex (.Constant (.int (k:Int)) j p1):=by exact fun _ _=>rfl):PE X (.Subscript a (.Constant (.int (k:Int)) j p1) pos) (tPth X.K i (path ++ [k])) :=
 peof (zkg zhB h zjL hs) fun σ H Q ⟨v,hv,q⟩=>⟨v,hv,zer q⟩
theorem zl3 {i:Nat} {path:List Nat} {apos cpos:Pos} (ho:PE X o (tPth X.K i path))
  (hbase:attributeBase o "reverse" X.env (eval o X.env)=eval o X.env:=by rfl) (hline:(apos.endLine == cpos.line)=true:=by rfl)
  (hsw:swapsWith (.Call (.Attribute o "reverse" apos) [] [] cpos) none pos.line X.env=pure false:=by rfl) :
  PS X (.Expr (.Call (.Attribute o "reverse" apos) [] [] cpos) pos) (tS X.K B G0 KX (sMut i path .rev)) :=
 psof (zdo (zjQ PySem.F.plainAttrs_list PySem.F.slot_list_reverse PySem.F.type_list_reverse zgR ho hbase hline) hsw) fun D σ H ⟨G,ρ,k,q⟩=>by
  obtain ⟨v,ad,vs,h1,h2,h3,h4,h5⟩:=zgH (u:=.non) k q trivial
  exact ⟨v,h1,zd3.of h2 ⟨.inl ⟨rfl,_,SqL.of h3⟩,ad,vs,rfl,rfl,h3,h5⟩⟩
theorem zl4 {i:Nat} {path:List Nat} {apos cpos:Pos} (ho:PE X o (tPth X.K i path))
  (hbase:attributeBase o "clear" X.env (eval o X.env)=eval o X.env:=by rfl) (hline:(apos.endLine == cpos.line)=true:=by rfl)
  (hsw:swapsWith (.Call (.Attribute o "clear" apos) [] [] cpos) none pos.line X.env=pure false:=by rfl) :
  PS X (.Expr (.Call (.Attribute o "clear" apos) [] [] cpos) pos) (tS X.K B G0 KX (sMut i path .clr)) :=
 psof (zdo (zjQ PySem.F.plainAttrs_list PySem.F.slot_list_clear PySem.F.type_list_clear zi3 ho hbase hline) hsw) fun D σ H ⟨G,ρ,k,q⟩=>by
  obtain ⟨v,ad,vs,h1,h2,h3,h4,h5⟩:=zgH (u:=.non) k q trivial
  exact ⟨v,h1,zd3.of h2 ⟨.inl ⟨rfl,_,SqL.of h3⟩,ad,vs,rfl,rfl,h3,h5⟩⟩
def zfE (f:M D):M D:=fun ρ=>match f (za5 ρ) with
 | .ok d _=>if flat d=true then .ok d ρ else .bad
 | .bad=>.bad
theorem zjz {f:M D} (h:∀ B' G',PE X e (tD X.K B' G' f)):PE X e (tD X.K B G0 (zfE f)):=by
 have h':PE X e (fun σ H Q=>∃ B' G',tD X.K B' G' f σ H Q):=fun pins s σ H Q I ⟨B',G',q⟩=>h B' G' pins s σ H Q I q
 refine peof h' fun σ H Q ⟨G,ρ,k,a⟩=>⟨H,H,H,za5 ρ,k.lent,?_⟩
 unfold zfE at a
 cases z:f (za5 ρ) with
 | bad=>rw [z] at a;exact a.elim
 | ok d ρ' =>
  rw [z] at a
  dsimp only at a ⊢
  split at a
  ·rename_i hf
   exact fun v G' H' k' s' r=>a v G H' (k.back k'.bh) (.refl _) (r.flat hf)
  ·exact a.elim
end
def zkU (j1 j2:Nat):M D:=fun ρ=>match zbX ρ j1,zbX ρ j2 with
 | some (_,d1),some (_,d2)=>if j1 ≠ j2 then .ok (.tuple [d1,d2]) ((ρ.set j1 none).set j2 none) else .bad
 | _,_=>.bad
section
variable {X:Cx} {B G0:Hp} {KX:XW} {e o a b c:Expr} {pos:Pos} {es:List Expr}
def zm0 (p1 p2:Pat) (j1 j2:Nat) (ρ : DEnv):Prop:=(∀ p d,zbX ρ j1=some (p,d)->p=p1)/\∀ p d,zbX ρ j2=some (p,d)->p=p2
def zgI (ok:DEnv->Bool) (j1 j2:Nat):M D:=fun ρ=>if ok ρ = true then zkU j1 j2 ρ else .bad
theorem zjA {p1 p2:Pat} {j1 j2:Nat} {ok:DEnv->Bool} {k1} (hok:∀ ρ,ok ρ = true->zm0 p1 p2 j1 j2 ρ) (ha:PE X a (tVar j1)) (hb:PE X b (tVar j2))
  (hs1:starEach [a,b] X.env=(false,eval a X.env) :: starEach [b] X.env:=by rfl) (hs2:starEach [b] X.env=[(false,eval b X.env)]:=by rfl) :
  PE X (.Tuple [a,b] k1 pos) (tT X.K B G0 (.tup [p1,p2]) (zgI ok j1 j2)) :=
 peof (zjN (zb2 ha (zb2 hb zdp hs2) hs1)) fun σ H Q ⟨G,ρ,k,q⟩=>by
  unfold zgI zkU at q
  by_cases hc:ok ρ = true
  case neg=>rw [if_neg hc] at q;exact q.elim
  rw [if_pos hc] at q
  obtain ⟨c1,c2⟩:=hok ρ hc
  cases z1:zbX ρ j1 with
  | none=>rw [z1] at q;exact q.elim
  | some s1 =>
  cases z2:zbX ρ j2 with
  | none=>rw [z1,z2] at q;exact q.elim
  | some s2 =>
  obtain ⟨q1,d1⟩:=s1
  obtain ⟨q2,d2⟩:=s2
  rw [z1,z2] at q
  dsimp only at q
  by_cases hne:j1 ≠ j2
  case neg=>rw [if_neg hne] at q;exact q.elim
  rw [if_pos hne] at q
  have e1:=c1 _ _ z1
  have e2:=c2 _ _ z2
  subst e1 e2
  obtain ⟨ω,ks⟩:=k.slots
  obtain ⟨v1,f1,hv1,r1,n1,w1⟩:=ks j1 _ _ z1
  obtain ⟨v2,f2,hv2,r2,n2,w2⟩:=ks j2 _ _ z2
  refine ⟨v1,hv1,v2,hv2,(show 2<=sizeLine by decide),fun p hp=>?_⟩
  have sh:Same H (upd H p (.tup [v1,v2])):=zaz hp
  have kk:=((k.ext (Ext.hid (o:=.tup [v1,v2]) k.gh hp)).forget (i:=j1)).forget (i:=j2)
  have own:∀ b ∈ f1 ++ (f2 ++ []),B b=none/\G b=none/\(ω b=j1 ∨ ω b=j2):=fun b m=>by
   rw [List.append_nil] at m
   rcases List.mem_append.mp m with m | m
   ·exact ⟨(w1 b m).1,(w1 b m).2.1,.inl (w1 b m).2.2⟩
   ·exact ⟨(w2 b m).1,(w2 b m).2.1,.inr (w2 b m).2.2⟩
  have nz:∀ {m:Nat} {s:Sl},((ρ.set j1 none).set j2 none)[m]?=some (some s) -> ρ[m]?=some (some s)/\j1 ≠ m/\j2 ≠ m:=fun {m s} q=>by
   by_cases y2:j2=m
   ·subst y2;have:=zam q;cases this
   ·rw [List.getElem?_set_ne y2] at q
    by_cases y1:j1=m
    ·subst y1;have:=zam q;cases this
    ·rw [List.getElem?_set_ne y1] at q;exact ⟨q,y1,y2⟩
  refine q (.ref p) (f1 ++ (f2 ++ [])) G _ kk (.refl _) ⟨.tup zas (.cons (r1.mono (.refl _) sh) (.cons (r2.mono (.refl _) sh) .nil)),?_,fun b m=>⟨(own b m).1,(own b m).2.1⟩,fun b m j es ho hs=>?_,fun b m j p' d' v' fp' ho hs rr mm=>?_⟩
  ·rw [List.append_nil]
   exact List.nodup_append.mpr ⟨n1,n2,fun x hx y hy e=>by subst e;exact hne ((w1 x hx).2.2.symm.trans (w2 x hy).2.2)⟩
  ·obtain ⟨ho,y1,y2⟩:=nz ho
   obtain ⟨v3,f3,hv3,r3,n3,w3⟩:=ks j (.lst .leaf) (.list es) (by unfold zbX;rw [ho])
   rw [hs] at hv3
   cases hv3
   have mb:b ∈ f3:=by
    cases r3 with
    | lst h rl=>exact List.mem_cons_self
   rcases (own b m).2.2 with z | z
   ·exact y1 (z.symm.trans (w3 b mb).2.2)
   ·exact y2 (z.symm.trans (w3 b mb).2.2)
  ·obtain ⟨ho,y1,y2⟩:=nz ho
   obtain ⟨v3,f3,hv3,r3,n3,w3⟩:=ks j p' d' (by unfold zbX;rw [ho])
   rw [hs] at hv3
   cases hv3
   have eu:=r3.uniq sh rr
   subst eu
   rcases (own b m).2.2 with z | z
   ·exact y1 (z.symm.trans (w3 b mm).2.2)
   ·exact y2 (z.symm.trans (w3 b mm).2.2)
end
def isT:Option HO->Bool
 | some (.tup _)=>true
 | some (.frz _ (.tup _))=>true
 | _=>false
theorem zl5 {u:MO}:isT (some u.ho)=false:=by cases u <;> rfl
def pubG (fp:List Addr) (G H:Hp):Hp:=fun b=>if b ∈ fp ∨ isT (H b)=true then H b else G b
section
variable {K:PySem.W.Frag} {B G0 G H:Hp} {fp:List Addr}
theorem zfF (gh:Same G H):Same G (pubG fp G H):=fun b o e=>by
 unfold pubG
 split
 ·exact gh b o e
 ·exact e
theorem zkV (gh:Same G H):Same (pubG fp G H) H:=fun b o e=>by
 unfold pubG at e
 split at e
 ·exact e
 ·exact gh b o e
theorem zeR {b:Addr} (h:b ∈ fp ∨ isT (H b)=true):pubG fp G H b=H b:=by unfold pubG;rw [if_pos h]
theorem ziv {b:Addr} (h:b ∉ fp) (h2:isT (H b)=false):pubG fp G H b=G b:=by
 unfold pubG
 rw [if_neg]
 rintro (z | z)
 ·exact h z
 ·rw [h2] at z;cases z
mutual
theorem RepO.give (gh:Same G H):∀ {p:Pat} {v:V} {d:D} {f:List Addr},RepO K G H p v d f->(∀ b ∈ f,b ∈ fp)->Rep K (pubG fp G H) v d
 | _,_,_,_,.leaf r,_=>r.mono (zfF gh)
 | _,_,_,_,.lst h r,m=>.lst (SqL.of ((zeR (.inl (m _ List.mem_cons_self))).trans h)) (RepOl.give gh r fun b z=>m b (List.mem_cons_of_mem _ z))
 | _,_,_,_,.tup h r,m=>.tup (SqT.of ((zeR (.inr (by rw [h];rfl))).trans h)) (RepOs.give gh r m)
theorem RepOl.give (gh:Same G H):∀ {p:Pat} {v:List V} {d:List D} {f:List Addr},RepOl K G H p v d f->(∀ b ∈ f,b ∈ fp)->Reps K (pubG fp G H) v d
 | _,_,_,_,.nil,_=>.nil
 | _,_,_,_,.cons h t,m=>.cons (RepO.give gh h fun b z=>m b (List.mem_append_left _ z)) (RepOl.give gh t fun b z=>m b (List.mem_append_right _ z))
theorem RepOs.give (gh:Same G H):∀ {p:List Pat} {v:List V} {d:List D} {f:List Addr},RepOs K G H p v d f->(∀ b ∈ f,b ∈ fp)->Reps K (pubG fp G H) v d
 | _,_,_,_,.nil,_=>.nil
 | _,_,_,_,.cons h t,m=>.cons (RepO.give gh h fun b z=>m b (List.mem_append_left _ z)) (RepOs.give gh t fun b z=>m b (List.mem_append_right _ z))
end
theorem Ext.pubT {G' H':Hp} (ex:Ext G H G' H') (fr:∀ a ∈ fp,H a=none):Ext G H (pubG fp G' H') H' :=
 ⟨ex.h,ex.g.trans (zfF ex.gh),zkV ex.gh,fun a u e n=>by
  rw [ziv (fun m=>by rw [fr a m] at e;cases e) (by rw [ex.h a _ e];exact zl5)]
  exact ex.np a u e n⟩
def nl0:D->Bool
 | .tuple ds=>ds.all flat
 | d=>flat d
theorem Rep.nl {G' G2 H':Hp} {v:V} {d:D} (r:Rep K G' v d) (h:nl0 d=true) (gh:Same G' H'):Rep K (pubG fp G2 H') v d:=by
 cases r with
 | tup hs rr =>
  refine .tup ?_ (rr.flat h)
  rcases hs with (hs | ⟨o,hs⟩) | hs
  ·have:=gh _ _ hs
   exact .inl (.inl ((zeR (.inr (by rw [this];rfl))).trans this))
  ·have:=gh _ _ hs
   exact .inl (.inr ⟨o,(zeR (.inr (by rw [this];rfl))).trans this⟩)
  ·exact .inr hs
 | non=>exact .non
 | bl b=>exact .bl b
 | int i=>exact .int i
 | str x=>exact .str x
 | lst _ _=>cases h
 | dic _=>cases h
 | exc _ _ _ _=>cases h
 | dct _ _ _ _ _=>cases h
 | dtt _ _ _ _=>cases h
theorem Reps.nl {G' G2 H':Hp} (gh:Same G' H'):∀ {vs:List V} {ds:List D},Reps K G' vs ds->ds.all nl0=true->Reps K (pubG fp G2 H') vs ds
 | _,_,.nil,_=>.nil
 | _,_,.cons r t,h=>by
  rw [List.all_cons,Bool.and_eq_true] at h
  exact .cons (r.nl h.1 gh) (Reps.nl gh t h.2)
end
def zdV (f:M (List D)):M (List D):=fun ρ=>match f (za5 ρ) with
 | .ok ds _=>if ds.all nl0=true then .ok ds ρ else .bad
 | .bad=>.bad
def Pat.is:Pat->Pat->Bool
 | .leaf,.leaf=>true
 | .lst p,.lst q=>p.is q
 | _,_=>false
theorem Pat.is_eq:∀ {p q:Pat},p.is q=true->p=q
 | .leaf,.leaf,_=>rfl
 | .lst p,.lst q,h=>by rw [Pat.is_eq (p:=p) (q:=q) h]
 | .leaf,.lst _,h=>by cases h
 | .leaf,.tup _,h=>by cases h
 | .lst _,.leaf,h=>by cases h
 | .lst _,.tup _,h=>by cases h
 | .tup _,.leaf,h=>by cases h
 | .tup _,.lst _,h=>by cases h
 | .tup _,.tup _,h=>by cases h
def zcs (p:Pat) (j:Nat) (ρ : DEnv):Bool:=match zbX ρ j with
 | some (q,_)=>q.is p
 | none=>false
def zjB (p1 p2:Pat) (j1 j2:Nat):M D:=zgI (fun ρ=>zcs p1 j1 ρ && zcs p2 j2 ρ) j1 j2
section
variable {X:Cx} {B G0:Hp} {KX:XW} {e o a b c:Expr} {pos:Pos} {es:List Expr} {pt:Pat}
theorem zeS {f:M (List D)} (h:∀ B' G',PE X e (tL X.K B' G' f)):PE X e (tL X.K B G0 (zdV f)):=by
 have h':PE X e (fun σ H Q=>∃ B' G',tL X.K B' G' f σ H Q):=fun pins s σ H Q I ⟨B',G',q⟩=>h B' G' pins s σ H Q I q
 refine peof h' fun σ H Q ⟨G,ρ,k,a⟩=>⟨H,H,H,za5 ρ,k.lent,?_⟩
 unfold zdV at a
 cases z:f (za5 ρ) with
 | bad=>rw [z] at a;exact a.elim
 | ok ds ρ' =>
  rw [z] at a
  dsimp only at a ⊢
  by_cases hf:ds.all nl0=true
  ·rw [if_pos hf] at a
   intro ad vs G' H' k' s' n
   have ex:Ext G H G H':=⟨k'.bh,.refl _,k.gh.trans k'.bh,fun _ _ _ n=>n⟩
   have ex2:Ext G H (pubG [] G H') H':=ex.pubT (fun a m=>by cases m)
   refine a ad vs (pubG [] G H') H' (k.ext ex2) ex2.g ⟨k.bh.free n.b,?_,n.h,n.r.nl k'.gh hf,fun j es q w=>?_,fun j pt d v fp q s r=>k.freshD k'.bh n.b q s r⟩
   ·rw [ziv (by simp) (by rw [n.h];rfl)]
    exact k.gh.free n.b
   ·obtain ⟨b,us,g1,g2,g3,g4,g5⟩:=k.own j es q
    rw [g1] at w
    cases w
    rw [n.b] at g4
    cases g4
  ·rw [if_neg hf] at a;exact a.elim
theorem zjC {p1 p2:Pat} {j1 j2:Nat} {k1} (ha:PE X a (tVar j1)) (hb:PE X b (tVar j2))
  (hs1:starEach [a,b] X.env=(false,eval a X.env) :: starEach [b] X.env:=by rfl) (hs2:starEach [b] X.env=[(false,eval b X.env)]:=by rfl) :
  PE X (.Tuple [a,b] k1 pos) (tT X.K B G0 (.tup [p1,p2]) (zjB p1 p2 j1 j2)):=zjA (fun ρ h=>by
 rw [Bool.and_eq_true] at h
 have key:∀ {p:Pat} {j:Nat},zcs p j ρ = true->∀ q d,zbX ρ j=some (q,d)->q=p:=fun {p j} h q d e=>by
  unfold zcs at h
  rw [e] at h
  exact Pat.is_eq h
 exact ⟨key h.1,key h.2⟩) ha hb hs1 hs2
theorem DefT.def {P:Program} {w:World} {K:PySem.W.Frag} {mg:Str->Option Value} {base:Heap} {x:Str} {k n:Nat} {F:List D->Option D} (d:DefT P w K mg base x k n pt F):Def P w K mg base x k n F:=by
 obtain ⟨f,fd,ps,h1,h2,h3,h4⟩:=d
 refine ⟨f,fd,ps,h1,h2,h3,h4.imp fun vs H Q E ⟨G,ds,d,hl,sg,r,hF,q⟩=>⟨G,ds,d,hl,sg,r,hF,fun v fp G' H' ex rr nd fr=>?_⟩⟩
 exact q v (pubG fp G' H') H' (ex.pubT fun a m=>(fr a m).1) (rr.give ex.gh fun b m=>m)
end
theorem zl6 {q p:Program} {loose:List Str} {mean:ExcName->Option Value} {mg mb:Str->Option Value} {h:Heap} {ix:List Nat} (P:Program) (w:World) (base:Heap) {ps:List Str} {k n:Nat} {pt:Pat} {F:List D->Option D} (T:PyProof.Rows.Top q loose mean mg mb h) (e:recsOf q=zdR p ix) (i:Nat) (x:Str) (hi:ix.contains i=true) (hn:zfC (stAt p i)=some x)
  (ok:∀ {f:Addr} {fd:FuncData},Fun (whole h) x x (stAt p i) f fd->FnOk P w (whole h) mg base CX0 k f fd ps (spT (whole h) n pt F))
  (hb:∀ (kV doc pm:Value) (an:Option Addr) (cdv ct:Value) (us:List Value),us.length=ps.length->bindArgs (PySem.W.fnOf x x (zcc (stAt p i)) (zbn (stAt p i)) (zah (stAt p i)) .none kV doc pm an cdv ct) ⟨us,[]⟩=pure (ps.zip us)):DefT P w (whole h) mg base x k n pt F:=by
 obtain ⟨f,fd,m,FU⟩:=zgG T e i x hi hn
 exact ⟨f,fd,ps,m,FU.kp,FU.binds hb,ok FU⟩
section
variable {ρ ρ1 ρ2 ρ':DEnv} {pt:Pat}
theorem ziw {i:Nat} {f:M D} {d:D} (h1:f ρ = .ok d ρ1) (h2:i < ρ1.length) (h3 : ρ1.set i (some (.deep pt d)) = ρ'):zg9 i pt f ρ = .nx ρ':=by
 unfold zg9 sB;rw [h1];dsimp only;rw [if_pos h2];subst h3;rfl
theorem zkW {j i:Nat} {dss ds:List D} (h1 : ρ[j]?=some (some (.deep (.lst (.lst .leaf)) (.list dss)))) (h2 : ρ[i]?=some (some (.own ds))) (h3:dss.length < 1000000) (h4:(ρ.set j (some (.deep (.lst (.lst .leaf)) (.list (dss ++ [.list ds]))))).set i none = ρ'):zit j i ρ = .nx ρ':=by
 unfold zit;rw [h1,h2];dsimp only;rw [if_pos h3,h4]
theorem zix {i:Nat} {path:List Nat} {op:MOp} {p:Pat} {d d':D} (h1 : ρ[i]?=some (some (.deep p d))) (h2:zcT op path p d=some d') (h3 : ρ.set i (some (.deep p d')) = ρ'):sMut i path op ρ = .nx ρ':=by
 unfold sMut zbX;rw [h1];dsimp only;rw [h2];dsimp only;rw [h3]
theorem zjD {f:M D} {d:D} (h:f (za5 ρ)=.ok d ρ') (hf:flat d=true):zfE f ρ = .ok d ρ:=by unfold zfE;rw [h];dsimp only;rw [if_pos hf]
theorem zeT {f:M (List D)} {ds:List D} (h:f (za5 ρ)=.ok ds ρ') (hf:ds.all nl0=true):zdV f ρ = .ok ds ρ:=by unfold zdV;rw [h];dsimp only;rw [if_pos hf]
theorem zkX {p1 p2:Pat} {j1 j2:Nat} {q1 q2:Pat} {d1 d2:D} (h1:zbX ρ j1=some (q1,d1)) (h2:zbX ρ j2=some (q2,d2)) (i1:q1.is p1=true) (i2:q2.is p2=true) (hj:j1 ≠ j2):zjB p1 p2 j1 j2 ρ = .ok (.tuple [d1,d2]) ((ρ.set j1 none).set j2 none):=by
 have a1:zcs p1 j1 ρ = true:=by unfold zcs;rw [h1];exact i1
 have a2:zcs p2 j2 ρ = true:=by unfold zcs;rw [h2];exact i2
 unfold zjB zgI
 rw [if_pos (show (zcs p1 j1 ρ && zcs p2 j2 ρ)=true by rw [a1,a2];rfl)]
 unfold zkU
 rw [h1,h2]
 dsimp only
 rw [if_pos hj]
theorem zm1 {N:List Str} {g:SM} {f:M D} {ds:List D} {P:D->Prop} (h0:zaV N ds = ρ) (h:Ho g ρ fun o=>∃ ρ1,o=.nx ρ1/\∃ d ρ2,f ρ1=.ok d ρ2/\P d):∃ d,zir N g f ds=some d/\P d:=by
 subst h0
 obtain ⟨ρ1,e,d,ρ2,e2,p⟩:=h.out
 refine ⟨d,?_,p⟩
 unfold zir;rw [e];dsimp only;rw [e2]
end
def mOwn (i:Nat):M (List D):=fun ρ=>match ρ[i]? with
 | some (some (.own ds))=>.ok ds (ρ.set i none)
 | _=>.bad
section
variable {X:Cx} {B G0:Hp} {e:Expr}
theorem zkY {i:Nat} (h:PE X e (tVar i)):PE X e (tL X.K B G0 (mOwn i)):=peof h fun σ H Q ⟨G,ρ,k,q⟩=>by
 cases ho : ρ[i]? with
 | none=>unfold mOwn at q;rw [ho] at q;exact q.elim
 | some oo =>
 cases oo with
 | none=>unfold mOwn at q;rw [ho] at q;exact q.elim
 | some sl =>
 cases sl with
 | pub d=>unfold mOwn at q;rw [ho] at q;exact q.elim
 | deep p d=>unfold mOwn at q;rw [ho] at q;exact q.elim
 | own ds =>
 unfold mOwn at q
 rw [ho] at q
 dsimp only at q
 obtain ⟨ad,vs,h1,h2,h3,h4,h5⟩:=k.own i ds ho
 obtain ⟨ω,k1,k2⟩:=id k.dp
 have hw:=k2 i ds ad ho h1
 have nz:∀ {m:Nat} {s:Sl},(ρ.set i none)[m]?=some (some s) -> ρ[m]?=some (some s)/\i ≠ m:=fun {m s} q=>by
  by_cases z:i=m
  ·subst z;have:=zam q;cases this
  ·rw [List.getElem?_set_ne z] at q;exact ⟨q,z⟩
 refine ⟨.ref ad,h1,q ad vs G H k.forget (.refl _) ⟨h2,h3,h4,h5,fun j es e w=>?_,fun j p d v fp e w r m=>?_⟩⟩
 ·obtain ⟨e,z⟩:=nz e
  exact z (k.sep i j ad ds es ho e h1 w)
 ·obtain ⟨e,z⟩:=nz e
  obtain ⟨v',fp',s',r',n',w'⟩:=k1 j p d e
  rw [w] at s'
  cases s'
  have u:=r'.uniq (.refl _) r
  subst u
  exact z (hw.symm.trans (w' ad m).2.2)
theorem zl7 {i:Nat} {ρ : DEnv} {ds:List D} (h : ρ[i]?=some (some (.own ds))):mOwn i ρ = .ok ds (ρ.set i none):=by unfold mOwn;rw [h]
end
def zjE (X:Cx) (f:Value) (p:List D->Option D):Prop :=
 ∃ r,zcu X f r/\∀ vs G H ds d Q,Same G H->Reps X.K G vs ds->p ds=some (.list d)->(∀ a ws,H a=none->Reps X.K G ws d->Q (.ref a) (upd H a (.lst ws)))->r vs H Q
def zgJ:Option D->Option (List D)
 | some (.list ds)=>some ds
 | _=>none
theorem zha {o:Option D} {ds:List D} (h:zgJ o=some ds):o=some (.list ds):=by
 unfold zgJ at h
 split at h
 ·cases h;rfl
 ·cases h
def zfG (p:List D->Option D) (f:M (List D)):M (List D):=zap f fun xs=>mOpt (zgJ (p xs))
section
variable {X:Cx} {B G0:Hp} {e o a b c:Expr} {pos:Pos} {es:List Expr}
theorem zkZ:zjE X (.builtin "sorted") zcI:=by
 refine ⟨_,zei,fun vs G H ds d Q s r e k=>?_⟩
 obtain ⟨ds,ns,rfl,z,c,e⟩:=zej e
 obtain ⟨v,rfl,q1⟩:=r.one_inv
 obtain ⟨l,ws,rfl,h1,r1⟩:=q1.lst_inv
 have:=zbB r1 z
 subst this
 cases e
 exact ⟨l,ns,rfl,s.seq h1,c,fun p hp=>k _ _ hp (zdH _)⟩
theorem zk0:zjE X (.builtin "sorted") zep:=by
 refine ⟨_,zen,fun vs G H ds d Q s r e k=>?_⟩
 obtain ⟨qs,rfl,h64,ok,e⟩:=zeq e
 cases e
 obtain ⟨v,rfl,q1⟩:=r.one_inv
 obtain ⟨l,ws,rfl,h1,r1⟩:=q1.lst_inv
 obtain ⟨as,rfl,hl,ht⟩:=zdP r1
 refine ⟨l,as,qs,rfl,s.seq h1,hl,fun i a q e1 e2=>zcY s (ht i a q e1 e2),ok,h64,fun π p hπ hp=>?_⟩
 have hb:∀ i ∈ π,i < qs.length:=fun i hi=>List.mem_range.mp (hπ.1.mem_iff.mp hi)
 have rr:=zdQ hl ht π hb
 rw [zgF ok hπ] at rr
 exact k _ _ hp rr
theorem zl8:zjE X (.builtin "sorted") zeP:=by
 obtain ⟨r1,c1,k1⟩:=zkZ (X:=X)
 obtain ⟨r2,c2,k2⟩:=zk0 (X:=X)
 refine ⟨fun xs H Q=>r1 xs H Q ∨ r2 xs H Q,fun pins s σ H xs us Q I rx h=>?_,fun vs G H ds d Q s r e k=>?_⟩
 ·rcases h with h | h
  ·exact c1 pins s σ H xs us Q I rx h
  ·exact c2 pins s σ H xs us Q I rx h
 ·unfold zeP at e
  cases z:zcI ds with
  | some d'=>rw [z] at e;cases e;exact .inl (k1 vs G H ds _ Q s r z k)
  | none=>rw [z] at e;exact .inr (k2 vs G H ds _ Q s r e k)
theorem ziy {x:Str} {p2:Pos} {id:String} {p:List D->Option D} {f:M (List D)} (hc:zjE X (.builtin id) p) (hg:Gl X x) (hm:X.mg x=none) (hv:bootBuiltins x=some (.builtin id)) (ha:PA X (e :: es) (tDs X.K B G0 f)) (hn:x ≠ "__name__" := by decide) (hdb:(x == ("__debug__" : Str))=false:=by decide)
  (he:starEach (e :: es) X.env=(false,eval e X.env) :: starEach es X.env:=by rfl) (hpl:(backTo pos (starEach es X.env)).any (·.1)=false:=by rfl):PE X (.Call (.Name x p2) (e :: es) [] pos) (tL X.K B G0 (zfG p f)):=by
 obtain ⟨r,h,i⟩:=hc
 refine peof (zcC h hg hm hv ha hn hdb he hpl) fun σ H Q ⟨G,ρ,k,q⟩=>?_
 refine ⟨G,ρ,k,?_⟩
 unfold zfG zap at q
 cases z:f ρ with
 | bad=>rw [z] at q;exact q.elim
 | ok xs ρ1 =>
  rw [z] at q
  dsimp only [mOpt] at q
  intro vs G1 H1 k1 s1 r1
  cases z2:zgJ (p xs) with
  | none=>rw [z2] at q;exact q.elim
  | some ds =>
   rw [z2] at q
   exact i vs G1 H1 xs ds Q k1.gh r1 (zha z2) fun ad ws hp rr=>q ad ws G1 _ (k1.ext (Ext.hid k1.gh hp)) s1 (NewL.of k1 hp rr)
end
end DL
namespace W
open PySem PySem.Spec L2 DL
open PyProof.Rows hiding St
def top (i:Nat):Stmt:=PySem.Challenge.pw_wishdeal_k09_longest_and_all.main.body.getD i (.Pass ⟨0,0,0,0⟩)
abbrev GG (s:Stmt) (x:Str):Prop:=(zah s).names.lookup x=some NameKind.globalImplicit
abbrev VV (s:Stmt) (x:Str):Prop:=L2.Vis (zah s) x
abbrev LL (s:Stmt) (x:Str):Prop:=L2.Loc (zah s) x
theorem vk {s:Stmt} {x:Str} (h:(zah s).names.lookup x=some .local ∨ (zah s).names.lookup x=some .cell ∨ (zah s).names.lookup x=some .free):VV s x:=h
theorem lk {s:Stmt} {x:Str} (h:(zah s).names.lookup x=some .local ∨ (zah s).names.lookup x=some .cell):LL s x:=h
structure Txt (K:PySem.W.Frag) (mg:Str->Option Value):Prop where
 b_all:mg "all" = none
 b_bool:mg "bool" = none
 b_enumerate:mg "enumerate" = none
 b_int:mg "int" = none
 b_isinstance:mg "isinstance" = none
 b_len:mg "len" = none
 b_list:mg "list" = none
 b_max:mg "max" = none
 b_min:mg "min" = none
 b_range:mg "range" = none
 b_set:mg "set" = none
 b_sorted:mg "sorted" = none
 b_tuple:mg "tuple" = none
 c_MOST_ASKERS:∃ t,mg "MOST_ASKERS" = some (Value.int 7 t)
 c_MOST_COPIES:∃ t,mg "MOST_COPIES" = some (Value.int 7 t)
 c_MOST_RANKS:∃ t,mg "MOST_RANKS" = some (Value.int 5 t)
 c_MOST_THINGS:∃ t,mg "MOST_THINGS" = some (Value.int 6 t)
abbrev Saa:Stmt:=top 4
abbrev N_aa:List Str:=["thing"]
theorem Haa:FnNm (zah Saa) N_aa ["isinstance", "int", "bool"]:=za4 (by decide +kernel)
def g_aa:SM :=
 sRet (zgV (mMap (fun d=>.bool (isTy d "int")) (dVar 0)) (zhJ (mMap (fun d=>.bool (isTy d "bool")) (dVar 0))))
def F_aa:List D->Option D:=runD N_aa g_aa
abbrev Sab:Stmt:=top 5
abbrev N_ab:List Str:=["thing", "many"]
theorem Hab:FnNm (zah Sab) N_ab ["is_whole"]:=za4 (by decide +kernel)
def g_ab:SM :=
 sRet (zgV (dFun 1 F_aa (zag (dVar 0) (mNil))) (mMap PyData.bool (zdu (oIB fun i j=>decide (i<=j)) (oIB fun i j=>decide (i < j)) (zae (.int 0)) (dVar 0) (dVar 1))))
def F_ab:List D->Option D:=runD N_ab g_ab
abbrev Sad:Stmt:=top 12
abbrev N_ad:List Str:=["thing", "things"]
theorem Had:FnNm (zah Sad) N_ad ["all", "isinstance", "list", "len"]:=za4 (by decide +kernel)
def g_ad:SM :=
 sSeq (sIf (mOr (mNot (zaX (mMap (fun d=>.bool (isTy d "list")) (dVar 0)))) (dBin oEq (zbK 0) (zae (.int 0))))
 (sRet (zae (.bool false)))
 (sNx))
 (sRet (zbQ oAll (zag (mMap PyData.list (zd2 (zaI (dVar 0)) 1 (gN 2) (zae true) (dFun 2 F_ab (zag (dVar 2) (zag (dVar 1) (mNil)))))) (mNil))))
def F_ad:List D->Option D:=runD N_ad g_ad
abbrev Sae:Stmt:=top 13
abbrev N_ae:List Str:=["thing", "things", "wished"]
theorem Hae:FnNm (zah Sae) N_ae ["len", "set", "all", "isinstance", "list", "MOST_RANKS"]:=za4 (by decide +kernel)
def g_ae:SM :=
 sSeq (sIf (mOr (mNot (zaX (mMap (fun d=>.bool (isTy d "list")) (dVar 0)))) (dBin (oIB fun i j=>decide (j < i)) (zbK 0) (zae (.int 5))))
 (sRet (zae (.bool false)))
 (sNx))
 (sSeq (sIf (mNot (zaX (zbQ oAll (zag (mMap PyData.list (zd2 (zaI (dVar 0)) 1 (gN 3) (zae true) (dFun 2 F_ad (zag (dVar 3) (zag (dVar 1) (mNil)))))) (mNil)))))
 (sRet (zae (.bool false)))
 (sNx))
 (sSeq (zbR 2 (zfo (zaI (dVar 0)) 2 (gN 3) (zae true) (zaI (dVar 3)) (gN 4) (zae true) (dVar 4)))
 (sRet (mMap PyData.bool (dBin oEq (zbQ zc5 (zag (dVar 2) (mNil))) (zbK 2))))))
def F_ae:List D->Option D:=runD N_ae g_ae
abbrev Saf:Stmt:=top 14
abbrev N_af:List Str:=["lists", "things", "asker", "ranks"]
theorem Haf:FnNm (zah Saf) N_af ["enumerate", "is_asker_list", "isinstance", "list", "len", "MOST_ASKERS"]:=za4 (by decide +kernel)
def ziz:SM :=
 sIf (mNot (zaX (dFun 2 F_ae (zag (dVar 3) (zag (dVar 1) (mNil))))))
 (zeb)
 (sNx)
def g_af:SM :=
 sSeq (sIf (mOr (mNot (zaX (mMap (fun d=>.bool (isTy d "list")) (dVar 0)))) (mNot (zdu (oIB fun i j=>decide (i<=j)) (oIB fun i j=>decide (i<=j)) (zae (.int 1)) (zbK 0) (zae (.int 7)))))
 (zeb)
 (sNx))
 (sFor (zfj (zag (dVar 0) (mNil))) (gT 2 (gNC (gN 2) (gNC (gN 3) (gN0)))) ziz)
def F_af:List D->Option D:=runD N_af g_af
abbrev Sac:Stmt:=top 11
abbrev N_ac:List Str:=["copies", "number", "many"]
theorem Hac:FnNm (zah Sac) N_ac ["enumerate", "MOST_COPIES", "is_number_below", "isinstance", "list", "len", "MOST_THINGS"]:=za4 (by decide +kernel)
def ziA:SM :=
 sIf (mNot (zaX (dFun 2 F_ab (zag (dVar 2) (zag (dBin oAdd (zae (.int 7)) (zae (.int 1))) (mNil))))))
 (zeb)
 (sNx)
def g_ac:SM :=
 sSeq (sIf (mOr (mNot (zaX (mMap (fun d=>.bool (isTy d "list")) (dVar 0)))) (mNot (zdu (oIB fun i j=>decide (i<=j)) (oIB fun i j=>decide (i<=j)) (zae (.int 1)) (zbK 0) (zae (.int 6)))))
 (zeb)
 (sNx))
 (sFor (zfj (zag (dVar 0) (mNil))) (gT 2 (gNC (gN 1) (gNC (gN 2) (gN0)))) ziA)
def F_ac:List D->Option D:=runD N_ac g_ac
abbrev Sag:Stmt:=top 15
abbrev N_ag:List Str:=["thing", "copies", "lists"]
theorem Hag:FnNm (zah Sag) N_ag ["len", "look_at_lists", "look_at_copies", "isinstance", "tuple"]:=za4 (by decide +kernel)
def g_ag:SM :=
 sSeq (sIf (mOr (mNot (zaX (mMap (fun d=>.bool (isTy d "tuple")) (dVar 0)))) (dBin oNe (zbK 0) (zae (.int 2))))
 (zeb)
 (sNx))
 (sSeq (sAsg (dVar 0) (gT 2 (gNC (gN 1) (gNC (gN 2) (gN0)))))
 (sSeq (zdk (dFun 1 F_ac (zag (dVar 1) (mNil))))
 (zdk (dFun 2 F_af (zag (dVar 2) (zag (zbK 1) (mNil)))))))
def F_ag:List D->Option D:=runD N_ag g_ag
abbrev Sah:Stmt:=top 16
abbrev N_ah:List Str:=["wishes"]
theorem Hah:FnNm (zah Sah) N_ah ["max", "look_at_wishes"]:=za4 (by decide +kernel)
def g_ah:SM :=
 sSeq (zdk (dFun 1 F_ag (zag (dVar 0) (mNil))))
 (sRet (zbQ zf5 (zag (mMap PyData.list (zd2 (zaI (dIxN 0 (zae (.int 1)))) 1 (gN 1) (zae true) (zbK 1))) (mNil))))
def F_ah:List D->Option D:=runD N_ah g_ah
abbrev San:Stmt:=top 23
abbrev N_an:List Str:=["_law_wishes_here"]
theorem Han:FnNm (zah San) N_an ["max"]:=za4 (by decide +kernel)
def g_an:SM :=
 sRet (zbQ zf5 (zag (mMap PyData.list (zd2 (zaI (dIxN 0 (zae (.int 1)))) 1 (gN 1) (zae true) (zbK 1))) (mNil)))
def F_an:List D->Option D:=runD N_an g_an
abbrev Sao:Stmt:=top 24
abbrev N_ao:List Str:=["_law_thing"]
theorem Hao:FnNm (zah Sao) N_ao ["isinstance", "int", "bool"]:=za4 (by decide +kernel)
def g_ao:SM :=
 sRet (zgV (mMap (fun d=>.bool (isTy d "int")) (dVar 0)) (zhJ (mMap (fun d=>.bool (isTy d "bool")) (dVar 0))))
def F_ao:List D->Option D:=runD N_ao g_ao
abbrev Saq:Stmt:=top 26
abbrev N_aq:List Str:=["_law_found", "_law_due", "_law_one"]
theorem Haq:FnNm (zah Saq) N_aq ["isinstance", "tuple", "_law_is_whole", "list"]:=za4 (by decide +kernel)
def ziB:SM :=
 sIf (mOr (mNot (zaX (mMap (fun d=>.bool (isTy d "tuple")) (dVar 2)))) (mOr (mNot (zaX (dFun 1 F_ao (zag (dIxN 2 (zae (.int 0))) (mNil))))) (mNot (zaX (dFun 1 F_ao (zag (dIxN 2 (zae (.int 1))) (mNil)))))))
 (sRet (zae (.bool false)))
 (sNx)
def g_aq:SM :=
 sSeq (sIf (mOr (mNot (zaX (mMap (fun d=>.bool (isTy d "list")) (dVar 0)))) (zcA oNe 0 (dVar 1)))
 (sRet (zae (.bool false)))
 (sNx))
 (sSeq (sFor (zaI (dVar 0)) (gN 2) ziB)
 (sRet (zae (.bool true))))
def F_aq:List D->Option D:=runD N_aq g_aq
abbrev Sam:Stmt:=top 22
abbrev N_am:List Str:=["_law_wishes_here", "_law_asker", "_law_thing", "_law_k", "_law_row"]
theorem Ham:FnNm (zah Sam) N_am ["enumerate"]:=za4 (by decide +kernel)
def ziC:SM :=
 sIf (zcA oIn 2 (dVar 4))
 (sRet (dBin oAdd (dVar 3) (zae (.int 1))))
 (sNx)
def g_am:SM :=
 sSeq (sFor (zfj (zag (dBin oIx (dIxN 0 (zae (.int 1))) (dVar 1)) (mNil))) (gT 2 (gNC (gN 3) (gNC (gN 4) (gN0)))) ziC)
 (sRet (zae (.int 0)))
def F_am:List D->Option D:=runD N_am g_am
abbrev Sap:Stmt:=top 25
abbrev N_ap:List Str:=["_law_wishes_here", "_law_found", "_law_asker", "_law_thing"]
theorem Hap:FnNm (zah Sap) N_ap ["len", "range", "_law_rank"]:=za4 (by decide +kernel)
def zk1:SM :=
 sIf (dBin (oIB fun i j=>decide (j < i)) (dFun 3 F_am (zag (dVar 0) (zag (dVar 2) (zag (dVar 3) (mNil))))) (zae (.int 0)))
 (sApp 1 (mTup (zag (dVar 2) (zag (dVar 3) (mNil)))))
 (sNx)
def zk2:SM :=
 sFor (zdA (zag (zbQ oLen (zag (dIxN 0 (zae (.int 0))) (mNil))) (mNil))) (gN 3) zk1
def g_ap:SM :=
 sSeq (zbR 1 (zap (mNil) fun xs=>if xs.length<=1000000 then zae xs else fun _=>.bad))
 (sSeq (sFor (zdA (zag (zbQ oLen (zag (dIxN 0 (zae (.int 1))) (mNil))) (mNil))) (gN 2) zk2)
 (sRet (dVar 1)))
def F_ap:List D->Option D:=runD N_ap g_ap
abbrev Sai:Stmt:=top 17
abbrev N_ai:List Str:=["wishes"]
theorem Hai:FnNm (zah Sai) N_ai ["enumerate", "sorted", "look_at_wishes"]:=za4 (by decide +kernel)
def g_ai:SM :=
 sSeq (zdk (dFun 1 F_ag (zag (dVar 0) (mNil))))
 (sRet (zbQ zeP (zag (mMap PyData.list (zeh (zfj (zag (dIxN 0 (zae (.int 1))) (mNil))) 4 (gT 2 (gNC (gN 1) (gNC (gN 2) (gN0)))) (zae true) (zaI (dVar 2)) (gN 3) (zae true) (zaI (dVar 3)) (gN 4) (zae true) (mTup (zag (dVar 1) (zag (dVar 4) (mNil)))))) (mNil))))
def F_ai:List D->Option D:=runD N_ai g_ai
abbrev Sak:Stmt:=top 20
abbrev N_ak:List Str:=["_law_cell", "_law_salt", "_law_sizes", "_law_number", "_law_left", "_law_found", "_law_k", "_law_one"]
theorem Hak:FnNm (zah Sak) N_ak ["len", "range", "max"]:=za4 (by decide +kernel)
def zge:SM :=
 sIf (mAnd (zcA (oIB fun i j=>decide (j<=i)) 3 (dBin oPow (zae (.int 10)) (zae (.int 18)))) (zcA (oIB fun i j=>decide (j < i)) 4 (zae (.int 0))))
 (sSeq (sApp 5 (dBin oMod (dVar 4) (dIxN 2 (dVar 6))))
 (sSet 4 (dBin oDiv (dVar 4) (dIxN 2 (dVar 6)))))
 (sSeq (sSet 7 (dBin oMod (dBin oAdd (dBin oAdd (dBin oAdd (dVar 3) (dBin oMul (zae (.int 7919)) (dVar 1))) (dBin oMul (dBin oMul (zae (.int 101)) (dVar 6)) (dVar 6))) (dVar 6)) (zae (.int 2147483647))))
 (sSeq (sSet 7 (dBin oMod (dBin oMul (dVar 7) (zae (.int 48271))) (zae (.int 2147483647))))
 (sSeq (sSet 7 (dBin oMod (dBin oMul (dBin oMod (dBin oMul (dVar 7) (dVar 7)) (zae (.int 2147483629))) (zae (.int 48271))) (zae (.int 2147483647))))
 (sApp 5 (dBin oMod (dBin oDiv (dVar 7) (zae (.int 16))) (dIxN 2 (dVar 6)))))))
def g_ak:SM :=
 sSeq (sSet 3 (zbQ zhP (zag (dVar 0) (zag (dBin oSub (dNeg (zae (.int 1))) (dVar 0)) (mNil)))))
 (sSeq (sSet 4 (dVar 3))
 (sSeq (zbR 5 (zap (mNil) fun xs=>if xs.length<=1000000 then zae xs else fun _=>.bad))
 (sSeq (sFor (zdA (zag (zbK 2) (mNil))) (gN 6) zge)
 (sRet (dVar 5)))))
def F_ak:List D->Option D:=runD N_ak g_ak
abbrev Saj:Stmt:=top 19
abbrev N_aj:List Str:=["_law_script", "_law_k"]
theorem Haj:FnNm (zah Saj) N_aj ["len"]:=za4 (by decide +kernel)
def g_aj:SM :=
 sSeq (sIf (zcA (oIB fun i j=>decide (i < j)) 1 (zbK 0))
 (sRet (dIxN 0 (dVar 1)))
 (sNx))
 (sRet (zae (.int 0)))
def F_aj:List D->Option D:=runD N_aj g_aj
abbrev zbh:Stmt:=top 21
abbrev zbi:List Str:=["_law_script", "_law_at", "_law_most_things", "_law_most_askers", "_law_most_ranks", "_law_sizes", "_law_digits", "_law_copies", "_law_lists", "_law_asker", "_law_cell", "_law_places", "_law_ranks", "_law_rank_here", "_law_row"]
theorem zaa:FnNm (zah zbh) zbi ["range", "len", "_law_numbers", "_law_cell_at"]:=za4 (by decide +kernel)
def zbf:SM :=
 sSeq (zbR 14 (zd2 (zdA (zag (zbK 7) (mNil))) 1 (gN 15) (dBin oEq (dIxN 11 (dVar 15)) (dVar 13)) (dVar 15)))
 (sIf (zcA oNe 14 (mLst (mNil)))
 (sApp 12 (dBin oIx (mLst (zag (dVar 14) (zag (dRev (dVar 14) (zae none) (zae none) (zap (dNeg (zae (.int 1))) fun x=>mOpt (zhM x))) (mNil)))) (dIxN 11 (dNeg (zae (.int 1))))))
 (sNx))
def zbg:SM :=
 sSeq (sSet 10 (dFun 2 F_aj (zag (dVar 0) (zag (dBin oAdd (dBin oAdd (dVar 1) (zae (.int 1))) (dVar 9)) (mNil)))))
 (sSeq (sSet 11 (dFun 3 F_ak (zag (dVar 10) (zag (dBin oAdd (dBin oAdd (dBin oMul (zae (.int 11)) (dVar 1)) (dBin oMul (zae (.int 3)) (dVar 9))) (zae (.int 1))) (zag (dBin oAdd (dBin oMul (mLst (zag (dBin oAdd (dVar 4) (zae (.int 1))) (mNil))) (dVar 2)) (mLst (zag (zae (.int 2)) (mNil)))) (mNil))))))
 (sSeq (zbR 12 (zap (mNil) fun xs=>if xs.length<=1000000 then zae xs else fun _=>.bad))
 (sSeq (sFor (zjd (zag (zae (.int 1)) (zag (dBin oAdd (dVar 4) (zae (.int 1))) (mNil)))) (gN 13) zbf)
 (zit 8 12))))
def zbP:SM :=
 sSeq (sSet 5 (dBin oAdd (mLst (zag (dVar 2) (zag (dVar 3) (mNil)))) (dBin oMul (mLst (zag (zae (.int 11)) (mNil))) (dVar 2))))
 (sSeq (sSet 6 (dFun 3 F_ak (zag (dFun 2 F_aj (zag (dVar 0) (zag (dVar 1) (mNil)))) (zag (dVar 1) (zag (dVar 5) (mNil))))))
 (sSeq (zbR 7 (zd2 (zaI (dSlA (dVar 6) (zap (zae (.int 2)) fun x=>mOpt (zhM x)) (zap (dBin oAdd (zae (.int 3)) (dIxN 6 (zae (.int 0)))) fun x=>mOpt (zhM x)))) 1 (gN 15) (zae true) (dBin oIx (mLst (zag (zae (.int 1)) (zag (zae (.int 1)) (zag (zae (.int 2)) (zag (zae (.int 0)) (zag (zae (.int 3)) (zag (zae (.int 7)) (zag (zae (.int 1)) (zag (zae (.int 4)) (zag (zae (.int 5)) (zag (zae (.int 6)) (zag (zae (.int 1)) (mNil))))))))))))) (dVar 15))))
 (sSeq (zg9 8 (.lst (.lst .leaf)) (zae (.list [])))
 (sSeq (sFor (zdA (zag (dBin oAdd (zae (.int 1)) (dIxN 6 (zae (.int 1)))) (mNil))) (gN 9) zbg)
 (sNx)))))
def zd4:M D :=
 zjB (.lst .leaf) (.lst (.lst .leaf)) 7 8
def zaY:List D->Option D:=zir zbi zbP zd4
abbrev F_al:List D->Option D:=zaY
abbrev zb6:Stmt:=top 17
abbrev zb7:List Str:=["wishes"]
theorem zaO:FnNm (zah zb6) zb7 ["enumerate", "sorted", "look_at_wishes"]:=za4 (by decide +kernel)
def zcU:SM :=
 sSeq (zdk (dFun 1 F_ag (zag (dVar 0) (mNil))))
 (sNx)
def zeU:M (List D) :=
 zfG zeP (zag (mMap PyData.list (zeh (zfj (zag (dIxN 0 (zae (.int 1))) (mNil))) 4 (gT 2 (gNC (gN 1) (gNC (gN 2) (gN0)))) (zae true) (zaI (dVar 2)) (gN 3) (zae true) (zaI (dVar 3)) (gN 4) (zae true) (mTup (zag (dVar 1) (zag (dVar 4) (mNil)))))) (mNil))
def za9:List D->Option (List D):=runO zb7 zcU zeU
abbrev zcV:Stmt:=top 25
abbrev zcW:List Str:=["_law_wishes_here", "_law_found", "_law_asker", "_law_thing"]
theorem zak:FnNm (zah zcV) zcW ["len", "range", "_law_rank"]:=za4 (by decide +kernel)
def zcb:SM :=
 sIf (dBin (oIB fun i j=>decide (j < i)) (dFun 3 F_am (zag (dVar 0) (zag (dVar 2) (zag (dVar 3) (mNil))))) (zae (.int 0)))
 (sApp 1 (mTup (zag (dVar 2) (zag (dVar 3) (mNil)))))
 (sNx)
def za1:SM :=
 sFor (zdA (zag (zbQ oLen (zag (dIxN 0 (zae (.int 0))) (mNil))) (mNil))) (gN 3) zcb
def zbv:SM :=
 sSeq (zbR 1 (zap (mNil) fun xs=>if xs.length<=1000000 then zae xs else fun _=>.bad))
 (sSeq (sFor (zdA (zag (zbQ oLen (zag (dIxN 0 (zae (.int 1))) (mNil))) (mNil))) (gN 2) za1)
 (sNx))
def zeV:M (List D) :=
 mOwn 1
def zbw:List D->Option (List D):=runO zcW zbv zeV
abbrev Sar:Stmt:=top 27
abbrev N_ar:List Str:=["_law_script", "_law_at", "_law_wishes_here", "_law_due", "_law_found", "_law_some"]
theorem Har:FnNm (zah Sar) N_ar ["len", "min", "max", "range", "longest", "_law_longest", "_law_right", "_law_pairs", "all_wishes", "_law_wishes", "_law_is_whole"]:=za4 (by decide +kernel)
def ziD:SM :=
 sSeq (zg9 2 (.tup [.lst .leaf,.lst (.lst .leaf)]) (dFun 5 zaY (zag (dVar 0) (zag (dVar 1) (zag (zae (.int 6)) (zag (zae (.int 7)) (zag (zae (.int 5)) (mNil))))))))
 (sSeq (zbR 3 (zdV (zgb 1 zbw (zag (dVar 2) (mNil)))))
 (sSeq (sSet 4 (zfE (dFun 1 F_ah (zag (dVar 2) (mNil)))))
 (sSeq (sIf (zeQ (mOr (mNot (zaX (dFun 1 F_ao (zag (dVar 4) (mNil))))) (zcA oNe 4 (dFun 1 F_an (zag (dVar 2) (mNil))))))
 (sRet (zae (.bool false)))
 (sNx))
 (sSeq (zbR 5 (zdV (zgb 1 za9 (zag (dVar 2) (mNil)))))
 (sSeq (sIf (zeQ (mNot (zaX (dFun 2 F_aq (zag (dVar 5) (zag (dVar 3) (mNil)))))))
 (sRet (zae (.bool false)))
 (sNx))
 (sSeq (sApp 5 (mTup (zag (zae (.int 0)) (zag (zae (.int 0)) (mNil)))))
 (sSeq (sIf (zeQ (mOr (mNot (zaX (dFun 2 F_aq (zag (dFun 1 F_ai (zag (dVar 2) (mNil))) (zag (dVar 3) (mNil)))))) (zcA oNe 2 (dFun 5 F_al (zag (dVar 0) (zag (dVar 1) (zag (zae (.int 6)) (zag (zae (.int 7)) (zag (zae (.int 5)) (mNil))))))))))
 (sRet (zae (.bool false)))
 (sNx))
 (sSeq (zbR 5 (zdV (zgb 1 za9 (zag (dVar 2) (mNil)))))
 (sSeq (sMut 2 [1] .rev)
 (sSeq (sMut 2 [1,0] .clr)
 (sSeq (sIf (zeQ (mOr (mNot (zaX (dFun 2 F_aq (zag (dVar 5) (zag (dVar 3) (mNil)))))) (mNot (zaX (dFun 2 F_aq (zag (dFun 1 F_ai (zag (dVar 2) (mNil))) (zag (dFun 1 F_ap (zag (dVar 2) (mNil))) (mNil))))))))
 (sRet (zae (.bool false)))
 (sNx))
 (sIf (zeQ (dBin oNe (dFun 1 F_ah (zag (dVar 2) (mNil))) (dFun 1 F_an (zag (dVar 2) (mNil)))))
 (sRet (zae (.bool false)))
 (sNx)))))))))))))
def g_ar:SM :=
 sSeq (sFor (zjk (zag (zae (.int 0)) (zag (zbQ zhP (zag (zae (.int 8)) (zag (zbQ zjb (zag (zbK 0) (zag (zae (.int 56)) (mNil)))) (mNil)))) (zag (zae (.int 8)) (mNil))))) (gN 1) ziD)
 (sRet (zae (.bool true)))
def F_ar:List D->Option D:=runD N_ar g_ar
section
variable {P:Program} {w:World} {K:PySem.W.Frag} {mg:Str->Option Value} {base:Heap} {f:Addr} {fd:FuncData} (T:Txt K mg)
include T
theorem Kaa (F:Fun K "is_whole" "is_whole" Saa f fd):FnOk P w K mg base CX0 1 f fd ["thing"] (spD K 1 F_aa) :=
 okD (k:=0) (g:=g_aa) F (fq Haa 1) rfl fun cdv A outer s H E B G0 hr =>
 have hu:=hr.units
 have hgd:=hr.gd
 (zaq (zaH (zfX (zaE (c := "int") (by decide) (gq Haa 0) T.b_isinstance (gq Haa 1) T.b_int (by decide +kernel) (zad (pq Haa 0)) (by decide) (by decide)) (zfY (zhK (zaE (c := "bool") (by decide) (gq Haa 0) T.b_isinstance (gq Haa 2) T.b_bool (by decide +kernel) (zad (pq Haa 0)) (by decide) (by decide)))))))
theorem Kab (d_aa:Def P w K mg base "is_whole" 1 1 F_aa) (F:Fun K "is_number_below" "is_number_below" Sab f fd):FnOk P w K mg base CX0 2 f fd ["thing", "many"] (spD K 2 F_ab) :=
 okD (k:=1) (g:=g_ab) F (fq Hab 2) rfl fun cdv A outer s H E B G0 hr =>
 have hu:=hr.units
 have hgd:=hr.gd
 (zaq (zaH (zfX (pdf d_aa hr (gq Hab 0) (zab (zad (pq Hab 0)) zaf)) (zfY (zhI B_le B_lt zal (zad (pq Hab 0)) (zad (pq Hab 1)))))))
theorem Kad (d_ab:Def P w K mg base "is_number_below" 2 2 F_ab) (F:Fun K "is_rank" "is_rank" Sad f fd):FnOk P w K mg base CX0 3 f fd ["thing", "things"] (spD K 2 F_ad) :=
 okD (k:=2) (g:=g_ad) F (fq Had 2) rfl fun cdv A outer s H E B G0 hr =>
 have hu:=hr.units
 have hgd:=hr.gd
 (zao (zbL (PW.pt (zcd (zaK (zaQ (zaE (c := "list") (by decide) (gq Had 1) T.b_isinstance (gq Had 2) T.b_list (by decide +kernel) (zad (pq Had 0)) (by decide) (by decide)))) (zbJ (zcx (B_eq hu) (zaS (gq Had 3) T.b_len (pq Had 0)) zal (zbx _)))))
 (zaq (zaH zbo))
 za2)
 (zaq (zaH (zaN (zlU rfl) (gq Had 0) T.b_all PyProof.Rows.boot_all (zab (zc3 (zg2 (zah Sad) N_ad ["thing", "things", "number"] 1 zcn rfl (zca (zad (pq Had 0))) (fun cl C s0 H0 ex=>⟨fun B' G'=>(zav (zau (i:=2) (show (["thing", "things", "number"]:List Str).Nodup by decide +kernel) rfl (zaW rfl) (.inr (zbq rfl)))),fun B' G'=>zba,(za7 rfl rfl rfl fun B' G'=>(pdf d_ab hr (zgr rfl) (zab (zad (pvb 2)) (zab (zad (pvb 1)) zaf))))⟩) rfl rfl (by decide +kernel))) zaf)))))
theorem Kae (d_ad:Def P w K mg base "is_rank" 3 2 F_ad) (F:Fun K "is_asker_list" "is_asker_list" Sae f fd):FnOk P w K mg base CX0 4 f fd ["thing", "things"] (spD K 2 F_ae) :=
 okD (k:=3) (g:=g_ae) F (fq Hae 2) rfl fun cdv A outer s H E B G0 hr =>
 have hu:=hr.units
 have hgd:=hr.gd
 (zao (zbL (PW.pt (zcd (zaK (zaQ (zaE (c := "list") (by decide) (gq Hae 3) T.b_isinstance (gq Hae 4) T.b_list (by decide +kernel) (zad (pq Hae 0)) (by decide) (by decide)))) (zbJ (zcx B_gt (zaS (gq Hae 0) T.b_len (pq Hae 0)) (zjj (gq Hae 5) T.c_MOST_RANKS) (zbx _)))))
 (zaq (zaH zbo))
 za2)
 (zao (zbL (zaK (zaQ (zaN (zlU rfl) (gq Hae 2) T.b_all PyProof.Rows.boot_all (zab (zc3 (zg2 (zah Sae) N_ae ["thing", "things", "wished", "rank"] 1 zcn rfl (zca (zad (pq Hae 0))) (fun cl C s0 H0 ex=>⟨fun B' G'=>(zav (zau (i:=3) (show (["thing", "things", "wished", "rank"]:List Str).Nodup by decide +kernel) rfl (zaW rfl) (.inr (zbq rfl)))),fun B' G'=>zba,(za7 rfl rfl rfl fun B' G'=>(pdf d_ad hr (zgr rfl) (zab (zad (pvb 3)) (zab (zad (pvb 1)) zaf))))⟩) rfl rfl (by decide +kernel))) zaf))))
 (zaq (zaH zbo))
 za2)
 (zao (sD_1 (j:=2) (zah Sae) N_ae ["thing", "things", "wished", "rank", "number"] 2 zh0 (nq Hae) rfl rfl rfl (zca (zad (pq Hae 0))) (fun cl C s0 H0 ex=>⟨fun B' G'=>(zav (zau (i:=3) (show (["thing", "things", "wished", "rank", "number"]:List Str).Nodup by decide +kernel) rfl (zaW rfl) (.inr (zbq rfl)))),fun B' G'=>zba,(zcg rfl rfl rfl rfl (fun _=>rfl) (fun B' G'=>(zca (zad (pvb 3)))) (fun B' G'=>(zav (zau (i:=4) (show (["thing", "things", "wished", "rank", "number"]:List Str).Nodup by decide +kernel) rfl (zaW rfl) (.inr (zbq rfl))))) (fun B' G'=>zba) (za7 rfl rfl rfl fun B' G'=>(zad (pvb 4))))⟩) rfl rfl (by decide +kernel))
 (zaq (zaH (zku (B_eq hu) (zg4 rfl (gq Hae 0) T.b_len (gq Hae 1) T.b_set (zab (zad (pq Hae 2)) zaf)) (zaS (gq Hae 0) T.b_len (pq Hae 2)) (zbx _)))))))
theorem Kaf (d_ae:Def P w K mg base "is_asker_list" 4 2 F_ae) (F:Fun K "look_at_lists" "look_at_lists" Saf f fd):FnOk P w K mg base CX0 5 f fd ["lists", "things"] (spD K 2 F_af) :=
 okD (k:=4) (g:=g_af) F (fq Haf 2) rfl fun cdv A outer s H E B G0 hr =>
 have hu:=hr.units
 have hgd:=hr.gd
 (zao (zbL (PW.pt (zcd (zaK (zaQ (zaE (c := "list") (by decide) (gq Haf 2) T.b_isinstance (gq Haf 3) T.b_list (by decide +kernel) (zad (pq Haf 0)) (by decide) (by decide)))) (zbJ (zaK (zfh B_le B_le zal (zaS (gq Haf 4) T.b_len (pq Haf 0)) (zjj (gq Haf 5) T.c_MOST_ASKERS))))))
 (zaq zcD)
 za2)
 (zaq (zb9 PassesOwn.never rfl (zdB (gq Haf 0) T.b_enumerate (zab (zad (pq Haf 0)) zaf)) (zed rfl (zbp (zav (zau (i:=2) (nq Haf) rfl (lq Haf 2))) (zbp (zav (zau (i:=3) (nq Haf) rfl (lq Haf 3))) zec)))
 (zaq (zbL (zaK (zaQ (pdf d_ae hr (gq Haf 1) (zab (zad (pq Haf 3)) (zab (zad (pq Haf 1)) zaf)))))
 (zaq zcD)
 za2)))))
theorem Kac (d_ab:Def P w K mg base "is_number_below" 2 2 F_ab) (F:Fun K "look_at_copies" "look_at_copies" Sac f fd):FnOk P w K mg base CX0 3 f fd ["copies"] (spD K 1 F_ac) :=
 okD (k:=2) (g:=g_ac) F (fq Hac 1) rfl fun cdv A outer s H E B G0 hr =>
 have hu:=hr.units
 have hgd:=hr.gd
 (zao (zbL (PW.pt (zcd (zaK (zaQ (zaE (c := "list") (by decide) (gq Hac 3) T.b_isinstance (gq Hac 4) T.b_list (by decide +kernel) (zad (pq Hac 0)) (by decide) (by decide)))) (zbJ (zaK (zfh B_le B_le zal (zaS (gq Hac 5) T.b_len (pq Hac 0)) (zjj (gq Hac 6) T.c_MOST_THINGS))))))
 (zaq zcD)
 za2)
 (zaq (zb9 PassesOwn.never rfl (zdB (gq Hac 0) T.b_enumerate (zab (zad (pq Hac 0)) zaf)) (zed rfl (zbp (zav (zau (i:=1) (nq Hac) rfl (lq Hac 1))) (zbp (zav (zau (i:=2) (nq Hac) rfl (lq Hac 2))) zec)))
 (zaq (zbL (zaK (zaQ (pdf d_ab hr (gq Hac 2) (zab (zad (pq Hac 2)) (zab (zaP zcw (zjj (gq Hac 1) T.c_MOST_COPIES) zal) zaf)))))
 (zaq zcD)
 za2)))))
theorem Kag (d_af:Def P w K mg base "look_at_lists" 5 2 F_af) (d_ac:Def P w K mg base "look_at_copies" 3 1 F_ac) (F:Fun K "look_at_wishes" "look_at_wishes" Sag f fd):FnOk P w K mg base CX0 6 f fd ["thing"] (spD K 1 F_ag) :=
 okD (k:=5) (g:=g_ag) F (fq Hag 1) rfl fun cdv A outer s H E B G0 hr =>
 have hu:=hr.units
 have hgd:=hr.gd
 (zao (zbL (PW.pt (zcd (zaK (zaQ (zaE (c := "tuple") (by decide) (gq Hag 3) T.b_isinstance (gq Hag 4) T.b_tuple (by decide +kernel) (zad (pq Hag 0)) (by decide) (by decide)))) (zbJ (zcx (B_ne hu) (zaS (gq Hag 0) T.b_len (pq Hag 0)) zal (zbx _)))))
 (zaq zcD)
 za2)
 (zao (zlR (zad (pq Hag 0)) (zed rfl (zbp (zav (zau (i:=1) (nq Hag) rfl (lq Hag 1))) (zbp (zav (zau (i:=2) (nq Hag) rfl (lq Hag 2))) zec))))
 (zao (zdw (pdf d_ac hr (gq Hag 2) (zab (zad (pq Hag 1)) zaf)))
 (zaq (zdw (pdf d_af hr (gq Hag 1) (zab (zad (pq Hag 2)) (zab (zaS (gq Hag 0) T.b_len (pq Hag 1)) zaf))))))))
theorem Kah (d_ag:Def P w K mg base "look_at_wishes" 6 1 F_ag) (F:Fun K "longest" "longest" Sah f fd):FnOk P w K mg base CX0 7 f fd ["wishes"] (spD K 1 F_ah) :=
 okD (k:=6) (g:=g_ah) F (fq Hah 1) rfl fun cdv A outer s H E B G0 hr =>
 have hu:=hr.units
 have hgd:=hr.gd
 (zao (zdw (pdf d_ag hr (gq Hah 1) (zab (zad (pq Hah 0)) zaf)))
 (zaq (zaH (zaN (zjV rfl) (gq Hah 0) T.b_max boot_max (zab (zc3 (zg2 (zah Sah) N_ah ["wishes", "ranks"] 1 zcn rfl (zca (zaL (pq Hah 0) zal (fun _ _=>rfl))) (fun cl C s0 H0 ex=>⟨fun B' G'=>(zav (zau (i:=1) (show (["wishes", "ranks"]:List Str).Nodup by decide +kernel) rfl (zaW rfl) (.inr (zbq rfl)))),fun B' G'=>zba,(za7 rfl rfl rfl fun B' G'=>(zaS (zgr rfl) T.b_len (pvb 1)))⟩) rfl rfl (by decide +kernel))) zaf)))))
theorem Kan (F:Fun K "_law_longest" "_law_longest" San f fd):FnOk P w K mg base CX0 1 f fd ["_law_wishes_here"] (spD K 1 F_an) :=
 okD (k:=0) (g:=g_an) F (fq Han 1) rfl fun cdv A outer s H E B G0 hr =>
 have hu:=hr.units
 have hgd:=hr.gd
 (zaq (zaH (zaN (zjV rfl) (gq Han 0) T.b_max boot_max (zab (zc3 (zg2 (zah San) N_an ["_law_wishes_here", "_law_ranks"] 1 zcn rfl (zca (zaL (pq Han 0) zal (fun _ _=>rfl))) (fun cl C s0 H0 ex=>⟨fun B' G'=>(zav (zau (i:=1) (show (["_law_wishes_here", "_law_ranks"]:List Str).Nodup by decide +kernel) rfl (zaW rfl) (.inr (zbq rfl)))),fun B' G'=>zba,(za7 rfl rfl rfl fun B' G'=>(zaS (zgr rfl) T.b_len (pvb 1)))⟩) rfl rfl (by decide +kernel))) zaf))))
theorem Kao (F:Fun K "_law_is_whole" "_law_is_whole" Sao f fd):FnOk P w K mg base CX0 1 f fd ["_law_thing"] (spD K 1 F_ao) :=
 okD (k:=0) (g:=g_ao) F (fq Hao 1) rfl fun cdv A outer s H E B G0 hr =>
 have hu:=hr.units
 have hgd:=hr.gd
 (zaq (zaH (zfX (zaE (c := "int") (by decide) (gq Hao 0) T.b_isinstance (gq Hao 1) T.b_int (by decide +kernel) (zad (pq Hao 0)) (by decide) (by decide)) (zfY (zhK (zaE (c := "bool") (by decide) (gq Hao 0) T.b_isinstance (gq Hao 2) T.b_bool (by decide +kernel) (zad (pq Hao 0)) (by decide) (by decide)))))))
theorem Kaq (d_ao:Def P w K mg base "_law_is_whole" 1 1 F_ao) (F:Fun K "_law_right" "_law_right" Saq f fd):FnOk P w K mg base CX0 2 f fd ["_law_found", "_law_due"] (spD K 2 F_aq) :=
 okD (k:=1) (g:=g_aq) F (fq Haq 2) rfl fun cdv A outer s H E B G0 hr =>
 have hu:=hr.units
 have hgd:=hr.gd
 (zao (zbL (PW.pt (zcd (zaK (zaQ (zaE (c := "list") (by decide) (gq Haq 0) T.b_isinstance (gq Haq 3) T.b_list (by decide +kernel) (zad (pq Haq 0)) (by decide) (by decide)))) (zbJ (zci (B_ne hu) (pq Haq 0) (zad (pq Haq 1)) (zbx _)))))
 (zaq (zaH zbo))
 za2)
 (zao (zb9 PassesOwn.never rfl (zca (zad (pq Haq 0))) (zav (zau (i:=2) (nq Haq) rfl (lq Haq 2)))
 (zaq (zbL (PW.pt (zcd (zaK (zaQ (zaE (c := "tuple") (by decide) (gq Haq 0) T.b_isinstance (gq Haq 1) T.b_tuple (by decide +kernel) (zad (pq Haq 2)) (by decide) (by decide)))) (zcd (zaK (zaQ (pdf d_ao hr (gq Haq 2) (zab (zaL (pq Haq 2) zal (fun _ _=>rfl)) zaf)))) (zbJ (zaK (zaQ (pdf d_ao hr (gq Haq 2) (zab (zaL (pq Haq 2) zal (fun _ _=>rfl)) zaf))))))))
 (zaq (zaH zbo))
 za2)))
 (zaq (zaH zbo))))
theorem Kam (F:Fun K "_law_rank" "_law_rank" Sam f fd):FnOk P w K mg base CX0 1 f fd ["_law_wishes_here", "_law_asker", "_law_thing"] (spD K 3 F_am) :=
 okD (k:=0) (g:=g_am) F (fq Ham 3) rfl fun cdv A outer s H E B G0 hr =>
 have hu:=hr.units
 have hgd:=hr.gd
 (zao (zb9 PassesOwn.never rfl (zdB (gq Ham 0) T.b_enumerate (zab (zhL (zaL (pq Ham 0) zal (fun _ _=>rfl)) (zad (pq Ham 1)) (fun _ _=>rfl)) zaf)) (zed rfl (zbp (zav (zau (i:=3) (nq Ham) rfl (lq Ham 3))) (zbp (zav (zau (i:=4) (nq Ham) rfl (lq Ham 4))) zec)))
 (zaq (zbL (zci (B_in hu) (pq Ham 2) (zad (pq Ham 4)) rfl)
 (zaq (zaH (zaP zcw (zad (pq Ham 3)) zal)))
 za2)))
 (zaq (zaH zal)))
theorem Kap (d_am:Def P w K mg base "_law_rank" 1 3 F_am) (F:Fun K "_law_pairs" "_law_pairs" Sap f fd):FnOk P w K mg base CX0 2 f fd ["_law_wishes_here"] (spD K 1 F_ap) :=
 okD (k:=1) (g:=g_ap) F (fq Hap 1) rfl fun cdv A outer s H E B G0 hr =>
 have hu:=hr.units
 have hgd:=hr.gd
 (zao (zcz (i:=1) (nq Hap) rfl (lq Hap 1) (zdx zaf))
 (zao (zb9 PassesOwn.never rfl (zbz (gq Hap 1) T.b_range (zab (zaN zhO (gq Hap 0) T.b_len boot_len (zab (zaL (pq Hap 0) zal (fun _ _=>rfl)) zaf)) zaf)) (zav (zau (i:=2) (nq Hap) rfl (lq Hap 2)))
 (zaq (zb9 PassesOwn.never rfl (zbz (gq Hap 1) T.b_range (zab (zaN zhO (gq Hap 0) T.b_len boot_len (zab (zaL (pq Hap 0) zal (fun _ _=>rfl)) zaf)) zaf)) (zav (zau (i:=3) (nq Hap) rfl (lq Hap 3)))
 (zaq (zbL (zcx B_gt (pdf d_am hr (gq Hap 2) (zab (zad (pq Hap 0)) (zab (zad (pq Hap 2)) (zab (zad (pq Hap 3)) zaf)))) zal (zbx _))
 (zaq (zee (pq Hap 1) (zdv (zab (zad (pq Hap 2)) (zab (zad (pq Hap 3)) zaf)))))
 za2)))))
 (zaq (zaH (zad (pq Hap 1))))))
theorem Kai (d_ag:Def P w K mg base "look_at_wishes" 6 1 F_ag) (F:Fun K "all_wishes" "all_wishes" Sai f fd):FnOk P w K mg base CX0 7 f fd ["wishes"] (spD K 1 F_ai) :=
 okD (k:=6) (g:=g_ai) F (fq Hai 1) rfl fun cdv A outer s H E B G0 hr =>
 have hu:=hr.units
 have hgd:=hr.gd
 (zao (zdw (pdf d_ag hr (gq Hai 2) (zab (zad (pq Hai 0)) zaf)))
 (zaq (zaH (zaN zl0 (gq Hai 1) T.b_sorted PyProof.Rows.boot_sorted (zab (zc3 (zg2 (zah Sai) N_ai ["wishes", "asker", "ranks", "rank", "thing"] 4 zfp rfl (zdB (gq Hai 0) T.b_enumerate (zab (zaL (pq Hai 0) zal (fun _ _=>rfl)) zaf)) (fun cl C s0 H0 ex=>⟨fun B' G'=>(zed rfl (zbp (zav (zau (i:=1) (show (["wishes", "asker", "ranks", "rank", "thing"]:List Str).Nodup by decide +kernel) rfl (zaW rfl) (.inr (zbq rfl)))) (zbp (zav (zau (i:=2) (show (["wishes", "asker", "ranks", "rank", "thing"]:List Str).Nodup by decide +kernel) rfl (zaW rfl) (.inr (zbq rfl)))) zec))),fun B' G'=>zba,(zcg rfl rfl rfl rfl (fun _=>rfl) (fun B' G'=>(zca (zad (pvb 2)))) (fun B' G'=>(zav (zau (i:=3) (show (["wishes", "asker", "ranks", "rank", "thing"]:List Str).Nodup by decide +kernel) rfl (zaW rfl) (.inr (zbq rfl))))) (fun B' G'=>zba) (zcg rfl rfl rfl rfl (fun _=>rfl) (fun B' G'=>(zca (zad (pvb 3)))) (fun B' G'=>(zav (zau (i:=4) (show (["wishes", "asker", "ranks", "rank", "thing"]:List Str).Nodup by decide +kernel) rfl (zaW rfl) (.inr (zbq rfl))))) (fun B' G'=>zba) (za7 rfl rfl rfl fun B' G'=>(zdv (zab (zad (pvb 1)) (zab (zad (pvb 4)) zaf))))))⟩) rfl rfl (by decide +kernel))) zaf)))))
theorem Kak (F:Fun K "_law_numbers" "_law_numbers" Sak f fd):FnOk P w K mg base CX0 1 f fd ["_law_cell", "_law_salt", "_law_sizes"] (spD K 3 F_ak) :=
 okD (k:=0) (g:=g_ak) F (fq Hak 3) rfl fun cdv A outer s H E B G0 hr =>
 have hu:=hr.units
 have hgd:=hr.gd
 (zao (zce (i:=3) (nq Hak) rfl (lq Hak 3) (zaN (zjU rfl) (gq Hak 2) T.b_max boot_max (zab (zad (pq Hak 0)) (zab (zaP zmK (zfZ zal) (zad (pq Hak 0))) zaf))))
 (zao (zce (i:=4) (nq Hak) rfl (lq Hak 4) (zad (pq Hak 3)))
 (zao (zcz (i:=5) (nq Hak) rfl (lq Hak 5) (zdx zaf))
 (zao (zb9 PassesOwn.never rfl (zbz (gq Hak 1) T.b_range (zab (zaS (gq Hak 0) T.b_len (pq Hak 2)) zaf)) (zav (zau (i:=6) (nq Hak) rfl (lq Hak 6)))
 (zaq (zbL (PW.pt (zkw (zci B_ge (pq Hak 3) (zaP zmL zal zal) (zbx _)) (zja (zci B_gt (pq Hak 4) zal (zbx _)))))
 (zao (zee (pq Hak 5) (zaP zgU (zad (pq Hak 4)) (zaL (pq Hak 2) (zad (pq Hak 6)) (fun _ _=>rfl))))
 (zaq (zce (i:=4) (nq Hak) rfl (lq Hak 4) (zaP zlN (zad (pq Hak 4)) (zaL (pq Hak 2) (zad (pq Hak 6)) (fun _ _=>rfl))))))
 (zao (zce (i:=7) (nq Hak) rfl (lq Hak 7) (zaP zgU (zaP zcw (zaP zcw (zaP zcw (zad (pq Hak 3)) (zaP zd1 zal (zad (pq Hak 1)))) (zaP zd1 (zaP zd1 zal (zad (pq Hak 6))) (zad (pq Hak 6)))) (zad (pq Hak 6))) zal))
 (zao (zce (i:=7) (nq Hak) rfl (lq Hak 7) (zaP zgU (zaP zd1 (zad (pq Hak 7)) zal) zal))
 (zao (zce (i:=7) (nq Hak) rfl (lq Hak 7) (zaP zgU (zaP zd1 (zaP zgU (zaP zd1 (zad (pq Hak 7)) (zad (pq Hak 7))) zal) zal) zal))
 (zaq (zee (pq Hak 5) (zaP zgU (zaP zlN (zad (pq Hak 7)) zal) (zaL (pq Hak 2) (zad (pq Hak 6)) (fun _ _=>rfl)))))))))))
 (zaq (zaH (zad (pq Hak 5))))))))
theorem Kaj (F:Fun K "_law_cell_at" "_law_cell_at" Saj f fd):FnOk P w K mg base CX0 1 f fd ["_law_script", "_law_k"] (spD K 2 F_aj) :=
 okD (k:=0) (g:=g_aj) F (fq Haj 2) rfl fun cdv A outer s H E B G0 hr =>
 have hu:=hr.units
 have hgd:=hr.gd
 (zao (zbL (zci B_lt (pq Haj 1) (zaS (gq Haj 0) T.b_len (pq Haj 0)) (zbx _))
 (zaq (zaH (zaL (pq Haj 0) (zad (pq Haj 1)) (fun _ _=>rfl))))
 za2)
 (zaq (zaH zal)))
theorem zdW (d_ak:Def P w K mg base "_law_numbers" 1 3 F_ak) (d_aj:Def P w K mg base "_law_cell_at" 1 2 F_aj) (F:Fun K "_law_wishes" "_law_wishes" zbh f fd):FnOk P w K mg base CX0 2 f fd ["_law_script", "_law_at", "_law_most_things", "_law_most_askers", "_law_most_ranks"] (spT K 5 (.tup [.lst .leaf,.lst (.lst .leaf)]) zaY) :=
 okT (k:=1) (g:=zbP) F (fq zaa 5) rfl fun cdv A outer s H E B G0 hr =>
 have hu:=hr.units
 have hgd:=hr.gd
 (zdU (zce (i:=5) (nq zaa) rfl (lq zaa 5) (zaP zcw (zcy (zab (zad (pq zaa 2)) (zab (zad (pq zaa 3)) zaf))) (zaP zd1 (zcy (zab zal zaf)) (zad (pq zaa 2)))))
 (zdU (zce (i:=6) (nq zaa) rfl (lq zaa 6) (pdf d_ak hr (gq zaa 2) (zab (pdf d_aj hr (gq zaa 3) (zab (zad (pq zaa 0)) (zab (zad (pq zaa 1)) zaf))) (zab (zad (pq zaa 1)) (zab (zad (pq zaa 5)) zaf)))))
 (zdU (sD_1 (j:=7) (zah zbh) zbi ["_law_script", "_law_at", "_law_most_things", "_law_most_askers", "_law_most_ranks", "_law_sizes", "_law_digits", "_law_copies", "_law_lists", "_law_asker", "_law_cell", "_law_places", "_law_ranks", "_law_rank_here", "_law_row", "_law_digit"] 1 zcn (nq zaa) rfl rfl rfl (zca (zg3 (zad (pq zaa 6)) (zez zal) (zez (zaP zcw zal (zaL (pq zaa 6) zal (fun _ _=>rfl)))))) (fun cl C s0 H0 ex=>⟨fun B' G'=>(zav (zau (i:=15) (show (["_law_script", "_law_at", "_law_most_things", "_law_most_askers", "_law_most_ranks", "_law_sizes", "_law_digits", "_law_copies", "_law_lists", "_law_asker", "_law_cell", "_law_places", "_law_ranks", "_law_rank_here", "_law_row", "_law_digit"]:List Str).Nodup by decide +kernel) rfl (zaW rfl) (.inr (zbq rfl)))),fun B' G'=>zba,(za7 rfl rfl rfl fun B' G'=>(zhL (zcy (zab zal (zab zal (zab zal (zab zal (zab zal (zab zal (zab zal (zab zal (zab zal (zab zal (zab zal zaf)))))))))))) (zad (pvb 15)) (fun _ _=>rfl)))⟩) rfl rfl (by decide +kernel))
 (zdU (zis (i:=8) (nq zaa) rfl (lq zaa 8) zkS)
 (zdU (zb9 PassesOwn.never rfl (zbz (gq zaa 0) T.b_range (zab (zaP zcw zal (zaL (pq zaa 6) zal (fun _ _=>rfl))) zaf)) (zav (zau (i:=9) (nq zaa) rfl (lq zaa 9)))
 (zao (zce (i:=10) (nq zaa) rfl (lq zaa 10) (pdf d_aj hr (gq zaa 3) (zab (zad (pq zaa 0)) (zab (zaP zcw (zaP zcw (zad (pq zaa 1)) zal) (zad (pq zaa 9))) zaf))))
 (zao (zce (i:=11) (nq zaa) rfl (lq zaa 11) (pdf d_ak hr (gq zaa 2) (zab (zad (pq zaa 10)) (zab (zaP zcw (zaP zcw (zaP zd1 zal (zad (pq zaa 1))) (zaP zd1 zal (zad (pq zaa 9)))) zal) (zab (zaP zcw (zaP zd1 (zcy (zab (zaP zcw (zad (pq zaa 4)) zal) zaf)) (zad (pq zaa 2))) (zcy (zab zal zaf))) zaf)))))
 (zao (zcz (i:=12) (nq zaa) rfl (lq zaa 12) (zdx zaf))
 (zao (zb9 PassesOwn.never rfl (zhQ (gq zaa 0) T.b_range (zab zal (zab (zaP zcw (zad (pq zaa 4)) zal) zaf))) (zav (zau (i:=13) (nq zaa) rfl (lq zaa 13)))
 (zao (sD_1 (j:=14) (zah zbh) zbi ["_law_script", "_law_at", "_law_most_things", "_law_most_askers", "_law_most_ranks", "_law_sizes", "_law_digits", "_law_copies", "_law_lists", "_law_asker", "_law_cell", "_law_places", "_law_ranks", "_law_rank_here", "_law_row", "_law_thing"] 1 zcn (nq zaa) rfl rfl rfl (zbz (gq zaa 0) T.b_range (zab (zaS (gq zaa 1) T.b_len (pq zaa 7)) zaf)) (fun cl C s0 H0 ex=>⟨fun B' G'=>(zav (zau (i:=15) (show (["_law_script", "_law_at", "_law_most_things", "_law_most_askers", "_law_most_ranks", "_law_sizes", "_law_digits", "_law_copies", "_law_lists", "_law_asker", "_law_cell", "_law_places", "_law_ranks", "_law_rank_here", "_law_row", "_law_thing"]:List Str).Nodup by decide +kernel) rfl (zaW rfl) (.inr (zbq rfl)))),fun B' G'=>(zkC (zcx (B_eq hu) (zaL (pvb 11) (zad (pvb 15)) (fun _ _=>rfl)) (zad (pvb 13)) (zbx _))),(za7 rfl rfl rfl fun B' G'=>(zad (pvb 15)))⟩) rfl rfl (by decide +kernel))
 (zaq (zbL (zci (B_ne hu) (pq zaa 14) (zcy zaf) (zbx _))
 (zaq (zee (pq zaa 12) (zhL (zcy (zab (zad (pq zaa 14)) (zab (zkE (zad (pq zaa 14)) zgq zgq (zez (zfZ zal))) zaf))) (zaL (pq zaa 11) (zfZ zal) (fun _ _=>rfl)) (fun _ _=>rfl))))
 za2))))
 (zaq (zkT (pq zaa 8) (pq zaa 12))))))))
 (zl2 (zjC (p1:=.lst .leaf) (p2:=.lst (.lst .leaf)) (pq zaa 7) (pq zaa 8))))))))
theorem zd5 (d_ag:Def P w K mg base "look_at_wishes" 6 1 F_ag) (F:Fun K "all_wishes" "all_wishes" zb6 f fd):FnOk P w K mg base CX0 7 f fd ["wishes"] (spO K 1 za9) :=
 okO (k:=6) (g:=zcU) F (fq zaO 1) rfl fun cdv A outer s H E B G0 hr =>
 have hu:=hr.units
 have hgd:=hr.gd
 (zga (zdw (pdf d_ag hr (gq zaO 2) (zab (zad (pq zaO 0)) zaf)))
 (zjZ (ziy zl8 (gq zaO 1) T.b_sorted PyProof.Rows.boot_sorted (zab (zc3 (zg2 (zah zb6) zb7 ["wishes", "asker", "ranks", "rank", "thing"] 4 zfp rfl (zdB (gq zaO 0) T.b_enumerate (zab (zaL (pq zaO 0) zal (fun _ _=>rfl)) zaf)) (fun cl C s0 H0 ex=>⟨fun B' G'=>(zed rfl (zbp (zav (zau (i:=1) (show (["wishes", "asker", "ranks", "rank", "thing"]:List Str).Nodup by decide +kernel) rfl (zaW rfl) (.inr (zbq rfl)))) (zbp (zav (zau (i:=2) (show (["wishes", "asker", "ranks", "rank", "thing"]:List Str).Nodup by decide +kernel) rfl (zaW rfl) (.inr (zbq rfl)))) zec))),fun B' G'=>zba,(zcg rfl rfl rfl rfl (fun _=>rfl) (fun B' G'=>(zca (zad (pvb 2)))) (fun B' G'=>(zav (zau (i:=3) (show (["wishes", "asker", "ranks", "rank", "thing"]:List Str).Nodup by decide +kernel) rfl (zaW rfl) (.inr (zbq rfl))))) (fun B' G'=>zba) (zcg rfl rfl rfl rfl (fun _=>rfl) (fun B' G'=>(zca (zad (pvb 3)))) (fun B' G'=>(zav (zau (i:=4) (show (["wishes", "asker", "ranks", "rank", "thing"]:List Str).Nodup by decide +kernel) rfl (zaW rfl) (.inr (zbq rfl))))) (fun B' G'=>zba) (za7 rfl rfl rfl fun B' G'=>(zdv (zab (zad (pvb 1)) (zab (zad (pvb 4)) zaf))))))⟩) rfl rfl (by decide +kernel))) zaf))))
theorem zd6 (d_am:Def P w K mg base "_law_rank" 1 3 F_am) (F:Fun K "_law_pairs" "_law_pairs" zcV f fd):FnOk P w K mg base CX0 2 f fd ["_law_wishes_here"] (spO K 1 zbw) :=
 okO (k:=1) (g:=zbv) F (fq zak 1) rfl fun cdv A outer s H E B G0 hr =>
 have hu:=hr.units
 have hgd:=hr.gd
 (zga (zcz (i:=1) (nq zak) rfl (lq zak 1) (zdx zaf))
 (zga (zb9 PassesOwn.never rfl (zbz (gq zak 1) T.b_range (zab (zaN zhO (gq zak 0) T.b_len boot_len (zab (zaL (pq zak 0) zal (fun _ _=>rfl)) zaf)) zaf)) (zav (zau (i:=2) (nq zak) rfl (lq zak 2)))
 (zaq (zb9 PassesOwn.never rfl (zbz (gq zak 1) T.b_range (zab (zaN zhO (gq zak 0) T.b_len boot_len (zab (zaL (pq zak 0) zal (fun _ _=>rfl)) zaf)) zaf)) (zav (zau (i:=3) (nq zak) rfl (lq zak 3)))
 (zaq (zbL (zcx B_gt (pdf d_am hr (gq zak 2) (zab (zad (pq zak 0)) (zab (zad (pq zak 2)) (zab (zad (pq zak 3)) zaf)))) zal (zbx _))
 (zaq (zee (pq zak 1) (zdv (zab (zad (pq zak 2)) (zab (zad (pq zak 3)) zaf)))))
 za2)))))
 (zjZ (zkY (pq zak 1)))))
theorem Kar (d_ah:Def P w K mg base "longest" 7 1 F_ah) (d_an:Def P w K mg base "_law_longest" 1 1 F_an) (d_aq:Def P w K mg base "_law_right" 2 2 F_aq) (d_ap:Def P w K mg base "_law_pairs" 2 1 F_ap) (d_ai:Def P w K mg base "all_wishes" 7 1 F_ai) (d_al:Def P w K mg base "_law_wishes" 2 5 F_al) (d_ao:Def P w K mg base "_law_is_whole" 1 1 F_ao) (dO_all_wishes:DefO P w K mg base "all_wishes" 7 1 za9) (dO__law_pairs:DefO P w K mg base "_law_pairs" 2 1 zbw) (dT__law_wishes:DefT P w K mg base "_law_wishes" 2 5 (.tup [.lst .leaf,.lst (.lst .leaf)]) zaY) (F:Fun K "law" "law" Sar f fd):FnOk P w K mg base CX0 8 f fd ["_law_script"] (spD K 1 F_ar) :=
 okD (k:=7) (g:=g_ar) F (fq Har 1) rfl fun cdv A outer s H E B G0 hr =>
 have hu:=hr.units
 have hgd:=hr.gd
 (zao (zb9 PassesOwn.never rfl (zh9 (gq Har 3) T.b_range (zab zal (zab (zaN (zjU rfl) (gq Har 2) T.b_max boot_max (zab zal (zab (zaN (zlP rfl) (gq Har 1) T.b_min boot_min (zab (zaS (gq Har 0) T.b_len (pq Har 0)) (zab zal zaf))) zaf))) (zab zal zaf)))) (zav (zau (i:=1) (nq Har) rfl (lq Har 1)))
 (zao (zis (i:=2) (nq Har) rfl (lq Har 2) (zjx dT__law_wishes hr (gq Har 9) (zab (zad (pq Har 0)) (zab (zad (pq Har 1)) (zab zal (zab zal (zab zal zaf)))))))
 (zao (zcz (i:=3) (nq Har) rfl (lq Har 3) (zeS fun B' G'=>(zdS dO__law_pairs hr (gq Har 7) (zab (zad (pq Har 2)) zaf))))
 (zao (zce (i:=4) (nq Har) rfl (lq Har 4) (zjz fun B' G'=>(pdf d_ah hr (gq Har 4) (zab (zad (pq Har 2)) zaf))))
 (zao (zbL (zcS fun B' G'=>(PW.pt (zcd (zaK (zaQ (pdf d_ao hr (gq Har 10) (zab (zad (pq Har 4)) zaf)))) (zbJ (zci (B_ne hu) (pq Har 4) (pdf d_an hr (gq Har 5) (zab (zad (pq Har 2)) zaf)) (zbx _))))))
 (zaq (zaH zbo))
 za2)
 (zao (zcz (i:=5) (nq Har) rfl (lq Har 5) (zeS fun B' G'=>(zdS dO_all_wishes hr (gq Har 8) (zab (zad (pq Har 2)) zaf))))
 (zao (zbL (zcS fun B' G'=>(zaK (zaQ (pdf d_aq hr (gq Har 6) (zab (zad (pq Har 5)) (zab (zad (pq Har 3)) zaf))))))
 (zaq (zaH zbo))
 za2)
 (zao (zee (pq Har 5) (zdv (zab zal (zab zal zaf))))
 (zao (zbL (zcS fun B' G'=>(PW.pt (zcd (zaK (zaQ (pdf d_aq hr (gq Har 6) (zab (pdf d_ai hr (gq Har 8) (zab (zad (pq Har 2)) zaf)) (zab (zad (pq Har 3)) zaf))))) (zbJ (zci (B_ne hu) (pq Har 2) (pdf d_al hr (gq Har 9) (zab (zad (pq Har 0)) (zab (zad (pq Har 1)) (zab zal (zab zal (zab zal zaf)))))) (zbx _))))))
 (zaq (zaH zbo))
 za2)
 (zao (zcz (i:=5) (nq Har) rfl (lq Har 5) (zeS fun B' G'=>(zdS dO_all_wishes hr (gq Har 8) (zab (zad (pq Har 2)) zaf))))
 (zao (zl3 (zgd (k:=1) (ziu (pq Har 2))))
 (zao (zl4 (zgd (k:=0) (zgd (k:=1) (ziu (pq Har 2)))))
 (zao (zbL (zcS fun B' G'=>(PW.pt (zcd (zaK (zaQ (pdf d_aq hr (gq Har 6) (zab (zad (pq Har 5)) (zab (zad (pq Har 3)) zaf))))) (zbJ (zaK (zaQ (pdf d_aq hr (gq Har 6) (zab (pdf d_ai hr (gq Har 8) (zab (zad (pq Har 2)) zaf)) (zab (pdf d_ap hr (gq Har 7) (zab (zad (pq Har 2)) zaf)) zaf)))))))))
 (zaq (zaH zbo))
 za2)
 (zaq (zbL (zcS fun B' G'=>(zcx (B_ne hu) (pdf d_ah hr (gq Har 4) (zab (zad (pq Har 2)) zaf)) (pdf d_an hr (gq Har 5) (zab (zad (pq Har 2)) zaf)) (zbx _)))
 (zaq (zaH zbo))
 za2)))))))))))))))
 (zaq (zaH zbo)))
end
theorem zaG:recsOf q0=zdR p0 ixL:=by
 show recsOf (PySem.W.view PySem.Challenge.pw_wishdeal_k09_longest_and_all zdm)=zdR PySem.Challenge.pw_wishdeal_k09_longest_and_all ixL
 rw [PySem.W.Fast.te3399658132070893891,PySem.W.Fast.te9858352083553473798]
 kernel_rfl
theorem zc9:(["all", "bool", "enumerate", "int", "isinstance", "len", "list", "max", "min", "range", "set", "sorted", "tuple"]:List Str).all (zju q0 (PySem.W.looseW q0 []))=true:=by
 show List.all _ (zju (PySem.W.view PySem.Challenge.pw_wishdeal_k09_longest_and_all zdm) (PySem.W.looseW (PySem.W.view PySem.Challenge.pw_wishdeal_k09_longest_and_all zdm) []))=true
 k_qdec
theorem zd7:valOf q0 "MOST_ASKERS" = some (.int 7):=by
 show valOf (PySem.W.view PySem.Challenge.pw_wishdeal_k09_longest_and_all zdm) _=_
 rw [PySem.W.Fast.te1987589406359920131,PySem.W.Fast.te9858352083553473798]
 kernel_rfl
theorem zd8:valOf q0 "MOST_COPIES" = some (.int 7):=by
 show valOf (PySem.W.view PySem.Challenge.pw_wishdeal_k09_longest_and_all zdm) _=_
 rw [PySem.W.Fast.te1987589406359920131,PySem.W.Fast.te9858352083553473798]
 kernel_rfl
theorem zeW:valOf q0 "MOST_RANKS" = some (.int 5):=by
 show valOf (PySem.W.view PySem.Challenge.pw_wishdeal_k09_longest_and_all zdm) _=_
 rw [PySem.W.Fast.te1987589406359920131,PySem.W.Fast.te9858352083553473798]
 kernel_rfl
theorem zd9:valOf q0 "MOST_THINGS" = some (.int 6):=by
 show valOf (PySem.W.view PySem.Challenge.pw_wishdeal_k09_longest_and_all zdm) _=_
 rw [PySem.W.Fast.te1987589406359920131,PySem.W.Fast.te9858352083553473798]
 kernel_rfl
theorem zl9 {l:PySem.W.OpenLaw} {w:World} {s0:Shared} {mg mb:Str->Option Value} {fa:Addr} {h:Heap} {XP:(Str->Option Value)->Heap->Prop} (G:PySem.W.Ground q0 [] [] XP w s0 mg mb h) (hfa:mg "law" = some (.ref fa)) :
  ∃ fd:FuncData,(∀ (s:Shared) (v:Value),BindsTo s fd ⟨[v],[]⟩ [("_law_script", v)])/\∀ base:Heap,FnOk l.prog w (whole h) mg base CX0 8 fa fd ["_law_script"] (spD (whole h) 1 F_ar):=by
 have T:Txt (whole h) mg:=⟨zbe G.T zc9 (.head _),zbe G.T zc9 (.tail _ (.head _)),zbe G.T zc9 (.tail _ (.tail _ (.head _))),zbe G.T zc9 (.tail _ (.tail _ (.tail _ (.head _)))),zbe G.T zc9 (.tail _ (.tail _ (.tail _ (.tail _ (.head _))))),zbe G.T zc9 (.tail _ (.tail _ (.tail _ (.tail _ (.tail _ (.head _)))))),zbe G.T zc9 (.tail _ (.tail _ (.tail _ (.tail _ (.tail _ (.tail _ (.head _))))))),zbe G.T zc9 (.tail _ (.tail _ (.tail _ (.tail _ (.tail _ (.tail _ (.tail _ (.head _)))))))),zbe G.T zc9 (.tail _ (.tail _ (.tail _ (.tail _ (.tail _ (.tail _ (.tail _ (.tail _ (.head _))))))))),zbe G.T zc9 (.tail _ (.tail _ (.tail _ (.tail _ (.tail _ (.tail _ (.tail _ (.tail _ (.tail _ (.head _)))))))))),zbe G.T zc9 (.tail _ (.tail _ (.tail _ (.tail _ (.tail _ (.tail _ (.tail _ (.tail _ (.tail _ (.tail _ (.head _))))))))))),zbe G.T zc9 (.tail _ (.tail _ (.tail _ (.tail _ (.tail _ (.tail _ (.tail _ (.tail _ (.tail _ (.tail _ (.tail _ (.head _)))))))))))),zbe G.T zc9 (.tail _ (.tail _ (.tail _ (.tail _ (.tail _ (.tail _ (.tail _ (.tail _ (.tail _ (.tail _ (.tail _ (.tail _ (.head _))))))))))))),zcR G.T zd7,zcR G.T zd8,zcR G.T zeW,zcR G.T zd9⟩
 refine zmY G.T zaG 27 "law" rfl rfl hfa (fun _ _ _ _ _ _ _=>rfl) fun base=>?_
 have d_aa:=zcq l.prog w base G.T zaG 4 "is_whole" rfl rfl (fun F=>Kaa T  F) fun _ _ _ _ _ _ us hl=>bz1 (us:=us) hl fun _=>rfl
 have d_ab:=zcq l.prog w base G.T zaG 5 "is_number_below" rfl rfl (fun F=>Kab T d_aa F) fun _ _ _ _ _ _ us hl=>bz2 (us:=us) hl fun _ _=>rfl
 have d_ad:=zcq l.prog w base G.T zaG 12 "is_rank" rfl rfl (fun F=>Kad T d_ab F) fun _ _ _ _ _ _ us hl=>bz2 (us:=us) hl fun _ _=>rfl
 have d_ae:=zcq l.prog w base G.T zaG 13 "is_asker_list" rfl rfl (fun F=>Kae T d_ad F) fun _ _ _ _ _ _ us hl=>bz2 (us:=us) hl fun _ _=>rfl
 have d_af:=zcq l.prog w base G.T zaG 14 "look_at_lists" rfl rfl (fun F=>Kaf T d_ae F) fun _ _ _ _ _ _ us hl=>bz2 (us:=us) hl fun _ _=>rfl
 have d_ac:=zcq l.prog w base G.T zaG 11 "look_at_copies" rfl rfl (fun F=>Kac T d_ab F) fun _ _ _ _ _ _ us hl=>bz1 (us:=us) hl fun _=>rfl
 have d_ag:=zcq l.prog w base G.T zaG 15 "look_at_wishes" rfl rfl (fun F=>Kag T d_af d_ac F) fun _ _ _ _ _ _ us hl=>bz1 (us:=us) hl fun _=>rfl
 have d_ah:=zcq l.prog w base G.T zaG 16 "longest" rfl rfl (fun F=>Kah T d_ag F) fun _ _ _ _ _ _ us hl=>bz1 (us:=us) hl fun _=>rfl
 have d_an:=zcq l.prog w base G.T zaG 23 "_law_longest" rfl rfl (fun F=>Kan T  F) fun _ _ _ _ _ _ us hl=>bz1 (us:=us) hl fun _=>rfl
 have d_ao:=zcq l.prog w base G.T zaG 24 "_law_is_whole" rfl rfl (fun F=>Kao T  F) fun _ _ _ _ _ _ us hl=>bz1 (us:=us) hl fun _=>rfl
 have d_aq:=zcq l.prog w base G.T zaG 26 "_law_right" rfl rfl (fun F=>Kaq T d_ao F) fun _ _ _ _ _ _ us hl=>bz2 (us:=us) hl fun _ _=>rfl
 have d_am:=zcq l.prog w base G.T zaG 22 "_law_rank" rfl rfl (fun F=>Kam T  F) fun _ _ _ _ _ _ us hl=>bz3 (us:=us) hl fun _ _ _=>rfl
 have d_ap:=zcq l.prog w base G.T zaG 25 "_law_pairs" rfl rfl (fun F=>Kap T d_am F) fun _ _ _ _ _ _ us hl=>bz1 (us:=us) hl fun _=>rfl
 have d_ai:=zcq l.prog w base G.T zaG 17 "all_wishes" rfl rfl (fun F=>Kai T d_ag F) fun _ _ _ _ _ _ us hl=>bz1 (us:=us) hl fun _=>rfl
 have d_ak:=zcq l.prog w base G.T zaG 20 "_law_numbers" rfl rfl (fun F=>Kak T  F) fun _ _ _ _ _ _ us hl=>bz3 (us:=us) hl fun _ _ _=>rfl
 have d_aj:=zcq l.prog w base G.T zaG 19 "_law_cell_at" rfl rfl (fun F=>Kaj T  F) fun _ _ _ _ _ _ us hl=>bz2 (us:=us) hl fun _ _=>rfl
 have dT__law_wishes:=zl6 l.prog w base G.T zaG 21 "_law_wishes" rfl rfl (fun F=>zdW T d_ak d_aj F) fun _ _ _ _ _ _ us hl=>bz5 (us:=us) hl fun _ _ _ _ _=>rfl
 have d_al:=dT__law_wishes.def
 have dO_all_wishes:=zj0 l.prog w base G.T zaG 17 "all_wishes" rfl rfl (fun F=>zd5 T d_ag F) fun _ _ _ _ _ _ us hl=>bz1 (us:=us) hl fun _=>rfl
 have dO__law_pairs:=zj0 l.prog w base G.T zaG 25 "_law_pairs" rfl rfl (fun F=>zd6 T d_am F) fun _ _ _ _ _ _ us hl=>bz1 (us:=us) hl fun _=>rfl
 exact fun {_ _} F=>Kar T d_ah d_an d_aq d_ap d_ai d_al d_ao dO_all_wishes dO__law_pairs dT__law_wishes F
abbrev d_ar:DefRec:=⟨"law", zcc Sar,zbn Sar,zah Sar,zmX Sar⟩
theorem walk {YP:World->Heap->Prop} {XP:(Str->Option Value)->Heap->Prop} (hlaw:∀ ns:List Int,ns.length<=63->F_ar [.list (ns.map PyData.int)]=some (.bool true)):PySem.W.WalkO q0 [] XP YP (PySem.Challenge.rw_wishdeal_k09_longest_and_all).row.toRowW d_ar [] (fun f vs=>PySem.call f vs) :=
 zjv (n:=63) (k:=8) (x := "_law_script") rfl (by decide) rfl ⟨rfl,by decide,by decide,rfl⟩ (fun _ _ _ _ _ _ G hm=>zl9 G hm) hlaw
theorem asm {α : Type} {a b : α} (h:a=b):a=b:=h
theorem zma {i:Nat} {x:Option Sl} {ρ ρ':DEnv} (h : ρ.set i x = ρ') : ρ.set i x = ρ':=h
theorem zmb {i:Nat} {ρ : DEnv} {x:Option (Option Sl)} (h : ρ[i]?=x) : ρ[i]?=x:=h
theorem asmN {ds:List D} {n:Nat} (h:ds.length < n):ds.length < n:=h
theorem zm2 {ds:List D} {n:Nat} (h:ds.length<=n):ds.length<=n:=h
theorem zmc {i:Nat} {ρ : DEnv} (h:i < ρ.length):i < ρ.length:=h
theorem ziE {g:M (List D)} {ρ ρ1:DEnv} {xs r:List D} (h1:g ρ = .ok xs ρ1) (h2:zf4 xs=some r):zjk g ρ = .ok r ρ1:=by unfold zjk;exact zat h1 (zbr h2)
local macro_rules | `(tactic| walk_at "set")=>`(tactic| first | (simp only [List.set_cons_succ,List.set_cons_zero];done) | (simp only [List.set_cons_succ,List.set_cons_zero];rfl) | rfl)
local macro_rules | `(tactic| walk_at "side")=>`(tactic| first | assumption | omega | (simp only [List.length_cons,List.length_nil,List.length_map,List.length_append];omega))
local macro_rules | `(tactic| walk_at "st1")=>`(tactic| first
 | with_reducible apply zek
 | with_reducible apply zbM
 | ((with_reducible apply zgw);exact rfl)
 | with_reducible apply zjW
 | with_reducible apply st_setI
 | with_reducible apply zdK
 | with_reducible exact st_nx)
local macro_rules | `(tactic| walk_at "ev1")=>`(tactic| first
 | with_reducible exact zaj
 | with_reducible exact zan
 | ((with_reducible apply zai);exact rfl)
 | with_reducible apply zaF
 | with_reducible apply zac
 | with_reducible apply zjY
 | with_reducible apply ev_zip
 | ((with_reducible apply ev_listO);exact rfl)
 | with_reducible apply za8
 | ((with_reducible apply zcB);exact rfl)
 | ((with_reducible apply zgx);exact rfl)
 | with_reducible apply ev_join
 | with_reducible apply zbV
 | ((with_reducible apply zcJ);exact rfl)
 | with_reducible apply zbC
 | with_reducible apply zie
 | ((with_reducible apply zbc);exact rfl)
 | ((with_reducible apply zif);exact rfl)
 | with_reducible apply zdI
 | with_reducible apply zig
 | with_reducible apply ziE
 | with_reducible apply ev_enum1
 | with_reducible apply ev_count
 | with_reducible apply ev_index
 | with_reducible apply zdJ
 | with_reducible apply ev_iter
 | with_reducible apply ev_sl
 | with_reducible apply zeF
 | with_reducible apply zbF
 | with_reducible apply zaZ
 | with_reducible apply zgv
 | with_reducible apply zdf
 | with_reducible apply zeE
 | ((with_reducible apply zeD);exact rfl;walk_at "set")
 | ((with_reducible apply ev_ixO);exact rfl)
 | with_reducible apply zaC
 | ((with_reducible apply asm);(with_reducible assumption))
 | with_reducible exact zbD
 | with_reducible exact zkI
 | with_reducible exact zlY
 | with_reducible exact zih
 | with_reducible exact zii
 | with_reducible exact za0
 | with_reducible exact vop_lenT
 | with_reducible exact vop_sl
 | with_reducible exact zgy
 | with_reducible exact zdM
 | with_reducible exact vop_itT
 | with_reducible exact vop_itS
 | with_reducible exact vop_inS
 | with_reducible exact vop_ninS
 | with_reducible exact vop_iter
 | with_reducible exact zcL
 | with_reducible exact vop_enum1
 | with_reducible exact zeK
 | with_reducible exact vop_sumI
 | with_reducible exact vop_neT
 | with_reducible exact vop_eqT
 | with_reducible exact zeJ
 | ((with_reducible apply zkJ);walk_at "side")
 | ((with_reducible apply zkK) <;> walk_at "side")
 | ((with_reducible apply zjl) <;> walk_at "side")
 | ((with_reducible apply zeI) <;> walk_at "side")
 | ((with_reducible apply zeH);walk_at "side")
 | ((with_reducible apply zmc);exact of_decide_eq_true rfl)
 | ((with_reducible apply zaB);walk_at "st1")
 | ((with_reducible apply zdL);walk_at "st1")
 | walk_at "st1"
 | ((with_reducible apply zmb);exact rfl)
 | ((with_reducible apply asmN);walk_at "side")
 | ((with_reducible apply zm2);walk_at "side")
 | with_reducible apply zbs
 | ((with_reducible apply zma);walk_at "set")
 | ((with_reducible apply zmc);exact of_decide_eq_true rfl)
 | with_reducible apply tg_N
 | with_reducible exact tg_0
 | with_reducible apply tg_C
 | ((with_reducible apply tg_T);exact rfl)
 | ((with_reducible apply asmE);exact rfl))
local macro_rules | `(tactic| walk_at "ev")=>`(tactic| repeat' walk_at "ev1")
theorem zes {sizes found:List Int} {z d:Int} (h:∀ (j:Nat) d z,found[j]?=some d->sizes[j]?=some z->0<=d/\d < z) (hz:sizes[found.length]?=some z) (h0:0<=d/\d < z) :
  ∀ (j:Nat) d' z',(found ++ [d])[j]?=some d'->sizes[j]?=some z'->0<=d'/\d' < z':=by
 intro j d' z' e1 e2
 by_cases hj:j < found.length
 ·rw [List.getElem?_append_left hj] at e1
  exact h j d' z' e1 e2
 ·by_cases hj2:j=found.length
  ·subst hj2
   rw [hz] at e2
   cases e2
   rw [List.getElem?_append_right (Nat.le_refl _),Nat.sub_self,List.getElem?_cons_zero] at e1
   cases e1
   exact h0
  ·rw [List.getElem?_eq_none (by rw [List.length_append,List.length_singleton];omega)] at e1
   cases e1
def inv (c s:Int) (sizes:List Int) (n:Int) (i:Nat) (ρ : DEnv):Prop:=∃ left found x6 x7,ρ = [some (Sl.pub (.int c)),some (.pub (.int s)),some (.pub (.list (sizes.map .int))),some (.pub (.int n)),some (.pub (.int left)),some (.own ((found:List Int).map .int)),x6,x7] /\
 found.length=i/\∀ (j:Nat) d z,found[j]?=some d->sizes[j]?=some z->0<=d/\d < z
theorem ziF {c s n:Int} {sizes:List Int} (hs:∀ x ∈ sizes,0 < x/\x < 18446744073709551616) (hl:sizes.length<=1000) {i:Nat} {d:D} {ρ : DEnv} {Q:Out->Prop} (hi:(zaU 0 sizes.length)[i]?=some d) (h:inv c s sizes n i ρ) :
  ∃ ρ2,gN 6 d ρ = some ρ2/\Ho zge ρ2 (zf8 (inv c s sizes n (i+1)) Q):=by
 obtain ⟨left,found,x6,x7,rfl,hf,hfd⟩:=h
 obtain ⟨rfl,hlt⟩:=zbU hi
 obtain ⟨z,hz⟩:∃ z,sizes[i]?=some z:=⟨sizes[i]'(by omega),List.getElem?_eq_getElem _⟩
 obtain ⟨z1,z2⟩:=hs z (List.mem_of_getElem? hz)
 have hix:oIx (.list (sizes.map PyData.int)) (.int (0+(i:Int)))=some (.int z):=by
  rw [Int.zero_add]
  exact zb3 (by rw [List.getElem?_map,hz];rfl)
 generalize hk:(0:Int)+(i:Int)=k at hix ⊢
 have hk1:k < 18446744073709551616:=by omega
 have hk2 : -18446744073709551616 < k:=by omega
 have hlen:(found.map PyData.int).length < 1000000:=by rw [List.length_map];omega
 have pw:oPow (.int 10) (.int 18)=some (.int 1000000000000000000):=by rw [zkL (by decide)];rfl
 refine ⟨_,tg_N (of_decide_eq_true rfl) (by walk_at "set"),?_⟩
 unfold zge
 apply zbO
 case h1 =>
  apply zlX
  case h1=>walk_at "ev"
  case h2=>intro _;walk_at "ev"
 case h2 =>
  intro _
  walk_at "ev"
  refine zbd ?_
  exact ⟨_,found ++ [left % z],_,_,by rw [List.map_append];rfl,by rw [List.length_append,hf];rfl,zes hfd (by rw [hf];exact hz) ⟨Int.emod_nonneg _ (by omega),Int.emod_lt_of_pos _ z1⟩⟩
 case h3 =>
  intro _
  walk_at "ev"
  refine zbd ?_
  exact ⟨_,found ++ [_ % z],_,_,by rw [List.map_append];rfl,by rw [List.length_append,hf];rfl,zes hfd (by rw [hf];exact hz) ⟨Int.emod_nonneg _ (by omega),Int.emod_lt_of_pos _ z1⟩⟩
theorem zdh (c s:Int) {sizes:List Int} (hs:∀ x ∈ sizes,0 < x/\x < 18446744073709551616) (hl:sizes.length<=1000) :
  ∃ r,F_ak [.int c,.int s,.list (sizes.map PyData.int)]=some r/\∃ ds:List Int,r=.list (ds.map .int)/\ds.length=sizes.length/\∀ (j:Nat) d z,ds[j]?=some d->sizes[j]?=some z->0<=d/\d < z:=by
 refine zjX (ρ:=[some (.pub (.int c)),some (.pub (.int s)),some (.pub (.list (sizes.map PyData.int))),none,none,none,none,none]) rfl ?_
 unfold g_ak
 walk_at "ev"
 apply za3
 apply zcr (ds:=zaU 0 sizes.length) (inv c s sizes (if -1 - c > c then -1 - c else c))
 case h1 =>
  walk_at "ev"
  rw [List.length_map]
  exact zcK (by omega) (by omega)
 case h0=>exact ⟨_,[],none,none,rfl,rfl,fun j d z e=>by cases e⟩
 case hst=>exact fun i d ρ e h=>ziF hs hl e h
 case hend =>
  rintro ρ ⟨left,found,x6,x7,rfl,hf,hfd⟩
  refine zaM ?_
  walk_at "ev"
  rw [zaD] at hf
  exact ⟨_,rfl,found,rfl,by omega,hfd⟩
mutual
theorem zeX:∀ (d:PyData),d.canLay0=true->PyData.eqv d d=true
 | .none,_=>rfl
 | .bool b,_=>by cases b <;> rfl
 | .int i,_=>by simp [PyData.eqv]
 | .str s,_=>by simp [PyData.eqv]
 | .list xs,h=>eqvAll_refl xs h
 | .tuple xs,h=>eqvAll_refl xs h
 | .dict _,h=>by cases h
theorem eqvAll_refl:∀ (xs:List PyData),PyData.canLayAll0 xs=true->PyData.eqvAll xs xs=true
 | [],_=>rfl
 | x :: r,h=>by
  have h:(PyData.canLay0 x && PyData.canLayAll0 r)=true:=h
  rw [Bool.and_eq_true] at h
  show (PyData.eqv x x && PyData.eqvAll r r)=true
  rw [zeX x h.1,eqvAll_refl r h.2];rfl
end
theorem zbY:∀ {xs:List D},(∀ x ∈ xs,PyData.canLay0 x=true)->PyData.canLayAll0 xs=true
 | [],_=>rfl
 | x :: r,h=>by
  show (PyData.canLay0 x && PyData.canLayAll0 r)=true
  rw [h x List.mem_cons_self,zbY fun y hy=>h y (List.mem_cons_of_mem _ hy)];rfl
theorem zbZ {n:Nat}:∀ {xs:List D},(∀ x ∈ xs,PyData.depth x<=n)->PyData.depthAll xs<=n
 | [],_=>by simp [PyData.depthAll]
 | x :: r,h=>by
  have h1:=h x List.mem_cons_self
  have h2:=zbZ (n:=n) fun y hy=>h y (List.mem_cons_of_mem _ hy)
  simp only [PyData.depthAll]
  omega
def zaT (r:List Int):D:=.list (r.map PyData.int)
def zaw (rs:List (List Int)):D:=.list (rs.map zaT)
def zaA (cs:List Int) (ls:List (List (List Int))):D:=.tuple [.list (cs.map PyData.int),.list (ls.map zaw)]
structure zbl (n:Nat) (rs:List (List Int)):Prop where
 few:rs.length<=5
 some:∀ r ∈ rs,r ≠ []
 there:∀ r ∈ rs,∀ t ∈ r,0<=t/\t < n
 once:rs.flatten.Nodup
structure Good (cs:List Int) (ls:List (List (List Int))):Prop where
 c1:1<=cs.length
 c6:cs.length<=6
 c7:∀ c ∈ cs,0<=c/\c < 8
 l1:1<=ls.length
 l7:ls.length<=7
 rk:∀ rs ∈ ls,zbl cs.length rs
theorem zeY (r:List Int):(zaT r).canLay0=true:=zbY fun x hx=>by obtain ⟨y,_,rfl⟩:=List.mem_map.mp hx;rfl
theorem ziG (rs:List (List Int)):(zaw rs).canLay0=true:=zbY fun x hx=>by obtain ⟨y,_,rfl⟩:=List.mem_map.mp hx;exact zeY y
theorem zeZ (cs:List Int) (ls:List (List (List Int))):(zaA cs ls).canLay0=true:=zbY fun x hx=>by
 have hx:x=.list (cs.map PyData.int) ∨ x=.list (ls.map zaw):=by simpa using hx
 rcases hx with rfl | rfl
 ·exact zeY cs
 ·exact zbY fun x hx=>by obtain ⟨y,_,rfl⟩:=List.mem_map.mp hx;exact ziG y
theorem zk3 (i:Int):(PyData.int i).depth<=1:=by simp [PyData.depth]
theorem ze0 {n:Nat} {xs:List D} (h:PyData.depthAll xs<=n):(PyData.list xs).depth<=n+1:=by simp only [PyData.depth];omega
theorem ze1 (r:List Int):(zaT r).depth<=2:=ze0 (zbZ fun x hx=>by obtain ⟨y,_,rfl⟩:=List.mem_map.mp hx;exact zk3 y)
theorem ziH (rs:List (List Int)):(zaw rs).depth<=3:=ze0 (zbZ fun x hx=>by obtain ⟨y,_,rfl⟩:=List.mem_map.mp hx;exact ze1 y)
theorem zjF (cs:List Int) (ls:List (List (List Int))):(zaA cs ls).depth<=60:=by
 have h:PyData.depthAll [.list (cs.map PyData.int),.list (ls.map zaw)]<=4:=zbZ fun x hx=>by
  have hx:x=.list (cs.map PyData.int) ∨ x=.list (ls.map zaw):=by simpa using hx
  rcases hx with rfl | rfl
  ·have:=ze1 cs;unfold zaT at this;omega
  ·exact ze0 (zbZ fun x hx=>by obtain ⟨y,_,rfl⟩:=List.mem_map.mp hx;exact ziH y)
 unfold zaA
 simp only [PyData.depth] at h ⊢
 omega
theorem zk4 (cs:List Int) (ls:List (List (List Int))):oNe (zaA cs ls) (zaA cs ls)=some false:=by
 unfold oNe
 rw [if_pos ⟨zeZ cs ls,zeZ cs ls,zjF cs ls⟩,zeX _ (zeZ cs ls)];rfl
theorem ziI (i:Int):F_aa [.int i]=some (.bool true):=by
 refine zbG (ρ:=[some (.pub (.int i))]) rfl ?_
 unfold g_aa
 exact zbs (zf7 (zbV (zai rfl)) (fun _=>zkH (zbV (zai rfl)))) rfl
theorem zfH {i m:Int} (h0:0<=i) (h1:i < m):F_ab [.int i,.int m]=some (.bool true):=by
 refine zbG (ρ:=[some (.pub (.int i)),some (.pub (.int m))]) rfl ?_
 unfold g_ab
 have hb:(decide (0<=i) && decide (i < m))=true:=by simp [h0,h1]
 refine zbs (zf7 (t:=true) (u:=true) (zaC (zac (zai rfl) zan) rfl (ziI i)) (fun _=>?_)) rfl
 rw [← hb]
 exact zbV (zeG zaj (zai rfl) rfl (fun _=>zai rfl) (fun _=>rfl))
theorem zfI {α : Type} (l:List α):oAll [.list (l.map fun _=>.bool true)]=some (.bool true):=by
 have:(l.map fun _=>PyData.bool true)=(l.map fun _=>true).map PyData.bool:=by rw [List.map_map];rfl
 rw [this,zkO]
 congr 2
 rw [List.all_map]
 induction l with
 | nil=>rfl
 | cons x r ih=>simpa using ih
theorem zhb {r:List Int} {n:Int} (hne:r ≠ []) (hl:r.length<=1000) (h:∀ t ∈ r,0<=t/\t < n):F_ad [zaT r,.int n]=some (.bool true):=by
 refine zbG (ρ:=[some (.pub (zaT r)),some (.pub (.int n))]) rfl ?_
 unfold g_ad
 apply za3
 have hlen:oLen [zaT r]=some (.int r.length):=by unfold zaT;rw [za0,List.length_map]
 have hp:0 < r.length:=List.length_pos_iff.mpr hne
 apply zbO
 case h1=>exact zck (ρ1:=[some (.pub (zaT r)),some (.pub (.int n))]) (zb4 (zai rfl) rfl) (zaF (zbc rfl hlen) zaj zeJ)
 case h2 =>
       intro hh;have:(r.length:Int)=0:=by simpa using hh
       omega
 case h3 =>
  intro _
  refine zbN (zaM ?_)
  have hc:zbS (gN 2) (zae true) (dFun 2 F_ab (zag (dVar 2) (zag (dVar 1) (mNil)))) (r.map PyData.int) (zay [some (.pub (zaT r)),some (.pub (.int n))] ++ List.replicate 1 none) []=some (r.map fun _=>.bool true):=by
   rw [zcl (fun _=>true) (fun _=>.bool true) (fun ρ=>∃ x,ρ = [some (.pub (zaT r)),some (.pub (.int n)),x])]
   ·rw [List.filter_eq_self.mpr (fun _ _=>rfl),List.nil_append,List.map_map];rfl
   ·rintro d hm ρ ⟨x,rfl⟩
    obtain ⟨t,ht,rfl⟩:=List.mem_map.mp hm
    exact ⟨_,tg_N (of_decide_eq_true rfl) rfl,rfl,fun _=>zaC (zac (zai rfl) (zac (zai rfl) zan)) rfl (zfH (h t ht).1 (h t ht).2),_,rfl⟩
   ·exact ⟨none,rfl⟩
   ·rw [List.length_map,List.length_nil];omega
  exact zbs (zbC (zac (zbV (zc6 (za8 (zai rfl) rfl) hc)) zan) (zfI r)) rfl
theorem zfJ {a b c x3:Option Sl} (ha:zdD a=a) (hb:zdD b=b) (hc:zdD c=c) (hx:zdD x3=x3):∀ (ds es:List D) (x4:Option Sl),es.length+ds.length<=1000000 ->
  ∃ y,zbk (gN 4) (zae true) (dVar 4) ds [a,b,c,x3,x4] es=some (es ++ ds,[a,b,c,x3,y])
 | [],es,x4,_=>⟨x4,by rw [zbk,List.append_nil]⟩
 | d :: r,es,x4,h=>by
  rw [List.length_cons] at h
  obtain ⟨y,e⟩:=zfJ ha hb hc hx r (es ++ [d]) (some (.pub d)) (by rw [List.length_append,List.length_singleton];omega)
  refine ⟨y,?_⟩
  rw [zbk]
  have h1:gN 4 d [a,b,c,x3,x4]=some [a,b,c,x3,some (.pub d)]:=tg_N (of_decide_eq_true rfl) rfl
  rw [h1]
  dsimp only [zae]
  rw [if_pos rfl]
  have h2:dVar 4 [a,b,c,x3,some (.pub d)]=.ok d [a,b,c,x3,some (.pub d)]:=zai rfl
  rw [h2]
  dsimp only
  rw [if_pos (by omega)]
  have h3:zay [a,b,c,x3,some (.pub d)]=[a,b,c,x3,some (.pub d)]:=by
   unfold zay
   simp only [List.map_cons,List.map_nil,ha,hb,hc,hx]
   rfl
  rw [h3,e,List.append_assoc];rfl
theorem zdX {a b:D}:∀ (rs:List (List Int)) (es:List D) (x3 x4:Option Sl),es.length+rs.flatten.length<=1000000 ->
  zcf (gN 3) (zae true) (zaI (dVar 3)) (gN 4) (zae true) (dVar 4) (rs.map zaT) [some (.pub a),some (.pub b),none,x3,x4] es=some (es ++ rs.flatten.map PyData.int)
 | [],es,_,_,_=>by rw [List.map_nil,zcf];simp
 | r :: rs,es,x3,x4,h=>by
  rw [List.flatten_cons,List.length_append] at h
  rw [List.map_cons,zcf]
  have h1:gN 3 (zaT r) [some (.pub a),some (.pub b),none,x3,x4]=some [some (.pub a),some (.pub b),none,some (.pub (zaT r)),x4]:=tg_N (of_decide_eq_true rfl) rfl
  rw [h1]
  dsimp only [zae]
  rw [if_pos rfl]
  have h2:zaI (dVar 3) [some (.pub a),some (.pub b),none,some (.pub (zaT r)),x4]=.ok (r.map PyData.int) [some (.pub a),some (.pub b),none,some (.pub (zaT r)),x4]:=za8 (zai rfl) rfl
  rw [h2]
  dsimp only
  have h3:zay [some (.pub a),some (.pub b),none,some (.pub (zaT r)),x4]=[some (.pub a),some (.pub b),none,some (.pub (zaT r)),zdD x4]:=rfl
  rw [h3]
  obtain ⟨y,e⟩:=zfJ (a:=some (.pub a)) (b:=some (.pub b)) (c:=none) (x3:=some (.pub (zaT r))) rfl rfl rfl rfl (r.map PyData.int) es (zdD x4) (by rw [List.length_map];omega)
  rw [e]
  dsimp only
  have ih:=zdX (a:=a) (b:=b) rs (es ++ r.map PyData.int) (some (.pub (zaT r))) y (by rw [List.length_append,List.length_map];omega)
  refine Eq.trans ih ?_
  rw [List.flatten_cons,List.map_append,List.append_assoc]
theorem zhc {ns:List Int} (h:ns.Nodup):zdF ns=ns.length:=by
 unfold zdF
 have:∀ i,i<=ns.length->(PyProof.Rows.firstMet (fun i=>ns.getD i 0) i).length=i:=by
  intro i
  induction i with
  | zero=>intro _;rfl
  | succ i ih =>
   intro hi
   rw [PyProof.Rows.firstMet_succ]
   have hany:(PyProof.Rows.firstMet (fun i=>ns.getD i 0) i).any (· == ns.getD i 0)=false:=by
    rw [PyProof.Rows.firstMet_any,List.any_eq_false]
    intro x hx
    obtain ⟨j,hj,rfl⟩:=List.mem_map.mp hx
    have hj:=List.mem_range.mp hj
    intro e
    have e:ns.getD j 0=ns.getD i 0:=by simpa using e
    have l1:j < ns.length:=by omega
    have l2:i < ns.length:=by omega
    simp only [List.getD,List.getElem?_eq_getElem l1,List.getElem?_eq_getElem l2,Option.getD_some] at e
    exact absurd ((List.getElem_inj h).mp e) (by omega)
   unfold PyProof.Rows.step_dedup
   rw [hany]
   rw [if_neg (by decide),List.length_append,ih (by omega)];rfl
 exact this ns.length (Nat.le_refl _)
theorem zgf {rs:List (List Int)} {n:Nat} (g:zbl n rs) (hn:n<=6) (hf:rs.flatten.length<=1000):F_ae [zaw rs,.int n]=some (.bool true):=by
 refine zbG (ρ:=[some (.pub (zaw rs)),some (.pub (.int n)),none]) rfl ?_
 unfold g_ae
 have hlen:oLen [zaw rs]=some (.int rs.length):=by unfold zaw;rw [za0,List.length_map]
 have h5:=g.few
 have hrl:∀ r ∈ rs,r.length<=1000:=fun r hr=>Nat.le_trans (List.Sublist.length_le (List.sublist_flatten_of_mem hr)) hf
 apply za3
 apply zbO
 case h1=>exact zck (ρ1:=[some (.pub (zaw rs)),some (.pub (.int n)),none]) (zb4 (zai rfl) rfl) (zaF (zbc rfl hlen) zaj rfl)
 case h2 =>
       intro hh;have:(5:Int) < (rs.length:Int):=by simpa using hh
       omega
 case h3 =>
  intro _
  refine zbN (zaM ?_)
  have hc:zbS (gN 3) (zae true) (dFun 2 F_ad (zag (dVar 3) (zag (dVar 1) (mNil)))) (rs.map zaT) (zay [some (.pub (zaw rs)),some (.pub (.int n)),none] ++ List.replicate 1 none) []=some (rs.map fun _=>.bool true):=by
   rw [zcl (fun _=>true) (fun _=>.bool true) (fun ρ=>∃ x,ρ = [some (.pub (zaw rs)),some (.pub (.int n)),none,x])]
   ·rw [List.filter_eq_self.mpr (fun _ _=>rfl),List.nil_append,List.map_map];rfl
   ·rintro d hm ρ ⟨x,rfl⟩
    obtain ⟨r,hr,rfl⟩:=List.mem_map.mp hm
    exact ⟨_,tg_N (of_decide_eq_true rfl) rfl,rfl,fun _=>zaC (zac (zai rfl) (zac (zai rfl) zan)) rfl (zhb (g.some r hr) (hrl r hr) (g.there r hr)),_,rfl⟩
   ·exact ⟨none,rfl⟩
   ·rw [List.length_map,List.length_nil];omega
  apply za3
  apply zbO
  case h1=>exact zbF (zaZ (zbC (zac (zbV (zc6 (za8 (zai rfl) rfl) hc)) zan) (zfI rs)))
  case h2=>intro hh;cases hh
  case h3 =>
   intro _
   refine zbN (zaM ?_)
   have h2:zfo (zaI (dVar 0)) 2 (gN 3) (zae true) (zaI (dVar 3)) (gN 4) (zae true) (dVar 4) [some (.pub (zaw rs)),some (.pub (.int n)),none]=.ok (rs.flatten.map PyData.int) [some (.pub (zaw rs)),some (.pub (.int n)),none]:=by
    unfold zfo
    have e1:zaI (dVar 0) [some (.pub (zaw rs)),some (.pub (.int n)),none]=.ok (rs.map zaT) [some (.pub (zaw rs)),some (.pub (.int n)),none]:=za8 (zai rfl) rfl
    rw [e1]
    dsimp only
    have e2:=zdX (a:=zaw rs) (b:=.int n) rs [] none none (by rw [List.length_nil];omega)
    have e3:zcf (gN 3) (zae true) (zaI (dVar 3)) (gN 4) (zae true) (dVar 4) (rs.map zaT) (zay [some (.pub (zaw rs)),some (.pub (.int n)),none] ++ List.replicate 2 none) []=some ([] ++ rs.flatten.map PyData.int):=e2
    rw [e3]
    rfl
   refine zaB (zbM h2 (of_decide_eq_true rfl) rfl) ?_
   have hls:zc5 [.list (rs.flatten.map PyData.int)]=some (.int rs.flatten.length):=by
    unfold zc5
    dsimp only
    rw [zc4]
    dsimp only
    rw [if_pos (by omega),zhc g.once]
   refine zbs (zbV (zaF (zbC (zac (zeD rfl rfl) zan) hls) (zbc rfl za0) zeJ)) ?_
   rw [List.length_map]
   simp
theorem zcX {d:D}:∀ {xs:List D} {k i:Nat},(zc0 k xs)[i]?=some d->∃ x,xs[i]?=some x/\d=.tuple [.int ((k+i:Nat):Int),x]
 | [],k,i,h=>by cases h
 | x :: r,k,0,h=>by
  cases h
  exact ⟨x,rfl,rfl⟩
 | x :: r,k,i+1,h=>by
  obtain ⟨y,e,q⟩:=zcX (xs:=r) (k:=k+1) (i:=i) h
  exact ⟨y,e,by rw [q];congr 4;omega⟩
theorem ze2:∀ (n:Nat) (l:List Int),l.Nodup->(∀ x ∈ l,0<=x/\x < n)->l.length<=n
 | 0,[],_,_=>Nat.le_refl _
 | 0,x :: r,_,h=>by have:=h x List.mem_cons_self;omega
 | n+1,l,hn,h=>by
  by_cases hm:(n:Int) ∈ l
  ·have:=ze2 n (l.erase (n:Int)) (hn.erase _) fun x hx=>by
    have h1:=(List.Nodup.mem_erase_iff hn).mp hx
    have h2:=h x h1.2
    have h3:=h1.1
    omega
   rw [List.length_erase_of_mem hm] at this
   omega
  ·have:=ze2 n l hn fun x hx=>by
    have h2:=h x hx
    have h3:x ≠ (n:Int):=fun e=>hm (e ▸ hx)
    omega
   omega
theorem ze3 {n:Nat} {rs:List (List Int)} (g:zbl n rs):rs.flatten.length<=n:=ze2 n _ g.once fun x hx=>by
 obtain ⟨r,hr,hxr⟩:=List.mem_flatten.mp hx
 exact g.there r hr x hxr
theorem ziJ {cs:List Int} (h1:1<=cs.length) (h6:cs.length<=6) (h:∀ c ∈ cs,0<=c/\c < 8):F_ac [.list (cs.map PyData.int)]=some .none:=by
 refine zij (ρ:=[some (.pub (.list (cs.map PyData.int))),none,none]) rfl ?_
 unfold g_ac
 have hlen:oLen [.list (cs.map PyData.int)]=some (.int cs.length):=by rw [za0,List.length_map]
 apply za3
 apply zbO
 case h1=>exact zck (ρ1:=[some (.pub (.list (cs.map PyData.int))),none,none]) (zb4 (zai rfl) rfl) (zbF (zeG zaj (zbc rfl hlen) rfl (fun _=>zaj) (fun _=>rfl)))
 case h2 =>
  intro hh
  have a1:(1:Int)<=(cs.length:Int):=by omega
  have a2:(cs.length:Int)<=6:=by omega
  simp [a1,a2] at hh
 case h3 =>
  intro _
  refine zbN (zaM ?_)
  apply zcr (fun _ ρ=>∃ x1 x2,ρ = [some (.pub (.list (cs.map PyData.int))),x1,x2])
  case h1=>exact zdJ (zac (zai rfl) zan) zcL
  case h0=>exact ⟨_,_,rfl⟩
  case hst =>
   rintro i d ρ hi ⟨x1,x2,rfl⟩
   obtain ⟨x,hx,rfl⟩:=zcX hi
   obtain ⟨c,hc,rfl⟩:=List.mem_map.mp (List.mem_of_getElem? hx)
   refine ⟨_,tg_T rfl (tg_C (tg_N (of_decide_eq_true rfl) rfl) (tg_C (tg_N (of_decide_eq_true rfl) rfl) tg_0)),?_⟩
   unfold ziA
   apply zbO
   case h1=>exact zbF (zaZ (zaC (zac (zai rfl) (zac (zaF zaj zaj zbD) zan)) rfl (zfH (h c hc).1 (by have:=(h c hc).2;omega))))
   case h2=>intro hh;cases hh
   case h3=>exact fun _=>zbN (zbd ⟨_,_,rfl⟩)
  case hend=>exact fun ρ ⟨x1,x2,e⟩=>⟨_,rfl⟩
theorem zjG {ls:List (List (List Int))} {n:Nat} (hn:n<=6) (h1:1<=ls.length) (h7:ls.length<=7) (h:∀ rs ∈ ls,zbl n rs):F_af [.list (ls.map zaw),.int n]=some .none:=by
 refine zij (ρ:=[some (.pub (.list (ls.map zaw))),some (.pub (.int n)),none,none]) rfl ?_
 unfold g_af
 have hlen:oLen [.list (ls.map zaw)]=some (.int ls.length):=by rw [za0,List.length_map]
 apply za3
 apply zbO
 case h1=>exact zck (ρ1:=[some (.pub (.list (ls.map zaw))),some (.pub (.int n)),none,none]) (zb4 (zai rfl) rfl) (zbF (zeG zaj (zbc rfl hlen) rfl (fun _=>zaj) (fun _=>rfl)))
 case h2 =>
  intro hh
  have a1:(1:Int)<=(ls.length:Int):=by omega
  have a2:(ls.length:Int)<=7:=by omega
  simp [a1,a2] at hh
 case h3 =>
  intro _
  refine zbN (zaM ?_)
  apply zcr (fun _ ρ=>∃ x2 x3,ρ = [some (.pub (.list (ls.map zaw))),some (.pub (.int n)),x2,x3])
  case h1=>exact zdJ (zac (zai rfl) zan) zcL
  case h0=>exact ⟨_,_,rfl⟩
  case hst =>
   rintro i d ρ hi ⟨x1,x2,rfl⟩
   obtain ⟨x,hx,rfl⟩:=zcX hi
   obtain ⟨rs,hrs,rfl⟩:=List.mem_map.mp (List.mem_of_getElem? hx)
   refine ⟨_,tg_T rfl (tg_C (tg_N (of_decide_eq_true rfl) rfl) (tg_C (tg_N (of_decide_eq_true rfl) rfl) tg_0)),?_⟩
   unfold ziz
   have hfl:=ze3 (h rs hrs)
   apply zbO
   case h1=>exact zbF (zaZ (zaC (zac (zai rfl) (zac (zai rfl) zan)) rfl (zgf (h rs hrs) hn (by omega))))
   case h2=>intro hh;cases hh
   case h3=>exact fun _=>zbN (zbd ⟨_,_,rfl⟩)
  case hend=>exact fun ρ ⟨x1,x2,e⟩=>⟨_,rfl⟩
theorem zfK {cs:List Int} {ls:List (List (List Int))} (g:Good cs ls):F_ag [zaA cs ls]=some .none:=by
 refine zij (ρ:=[some (.pub (zaA cs ls)),none,none]) rfl ?_
 unfold g_ag
 apply za3
 apply zbO
 case h1=>exact zck (ρ1:=[some (.pub (zaA cs ls)),none,none]) (zb4 (zai rfl) rfl) (zaF (zbc rfl rfl) zaj zeK)
 case h2=>intro hh;cases hh
 case h3 =>
  intro _
  refine zbN (zaM ?_)
  have hlen:oLen [.list (cs.map PyData.int)]=some (.int (cs.length:Nat)):=by rw [za0,List.length_map]
  refine zaB (zjW (zai rfl) (tg_T rfl (tg_C (tg_N (of_decide_eq_true rfl) rfl) (tg_C (tg_N (of_decide_eq_true rfl) rfl) tg_0)))) ?_
  refine zaB (zdK (zaC (zac (zai rfl) zan) rfl (ziJ g.c1 g.c6 g.c7))) ?_
  exact zdL (zdK (zaC (zac (zai rfl) (zac (zbc rfl hlen) zan)) rfl (zjG g.c6 g.l1 g.l7 g.rk))) ⟨_,rfl⟩
theorem zgK:∀ (xs ys:List Int),PyData.eqvAll (xs.map PyData.int) (ys.map PyData.int)=decide (xs=ys)
 | [],[]=>rfl
 | [],y :: ys=>by simp [PyData.eqvAll]
 | x :: xs,[]=>by simp [PyData.eqvAll]
 | x :: xs,y :: ys=>by
  have ih:=zgK xs ys
  show (PyData.eqv (.int x) (.int y) && PyData.eqvAll (xs.map PyData.int) (ys.map PyData.int))=_
  rw [ih]
  have:PyData.eqv (.int x) (.int y)=decide (x=y):=rfl
  rw [this,Bool.eq_iff_iff]
  simp
theorem ziK {xs:List Int}:oNe (.list (xs.map PyData.int)) (.list [])=some (!decide (xs=[])):=by
 unfold oNe
 have h1:(PyData.list (xs.map PyData.int)).canLay0=true:=zeY xs
 have h3:(PyData.list (xs.map PyData.int)).depth<=60:=by have:=ze1 xs;unfold zaT at this;omega
 rw [if_pos ⟨h1,rfl,h3⟩]
 congr 2
 exact zgK xs []
theorem zk5 {xs:List D} {x:D} (h:xs.getLast?=some x):oIx (.list xs) (.int (-1))=some x:=by
 unfold oIx atI
 have hl:xs ≠ []:=by rintro rfl;cases h
 have hp:0 < xs.length:=List.length_pos_iff.mpr hl
 rw [List.getLast?_eq_getElem?] at h
 show (ixN xs.length (-1)).bind _=_
 unfold ixN
 rw [if_neg (by decide),if_pos (by omega)]
 have e2:(-1+(xs.length:Int)).toNat=xs.length - 1:=by omega
 simp only [Option.bind_some]
 rw [e2];exact h
theorem ziL {xs:List Int} {k:Nat} (h:k < xs.length):oIx (.list (xs.map PyData.int)) (.int k)=some (.int (xs.getD k 0)):=by
 refine zb3 ?_
 rw [List.getElem?_map,List.getElem?_eq_getElem h]
 simp [List.getD,List.getElem?_eq_getElem h]
theorem zdi (ns:List Int) (k:Nat) (hl:ns.length<=1000):∃ v,F_aj [.list (ns.map PyData.int),.int k]=some (.int v):=by
 have hlen:oLen [.list (ns.map PyData.int)]=some (.int ns.length):=by rw [za0,List.length_map]
 by_cases h:k < ns.length
 ·refine ⟨ns.getD k 0,zbG (ρ:=[some (.pub (.list (ns.map PyData.int))),some (.pub (.int k))]) rfl ?_⟩
  unfold g_aj
  apply za3
  apply zbO
  case h1=>exact zcB rfl (zbc rfl hlen) rfl
  case h2=>exact fun _=>zbs (zcJ rfl (zai rfl) (ziL h)) (zjn rfl)
  case h3 =>
        intro hh;have : ¬ (k:Int) < (ns.length:Int):=by simpa using hh
        omega
 ·refine ⟨0,zbG (ρ:=[some (.pub (.list (ns.map PyData.int))),some (.pub (.int k))]) rfl ?_⟩
  unfold g_aj
  apply za3
  apply zbO
  case h1=>exact zcB rfl (zbc rfl hlen) rfl
  case h2 =>
        intro hh;have:(k:Int) < (ns.length:Int):=by simpa using hh
        omega
  case h3=>exact fun _=>zbN (zaM (zbs zaj rfl))
def tab:List Int:=[1,1,2,0,3,7,1,4,5,6,1]
theorem zj1 {z:Int} (h0:0<=z) (h1:z < 11):oIx (.list (tab.map PyData.int)) (.int z)=some (.int (tab.getD z.toNat 0))/\0<=tab.getD z.toNat 0/\tab.getD z.toNat 0 < 8:=by
 have e:z=0 ∨ z=1 ∨ z=2 ∨ z=3 ∨ z=4 ∨ z=5 ∨ z=6 ∨ z=7 ∨ z=8 ∨ z=9 ∨ z=10:=by omega
 rcases e with rfl|rfl|rfl|rfl|rfl|rfl|rfl|rfl|rfl|rfl|rfl <;> exact ⟨rfl,by decide,by decide⟩
structure zdY (n:Nat) (pl:List Int) (j:Nat) (rs:List (List Int)):Prop where
 few:rs.length<=j
 some:∀ r ∈ rs,r ≠ []
 there:∀ r ∈ rs,∀ t ∈ r,(0<=t/\t < n)/\pl.getD t.toNat 0 < 1+(j:Int)
 once:rs.flatten.Nodup
def zfL (n:Nat) (pl:List Int) (r:Int):List Int:=((List.range n).filter fun k=>decide (pl.getD k 0=r)).map fun k:Nat=>(k:Int)
theorem zgg (n:Nat) (pl:List Int) (r:Int):(zfL n pl r).Nodup:=by
 unfold zfL
 refine List.Pairwise.map _ (fun a b h e=>h (by omega)) ((List.nodup_range).filter _)
theorem zfM {n:Nat} {pl:List Int} {r t:Int} (h:t ∈ zfL n pl r):(0<=t/\t < n)/\pl.getD t.toNat 0=r:=by
 unfold zfL at h
 obtain ⟨k,hk,rfl⟩:=List.mem_map.mp h
 have hk:=List.mem_filter.mp hk
 have h1:=List.mem_range.mp hk.1
 have h2:pl.getD k 0=r:=by simpa using hk.2
 exact ⟨⟨by omega,by omega⟩,by rw [Int.toNat_natCast];exact h2⟩
theorem zdY.add {n:Nat} {pl:List Int} {j:Nat} {rs:List (List Int)} {row:List Int} (g:zdY n pl j rs) (hne:row ≠ []) (hm:∀ t ∈ row,t ∈ zfL n pl (1+(j:Int))) (hn:row.Nodup):zdY n pl (j+1) (rs ++ [row]) where
 few:=by rw [List.length_append,List.length_singleton];have:=g.few;omega
 some:=fun r hr=>by
  rcases List.mem_append.mp hr with z | z
  ·exact g.some r z
  ·rw [List.mem_singleton.mp z];exact hne
 there:=fun r hr t ht=>by
  rcases List.mem_append.mp hr with z | z
  ·have:=g.there r z t ht;exact ⟨this.1,by omega⟩
  ·rw [List.mem_singleton.mp z] at ht
   have:=zfM (hm t ht)
   exact ⟨this.1,by omega⟩
 once:=by
  rw [List.flatten_append,List.flatten_singleton]
  refine List.nodup_append.mpr ⟨g.once,hn,fun a ha b hb e=>?_⟩
  subst e
  obtain ⟨r,hr,har⟩:=List.mem_flatten.mp ha
  have h1:=(g.there r hr a har).2
  have h2:=(zfM (hm a hb)).2
  omega
theorem zdY.next {n:Nat} {pl:List Int} {j:Nat} {rs:List (List Int)} (g:zdY n pl j rs):zdY n pl (j+1) rs :=
 ⟨by have:=g.few;omega,g.some,fun r hr t ht=>⟨(g.there r hr t ht).1,by have:=(g.there r hr t ht).2;omega⟩,g.once⟩
theorem zhd {a c:Int} {n i:Nat} {d:D} (h:(zcj a c n)[i]?=some d):d=.int (a+i * c):=by
 have hl:i < (zcj a c n).length:=(List.getElem?_eq_some_iff.mp h).1
 unfold zcj at h hl
 rw [List.length_map,List.length_range] at hl
 rw [List.getElem?_map,List.getElem?_eq_getElem (by rw [List.length_range];exact hl),List.getElem_range] at h
 cases h
 rfl
theorem ziM {x:D} {m:Nat} (h:m<=1000):oMul (.list [x]) (.int m)=some (.list (List.replicate m x)):=by
 rw [zg5 ⟨by omega,by omega,by rw [Int.toNat_natCast];show 1 * m<=_;omega⟩,Int.toNat_natCast]
 congr 2
 induction m with
 | zero=>rfl
 | succ m ih=>rw [List.replicate_succ,List.flatten_cons,ih (by omega)];rfl
def szG (T A:Nat):List Int:=(T:Int) :: (A:Int) :: List.replicate T 11
def szPG (T R:Nat):List Int:=List.replicate T ((R:Int)+1) ++ [2]
theorem ziN {T A:Nat}:(szG T A).length=T+2:=by unfold szG;simp
theorem zgL {T R:Nat}:(szPG T R).length=T+1:=by unfold szPG;simp
theorem zmd {T A:Nat} (h1:1<=T) (h2:T<=6) (h3:1<=A) (h4:A<=7):∀ x ∈ szG T A,0 < x/\x < 18446744073709551616:=fun x hx=>by
 unfold szG at hx
 simp only [List.mem_cons,List.mem_replicate] at hx
 rcases hx with rfl | rfl | ⟨_,rfl⟩ <;> omega
theorem zk6 {T R:Nat} (h:R<=5):∀ x ∈ szPG T R,0 < x/\x < 18446744073709551616:=fun x hx=>by
 unfold szPG at hx
 simp only [List.mem_append,List.mem_singleton,List.mem_replicate] at hx
 rcases hx with ⟨_,rfl⟩ | rfl <;> omega
theorem ziO {T R:Nat}:(szPG T R)[T]?=some 2:=by unfold szPG;simp
theorem zme {T A k:Nat} (h:k < T):(szG T A)[2+k]?=some 11:=by
 unfold szG
 rw [show 2+k=k+1+1 by omega,List.getElem?_cons_succ,List.getElem?_cons_succ,List.getElem?_replicate,if_pos h]
def zk7 (T A R:Nat) (S dz sz:D) (at_ n:Nat) (cs pl:List Int) (ls:List (List (List Int))) (x9 x10:Option Sl) (j:Nat) (ρ : DEnv):Prop:=∃ (rs:List (List Int)) (x13 x14:Option Sl),
 ρ = [some (.pub S),some (.pub (.int at_)),some (.pub (.int (T:Nat))),some (.pub (.int (A:Nat))),some (.pub (.int (R:Nat))),some (.pub sz),some (.pub dz),some (.own (cs.map PyData.int)),some (.deep (.lst (.lst .leaf)) (.list (ls.map zaw))),x9,x10,some (.pub (.list (pl.map PyData.int))),some (.own (rs.map zaT)),x13,x14]/\zdY n pl j rs
theorem zhe {T A R:Nat} {S dz sz:D} {at_ n:Nat} {cs pl:List Int} {ls:List (List (List Int))} {v9 v10:D} {j:Nat} {d:D} {ρ : DEnv} {Q:Out->Prop} (hcs:cs.length=n) (hT:T<=6) (hR:R<=5) (hn:n<=T) (hpl:pl.length=T+1) (hlast:pl.getD T 0=0 ∨ pl.getD T 0=1)
  (hj:(zaU 1 ((R:Int)+1))[j]?=some d) (h:zk7 T A R S dz sz at_ n cs pl ls (some (.pub v9)) (some (.pub v10)) j ρ) :
  ∃ ρ2,gN 13 d ρ = some ρ2/\Ho zbf ρ2 (zf8 (zk7 T A R S dz sz at_ n cs pl ls (some (.pub v9)) (some (.pub v10)) (j+1)) Q):=by
 obtain ⟨rs,x13,x14,rfl,g⟩:=h
 obtain ⟨rfl,hlt⟩:=zbU hj
 have hj5:j < R:=by omega
 refine ⟨_,tg_N (of_decide_eq_true rfl) (by walk_at "set"),?_⟩
 unfold zbf
 have hrd:zaU 0 ((n:Nat):Int)=(List.range n).map fun k=>.int (k:Int):=by
  unfold zaU
  have:((n:Int) - 0).toNat=n:=by omega
  rw [this]
  apply List.map_congr_left
  intro k _
  rw [Int.zero_add]
 have hc:zbS (gN 15) (dBin oEq (dIxN 11 (dVar 15)) (dVar 13)) (dVar 15) (zaU 0 ((n:Nat):Int)) (zay [some (.pub S),some (.pub (.int at_)),some (.pub (.int (T:Nat))),some (.pub (.int (A:Nat))),some (.pub (.int (R:Nat))),some (.pub sz),some (.pub dz),some (.own (cs.map PyData.int)),some (.deep (.lst (.lst .leaf)) (.list (ls.map zaw))),some (.pub v9),some (.pub v10),some (.pub (.list (pl.map PyData.int))),some (.own (rs.map zaT)),some (.pub (.int (1+(j:Int)))),x14] ++ List.replicate 1 none) []=some ((zfL n pl (1+(j:Int))).map PyData.int):=by
  rw [hrd,zcl (fun d=>match d with | .int k=>decide (pl.getD k.toNat 0=1+(j:Int)) | _=>false) (fun d=>d) (fun ρ=>∃ x,ρ = [some (.pub S),some (.pub (.int at_)),some (.pub (.int (T:Nat))),some (.pub (.int (A:Nat))),some (.pub (.int (R:Nat))),some (.pub sz),some (.pub dz),none,none,some (.pub v9),some (.pub v10),some (.pub (.list (pl.map PyData.int))),none,some (.pub (.int (1+(j:Int)))),zdD x14,x])]
  ·rw [List.nil_append,List.map_id',List.filter_map]
   unfold zfL
   rw [List.map_map]
   rfl
  ·rintro d hm ρ ⟨x,rfl⟩
   obtain ⟨k,hk,rfl⟩:=List.mem_map.mp hm
   have hk:=List.mem_range.mp hk
   refine ⟨_,tg_N (of_decide_eq_true rfl) rfl,zaF (zcJ rfl (zai rfl) (ziL (by omega))) (zai rfl) zeJ,fun _=>zai rfl,some (.pub (.int k)),?_⟩
   unfold zay
   cases x14 with
   | none=>rfl
   | some sl=>cases sl <;> rfl
  ·exact ⟨none,rfl⟩
  ·rw [List.length_map,List.length_range,List.length_nil];omega
 have hlen:(cs.map PyData.int).length=n:=by rw [List.length_map,hcs]
 refine zaB (zbM (zc6 (zdI (zac (zif rfl) zan) (by rw [hlen];exact zcK (by omega) (by omega))) hc) (of_decide_eq_true rfl) rfl) ?_
 generalize hrow:zfL n pl (1+(j:Int))=row
 apply zbO
 case h1=>exact zgx rfl (zdf zan (by decide)) rfl ziK
 case h2 =>
  intro hh
  have hne:row ≠ []:=by simpa using hh
  have hlx:oIx (.list (pl.map PyData.int)) (.int (-1))=some (.int (pl.getD T 0)):=zk5 (by
   rw [List.getLast?_eq_getElem?,List.length_map,hpl,List.getElem?_map,Nat.add_sub_cancel,List.getElem?_eq_getElem (show T < pl.length by omega)]
   simp [List.getD,List.getElem?_eq_getElem (show T < pl.length by omega)])
  obtain ⟨row',hix,hrow'⟩:∃ row':List Int,oIx (.list [.list (row.map PyData.int),.list (row.map PyData.int).reverse]) (.int (pl.getD T 0))=some (zaT row')/\(row'=row ∨ row'=row.reverse):=by
   rcases hlast with e | e
   ·rw [e];exact ⟨row,rfl,.inl rfl⟩
   ·rw [e];exact ⟨row.reverse,by show some (PyData.list (row.map PyData.int).reverse)=_;unfold zaT;rw [List.map_reverse],.inr rfl⟩
  have hrl:(rs.map zaT).length < 1000000:=by rw [List.length_map];have:=g.few;omega
  refine zdL (zgw rfl (zaF (zdf (zac (zeD rfl rfl) (zac (zlZ (zai rfl) zaj zaj (zeF (zie zaj))) zan)) (of_decide_eq_true rfl)) (zcJ rfl (zie zaj) hlx) hix) rfl hrl rfl) ?_
  refine zbd ⟨rs ++ [row'],some (.pub (.int (1+(j:Int)))),some (.pub (.list (row.map PyData.int))),by rw [List.map_append];rfl,g.add ?_ ?_ ?_⟩
  ·rcases hrow' with e | e <;> rw [e]
   ·exact hne
   ·exact fun z=>hne (List.reverse_eq_nil_iff.mp z)
  ·intro t ht
   rw [hrow]
   rcases hrow' with e | e <;> rw [e] at ht
   ·exact ht
   ·exact List.mem_reverse.mp ht
  ·have hnd:=zgg n pl (1+(j:Int))
   rw [hrow] at hnd
   rcases hrow' with e | e <;> rw [e]
   ·exact hnd
   ·exact (List.reverse_perm row).nodup_iff.mpr hnd
 case h3=>exact fun _=>zbN (zbd ⟨rs,_,_,rfl,g.next⟩)
def zk8 (T A R:Nat) (S dz sz:D) (at_ n:Nat) (cs:List Int) (i:Nat) (ρ : DEnv):Prop:=∃ (ls:List (List (List Int))) (x9 x10 x11 x12 x13 x14:Option Sl),
 ρ = [some (.pub S),some (.pub (.int at_)),some (.pub (.int (T:Nat))),some (.pub (.int (A:Nat))),some (.pub (.int (R:Nat))),some (.pub sz),some (.pub dz),some (.own (cs.map PyData.int)),some (.deep (.lst (.lst .leaf)) (.list (ls.map zaw))),x9,x10,x11,x12,x13,x14]/\ls.length=i/\∀ rs ∈ ls,zbl n rs/\rs.length<=R
theorem zgh {T A R:Nat} {ns:List Int} {dz sz:D} {at_ n:Nat} {cs:List Int} {i:Nat} {m:Int} {d:D} {ρ : DEnv} {Q:Out->Prop} (hns:ns.length<=1000) (hT:T<=6) (hR:R<=5) (hcs:cs.length=n) (hn:n<=T) (hm:m<=100)
  (hi:(zaU 0 m)[i]?=some d) (h:zk8 T A R (.list (ns.map PyData.int)) dz sz at_ n cs i ρ) :
  ∃ ρ2,gN 9 d ρ = some ρ2/\Ho zbg ρ2 (zf8 (zk8 T A R (.list (ns.map PyData.int)) dz sz at_ n cs (i+1)) Q):=by
 obtain ⟨ls,x9,x10,x11,x12,x13,x14,rfl,hl,hg⟩:=h
 obtain ⟨rfl,hlt⟩:=zbU hi
 refine ⟨_,tg_N (of_decide_eq_true rfl) (by walk_at "set"),?_⟩
 unfold zbg
 obtain ⟨v,hv⟩:=zdi ns (at_+1+i) hns
 have ev:((at_:Int)+1+(0+(i:Int)))=((at_+1+i:Nat):Int):=by omega
 rw [← ev] at hv
 refine zaB (zek (zaC (zac (zai rfl) (zac (zaF (zaF (zai rfl) zaj zbD) (zai rfl) zbD) zan)) rfl hv) (of_decide_eq_true rfl) rfl) ?_
 obtain ⟨r,hF,pl,rfl,hpl,hpb⟩:=zdh v (11 * (at_:Int)+3 * (0+(i:Int))+1) (sizes:=szPG T R) (zk6 hR) (by rw [zgL];omega)
 have hpl7:pl.length=T+1:=by rw [hpl,zgL]
 have hmul:oMul (.list [.int ((R:Int)+1)]) (.int (T:Nat))=some (.list (List.replicate T (.int ((R:Int)+1)))):=ziM (by omega)
 have hadd:oAdd (.list (List.replicate T (.int ((R:Int)+1)))) (.list [.int 2])=some (.list ((szPG T R).map PyData.int)):=by
  rw [zeH (by rw [List.length_replicate];show T+1<=_;omega)]
  unfold szPG
  rw [List.map_append,List.map_replicate]
  rfl
 refine zaB (zek (zaC (zac (zai rfl) (zac (zaF (zaF (zaF zaj (zai rfl) (zeI (by decide) (by decide))) (zaF zaj (zai rfl) (zeI (by decide) (by decide))) zbD) zaj zbD) (zac (zaF (zaF (zdf (zac (zaF (zai rfl) zaj zbD) zan) (of_decide_eq_true rfl)) (zai rfl) hmul) (zdf (zac zaj zan) (of_decide_eq_true rfl)) hadd) zan))) rfl hF) (of_decide_eq_true rfl) rfl) ?_
 refine zaB (zbM (zeE zan (of_decide_eq_true rfl)) (of_decide_eq_true rfl) rfl) ?_
 have hlast:pl.getD T 0=0 ∨ pl.getD T 0=1:=by
  have e:pl[T]?=some pl[T]:=List.getElem?_eq_getElem (by omega)
  have:=hpb T pl[T] 2 e ziO
  have e2:pl.getD T 0=pl[T]:=by simp [List.getD,e]
  rw [e2];omega
 apply za3
 apply zcr (zk7 T A R (.list (ns.map PyData.int)) dz sz at_ n cs pl ls (some (.pub (.int (0+(i:Int))))) (some (.pub (.int v))))
 case h1=>exact zig (zac zaj (zac (zaF (zai rfl) zaj zbD) zan)) (zjm (by omega) (by omega) (by decide) (by decide))
 case h0=>exact ⟨[],x13,x14,rfl,⟨Nat.le_refl _,fun _ h=>(by cases h),fun _ h=>(by cases h),List.nodup_nil⟩⟩
 case hst=>exact fun j d ρ e h=>zhe hcs hT hR hn hpl7 hlast e h
 case hend =>
  rintro ρ ⟨rs,y13,y14,rfl,g⟩
  refine zaM ?_
  have hl5:(zaU 1 ((R:Int)+1)).length=R:=by rw [zaD];omega
  rw [hl5] at g
  have hll:(ls.map zaw).length < 1000000:=by rw [List.length_map];omega
  refine zdL (zkW rfl rfl hll rfl) ?_
  refine zbd ⟨ls ++ [rs],some (.pub (.int (0+(i:Int)))),some (.pub (.int v)),some (.pub (.list (pl.map PyData.int))),none,y13,y14,by rw [List.map_append];rfl,by rw [List.length_append,hl];rfl,fun x hx=>?_⟩
  rcases List.mem_append.mp hx with z | z
  ·exact hg x z
  ·rw [List.mem_singleton.mp z];exact ⟨⟨by have:=g.few;omega,g.some,fun r hr t ht=>(g.there r hr t ht).1,g.once⟩,g.few⟩
theorem zfN (T A R:Nat) {ns:List Int} (hns:ns.length<=1000) (at_:Nat) (hT1:1<=T:=by decide) (hT:T<=6:=by decide) (hA1:1<=A:=by decide) (hA:A<=7:=by decide) (hR:R<=5:=by decide):∃ r,zaY [.list (ns.map PyData.int),.int at_,.int (T:Nat),.int (A:Nat),.int (R:Nat)]=some r/\∃ cs ls,r=zaA cs ls/\Good cs ls/\cs.length<=T/\ls.length<=A/\∀ rs ∈ ls,rs.length<=R:=by
 obtain ⟨v,hv⟩:=zdi ns at_ hns
 obtain ⟨r,hF,ds,rfl,hl,hd⟩:=zdh v at_ (sizes:=szG T A) (zmd hT1 hT hA1 hA) (by rw [ziN];omega)
 have hl8:ds.length=T+2:=by rw [hl,ziN]
 have at':∀ (j:Nat) (k z:Int),k=j->(szG T A)[j]?=some z->∃ d,oIx (.list (ds.map PyData.int)) (.int k)=some (.int d)/\ds[j]?=some d/\0<=d/\d < z:=fun j k z hk hz=>by
  subst hk
  have hj:j < ds.length:=by rw [hl];exact (List.getElem?_eq_some_iff.mp hz).1
  have e:ds[j]?=some ds[j]:=List.getElem?_eq_getElem hj
  obtain ⟨p0,p1⟩:=hd j ds[j] z e hz
  exact ⟨ds[j],zb3 (by rw [List.getElem?_map,e];rfl),e,p0,p1⟩
 obtain ⟨d0,x0,e0,p0,q0⟩:=at' 0 0 T rfl rfl
 obtain ⟨d1,x1,e1,p1,q1⟩:=at' 1 1 A rfl rfl
 have hmul:oMul (.list [.int 11]) (.int (T:Nat))=some (.list (List.replicate T (.int 11))):=ziM (by omega)
 have hadd:oAdd (.list [.int (T:Nat),.int (A:Nat)]) (.list (List.replicate T (.int 11)))=some (.list ((szG T A).map PyData.int)):=by
  rw [zeH (by rw [List.length_replicate];show 2+T<=_;omega)]
  unfold szG
  rw [List.map_cons,List.map_cons,List.map_replicate]
  rfl
 obtain ⟨n,hn⟩:∃ n:Nat,1+d0=n:=⟨(1+d0).toNat,by omega⟩
 refine zm1 (ρ:=[some (.pub (.list (ns.map PyData.int))),some (.pub (.int at_)),some (.pub (.int (T:Nat))),some (.pub (.int (A:Nat))),some (.pub (.int (R:Nat))),none,none,none,none,none,none,none,none,none,none]) rfl ?_
 unfold zbP
 refine zaB (zek (zaF (zdf (zac (zai rfl) (zac (zai rfl) zan)) (of_decide_eq_true rfl)) (zaF (zdf (zac zaj zan) (of_decide_eq_true rfl)) (zai rfl) hmul) hadd) (of_decide_eq_true rfl) rfl) ?_
 refine zaB (zek (zaC (zac (zaC (zac (zai rfl) (zac (zai rfl) zan)) rfl hv) (zac (zai rfl) (zac (zai rfl) zan))) rfl hF) (of_decide_eq_true rfl) rfl) ?_
 have hcut:DL.cutD (ds.map PyData.int) (some 2) (some (3+d0))=((ds.drop 2).take n).map PyData.int:=by
  rw [zjp (by decide) (by omega) (by omega)]
  have:(3+d0).toNat - (2:Int).toNat=n:=by omega
  rw [this];rfl
 have hrowl:((ds.drop 2).take n).length=n:=by rw [List.length_take,List.length_drop,hl8];omega
 have each:∀ z ∈ (ds.drop 2).take n,0<=z/\z < 11:=fun z hz=>by
  have hz:=List.mem_of_mem_take hz
  obtain ⟨k,hk,e⟩:=List.getElem_of_mem hz
  rw [List.length_drop,hl8] at hk
  rw [List.getElem_drop] at e
  have e2:ds[2+k]?=some z:=by rw [← e];exact List.getElem?_eq_getElem _
  refine hd (2+k) z 11 e2 (zme ?_)
  omega
 let cs:List Int:=((ds.drop 2).take n).map fun z=>tab.getD z.toNat 0
 have hcl:cs.length=n:=by show (List.map _ _).length=n;rw [List.length_map,hrowl]
 have hc:∀ xs:List (Option Sl),zay xs=xs->xs.length=15->zbS (gN 15) (zae true) (dBin oIx (mLst (zag (zae (.int 1)) (zag (zae (.int 1)) (zag (zae (.int 2)) (zag (zae (.int 0)) (zag (zae (.int 3)) (zag (zae (.int 7)) (zag (zae (.int 1)) (zag (zae (.int 4)) (zag (zae (.int 5)) (zag (zae (.int 6)) (zag (zae (.int 1)) (mNil))))))))))))) (dVar 15)) (((ds.drop 2).take n).map PyData.int) (zay xs ++ List.replicate 1 none) []=some (cs.map PyData.int):=by
  intro xs hx hxl
  rw [hx,zcl (fun _=>true) (fun d=>match d with | .int z=>.int (tab.getD z.toNat 0) | _=>.none) (fun ρ=>∃ x,ρ = xs ++ [x])]
  ·rw [List.filter_eq_self.mpr (fun _ _=>rfl),List.nil_append,List.map_map]
   show _=some ((((ds.drop 2).take n).map fun z=>tab.getD z.toNat 0).map PyData.int)
   rw [List.map_map]
   rfl
  ·rintro d hm ρ ⟨x,rfl⟩
   obtain ⟨z,hz,rfl⟩:=List.mem_map.mp hm
   have ht:=zj1 (each z hz).1 (each z hz).2
   have hset:(xs ++ [x]).set 15 (some (Sl.pub (.int z)))=xs ++ [some (.pub (.int z))]:=by
    rw [List.set_append_right _ _ (by omega),hxl];rfl
   have hget:(xs ++ [some (Sl.pub (.int z))])[15]?=some (some (Sl.pub (.int z))):=by
    rw [List.getElem?_append_right (by omega),hxl];rfl
   refine ⟨_,tg_N (by rw [List.length_append,hxl];exact of_decide_eq_true rfl) hset,rfl,fun _=>?_,some (.pub (.int z)),?_⟩
   ·exact zaF (zdf (zac zaj (zac zaj (zac zaj (zac zaj (zac zaj (zac zaj (zac zaj (zac zaj (zac zaj (zac zaj (zac zaj zan))))))))))) (of_decide_eq_true rfl)) (zai hget) ht.1
   ·unfold zay at hx ⊢
    rw [List.map_append,hx];rfl
  ·exact ⟨none,rfl⟩
  ·rw [List.length_map,hrowl,List.length_nil];omega
 refine zaB (zbM (zc6 (za8 (zjY (zai rfl) (zeF zaj) (zeF (zaF zaj (zcJ rfl zaj x0) zbD)) (by rw [zgy,hcut])) zdM) (hc _ rfl rfl)) (of_decide_eq_true rfl) rfl) ?_
 refine zaB (ziw zaj (of_decide_eq_true rfl) rfl) ?_
 apply za3
 apply zcr (zk8 T A R (.list (ns.map PyData.int)) (.list (ds.map PyData.int)) (.list ((szG T A).map PyData.int)) at_ n cs)
 case h1=>exact zdI (zac (zaF zaj (zcJ rfl zaj x1) zbD) zan) (zcK (by omega) (by omega))
 case h0=>exact ⟨[],_,_,_,_,_,_,rfl,rfl,fun _ h=>by cases h⟩
 case hst=>exact fun i d ρ e h=>zgh hns hT hR hcl (by omega) (by omega) e h
 case hend =>
  rintro ρ ⟨ls,y9,y10,y11,y12,y13,y14,rfl,hll,hg⟩
  rw [zaD] at hll
  refine zaM (zbN ⟨_,rfl,_,_,zkX rfl rfl rfl rfl (by decide),cs,ls,rfl,⟨?_,by omega,by omega,fun rs hrs=>(hg rs hrs).2⟩⟩)
  exact ⟨by omega,by omega,fun c hc=>by
   obtain ⟨z,hz,rfl⟩:=List.mem_map.mp hc
   exact (zj1 (each z hz).1 (each z hz).2).2,by omega,by omega,fun rs hrs=>by rw [hcl];exact (hg rs hrs).1⟩
def zbm (t:Int) (rs:List (List Int)):Nat:=if rs.findIdx (fun r=>r.contains t) < rs.length then rs.findIdx (fun r=>r.contains t)+1 else 0
theorem zk9 (a b:Int):PyData.eqv (.int a) (.int b)=(a == b):=by simp [PyData.eqv]
theorem zla (t:Int) (r:List Int):oIn (.int t) (zaT r)=some (r.contains t):=by
 have h1:PyData.canLayAll0 (r.map PyData.int)=true:=by
  induction r with
  | nil=>rfl
  | cons x r ih=>rw [List.map_cons];unfold PyData.canLayAll0;rw [ih];rfl
 unfold oIn zaT
 dsimp only
 rw [if_pos ⟨rfl,h1,Nat.zero_le _⟩]
 congr 1
 rw [List.any_map]
 clear h1
 induction r with
 | nil=>rfl
 | cons x r ih =>
  rw [List.any_cons,ih,List.contains_cons]
  congr 1
  show PyData.eqv (.int x) (.int t)=(t == x)
  rw [zk9]
  exact Bool.eq_iff_iff.2 ⟨fun h=>beq_iff_eq.2 (beq_iff_eq.1 h).symm,fun h=>beq_iff_eq.2 (beq_iff_eq.1 h).symm⟩
theorem ziP {t:Int} {rs:List (List Int)} {i:Nat} {r:List Int} (hr:rs[i]?=some r) (h:r.contains t=true) (hb:∀ j r,j < i->rs[j]?=some r->r.contains t=false):zbm t rs=1+i:=by
 obtain ⟨hi,e⟩:=List.getElem?_eq_some_iff.1 hr
 have hf:rs.findIdx (fun r=>r.contains t)=i:=(List.findIdx_eq hi).2 ⟨by rw [e];exact h,fun j hj=>hb j _ hj (List.getElem?_eq_getElem (Nat.lt_trans hj hi))⟩
 unfold zbm
 rw [hf,if_pos hi,Nat.add_comm]
theorem ziQ {t:Int} {rs:List (List Int)} (hb:∀ j r,j < rs.length->rs[j]?=some r->r.contains t=false):zbm t rs=0:=by
 have hf:rs.findIdx (fun r=>r.contains t)=rs.length:=List.findIdx_eq_length.2 fun r hr=>by
  obtain ⟨j,hj,e⟩:=List.mem_iff_getElem.1 hr
  exact hb j r hj (by rw [List.getElem?_eq_getElem hj,e])
 unfold zbm
 rw [hf,if_neg (Nat.lt_irrefl _)]
theorem zhf {t:Int} {rs:List (List Int)} (h:t ∈ rs.flatten):zbm t rs ≠ 0:=by
 obtain ⟨r,hr,ht⟩:=List.mem_flatten.mp h
 have:rs.findIdx (fun r=>r.contains t) < rs.length:=List.findIdx_lt_length_of_exists ⟨r,hr,by simpa using ht⟩
 unfold zbm
 rw [if_pos this]
 omega
theorem rngS {m c:Int} (h1 : -1000000<=m) (h2:m<=1000000) (h3:0 < c) (h4:c<=1000000):zf4 [.int 0,.int m,.int c]=some (zcj 0 c (Builtin.Range.rangeSize 0 m c).toNat):=by
 unfold zf4
 exact if_pos ⟨h3,h4,by decide,by decide,h1,h2⟩
theorem zdZ {s:D->DEnv->Option DEnv} {t:M Bool} {g:M D} (I:DEnv->Prop):∀ (ds qs:List D) (ρ : DEnv) (es:List D),qs.length=ds.length ->
  (∀ (i:Nat) d e,ds[i]?=some d->qs[i]?=some e->∀ ρ,I ρ -> ∃ ρ1,s d ρ = some ρ1/\t ρ1=.ok true ρ1/\g ρ1=.ok e ρ1/\I (zay ρ1))->I ρ -> es.length+ds.length<=1000000->zbS s t g ds ρ es=some (es ++ qs)
 | [],[],ρ,es,_,_,_,_=>by rw [zbS,List.append_nil]
 | d :: r,e :: q,ρ,es,hl,st,h0,hz=>by
  obtain ⟨ρ1,e1,e2,e3,h1⟩:=st 0 d e rfl rfl ρ h0
  rw [List.length_cons] at hz
  rw [zbS,e1]
  dsimp only
  rw [e2]
  dsimp only
  rw [if_pos rfl,e3]
  dsimp only
  rw [if_pos (by omega),zdZ I r q (zay ρ1) (es ++ [e]) (by simpa using hl) (fun i d' e' x y=>st (i+1) d' e' (by simpa using x) (by simpa using y)) h1 (by rw [List.length_append,List.length_singleton];omega),List.append_assoc]
  rfl
def lng (ls:List (List (List Int))):Nat:=(most (ls.map fun rs=>(rs.length:Int))).toNat
theorem ziR {ls:List (List (List Int))} (h:1<=ls.length):most (ls.map fun rs=>(rs.length:Int))=(lng ls:Nat):=by
 have hm:most (ls.map fun rs=>(rs.length:Int)) ∈ ls.map fun rs=>(rs.length:Int):=zeC (by rw [List.length_map];omega)
 obtain ⟨rs,_,e⟩:=List.mem_map.mp hm
 unfold lng
 omega
section
variable {cs:List Int} {ls:List (List (List Int))} {ws:List (Option Int)}
theorem zjH:oIx (zaA cs ls) (.int 1)=some (.list (ls.map zaw)):=zb3 (j:=1) rfl
theorem zm3 {i:Nat} {rs:List (List Int)} (h:ls[i]?=some rs):oIx (.list (ls.map zaw)) (.int i)=some (zaw rs):=zb3 (by rw [List.getElem?_map,h];rfl)
theorem zfO (rs:List (List Int)):oLen [zaw rs]=some (.int rs.length):=by unfold zaw;rw [za0,List.length_map]
theorem zet (g:Good cs ls):F_ah [zaA cs ls]=some (.int (lng ls:Nat)):=by
 refine zbG (ρ:=[some (.pub (zaA cs ls))]) rfl ?_
 unfold g_ah
 have hw:=zfK g
 have hc:zbS (gN 1) (zae true) (zbK 1) (ls.map zaw) (zay [some (.pub (zaA cs ls))] ++ List.replicate 1 none) []=some ((ls.map fun rs=>(rs.length:Int)).map PyData.int):=by
  refine zdZ (fun ρ=>∃ x,ρ = [some (.pub (zaA cs ls)),x]) _ _ _ _ (by rw [List.length_map,List.length_map,List.length_map]) ?_ ⟨none,rfl⟩ (by rw [List.length_map,List.length_nil];have:=g.l7;omega)
  rintro i d e hd he ρ ⟨x,rfl⟩
  rw [List.getElem?_map] at hd
  rw [List.getElem?_map,List.getElem?_map] at he
  cases hl:ls[i]? with
  | none=>rw [hl] at hd;cases hd
  | some rs =>
  rw [hl] at hd he
  cases hd
  cases he
  exact ⟨_,tg_N (of_decide_eq_true rfl) rfl,rfl,zbc rfl (zfO rs),_,rfl⟩
 refine zaB (zdK (zaC (zac (zai rfl) zan) rfl hw)) ?_
 refine zbs (zbC (zac (zbV (zc6 (za8 (zcJ rfl zaj zjH) zdM) hc)) zan) (zgu (by rw [List.length_map];have:=g.l1;omega))) ?_
 rw [ziR g.l1]
end
theorem zlb {d:D} (h1:d.canLay0=true) (h2:d.depth<=60):oNe d d=some false:=by
 unfold oNe
 rw [if_pos ⟨h1,h1,h2⟩,zeX _ h1];rfl
section
variable {cs:List Int} {ls:List (List (List Int))} {ws:List (Option Int)} {a:Nat} {o had:Option Int} {rs:List (List Int)} {t:Int}
theorem zhg (h:zbm t rs ≠ 0):t ∈ rs.flatten:=by
 unfold zbm at h
 split at h
 ·rename_i hl
  have:=List.findIdx_getElem (w:=hl)
  exact List.mem_flatten.mpr ⟨_,List.getElem_mem hl,by simpa using this⟩
 ·exact absurd rfl h
end
theorem zeu {s:D->DEnv->Option DEnv} {t:M Bool} {g:M D} (I:DEnv->Prop):∀ (ds qs:List D) (ρ : DEnv) (es:List D),qs.length=ds.length ->
  (∀ (i:Nat) d e,ds[i]?=some d->qs[i]?=some e->∀ ρ,I ρ -> ∃ ρ1,s d ρ = some ρ1/\t ρ1=.ok true ρ1/\g ρ1=.ok e ρ1/\I (zay ρ1))->I ρ -> es.length+ds.length<=1000000->∃ ρ',zbk s t g ds ρ es=some (es ++ qs,ρ')/\I ρ'
 | [],[],ρ,es,_,_,h0,_=>⟨ρ,by rw [zbk,List.append_nil],h0⟩
 | d :: r,e :: q,ρ,es,hl,st,h0,hz=>by
  obtain ⟨ρ1,e1,e2,e3,h1⟩:=st 0 d e rfl rfl ρ h0
  rw [List.length_cons] at hz
  obtain ⟨ρ',e',h'⟩:=zeu I r q (zay ρ1) (es ++ [e]) (by simpa using hl) (fun i d' e' x y=>st (i+1) d' e' (by simpa using x) (by simpa using y)) h1 (by rw [List.length_append,List.length_singleton];omega)
  refine ⟨ρ',?_,h'⟩
  rw [zbk,e1]
  dsimp only
  rw [e2]
  dsimp only
  rw [if_pos rfl,e3]
  dsimp only
  rw [if_pos (by omega),e',List.append_assoc]
  rfl
theorem zda {s:D->DEnv->Option DEnv} {t:M Bool} {f:M (List D)} {Rd:List D->DEnv->List D->Option (List D × DEnv)} (I:DEnv->Prop):∀ (ds:List D) (qs:List (List D)) (ρ : DEnv) (es:List D),qs.length=ds.length ->
  (∀ (i:Nat) d q,ds[i]?=some d->qs[i]?=some q->∀ ρ es,I ρ -> es.length+q.length<=1000000->∃ ρ1 xs ρ2 ρ3,s d ρ = some ρ1/\t ρ1=.ok true ρ1/\f ρ1=.ok xs ρ2/\Rd xs (zay ρ2) es=some (es ++ q,ρ3)/\I ρ3)->I ρ -> es.length+qs.flatten.length<=1000000->∃ ρ',zbE s t f Rd ds ρ es=some (es ++ qs.flatten,ρ')/\I ρ'
 | [],[],ρ,es,_,_,h0,_=>⟨ρ,by rw [zbE,List.flatten_nil,List.append_nil],h0⟩
 | d :: r,q :: qr,ρ,es,hl,st,h0,hz=>by
  rw [List.flatten_cons,List.length_append] at hz
  obtain ⟨ρ1,xs,ρ2,ρ3,e1,e2,e3,e4,h1⟩:=st 0 d q rfl rfl ρ es h0 (by omega)
  obtain ⟨ρ',e',h'⟩:=zda I r qr ρ3 (es ++ q) (by simpa using hl) (fun i d' e' x y=>st (i+1) d' e' (by simpa using x) (by simpa using y)) h1 (by rw [List.length_append];omega)
  refine ⟨ρ',?_,h'⟩
  rw [zbE,e1]
  dsimp only
  rw [e2]
  dsimp only
  rw [if_pos rfl,e3]
  dsimp only
  rw [e4]
  dsimp only
  rw [e',List.flatten_cons,List.append_assoc]
def zea (i:Nat) (rs:List (List Int)):List (Int × Int):=rs.flatten.map fun t=>((i:Int),t)
def rawW (k:Nat):List (List (List Int))->List (Int × Int)
 | []=>[]
 | rs :: ls=>zea k rs ++ rawW (k+1) ls
def allW (k:Nat):List (List (List Int))->List (Int × Int)
 | []=>[]
 | rs :: ls=>(zcp rs.flatten).map (fun t=>((k:Int),t)) ++ allW (k+1) ls
theorem zb0:∀ (ls:List (List (List Int))) (k:Nat),(allW k ls).Perm (rawW k ls)
 | [],_=>.nil
 | rs :: ls,k=>((zbb rs.flatten).map _).append (zb0 ls (k+1))
theorem zgM:∀ (ls:List (List (List Int))) (k:Nat),∀ q ∈ allW k ls,(k:Int)<=q.1
 | [],_,q,h=>by cases h
 | rs :: ls,k,q,h=>by
  rcases List.mem_append.mp h with h | h
  ·obtain ⟨t,_,rfl⟩:=List.mem_map.mp h;exact Int.le_refl _
  ·have:=zgM ls (k+1) q h;omega
theorem zdl:∀ {ls:List (List (List Int))} {k:Nat} {q:Int × Int},q ∈ allW k ls->∃ i rs,ls[i]?=some rs/\q.1=((k+i:Nat):Int)/\q.2 ∈ rs.flatten
 | [],_,q,h=>by cases h
 | rs :: ls,k,q,h=>by
  rcases List.mem_append.mp h with h | h
  ·obtain ⟨t,ht,rfl⟩:=List.mem_map.mp h
   exact ⟨0,rs,rfl,rfl,(zbb _).mem_iff.mp ht⟩
  ·obtain ⟨i,rs',h1,h2,h3⟩:=zdl h
   exact ⟨i+1,rs',by simpa using h1,by rw [h2];congr 1;omega,h3⟩
theorem zgN {n:Nat} (hn:n<=6):∀ (ls:List (List (List Int))) (k:Nat),(∀ rs ∈ ls,∀ t ∈ rs.flatten,0<=t/\t < n)->(allW k ls).Pairwise fun x y=>keyP x<=keyP y
 | [],_,_=>.nil
 | rs :: ls,k,h=>by
  refine List.pairwise_append.mpr ⟨?_,zgN hn ls (k+1) fun rs' hr=>h rs' (List.mem_cons_of_mem _ hr),fun x hx y hy=>?_⟩
  ·rw [List.pairwise_map]
   refine (zdG rs.flatten).imp fun {a b} hab=>?_
   unfold keyP
   dsimp only
   omega
  ·obtain ⟨t,ht,rfl⟩:=List.mem_map.mp hx
   have h1:=zgM ls (k+1) y hy
   have h2:=h rs List.mem_cons_self t ((zbb _).mem_iff.mp ht)
   obtain ⟨i,rs',g1,g2,g3⟩:=zdl hy
   have h3:=h rs' (List.mem_cons_of_mem _ (List.mem_of_getElem? g1)) y.2 g3
   unfold keyP
   dsimp only
   omega
theorem zbl.flat {n:Nat} {rs:List (List Int)} (g:zbl n rs):∀ t ∈ rs.flatten,0<=t/\t < n:=fun t ht=>by
 obtain ⟨r,h1,h2⟩:=List.mem_flatten.mp ht
 exact g.there r h1 t h2
section
variable {cs:List Int} {ls:List (List (List Int))}
theorem ze4 (n:Nat):∀ (ls:List (List (List Int))) (k:Nat),(∀ rs ∈ ls,rs.flatten.length<=n)->(rawW k ls).length<=ls.length * n
 | [],_,_=>by simp [rawW]
 | rs :: ls,k,h=>by
  have h1:=ze4 n ls (k+1) fun r hr=>h r (List.mem_cons_of_mem _ hr)
  have h2:=h rs List.mem_cons_self
  show (zea k rs ++ rawW (k+1) ls).length<=_
  rw [List.length_append,List.length_cons,Nat.succ_mul]
  unfold zea
  rw [List.length_map]
  omega
theorem zhh (g:Good cs ls):zeN (rawW 0 ls)=allW 0 ls:=by
 have hf:∀ rs ∈ ls,∀ t ∈ rs.flatten,0<=t/\t < cs.length:=fun rs hr=>(g.rk rs hr).flat
 have ok:∀ q ∈ allW 0 ls,okP q:=fun q hq=>by
  obtain ⟨i,rs,h1,h2,h3⟩:=zdl hq
  have:=hf rs (List.mem_of_getElem? h1) q.2 h3
  have:=g.c6
  exact ⟨by omega,by omega⟩
 exact (zeO ok ((zb0 ls 0).trans (zeo _).symm) (zgN g.c6 ls 0 hf) (zfz _)).symm
theorem zmf (g:Good cs ls):∀ q ∈ rawW 0 ls,okP q:=fun q hq=>by
 obtain ⟨i,rs,h1,h2,h3⟩:=zdl ((zb0 ls 0).mem_iff.mpr hq)
 have:=(g.rk rs (List.mem_of_getElem? h1)).flat q.2 h3
 have:=g.c6
 exact ⟨by omega,by omega⟩
theorem ze5 (g:Good cs ls):(rawW 0 ls).length<=42:=by
 have h:=ze4 6 ls 0 fun rs hr=>Nat.le_trans (ze3 (g.rk rs hr)) g.c6
 have:=g.l7
 omega
theorem zgi:∀ (ls:List (List (List Int))) (k:Nat),((ls.zipIdx k).map fun p=>(zea p.2 p.1).map duoD).flatten=(rawW k ls).map duoD
 | [],_=>rfl
 | rs :: ls,k=>by
  rw [List.zipIdx_cons,List.map_cons,List.flatten_cons,zgi ls (k+1)]
  show _=(zea k rs ++ rawW (k+1) ls).map duoD
  rw [List.map_append]
theorem zb8 (g:Good cs ls):F_ai [zaA cs ls]=some (.list ((allW 0 ls).map duoD)):=by
 refine zbG (ρ:=[some (.pub (zaA cs ls))]) rfl ?_
 unfold g_ai
 refine zaB (zdK (zaC (zac (zai rfl) zan) rfl (zfK g))) ?_
 have hc:∃ ρ',zbE (gT 2 (gNC (gN 1) (gNC (gN 2) (gN0)))) (zae true) (zaI (dVar 2)) (zbE (gN 3) (zae true) (zaI (dVar 3)) (zbk (gN 4) (zae true) (mTup (zag (dVar 1) (zag (dVar 4) (mNil)))))) (zc0 0 (ls.map zaw)) (zay [some (.pub (zaA cs ls))] ++ List.replicate 4 none) []=some ((rawW 0 ls).map duoD,ρ'):=by
  have key:=zda (s:=gT 2 (gNC (gN 1) (gNC (gN 2) (gN0)))) (t:=zae true) (f:=zaI (dVar 2)) (Rd:=zbE (gN 3) (zae true) (zaI (dVar 3)) (zbk (gN 4) (zae true) (mTup (zag (dVar 1) (zag (dVar 4) (mNil))))))
   (fun ρ=>∃ x1 x2 x3 x4,ρ = [some (.pub (zaA cs ls)),x1,x2,x3,x4]) (zc0 0 (ls.map zaw)) ((ls.zipIdx 0).map fun p=>(zea p.2 p.1).map duoD) (zay [some (.pub (zaA cs ls))] ++ List.replicate 4 none) [] (by rw [List.length_map,List.length_zipIdx,zbj,List.length_map]) ?_ ⟨none,none,none,none,rfl⟩ (by
    rw [zgi,List.length_map,List.length_nil];have:=ze5 g;omega)
  ·obtain ⟨ρ',e,_⟩:=key
   rw [zgi,List.nil_append] at e
   exact ⟨ρ',e⟩
  rintro i d q hd hq ρ es ⟨x1,x2,x3,x4,rfl⟩ hlen
  obtain ⟨z,hz,rfl⟩:=zcX hd
  rw [List.getElem?_map] at hz
  rw [List.getElem?_map,List.getElem?_zipIdx] at hq
  cases hls:ls[i]? with
  | none=>rw [hls] at hz;cases hz
  | some rs =>
  rw [hls] at hz hq
  cases hz
  cases hq
  rw [Nat.zero_add] at *
  dsimp only at hlen ⊢
  have inner:=zda (s:=gN 3) (t:=zae true) (f:=zaI (dVar 3)) (Rd:=zbk (gN 4) (zae true) (mTup (zag (dVar 1) (zag (dVar 4) (mNil)))))
   (fun ρ=>∃ x3 x4,ρ = [some (.pub (zaA cs ls)),some (.pub (.int i)),some (.pub (zaw rs)),x3,x4]) (rs.map zaT) (rs.map fun r=>r.map fun t=>duoD ((i:Int),t)) (zay [some (.pub (zaA cs ls)),some (.pub (.int i)),some (.pub (zaw rs)),x3,x4]) es (by rw [List.length_map,List.length_map]) ?_ ⟨zdD x3,zdD x4,rfl⟩ ?_
  ·obtain ⟨ρ3,e3,y3,y4,h3⟩:=inner
   have ef:(rs.map fun r=>r.map fun t=>duoD ((i:Int),t)).flatten=(zea i rs).map duoD:=by
    unfold zea
    rw [List.map_map,List.map_flatten];rfl
   rw [ef] at e3
   exact ⟨_,_,_,ρ3,tg_T rfl (tg_C (tg_N (of_decide_eq_true rfl) rfl) (tg_C (tg_N (of_decide_eq_true rfl) rfl) tg_0)),rfl,za8 (zai rfl) rfl,e3,_,_,_,_,h3⟩
  ·rintro j d q hd hq ρ es' ⟨y3,y4,rfl⟩ hlen'
   rw [List.getElem?_map] at hd hq
   cases hr:rs[j]? with
   | none=>rw [hr] at hd;cases hd
   | some r =>
   rw [hr] at hd hq
   cases hd
   cases hq
   obtain ⟨ρ3,e3,z4,h3⟩:=zeu (s:=gN 4) (t:=zae true) (g:=mTup (zag (dVar 1) (zag (dVar 4) (mNil)))) (fun ρ=>∃ x4,ρ = [some (.pub (zaA cs ls)),some (.pub (.int i)),some (.pub (zaw rs)),some (.pub (zaT r)),x4]) (r.map PyData.int) (r.map fun t=>duoD ((i:Int),t)) (zay [some (.pub (zaA cs ls)),some (.pub (.int i)),some (.pub (zaw rs)),some (.pub (zaT r)),y4]) es' (by rw [List.length_map,List.length_map]) (by
    rintro m d e hd he ρ ⟨x4,rfl⟩
    rw [List.getElem?_map] at hd he
    cases hm:r[m]? with
    | none=>rw [hm] at hd;cases hd
    | some t =>
    rw [hm] at hd he
    cases hd
    cases he
    exact ⟨_,tg_N (of_decide_eq_true rfl) rfl,rfl,zgv (zac (zai rfl) (zac (zai rfl) zan)) (of_decide_eq_true rfl),_,rfl⟩) ⟨zdD y4,rfl⟩ (by rw [List.length_map] at hlen' ⊢;exact hlen')
   exact ⟨_,_,_,ρ3,tg_N (of_decide_eq_true rfl) rfl,rfl,za8 (zai rfl) rfl,e3,_,_,h3⟩
  ·have ef:(rs.map fun r=>r.map fun t=>duoD ((i:Int),t)).flatten=(zea i rs).map duoD:=by
    unfold zea
    rw [List.map_map,List.map_flatten];rfl
   rw [ef];exact hlen
 obtain ⟨ρ',hc⟩:=hc
 have hs:=zin (qs:=rawW 0 ls) (by have:=ze5 g;omega) (zmf g)
 rw [zhh g] at hs
 exact zbs (zbC (zac (zbV (zjg (zdJ (zac (zcJ rfl zaj zjH) zan) zcL) hc)) zan) hs) rfl
end
section
variable {cs:List Int} {ls:List (List (List Int))} {ws:List (Option Int)}
theorem zct (g:Good cs ls):F_an [zaA cs ls]=some (.int (lng ls:Nat)):=by
 refine zbG (ρ:=[some (.pub (zaA cs ls))]) rfl ?_
 unfold g_an
 have hc:zbS (gN 1) (zae true) (zbK 1) (ls.map zaw) (zay [some (.pub (zaA cs ls))] ++ List.replicate 1 none) []=some ((ls.map fun rs=>(rs.length:Int)).map PyData.int):=by
  refine zdZ (fun ρ=>∃ x,ρ = [some (.pub (zaA cs ls)),x]) _ _ _ _ (by rw [List.length_map,List.length_map,List.length_map]) ?_ ⟨none,rfl⟩ (by rw [List.length_map,List.length_nil];have:=g.l7;omega)
  rintro i d e hd he ρ ⟨x,rfl⟩
  rw [List.getElem?_map] at hd
  rw [List.getElem?_map,List.getElem?_map] at he
  cases hl:ls[i]? with
  | none=>rw [hl] at hd;cases hd
  | some rs =>
  rw [hl] at hd he
  cases hd
  cases he
  exact ⟨_,tg_N (of_decide_eq_true rfl) rfl,rfl,zbc rfl (zfO rs),_,rfl⟩
 refine zbs (zbC (zac (zbV (zc6 (za8 (zcJ rfl zaj zjH) zdM) hc)) zan) (zgu (by rw [List.length_map];have:=g.l1;omega))) ?_
 rw [ziR g.l1]
theorem zgj {i:Nat} {rs:List (List Int)} (h:ls[i]?=some rs) (t:Int):F_am [zaA cs ls,.int i,.int t]=some (.int (zbm t rs:Nat)):=by
 refine zbG (ρ:=[some (.pub (zaA cs ls)),some (.pub (.int i)),some (.pub (.int t)),none,none]) rfl ?_
 unfold g_am
 apply za3
 apply zcr (fun i' ρ=>(∃ x2 x3,ρ = [some (.pub (zaA cs ls)),some (.pub (.int i)),some (.pub (.int t)),x2,x3])/\∀ j r,j < i'->rs[j]?=some r->r.contains t=false)
 case h1=>exact zdJ (zac (zaF (zcJ rfl zaj zjH) (zai rfl) (zm3 h)) zan) zcL
 case h0=>exact ⟨⟨_,_,rfl⟩,fun j r h=>absurd h (Nat.not_lt_zero _)⟩
 case hst =>
  rintro k d ρ hi ⟨⟨x2,x3,rfl⟩,hb⟩
  obtain ⟨x,hx,rfl⟩:=zcX hi
  rw [List.getElem?_map] at hx
  cases hr:rs[k]? with
  | none=>rw [hr] at hx;cases hx
  | some r =>
   rw [hr] at hx
   cases hx
   refine ⟨_,tg_T rfl (tg_C (tg_N (of_decide_eq_true rfl) rfl) (tg_C (tg_N (of_decide_eq_true rfl) rfl) tg_0)),?_⟩
   unfold ziC
   apply zbO
   case h1=>exact zcB rfl (zai rfl) (zla t r)
   case h2 =>
    intro hh
    refine zbs (zaF (zai rfl) zaj zbD) (zjo ?_)
    rw [ziP hr hh hb]
    refine ⟨?_⟩
    congr 2
    omega
   case h3 =>
    intro hh
    refine zbN (zbd ⟨⟨_,_,rfl⟩,fun j r' hj e=>?_⟩)
    rcases Nat.lt_succ_iff_lt_or_eq.mp hj with hj | rfl
    ·exact hb j r' hj e
    ·rw [hr] at e;cases e;exact hh
 case hend =>
  rintro ρ ⟨⟨x2,x3,rfl⟩,hb⟩
  refine zaM (zbs zaj ?_)
  rw [ziQ (fun j r hj e=>hb j r (by rw [zbj,List.length_map];exact hj) e)]
  rfl
end
section
variable {cs:List Int} {ls:List (List (List Int))} {ws us:List (Option Int)}
end
def whB:D->Bool
 | .int _=>true
 | _=>false
theorem zdb (d:D):F_ao [d]=some (.bool (whB d)):=by
 cases d with
 | dict kvs=>exact zbG (ρ:=[some (.pub (.dict kvs))]) rfl (zbs (zf7 (t:=false) (u:=false) (zl1 (zai rfl)) fun z=>by cases z) rfl)
 | _=>rfl
theorem zlc {a b:List Int} (ha:a.Pairwise (· < ·)) (hb:b.Pairwise (· < ·)) (h:∀ t,t ∈ a ↔ t ∈ b):a=b:=by
 have na:a.Nodup:=ha.imp fun h=>Int.ne_of_lt h
 have nb:b.Nodup:=hb.imp fun h=>Int.ne_of_lt h
 refine zf6 ?_ (ha.imp fun h=>Int.le_of_lt h) (hb.imp fun h=>Int.le_of_lt h)
 exact (List.perm_ext_iff_of_nodup na nb).mpr h
theorem zfP {ns:List Int} (h:ns.Nodup):(zcp ns).Pairwise (· < ·):=by
 have h1:=zdG ns
 have h2:(zcp ns).Nodup:=(zbb ns).nodup_iff.mpr h
 exact (h1.and h2).imp fun {a b} ⟨x,y⟩=>by omega
theorem zfQ:∀ (ls:List (List (List Int))) (k i:Nat) (rs:List (List Int)),ls[i]?=some rs->allW k (ls.take (i+1))=allW k (ls.take i) ++ (zcp rs.flatten).map (fun t=>(((k+i:Nat):Int),t))
 | rs' :: ls,k,0,rs,h=>by
  cases h
  show allW k [rs']=allW k [] ++ _
  unfold allW
  unfold allW
  simp
 | rs' :: ls,k,i+1,rs,h=>by
  have ih:=zfQ ls (k+1) i rs (by simpa using h)
  rw [List.take_succ_cons,List.take_succ_cons]
  show _ ++ allW (k+1) (ls.take (i+1))=_ ++ allW (k+1) (ls.take i) ++ _
  rw [ih,List.append_assoc,show k+1+i=k+(i+1) by omega]
theorem ziS (qs:List (Int × Int)):(PyData.list (qs.map duoD)).canLay0=true:=zbY fun x hx=>by obtain ⟨q,_,rfl⟩:=List.mem_map.mp hx;rfl
theorem ziT (qs:List (Int × Int)):(PyData.list (qs.map duoD)).depth<=60:=by
 have:=ze0 (n:=2) (xs:=qs.map duoD) (zbZ fun x hx=>by obtain ⟨q,_,rfl⟩:=List.mem_map.mp hx;simp [duoD,PyData.depth,PyData.depthAll])
 omega
abbrev wsPt:Pat:=.tup [.lst .leaf,.lst (.lst .leaf)]
def thUp (j:Nat) (rs:List (List Int)):List Int:=((List.range j).filter fun k:Nat=>decide (0 < zbm (k:Int) rs)).map fun k:Nat=>(k:Int)
theorem zld {n:Nat} {rs:List (List Int)} (g:zbl n rs):thUp n rs=zcp rs.flatten:=by
 refine zlc ?_ (zfP g.once) fun t=>?_
 ·unfold thUp
  exact List.Pairwise.map _ (fun a b h=>by omega) ((List.pairwise_lt_range).filter _)
 ·rw [(zbb _).mem_iff]
  unfold thUp
  constructor
  ·intro h
   obtain ⟨k,hk,rfl⟩:=List.mem_map.mp h
   have hk:=(List.mem_filter.mp hk).2
   refine zhg ?_
   have:0 < zbm (k:Int) rs:=by simpa using hk
   omega
  ·intro h
   obtain ⟨h0,h1⟩:=g.flat t h
   refine List.mem_map.mpr ⟨t.toNat,List.mem_filter.mpr ⟨List.mem_range.mpr (by omega),?_⟩,by omega⟩
   have e:((t.toNat:Nat):Int)=t:=by omega
   have:=zhf h
   rw [e]
   exact decide_eq_true (by omega)
theorem zfR (j:Nat) (rs:List (List Int)):thUp (j+1) rs=if 0 < zbm (j:Int) rs then thUp j rs ++ [(j:Int)] else thUp j rs:=by
 unfold thUp
 rw [List.range_succ,List.filter_append,List.map_append]
 split
 ·rename_i h
  rw [List.filter_cons_of_pos (by simpa using h)];rfl
 ·rename_i h
  rw [List.filter_cons_of_neg (by simpa using h)]
  simp
section
variable {cs:List Int} {ls:List (List (List Int))}
def ze6 (i:Nat):List D:=(allW 0 (ls.take i)).map duoD
theorem zhi (g:Good cs ls) {i:Nat} {d:D} {ρ : DEnv} {Q:Out->Prop} (hi:(zaU 0 (ls.length:Int))[i]?=some d) (h:∃ x2 x3,ρ = [some (.pub (zaA cs ls)),some (.own (ze6 (ls:=ls) i)),x2,x3]) :
  ∃ ρ2,gN 2 d ρ = some ρ2/\Ho za1 ρ2 (zf8 (fun ρ=>∃ x2 x3,ρ = [some (.pub (zaA cs ls)),some (.own (ze6 (ls:=ls) (i+1))),x2,x3]) Q):=by
 obtain ⟨x2,x3,rfl⟩:=h
 obtain ⟨rfl,hlt⟩:=zbU hi
 obtain ⟨rs,hrs⟩:∃ rs,ls[i]?=some rs:=⟨_,List.getElem?_eq_getElem (by omega)⟩
 refine ⟨_,tg_N (of_decide_eq_true rfl) rfl,?_⟩
 have z0:(0:Int)+(i:Int)=i:=by omega
 rw [z0]
 unfold za1
 have i0:oIx (zaA cs ls) (.int 0)=some (.list (cs.map PyData.int)):=zb3 (j:=0) rfl
 have few:(ze6 (ls:=ls) i).length<=42:=by
  unfold ze6
  rw [List.length_map]
  have h1:(allW 0 (ls.take i)).length=(rawW 0 (ls.take i)).length:=(zb0 _ 0).length_eq
  have h2:=ze4 6 (ls.take i) 0 fun rs hr=>Nat.le_trans (ze3 (g.rk rs (List.mem_of_mem_take hr))) g.c6
  have h3:(ls.take i).length<=7:=by rw [List.length_take];have:=g.l7;omega
  omega
 apply zcr (fun j ρ=>∃ x3,ρ = [some (.pub (zaA cs ls)),some (.own (ze6 (ls:=ls) i ++ (thUp j rs).map fun t=>duoD ((i:Int),t))),some (.pub (.int i)),x3])
 case h1=>exact zdI (zac (zbC (zac (zcJ rfl zaj i0) zan) za0) zan) (zcK (by rw [List.length_map];have:=g.c6;omega) (by rw [List.length_map];have:=g.c6;omega))
 case h0=>exact ⟨_,by rw [show thUp 0 rs=[] from rfl,List.map_nil,List.append_nil];rfl⟩
 case hst =>
  rintro j d ρ hj ⟨x3,rfl⟩
  obtain ⟨rfl,hjl⟩:=zbU hj
  rw [List.length_map] at hjl
  refine ⟨_,tg_N (of_decide_eq_true rfl) rfl,?_⟩
  have zj:(0:Int)+(j:Int)=j:=by omega
  rw [zj]
  unfold zcb
  have hlj:(thUp j rs).length<=j:=by unfold thUp;rw [List.length_map];have:=List.length_filter_le (fun k:Nat=>decide (0 < zbm (k:Int) rs)) (List.range j);rw [List.length_range] at this;exact this
  apply zbO
  case h1=>exact zaF (zaC (zac (zai rfl) (zac (zai rfl) (zac (zai rfl) zan))) rfl (zgj hrs (j:Int))) zaj rfl
  case h2 =>
   intro hh
   have h':(0:Int) < ((zbm (j:Int) rs:Nat):Int):=of_decide_eq_true hh
   have hp:0 < zbm (j:Int) rs:=by omega
   refine zdL (zgw rfl (zgv (zac (zai rfl) (zac (zai rfl) zan)) (of_decide_eq_true rfl)) rfl (by rw [List.length_append,List.length_map];have:=g.c6;omega) rfl) ?_
   refine zbd ⟨some (.pub (.int j)),?_⟩
   rw [zfR,if_pos hp,List.map_append,← List.append_assoc]
   rfl
  case h3 =>
   intro hh
   have h' : ¬ (0:Int) < ((zbm (j:Int) rs:Nat):Int):=of_decide_eq_false hh
   have hp : ¬ 0 < zbm (j:Int) rs:=by omega
   refine zbN (zbd ⟨some (.pub (.int j)),?_⟩)
   rw [zfR,if_neg hp]
   rfl
 case hend =>
  rintro ρ ⟨x3,rfl⟩
  refine zbd ⟨some (.pub (.int i)),x3,?_⟩
  have hn:(zaU 0 ((cs.map PyData.int).length:Int)).length=cs.length:=by rw [zaD,List.length_map];omega
  rw [hn,zld (g.rk rs (List.mem_of_getElem? hrs))]
  unfold ze6
  rw [zfQ ls 0 i rs hrs,List.map_append,List.map_map]
  simp only [Nat.zero_add]
  rfl
theorem zfS (g:Good cs ls):zbw [zaA cs ls]=some ((allW 0 ls).map duoD)/\F_ap [zaA cs ls]=some (.list ((allW 0 ls).map duoD)):=by
 have i1:oIx (zaA cs ls) (.int 1)=some (.list (ls.map zaw)):=zb3 (j:=1) rfl
 have hn:(zaU 0 ((ls.map zaw).length:Int)).length=ls.length:=by rw [zaD,List.length_map];omega
 have key:∀ {t:SM} {Q:Out->Prop},(∀ x2 x3,Ho t [some (.pub (zaA cs ls)),some (.own ((allW 0 ls).map duoD)),x2,x3] Q)->Ho (sSeq (sFor (zdA (zag (zbQ oLen (zag (dIxN 0 (zae (.int 1))) (mNil))) (mNil))) (gN 2) za1) t) [some (.pub (zaA cs ls)),some (.own []),none,none] Q:=by
  intro t Q hq
  apply za3
  apply zcr (fun i ρ=>∃ x2 x3,ρ = [some (.pub (zaA cs ls)),some (.own (ze6 (ls:=ls) i)),x2,x3])
  case h1=>exact zdI (zac (zbC (zac (zcJ rfl zaj i1) zan) za0) zan) (zcK (by rw [List.length_map];have:=g.l7;omega) (by rw [List.length_map];have:=g.l7;omega))
  case h0=>exact ⟨_,_,by unfold ze6;rw [List.take_zero];rfl⟩
  case hst=>exact fun i d ρ e h=>zhi g (by rw [List.length_map] at e;exact e) h
  case hend =>
   rintro ρ ⟨x2,x3,rfl⟩
   refine zaM ?_
   rw [hn]
   unfold ze6
   rw [List.take_length]
   exact hq x2 x3
 constructor
 ·have h:=key (t:=sNx) (Q:=fun o=>∃ x2 x3,o=.nx [some (.pub (zaA cs ls)),some (.own ((allW 0 ls).map duoD)),x2,x3]) fun x2 x3=>zbN ⟨x2,x3,rfl⟩
  have h2:Ho zbv [some (.pub (zaA cs ls)),none,none,none] (fun o=>∃ x2 x3,o=.nx [some (.pub (zaA cs ls)),some (.own ((allW 0 ls).map duoD)),x2,x3]):=by
   unfold zbv
   exact zaB (zbM (zeE zan (of_decide_eq_true rfl)) (of_decide_eq_true rfl) rfl) h
  obtain ⟨x2,x3,e⟩:=h2.out
  exact zmZ (ρ:=[some (.pub (zaA cs ls)),none,none,none]) rfl e (zl7 rfl)
 ·refine zbG (ρ:=[some (.pub (zaA cs ls)),none,none,none]) rfl ?_
  unfold g_ap
  refine zaB (zbM (zeE zan (of_decide_eq_true rfl)) (of_decide_eq_true rfl) rfl) ?_
  exact key fun x2 x3=>zbs (zeD rfl rfl) rfl
theorem zjI {N:List Str} {A:M D} {p:List D->Option D} {f:M (List D)} {ds r:List D} (h:runD N (sSeq (zdk A) (sRet (zbQ p f))) ds=some (.list r)):runO N (sSeq (zdk A) sNx) (zfG p f) ds=some r:=by
 unfold runD at h
 unfold runO
 unfold sSeq zdk sB sRet sB zbQ at h
 unfold sSeq zdk sB zfG
 cases z:A (zaV N ds) with
 | bad=>rw [z] at h;cases h
 | ok d ρ =>
  rw [z] at h
  dsimp only [sNx] at h ⊢
  unfold zap at h ⊢
  cases z2:f ρ with
  | bad=>rw [z2] at h;cases h
  | ok xs ρ2 =>
   rw [z2] at h
   dsimp only [mOpt] at h ⊢
   cases z3:p xs with
   | none=>rw [z3] at h;cases h
   | some d' =>
    rw [z3] at h
    have h:some d'=some (.list r):=h
    cases h
    rfl
theorem ziU (g:Good cs ls):za9 [zaA cs ls]=some ((allW 0 ls).map duoD):=zjI (zb8 g)
end
theorem zev (qs:List (Int × Int)) (hq:qs.length<=1000):F_aq [.list (qs.map duoD),.list (qs.map duoD)]=some (.bool true):=by
 refine zbG (ρ:=[some (.pub (.list (qs.map duoD))),some (.pub (.list (qs.map duoD))),none]) rfl ?_
 unfold g_aq
 apply za3
 apply zbO
 case h1=>exact zck (zb4 (zai rfl) rfl) (zcB rfl (zai rfl) (zlb (ziS qs) (ziT qs)))
 case h2=>intro hh;cases hh
 case h3 =>
  refine fun _=>zbN (zaM ?_)
  apply za3
  apply zcr (fun _ ρ=>∃ x2,ρ = [some (.pub (.list (qs.map duoD))),some (.pub (.list (qs.map duoD))),x2])
  case h1=>exact za8 (zai rfl) zdM
  case h0=>exact ⟨_,rfl⟩
  case hst =>
   rintro i d ρ hi ⟨x2,rfl⟩
   rw [List.getElem?_map] at hi
   cases hx:qs[i]? with
   | none=>rw [hx] at hi;cases hi
   | some q =>
   rw [hx] at hi
   cases hi
   refine ⟨_,tg_N (of_decide_eq_true rfl) rfl,?_⟩
   unfold ziB
   apply zbO
   case h1=>exact zck (zb4 (zai rfl) rfl) (zck (zbF (t:=true) (zaZ (zaC (zac (zcJ rfl zaj rfl) zan) rfl (zdb _)))) (zbF (t:=true) (zaZ (zaC (zac (zcJ rfl zaj rfl) zan) rfl (zdb _)))))
   case h2=>intro hh;cases hh
   case h3=>exact fun _=>zbN (zbd ⟨_,rfl⟩)
  case hend =>
   rintro ρ ⟨x2,rfl⟩
   exact zaM (zbs zaj rfl)
theorem ze7 (qs:List (Int × Int)):(qs.map duoD).all nl0=true:=List.all_eq_true.mpr fun d hd=>by
 obtain ⟨q,_,rfl⟩:=List.mem_map.mp hd
 rfl
theorem zjJ:∀ ns:List Int,ns.length<=63->F_ar [.list (ns.map PyData.int)]=some (.bool true):=by
 intro ns hns
 refine zbG (ρ:=[some (.pub (.list (ns.map PyData.int))),none,none,none,none,none]) rfl ?_
 unfold g_ar
 have hlen:oLen [.list (ns.map PyData.int)]=some (.int ns.length):=by rw [za0,List.length_map]
 apply za3
 apply zcr (fun _ ρ=>∃ x1 x2 x3 x4 x5,ρ = [some (Sl.pub (.list (ns.map .int))),x1,x2,x3,x4,x5])
 case h1 =>
  exact ziE (zac zaj (zac (zbC (zac zaj (zac (zbC (zac (zbc rfl hlen) (zac zaj zan)) zii) zan)) zih) (zac zaj zan))) (rngS (by split <;> (try split) <;> omega) (by split <;> (try split) <;> omega) (by decide) (by decide))
 case h0=>exact ⟨_,_,_,_,_,rfl⟩
 case hst =>
  rintro i d ρ hi ⟨x1,x2,x3,x4,x5,rfl⟩
  have hd:=zhd hi
  obtain ⟨at_,hat⟩:∃ k:Nat,(0:Int)+(i:Int) * 8=k:=⟨i * 8,by omega⟩
  rw [hat] at hd
  subst hd
  refine ⟨_,tg_N (of_decide_eq_true rfl) (by walk_at "set"),?_⟩
  unfold ziD
  obtain ⟨r,hr,cs,ls,rfl,g,_⟩:=zfN 6 7 5 (ns:=ns) (by omega) at_
  refine zaB (ziw (zaC (zac (zai rfl) (zac (zai rfl) (zac zaj (zac zaj (zac zaj zan))))) rfl hr) (of_decide_eq_true rfl) rfl) ?_
  have few:(allW 0 ls).length<=42:=by rw [(zb0 ls 0).length_eq];exact ze5 g
  have hrt:=zev (allW 0 ls) (by omega)
  refine zaB (zbM (zeT (zgc (zac (zai rfl) zan) rfl (zfS g).1) (ze7 _)) (of_decide_eq_true rfl) rfl) ?_
  refine zaB (zek (zjD (zaC (zac (zai rfl) zan) rfl (zet g)) rfl) (of_decide_eq_true rfl) rfl) ?_
  apply za3
  apply zbO
  case h1=>exact zdT (zck (zbF (t:=true) (zaZ (zaC (zac (zai rfl) zan) rfl (zdb _)))) (zcB rfl (zaC (zac (zai rfl) zan) rfl (zct g)) zeK))
  case h2=>intro hh;simp at hh
  case h3 =>
  refine fun _=>zbN (zaM ?_)
  refine zaB (zbM (zeT (zgc (zac (zai rfl) zan) rfl (ziU g)) (ze7 _)) (of_decide_eq_true rfl) rfl) ?_
  apply za3
  apply zbO
  case h1=>exact zdT (zbF (zaZ (zaC (zac (zai rfl) (zac (zai rfl) zan)) rfl hrt)))
  case h2=>intro hh;cases hh
  case h3 =>
  refine fun _=>zbN (zaM ?_)
  refine zaB (zgw rfl (zgv (zac zaj (zac zaj zan)) (of_decide_eq_true rfl)) rfl (by rw [List.length_map];omega) rfl) ?_
  apply za3
  apply zbO
  case h1=>exact zdT (zck (zbF (zaZ (zaC (zac (zaC (zac (zai rfl) zan) rfl (zb8 g)) (zac (zai rfl) zan)) rfl hrt))) (zcB rfl (zaC (zac (zai rfl) (zac (zai rfl) (zac zaj (zac zaj (zac zaj zan))))) rfl hr) (zk4 cs ls)))
  case h2=>intro hh;cases hh
  case h3 =>
  refine fun _=>zbN (zaM ?_)
  refine zaB (zbM (zeT (zgc (zac (zai rfl) zan) rfl (ziU g)) (ze7 _)) (of_decide_eq_true rfl) rfl) ?_
  have hm:zcT .rev [1] wsPt (zaA cs ls)=some (zaA cs ls.reverse):=by
   show some (PyData.tuple [_,.list (ls.map zaw).reverse])=_
   unfold zaA
   rw [List.map_reverse]
  refine zaB (zix rfl hm rfl) ?_
  obtain ⟨r0,rest,hrev⟩:∃ a b,ls.reverse=a :: b:=by
   cases hl:ls.reverse with
   | nil=>have:=g.l1;have:=congrArg List.length hl;simp at this;simp [this] at *
   | cons a b=>exact ⟨a,b,rfl⟩
  rw [hrev]
  have hm2:zcT .clr [1,0] wsPt (zaA cs (r0 :: rest))=some (zaA cs ([] :: rest)):=rfl
  refine zaB (zix rfl hm2 rfl) ?_
  have hlr:rest.length+1=ls.length:=by have:=congrArg List.length hrev;simp at this;omega
  have g2:Good cs ([] :: rest):=⟨g.c1,g.c6,g.c7,by simp,by rw [List.length_cons];have:=g.l7;omega,fun rs hrs=>by
   rcases List.mem_cons.mp hrs with rfl | h
   ·exact ⟨by decide,(fun r h=>by cases h),(fun r h=>by cases h),List.nodup_nil⟩
   ·exact g.rk rs (List.mem_reverse.mp (by rw [hrev];exact List.mem_cons_of_mem _ h))⟩
  have few2:(allW 0 ([] :: rest)).length<=42:=by rw [(zb0 _ 0).length_eq];exact ze5 g2
  have hrt2:=zev (allW 0 ([] :: rest)) (by omega)
  apply za3
  apply zbO
  case h1=>exact zdT (zck (zbF (zaZ (zaC (zac (zai rfl) (zac (zai rfl) zan)) rfl hrt))) (zbF (zaZ (zaC (zac (zaC (zac (zai rfl) zan) rfl (zb8 g2)) (zac (zaC (zac (zai rfl) zan) rfl (zfS g2).2) zan)) rfl hrt2))))
  case h2=>intro hh;cases hh
  case h3 =>
  refine fun _=>zbN (zaM ?_)
  apply zbO
  case h1=>exact zdT (zaF (zaC (zac (zai rfl) zan) rfl (zet g2)) (zaC (zac (zai rfl) zan) rfl (zct g2)) zeK)
  case h2=>intro hh;simp at hh
  case h3=>exact fun _=>zbN (zbd ⟨_,_,_,_,_,rfl⟩)
 case hend =>
  rintro ρ ⟨x1,x2,x3,x4,x5,rfl⟩
  exact zaM (zbs zaj rfl)
end W
open PySem PySem.W PyProof.Rows
set_option maxRecDepth 100000 in
set_option maxHeartbeats 0 in
theorem PySem.Challenge.cw_wishdeal_k09_longest_and_all_holds : PySem.Challenge.rw_wishdeal_k09_longest_and_all.Holds := by
 w_on;o_law
 refine holds_open (q:=W.q0) (loose:=[]) (Xt:=fun s=>xlAt W.q0 [] s && recOk [] s) (XP:=XL W.q0 []) (Yf:=Hook.obs .none) (Ya:=Hook.val .none) (YP:=Hook.says .none) (N:=2266) (d:=W.d_ar) (kwd:=[])
  W.zmi (Hook.of .none) (Hook.keeps .none) (fun s e=>xl_of s (Bool.and_eq_true_iff.mp e).1) XL.keeps (by rfl) (by rfl) (by rfl)
  (fun s e=>recFacts_of (Bool.and_eq_true_iff.mp e).2) (by rfl) (by assumption) (by decide +kernel) ⟨rfl,rfl,rfl,rfl,rfl,by decide +kernel⟩ ?hw (W.walk W.zjJ)
 case hw=>w_witness2


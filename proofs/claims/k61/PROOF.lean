import PyProof.Rows.All
import Wide.All
import OpenK.AllK
import Wide.FinOn
import Lean
import PyProof.EqAt
import PyProof.EqKinds
import PyProof.TupleCall
import PySem.Challenge.RW_shapethin_k61_forms_many_times
set_option genSizeOf false
set_option bootstrap.genMatcherCode false
set_option compiler.extract_closed false
set_option linter.all false
set_option maxHeartbeats 4000000
set_option maxRecDepth 100000
noncomputable section
namespace Hd
open PySem PySem.W PySem.Calls PyProof.Rows
def D9 (stp:SharedT -> Thread -> Option (SharedT × Thread)) (ok:Thread -> Bool):Nat -> SharedT -> Thread -> Option SharedT
 | 0,_,_=>none
 | n + 1,s,t=>match through t with
  | true=>some s
  | false=>match ok t with
   | false=>none
   | true=>match stp s t with
    | some (s',t')=>D9 stp ok n s' t'
    | none=>none
theorem wP {tb:String -> Option Builtin} {p:Program} {w:World} {n₀:Nat} {ann:Option Value}:∀ (n:Nat) (s:SharedT) (t:Thread) (r:SharedT),D9 (stepT (denote tb) p w) (stepOk n₀ ann) n s t = some r -> topRun tb p w n₀ ann n s.abs t = some r.abs
 | 0,_,_,_,h=>by cases h
 | n + 1,s,t,r,h=>by
  unfold D9 at h
  unfold topRun
  cases ht:through t with
  | true=>rw [ht] at h;cases h;rfl
  | false=>
   rw [ht] at h
   cases hk:stepOk n₀ ann t with
   | false=>rw [hk] at h;cases h
   | true=>
    rw [hk] at h
    cases hs:stepT (denote tb) p w s t with
    | none=>rw [hs] at h;cases h
    | some x=>
     obtain ⟨s',t'⟩:=x
     rw [hs] at h
     rw [stepT_spec hs]
     exact wP n s' t' r h
def FT:List Obj -> Nat -> BT -> BT
 | [],_,t=>t
 | o :: l,n,t=>FT l (n + 1) (t.ins n o)
def T0 (P:Params):BT:=FT (boot_heap P).objs.toList 0 .nil
theorem KR (P:Params):absHeap (T0 P) 11 (boot_heap P).life = boot_heap P:=by kernel_rfl
theorem sz (P:Params):((boot_heap P).isNs mainGlobals,(boot_heap P).objs.size,(boot_heap P).nsMap mainGlobals "__annotations__") = (true,11,some (.ref 6)):=by kernel_rfl
def S0 (w:World) (os:OsState):SharedT:=⟨T0 w.params,11,(boot_heap w.params).life,Array.mk [],boot_drawn,boot_toks,os⟩
theorem GK {p q:Program} {loose:List Str} {Xt:Shared -> Bool} {α:Type} {Yf:Shared -> α} {Ya:World -> α} {N M:Nat} {g0:Bool}
  (open_:∀ w:World,(fencedOpening treeTable p w N).map (fun s=>(s.heap,s.gens,s.drawn,s.toks)) = some (boot_heap w.params,Array.mk [],boot_drawn,boot_toks)) (le:Nat.ble M N = true)
  (big:∀ w:World,(fun os=>(D9 (stepT (denote treeTable) p w) (stepOk 11 (some (.ref 6))) M (S0 w os) (topStub p)).map fun r=>((staticsOk (importedModules p.main.body) (boot_heap w.params) r.abs.heap && namesBound p r.abs.heap && gensDone r.abs && laidKept (boot_heap w.params) r.abs.heap),
    openSeen q loose (importedModules p.main.body) Xt g0 r.abs,Yf r.abs)) = fun _=>some (true,openGood q loose,Ya w)):LeftO p q loose Xt Yf Ya N g0:=fun w=>by
 obtain ⟨⟨h,gs,d,k,os⟩,e,e'⟩:=Option.map_eq_some_iff.mp (open_ w)
 obtain ⟨rfl,rfl,rfl,rfl⟩:h = boot_heap w.params /\ gs = Array.mk [] /\ d = boot_drawn /\ k = boot_toks:=by simpa using e'
 obtain ⟨z1,z2,z3⟩:_ /\ _ /\ _:=by simpa only [Prod.mk.injEq] using sz w.params
 obtain ⟨r,hr,hb⟩:=Option.map_eq_some_iff.mp (congrFun (big w) os)
 obtain ⟨l1,l2,l3⟩:_ /\ _ /\ _:=by simpa only [Prod.mk.injEq] using hb
 have ha:(S0 w os).abs = ⟨boot_heap w.params,Array.mk [],boot_drawn,boot_toks,os⟩:=by
  unfold S0 SharedT.abs
  dsimp only
  rw [KR]
 have t:=topRun_mono (N - M) _ _ _ _ (wP _ _ _ _ hr)
 rw [show M + (N - M) = N by have:=Nat.le_of_ble_eq_true le;lia,ha] at t
 have t2:topFrom treeTable p w N ⟨boot_heap w.params,Array.mk [],boot_drawn,boot_toks,os⟩ = some r.abs:=by
  unfold topFrom
  dsimp only
  rw [z1,z2,z3,t]
  show (match staticsOk (importedModules p.main.body) (boot_heap w.params) r.abs.heap && namesBound p r.abs.heap && gensDone r.abs && laidKept (boot_heap w.params) r.abs.heap with | true=>_ | false=>_) = _
  rw [l1]
 unfold openEnds
 rw [e]
 show (topFrom treeTable p w N _).map _ = _
 rw [t2]
 exact congrArg some (Prod.ext l2 l3)
theorem G9 {p q:Program} {loose:List Str} {Xt:Shared -> Bool} {α:Type} {Yf:Shared -> α} {Ya:World -> α} {g0:Bool}
  (open_:∀ w:World,(fencedOpening treeTable p w 100000).map (fun s=>(s.heap,s.gens,s.drawn,s.toks)) = some (boot_heap w.params,Array.mk [],boot_drawn,boot_toks))
  (big:∀ w:World,(fun os=>(D9 (Fast.tw10156331382660048174 (Fast.tw11892475500146522536 Fast.tw14364793385576792824) p w) (Fast.tw6613529449190102663 11 (some (.ref 6))) 100000 (S0 w os) (topStub p)).map fun r=>((staticsOk (Fast.tw5923862056798008813 p.main.body) (boot_heap w.params) r.abs.heap && namesBound p r.abs.heap && gensDone r.abs && laidKept (boot_heap w.params) r.abs.heap),
    Fast.tw4187177175401517315 q loose (Fast.tw5923862056798008813 p.main.body) Xt g0 r.abs,Yf r.abs)) = fun _=>some (true,openGood q loose,Ya w)):LeftO p q loose Xt Yf Ya 100000 g0:=by
 rw [<- Fast.te10156331382660048174,<- Fast.te11892475500146522536,<- Fast.te14364793385576792824,<- Fast.te6613529449190102663,<- Fast.te5923862056798008813,<- Fast.te4187177175401517315] at big
 exact GK open_ rfl big
theorem GT {l:OpenLaw} (h:Fast.tw9446332074065402090 l = true):l.wellSaid = true:=by
 rw [Fast.te9446332074065402090]
 exact h
end Hd
set_option Elab.async false
section
open PySem PySem.W PyProof.Rows
def Hd.q : Program := view PySem.Challenge.pw_shapethin_k61_forms_many_times [0, 2, 3, 5, 6, 7, 8, 9, 11, 12, 13, 14, 15, 16, 17, 18, 20, 21, 22, 23, 24, 25, 26, 27, 28, 29, 30, 31, 32, 33, 34, 35, 37, 39, 40, 41, 42, 43, 44, 45]
local macro_rules | `(tactic| o_head $_)=>`(tactic| assumption)
set_option maxHeartbeats 0 in
theorem Hd.e0 : PySem.Challenge.rw_shapethin_k61_forms_many_times.row.Holds -> PySem.Challenge.rw_shapethin_k61_forms_many_times.row.Holds := by intro h; w_on; k_head
def Hd.as:List Addr:=(Hd.e0.heap_1 { strHash:=fun _=>0,shareClass:=fun _=>0,mergeTok:=id,idOf:=fun _=>0,idOfShared:=fun _ _=>0,followText:=fun _=>true,idOfImm:=fun _=>0 }).map (·.1)
theorem Hd.ae (P:Params):Hd.as = (Hd.e0.heap_1 P).map (·.1):=by kernel_rfl
abbrev Hd.H:Hook:=kHook Hd.e0.heap_1 Hd.as Hd.ae
set_option maxHeartbeats 0 in
theorem Hd.e1 : LeftO PySem.Challenge.rw_shapethin_k61_forms_many_times.row.prog Hd.q [] (fun s => xlAt Hd.q [] s && recOk (RowW.records (OpenRow.toRowW (OpenLaw.row PySem.Challenge.rw_shapethin_k61_forms_many_times))) s) (Hook.obs Hd.H) (Hook.val Hd.H) 100000 := Hd.G9 (boot_open (by rfl) rfl (fun s => rfl)) (by intro w; kernel_rfl)
set_option maxHeartbeats 0 in
theorem Hd.e2 : PySem.Challenge.rw_shapethin_k61_forms_many_times.wellSaid = true := Hd.GT (by kernel_rfl)
end
set_option Elab.async false
set_option linter.all false
set_option maxRecDepth 100000
namespace L2
open PySem PySem.Spec PyProof.Rows
abbrev Key:=Sum Int Str
def Hh:Key -> Value -> Bool
 | .inl k,v=>Value.isInt k v
 | .inr x,v=>Value.isStrOf x v
def LW (w:World):Key -> Int
 | .inl k=>hashInt k
 | .inr x=>hashStr w x
theorem cn:∀ {k:Key} {v:Value},Hh k v = true -> (∃ i t,k = Sum.inl i /\ v = Value.int i t) \/ (∃ x t,k = Sum.inr x /\ v = Value.str x t)
 | .inl i,v,h=>by
  obtain ⟨t,e⟩:=Value.isInt_shape (k:=i) (v:=v) h
  exact .inl ⟨i,t,rfl,e⟩
 | .inr x,v,h=>by
  obtain ⟨t,e⟩:=Value.isStrOf_shape (x:=x) (v:=v) h
  exact .inr ⟨x,t,rfl,e⟩
theorem JI (a b:Int):decide ((Sum.inl a:Key) = Sum.inl b) = (a == b):=by
 by_cases e:a = b
 ·subst e;simp
 ·have h:¬ (Sum.inl a:Key) = Sum.inl b:=fun q=>e (Sum.inl.inj q)
  rw [decide_eq_false h]
  exact (beq_eq_false_iff_ne.mpr e).symm
theorem Ii (a b:Str):decide ((Sum.inr a:Key) = Sum.inr b) = decide (a = b):=by
 by_cases e:a = b
 ·subst e;simp
 ·have h:¬ (Sum.inr a:Key) = Sum.inr b:=fun q=>e (Sum.inr.inj q)
  rw [decide_eq_false h,decide_eq_false e]
theorem JC (a:Int) (b:Str):decide ((Sum.inl a:Key) = Sum.inr b) = false:=decide_eq_false (fun q=>nomatch q)
theorem Ib (a:Str) (b:Int):decide ((Sum.inr a:Key) = Sum.inl b) = false:=decide_eq_false (fun q=>nomatch q)
def yb (prog:Program) (w:World):PySem.KeyKind prog w Key where
 is:=Hh
 hash:=LW w
 inj:=fun v a b ha hb=>by
  rcases cn ha with ⟨i,t,rfl,rfl⟩ | ⟨x,t,rfl,rfl⟩
  ·rcases cn hb with ⟨j,u,rfl,e⟩ | ⟨y,u,rfl,e⟩
   ·injection e with e1 _;rw [e1]
   ·exact nomatch e
  ·rcases cn hb with ⟨j,u,rfl,e⟩ | ⟨y,u,rfl,e⟩
   ·exact nomatch e
   ·injection e with e1 _;rw [e1]
 byValue:=fun k v h=>by
  rcases cn h with ⟨i,t,rfl,rfl⟩ | ⟨x,t,rfl,rfl⟩ <;> rfl
 pyHash:=fun hv h=>by
  rcases cn hv with ⟨i,t,rfl,rfl⟩ | ⟨x,t,rfl,rfl⟩
  ·exact wpAny_pyHash_int h
  ·exact wpAny_pyHash_str h
 eqBool:=fun hu hv h=>by
  rcases cn hu with ⟨i,t,rfl,rfl⟩ | ⟨x,t,rfl,rfl⟩
  ·rcases cn hv with ⟨j,u,rfl,rfl⟩ | ⟨y,u,rfl,rfl⟩
   ·rw [JI] at h;exact wpAny_eqBool_int h
   ·rw [JC] at h;exact SeqAt.EqAt.int_str i t y u _ _ _ _ h
  ·rcases cn hv with ⟨j,u,rfl,rfl⟩ | ⟨y,u,rfl,rfl⟩
   ·rw [Ib] at h;exact SeqAt.EqAt.str_int x t j u _ _ _ _ h
   ·rw [Ii] at h;exact wpAny_eqBool_str h
 «strs»:=fun k x t v h=>by
  rcases cn h with ⟨i,u,rfl,e⟩ | ⟨y,u,rfl,e⟩
  ·exact nomatch e
  ·injection e with e1 _
   subst e1
   cases v <;> rfl
inductive V where
 | non | bl (b:Bool) | int (i:Int) | str (x:Str) | byt (b:Array UInt8) | flt (b:UInt64) | ref (a:Addr) | ty (n:String)
 deriving DecidableEq
def RelV:V -> Value -> Prop
 | .non,u=>u = Value.none
 | .bl b,u=>u = Value.bool b
 | .int i,u=>∃ t,u = Value.int i t
 | .str x,u=>∃ t,u = Value.str x t
 | .byt b,u=>∃ t,u = Value.bytes b t
 | .flt b,u=>∃ t,u = Value.float b t
 | .ref a,u=>u = Value.ref a
 | .ty n,u=>u = Value.type n
abbrev Vals:List V -> List Value -> Prop:=Paired RelV
theorem Vals.length {xs:List V} {us:List Value} (r:Vals xs us):xs.length = us.length:=Paired.length r
theorem Vals.get:∀ {xs:List V} {us:List Value} {i:Nat} {x:V},Vals xs us -> xs[i]? = some x -> ∃ u,us[i]? = some u /\ RelV x u
 | _,_,_,_,.nil,e=>by simp at e
 | _,_,0,_,.cons r _,e=>by simp at e;subst e;exact ⟨_,rfl,r⟩
 | _,_,i + 1,x,.cons _ t,e=>by
  obtain ⟨u,h1,h2⟩:=Vals.get (i:=i) (x:=x) t (by simpa using e)
  exact ⟨u,by simpa using h1,h2⟩
theorem Vals.set {x:V} {u:Value} (r:RelV x u):∀ {xs:List V} {us:List Value} (i:Nat),Vals xs us -> Vals (xs.set i x) (us.set i u)
 | _,_,_,.nil=>.nil
 | _,_,0,.cons _ t=>.cons r t
 | _,_,i + 1,.cons q t=>.cons q (Vals.set r i t)
theorem Vals.append:∀ {xs ys:List V} {us ws:List Value},Vals xs us -> Vals ys ws -> Vals (xs ++ ys) (us ++ ws)
 | _,_,_,_,.nil,s=>s
 | _,_,_,_,.cons r t,s=>.cons r (Vals.append t s)
theorem Vals.take:∀ {xs:List V} {us:List Value} (n:Nat),Vals xs us -> Vals (xs.take n) (us.take n)
 | _,_,0,_=>.nil
 | _,_,_ + 1,.nil=>.nil
 | _,_,n + 1,.cons r t=>.cons r (Vals.take n t)
theorem Vals.drop:∀ {xs:List V} {us:List Value} (n:Nat),Vals xs us -> Vals (xs.drop n) (us.drop n)
 | _,_,0,r=>r
 | _,_,_ + 1,.nil=>.nil
 | _,_,n + 1,.cons _ t=>Vals.drop n t
def RelO:Option V -> Option Value -> Prop
 | some v,some u=>RelV v u
 | none,none=>True
 | _,_=>False
def KV {κ:Type}:List (κ × V) -> List (κ × Value) -> Prop:=Paired fun (p:κ × V) (q:κ × Value)=>p.1 = q.1 /\ RelV p.2 q.2
def kV:Key -> V
 | .inl i=>.int i
 | .inr x=>.str x
inductive HO where
  | lst (xs:List V)
  | tup (xs:List V)
  | dK (kvs:List (Key × V)) | dT (kvs:List (List Key × V))
  | set (S:Int -> Bool) (n:Nat)
  | ins (C dx:Addr) (fs:List (Str × V))
  | own (x:Addr)
  | xd (fs:List (Str × V))
  | met (f x:Addr)
  | rng (lo hi:Int)
  | frz (o:Obj) (u:HO)
  | tbl (ps:Array Value)
  | ext (φ:Heap -> Prop)
abbrev Hp:=Addr -> Option HO
def upd (H:Hp) (a:Addr) (o:HO):Hp:=fun b=>if b = a then some o else H b
theorem a8 {H:Hp} {a:Addr} {o:HO}:upd H a o a = some o:=by unfold upd;rw [if_pos rfl]
theorem a7 {H:Hp} {a b:Addr} {o:HO} (h:b ≠ a):upd H a o b = H b:=by unfold upd;rw [if_neg h]
theorem bh {H:Hp} {a b:Addr} {o:HO} (h:H a = some o) (h':H b = none):a ≠ b:=by
 intro e;subst e;rw [h] at h';cases h'
section
variable (P:Program) (w:World)
def ObjOk (H:Hp) (h:Heap) (a:Addr):HO -> Prop
 | .lst xs=>xs.length <= sizeLine /\ ∃ (its:List Value) (n:Nat),Vals xs its /\ h.get? a = some { cls:=.type "list",data:=.seq its.toArray n }
 | .tup xs=>xs.length <= sizeLine /\ ∃ its:List Value,Vals xs its /\ IsTup h a its.toArray
 | .dK kvs=>kvs.length <= sizeLine /\ (a == sysModules) = false /\ ∃ vs,KV kvs vs /\ h.DictOf (yb P w) a vs
 | .dT kvs=>kvs.length <= sizeLine /\ (a == sysModules) = false /\ ∃ xs:List (List Key × Addr × Value),
   Paired (fun (p:List Key × V) (q:List Key × Addr × Value)=>p.1 = q.1 /\ H q.2.1 = some (.tup (p.1.map kV)) /\ RelV p.2 q.2.2) kvs xs /\
   ∃ o es ep,h.get? a = some o /\ o.ExactDict /\ o.data = .dict es ep /\ es.toList = xs.map (entryOfKey (tupleKind (yb P w))) /\ (xs.map (·.1)).Nodup
 | .set S n=>h.SetOf (intKind P w) a S n
 | .ins C dx fs=>H dx = some (.own a) /\ fs.length <= 1000 /\ dx ≠ a /\ h.get? a = some (W.instObj C dx) /\
   ∃ mA,h.Ns1 dx mA /\ (∀ f,RelO (fs.lookup f) (mA f)) /\ PySem.Within mA (fs.map (·.1))
 | .own _=>∃ o,h.get? a = some o
 | .xd fs=>∃ mA,h.Ns1 a mA /\ ∀ f,RelO (fs.lookup f) (mA f)
 | .rng lo hi=>∃ t u v,h.get? a = some { cls:=.type "range",data:=.fields #[.int lo t,.int hi u,.int 1 v] }
 | .frz o u=>h.get? a = some o /\ ObjOk H h a u
 | .tbl ps=>h.get? a = some { cls:=.none,data:=.fields ps }
 | .met f x=>h.get? a = some (W.methodObj (.ref f) (.ref x))
 | .ext φ=>φ h /\ (∃ o,h.get? a = some o) /\ ∀ h1 h2:Heap,φ h1 -> (∀ o,h1.get? a = some o -> h2.get? a = some o) -> φ h2
def HOk (H:Hp) (h:Heap):Prop:=∀ a o,H a = some o -> ObjOk P w H h a o
end
section
variable {P:Program} {w:World} {H H':Hp} {h h':Heap} {a:Addr} {o:HO}
theorem ObjOk.lt (x:ObjOk P w H h a o):a < h.objs.size:=by
 cases o with
 | lst xs=>obtain ⟨_,_,_,_,e⟩:=x;exact Heap.lt_size e
 | tup xs=>obtain ⟨_,_,_,p⟩:=x;exact p.lt
 | dK kvs=>obtain ⟨_,_,_,_,o,_,_,e,_⟩:=x;exact Heap.lt_size e
 | dT kvs=>obtain ⟨_,_,_,_,o,_,_,e,_⟩:=x;exact Heap.lt_size e
 | set S n=>obtain ⟨o,_,_,_,e,_⟩:=x;exact Heap.lt_size e
 | ins C dx fs=>obtain ⟨_,_,_,e,_⟩:=x;exact Heap.lt_size e
 | own y=>obtain ⟨_,e⟩:=x;exact Heap.lt_size e
 | xd fs=>obtain ⟨_,⟨_,_,_,e,_⟩,_⟩:=x;exact Heap.lt_size e
 | rng lo hi=>obtain ⟨_,_,_,e⟩:=x;exact Heap.lt_size e
 | frz ob u=>obtain ⟨e,_⟩:=x;exact Heap.lt_size e
 | tbl ps=>exact Heap.lt_size (show h.get? a = some _ from x)
 | met f y=>exact Heap.lt_size (show h.get? a = some _ from x)
 | ext φ=>obtain ⟨_,⟨_,e⟩,_⟩:=x;exact Heap.lt_size e
theorem Paired.mapP {α β:Type} {F G:α -> β -> Prop}:∀ {l₁:List α} {l₂:List β},Paired F l₁ l₂ -> (∀ a b,F a b -> G a b) -> Paired G l₁ l₂
 | _,_,.nil,_=>.nil
 | _,_,.cons r t,f=>.cons (f _ _ r) (Paired.mapP t f)
theorem ObjOk.stay (x:ObjOk P w H h a o) (k:∀ b u,(b = a \/ H b = some (.own a)) -> h.get? b = some u -> h'.get? b = some u)
  (ho:∀ b,H b = some (.own a) -> H' b = some (.own a)) (ht:∀ b xs,H b = some (.tup xs) -> H' b = some (.tup xs)):ObjOk P w H' h' a o:=by
 induction o with
 | lst xs=>obtain ⟨z,its,n,r,e⟩:=x;exact ⟨z,its,n,r,k _ _ (.inl rfl) e⟩
 | tup xs=>obtain ⟨z,its,r,ob,e,c⟩:=x;exact ⟨z,its,r,ob,k _ _ (.inl rfl) e,c⟩
 | dK kvs=>obtain ⟨z,y,vs,r,ob,es,ep,e,c⟩:=x;exact ⟨z,y,vs,r,ob,es,ep,k _ _ (.inl rfl) e,c⟩
 | dT kvs=>
  obtain ⟨z,y,xs,r,ob,es,ep,e,c⟩:=x
  exact ⟨z,y,xs,Paired.mapP r fun p q z=>⟨z.1,ht _ _ z.2.1,z.2.2⟩,ob,es,ep,k _ _ (.inl rfl) e,c⟩
 | set S n=>obtain ⟨ob,es,ep,t,e,c⟩:=x;exact ⟨ob,es,ep,t,k _ _ (.inl rfl) e,c⟩
 | ins C dx fs=>
  obtain ⟨d,z,ne,e,mA,⟨od,es,ep,e2,c⟩,r⟩:=x
  exact ⟨ho _ d,z,ne,k _ _ (.inl rfl) e,mA,⟨od,es,ep,k _ _ (.inr d) e2,c⟩,r⟩
 | own y=>obtain ⟨ob,e⟩:=x;exact ⟨ob,k _ _ (.inl rfl) e⟩
 | xd fs=>obtain ⟨mA,⟨od,es,ep,e,c⟩,r⟩:=x;exact ⟨mA,⟨od,es,ep,k _ _ (.inl rfl) e,c⟩,r⟩
 | rng lo hi=>obtain ⟨t,u,v,e⟩:=x;exact ⟨t,u,v,k _ _ (.inl rfl) e⟩
 | frz ob u ih=>obtain ⟨e,q⟩:=x;exact ⟨k _ _ (.inl rfl) e,ih q⟩
 | tbl ps=>
  have e:h.get? a = some { cls:=.none,data:=.fields ps }:=x
  show h'.get? a = some { cls:=.none,data:=.fields ps }
  exact k a _ (.inl rfl) e
 | met f y=>
  have e:h.get? a = some (W.methodObj (.ref f) (.ref y)):=x
  show h'.get? a = some (W.methodObj (.ref f) (.ref y))
  exact k a _ (.inl rfl) e
 | ext φ=>obtain ⟨p,⟨o,e⟩,st⟩:=x;exact ⟨st _ _ p fun o q=>k _ _ (.inl rfl) q,⟨o,k _ _ (.inl rfl) e⟩,st⟩
theorem HOk.lt (x:HOk P w H h) (e:H a = some o):a < h.objs.size:=(x a o e).lt
theorem HOk.fresh (x:HOk P w H h) (e:h.objs.size <= a):H a = none:=by
 cases q:H a with
 | none=>rfl
 | some u=>exact absurd (Nat.lt_of_lt_of_le (x.lt q) e) (Nat.lt_irrefl _)
theorem HOk.kept (x:HOk P w H h) (k:∀ b u,h.get? b = some u -> h'.get? b = some u):HOk P w H h':=fun a o e=>
 (x a o e).stay (fun b u _ q=>k b u q) (fun _ q=>q) fun _ _ q=>q
theorem HOk.laid (x:HOk P w H h) (k:∀ b u,h.get? b = some u -> h'.get? b = some u) (hp:h.objs.size <= a) (new:ObjOk P w (upd H a o) h' a o):HOk P w (upd H a o) h':=fun b u e=>by
 have hn:=x.fresh hp
 by_cases hb:b = a
 ·subst hb;rw [a8] at e;cases e;exact new
 ·rw [a7 hb] at e
  exact (x b u e).stay (fun c v _ q=>k c v q) (fun c q=>by rw [a7 (bh q hn)];exact q) fun c xs q=>by rw [a7 (bh q hn)];exact q
end
def Rd (H:Hp) (a:Addr) (u:HO):Prop:=H a = some u \/ ∃ o,H a = some (.frz o u)
theorem Rd.ok {P:Program} {w:World} {H:Hp} {h:Heap} {a:Addr} {u:HO} (r:Rd H a u) (x:HOk P w H h):ObjOk P w H h a u:=by
 rcases r with r | ⟨o,r⟩
 ·exact x a u r
 ·obtain ⟨_,q⟩:=x a _ r
  exact q
def Mut:Option HO -> Prop
 | some (.lst _)=>True
 | some (.dK _)=>True
 | some (.dT _)=>True
 | some (.set _ _)=>True
 | some (.ins _ _ _)=>True
 | some (.ext _)=>True
 | _=>False
section
variable {P:Program} {w:World} {H:Hp} {h h':Heap} {x e:Addr} {o':HO}
theorem HOk.write (ok:HOk P w H h) (mu:Mut (H x)) (he:e = x \/ H e = some (.own x)) (k:∀ b u,b ≠ e -> h.get? b = some u -> h'.get? b = some u) (heo:∃ u,h'.get? e = some u)
  (new:ObjOk P w (upd H x o') h' x o'):HOk P w (upd H x o') h':=fun b u q=>by
 have nown:∀ c y,H c = some (.own y) -> c ≠ x:=fun c y r z=>by subst z;rw [r] at mu;exact mu
 have ntup:∀ c xs,H c = some (.tup xs) -> c ≠ x:=fun c xs r z=>by subst z;rw [r] at mu;exact mu
 by_cases hb:b = x
 ·subst hb;rw [a8] at q;cases q;exact new
 ·rw [a7 hb] at q
  by_cases hbe:b = e
  ·have q':H b = some (.own x):=by
    rcases he with z | z
    ·exact absurd (hbe.trans z) hb
    ·rw [hbe];exact z
   rw [q] at q';cases q'
   obtain ⟨v,hv⟩:=heo
   exact ⟨v,by rw [hbe];exact hv⟩
  ·refine (ok b u q).stay (fun c v hc r=>k c v ?_ r) (fun c r=>by rw [a7 (nown c b r)];exact r) fun c xs r=>by rw [a7 (ntup c xs r)];exact r
   rcases hc with rfl | hc
   ·exact hbe
   ·rintro rfl
    rcases he with z | z
    ·exact nown c b hc z
    ·rw [hc] at z;cases z;exact hb rfl
end
structure Un (fs ex:List Addr) (H H':Hp) (h h':Heap):Prop where
 keep:∀ b o,h.get? b = some o -> H b = none -> b ∉ fs -> b ∉ ex -> h'.get? b = some o
 slot:∀ b o,h.get? b = some o -> H b = none -> b ∈ fs -> b ∉ ex -> ∃ sl,h'.get? b = some { o with slots:=sl }
 free:∀ b o,h.get? b = some o -> H b = none -> b ∉ ex -> H' b = none
 there:∀ b o,h.get? b = some o -> b ∉ ex -> ∃ o',h'.get? b = some o'
 tups:∀ b xs,H b = some (.tup xs) -> H' b = some (.tup xs)
 frzs:∀ b o u,H b = some (.frz o u) -> H' b = some (.frz o u)
 tbls:∀ b ps,H b = some (.tbl ps) -> ∃ more,H' b = some (.tbl (ps ++ more))
section
variable {fs fs' ex ex':List Addr} {H H1 H2:Hp} {h h1 h2 h':Heap} {a x e:Addr} {o:HO}
theorem Un.any (u:Un fs ex H H1 h h1) {b:Addr} {ob:Obj} (q:h.get? b = some ob) (n:H b = none) (hx:b ∉ ex):∃ sl,h1.get? b = some { ob with slots:=sl }:=by
 by_cases hb:b ∈ fs
 ·exact u.slot b ob q n hb hx
 ·exact ⟨ob.slots,u.keep b ob q n hb hx⟩
theorem Un.trans (a:Un fs ex H H1 h h1) (b:Un fs ex H1 H2 h1 h2):Un fs ex H H2 h h2 where
 keep:=fun c ob q n hc hx=>b.keep c ob (a.keep c ob q n hc hx) (a.free c ob q n hx) hc hx
 slot:=fun c ob q n hc hx=>by
  obtain ⟨sl,e1⟩:=a.slot c ob q n hc hx
  obtain ⟨sl',e2⟩:=b.slot c _ e1 (a.free c ob q n hx) hc hx
  exact ⟨sl',e2⟩
 free:=fun c ob q n hx=>by
  obtain ⟨o',e1⟩:=a.there c ob q hx
  exact b.free c o' e1 (a.free c ob q n hx) hx
 there:=fun c ob q hx=>by
  obtain ⟨o',e1⟩:=a.there c ob q hx
  exact b.there c o' e1 hx
 tups:=fun c xs q=>b.tups c xs (a.tups c xs q)
 frzs:=fun c ob xs q=>b.frzs c ob xs (a.frzs c ob xs q)
 tbls:=fun c ps q=>by
  obtain ⟨m1,e1⟩:=a.tbls c ps q
  obtain ⟨m2,e2⟩:=b.tbls c _ e1
  exact ⟨m1 ++ m2,by rw [e2,Array.append_assoc]⟩
theorem Un.kept (k:∀ b u,h.get? b = some u -> h'.get? b = some u):Un fs ex H H h h':=
 ⟨fun b ob q _ _ _=>k b ob q,fun b ob q _ _ _=>⟨ob.slots,k b ob q⟩,fun _ _ _ n _=>n,fun b ob q _=>⟨ob,k b ob q⟩,fun _ _ q=>q,fun _ _ _ q=>q,fun _ ps q=>⟨#[],by rw [q];simp⟩⟩
theorem Un.refl:Un fs ex H H h h:=Un.kept fun _ _ q=>q
theorem Un.laid (k:∀ b u,h.get? b = some u -> h'.get? b = some u) (hp:h.objs.size <= a) (hn:H a = none):Un fs ex H (upd H a o) h h' where
 keep:=fun b u q _ _ _=>k b u q
 slot:=fun b u q _ _ _=>⟨u.slots,k b u q⟩
 free:=fun b u q n _=>by rw [a7 (Nat.ne_of_lt (Nat.lt_of_lt_of_le (Heap.lt_size q) hp))];exact n
 there:=fun b u q _=>⟨u,k b u q⟩
 tups:=fun b xs q=>by rw [a7 (bh q hn)];exact q
 frzs:=fun b u xs q=>by rw [a7 (bh q hn)];exact q
 tbls:=fun b ps q=>⟨#[],by rw [a7 (bh q hn),q];simp⟩
theorem Un.write (mu:Mut (H x)) (he:e = x \/ H e = some (.own x)) (k:∀ b u,b ≠ e -> h.get? b = some u -> h'.get? b = some u) (heo:∃ u,h'.get? e = some u):Un fs ex H (upd H x o) h h':=by
 have hx:∀ b,H b = none -> b ≠ x:=fun b n z=>by subst z;rw [n] at mu;exact mu
 have hb:∀ b,H b = none -> b ≠ e:=fun b n z=>by
  subst z
  rcases he with r | r
  ·exact hx b n r
  ·rw [n] at r;cases r
 have hm:∀ b u,H b = some u -> ¬ Mut (some u) -> b ≠ x:=fun b u q nm z=>by subst z;rw [q] at mu;exact nm mu
 refine ⟨fun b u q n _ _=>k b u (hb b n) q,fun b u q n _ _=>⟨u.slots,k b u (hb b n) q⟩,fun b u q n _=>by rw [a7 (hx b n)];exact n,fun b u q _=>?_,
  fun b xs q=>by rw [a7 (hm b _ q fun z=>z)];exact q,fun b u xs q=>by rw [a7 (hm b _ q fun z=>z)];exact q,fun b ps q=>⟨#[],by rw [a7 (hm b _ q fun z=>z),q];simp⟩⟩
 by_cases hbe:b = e
 ·subst hbe;exact heo
 ·exact ⟨u,k b u hbe q⟩
end
def trk (h:Heap) (H:Hp):List Addr:=(List.range h.objs.size).filter fun a=>(H a).isSome
def yn (h:Heap) (H:Hp):Heap:=W.hideAll h (trk h H)
theorem C7 (h:Heap) (H:Hp):(yn h H).objs.size = h.objs.size:=W.hideAll_size _ _
theorem Fe {h:Heap} {H:Hp} {b:Addr} {o:Obj} (e:h.get? b = some o) (n:H b = none):(yn h H).get? b = some o:=
 W.hideAll_get _ e fun hm=>by
  have q:(H b).isSome = true:=(List.mem_filter.mp hm).2
  rw [n] at q;simp at q
theorem G5 {h:Heap} {H:Hp} {b:Addr} {o:Obj} (e:(yn h H).get? b = some o):h.get? b = some o /\ H b = none:=by
 have e':h.get? b = some o:=W.of_hideAll (trk h H) e
 refine ⟨e',?_⟩
 cases q:H b with
 | none=>rfl
 | some x=>
  have hm:b ∈ trk h H:=List.mem_filter.mpr ⟨List.mem_range.mpr (Heap.lt_size e'),by simp [q]⟩
  have z:(yn h H).get? b = none:=W.hideAll_none (trk h H) hm
  rw [z] at e;cases e
def Gp (g h:Heap) (L:Addr):List (Addr × Obj):=(List.range h.objs.size).filterMap fun a=>if a = L \/ (g.get? a).isSome = true then none else (h.get? a).map fun o=>(a,o)
def rest (g h:Heap) (L d:Addr):List (Addr × Obj):=(Gp g h L).filter fun p=>decide (p.1 ≠ d)
structure Mod (K:W.Frag) (mg:Str -> Option Value) (base:Heap):Prop where
 kin:K.In base
 glob:base.Ns mainGlobals mg
 blt:∃ mb,base.Ns builtinsNs mb /\ ∀ x:Str,x ≠ "__name__" -> mb x = bootBuiltins x
 nolimit:base.NoLimit
structure Cx where
 prog:Program
 w:World
 K:W.Frag
 mg:Str -> Option Value
 base:Heap
 A:Around
 N:List Str
 s₀:Shared
 H₀:Hp
 env:Env
 outer:List Env
 stack:List Env
 ex:List Addr
 fn:Str -> Bool
 calm:Bool
 pn:List (Addr × Obj)
 xe:Value -> Shared -> Prop
def frs (l:List Env):List Addr:=l.filterMap (·.frame)
abbrev Cx.fs (X:Cx):List Addr:=frs X.outer
def Vis (sc:Scope) (x:Str):Prop:=sc.names.lookup x = some .local \/ sc.names.lookup x = some .cell \/ sc.names.lookup x = some .free
def Loc (sc:Scope) (x:Str):Prop:=sc.names.lookup x = some .local \/ sc.names.lookup x = some .cell
def Md (env:Env) (h:Heap) (m:Str -> Option Value) (x:Str) (u:Value):Prop:=
 (env.kindOf x = some .local /\ m x = some u) \/ ((env.kindOf x = some .cell \/ env.kindOf x = some .free) /\ ∃ c,env.cells.lookup x = some c /\ h.IsCell c (some u))
structure Cx.Ok (X:Cx):Prop where
 mod:Mod X.K X.mg X.base
 kind:X.env.scope.kind = .function
 glob:X.env.globals = mainGlobals
 blt:X.env.builtins = builtinsNs
 above:X.s₀.heap.objs.size <= X.env.locals
 inj:∀ x y c,X.env.cells.lookup x = some c -> X.env.cells.lookup y = some c -> x = y
 has:∀ x,(X.env.kindOf x = some .cell \/ X.env.kindOf x = some .free) -> ∃ c,X.env.cells.lookup x = some c
 cab:∀ x c,X.fn x = true -> X.env.cells.lookup x = some c -> X.s₀.heap.objs.size <= c
 hd:X.calm = true -> X.A.handled = none
 frames:X.A.frames = some X.stack
 stk:X.stack = X.outer \/ (X.stack = X.env :: X.outer /\ X.env.frame = some X.env.locals)
 exf:∀ b ∈ X.ex,b ≠ X.env.locals /\ ∀ x c,X.env.cells.lookup x = some c -> c ≠ b
 bs:∀ b o,X.base.get? b = some o -> X.s₀.heap.get? b = some o /\ X.H₀ b = none
 bsz:X.base.objs.size <= X.s₀.heap.objs.size
 noex:∀ b o,X.base.get? b = some o -> b ∉ X.ex
 exfs:∀ b ∈ X.ex,b ∉ X.fs
 funs:X.s₀.heap.FunFrames X.base X.outer
 frf:∀ b ∈ X.fs,X.H₀ b = none
structure Inv (X:Cx) (pins:List (Addr × Obj)) (σ:List (Option V)) (H:Hp) (s:Shared):Prop where
 ok:X.Ok
 os:s.os = X.s₀.os
 bare:AllBare s.gens
 base:Un X.fs X.ex X.H₀ H X.s₀.heap s.heap
 loc:∃ m,s.heap.Ns X.env.locals m /\ ∀ (i:Nat) (x:Str) (v:V),X.N[i]? = some x -> σ[i]? = some (some v) -> Vis X.env.scope x -> ∃ u,RelV v u /\ Md X.env s.heap m x u
 cell:∀ x c,X.env.cells.lookup x = some c -> ∃ v,s.heap.IsCell c v
 free:H X.env.locals = none
 freeC:∀ x c,X.env.cells.lookup x = some c -> H c = none
 pin:∀ p ∈ X.pn ++ pins,s.heap.get? p.1 = some p.2 /\ H p.1 = none /\ p.1 ≠ X.env.locals /\ p.1 ∉ X.fs /\ ∀ v,p.2.data ≠ .cell v
 hok:HOk X.prog X.w H s.heap
 len:σ.length = X.N.length
section
variable {X:Cx} {pins:List (Addr × Obj)} {σ:List (Option V)} {H H':Hp} {s:Shared} {h':Heap}
theorem Cx.Ok.nofr (ok:X.Ok) {b:Addr} {o:Obj} (e:X.base.get? b = some o):b ∉ X.fs:=fun hb=>by
 have:=(ok.funs.mem hb).1
 rw [e] at this;cases this
theorem Inv.bs (I:Inv X pins σ H s):∀ b o,X.base.get? b = some o -> s.heap.get? b = some o /\ H b = none:=fun b o e=>
 ⟨I.base.keep b o (I.ok.bs b o e).1 (I.ok.bs b o e).2 (I.ok.nofr e) (I.ok.noex b o e),I.base.free b o (I.ok.bs b o e).1 (I.ok.bs b o e).2 (I.ok.noex b o e)⟩
theorem Inv.bk (I:Inv X pins σ H s):∀ b o,X.base.get? b = some o -> s.heap.get? b = some o:=fun b o e=>(I.bs b o e).1
theorem Inv.mod (I:Inv X pins σ H s):Mod X.K X.mg X.base:=I.ok.mod
theorem Inv.kIn (I:Inv X pins σ H s):X.K.In s.heap:=I.ok.mod.kin.keeps I.bk
theorem Inv.fr (I:Inv X pins σ H s):∃ m,Fr X.base X.env.locals s.heap m:=
 let ⟨m,hn,_⟩:=I.loc
 ⟨m,hn,I.bk,Nat.le_trans I.ok.bsz I.ok.above⟩
theorem Inv.lt (I:Inv X pins σ H s):X.env.locals < s.heap.objs.size:=let ⟨_,hn,_⟩:=I.loc;hn.lt
theorem Inv.sz (I:Inv X pins σ H s):X.s₀.heap.objs.size <= s.heap.objs.size:=Nat.le_trans I.ok.above (Nat.le_of_lt I.lt)
theorem Inv.nofs (I:Inv X pins σ H s) {a:Addr} (h:s.heap.objs.size <= a):a ∉ X.fs:=fun hb=>by
 obtain ⟨_,o,ho,_⟩:=I.ok.funs.mem hb
 exact absurd (Nat.lt_of_lt_of_le (Heap.lt_size ho) (Nat.le_trans I.sz h)) (Nat.lt_irrefl _)
theorem Inv.cne (I:Inv X pins σ H s):∀ x c,X.env.cells.lookup x = some c -> c ≠ X.env.locals:=fun x c e z=>by
 obtain ⟨v,o,ho,hd⟩:=I.cell x c e
 obtain ⟨m,⟨o',es,ep,ho',hd',_⟩,_⟩:=I.loc
 rw [z,ho'] at ho;cases ho;rw [hd'] at hd;cases hd
theorem Inv.funs (I:Inv X pins σ H s):s.heap.FunFrames X.base X.outer:=by
 have all:∀ (l:List Env),(∀ b ∈ frs l,b ∈ X.fs) -> X.s₀.heap.FunFrames X.base l -> s.heap.FunFrames X.base l:=by
  intro l
  induction l with
  | nil=>intro _ _;trivial
  | cons env r ih=>
   intro hs hl
   obtain ⟨hk,⟨L,o,hf,hn,ho,hd⟩,hr⟩:=hl
   have hL:L ∈ X.fs:=hs L (by unfold frs;rw [List.filterMap_cons,hf];exact List.mem_cons_self)
   obtain ⟨sl,e⟩:=I.base.slot L o ho (I.ok.frf L hL) hL fun z=>I.ok.exfs L z hL
   exact ⟨hk,⟨L,_,hf,hn,e,hd⟩,ih (fun b hb=>hs b (by unfold frs;rw [List.filterMap_cons,hf];exact List.mem_cons_of_mem _ hb)) hr⟩
 exact all X.outer (fun _ hb=>hb) I.ok.funs
theorem Inv.stack (I:Inv X pins σ H s):s.heap.FunFrames X.base X.stack:=by
 rcases I.ok.stk with e | ⟨e,hf⟩
 ·rw [e];exact I.funs
 ·rw [e]
  obtain ⟨m,hn,_⟩:=I.loc
  refine .cons (by rw [I.ok.kind];decide) hf hn ?_ I.funs
  exact Heap.get?_none_of_le (Nat.le_trans I.ok.bsz I.ok.above)
theorem Inv.stkSub (I:Inv X pins σ H s):∀ b ∈ frs X.stack,b ∈ X.env.locals :: X.fs:=fun b hb=>by
 rcases I.ok.stk with e | ⟨e,hf⟩
 ·rw [e] at hb;exact List.mem_cons_of_mem _ hb
 ·rw [e] at hb
  unfold frs at hb
  rw [List.filterMap_cons,hf] at hb
  exact hb
theorem Inv.stkFree (I:Inv X pins σ H s):∀ b ∈ frs X.stack,H b = none:=fun b hb=>by
 rcases List.mem_cons.mp (I.stkSub b hb) with e | hb
 ·rw [e];exact I.free
 ·obtain ⟨_,o,ho,_⟩:=I.ok.funs.mem hb
  exact I.base.free b o ho (I.ok.frf b hb) fun z=>I.ok.exfs b z hb
theorem Inv.step {g':Array GenState} {t':Nat} {d':Drawn} {ch:List Addr} (I:Inv X pins σ H s)
  (hch:∀ b ∈ ch,(b ∈ X.ex \/ X.s₀.heap.objs.size <= b) /\ b ≠ X.env.locals /\ (∀ x c,X.env.cells.lookup x = some c -> c ≠ b) /\ ∀ p ∈ X.pn ++ pins,p.1 ≠ b)
  (keep:∀ b o,b ≠ X.env.locals -> b ∉ X.fs -> b ∉ ch -> s.heap.get? b = some o -> H b = none -> h'.get? b = some o)
  (slot:∀ b o,b ≠ X.env.locals -> b ∈ X.fs -> b ∉ ch -> s.heap.get? b = some o -> H b = none -> ∃ sl,h'.get? b = some { o with slots:=sl }) (free:∀ b o,b ∉ ch -> s.heap.get? b = some o -> H b = none -> H' b = none)
  (there:∀ b o,b ∉ ch -> s.heap.get? b = some o -> ∃ o',h'.get? b = some o')
  (tups:∀ b xs,H b = some (.tup xs) -> H' b = some (.tup xs)) (frzs:∀ b o u,H b = some (.frz o u) -> H' b = some (.frz o u)) (tbls:∀ b ps,H b = some (.tbl ps) -> ∃ more,H' b = some (.tbl (ps ++ more)))
  (ns:∀ m,s.heap.Ns X.env.locals m -> h'.Ns X.env.locals m) (hok:HOk X.prog X.w H' h') (hg:AllBare g') :
  Inv X pins σ H' { s with heap:=h',gens:=g',drawn:=d',toks:=t' }:=by
 have neL:∀ b o,X.s₀.heap.get? b = some o -> b ≠ X.env.locals:=fun b o e=>Nat.ne_of_lt (Nat.lt_of_lt_of_le (Heap.lt_size e) I.ok.above)
 have neC:∀ b o,X.s₀.heap.get? b = some o -> b ∉ X.ex -> b ∉ ch:=fun b o e hx hb=>by
  rcases (hch b hb).1 with z | z
  ·exact hx z
  ·exact absurd (Nat.lt_of_lt_of_le (Heap.lt_size e) z) (Nat.lt_irrefl _)
 have cellK:∀ x c,X.env.cells.lookup x = some c -> ∀ v,s.heap.IsCell c v -> h'.IsCell c v:=fun x c e v hpt0=>by
  obtain ⟨o,ho,hd⟩:=hpt0
  have nch:c ∉ ch:=fun z=>(hch c z).2.2.1 x c e rfl
  by_cases hc:c ∈ X.fs
  ·obtain ⟨sl,q⟩:=slot c o (I.cne x c e) hc nch ho (I.freeC x c e)
   exact ⟨_,q,hd⟩
  ·exact ⟨o,keep c o (I.cne x c e) hc nch ho (I.freeC x c e),hd⟩
 refine ⟨I.ok,I.os,hg,⟨fun b o e n hb hx=>?_,fun b o e n hb hx=>?_,fun b o e n hx=>?_,fun b o e hx=>?_,fun b xs e=>tups b xs (I.base.tups b xs e),fun b o xs e=>frzs b o xs (I.base.frzs b o xs e),fun b ps e=>?_⟩,?_,fun x c e=>?_,?_,fun x c e=>?_,fun p hp=>?_,hok,I.len⟩
 ·exact keep b o (neL b o e) hb (neC b o e hx) (I.base.keep b o e n hb hx) (I.base.free b o e n hx)
 ·obtain ⟨sl,e1⟩:=I.base.slot b o e n hb hx
  obtain ⟨sl',e2⟩:=slot b _ (neL b o e) hb (neC b o e hx) e1 (I.base.free b o e n hx)
  exact ⟨sl',e2⟩
 ·obtain ⟨o',e1⟩:=I.base.there b o e hx
  exact free b o' (neC b o e hx) e1 (I.base.free b o e n hx)
 ·obtain ⟨o',e1⟩:=I.base.there b o e hx
  exact there b o' (neC b o e hx) e1
 ·obtain ⟨m1,e1⟩:=I.base.tbls b ps e
  obtain ⟨m2,e2⟩:=tbls b _ e1
  exact ⟨m1 ++ m2,by rw [e2,Array.append_assoc]⟩
 ·obtain ⟨m,hn,hl⟩:=I.loc
  refine ⟨m,ns m hn,fun i x v e1 e2 e3=>?_⟩
  obtain ⟨u,r,l⟩:=hl i x v e1 e2 e3
  refine ⟨u,r,?_⟩
  rcases l with l | ⟨k,c,e,z⟩
  ·exact .inl l
  ·exact .inr ⟨k,c,e,cellK x c e _ z⟩
 ·obtain ⟨v,z⟩:=I.cell x c e
  exact ⟨v,cellK x c e v z⟩
 ·obtain ⟨m,⟨o,_,_,ho,_⟩,_⟩:=I.loc
  exact free _ o (fun z=>(hch _ z).2.1 rfl) ho I.free
 ·obtain ⟨v,o,ho,hd⟩:=I.cell x c e
  exact free c o (fun z=>(hch c z).2.2.1 x c e rfl) ho (I.freeC x c e)
 ·obtain ⟨e,n,ne,nf,d⟩:=I.pin p hp
  have nch:p.1 ∉ ch:=fun z=>(hch p.1 z).2.2.2 p hp rfl
  exact ⟨keep p.1 p.2 ne nf nch e n,free p.1 p.2 nch e n,ne,nf,d⟩
theorem Inv.un {t':Nat} (I:Inv X pins σ H s) (u:Un X.fs [] H H' s.heap h') (hok:HOk X.prog X.w H' h'):Inv X pins σ H' { s with heap:=h',toks:=t' }:=by
 obtain ⟨m,⟨o,es,ep,ho,r⟩,_⟩:=id I.loc
 obtain ⟨sl,hL⟩:=u.any ho I.free (by simp)
 exact I.step (g':=s.gens) (d':=s.drawn) (ch:=[]) (fun _ z=>nomatch z) (fun b o _ hb _ e n=>u.keep b o e n hb (by simp)) (fun b o _ hb _ e n=>u.slot b o e n hb (by simp)) (fun b o _ e n=>u.free b o e n (by simp)) (fun b o _ e=>u.there b o e (by simp)) u.tups u.frzs u.tbls (fun m' hm=>by
  obtain ⟨o',es',ep',ho',r'⟩:=hm
  rw [ho] at ho';cases ho'
  exact ⟨_,es',ep',hL,r'⟩) hok I.bare
theorem Inv.call {g':Array GenState} {t':Nat} {d':Drawn} {ch:List Addr} (I:Inv X pins σ H s) (u:Un (frs X.stack) ch H H' s.heap h') (hok:HOk X.prog X.w H' h') (hg:AllBare g')
  (hch:∀ b ∈ ch,(b ∈ X.ex \/ X.s₀.heap.objs.size <= b) /\ b ≠ X.env.locals /\ (∀ x c,X.env.cells.lookup x = some c -> c ≠ b) /\ ∀ p ∈ X.pn ++ pins,p.1 ≠ b) :
  Inv X pins σ H' { s with heap:=h',gens:=g',drawn:=d',toks:=t' }:=by
 obtain ⟨m,⟨o,es,ep,ho,r⟩,_⟩:=id I.loc
 obtain ⟨sl,hL⟩:=u.any ho I.free fun z=>(hch _ z).2.1 rfl
 exact I.step (ch:=ch) hch (fun b o hL hb hc e n=>u.keep b o e n (fun z=>(List.mem_cons.mp (I.stkSub b z)).elim hL hb) hc) (fun b o _ _ hc e n=>u.any e n hc) (fun b o hc e n=>u.free b o e n hc) (fun b o hc e=>u.there b o e hc) u.tups u.frzs u.tbls (fun m' hm=>by
  obtain ⟨o',es',ep',ho',r'⟩:=hm
  rw [ho] at ho';cases ho'
  exact ⟨_,es',ep',hL,r'⟩) hok hg
theorem Inv.turned {t':Nat} {it:Addr} (I:Inv X pins σ H s) (k:∀ b o,b ≠ it -> s.heap.get? b = some o -> h'.get? b = some o) (hn:H it = none) (hL:it ≠ X.env.locals)
  (h1:it ∈ X.ex \/ X.s₀.heap.objs.size <= it) (h2:∀ x c,X.env.cells.lookup x = some c -> c ≠ it) (h3:∀ p ∈ X.pn ++ pins,p.1 ≠ it):Inv X pins σ H { s with heap:=h',toks:=t' }:=by
 have nit:∀ b u,H b = some u -> b ≠ it:=fun b u e z=>by rw [z,hn] at e;cases e
 refine I.step (g':=s.gens) (d':=s.drawn) (ch:=[it]) (fun b hb=>?_) (fun b o _ _ hc e _=>k b o (fun z=>hc (by simp [z])) e) (fun b o _ _ hc e _=>⟨o.slots,k b o (fun z=>hc (by simp [z])) e⟩) (fun _ _ _ _ n=>n)
  (fun b o hc e=>⟨o,k b o (fun z=>hc (by simp [z])) e⟩) (fun _ _ e=>e) (fun _ _ _ e=>e) (fun b ps e=>⟨#[],by rw [e];simp⟩) (fun m hm=>?_) (fun b u e=>?_) I.bare
 ·have e:b = it:=by simpa using hb
  subst e
  exact ⟨h1,hL,h2,h3⟩
 ·obtain ⟨o,es,ep,ho,r⟩:=hm
  exact ⟨o,es,ep,k _ o (Ne.symm hL) ho,r⟩
 ·refine (I.hok b u e).stay (fun c v hc q=>k c v ?_ q) (fun _ q=>q) fun _ _ q=>q
  rcases hc with z | z
  ·rw [z];exact nit b u e
  ·exact nit c _ z
theorem Inv.tok (I:Inv X pins σ H s) (t:Nat):Inv X pins σ H { s with toks:=t }:=I.un (h':=s.heap) (t':=t) Un.refl I.hok
theorem Inv.kept {t':Nat} (I:Inv X pins σ H s) (k:∀ b u,s.heap.get? b = some u -> h'.get? b = some u):Inv X pins σ H { s with heap:=h',toks:=t' }:=I.un (Un.kept k) (I.hok.kept k)
theorem Inv.laid {a:Addr} {o:HO} {t':Nat} (I:Inv X pins σ H s) (k:∀ b u,s.heap.get? b = some u -> h'.get? b = some u) (hp:s.heap.objs.size <= a) (new:ObjOk X.prog X.w (upd H a o) h' a o) :
  Inv X pins σ (upd H a o) { s with heap:=h',toks:=t' }:=I.un (Un.laid k hp (I.hok.fresh hp)) (I.hok.laid k hp new)
theorem Inv.write {x e:Addr} {o:HO} {t':Nat} (I:Inv X pins σ H s) (mu:Mut (H x)) (he:e = x \/ H e = some (.own x)) (k:∀ b u,b ≠ e -> s.heap.get? b = some u -> h'.get? b = some u) (heo:∃ u,h'.get? e = some u)
  (new:ObjOk X.prog X.w (upd H x o) h' x o):Inv X pins σ (upd H x o) { s with heap:=h',toks:=t' }:=I.un (Un.write mu he k heo) (I.hok.write mu he k heo new)
theorem Inv.weak {σ':List (Option V)} (I:Inv X pins σ H s) (hl:σ'.length = σ.length) (w:∀ (i:Nat) v,σ'[i]? = some (some v) -> σ[i]? = some (some v)):Inv X pins σ' H s:=
 ⟨I.ok,I.os,I.bare,I.base,let ⟨m,hn,hl'⟩:=I.loc;⟨m,hn,fun i x v e1 e2 e3=>hl' i x v e1 (w i v e2) e3⟩,I.cell,I.free,I.freeC,I.pin,I.hok,hl.trans I.len⟩
theorem Inv.pins_of {pins':List (Addr × Obj)} (I:Inv X pins σ H s) (h:∀ p ∈ pins',s.heap.get? p.1 = some p.2 /\ H p.1 = none /\ p.1 ≠ X.env.locals /\ p.1 ∉ X.fs /\ ∀ v,p.2.data ≠ .cell v):Inv X pins' σ H s:=
 ⟨I.ok,I.os,I.bare,I.base,I.loc,I.cell,I.free,I.freeC,fun p hp=>(List.mem_append.mp hp).elim (fun z=>I.pin p (List.mem_append_left _ z)) (h p),I.hok,I.len⟩
theorem AB {N:List Str} (hN:N.Nodup) {i j:Nat} {x:Str} (a:N[i]? = some x) (b:N[j]? = some x):i = j:=by
 obtain ⟨h1,e1⟩:=List.getElem?_eq_some_iff.mp a
 obtain ⟨h2,e2⟩:=List.getElem?_eq_some_iff.mp b
 exact (List.getElem_inj hN).mp (e1.trans e2.symm)
theorem Du {M:Model} {A:Around} {E:Value -> Shared -> Prop} {i:Nat} {x:Str} {v:V} {u:Value} {Q:Unit -> Shared -> Prop} (I:Inv X pins σ H s) (hN:X.N.Nodup) (hi:X.N[i]? = some x) (hx:Loc X.env.scope x) (r:RelV v u)
  (h:∀ s',Inv X pins (σ.set i (some v)) H s' -> (∃ a,Heap.SameBut a s.heap s'.heap /\ (a = X.env.locals \/ X.env.cells.lookup x = some a)) -> Q () s') (hf:X.fn x = true \/ X.env.scope.names.lookup x = some .local:=by first | exact .inl rfl | exact .inr rfl | assumption):wpAny M A (storeName X.env x u) Q E s:=by
 obtain ⟨m,hn,hl⟩:=id I.loc
 have hcls:(X.env.scope.kind == .class || (X.env.scope.kind == .module && X.env.locals != X.env.globals)) = false:=by rw [I.ok.kind];rfl
 have hiσ:i < σ.length:=by rw [I.len];exact (List.getElem?_eq_some_iff.mp hi).1
 have cne:=I.cne
 have tracked:∀ {a:Addr} {h':Heap},(∃ o,s.heap.get? a = some o /\ H a = none) -> Heap.SameBut a s.heap h' -> HOk X.prog X.w H h':=fun {a h'} ha hs b ob e=>by
  obtain ⟨_,_,hfree⟩:=ha
  refine (I.hok b ob e).stay (fun c w' hc q=>(hs.2 c ?_).trans q) (fun _ q=>q) fun _ _ q=>q
  rintro rfl
  rcases hc with rfl | hc
  ·rw [hfree] at e;cases e
  ·rw [hfree] at hc;cases hc
 rcases hx with hk | hk
 ·refine wpAny_storeName_local hk hn (fun h' hn' hs=>?_) hcls
  obtain ⟨oL,_,_,hoL,_⟩:=id hn
  refine h _ ⟨I.ok,I.os,I.bare,⟨fun b o e n hb hx=>?_,fun b o e n hb hx=>?_,I.base.free,fun b o e hx=>?_,I.base.tups,I.base.frzs,I.base.tbls⟩,⟨_,hn',fun j y v' e1 e2 e3=>?_⟩,fun y c e=>?_,I.free,I.freeC,fun p hp=>?_,tracked ⟨oL,hoL,I.free⟩ hs,by simpa using I.len⟩ ⟨_,hs,.inl rfl⟩
  ·exact (hs.2 b (Nat.ne_of_lt (Nat.lt_of_lt_of_le (Heap.lt_size e) I.ok.above))).trans (I.base.keep b o e n hb hx)
  ·obtain ⟨sl,e1⟩:=I.base.slot b o e n hb hx
   exact ⟨sl,(hs.2 b (Nat.ne_of_lt (Nat.lt_of_lt_of_le (Heap.lt_size e) I.ok.above))).trans e1⟩
  ·obtain ⟨o',e1⟩:=I.base.there b o e hx
   exact ⟨o',(hs.2 b (Nat.ne_of_lt (Nat.lt_of_lt_of_le (Heap.lt_size e) I.ok.above))).trans e1⟩
  ·by_cases hj:j = i
   ·subst hj
    rw [hi] at e1;cases e1
    rw [List.getElem?_set_self hiσ] at e2
    cases e2
    exact ⟨u,r,.inl ⟨hk,by simp⟩⟩
   ·rw [List.getElem?_set_ne (Ne.symm hj)] at e2
    obtain ⟨u',r',q⟩:=hl j y v' e1 e2 e3
    refine ⟨u',r',?_⟩
    rcases q with ⟨k,e⟩ | ⟨k,c,e,z⟩
    ·refine .inl ⟨k,?_⟩
     have:y ≠ x:=fun e=>hj (AB hN e1 (e ▸ hi))
     simp [this,e]
    ·exact .inr ⟨k,c,e,z.sameBut hs (cne y c e)⟩
  ·obtain ⟨w',z⟩:=I.cell y c e
   exact ⟨w',z.sameBut hs (cne y c e)⟩
  ·obtain ⟨e,n,ne,nf,d⟩:=I.pin p hp
   exact ⟨(hs.2 p.1 ne).trans e,n,ne,nf,d⟩
 ·have hfn:X.fn x = true:=by
   rcases hf with z | z
   ·exact z
   ·rw [z] at hk;cases hk
  obtain ⟨c,hc⟩:=I.ok.has x (.inl hk)
  obtain ⟨w',z⟩:=I.cell x c hc
  refine wpAny_storeName_cell I.ok.kind hk hc z (fun h' hc' hs=>?_)
  obtain ⟨oc,hoc,hocd⟩:=id z
  refine h { s with heap:=h' } ⟨I.ok,I.os,I.bare,⟨fun b o e n hb hx=>?_,fun b o e n hb hx=>?_,I.base.free,fun b o e hx=>?_,I.base.tups,I.base.frzs,I.base.tbls⟩,⟨m,hn.sameBut hs (Ne.symm (cne x c hc)),fun j y v' e1 e2 e3=>?_⟩,fun y c' e=>?_,I.free,I.freeC,fun p hp=>?_,tracked ⟨oc,hoc,I.freeC x c hc⟩ hs,by simpa using I.len⟩ ⟨c,hs,.inr hc⟩
  ·exact (hs.2 b (Nat.ne_of_lt (Nat.lt_of_lt_of_le (Heap.lt_size e) (I.ok.cab x c hfn hc)))).trans (I.base.keep b o e n hb hx)
  ·obtain ⟨sl,e1⟩:=I.base.slot b o e n hb hx
   exact ⟨sl,(hs.2 b (Nat.ne_of_lt (Nat.lt_of_lt_of_le (Heap.lt_size e) (I.ok.cab x c hfn hc)))).trans e1⟩
  ·obtain ⟨o',e1⟩:=I.base.there b o e hx
   exact ⟨o',(hs.2 b (Nat.ne_of_lt (Nat.lt_of_lt_of_le (Heap.lt_size e) (I.ok.cab x c hfn hc)))).trans e1⟩
  ·by_cases hj:j = i
   ·subst hj
    rw [hi] at e1;cases e1
    rw [List.getElem?_set_self hiσ] at e2
    cases e2
    exact ⟨u,r,.inr ⟨.inl hk,c,hc,hc'⟩⟩
   ·rw [List.getElem?_set_ne (Ne.symm hj)] at e2
    obtain ⟨u',r',q⟩:=hl j y v' e1 e2 e3
    refine ⟨u',r',?_⟩
    rcases q with q | ⟨k,c',e,z'⟩
    ·exact .inl q
    ·refine .inr ⟨k,c',e,z'.sameBut hs ?_⟩
     rintro rfl
     exact hj (AB hN e1 (I.ok.inj _ _ _ e hc ▸ hi))
  ·by_cases hcc:c' = c
   ·subst hcc;exact ⟨_,hc'⟩
   ·obtain ⟨w2,z2⟩:=I.cell y c' e
    exact ⟨w2,z2.sameBut hs hcc⟩
  ·obtain ⟨e,n,ne,nf,d⟩:=I.pin p hp
   refine ⟨(hs.2 p.1 ?_).trans e,n,ne,nf,d⟩
   intro q
   rw [q,hoc] at e
   have q':oc = p.2:=Option.some.inj e
   exact d w' (by rw [<- q'];exact hocd)
theorem tV {M:Model} {A:Around} {E:Value -> Shared -> Prop} {i:Nat} {x:Str} {v:V} {u:Value} {Q:Unit -> Shared -> Prop} (I:Inv X pins σ H s) (hN:X.N.Nodup) (hi:X.N[i]? = some x) (hx:Loc X.env.scope x) (r:RelV v u)
  (h:∀ s',Inv X pins (σ.set i (some v)) H s' -> Q () s') (hf:X.fn x = true \/ X.env.scope.names.lookup x = some .local:=by first | exact .inl rfl | exact .inr rfl | assumption):wpAny M A (storeName X.env x u) Q E s:=
 Du I hN hi hx r (fun s' I' _=>h s' I') hf
theorem Inv.call' {s':Shared} {ch:List Addr} (I:Inv X pins σ H s) (ho:s'.os = s.os) (u:Un (frs X.stack) ch H H' s.heap s'.heap) (hok:HOk X.prog X.w H' s'.heap) (hg:AllBare s'.gens)
  (hch:∀ b ∈ ch,(b ∈ X.ex \/ X.s₀.heap.objs.size <= b) /\ b ≠ X.env.locals /\ (∀ x c,X.env.cells.lookup x = some c -> c ≠ b) /\ ∀ p ∈ X.pn ++ pins,p.1 ≠ b):Inv X pins σ H' s':=by
 obtain ⟨h',g',d',t',o'⟩:=s'
 have e:o' = s.os:=ho
 subst e
 exact I.call (g':=g') (t':=t') (d':=d') u hok hg hch
end
abbrev XK:=Value -> Option Addr -> Hp -> Prop
abbrev St:=List (Option V)
abbrev VK:=V -> Hp -> Prop
abbrev TE:=St -> Hp -> VK -> Prop
abbrev TT:=St -> Hp -> (Bool -> Hp -> Prop) -> Prop
abbrev TA:=St -> Hp -> (List V -> Hp -> Prop) -> Prop
structure Ends where
 nx:St -> Hp -> Prop
 rt:VK
 bk:St -> Hp -> Prop:=fun _ _=>False
 ct:St -> Hp -> Prop:=fun _ _=>False
abbrev TS:=Ends -> St -> Hp -> Prop
def EP (X:Cx) (pins:List (Addr × Obj)) (σ:St) (Q:VK) (u:Value) (s':Shared):Prop:=∃ v H',Inv X pins σ H' s' /\ RelV v u /\ Q v H'
def TP (X:Cx) (pins:List (Addr × Obj)) (σ:St) (Q:Bool -> Hp -> Prop) (b:Bool) (s':Shared):Prop:=∃ H',Inv X pins σ H' s' /\ Q b H'
def AP (X:Cx) (pins:List (Addr × Obj)) (σ:St) (Q:List V -> Hp -> Prop) (us:List Value) (s':Shared):Prop:=∃ vs H',Inv X pins σ H' s' /\ Vals vs us /\ Q vs H'
def SP (X:Cx) (pins:List (Addr × Obj)) (D:Ends) (f:Flow) (s':Shared):Prop:=
 match f with
 | .next=>∃ σ' H',Inv X pins σ' H' s' /\ D.nx σ' H'
 | .brk=>∃ σ' H',Inv X pins σ' H' s' /\ D.bk σ' H'
 | .cont=>∃ σ' H',Inv X pins σ' H' s' /\ D.ct σ' H'
 | .ret u=>∃ v σ' H',Inv X pins σ' H' s' /\ RelV v u /\ D.rt v H'
def PE (X:Cx) (e:Expr) (t:TE):Prop:=
 ∀ (pins:List (Addr × Obj)) (s:Shared) (σ:St) (H:Hp) (Q:VK),Inv X pins σ H s -> t σ H Q -> wpAny (model X.prog X.w) X.A (eval e X.env) (EP X pins σ Q) X.xe s
def PT (X:Cx) (e:Expr) (t:TT):Prop:=
 ∀ (pins:List (Addr × Obj)) (s:Shared) (σ:St) (H:Hp) (Q:Bool -> Hp -> Prop),Inv X pins σ H s -> t σ H Q -> wpAny (model X.prog X.w) X.A (isTrue e X.env (eval e X.env)) (TP X pins σ Q) X.xe s
def PW (X:Cx) (e:Expr) (t:TT):Prop:=
 ∀ (whole:Sem Value) (pins:List (Addr × Obj)) (s:Shared) (σ:St) (H:Hp) (Q:Bool -> Hp -> Prop),Inv X pins σ H s -> t σ H Q -> wpAny (model X.prog X.w) X.A (isTrue e X.env whole) (TP X pins σ Q) X.xe s
theorem PW.pt {X:Cx} {e:Expr} {t:TT} (h:PW X e t):PT X e t:=h _
def PA (X:Cx) (es:List Expr) (t:TA):Prop:=
 ∀ (pos:Pos) (pins:List (Addr × Obj)) (s:Shared) (σ:St) (H:Hp) (Q:List V -> Hp -> Prop),Inv X pins σ H s -> t σ H Q -> wpAny (model X.prog X.w) X.A (spliced (backTo pos (starEach es X.env))) (AP X pins σ Q) X.xe s
def PS (X:Cx) (st:Stmt) (t:TS):Prop:=
 ∀ (pins:List (Addr × Obj)) (s:Shared) (σ:St) (H:Hp) (D:Ends),Inv X pins σ H s -> t D σ H -> wpAny (model X.prog X.w) X.A (exec st X.env) (SP X pins D) X.xe s
def PSs (X:Cx) (st:List Stmt) (t:TS):Prop:=
 ∀ (pins:List (Addr × Obj)) (s:Shared) (σ:St) (H:Hp) (D:Ends),Inv X pins σ H s -> t D σ H -> wpAny (model X.prog X.w) X.A (execs st X.env) (SP X pins D) X.xe s
theorem thn {α:Type} {t:Sem α} {Q Q':α -> Shared -> Prop} {M:Model} {A:Around} {E:Value -> Shared -> Prop} {s:Shared} (h:wpAny M A t Q E s) (hQ:∀ a s,Q a s -> Q' a s):wpAny M A t Q' E s:=wpAny_mono h hQ fun _ _ x=>x
section
variable {X:Cx}
def sw (i:Nat):TE:=fun σ H Q=>∃ v,σ[i]? = some (some v) /\ Q v H
def tC (v:V):TE:=fun _ H Q=>Q v H
theorem Jp {i:Nat} {x:Str} {pos:Pos} (hN:X.N[i]? = some x) (hv:Vis X.env.scope x) (hd:(x == ("__debug__" : Str)) = false:=by decide) (hcd:(x == ("__classdict__" : Str)) = false:=by decide):PE X (.Name x pos) (sw i):=by
 intro pins s σ H Q I h
 obtain ⟨v,e,h⟩:=h
 obtain ⟨m,hn,hl⟩:=I.loc
 obtain ⟨u,r,l⟩:=hl i x v hN e hv
 have fin:EP X pins σ Q u s:=⟨v,H,I,r,h⟩
 rcases l with ⟨hk,hm⟩ | ⟨hk,c,hc,hcell⟩
 ·exact wpAny_Name (wpAny_loadName_local I.ok.kind hk hn hm fin) hd
 ·rcases hk with hk | hk
  ·exact wpAny_Name (wpAny_loadName_cell I.ok.kind hk hc hcell fin) hd
  ·exact wpAny_Name (wpAny_loadName_free I.ok.kind hk hc hcell fin hcd) hd
theorem aj {i j pos}:PE X (.Constant (.int i) j pos) (tC (.int i)):=fun _ _ _ H _ I h=>wpAny_Constant_int ⟨.int i,H,I.tok _,⟨_,rfl⟩,h⟩
theorem Cg {b j pos}:PE X (.Constant (.bool b) j pos) (tC (.bl b)):=fun _ _ _ H _ I h=>Constant_bool ⟨.bl b,H,I,rfl,h⟩
theorem Ih {j pos}:PE X (.Constant .none j pos) (tC .non):=fun _ _ _ H _ I h=>Constant_none ⟨.non,H,I,rfl,h⟩
def Gl (X:Cx) (x:Str):Prop:=X.env.kindOf x = some .globalImplicit
theorem yc {E:Value -> Shared -> Prop} {pins:List (Addr × Obj)} {s:Shared} {σ:St} {H:Hp} {x:Str} {u:Value} {pos:Pos} {Q:Value -> Shared -> Prop} (I:Inv X pins σ H s) (hg:Gl X x) (hm:X.mg x = some u) (h:Q u s)
  (hd:(x == ("__debug__" : Str)) = false:=by decide):wpAny (model X.prog X.w) X.A (eval (.Name x pos) X.env) Q E s:=
 Calls.Name_function_global I.ok.kind hg (Calls.loadGlobal_global (by rw [I.ok.glob];exact I.mod.glob.keeps I.bk) hm h) hd
theorem uk {E:Value -> Shared -> Prop} {pins:List (Addr × Obj)} {s:Shared} {σ:St} {H:Hp} {x:Str} {u:Value} {pos:Pos} {Q:Value -> Shared -> Prop} (I:Inv X pins σ H s) (hg:Gl X x) (hm:X.mg x = none) (hv:bootBuiltins x = some u) (h:Q u s)
  (hn:x ≠ "__name__" := by decide) (hd:(x == ("__debug__" : Str)) = false:=by decide):wpAny (model X.prog X.w) X.A (eval (.Name x pos) X.env) Q E s:=by
 obtain ⟨mb,h1,h2⟩:=I.mod.blt
 exact Calls.Name_function_global I.ok.kind hg (Calls.loadGlobal_builtin (by rw [I.ok.glob];exact I.mod.glob.keeps I.bk) hm (by rw [I.ok.blt];exact h1.keeps I.bk) ((h2 x hn).trans hv) h) hd
theorem BS {x:Str} {v:V} {u:Value} {pos:Pos} (hg:Gl X x) (hm:X.mg x = some u) (r:RelV v u) (hd:(x == ("__debug__" : Str)) = false:=by decide):PE X (.Name x pos) (tC v):=
 fun _ _ _ H _ I h=>yc I hg hm ⟨v,H,I,r,h⟩ hd
variable {a b:Expr} {ta tb:TE} {pos:Pos}
def tB (t:TE):TT:=fun σ H Q=>t σ H fun x H1=>∃ c,x = .bl c /\ Q c H1
variable {tA tB':TT} {rest:List Expr}
def J4 (t u:TT):TT:=fun σ H Q=>t σ H fun c H1=>if c = true then u σ H1 Q else Q false H1
def tOr (t u:TT):TT:=fun σ H Q=>t σ H fun c H1=>if c = true then Q true H1 else u σ H1 Q
def JY (t:TT):TT:=fun σ H Q=>t σ H fun c H1=>Q (!c) H1
theorem pr (ha:PT X a tA):PW X (.BoolOp .And [a] pos) tA:=by
 intro wh pins s σ H Q I h
 refine isTrue_and (thn (ha pins s σ H Q I h) fun c s1 e=>?_)
 cases c with
 | true=>exact isTrue_and_nil e
 | false=>exact e
theorem tJ (ha:PT X a tA):PW X (.BoolOp .Or [a] pos) tA:=by
 intro wh pins s σ H Q I h
 refine isTrue_or (thn (ha pins s σ H Q I h) fun c s1 e=>?_)
 cases c with
 | false=>exact isTrue_or_nil e
 | true=>exact e
theorem tY (ha:PT X a tA) (hb:PW X (.BoolOp .And (b :: rest) pos) tB'):PW X (.BoolOp .And (a :: b :: rest) pos) (J4 tA tB'):=by
 intro wh pins s σ H Q I h
 refine isTrue_and (thn (ha pins s σ H _ I h) fun c s1 hpt9=>?_)
 obtain ⟨H1,I1,q1⟩:=hpt9
 cases c with
 | true=>exact hb wh pins s1 σ H1 Q I1 q1
 | false=>exact ⟨H1,I1,q1⟩
theorem Aj (ha:PT X a tA) (hb:PW X (.BoolOp .Or (b :: rest) pos) tB'):PW X (.BoolOp .Or (a :: b :: rest) pos) (tOr tA tB'):=by
 intro wh pins s σ H Q I h
 refine isTrue_or (thn (ha pins s σ H _ I h) fun c s1 hpt9=>?_)
 obtain ⟨H1,I1,q1⟩:=hpt9
 cases c with
 | true=>exact ⟨H1,I1,q1⟩
 | false=>exact hb wh pins s1 σ H1 Q I1 q1
theorem A0 (ha:PT X a tA):PT X (.UnaryOp .Not a pos) (JY tA):=by
 intro pins s σ H Q I h
 exact isTrue_not (ha pins s σ H (fun c H1=>Q (!c) H1) I h)
def Ho (ta tb:TE):TE:=fun σ H Q=>ta σ H fun x H1=>∃ c,x = .bl c /\ if c = true then tb σ H1 Q else Q (.bl false) H1
theorem Gb {op} {t:TE} (h:PE X a t):PE X (.BoolOp op [a] pos) t:=fun pins s σ H Q I hw=>BoolOp_one (h pins s σ H Q I hw)
theorem Gd (ha:PE X a ta) (hb:PE X (.BoolOp .And (b :: rest) pos) tb):PE X (.BoolOp .And (a :: b :: rest) pos) (Ho ta tb):=by
 intro pins s σ H Q I h
 refine BoolOp_and (thn (ha pins s σ H _ I h) fun v s1 hpt9=>?_)
 obtain ⟨x,H1,I1,r1,q1⟩:=hpt9
 obtain ⟨c,rfl,q1⟩:=q1
 cases r1
 refine wpAny_truthy_bool ?_
 cases c with
 | true=>exact hb pins s1 σ H1 Q I1 q1
 | false=>exact ⟨.bl false,H1,I1,rfl,q1⟩
end
def SqL (K:W.Frag) (H:Hp) (a:Addr) (xs:List V):Prop:=
 Rd H a (.lst xs) \/
  ∃ (o:Obj) (its:Array Value) (n:Nat),K.lookup a = some o /\ o.cls = .type "list" /\ o.dict = none /\ o.data = .seq its n /\ its.size <= sizeLine /\ Vals xs its.toList
def SqT (K:W.Frag) (H:Hp) (a:Addr) (xs:List V):Prop:=
 Rd H a (.tup xs) \/
  ∃ (o:Obj) (its:Array Value) (n:Nat),K.lookup a = some o /\ o.cls = .type "tuple" /\ o.data = .seq its n /\ its.size <= sizeLine /\ Vals xs its.toList
def LQ:Value -> Option V
 | .none=>some .non
 | .bool b=>some (.bl b)
 | .int i _=>some (.int i)
 | .str x _=>some (.str x)
 | .bytes b _=>some (.byt b)
 | .float b _=>some (.flt b)
 | .ref a=>some (.ref a)
 | .type n=>some (.ty n)
 | _=>none
theorem RelV.abs {x:V} {u:Value} (r:RelV x u):LQ u = some x:=by
 cases x with
 | non=>cases r;rfl
 | bl _=>cases r;rfl
 | int _=>obtain ⟨t,rfl⟩:=r;rfl
 | str _=>obtain ⟨t,rfl⟩:=r;rfl
 | byt _=>obtain ⟨t,rfl⟩:=r;rfl
 | flt _=>obtain ⟨t,rfl⟩:=r;rfl
 | ref _=>cases r;rfl
 | ty _=>cases r;rfl
theorem RelV.inj {x y:V} {u:Value} (r:RelV x u) (q:RelV y u):x = y:=Option.some.inj (r.abs.symm.trans q.abs)
theorem Vals.inj {xs ys:List V} {us:List Value} (h:Vals xs us) (k:Vals ys us):xs = ys:=by
 induction h generalizing ys with
 | nil=>cases k;rfl
 | cons r t ih=>
  cases k with
  | cons r' t'=>rw [r.inj r',ih t']
section
variable {X:Cx} {pins:List (Addr × Obj)} {σ:St} {H:Hp} {s:Shared} {a:Addr} {xs ys:List V}
theorem SqL.of {K:W.Frag} (h:H a = some (.lst xs)):SqL K H a xs:=.inl (.inl h)
theorem SqT.of {K:W.Frag} (h:H a = some (.tup xs)):SqT K H a xs:=.inl (.inl h)
theorem Inv.list (I:Inv X pins σ H s) (h:SqL X.K H a xs):∃ its:List Value,Vals xs its /\ PlainL s.heap a its.toArray /\ xs.length <= sizeLine:=by
 rcases h with h | ⟨o,its,n,hk,hc,hd,hs,hz,r⟩
 ·obtain ⟨z,its,n,r,e⟩:=h.ok I.hok
  exact ⟨its,r,⟨_,n,e,rfl,rfl,rfl⟩,z⟩
 ·refine ⟨its.toList,r,⟨o,n,I.kIn a o hk,hc,hd,by simpa using hs⟩,?_⟩
  have e:=r.length
  simp only [Array.length_toList] at e
  lia
theorem Inv.tuple (I:Inv X pins σ H s) (h:SqT X.K H a xs):∃ its:List Value,Vals xs its /\ IsTup s.heap a its.toArray /\ xs.length <= sizeLine:=by
 rcases h with h | ⟨o,its,n,hk,hc,hs,hz,r⟩
 ·obtain ⟨z,its,r,p⟩:=h.ok I.hok
  exact ⟨its,r,p,z⟩
 ·refine ⟨its.toList,r,⟨o,I.kIn a o hk,hc,n,by simpa using hs⟩,?_⟩
  have e:=r.length
  simp only [Array.length_toList] at e
  lia
theorem Inv.list_inj (I:Inv X pins σ H s) (h:SqL X.K H a xs) (h':SqL X.K H a ys):xs = ys:=by
 obtain ⟨its,r,⟨o,n,e,_,_,d⟩,_⟩:=I.list h
 obtain ⟨its',r',⟨o',n',e',_,_,d'⟩,_⟩:=I.list h'
 rw [e] at e';cases e'
 rw [d] at d'
 injection d' with d1 _
 have:its = its':=by simpa using congrArg Array.toList d1
 subst this
 exact r.inj r'
theorem Inv.tuple_inj (I:Inv X pins σ H s) (h:SqT X.K H a xs) (h':SqT X.K H a ys):xs = ys:=by
 obtain ⟨its,r,⟨o,e,_,n,d⟩,_⟩:=I.tuple h
 obtain ⟨its',r',⟨o',e',_,n',d'⟩,_⟩:=I.tuple h'
 rw [e] at e';cases e'
 rw [d] at d'
 injection d' with d1 _
 have:its = its':=by simpa using congrArg Array.toList d1
 subst this
 exact r.inj r'
end
abbrev Cx.wish (X:Cx) (E:Value -> Shared -> Prop):Cx:={ X with xe:=E }
abbrev Cx.nox (X:Cx):Cx:=X.wish fun _ _=>False
theorem Cx.Ok.wish {X:Cx} (ok:X.Ok) (E:Value -> Shared -> Prop):(X.wish E).Ok:=
 ⟨ok.mod,ok.kind,ok.glob,ok.blt,ok.above,ok.inj,ok.has,ok.cab,ok.hd,ok.frames,ok.stk,ok.exf,ok.bs,ok.bsz,ok.noex,ok.exfs,ok.funs,ok.frf⟩
theorem Cx.Ok.unwish {X:Cx} {E:Value -> Shared -> Prop} (ok:(X.wish E).Ok):X.Ok:=
 ⟨ok.mod,ok.kind,ok.glob,ok.blt,ok.above,ok.inj,ok.has,ok.cab,ok.hd,ok.frames,ok.stk,ok.exf,ok.bs,ok.bsz,ok.noex,ok.exfs,ok.funs,ok.frf⟩
section
variable {X:Cx} {pins:List (Addr × Obj)} {σ:St} {H:Hp} {s:Shared} {E:Value -> Shared -> Prop}
theorem Inv.wish (I:Inv X pins σ H s) (E:Value -> Shared -> Prop):Inv (X.wish E) pins σ H s:=⟨I.ok.wish E,I.os,I.bare,I.base,I.loc,I.cell,I.free,I.freeC,I.pin,I.hok,I.len⟩
theorem Inv.unwish (I:Inv (X.wish E) pins σ H s):Inv X pins σ H s:=⟨I.ok.unwish,I.os,I.bare,I.base,I.loc,I.cell,I.free,I.freeC,I.pin,I.hok,I.len⟩
theorem SP.unwish {D:Ends} {f:Flow} {s':Shared} (h:SP (X.wish E) pins D f s'):SP X pins D f s':=by
 cases f with
 | next=>obtain ⟨σ',H',I,q⟩:=h;exact ⟨σ',H',I.unwish,q⟩
 | brk=>obtain ⟨σ',H',I,q⟩:=h;exact ⟨σ',H',I.unwish,q⟩
 | cont=>obtain ⟨σ',H',I,q⟩:=h;exact ⟨σ',H',I.unwish,q⟩
 | ret u=>obtain ⟨v,σ',H',I,r,q⟩:=h;exact ⟨v,σ',H',I.unwish,r,q⟩
theorem PSs.nox {st:List Stmt} {t:TS} (h:PSs X.nox st t):PSs X st t:=fun pins s σ H D I hw=>
 wpAny_mono (h pins s σ H D (I.wish _) hw) (fun _ _ q=>q.unwish) fun _ _ z=>False.elim z
end
section
variable {X:Cx} {st:Stmt} {rest:List Stmt} {t u:TS} {e:Expr} {te:TE} {pos:Pos}
def Fd:TS:=fun D σ H=>D.nx σ H
def Iw (t u:TS):TS:=fun D σ H=>t { D with nx:=u D } σ H
theorem cO:PSs X [] Fd:=fun _ _ σ H _ I h=>wpAny_execs_nil ⟨σ,H,I,h⟩
theorem ao (h1:PS X st t) (h2:PSs X rest u):PSs X (st :: rest) (Iw t u):=by
 intro pins s σ H D I h
 refine wpAny_execs_cons (thn (h1 pins s σ H { D with nx:=u D } I h) fun f s1 q=>?_)
 cases f with
 | next=>
  obtain ⟨σ',H',I',q⟩:=q
  exact h2 pins s1 σ' H' D I' q
 | ret v=>exact q
 | brk=>exact q
 | cont=>exact q
theorem au (h1:PS X st t):PSs X [st] t:=by
 intro pins s σ H D I h
 refine wpAny_execs_cons (thn (h1 pins s σ H D I h) fun f s1 q=>?_)
 cases f with
 | next=>exact wpAny_execs_nil q
 | ret v=>exact q
 | brk=>exact q
 | cont=>exact q
theorem Inv.quiet {pins:List (Addr × Obj)} {σ:St} {H:Hp} {s:Shared} (I:Inv X pins σ H s):interactive X.env = false:=by simp [interactive,I.ok.kind]
def wl (te:TE):TS:=fun D σ H=>te σ H fun _ H1=>D.nx σ H1
theorem di (he:PE X e te) (hs:swapsWith e none pos.line X.env = pure false:=by rfl):PS X (.Expr e pos) (wl te):=by
 intro pins s σ H D I h
 exact wpAny_Expr_any (thn (he pins s σ H _ I h) fun v s1 ⟨x,H1,I1,r1,q1⟩=>⟨σ,H1,I1,q1⟩) I.quiet hs
def HJ (te:TE):TS:=fun D σ H=>te σ H D.rt
theorem aR (he:PE X e te):PS X (.Return (some e) pos) (HJ te):=by
 intro pins s σ H D I h
 exact wpAny_Return_some (thn (he pins s σ H _ I h) fun v s1 ⟨x,H1,I1,r1,q1⟩=>⟨x,σ,H1,I1,r1,q1⟩)
def HL (c:TT) (t u:TS):TS:=fun D σ H=>c σ H fun b H1=>if b = true then t D σ H1 else u D σ H1
theorem eN {c:Expr} {a b:List Stmt} {tc:TT} (hc:PT X c tc) (ha:PSs X a t) (hb:PSs X b u):PS X (.If c a b pos) (HL tc t u):=by
 intro pins s σ H D I h
 refine wpAny_If (thn (hc pins s σ H _ I h) fun d s1 hpt9=>?_)
 obtain ⟨H1,I1,q1⟩:=hpt9
 cases d with
 | true=>exact ha pins s1 σ H1 D I1 q1
 | false=>exact hb pins s1 σ H1 D I1 q1
def Fl:TS:=fun _ _ _=>False
theorem rA {sts:List Stmt}:PSs X sts Fl:=fun _ _ _ _ _ _ h=>h.elim
end
abbrev TG:=V -> St -> Hp -> (St -> Hp -> Prop) -> Prop
abbrev TGs:=List V -> St -> Hp -> (St -> Hp -> Prop) -> Prop
def PG (X:Cx) (target:Expr) (t:TG):Prop:=
 ∀ (pins:List (Addr × Obj)) (s:Shared) (σ:St) (H:Hp) (v:V) (u:Value) (Q:St -> Hp -> Prop),Inv X pins σ H s -> RelV v u -> t v σ H Q ->
  wpAny (model X.prog X.w) X.A (assign target X.env u) (fun _ s'=>∃ σ' H',Inv X pins σ' H' s' /\ Q σ' H') X.xe s
def PGs (X:Cx) (ts:List Expr) (t:TGs):Prop:=
 ∀ (pins:List (Addr × Obj)) (s:Shared) (σ:St) (H:Hp) (vs:List V) (us:List Value) (Q:St -> Hp -> Prop),Inv X pins σ H s -> Vals vs us -> t vs σ H Q ->
  wpAny (model X.prog X.w) X.A (assignInOrder ((assignEach ts X.env).map (·.2)) us) (fun _ s'=>∃ σ' H',Inv X pins σ' H' s' /\ Q σ' H') X.xe s
abbrev JK:=V -> V -> V -> Hp -> (Hp -> Prop) -> Prop
def KC (X:Cx) (t:JK):Prop:=
 ∀ (pins:List (Addr × Obj)) (s:Shared) (σ:St) (H:Hp) (o i v:V) (ov iv u:Value) (Q:Hp -> Prop),Inv X pins σ H s -> RelV o ov -> RelV i iv -> RelV v u -> t o i v H Q ->
  wpAny (model X.prog X.w) X.A (setItem ov iv u) (fun _ s'=>∃ H',Inv X pins σ H' s' /\ Q H') X.xe s
abbrev TIp:=V -> V -> Hp -> VK -> Prop
def PIp (X:Cx) (op:Operator) (t:TIp):Prop:=
 ∀ (pins:List (Addr × Obj)) (s:Shared) (σ:St) (H:Hp) (x y:V) (v u:Value) (Q:VK),Inv X pins σ H s -> RelV x v -> RelV y u -> t x y H Q ->
  wpAny (model X.prog X.w) X.A (inplaceOp op v u) (EP X pins σ Q) X.xe s
section
variable {X:Cx} {pos:Pos}
def jW (i:Nat):TG:=fun v σ H Q=>Q (σ.set i (some v)) H
theorem oH {i:Nat} {x:Str} (hN:X.N.Nodup) (hi:X.N[i]? = some x) (hx:Loc X.env.scope x) (hf:X.fn x = true \/ X.env.scope.names.lookup x = some .local:=by first | exact .inl rfl | exact .inr rfl | assumption):PG X (.Name x pos) (jW i):=by
 intro pins s σ H v u Q I r h
 exact wpAny_assign_Name (tV I hN hi hx r (fun s' I'=>⟨_,H,I',h⟩) hf)
def H9:TGs:=fun vs σ H Q=>vs = [] /\ Q σ H
def FZ (t:TG) (u:TGs):TGs:=fun vs σ H Q=>∃ v r,vs = v :: r /\ t v σ H fun σ' H'=>u r σ' H' Q
theorem bE:PGs X [] H9:=by
 intro pins s σ H vs us Q I r h
 obtain ⟨e,h⟩:=h
 subst e
 cases r
 exact assignInOrder_nil ⟨σ,H,I,h⟩
theorem aC {e:Expr} {es:List Expr} {t:TG} {u:TGs} (h1:PG X e t) (h2:PGs X es u)
  (hs:(assignEach (e :: es) X.env).map (·.2) = assign e X.env :: (assignEach es X.env).map (·.2):=by rfl):PGs X (e :: es) (FZ t u):=by
 intro pins s σ H vs us Q I r h
 obtain ⟨v,vr,e1,h⟩:=h
 subst e1
 cases r with
 | cons r rr=>
  rw [hs]
  refine assignInOrder_cons (thn (h1 pins s σ H _ _ _ I r h) fun _ s1 hpt9=>?_)
  obtain ⟨σ1,H1,I1,q1⟩:=hpt9
  exact h2 pins s1 σ1 H1 _ _ Q I1 rr q1
def Jc (K:W.Frag) (n:Nat) (t:TGs):TG:=fun v σ H Q=>∃ a xs,v = .ref a /\ SqT K H a xs /\ xs.length = n /\ t xs σ H Q
theorem cF {es:List Expr} {k:Nat} {t:TGs} {n:Nat} (hc:X.calm = true) (h:PGs X es t)
  (hn:(assignEach es X.env).length = n:=by rfl) (hst:(assignEach es X.env).findIdx? (·.1) = none:=by rfl):PG X (.Tuple es k pos) (Jc X.K n t):=by
 intro pins s σ H v u Q I r hw
 obtain ⟨a,xs,e1,hq,hl,hw⟩:=hw
 subst e1
 cases r
 obtain ⟨its,rv,ht,hz⟩:=I.tuple hq
 refine assign_Tuple_tuple (I.ok.hd hc) ht (by simp [hn,<- hl,rv.length]) hst fun h' hx=>?_
 have I1:Inv X pins σ H { s with heap:=h' }:=I.kept (t':=s.toks) fun b o e=>hx b o (Nat.ne_of_lt (Heap.lt_size e)) e
 exact h pins _ σ H xs _ Q I1 (by simpa using rv) hw
def Kf (to ti:TE) (t:JK):TG:=fun v σ H Q=>to σ H fun o H1=>ti σ H1 fun i H2=>t o i v H2 fun H3=>Q σ H3
theorem ya {o i:Expr} {to ti:TE} {t:JK} (ho:PE X o to) (hi:PE X i ti) (hs:KC X t)
  (ha:∀ v,assign (.Subscript o i pos) X.env v = (do
   let ov ← holding [v] (eval o X.env)
   let iv ← holding [v,ov] (eval i X.env)
   standAt pos
   holding [v,ov,iv] (setItem ov iv v)
   release [v,ov,iv] []):=by intro _;rfl):PG X (.Subscript o i pos) (Kf to ti t):=by
 intro pins s σ H v u Q I r h
 rw [ha]
 refine wpAny_bind (wpAny_holding (thn (ho pins s σ H _ I h) fun ov s1 hpt9=>?_))
 obtain ⟨x,H1,I1,r1,q1⟩:=hpt9
 refine wpAny_bind (wpAny_holding (thn (hi pins s1 σ H1 _ I1 q1) fun iv s2 hpt9=>?_))
 obtain ⟨y,H2,I2,r2,q2⟩:=hpt9
 refine wpAny_bind (wpAny_standAt (wpAny_bind (wpAny_holding (thn (hs pins s2 σ H2 x y v ov iv u _ I2 r1 r2 r q2) fun _ s3 hpt9=>?_))))
 obtain ⟨H3,I3,q3⟩:=hpt9
 exact wpAny_release ⟨σ,H3,I3,q3⟩
def zN (te:TE) (g:TG):TS:=fun D σ H=>te σ H fun x H1=>g x σ H1 D.nx
theorem vj {tg e:Expr} {te:TE} {g:TG} (he:PE X e te) (hg:PG X tg g) (hs:swapsWithSole [tg] e pos.line X.env = pure false:=by rfl) (hw:swappedStores [tg] e X.env = pure none:=by rfl)
  (h1:(assignEach [tg] X.env).map (·.2) = [assign tg X.env]:=by rfl):PS X (.Assign [tg] e pos) (zN te g):=by
 intro pins s σ H D I h
 refine wpAny_Assign_stores (thn (he pins s σ H _ I h) fun v s1 hpt9=>?_) hs hw
 obtain ⟨x,H1,I1,r1,q1⟩:=hpt9
 rw [h1]
 exact thn (hg pins s1 σ H1 x v _ I1 r1 q1) fun _ s2 q=>q
theorem l7 {i:Nat} {x:Str} {e:Expr} {te:TE} {pos':Pos} (hN:X.N.Nodup) (hi:X.N[i]? = some x) (hx:Loc X.env.scope x) (he:PE X e te) (hs:swapsWith e (some (.Name x pos')) pos.line X.env = pure false:=by rfl) (hf:X.fn x = true \/ X.env.scope.names.lookup x = some .local:=by first | exact .inl rfl | exact .inr rfl | assumption) :
  PS X (.Assign [.Name x pos'] e pos) (zN te (jW i)):=by
 intro pins s σ H D I h
 refine wpAny_Assign_Name (thn (he pins s σ H _ I h) fun v s1 hpt9=>?_) hs
 obtain ⟨y,H1,I1,r1,q1⟩:=hpt9
 exact tV I1 hN hi hx r1 (fun s2 I2=>⟨_,H1,I2,q1⟩) hf
def J6 (i:Nat) (te:TE) (ti:TIp):TS:=fun D σ H=>∃ x,σ[i]? = some (some x) /\ te σ H fun y H1=>ti x y H1 fun z H2=>D.nx (σ.set i (some z)) H2
theorem ym {i:Nat} {x:Str} {e:Expr} {te:TE} {op:Operator} {ti:TIp} {pos':Pos} (hN:X.N.Nodup) (hi:X.N[i]? = some x) (hx:Loc X.env.scope x) (he:PE X e te) (ho:PIp X op ti) (hf:X.fn x = true \/ X.env.scope.names.lookup x = some .local:=by first | exact .inl rfl | exact .inr rfl | assumption) :
  PS X (.AugAssign (.Name x pos') op e pos) (J6 i te ti):=by
 intro pins s σ H D I h
 obtain ⟨v,e1,h⟩:=h
 obtain ⟨m,hn,hl⟩:=I.loc
 have vis:Vis X.env.scope x:=by rcases hx with k | k;exact .inl k;exact .inr (.inl k)
 obtain ⟨u,r,l⟩:=hl i x v hi e1 vis
 refine wpAny_AugAssign_Name ?_
 have go:wpAny (model X.prog X.w) X.A (eval e X.env) (fun w s₂=>wpAny (model X.prog X.w) X.A (inplaceOp op u w) (fun r s₃=>wpAny (model X.prog X.w) X.A (storeName X.env x r) (fun _=>SP X pins D .next) X.xe s₃) X.xe s₂) X.xe s:=by
  refine thn (he pins s σ H _ I h) fun w s1 hpt9=>?_
  obtain ⟨y,H1,I1,r1,q1⟩:=hpt9
  refine thn (ho pins s1 σ H1 v y u w _ I1 r r1 q1) fun z s2 hpt9=>?_
  obtain ⟨zv,H2,I2,r2,q2⟩:=hpt9
  exact tV I2 hN hi hx r2 (fun s3 I3=>⟨_,H2,I3,q2⟩) hf
 rcases l with ⟨hk,hm⟩ | ⟨hk,c,hc,hcell⟩
 ·exact wpAny_loadName_local I.ok.kind hk hn hm go
 ·rcases hk with hk | hk
  ·exact wpAny_loadName_cell I.ok.kind hk hc hcell go
  ·rcases hx with k | k
   ·have:X.env.scope.names.lookup x = some .free:=hk
    rw [k] at this;cases this
   ·have:X.env.scope.names.lookup x = some .free:=hk
    rw [k] at this;cases this
def ipI (f:Int -> Int -> Int):TIp:=fun x y H Q=>∃ i j,x = .int i /\ y = .int j /\ Q (.int (f i j)) H
theorem yy:PIp X .Add (ipI fun i j=>i + j):=by
 intro pins s σ H x y v u Q I r1 r2 h
 obtain ⟨i,j,e1,e2,q⟩:=h
 subst e1;subst e2
 obtain ⟨t,rfl⟩:=r1
 obtain ⟨t',rfl⟩:=r2
 exact iadd_int ⟨.int _,H,I.tok _,⟨_,rfl⟩,q⟩
end
section
variable {X:Cx} {pos:Pos}
def E5 (c:TT) (tb:TS):TS:=fun D σ H=>∃ W:Nat -> St -> Hp -> Prop,(∃ m,W m σ H) /\ ∀ m σ H,W m σ H ->
 c σ H fun b H1=>if b = true then ∃ N:St -> Hp -> Prop,(∀ σ' H',N σ' H' -> ∃ m',m' < m /\ W m' σ' H') /\ tb { D with nx:=N,ct:=N,bk:=D.nx } σ H1 else D.nx σ H1
theorem pL {c:Expr} {body:List Stmt} {tc:TT} {tb:TS} (hp:PassesOwn (model X.prog X.w) X.A X.env X.xe) (hc:PT X c tc) (hb:PSs X body tb):PS X (.While c body [] pos) (E5 tc tb):=by
 intro pins s σ H D I h
 obtain ⟨W,⟨m0,w0⟩,turn⟩:=h
 refine wpAny_While (codeAny_whileLoop (fun n s'=>∃ σ' H',Inv X pins σ' H' s' /\ W n σ' H') ?_ m0 ⟨σ,H,I,w0⟩)
 rintro n s1 ⟨σ1,H1,I1,w1⟩
 refine wpAny_passesOwn hp (thn (hc pins s1 σ1 H1 _ I1 (turn n σ1 H1 w1)) fun b s2 hpt9=>?_)
 obtain ⟨H2,I2,q2⟩:=hpt9
 cases b with
 | true=>
  obtain ⟨N,hN,q2⟩:=q2
  rw [if_pos rfl]
  refine wpAny_passesOwn hp (thn (hb pins s2 σ1 H2 _ I2 q2) fun f s3 q3=>?_)
  cases f with
  | next=>
   obtain ⟨σ3,H3,I3,n3⟩:=q3
   obtain ⟨m',hm,w3⟩:=hN σ3 H3 n3
   exact ⟨m',hm,σ3,H3,I3,w3⟩
  | cont=>
   obtain ⟨σ3,H3,I3,n3⟩:=q3
   obtain ⟨m',hm,w3⟩:=hN σ3 H3 n3
   exact ⟨m',hm,σ3,H3,I3,w3⟩
  | brk=>exact q3
  | ret v=>exact q3
 | false=>
  rw [if_neg Bool.false_ne_true]
  exact wpAny_execs_nil ⟨σ1,H2,I2,q2⟩
end
structure It where
 go:Nat -> Hp -> Prop
 yld:Nat -> Hp -> V -> Hp -> Prop
 stop:Nat -> Hp -> Prop
def pU (X:Cx) (pins:List (Addr × Obj)) (H:Hp) (b:Addr):Prop:=
 H b = none /\ b ≠ X.env.locals /\ b ∉ X.fs /\ (b ∈ X.ex \/ X.s₀.heap.objs.size <= b) /\ (∀ x c,X.env.cells.lookup x = some c -> c ≠ b) /\ ∀ p ∈ X.pn ++ pins,p.1 ≠ b
theorem Inv.fpOk {X:Cx} {pins:List (Addr × Obj)} {σ:St} {H H':Hp} {s:Shared} {b:Addr} (I:Inv X pins σ H s) (hb:s.heap.objs.size <= b) (hn:H' b = none):pU X pins H' b:=by
 refine ⟨hn,Nat.ne_of_gt (Nat.lt_of_lt_of_le I.lt hb),I.nofs hb,.inr (Nat.le_trans I.sz hb),fun x c e z=>?_,fun p hp z=>?_⟩
 ·obtain ⟨v,q⟩:=I.cell x c e
  exact absurd (Nat.lt_of_lt_of_le q.lt (by rw [z];exact hb)) (Nat.lt_irrefl _)
 ·exact absurd (Nat.lt_of_lt_of_le (Heap.lt_size (I.pin p hp).1) (by rw [z];exact hb)) (Nat.lt_irrefl _)
structure Turn (P:Program) (w:World) (K:W.Frag) (tg:Expr) (J:It) (fp:List Addr) (it:Addr) (tn:Nat -> Heap -> Prop):Prop where
 mem:it ∈ fp
 obj:∀ i h,tn i h -> ∀ b ∈ fp,∃ o,h.get? b = some o /\ ∀ v,o.data ≠ .cell v
 keep:∀ i h h',tn i h -> (∀ b ∈ fp,∀ o,h.get? b = some o -> h'.get? b = some o) -> tn i h'
 item:∀ (X:Cx),X.prog = P -> X.w = w -> X.K = K -> X.calm = true -> ∀ (i:Nat) (pins:List (Addr × Obj)) (s:Shared) (σ:St) (H:Hp) (E:Value -> Shared -> Prop),Inv X pins σ H s -> (∀ b ∈ fp,pU X pins H b) -> tn i s.heap -> J.go i H ->
  wpAny (model P w) X.A (pyNext (.ref it)) (fun r s1=>∃ u,r = some u /\
   wpAny (model P w) X.A (letOwnedTupleGo tg (.ref it) u) (fun _ s2=>∃ x H',Inv X pins σ H' s2 /\ RelV x u /\ J.yld i H x H' /\ tn (i + 1) s2.heap /\ ∀ b ∈ fp,H' b = none) E s1) E s
 done:∀ (X:Cx),X.prog = P -> X.w = w -> X.K = K -> X.calm = true -> ∀ (i:Nat) (pins:List (Addr × Obj)) (s:Shared) (σ:St) (H:Hp) (E:Value -> Shared -> Prop),Inv X pins σ H s -> (∀ b ∈ fp,pU X pins H b) -> tn i s.heap -> J.stop i H ->
  wpAny (model P w) X.A (pyNext (.ref it)) (fun r s1=>r = none /\ Inv X pins σ H s1) E s
 self:∀ (A:Around) (i:Nat) (s:Shared) (Q:Value -> Shared -> Prop) (E:Value -> Shared -> Prop),tn i s.heap -> Q (.ref it) s -> wpAny (model P w) A (pyIter (.ref it)) Q E s
abbrev TI:=St -> Hp -> (It -> Hp -> Prop) -> Prop
def PIE (X:Cx) (pins:List (Addr × Obj)) (σ:St) (tg:Expr) (R:It -> Hp -> Prop) (itv:Value) (s2:Shared):Prop:=
 ∃ (it:Addr) (fp:List Addr) (tn:Nat -> Heap -> Prop) (J:It) (H':Hp),itv = .ref it /\ Inv X pins σ H' s2 /\ Turn X.prog X.w X.K tg J fp it tn /\ tn 0 s2.heap /\ (∀ b ∈ fp,pU X pins H' b) /\ R J H'
def PI (X:Cx) (tg iter:Expr) (wi:TI):Prop:=
 ∀ (pins:List (Addr × Obj)) (s:Shared) (σ:St) (H:Hp) (R:It -> Hp -> Prop),Inv X pins σ H s -> wi σ H R ->
  wpAny (model X.prog X.w) X.A (eval iter X.env) (fun v s1=>wpAny (model X.prog X.w) X.A (pyIter v) (PIE X pins σ tg R) X.xe s1) X.xe s
theorem B0 {M:Model} {A:Around} {E:Value -> Shared -> Prop} {s:Shared} {tg:Expr} {it:Addr} {u:Value} {o:Obj} {n:String} {vs:Array Value} {Q:Unit -> Shared -> Prop} (ho:s.heap.get? it = some o) (hc:o.cls = .type n) (hd:o.data = .fields vs)
  (hn:["enumerate", "zip", "dict_itemiterator", "dict_reverseitemiterator", "odict_iterator", "itertools.zip_longest", "itertools.pairwise"].contains n = false) (hQ:Q () s):wpAny M A (letOwnedTupleGo tg (.ref it) u) Q E s:=by
 unfold letOwnedTupleGo
 cases tg <;> first
  | exact wpAny_pure hQ
  | (cases u <;> first
    | exact wpAny_pure hQ
    | (refine wpAny_bind (wpAny_load ho ?_)
       rw [hc,hd]
       show wpAny M A (if (["enumerate", "zip", "dict_itemiterator", "dict_reverseitemiterator", "odict_iterator", "itertools.zip_longest", "itertools.pairwise"].contains n && vs[0]? == some (rawInt _)) = true then _ else _) Q E s
       rw [if_neg (by intro h;rw [hn,Bool.false_and] at h;cases h)]
       exact wpAny_pure hQ))
def Itl (K:W.Frag) (a:Addr):It:=
 ⟨fun i H=>∃ xs x,SqL K H a xs /\ xs[i]? = some x,fun i H x H'=>H' = H /\ ∀ xs,SqL K H a xs -> xs[i]? = some x,fun i H=>∃ xs,SqL K H a xs /\ xs.length <= i⟩
def Itt (K:W.Frag) (a:Addr):It:=
 ⟨fun i H=>∃ xs x,SqT K H a xs /\ xs[i]? = some x,fun i H x H'=>H' = H /\ ∀ xs,SqT K H a xs -> xs[i]? = some x,fun i H=>∃ xs,SqT K H a xs /\ xs.length <= i⟩
def Itr (lo:Int) (n:Nat):It:=⟨fun i _=>i < n,fun i H x H'=>H' = H /\ x = .int (lo + i),fun i _=>n <= i⟩
theorem CP {P:Program} {w:World} {K:W.Frag} {tg:Expr} (a it:Addr):Turn P w K tg (Itl K a) [it] it (fun i h=>h.IsListIter it a i) where
 mem:=by simp
 obj:=fun i h st b hb=>by
  have e:b = it:=by simpa using hb
  subst e
  obtain ⟨o,e,c,d⟩:=st
  exact ⟨o,e,fun v z=>by rw [d] at z;cases z⟩
 keep:=fun i h h' st k=>st.at fun o e=>k it (by simp) o e
 item:=by
  intro X hP hw hK hc i pins s σ H E I hf st hg
  subst hP hw hK
  obtain ⟨xs,x,hq,hx⟩:=hg
  obtain ⟨its,rv,p,hz⟩:=I.list hq
  obtain ⟨u,hu,ru⟩:=rv.get hx
  obtain ⟨f0,f1,f2,f3,f4,f5⟩:=hf it (by simp)
  refine wpAny_pyNext_list_item st p.isList (x:=u) (by simpa using hu) fun h' st' sb=>?_
  have I1:Inv X pins σ H { s with heap:=h' }:=I.turned (t':=s.toks) (fun b o hb e=>(sb.2 b hb).trans e) f0 f1 f3 f4 f5
  obtain ⟨o,e,c,d⟩:=id st'
  exact ⟨u,rfl,B0 (s:={ s with heap:=h' }) e c d (by decide) ⟨x,H,I1,ru,⟨rfl,fun ys hy=>by rw [I.list_inj hy hq];exact hx⟩,st',fun b hb=>(hf b hb).1⟩⟩
 done:=by
  intro X hP hw hK hc i pins s σ H E I hf st hg
  subst hP hw hK
  obtain ⟨xs,hq,hx⟩:=hg
  obtain ⟨its,rv,p,hz⟩:=I.list hq
  obtain ⟨f0,f1,f2,f3,f4,f5⟩:=hf it (by simp)
  have hl:=rv.length
  exact wpAny_pyNext_list_end (I.ok.hd hc) st p.isList (by simp;lia) fun h' eb=>⟨rfl,I.turned (t':=s.toks) (fun b o hb e=>eb b o hb e) f0 f1 f3 f4 f5⟩
 self:=fun _ _ _ _ _ st h=>wpAny_pyIter_listiter st h
theorem Bn {P:Program} {w:World} {K:W.Frag} {tg:Expr} (a it:Addr):Turn P w K tg (Itt K a) [it] it (fun i h=>h.IsTupleIter it a i) where
 mem:=by simp
 obj:=fun i h st b hb=>by
  have e:b = it:=by simpa using hb
  subst e
  obtain ⟨o,e,c,d⟩:=st
  exact ⟨o,e,fun v z=>by rw [d] at z;cases z⟩
 keep:=fun i h h' st k=>st.at fun o e=>k it (by simp) o e
 item:=by
  intro X hP hw hK hc i pins s σ H E I hf st hg
  subst hP hw hK
  obtain ⟨xs,x,hq,hx⟩:=hg
  obtain ⟨its,rv,p,hz⟩:=I.tuple hq
  obtain ⟨u,hu,ru⟩:=rv.get hx
  obtain ⟨f0,f1,f2,f3,f4,f5⟩:=hf it (by simp)
  refine wpAny_pyNext_tuple_item st (show s.heap.IsTuple a its.toArray from p) (x:=u) (by simpa using hu) fun h' st' sb=>?_
  have I1:Inv X pins σ H { s with heap:=h' }:=I.turned (t':=s.toks) (fun b o hb e=>(sb.2 b hb).trans e) f0 f1 f3 f4 f5
  obtain ⟨o,e,c,d⟩:=id st'
  exact ⟨u,rfl,B0 (s:={ s with heap:=h' }) e c d (by decide) ⟨x,H,I1,ru,⟨rfl,fun ys hy=>by rw [I.tuple_inj hy hq];exact hx⟩,st',fun b hb=>(hf b hb).1⟩⟩
 done:=by
  intro X hP hw hK hc i pins s σ H E I hf st hg
  subst hP hw hK
  obtain ⟨xs,hq,hx⟩:=hg
  obtain ⟨its,rv,p,hz⟩:=I.tuple hq
  obtain ⟨f0,f1,f2,f3,f4,f5⟩:=hf it (by simp)
  have hl:=rv.length
  exact wpAny_pyNext_tuple_end (I.ok.hd hc) st (show s.heap.IsTuple a its.toArray from p) (by simp;lia) fun h' eb=>⟨rfl,I.turned (t':=s.toks) (fun b o hb e=>eb b o hb e) f0 f1 f3 f4 f5⟩
 self:=fun _ _ _ _ _ st h=>wpAny_pyIter_tupleiter st h
theorem BD {P:Program} {w:World} {K:PySem.W.Frag} {tg:Expr} (it:Addr) (lo:Int) (n:Nat):Turn P w K tg (Itr lo n) [it] it (fun i h=>IsRangeIter h it (lo + (i:Nat) * 1) ((n:Int) - (i:Nat)) 1) where
 mem:=by simp
 obj:=fun i h st b hb=>by
  have e:b = it:=by simpa using hb
  subst e
  exact ⟨_,st,fun v z=>by
   have z':Data.fields _ = Data.cell v:=z
   cases z'⟩
 keep:=fun i h h' st k=>k it (by simp) _ st
 item:=by
  intro X hP hw hK hc i pins s σ H E I hf st hg
  subst hP hw hK
  obtain ⟨f0,f1,f2,f3,f4,f5⟩:=hf it (by simp)
  have W:=Walks.range (prog:=X.prog) (w:=X.w) (I.ok.hd hc) it lo 1 n
  refine W.item i s _ _ hg st fun v h' tk hv st' kk=>?_
  obtain ⟨t,rfl⟩:=hv
  have I1:Inv X pins σ H { s with heap:=h',toks:=tk }:=I.turned (fun b o hb e=>kk b o (by simpa using hb) e) f0 f1 f3 f4 f5
  refine ⟨_,rfl,B0 (s:={ s with heap:=h',toks:=tk }) (n := "range_iterator") st' rfl rfl (by decide) ⟨.int (lo + i),H,I1,⟨t,?_⟩,⟨rfl,rfl⟩,st',fun b hb=>(hf b hb).1⟩⟩
  rw [Int.mul_one]
 done:=by
  intro X hP hw hK hc i pins s σ H E I hf st hg
  subst hP hw hK
  obtain ⟨f0,f1,f2,f3,f4,f5⟩:=hf it (by simp)
  exact wpAny_pyNext_range_end (I.ok.hd hc) st (by have:n <= i:=hg;lia) fun h' eb=>⟨rfl,I.turned (t':=s.toks) (fun b o hb e=>eb b o hb e) f0 f1 f3 f4 f5⟩
 self:=fun _ _ _ _ _ st h=>wpAny_pyIter_rangeiter st h
section
variable {X:Cx} {tg:Expr}
theorem Ap {pins:List (Addr × Obj)} {σ:St} {H:Hp} {s:Shared} {R:It -> Hp -> Prop} {E:Value -> Shared -> Prop} {lo hi:Int} {t u v:Tok} {tk:Nat} (I:Inv X pins σ H s) (h1:-(2 ^ 62) <= lo) (h2:lo < 2 ^ 62) (h3:-(2 ^ 62) <= hi) (h4:hi < 2 ^ 62)
  (q:R (Itr lo (hi - lo).toNat) H):wpAny (model X.prog X.w) X.A (pyIter (.ref s.heap.objs.size)) (PIE X pins σ tg R) E { s with heap:=s.heap.push { cls:=.type "range",data:=.fields #[.int lo t,.int hi u,.int 1 v] },toks:=tk }:=by
 refine wpAny_pyIter_range (IsRange.new ..) (small_one h1 h2 h3 h4) ?_
 have I1:Inv X pins σ H { s with heap:=s.heap.push { cls:=.type "range",data:=.fields #[.int lo t,.int hi u,.int 1 v] },toks:=tk }:=I.kept fun b o e=>Heap.get?_push_of_some _ e
 refine ⟨(s.heap.push { cls:=.type "range",data:=.fields #[.int lo t,.int hi u,.int 1 v] }).objs.size,[(s.heap.push { cls:=.type "range",data:=.fields #[.int lo t,.int hi u,.int 1 v] }).objs.size],_,_,H,rfl,
  I1.kept (t':=tk) fun b o e=>Heap.get?_push_of_some _ e,BD _ lo (hi - lo).toNat,?_,fun b hb=>?_,q⟩
 ·have e1:lo + ((0:Nat):Int) * 1 = lo:=by simp
  have e2:(((hi - lo).toNat:Nat):Int) - ((0:Nat):Int) = Builtin.Range.rangeSize lo hi 1:=by rw [rangeSize_one];split <;> lia
  show IsRangeIter _ _ (lo + ((0:Nat):Int) * 1) ((((hi - lo).toNat:Nat):Int) - ((0:Nat):Int)) 1
  rw [e1,e2]
  exact Heap.get?_push_size _ rfl
 ·have e:b = (s.heap.push { cls:=.type "range",data:=.fields #[.int lo t,.int hi u,.int 1 v] }).objs.size:=by simpa using hb
  subst e
  exact I1.fpOk (Nat.le_refl _) (I1.hok.fresh (Nat.le_refl _))
def Hl (ta:TA):TI:=fun σ H R=>ta σ H fun vs H1=>∃ j:Int,vs = [.int j] /\ -(2 ^ 62) <= j /\ j < 2 ^ 62 /\ R (Itr 0 j.toNat) H1
def HH (ta:TA):TI:=fun σ H R=>ta σ H fun vs H1=>∃ i j:Int,vs = [.int i,.int j] /\ (-(2 ^ 62) <= i /\ i < 2 ^ 62 /\ -(2 ^ 62) <= j /\ j < 2 ^ 62) /\ R (Itr i (j - i).toNat) H1
theorem j9 {a:Expr} {ta:TA} {p pos:Pos} (hg:Gl X "range") (hm:X.mg "range" = none) (ha:PA X [a] ta) (hs:starEach [a] X.env = [(false,eval a X.env)]:=by rfl):PI X tg (.Call (.Name "range" p) [a] [] pos) (Hl ta):=by
 intro pins s σ H R I h
 refine Call_ (uk I hg hm boot_range (PyProof.Rows.callWith_type1 (thn (ha pos pins s σ H _ I h) fun us s1 hpt9=>?_) hs rfl))
 obtain ⟨vs,H1,I1,r1,q1⟩:=hpt9
 obtain ⟨j,e,q1,q2,q⟩:=q1
 subst e
 cases r1 with
 | cons r rr=>
  cases rr
  obtain ⟨t,rfl⟩:=r
  exact call_range_1 (Ap I1 (by lia) (by lia) q1 q2 (by simpa using q))
theorem DV {a b:Expr} {ta:TA} {p pos:Pos} (hg:Gl X "range") (hm:X.mg "range" = none) (ha:PA X [a,b] ta) (hs:starEach [a,b] X.env = [(false,eval a X.env),(false,eval b X.env)]:=by rfl) (hs2:starEach [b] X.env = [(false,eval b X.env)]:=by rfl) :
  PI X tg (.Call (.Name "range" p) [a,b] [] pos) (HH ta):=by
 intro pins s σ H R I h
 refine Call_ (uk I hg hm boot_range (PyProof.Rows.callWith_type1 (thn (ha pos pins s σ H _ I h) fun us s1 hpt9=>?_) (by rw [hs,hs2]) (by rw [hs2];rfl)))
 obtain ⟨vs,H1,I1,r1,q1⟩:=hpt9
 obtain ⟨i,j,e,⟨q1,q2,q3,q4⟩,q⟩:=q1
 subst e
 cases r1 with
 | cons r rr=>
  cases rr with
  | cons r' rr=>
   cases rr
   obtain ⟨t,rfl⟩:=r
   obtain ⟨t',rfl⟩:=r'
   exact call_range_2 (Ap I1 q1 q2 q3 q4 q)
def K9 (wi:TI) (g:TG) (tb:TS):TS:=fun D σ H=>wi σ H fun J H1=>∃ W:Nat -> Nat -> St -> Hp -> Prop,(∃ m,W 0 m σ H1) /\ ∀ i m σ H,W i m σ H ->
 (J.stop i H /\ D.nx σ H) \/ (J.go i H /\ ∃ N:St -> Hp -> Prop,(∀ σ' H',N σ' H' -> ∃ m',m' < m /\ W (i + 1) m' σ' H') /\ ∀ x H',J.yld i H x H' -> g x σ H' fun σ2 H2=>tb { D with nx:=N,ct:=N,bk:=D.nx } σ2 H2)
def qC (fp:List Addr) (h:Heap):List (Addr × Obj):=fp.filterMap fun b=>(h.get? b).map fun o=>(b,o)
theorem gw {fp:List Addr} {h:Heap} {b:Addr} {o:Obj} (hb:b ∈ fp) (e:h.get? b = some o):(b,o) ∈ qC fp h:=List.mem_filterMap.mpr ⟨b,hb,by rw [e];rfl⟩
theorem DD {fp:List Addr} {h:Heap} {p:Addr × Obj} (hp:p ∈ qC fp h):p.1 ∈ fp /\ h.get? p.1 = some p.2:=by
 obtain ⟨b,hb,e⟩:=List.mem_filterMap.mp hp
 cases q:h.get? b with
 | none=>rw [q] at e;cases e
 | some o=>
  rw [q] at e
  have e':(b,o) = p:=Option.some.inj e
  subst e'
  exact ⟨hb,q⟩
theorem Inv.pinned {pins:List (Addr × Obj)} {σ:St} {H:Hp} {s:Shared} {fp:List Addr} (I:Inv X pins σ H s) (hf:∀ b ∈ fp,pU X pins H b) (ho:∀ b ∈ fp,∃ o,s.heap.get? b = some o /\ ∀ v,o.data ≠ .cell v):Inv X (pins ++ qC fp s.heap) σ H s:=
 I.pins_of fun p hp=>(List.mem_append.mp hp).elim (fun z=>I.pin p (List.mem_append_right _ z)) fun z=>by
  obtain ⟨hb,e⟩:=DD z
  obtain ⟨f0,f1,f2,_⟩:=hf p.1 hb
  obtain ⟨o,e',d⟩:=ho p.1 hb
  rw [e] at e';cases e'
  exact ⟨e,f0,f1,f2,d⟩
theorem Inv.unpinned {pins pl:List (Addr × Obj)} {σ:St} {H:Hp} {s:Shared} (I:Inv X (pins ++ pl) σ H s):Inv X pins σ H s:=I.pins_of fun p hp=>I.pin p (List.mem_append_right _ (List.mem_append_left _ hp))
theorem gy {iter:Expr} {body:List Stmt} {wi:TI} {g:TG} {tb:TS} {pos:Pos} (hp:PassesOwn (model X.prog X.w) X.A X.env X.xe) (hc:X.calm = true) (hi:PI X tg iter wi) (hg:PG X tg g) (hb:PSs X body tb)
  (hs:∀ x,foldedSetIterable iter X.env x = pure x:=by intro _;rfl):PS X (.For tg iter body [] pos) (K9 wi g tb):=by
 intro pins s σ H D I h
 refine wpAny_For (thn (hi pins s σ H _ I h) fun v s1 h1=>thn h1 fun itv s2 h2=>?_) hs
 obtain ⟨it,fp,tn,J,H2,e,I2,T,st2,f2,W,⟨m0,w0⟩,turn⟩:=h2
 subst e
 -- what stays true of the iterator's objects through the loop
 have stat:∀ {H':Hp},(∀ b ∈ fp,H' b = none) -> ∀ b ∈ fp,pU X pins H' b:=fun hn b hb=>⟨hn b hb,(f2 b hb).2⟩
 refine codeAny_forLoop_any (fun n s'=>∃ i σ' H',Inv X pins σ' H' s' /\ tn i s'.heap /\ (∀ b ∈ fp,H' b = none) /\ W i n σ' H') ?_ m0 ⟨0,σ,H2,I2,st2,fun b hb=>(f2 b hb).1,w0⟩
 rintro n s3 ⟨i,σ3,H3,I3,st3,fr3,w3⟩
 rcases turn i n σ3 H3 w3 with ⟨stop,qn⟩ | ⟨go,N,hN,step⟩
 ·refine wpAny_passesOwn hp (thn (T.done X rfl rfl rfl hc i pins s3 σ3 H3 X.xe I3 (stat fr3) st3 stop) fun r s4 ⟨hr,I4⟩=>?_)
  subst hr
  exact wpAny_execs_nil ⟨σ3,H3,I4,qn⟩
 ·refine wpAny_passesOwn hp (thn (T.item X rfl rfl rfl hc i pins s3 σ3 H3 X.xe I3 (stat fr3) st3 go) fun r s4 ⟨u,hr,h4⟩=>?_)
  subst hr
  refine wpAny_passesOwn hp (thn h4 fun _ s5 hpt9=>?_)
  obtain ⟨x,H5,I5,r5,y5,st5,fr5⟩:=hpt9
  have I5':=I5.pinned (stat fr5) (T.obj _ _ st5)
  refine wpAny_passesOwn hp (thn (hg _ s5 σ3 H5 x u _ I5' r5 (step x H5 y5)) fun _ s6 hpt9=>?_)
  obtain ⟨σ6,H6,I6,q6⟩:=hpt9
  refine wpAny_passesOwn hp (thn (hb _ s6 σ6 H6 _ I6 q6) fun f s7 q7=>?_)
  have again:∀ {σ7:St} {H7:Hp},Inv X (pins ++ qC fp s5.heap) σ7 H7 s7 -> N σ7 H7 -> ∃ m,m < n /\ ∃ i σ' H',Inv X pins σ' H' s7 /\ tn i s7.heap /\ (∀ b ∈ fp,H' b = none) /\ W i m σ' H':=fun {σ7 H7} I7 n7=>by
   obtain ⟨m',hm,w7⟩:=hN σ7 H7 n7
   refine ⟨m',hm,i + 1,σ7,H7,I7.unpinned,T.keep _ _ _ st5 fun b hb o e=>(I7.pin (b,o) (List.mem_append_right _ (List.mem_append_right _ (gw hb e)))).1,fun b hb=>?_,w7⟩
   obtain ⟨o,e,d⟩:=T.obj _ _ st5 b hb
   exact (I7.pin (b,o) (List.mem_append_right _ (List.mem_append_right _ (gw hb e)))).2.1
  cases f with
  | next=>obtain ⟨σ7,H7,I7,n7⟩:=q7;exact again I7 n7
  | cont=>obtain ⟨σ7,H7,I7,n7⟩:=q7;exact again I7 n7
  | brk=>obtain ⟨σ7,H7,I7,q7⟩:=q7;exact ⟨σ7,H7,I7.unpinned,q7⟩
  | ret v=>obtain ⟨x7,σ7,H7,I7,r7,q7⟩:=q7;exact ⟨x7,σ7,H7,I7.unpinned,r7,q7⟩
end
abbrev R2:=V -> V -> Hp -> VK -> Prop
def OpR (X:Cx) (f:Value -> Value -> Sem Value) (r:R2):Prop:=
 ∀ (pins:List (Addr × Obj)) (s:Shared) (σ:St) (H:Hp) (x y:V) (v u:Value) (Q:VK),Inv X pins σ H s -> RelV x v -> RelV y u -> r x y H Q ->
  wpAny (model X.prog X.w) X.A (f v u) (EP X pins σ Q) X.xe s
def UnR (X:Cx) (f:Value -> Sem Value) (r:V -> Hp -> VK -> Prop):Prop:=
 ∀ (pins:List (Addr × Obj)) (s:Shared) (σ:St) (H:Hp) (x:V) (v:Value) (Q:VK),Inv X pins σ H s -> RelV x v -> r x H Q ->
  wpAny (model X.prog X.w) X.A (f v) (EP X pins σ Q) X.xe s
def CallR (X:Cx) (f:Value) (r:List V -> Hp -> VK -> Prop):Prop:=
 ∀ (pins:List (Addr × Obj)) (s:Shared) (σ:St) (H:Hp) (xs:List V) (us:List Value) (Q:VK),Inv X pins σ H s -> Vals xs us -> r xs H Q ->
  wpAny (model X.prog X.w) X.A (call f us) (EP X pins σ Q) X.xe s
def LB (X:Cx) (r:V -> Hp -> (Bool -> Hp -> Prop) -> Prop):Prop:=
 ∀ (pins:List (Addr × Obj)) (s:Shared) (σ:St) (H:Hp) (x:V) (v:Value) (Q:Bool -> Hp -> Prop),Inv X pins σ H s -> RelV x v -> r x H Q ->
  wpAny (model X.prog X.w) X.A (truthy v) (TP X pins σ Q) X.xe s
def tOp (r:R2) (ta tb:TE):TE:=fun σ H Q=>ta σ H fun x H1=>tb σ H1 fun y H2=>r x y H2 Q
def tUn (r:V -> Hp -> VK -> Prop) (ta:TE):TE:=fun σ H Q=>ta σ H fun x H1=>r x H1 Q
def rI (C:Int -> Int -> Prop) (g:Int -> Int -> V):R2:=fun x y H Q=>∃ i j,x = .int i /\ y = .int j /\ C i j /\ Q (g i j) H
def rI0 (g:Int -> Int -> V):R2:=fun x y H Q=>∃ i j,x = .int i /\ y = .int j /\ Q (g i j) H
def rU (g:Int -> V):V -> Hp -> VK -> Prop:=fun x H Q=>∃ i,x = .int i /\ Q (g i) H
section
variable {X:Cx} {a b c:Expr} {ta tb tc:TE} {pos:Pos}
theorem HS (ha:PE X a ta) (hb:PE X b tb) {pins:List (Addr × Obj)} {s:Shared} {σ:St} {H:Hp} {R:V -> V -> Hp -> Prop} (I:Inv X pins σ H s)
  (h:ta σ H fun x H1=>tb σ H1 fun y H2=>R x y H2) {Q:Value -> Shared -> Prop} {f:Value -> Value -> Sem Value}
  (hf:∀ v u s2 x y H2,Inv X pins σ H2 s2 -> RelV x v -> RelV y u -> R x y H2 -> wpAny (model X.prog X.w) X.A (f v u) Q X.xe s2) :
  wpAny (model X.prog X.w) X.A (eval a X.env) (fun v s₁=>wpAny (model X.prog X.w) X.A (eval b X.env) (fun u s₂=>wpAny (model X.prog X.w) X.A (f v u) Q X.xe s₂) X.xe s₁) X.xe s:=by
 refine thn (ha pins s σ H _ I h) fun v s1 hpt9=>?_
 obtain ⟨x,H1,I1,r1,q1⟩:=hpt9
 refine thn (hb pins s1 σ H1 _ I1 q1) fun u s2 hpt9=>?_
 obtain ⟨y,H2,I2,r2,q2⟩:=hpt9
 exact hf v u s2 x y H2 I2 r1 r2 q2
theorem aF {op:Operator} {r:R2} (ho:OpR X (binaryOp op) r) (ha:PE X a ta) (hb:PE X b tb):PE X (.BinOp a op b pos) (tOp r ta tb):=by
 intro pins s σ H Q I h
 exact wpAny_BinOp (HS ha hb I h fun v u s2 x y H2 I2 rx ry q=>ho pins s2 σ H2 x y v u Q I2 rx ry q)
theorem cA {op:UnaryOp} {r:V -> Hp -> VK -> Prop} (ho:UnR X (unaryOp op) r) (ha:PE X a ta):PE X (.UnaryOp op a pos) (tUn r ta):=by
 intro pins s σ H Q I h
 exact UnaryOp_ (thn (ha pins s σ H _ I h) fun v s1 ⟨x,H1,I1,r1,q1⟩=>ho pins s1 σ H1 x v Q I1 r1 q1)
theorem opI {f:Value -> Value -> Sem Value} {C:Int -> Int -> Prop} {g:Int -> Int -> Int}
  (rule:∀ (i j:Int) (t u:Tok) (s:Shared) (Q:Value -> Shared -> Prop) (E:Value -> Shared -> Prop),C i j -> Q (.int (g i j) s.toks) { s with toks:=s.toks + 1 } -> wpAny (model X.prog X.w) X.A (f (.int i t) (.int j u)) Q E s) :
  OpR X f (rI C fun i j=>.int (g i j)):=by
 intro pins s σ H x y v u Q I rx ry h
 obtain ⟨i,j,rfl,rfl,hc,q⟩:=h
 obtain ⟨t,rfl⟩:=rx
 obtain ⟨t',rfl⟩:=ry
 exact rule i j t t' s _ _ hc ⟨.int (g i j),H,I.tok _,⟨_,rfl⟩,q⟩
theorem KD {f:Value -> Value -> Sem Value} {g:Int -> Int -> Int}
  (rule:∀ (i j:Int) (t u:Tok) (s:Shared) (Q:Value -> Shared -> Prop) (E:Value -> Shared -> Prop),Q (.int (g i j) s.toks) { s with toks:=s.toks + 1 } -> wpAny (model X.prog X.w) X.A (f (.int i t) (.int j u)) Q E s) :
  OpR X f (rI0 fun i j=>.int (g i j)):=by
 intro pins s σ H x y v u Q I rx ry h
 obtain ⟨i,j,rfl,rfl,q⟩:=h
 obtain ⟨t,rfl⟩:=rx
 obtain ⟨t',rfl⟩:=ry
 exact rule i j t t' s _ _ ⟨.int (g i j),H,I.tok _,⟨_,rfl⟩,q⟩
theorem Jd {f:Value -> Value -> Sem Value} {g:Int -> Int -> Bool}
  (rule:∀ (i j:Int) (t u:Tok) (s:Shared) (Q:Value -> Shared -> Prop) (E:Value -> Shared -> Prop),Q (.bool (g i j)) s -> wpAny (model X.prog X.w) X.A (f (.int i t) (.int j u)) Q E s) :
  OpR X f (rI0 fun i j=>.bl (g i j)):=by
 intro pins s σ H x y v u Q I rx ry h
 obtain ⟨i,j,rfl,rfl,q⟩:=h
 obtain ⟨t,rfl⟩:=rx
 obtain ⟨t',rfl⟩:=ry
 exact rule i j t t' s _ _ ⟨.bl (g i j),H,I,rfl,q⟩
def J5 (i j:Int):Prop:=0 < j /\ j < 1073741824
def Ju (i j:Int):Prop:=0 <= j /\ j <= 1000000 /\ i.natAbs < 2 ^ 64
def CMul (i j:Int):Prop:=(-(2 ^ 64) < i /\ i < 2 ^ 64) \/ (-(2 ^ 64) < j /\ j < 2 ^ 64)
theorem CMul.ok {i j:Int} (h:CMul i j):IntMulOk i j:=by
 rcases h with ⟨h1,h2⟩ | ⟨h1,h2⟩
 ·exact .of_left (intBits_le_64 h1 h2)
 ·exact .of_right (intBits_le_64 h1 h2)
theorem op_add:OpR X (binaryOp .Add) (rI0 fun i j=>.int (i + j)):=KD fun _ _ _ _ _ _ _ q=>add_int q
theorem fx:OpR X (binaryOp .Sub) (rI0 fun i j=>.int (i - j)):=KD fun _ _ _ _ _ _ _ q=>sub_int q
theorem kM:OpR X (binaryOp .Mult) (rI CMul fun i j=>.int (i * j)):=opI fun _ _ _ _ _ _ _ hc q=>mul_int q hc.ok
theorem mQ:OpR X (binaryOp .FloorDiv) (rI J5 fun i j=>.int (i / j)):=opI fun i j _ _ _ _ _ hc q=>by
 have h1:(0:Int) < j:=hc.1
 have h2:j < 1073741824:=hc.2
 exact floordiv_int (by lia) (by rw [Int.fdiv_eq_ediv_of_nonneg i (by lia)];exact q) (.inl (PyProof.noPylong_small (by lia)))
theorem cD:OpR X (binaryOp .Mod) (rI (fun _ j=>0 < j) fun i j=>.int (i % j)):=opI fun i j _ _ _ _ _ hc q=>by
 have h1:(0:Int) < j:=hc
 exact mod_int' (by lia) (by rw [Int.fmod_eq_emod_of_nonneg i (by lia)];exact q)
theorem yA:OpR X (binaryOp .Pow) (rI Ju fun i j=>.int (i ^ j.toNat)):=opI fun _ _ _ _ _ _ _ hc q=>pow_int_small hc.1 hc.2.1 hc.2.2 q
theorem unI {f:Value -> Sem Value} {g:Int -> Int}
  (rule:∀ (i:Int) (t:Tok) (s:Shared) (Q:Value -> Shared -> Prop) (E:Value -> Shared -> Prop),Q (.int (g i) s.toks) { s with toks:=s.toks + 1 } -> wpAny (model X.prog X.w) X.A (f (.int i t)) Q E s) :
  UnR X f (rU fun i=>.int (g i)):=by
 intro pins s σ H x v Q I rx h
 obtain ⟨i,rfl,q⟩:=h
 obtain ⟨t,rfl⟩:=rx
 exact rule i t s _ _ ⟨.int (g i),H,I.tok _,⟨_,rfl⟩,q⟩
theorem bv:UnR X (unaryOp .USub) (rU fun i=>.int (-i)):=unI fun _ _ _ _ _ q=>neg_int q
end
section
variable {X:Cx} {a b c:Expr} {ta tb tc:TE} {pos:Pos}
theorem lJ:OpR X (compareOp .Lt) (rI0 fun i j=>.bl (decide (i < j))):=Jd fun _ _ _ _ _ _ _ q=>lt_int q
theorem zI:OpR X (compareOp .LtE) (rI0 fun i j=>.bl (decide (i <= j))):=Jd fun _ _ _ _ _ _ _ q=>le_int q
theorem EZ:OpR X (compareOp .Gt) (rI0 fun i j=>.bl (decide (j < i))):=Jd fun _ _ _ _ _ _ _ q=>gt_int q
theorem OpR.or {f:Value -> Value -> Sem Value} {r r':R2} (h:OpR X f r) (h':OpR X f r'):OpR X f (fun x y H Q=>r x y H Q \/ r' x y H Q):=by
 intro pins s σ H x y v u Q I rx ry q
 rcases q with q | q
 ·exact h pins s σ H x y v u Q I rx ry q
 ·exact h' pins s σ H x y v u Q I rx ry q
theorem qz (b:Expr) {op:CmpOp} (h:op ≠ .In:=by decide) (h2:op ≠ .NotIn:=by decide):behindInMarks op b = false:=by
 have e1:(op == CmpOp.In) = false:=by cases op <;> first | rfl | exact absurd rfl h
 have e2:(op == CmpOp.NotIn) = false:=by cases op <;> first | rfl | exact absurd rfl h2
 cases b <;> simp [behindInMarks,e1,e2]
theorem B8 {op:CmpOp} {r:R2} (ho:OpR X (compareOp op) r) (ha:PE X a ta) (hb:PE X b tb) (hm:behindInMarks op b = false):PE X (.Compare a [op] [b] pos) (tOp r ta tb):=by
 intro pins s σ H Q I h
 exact wpAny_Compare1 (HS ha hb I h fun v u s2 x y H2 I2 rx ry q=>ho pins s2 σ H2 x y v u Q I2 rx ry q) hm
def F1 (t:TE):TT:=fun σ H Q=>t σ H fun x H'=>∃ k,x = .bl k /\ Q k H'
theorem tw {op:CmpOp} {r:R2} (ho:OpR X (compareOp op) r) (ha:PE X a ta) (hb:PE X b tb) (hm:behindInMarks op b = false):PT X (.Compare a [op] [b] pos) (F1 (tOp r ta tb)):=by
 intro pins s σ H Q I h
 refine wpAny_isTrue_Compare1 (thn (ha pins s σ H _ I h) fun v s1 ⟨x,H1,I1,r1,q1⟩=>thn (hb pins s1 σ H1 _ I1 q1) fun u s2 ⟨y,H2,I2,r2,q2⟩=>
  thn (ho pins s2 σ H2 x y v u _ I2 r1 r2 q2) fun c s3 ⟨z,H3,I3,r3,k,e,q3⟩=>?_) hm
 subst e
 cases r3
 exact wpAny_truthy_bool ⟨H3,I3,q3⟩
def Gx (K:W.Frag) (x:V) (H:Hp) (k:Bool):Prop:=
 match x with
 | .non=>k = false
 | .bl b=>k = b
 | .int i=>k = (i != 0)
 | .str y=>y.length <= sizeLine /\ k = ((y.length:Int) != 0)
 | .byt y=>y.size <= sizeLine /\ k = ((y.size:Int) != 0)
 | .ref p=>(∃ xs,SqL K H p xs /\ k = !xs.isEmpty) \/ (∃ xs,SqT K H p xs /\ k = !xs.isEmpty) \/ ∃ kvs,H p = some (.dK kvs) /\ k = !kvs.isEmpty
 | _=>False
theorem A5 {κ:Type} {kvs:List (κ × V)} {vs:List (κ × Value)} (r:KV kvs vs):(!vs.isEmpty) = !kvs.isEmpty:=by
 cases r <;> rfl
theorem uo {xs:List V} {its:List Value} (r:Vals xs its):(!its.toArray.isEmpty) = !xs.isEmpty:=by
 cases r <;> simp
theorem nK:(sizeLine:Nat) < 2 ^ 63:=by rw [sizeLine_eq];decide
theorem IK:LB X (fun x H Q=>∃ k,Gx X.K x H k /\ Q k H):=by
 intro pins s σ H x v Q I rx h
 obtain ⟨k,e,q⟩:=h
 have hl:=nK
 have hs:sizeLine = 16777216:=sizeLine_eq
 cases x with
 | non=>
  cases rx
  have e':k = false:=e
  subst e'
  exact truthy_none ⟨H,I,q⟩
 | bl b=>
  cases rx
  have e':k = b:=e
  subst e'
  exact wpAny_truthy_bool ⟨H,I,q⟩
 | int i=>
  obtain ⟨t,rfl⟩:=rx
  have e':k = (i != 0):=e
  subst e'
  exact PySem.P.truthy_int ⟨H,I,q⟩
 | str y=>
  obtain ⟨t,rfl⟩:=rx
  obtain ⟨hy,e'⟩:y.length <= sizeLine /\ k = ((y.length:Int) != 0):=e
  subst e'
  exact PySem.P.truthy_str (by lia) ⟨H,I.tok _,q⟩
 | byt y=>
  obtain ⟨t,rfl⟩:=rx
  obtain ⟨hy,e'⟩:y.size <= sizeLine /\ k = ((y.size:Int) != 0):=e
  subst e'
  exact W.truthy_bytes (by lia) ⟨H,I.tok _,q⟩
 | ref p=>
  cases rx
  have e':(∃ xs,SqL X.K H p xs /\ k = !xs.isEmpty) \/ (∃ xs,SqT X.K H p xs /\ k = !xs.isEmpty) \/ ∃ kvs,H p = some (.dK kvs) /\ k = !kvs.isEmpty:=e
  rcases e' with ⟨xs,hx,e'⟩ | ⟨xs,hx,e'⟩ | ⟨kvs,hx,e'⟩
  ·subst e'
   obtain ⟨its,r,pl,hz⟩:=I.list hx
   have hlen:=r.length
   exact wpAny_truthy_list pl.isList (by simp only [List.size_toArray];lia) ⟨H,I.tok _,by rw [uo r];exact q⟩
  ·subst e'
   obtain ⟨its,r,pl,hz⟩:=I.tuple hx
   have hlen:=r.length
   exact truthy_tuple pl (by simp only [List.size_toArray];lia) ⟨H,I.tok _,by rw [uo r];exact q⟩
  ·subst e'
   obtain ⟨hz,hS,vs,r,m⟩:kvs.length <= sizeLine /\ (p == sysModules) = false /\ ∃ vs,KV kvs vs /\ s.heap.DictOf (yb X.prog X.w) p vs:=I.hok p _ hx
   have hlen:kvs.length = vs.length:=Paired.length r
   exact wpAny_truthy_dict hS m (by lia) ⟨H,I.tok _,by rw [A5 r];exact q⟩
 | _=>exact (show False from e).elim
theorem lz (ha:PE X a ta) (he:∀ whole,isTrue a X.env whole = (do let v ← whole;standAt a.pos;holding [v] (truthy v))) :
  PT X a (fun σ H Q=>ta σ H fun x H'=>∃ k,Gx X.K x H' k /\ Q k H'):=by
 intro pins s σ H Q I h
 exact isTrue_plain (thn (ha pins s σ H _ I h) fun v s1 ⟨x,H1,I1,r1,q1⟩=>IK pins s1 σ H1 x v Q I1 r1 q1) (he _)
theorem Bc:OpR X (binaryOp .Add) (fun x y H Q=>∃ i j,x = .str i /\ y = .str j /\ i.length + j.length <= sizeLine /\ Q (.str (i ++ j)) H):=by
 intro pins s σ H x y v u Q I rx ry h
 obtain ⟨i,j,rfl,rfl,hz,q⟩:=h
 obtain ⟨t,rfl⟩:=rx
 obtain ⟨t',rfl⟩:=ry
 exact add_str (fun t' tk=>⟨.str (i ++ j),H,I.tok _,⟨_,rfl⟩,q⟩) hz
theorem Fv {x:V} {us:List Value} (r:Vals [x] us):∃ u,us = [u] /\ RelV x u:=by
 cases r with
 | cons r1 r2=>cases r2;exact ⟨_,rfl,r1⟩
theorem Hi {x y:V} {us:List Value} (r:Vals [x,y] us):∃ u w',us = [u,w'] /\ RelV x u /\ RelV y w':=by
 cases r with
 | cons r1 r2=>
  cases r2 with
  | cons r3 r4=>cases r4;exact ⟨_,_,rfl,r1,r3⟩
theorem qZ (hc:X.calm = true):CallR X (.builtin "max") (fun xs H Q=>∃ i j,xs = [.int i,.int j] /\ Q (.int (if j > i then j else i)) H):=by
 intro pins s σ H xs us Q I r h
 obtain ⟨i,j,rfl,q⟩:=h
 obtain ⟨u,w',rfl,⟨t,rfl⟩,⟨t',rfl⟩⟩:=Hi r
 refine max_two_ints (I.ok.hd hc) fun h' tk k=>⟨_,H,I.kept k,?_,q⟩
 by_cases hj:j > i
 ·rw [if_pos hj,if_pos hj];exact ⟨_,rfl⟩
 ·rw [if_neg hj,if_neg hj];exact ⟨_,rfl⟩
theorem qf (hc:X.calm = true):CallR X (.builtin "min") (fun xs H Q=>∃ i j,xs = [.int i,.int j] /\ Q (.int (if j < i then j else i)) H):=by
 intro pins s σ H xs us Q I r h
 obtain ⟨i,j,rfl,q⟩:=h
 obtain ⟨u,w',rfl,⟨t,rfl⟩,⟨t',rfl⟩⟩:=Hi r
 refine min_two_ints (I.ok.hd hc) fun h' tk k=>⟨_,H,I.kept k,?_,q⟩
 by_cases hj:j < i
 ·rw [if_pos hj,if_pos hj];exact ⟨_,rfl⟩
 ·rw [if_neg hj,if_neg hj];exact ⟨_,rfl⟩
def JT (K:W.Frag) (x:V) (H:Hp) (n:Nat):Prop:=
 match x with
 | .str y=>y.length <= sizeLine /\ n = y.length
 | .byt y=>y.size <= sizeLine /\ n = y.size
 | .ref p=>(∃ xs,SqL K H p xs /\ n = xs.length) \/ ∃ xs,SqT K H p xs /\ n = xs.length
 | _=>False
theorem Fx:CallR X (.builtin "len") (fun xs H Q=>∃ x n,xs = [x] /\ JT X.K x H n /\ Q (.int n) H):=by
 intro pins s σ H xs us Q I r h
 obtain ⟨x,n,rfl,e,q⟩:=h
 obtain ⟨u,rfl,rx⟩:=Fv r
 have hl:=nK
 have hs:sizeLine = 16777216:=sizeLine_eq
 cases x with
 | str y=>
  obtain ⟨t,rfl⟩:=rx
  obtain ⟨hy,e'⟩:y.length <= sizeLine /\ n = y.length:=e
  subst e'
  exact len_str (by lia) ⟨.int _,H,I.tok _,⟨_,rfl⟩,q⟩
 | byt y=>
  obtain ⟨t,rfl⟩:=rx
  obtain ⟨hy,e'⟩:y.size <= sizeLine /\ n = y.size:=e
  subst e'
  exact W.len_bytes (by lia) ⟨.int _,H,I.tok _,⟨_,rfl⟩,q⟩
 | ref p=>
  cases rx
  have e':(∃ xs,SqL X.K H p xs /\ n = xs.length) \/ ∃ xs,SqT X.K H p xs /\ n = xs.length:=e
  rcases e' with ⟨xs,hx,e'⟩ | ⟨xs,hx,e'⟩
  ·subst e'
   obtain ⟨its,r',pl,hz⟩:=I.list hx
   have hlen:=r'.length
   exact Calls.call_len_list pl.isList (by simp only [List.size_toArray];lia) ⟨.int xs.length,H,I.tok _,⟨_,by simp only [List.size_toArray];rw [hlen]⟩,q⟩
  ·subst e'
   obtain ⟨its,r',pl,hz⟩:=I.tuple hx
   have hlen:=r'.length
   exact len_tuple pl (by simp only [List.size_toArray];lia) ⟨.int xs.length,H,I.tok _,⟨_,by simp only [List.size_toArray];rw [hlen]⟩,q⟩
 | _=>exact (show False from e).elim
end
structure ObjM (h:Heap) (x dx C:Addr) (mA:Str -> Option Value):Prop where
 obj:h.get? x = some (W.instObj C dx)
 ns:h.Ns1 dx mA
 ne:dx ≠ x
theorem DR {h:Heap} {dx:Addr} {mA:Str -> Option Value} (n:h.Ns1 dx mA):∃ od,h.get? dx = some od /\ ∀ name,W.lookIn name od = some (mA name):=by
 obtain ⟨o,es,ep,ho,hd,hk,_,hm⟩:=n
 refine ⟨o,ho,fun name=>?_⟩
 have e:=hm name
 unfold nsFind findBy at e
 rw [<- Array.find?_toList] at e
 unfold W.lookIn
 rw [hd]
 dsimp only
 split
 ·rename_i y q
  rw [q] at e
  exact congrArg some e
 ·rename_i q
  rw [q] at e
  have a:es.toList.any (·.refKey) = false:=by
   rw [List.any_eq_false]
   intro y hy
   obtain ⟨z,t,hkey⟩:=hk y (Array.mem_toList_iff.mp hy)
   simp [DictEntry.refKey,hkey]
  have a':¬ es.toList.any (·.refKey) = true:=by rw [a];exact Bool.false_ne_true
  rw [if_neg a']
  exact congrArg some e
theorem ObjM.look {h:Heap} {x dx C:Addr} {mA:Str -> Option Value} (I:ObjM h x dx C mA):∃ od,W.InstAt h x (W.instObj C dx) C (some od) /\ ∀ name,W.lookIn name od = some (mA name):=
 let ⟨od,ho,hl⟩:=DR I.ns
 ⟨od,⟨I.obj,rfl,rfl,ho⟩,hl⟩
section
variable {prog:Program} {w:World} {A:Around} {E:Value -> Shared -> Prop} {s:Shared} {K:W.Frag} {x dx C f:Addr} {mA:Str -> Option Value} {name:Str} {v:Value}
theorem Gv {expr:Bool} {Q:Value -> Shared -> Prop} (X:K.In s.heap) (I:ObjM s.heap x dx C mA) (hg:W.plainGet K C name = true) (hh:W.hasDictIn K C = true)
  (ha:W.findIn K (.ref C) name = some none) (hv:mA name = some v) (hv':W.handedIn v = true) (h:Q v { s with toks:=s.toks + 1 }) :
  wpAny (model prog w) A (getAttr (.ref x) name expr) Q E s:=by
 obtain ⟨od,J,hl⟩:=I.look
 exact W.get_value X J (W.plainGet_of hg).1 (W.findObj_own hh ha rfl (by rw [hl,hv])) hv' h
theorem E1 {pl:Sem Bool} {Q:Value × List Value -> Shared -> Prop} (X:K.In s.heap) (I:ObjM s.heap x dx C mA) (hg:W.plainGet K C name = true)
  (hf:W.findIn K (.ref C) name = some (some (.ref f))) (ht:W.isFn K (.ref f) = true) (hv:mA name = none) (h:Q (.ref f,[.ref x]) s) :
  wpAny (model prog w) A (getMethod (.ref x) name pl) Q E s:=by
 obtain ⟨od,J,hl⟩:=I.look
 exact W.method_fn X J (W.plainGet_of hg).1 (W.plainGet_of hg).2 hf (beq_iff_eq.mp ht) (by show (W.lookIn name od).map (·.isSome) = some false;rw [hl,hv];rfl) h
theorem GX {ns:List Str} {Q:Unit -> Shared -> Prop} (X:K.In s.heap) (I:ObjM s.heap x dx C mA)
  (hs:W.findIn K (.ref C) "__setattr__" = some (some (.builtin "object.__setattr__"))) (hp:W.plainOver K C = true) (ht:W.takerIn K C name = some none) (hh:W.hasDictIn K C = true)
  (hw:PySem.Within mA ns) (hsz:ns.length <= sizeLine)
  (h:∀ h',ObjM h' x dx C (fun y=>if y = name then some v else mA y) -> Heap.SameBut dx s.heap h' -> Q () { s with heap:=h',toks:=s.toks + 2 }) :
  wpAny (model prog w) A (setAttr (.ref x) name v) Q E s:=by
 obtain ⟨od,J,hl⟩:=I.look
 refine W.set_plain X J hs (W.osa_open (s:={ s with toks:=s.toks + 1 }) (r:=none) X J hp ht fun b=>?_)
 obtain ⟨cd,hc,hd'⟩:=W.any_some hh
 have hx:s.heap.get? x = some ⟨.ref C,some dx,.plain,#[]⟩:=I.obj
 refine wpAny_bind (wpAny_pure (wpAny_bind (wpAny_bind (wpAny_loadPart hx (wpAny_bind (W.Looks.here (s:={ s with toks:=s.toks + 1 }) (W.looks_clsIn X hc) ?_))))))
 rw [hd']
 refine wpAny_pure (a:=some dx) (wpAny_bind (wpAny_pure (wpAny_bind ?_)))
 refine wpAny_nsSet1 (s:={ s with toks:=s.toks + 1 }) I.ns fun h' hn2 hs2=>?_
 obtain ⟨oD,esD,epD,hoD,hdD,hcD⟩:=hn2.count (PySem.Within.cons name v hw)
 refine wpAny_bind (wpAny_lookBehind hoD (by rw [hdD];exact pastItsLine_dict (Nat.le_trans hcD (by rw [List.length_cons];lia))) ?_)
 exact wpAny_pure (h _ ⟨(hs2.2 _ (Ne.symm I.ne)).trans I.obj,hn2,I.ne⟩ hs2)
theorem F5 {R:Result -> Shared -> Prop} {vs:List Value} {kw:List (Str × Value)} (X:K.In s.heap) (hm:W.makesIn K C = true)
  (hi:W.findIn K (.ref C) "__init__" = some (some (.ref f))) (hf:W.typeIn K (.ref f) = some (.type "function"))
  (h:codeAny (model prog w) (A.under (.builtin "type.__call__" ⟨.ref C :: vs,kw⟩)) (.call (.ref f) ⟨.ref (s.heap.objs.size + 1) :: vs,kw⟩) (W.InitBack (s.heap.objs.size + 1) R)
   { s with heap:=(s.heap.push W.emptyDict).push (W.instObj C s.heap.objs.size) }) :
  codeAny (model prog w) A (.call (.ref C) ⟨vs,kw⟩) R s:=by
 obtain ⟨hh,g,d,t,os⟩:=s
 exact W.make_core (W.makes_of X hm) (W.looks_findIn X hi) (fun self=>W.bind_fn X self hf) (.inl rfl) h
end
def mW (f:Str) (v:V):List (Str × V) -> List (Str × V)
 | []=>[(f,v)]
 | (g,x) :: r=>if g = f then (g,v) :: r else (g,x) :: mW f v r
theorem rO (f g:Str) (v:V):∀ fs:List (Str × V),(mW f v fs).lookup g = if g = f then some v else fs.lookup g
 | []=>by
  show List.lookup g [(f,v)] = _
  by_cases h:g = f
  ·have hb:(g == f) = true:=beq_iff_eq.mpr h
   simp only [List.lookup,hb,if_pos h]
  ·have hb:(g == f) = false:=beq_eq_false_iff_ne.mpr h
   simp only [List.lookup,hb,if_neg h]
 | (k,x) :: r=>by
  have ih:=rO f g v r
  rw [show mW f v ((k,x) :: r) = (if k = f then (k,v) :: r else (k,x) :: mW f v r) from rfl]
  by_cases hk:k = f
  ·rw [if_pos hk]
   by_cases h:g = k
   ·have hb:(g == k) = true:=beq_iff_eq.mpr h
    simp only [List.lookup,hb,if_pos (h.trans hk)]
   ·have hb:(g == k) = false:=beq_eq_false_iff_ne.mpr h
    simp only [List.lookup,hb,if_neg (fun e:g = f=>h (e.trans hk.symm))]
  ·rw [if_neg hk]
   by_cases h:g = k
   ·have hb:(g == k) = true:=beq_iff_eq.mpr h
    simp only [List.lookup,hb,if_neg (fun e:g = f=>hk (h.symm.trans e))]
   ·have hb:(g == k) = false:=beq_eq_false_iff_ne.mpr h
    simp only [List.lookup,hb]
    exact ih
theorem qT (f:Str) (v:V):∀ fs:List (Str × V),f ∈ (mW f v fs).map (·.1) /\ ∀ g,g ∈ fs.map (·.1) -> g ∈ (mW f v fs).map (·.1)
 | []=>⟨by simp [mW],fun g h=>by simp at h⟩
 | (k,x) :: r=>by
  obtain ⟨i1,i2⟩:=qT f v r
  rw [show mW f v ((k,x) :: r) = (if k = f then (k,v) :: r else (k,x) :: mW f v r) from rfl]
  by_cases hk:k = f
  ·rw [if_pos hk]
   subst hk
   exact ⟨by simp,fun g h=>by simpa using h⟩
  ·rw [if_neg hk]
   refine ⟨?_,fun g h=>?_⟩
   ·rw [List.map_cons]
    exact List.mem_cons_of_mem _ i1
   ·rw [List.map_cons] at h ⊢
    rcases List.mem_cons.mp h with e | e
    ·exact List.mem_cons.mpr (.inl e)
    ·exact List.mem_cons_of_mem _ (i2 g e)
theorem se (f:Str) (v:V):∀ fs:List (Str × V),(mW f v fs).length <= fs.length + 1
 | []=>by simp [mW]
 | (k,x) :: r=>by
  have ih:=se f v r
  rw [show mW f v ((k,x) :: r) = (if k = f then (k,v) :: r else (k,x) :: mW f v r) from rfl]
  by_cases hk:k = f
  ·rw [if_pos hk,List.length_cons,List.length_cons];lia
  ·rw [if_neg hk,List.length_cons,List.length_cons];lia
theorem RelO.some_of {v:V} {o:Option Value} (r:RelO (some v) o):∃ u,o = some u /\ RelV v u:=by
 cases o with
 | none=>exact (show False from r).elim
 | some u=>exact ⟨u,rfl,r⟩
theorem RelO.none_of {o:Option Value} (r:RelO none o):o = none:=by
 cases o with
 | none=>rfl
 | some u=>exact (show False from r).elim
theorem Dv {v:V} {u:Value} (r:RelV v u):W.handedIn u = true:=by
 cases v with
 | non=>cases (show u = Value.none from r);rfl
 | bl b=>cases (show u = Value.bool b from r);rfl
 | int i=>obtain ⟨t,e⟩:=(show ∃ t,u = Value.int i t from r);cases e;rfl
 | str x=>obtain ⟨t,e⟩:=(show ∃ t,u = Value.str x t from r);cases e;rfl
 | byt b=>obtain ⟨t,e⟩:=(show ∃ t,u = Value.bytes b t from r);cases e;rfl
 | flt b=>obtain ⟨t,e⟩:=(show ∃ t,u = Value.float b t from r);cases e;rfl
 | ref a=>cases (show u = Value.ref a from r);rfl
 | ty n=>cases (show u = Value.type n from r);rfl
section
variable {P:Program} {w:World} {H H':Hp} {h h':Heap} {a C dx:Addr} {fs fs':List (Str × V)}
theorem yl (hok:HOk P w H h) (e:H a = some (.ins C dx fs)):∃ mA,ObjM h a dx C mA /\ (∀ f,RelO (fs.lookup f) (mA f)) /\ PySem.Within mA (fs.map (·.1)) /\ fs.length <= 1000 /\ H dx = some (.own a):=by
 obtain ⟨d,z,ne,ob,mA,n,r,q⟩:=(show ObjOk P w H h a (.ins C dx fs) from hok a _ e)
 exact ⟨mA,⟨ob,n,ne⟩,r,q,z,d⟩
end
structure Cls (K:W.Frag) (C:Addr):Prop where
 pg:W.plainGet K C Str.empty = true
 hd:W.hasDictIn K C = true
 po:W.plainOver K C = true
 sa:W.findIn K (.ref C) "__setattr__" = some (some (.builtin "object.__setattr__"))
theorem Cls.get {K:W.Frag} {C:Addr} (c:Cls K C) (f:Str):W.plainGet K C f = true:=c.pg
def NoAttr (K:W.Frag) (C:Addr) (f:Str):Prop:=W.findIn K (.ref C) f = some none
theorem NoAttr.taker {K:W.Frag} {C:Addr} {f:Str} (n:NoAttr K C f):W.takerIn K C f = some none:=by
 unfold W.takerIn
 rw [show W.findIn K (.ref C) f = some none from n]
 rfl
structure Meth (K:W.Frag) (C:Addr) (m:Str) (f:Addr):Prop where
 at_:W.findIn K (.ref C) m = some (some (.ref f))
 fn:W.isFn K (.ref f) = true
 kp:W.keepIn K (.ref f) = true
section
variable {X:Cx} {pins:List (Addr × Obj)} {σ:St} {H:Hp} {s:Shared} {a C dx:Addr} {fs:List (Str × V)} {f:Str} {v:V} {A:Around} {E:Value -> Shared -> Prop}
theorem A3 {b:Bool} {Q:Value -> Shared -> Prop} (I:Inv X pins σ H s) (e:H a = some (.ins C dx fs)) (c:Cls X.K C) (n:NoAttr X.K C f) (l:fs.lookup f = some v)
  (h:∀ u s',Inv X pins σ H s' -> RelV v u -> Q u s'):wpAny (model X.prog X.w) A (getAttr (.ref a) f b) Q E s:=by
 obtain ⟨mA,O,r,_,_,_⟩:=yl I.hok e
 obtain ⟨u,hu,ru⟩:=RelO.some_of (v:=v) (o:=mA f) (by rw [<- l];exact r f)
 exact Gv I.kIn O (c.get f) c.hd n hu (Dv ru) (h u _ (I.tok _) ru)
theorem vk {m:Str} {g:Addr} {pl:Sem Bool} {Q:Value × List Value -> Shared -> Prop} (I:Inv X pins σ H s) (e:H a = some (.ins C dx fs)) (c:Cls X.K C) (k:Meth X.K C m g) (l:fs.lookup m = none)
  (h:Q (.ref g,[.ref a]) s):wpAny (model X.prog X.w) A (getMethod (.ref a) m pl) Q E s:=by
 obtain ⟨mA,O,r,_,_,_⟩:=yl I.hok e
 have hn:mA m = none:=RelO.none_of (by rw [<- l];exact r m)
 exact E1 I.kIn O (c.get m) k.at_ k.fn hn h
theorem BA {y:V} {u:Value} {Q:Unit -> Shared -> Prop} (I:Inv X pins σ H s) (e:H a = some (.ins C dx fs)) (c:Cls X.K C) (n:NoAttr X.K C f) (hl:fs.length < 1000) (ry:RelV y u)
  (h:∀ s',Inv X pins σ (upd H a (.ins C dx (mW f y fs))) s' -> Q () s'):wpAny (model X.prog X.w) A (setAttr (.ref a) f u) Q E s:=by
 obtain ⟨mA,O,r,wi,_,ho⟩:=yl I.hok e
 have hz:(fs.map (·.1)).length <= sizeLine:=by rw [List.length_map,sizeLine_eq];lia
 refine GX I.kIn O c.sa c.po n.taker c.hd wi hz fun h' O' sb=>h _ ?_
 have hd:∃ o,h'.get? dx = some o:=let ⟨o,_,_,e',_⟩:=O'.ns;⟨o,e'⟩
 refine I.write (x:=a) (e:=dx) (by rw [e];exact True.intro) (.inr ho) (fun b q hb z=>(sb.2 b hb).trans z) hd ?_
 refine ⟨by rw [a7 O.ne];exact ho,?_,O.ne,O'.obj,_,O'.ns,fun g=>?_,fun g hg=>?_⟩
 ·have:=se f y fs;lia
 ·show RelO ((mW f y fs).lookup g) (if g = f then some u else mA g)
  rw [rO]
  by_cases q:g = f
  ·rw [if_pos q,if_pos q];exact ry
  ·rw [if_neg q,if_neg q];exact r g
 ·by_cases q:g = f
  ·rw [q];exact (qT f y fs).1
  ·refine (qT f y fs).2 g (wi g fun z=>hg ?_)
   show (if g = f then some u else mA g) = none
   rw [if_neg q];exact z
theorem Inv.made (I:Inv X pins σ H s):Inv X pins σ (upd (upd H s.heap.objs.size (.own (s.heap.objs.size + 1))) (s.heap.objs.size + 1) (.ins C s.heap.objs.size []))
  { s with heap:=(s.heap.push W.emptyDict).push (W.instObj C s.heap.objs.size) }:=by
 have e1:(s.heap.push W.emptyDict).get? s.heap.objs.size = some W.emptyDict:=Heap.get?_push_size s.heap rfl
 have e2:((s.heap.push W.emptyDict).push (W.instObj C s.heap.objs.size)).get? (s.heap.objs.size + 1) = some (W.instObj C s.heap.objs.size):=by
  have:=Heap.get?_push_size (s.heap.push W.emptyDict) (o:=W.instObj C s.heap.objs.size) rfl
  rwa [Heap.size_push] at this
 have e3:(s.heap.push W.emptyDict).Ns s.heap.objs.size (fun _=>none):=⟨W.emptyDict,#[],_,e1,rfl,(fun e he=>absurd he (by simp)),fun _=>rfl⟩
 have I1:=I.laid (a:=s.heap.objs.size) (o:=.own (s.heap.objs.size + 1)) (h':=s.heap.push W.emptyDict) (t':=s.toks) (fun b u q=>Heap.get?_push_of_some _ q) (Nat.le_refl _) ⟨_,e1⟩
 refine I1.laid (a:=s.heap.objs.size + 1) (o:=.ins C s.heap.objs.size []) (t':=s.toks) (fun b u q=>Heap.get?_push_of_some _ q) (Nat.le_of_eq (Heap.size_push _ _)) ?_
 have ne:s.heap.objs.size ≠ s.heap.objs.size + 1:=Nat.ne_of_lt (Nat.lt_succ_self _)
 refine ⟨by rw [a7 ne,a8],Nat.zero_le _,ne,e2,fun _=>none,(Heap.Ns1.of_empty e3).at fun o q=>Heap.get?_push_of_some _ q,fun _=>True.intro,fun y hy=>absurd rfl hy⟩
theorem He {prog:Program} {w:World} {env:Env} {e:Expr} {f:Str} {pos:Pos} {s:Shared} {Q:Value -> Shared -> Prop} (hb:attributeBase e f env (eval e env) = eval e env)
  (h:wpAny (model prog w) A (eval e env) (fun o s₁=>wpAny (model prog w) A (getAttr o f true) Q E s₁) E s):wpAny (model prog w) A (eval (.Attribute e f pos) env) Q E s:=
 Attribute_any_ h (by rw [arm_eval_Attribute,hb])
end
def Kq (K:W.Frag) (ta tv:TE) (f:Str):TS:=fun D σ H=>tv σ H fun y H1=>ta σ H1 fun x H2=>∃ a C dx fs,x = .ref a /\ H2 a = some (.ins C dx fs) /\ Cls K C /\ NoAttr K C f /\ fs.length < 1000 /\
 D.nx σ (upd H2 a (.ins C dx (mW f y fs)))
section
variable {X:Cx} {o e value:Expr} {f:Str} {pos pos' tpos:Pos} {ta tv:TE}
theorem Jo (ha:PE X o ta) (hv:PE X value tv) (hs:swapsWith value (some (.Attribute o f pos')) pos.line X.env = pure false):PS X (.Assign [.Attribute o f pos'] value pos) (Kq X.K ta tv f):=by
 intro pins s σ H D I h
 refine plainObj_wpAny_Assign_Attribute (thn (hv pins s σ H _ I h) fun u s1 ⟨y,H1,I1,ry,q⟩=>thn (ha pins s1 σ H1 _ I1 q) fun ov s2 hpt9=>?_) hs
 obtain ⟨x,H2,I2,rx,a,C,dx,fs,ex,ea,c,n,l,q2⟩:=hpt9
 subst ex
 obtain rfl:ov = Value.ref a:=rx
 exact BA I2 ea c n l ry fun s3 I3=>⟨σ,_,I3,q2⟩
end
section
variable {X:Cx} {pins:List (Addr × Obj)} {σ:St} {H:Hp} {s:Shared} {A:Around} {E:Value -> Shared -> Prop} {Q:Value -> Shared -> Prop} {c:Value} {b:Bool}
inductive TyOf (K:W.Frag) (H:Hp):V -> Value -> Prop where
 | non:TyOf K H .non (.type "NoneType")
 | bl (x:Bool):TyOf K H (.bl x) (.type "bool")
 | int (i:Int):TyOf K H (.int i) (.type "int")
 | str (x:Str):TyOf K H (.str x) (.type "str")
 | flt (x:UInt64):TyOf K H (.flt x) (.type "float")
 | lst {a:Addr} {xs:List V} (e:H a = some (.lst xs)):TyOf K H (.ref a) (.type "list")
 | frz {a:Addr} {o:Obj} {xs:List V} (e:H a = some (.frz o (.lst xs))):TyOf K H (.ref a) (.type "list")
 | tup {a:Addr} {xs:List V} (e:H a = some (.tup xs)):TyOf K H (.ref a) (.type "tuple")
 | dK {a:Addr} {kvs:List (Key × V)} (e:H a = some (.dK kvs)):TyOf K H (.ref a) (.type "dict")
 | dT {a:Addr} {kvs:List (List Key × V)} (e:H a = some (.dT kvs)):TyOf K H (.ref a) (.type "dict")
 | ins {a C dx:Addr} {fs:List (Str × V)} (e:H a = some (.ins C dx fs)) (cl:Cls K C) (ha:W.findIn K (.ref C) "__class__" = some (some (.builtin "object.__class__")))
   (hn:W.specialIn K (.builtin "object.__class__") "__get__" = some (some (.builtin "getset_descriptor.__get__"))) (htk:W.takesIn K (.builtin "object.__class__") = some true)
   (hm:W.mroIn K C (.type "object") = some true):TyOf K H (.ref a) (.ref C)
end
structure Room (k:Nat) (A:Around):Prop where
 hd:A.handled = none
 dp:A.depth + 3 * k + 5 < recursionLimit
 un:A.units + 16 * k + 200 < cLine
theorem Room.mono {j k:Nat} {A:Around} (r:Room k A) (h:j <= k):Room j A:=⟨r.hd,by have:=r.dp;lia,by have:=r.un;lia⟩
theorem Room.deeper {k:Nat} {A:Around} (r:Room (k + 1) A) (env:Env):Room k (A.deeper env):=
 ⟨r.hd,by have:=r.dp;show A.depth + 1 + 3 * k + 5 < _;lia,by have:=r.un;show A.units + 3 + 16 * k + 200 < _;lia⟩
theorem Bt {A:Around} {C:Addr} {us:List Value} {kw:List (Str × Value)}:(A.under (.builtin "type.__call__" ⟨.ref C :: us,kw⟩)).depth = A.depth + 1:=by
 first | rfl | simp [Around.under,Code.weight,Code.isCreation,Code.isGuard,Code.isCaller,Code.frames,Code.isFrame,guardIds]
theorem AL {A:Around} {C:Addr} {us:List Value} {kw:List (Str × Value)}:(A.under (.builtin "type.__call__" ⟨.ref C :: us,kw⟩)).units = A.units + 1:=by
 first | rfl | simp [Around.under,Code.cUnits,Code.frames,Code.isFrame]
theorem Room.make {k:Nat} {A:Around} (r:Room (k + 1) A) (C:Addr) (us:List Value) (kw:List (Str × Value)):Room k (A.under (.builtin "type.__call__" ⟨.ref C :: us,kw⟩)):=
 ⟨r.hd,by have:=r.dp;rw [Bt];lia,by have:=r.un;rw [AL];lia⟩
theorem Room.depth {k:Nat} {A:Around} (r:Room k A):A.depth < recursionLimit:=by have:=r.dp;lia
theorem Room.units {k:Nat} {A:Around} (r:Room k A):A.units + 64 < cLine:=by have:=r.un;lia
def sM:TA:=fun _ H Q=>Q [] H
def jg (ta:TE) (tr:TA):TA:=fun σ H Q=>ta σ H fun x H1=>tr σ H1 fun xs H2=>Q (x :: xs) H2
section
variable {X:Cx} {e:Expr} {es:List Expr} {te:TE} {t:TA} {pos:Pos}
theorem ag:PA X [] sM:=fun _ _ _ _ H Q I h=>Calls.spliced_nil ⟨[],H,I,.nil,h⟩
theorem ad (ha:PE X e te) (hr:PA X es t) (hs:starEach (e :: es) X.env = (false,eval e X.env) :: starEach es X.env:=by rfl):PA X (e :: es) (jg te t):=by
 intro pos pins s σ H Q I h
 rw [hs]
 show wpAny _ _ (spliced ((false,eval e X.env) :: backTo pos (starEach es X.env))) _ _ s
 refine Calls.spliced_cons (thn (ha pins s σ H _ I h) fun u s1 hpt9=>?_)
 obtain ⟨x,H1,I1,r1,q1⟩:=hpt9
 exact thn (hr pos pins s1 σ H1 _ I1 q1) fun us s2 ⟨xs,H2,I2,r2,q2⟩=>⟨x :: xs,H2,I2,.cons r1 r2,q2⟩
def Js (t:TA):TE:=fun σ H Q=>t σ H fun xs H1=>xs.length <= sizeLine /\ ∀ p,H1 p = none -> Q (.ref p) (upd H1 p (.tup xs))
def Jb (t:TA):TE:=fun σ H Q=>t σ H fun xs H1=>xs.length <= sizeLine /\ ∀ p,H1 p = none -> Q (.ref p) (upd H1 p (.lst xs))
theorem aI {x1} (h:PA X es t):PE X (.Tuple es x1 pos) (Js t):=by
 intro pins s σ H Q I hq
 refine wpAny_Tuple_spliced (thn (h pos pins s σ H _ I hq) fun us s1 ⟨xs,H1,I1,r,z,q⟩=>⟨by rw [<- r.length];exact z,?_⟩)
 have hf:H1 s1.heap.objs.size = none:=I1.hok.fresh (Nat.le_refl _)
 refine ⟨.ref s1.heap.objs.size,upd H1 s1.heap.objs.size (.tup xs),I1.laid (t':=s1.toks) (fun b u e=>Heap.get?_push_of_some _ e) (Nat.le_refl _) ?_,rfl,q _ hf⟩
 exact ⟨z,us,r,⟨_,Heap.get?_push_size _ rfl,rfl,_,rfl⟩⟩
theorem eT (h:PA X es t):PE X (.List es pos) (Jb t):=by
 intro pins s σ H Q I hq
 refine wpAny_List_spliced (thn (h pos pins s σ H _ I hq) fun us s1 ⟨xs,H1,I1,r,z,q⟩=>⟨by rw [<- r.length];exact z,?_⟩)
 have hf:H1 s1.heap.objs.size = none:=I1.hok.fresh (Nat.le_refl _)
 refine ⟨.ref s1.heap.objs.size,upd H1 s1.heap.objs.size (.lst xs),I1.laid (t':=s1.toks) (fun b u e=>Heap.get?_push_of_some _ e) (Nat.le_refl _) ?_,rfl,q _ hf⟩
 exact ⟨z,us,0,r,Heap.get?_push_size _ rfl⟩
end
abbrev Sp:=List V -> Hp -> VK -> XK -> Prop
abbrev CXT:=List Env -> Hp -> Shared -> XK -> Value -> Shared -> Prop
structure Env0 (P:Program) (w:World) (K:W.Frag) (mg:Str -> Option Value) (base:Heap) (A:Around) (outer:List Env) (s:Shared) (H:Hp):Prop where
 frames:A.frames = some outer
 mod:Mod K mg base
 bs:∀ b o,base.get? b = some o -> s.heap.get? b = some o /\ H b = none
 bsz:base.objs.size <= s.heap.objs.size
 funs:s.heap.FunFrames base outer
 frf:∀ b ∈ frs outer,H b = none
 hok:HOk P w H s.heap
 bare:AllBare s.gens
def CE (outer:List Env) (P:Program) (w:World) (H:Hp) (s:Shared) (Q:VK) (u:Value) (s':Shared):Prop:=
 ∃ v H',s'.os = s.os /\ AllBare s'.gens /\ Un (frs outer) [] H H' s.heap s'.heap /\ HOk P w H' s'.heap /\ RelV v u /\ Q v H'
def CR (CX:CXT) (outer:List Env) (P:Program) (w:World) (H:Hp) (s:Shared) (Q:VK) (E:XK) (r:Result) (s':Shared):Prop:=
 match r with
 | .ok (.ret u)=>CE outer P w H s Q u s'
 | .ok _=>False
 | .error e=>CX outer H s E e s'
structure FnOk (P:Program) (w:World) (K:W.Frag) (mg:Str -> Option Value) (base:Heap) (CX:CXT) (k:Nat) (f:Addr) (fd:FuncData) (ps:List Str) (sp:Sp):Prop where
 len:∀ vs H Q E,sp vs H Q E -> vs.length = ps.length
 run:∀ (A:Around) (outer:List Env) (s:Shared) (H:Hp) (args:Args) (us:List Value) (vs:List V) (Q:VK) (E:XK),Room k A -> Env0 P w K mg base A outer s H -> BindsTo s fd args (ps.zip us) -> Vals vs us -> sp vs H Q E ->
  codeAny (model P w) A (.call (.ref f) args) (CR CX outer P w H s Q E) s
theorem Env0.make {P:Program} {w:World} {K:W.Frag} {mg:Str -> Option Value} {base:Heap} {A:Around} {outer:List Env} {s:Shared} {H:Hp} (e:Env0 P w K mg base A outer s H) (C:Addr) (us:List Value) (kw:List (Str × Value)) :
  Env0 P w K mg base (A.under (.builtin "type.__call__" ⟨.ref C :: us,kw⟩)) outer s H:=⟨by first | exact e.frames | (simpa [Around.under,Code.envs,Code.isFrame,pushEnvs] using e.frames),e.mod,e.bs,e.bsz,e.funs,e.frf,e.hok,e.bare⟩
section
variable {X:Cx} {pins:List (Addr × Obj)} {σ:St} {H:Hp} {s s':Shared}
theorem Inv.env0 (I:Inv X pins σ H s):Env0 X.prog X.w X.K X.mg X.base X.A X.stack s H:=
 ⟨I.ok.frames,I.ok.mod,I.bs,Nat.le_trans I.ok.bsz I.sz,I.stack,I.stkFree,I.hok,I.bare⟩
theorem Inv.after {Q:VK} {u:Value} (I:Inv X pins σ H s) (h:CE X.stack X.prog X.w H s Q u s'):EP X pins σ Q u s':=by
 obtain ⟨v,H',os,bare,un,hok,r,q⟩:=h
 obtain ⟨hh,g,d,t,os'⟩:=s'
 obtain rfl:os' = s.os:=os
 exact ⟨v,H',I.call (h':=hh) (g':=g) (d':=d) (t':=t) (ch:=[]) un hok bare (fun b z=>absurd z (by simp)),r,q⟩
end
def rN (sp:Sp) (dvs:List V) (E:XK) (t:TA):TE:=fun σ H Q=>t σ H fun vs H1=>sp (vs ++ dvs) H1 Q E
def Hk (C:Addr) (sp:Sp) (dvs:List V) (E:XK) (t:TA):TE:=fun σ H Q=>t σ H fun vs H1=>∀ x dx,H1 x = none -> H1 dx = none -> dx ≠ x ->
 sp (.ref x :: (vs ++ dvs)) (upd (upd H1 dx (.own x)) x (.ins C dx [])) (fun v H2=>v = .non /\ Q (.ref x) H2) E
def Binds (K:W.Frag) (fd:FuncData) (ps:List Str) (ds:List Value):Prop:=
 ∀ (s:Shared) (us:List Value),K.In s.heap -> (us ++ ds).length = ps.length -> BindsTo s fd ⟨us,[]⟩ (ps.zip (us ++ ds))
theorem Binds.all {K:W.Frag} {fd:FuncData} {ps:List Str} (h:∀ us:List Value,us.length = ps.length -> bindArgs fd ⟨us,[]⟩ = pure (ps.zip us)):Binds K fd ps []:=fun s us _ hl=>by
 rw [List.append_nil] at hl ⊢
 exact .of_eq (h us hl)
def kB (CX:CXT) (X:Cx) (E:XK):Prop:=∀ (pins:List (Addr × Obj)) (σ:St) (H:Hp) (s:Shared) (e:Value) (s':Shared),Inv X pins σ H s -> CX X.stack H s E e s' -> X.xe e s'
section
variable {X:Cx} {CX:CXT} {k:Nat} {f C:Addr} {fd:FuncData} {ps:List Str} {sp:Sp} {dvs:List V} {ds:List Value} {E:XK} {x m:Str} {p pos apos:Pos} {e o:Expr} {es:List Expr} {ta:TE} {t:TA}
theorem yp {pins:List (Addr × Obj)} {σ:St} {H:Hp} {s:Shared} {Q:VK} {us:List Value} {vs:List V} (F:FnOk X.prog X.w X.K X.mg X.base CX k f fd ps sp) (hr:Room k X.A) (hb:Binds X.K fd ps ds) (hd:Vals dvs ds) (hx:kB CX X E)
  (I:Inv X pins σ H s) (r:Vals vs us) (h:sp (vs ++ dvs) H Q E):wpAny (model X.prog X.w) X.A (call (.ref f) us) (EP X pins σ Q) X.xe s:=by
 have r2:Vals (vs ++ dvs) (us ++ ds):=r.append hd
 have hl:(us ++ ds).length = ps.length:=by rw [<- r2.length];exact F.len _ _ _ _ h
 refine wpAny_call (codeAny_mono (F.run X.A X.stack s H ⟨us,[]⟩ (us ++ ds) (vs ++ dvs) Q E hr I.env0 (hb s us I.kIn hl) r2 h) fun r s' hq=>?_)
 cases r with
 | error e=>exact hx pins σ H s e s' I hq
 | ok fl=>
  cases fl with
  | ret u=>exact I.after hq
  | next=>exact False.elim hq
  | brk=>exact False.elim hq
  | cont=>exact False.elim hq
theorem xZ (F:FnOk X.prog X.w X.K X.mg X.base CX k f fd ps sp) (hr:Room k X.A) (hg:Gl X x) (hm:X.mg x = some (.ref f)) (hk:W.keepIn X.K (.ref f) = true) (hb:Binds X.K fd ps ds) (hd:Vals dvs ds) (hx:kB CX X E)
  (ha:PA X (e :: es) t) (hdb:(x == ("__debug__" : Str)) = false:=by decide) (he:starEach (e :: es) X.env = (false,eval e X.env) :: starEach es X.env:=by rfl) (hpl:(backTo pos (starEach es X.env)).any (·.1) = false:=by rfl) :
  PE X (.Call (.Name x p) (e :: es) [] pos) (rN sp dvs E t):=by
 intro pins s σ H Q I h
 refine wpAny_Call_Name_kw (yc I hg hm ?_ hdb)
 refine W.callWith_K (h₀:=X.base) I.ok.mod.kin hk (thn (ha pos pins s σ H _ I h) fun us s1 ⟨vs,H1,I1,r,q⟩=>⟨I1.kIn,?_⟩) he hpl
 exact yp F hr hb hd hx I1 r q
structure Mk (K:W.Frag) (C f:Addr):Prop where
 makes:W.makesIn K C = true
 init:W.findIn K (.ref C) "__init__" = some (some (.ref f))
 fn:W.isFn K (.ref f) = true
 kp:W.keepIn K (.ref C) = true
theorem ER {pins:List (Addr × Obj)} {σ:St} {H:Hp} {s:Shared} {Q:VK} {us:List Value} {vs:List V} (M:Mk X.K C f) (F:FnOk X.prog X.w X.K X.mg X.base CX k f fd ps sp) (hr:Room (k + 1) X.A) (hb:Binds X.K fd ps ds) (hd:Vals dvs ds)
  (hx:kB CX X E) (I:Inv X pins σ H s) (r:Vals vs us)
  (h:∀ x dx,H x = none -> H dx = none -> dx ≠ x -> sp (.ref x :: (vs ++ dvs)) (upd (upd H dx (.own x)) x (.ins C dx [])) (fun v H2=>v = .non /\ Q (.ref x) H2) E) :
  wpAny (model X.prog X.w) X.A (call (.ref C) us) (EP X pins σ Q) X.xe s:=by
 have hq:=h (s.heap.objs.size + 1) s.heap.objs.size (I.hok.fresh (Nat.le_succ _)) (I.hok.fresh (Nat.le_refl _)) (Nat.ne_of_lt (Nat.lt_succ_self _))
 have I2:=Inv.made (C:=C) I
 have r2:Vals (V.ref (s.heap.objs.size + 1) :: (vs ++ dvs)) (Value.ref (s.heap.objs.size + 1) :: (us ++ ds)):=.cons rfl (r.append hd)
 have hl:(Value.ref (s.heap.objs.size + 1) :: us ++ ds).length = ps.length:=by
  have e:=r2.length
  rw [F.len _ _ _ _ hq] at e
  exact e.symm
 refine wpAny_call (F5 (f:=f) I.kIn M.makes M.init (beq_iff_eq.mp M.fn) (codeAny_mono (F.run _ X.stack _ _ ⟨Value.ref (s.heap.objs.size + 1) :: us,[]⟩ (Value.ref (s.heap.objs.size + 1) :: (us ++ ds)) _ _ E (hr.make C us [])
  (I2.env0.make C us []) (hb _ (Value.ref (s.heap.objs.size + 1) :: us) I2.kIn hl) r2 hq) fun r s' hq'=>?_))
 cases r with
 | error e=>exact hx pins σ _ _ e s' I2 hq'
 | ok fl=>
  cases fl with
  | ret u=>
   obtain ⟨v,H',I3,rv,ev,q3⟩:=I2.after hq'
   subst ev
   exact ⟨rv,⟨V.ref (s.heap.objs.size + 1),H',I3,rfl,q3⟩⟩
  | next=>exact False.elim hq'
  | brk=>exact False.elim hq'
  | cont=>exact False.elim hq'
theorem Hg (M:Mk X.K C f) (F:FnOk X.prog X.w X.K X.mg X.base CX k f fd ps sp) (hr:Room (k + 1) X.A) (hg:Gl X x) (hm:X.mg x = some (.ref C)) (hb:Binds X.K fd ps ds) (hd:Vals dvs ds) (hx:kB CX X E)
  (ha:PA X (e :: es) t) (hdb:(x == ("__debug__" : Str)) = false:=by decide) (he:starEach (e :: es) X.env = (false,eval e X.env) :: starEach es X.env:=by rfl) (hpl:(backTo pos (starEach es X.env)).any (·.1) = false:=by rfl) :
  PE X (.Call (.Name x p) (e :: es) [] pos) (Hk C sp dvs E t):=by
 intro pins s σ H Q I h
 refine wpAny_Call_Name_kw (yc I hg hm ?_ hdb)
 refine W.callWith_K (h₀:=X.base) I.ok.mod.kin M.kp (thn (ha pos pins s σ H _ I h) fun us s1 ⟨vs,H1,I1,r,q⟩=>⟨I1.kIn,?_⟩) he hpl
 exact ER M F hr hb hd hx I1 r q
end
section
variable {X:Cx} {CX:CXT} {k:Nat} {f C:Addr} {fd:FuncData} {ps ks:List Str} {sp:Sp} {E:XK} {x m:Str} {p pos apos kpos:Pos} {e o:Expr} {es:List Expr} {kws:List Keyword} {te ta:TE} {t tk:TA} {nm:Option Str}
variable {g:List Value -> List Value -> List Value} {gV:List V -> List V -> List V}
end
structure FnScope (N P:List Str) (sc:Scope):Prop where
 kind:sc.kind = .function
 co:sc.isCoroutine = false
 gen:sc.isGenerator = false
 nd:N.Nodup
 pre:N.take P.length = P
 par:∀ x ∈ P,sc.names.lookup x = some .local \/ sc.names.lookup x = some .cell
 nofree:∀ y ∈ sc.names,y.2 ≠ .free
theorem wZ {kindOf:Str -> Option NameKind} {x:Str}:∀ {binds:List (Str × Value)} {m:Str -> Option Value},(∀ v,(x,v) ∉ binds) -> bindL kindOf binds m x = m x
 | [],_,_=>rfl
 | (n,v) :: r,m,h=>by
  unfold bindL
  rw [wZ fun w hw=>h w (List.mem_cons_of_mem _ hw)]
  split
  ·have:x ≠ n:=by rintro rfl;exact h v List.mem_cons_self
   simp [this]
  ·rfl
theorem wQ {kindOf:Str -> Option NameKind} {x:Str}:∀ {binds:List (Str × Value)} {m:Str -> Option Value},(∀ v,(x,v) ∉ binds) -> bindC kindOf binds m x = m x
 | [],_,_=>rfl
 | (n,v) :: r,m,h=>by
  unfold bindC
  rw [wQ fun w hw=>h w (List.mem_cons_of_mem _ hw)]
  split
  ·rfl
  ·have:x ≠ n:=by rintro rfl;exact h v List.mem_cons_self
   simp [this]
theorem wV {kindOf:Str -> Option NameKind} {x:Str} {v:Value}:∀ {P:List Str} {vs:List Value} {i:Nat} {m:Str -> Option Value},P.Nodup -> P[i]? = some x -> vs[i]? = some v -> kindOf x = some .local ->
  bindL kindOf (P.zip vs) m x = some v
 | [],_,_,_,_,h,_,_=>by simp at h
 | _ :: _,[],_,_,_,_,h,_=>by simp at h
 | p :: P,w :: vs,0,m,nd,h1,h2,hk=>by
  simp at h1 h2;subst h1;subst h2
  show bindL kindOf ((p,w) :: P.zip vs) m p = _
  unfold bindL
  rw [wZ fun v hv=>(List.nodup_cons.mp nd).1 (List.of_mem_zip hv).1,if_pos hk]
  simp
 | p :: P,w :: vs,i + 1,m,nd,h1,h2,hk=>by
  show bindL kindOf ((p,w) :: P.zip vs) m x = _
  unfold bindL
  exact wV (i:=i) (List.nodup_cons.mp nd).2 (by simpa using h1) (by simpa using h2) hk
theorem wL {kindOf:Str -> Option NameKind} {x:Str} {v:Value}:∀ {P:List Str} {vs:List Value} {i:Nat} {m:Str -> Option Value},P.Nodup -> P[i]? = some x -> vs[i]? = some v -> kindOf x ≠ some .local ->
  bindC kindOf (P.zip vs) m x = some v
 | [],_,_,_,_,h,_,_=>by simp at h
 | _ :: _,[],_,_,_,_,h,_=>by simp at h
 | p :: P,w :: vs,0,m,nd,h1,h2,hk=>by
  simp at h1 h2;subst h1;subst h2
  show bindC kindOf ((p,w) :: P.zip vs) m p = _
  unfold bindC
  rw [wQ fun v hv=>(List.nodup_cons.mp nd).1 (List.of_mem_zip hv).1,if_neg hk]
  simp
 | p :: P,w :: vs,i + 1,m,nd,h1,h2,hk=>by
  show bindC kindOf ((p,w) :: P.zip vs) m x = _
  unfold bindC
  exact wL (i:=i) (List.nodup_cons.mp nd).2 (by simpa using h1) (by simpa using h2) hk
def bd (N:List Str) (vs:List V):St:=vs.map some ++ List.replicate (N.length - vs.length) none
def AW (CX:CXT) (P:Program) (w:World) (K:W.Frag) (mg:Str -> Option Value) (base:Heap) (N:List Str) (qual:Str) (scope:Scope) (f:Addr) (cd:Value) (A:Around) (outer:List Env) (s:Shared) (H:Hp) (E:XK):Cx where
 prog:=P
 w:=w
 K:=K
 mg:=mg
 base:=base
 A:=A.deeper (envOfC qual scope s.heap.objs.size f cd)
 N:=N
 s₀:=s
 H₀:=H
 env:=envOfC qual scope s.heap.objs.size f cd
 outer:=outer
 stack:=envOfC qual scope s.heap.objs.size f cd :: outer
 ex:=[]
 calm:=true
 fn:=fun _=>true
 pn:=[]
 xe:=fun e s'=>wpAny (model P w) (A.deeper (envOfC qual scope s.heap.objs.size f cd)) (leaving (envOfC qual scope s.heap.objs.size f cd) e) (fun _ s''=>CX outer H s E e s'') (fun e' s''=>CX outer H s E e' s'') s'
theorem zP {sc:Scope} {n:Nat} {x:Str} (h:sc.names.lookup x = some .cell):∃ c,(cellsFrom n sc.names []).lookup x = some c:=by
 have q:=W.cellsFrom_some sc.names n [] (.inl h)
 exact Option.isSome_iff_exists.mp q
theorem DJ {CX:CXT} {P:Program} {w:World} {K:W.Frag} {mg:Str -> Option Value} {base:Heap} {N ps:List Str} {qual:Str} {scope:Scope} {f:Addr} {cd:Value} {A:Around} {outer:List Env} {s s1:Shared} {H:Hp} {E:XK} {us:List Value} {vs:List V}
  (S:FnScope N ps scope) (hd:A.handled = none) (e0:Env0 P w K mg base A outer s H) (hl:vs.length = ps.length) (r:Vals vs us)
  (x:InCallC s s.heap.objs.size (bindL (envOfC qual scope s.heap.objs.size f cd).kindOf (ps.zip us) fun _=>none) (cellsFrom (s.heap.objs.size + 1) scope.names []) (bindC (envOfC qual scope s.heap.objs.size f cd).kindOf (ps.zip us) fun _=>none) s1) :
  Inv (AW CX P w K mg base N qual scope f cd A outer s H E) [] (bd N vs) H s1:=by
 have hpl:ps.length <= N.length:=by have:=congrArg List.length S.pre;rw [List.length_take] at this;lia
 obtain ⟨h1,tk,rfl,hk⟩:=x.done
 have noA:∀ b:Addr,b ∉ (AW CX P w K mg base N qual scope f cd A outer s H E).ex:=fun b z=>absurd (show b ∈ ([]:List Addr) from z) (by simp)
 refine ⟨⟨e0.mod,S.kind,rfl,rfl,Nat.le_refl _,fun y z c h1 h2=>?_,fun y hy=>?_,fun y c _ h=>?_,fun _=>hd,Around.frames_deeper e0.frames,.inr ⟨rfl,rfl⟩,fun b z=>absurd z (noA b),e0.bs,e0.bsz,fun b _ _=>noA b,fun b z=>absurd z (noA b),e0.funs,e0.frf⟩,
  rfl,e0.bare,Un.kept hk,⟨_,x.toInCall.ns,fun i y v h1 h2 h3=>?_⟩,fun y c h=>⟨_,x.cell y c h⟩,e0.hok.fresh (Nat.le_refl _),fun y c h=>?_,fun p hp=>absurd (show p ∈ ([]:List (Addr × Obj)) from hp) (by simp),e0.hok.kept hk,?_⟩
 ·exact name_of_addr x.apart (PySem.mem_of_lookup h1) (PySem.mem_of_lookup h2)
 ·have hy:scope.names.lookup y = some .cell \/ scope.names.lookup y = some .free:=hy
  rcases hy with hy | hy
  ·exact zP hy
  ·exact absurd rfl (S.nofree _ (PySem.mem_of_lookup hy))
 ·exact Nat.le_of_lt (x.above y c (PySem.mem_of_lookup h))
 ·have hi:i < vs.length:=by
   unfold bd at h2
   by_cases hi:i < vs.length
   ·exact hi
   ·rw [List.getElem?_append_right (by simpa using hi)] at h2
    rw [List.getElem?_replicate] at h2
    split at h2 <;> cases h2
  have ha:vs[i]? = some v:=by
   unfold bd at h2
   rw [List.getElem?_append_left (by simpa using hi),List.getElem?_map] at h2
   cases e:vs[i]? with
   | none=>rw [e] at h2;cases h2
   | some a=>rw [e] at h2;cases h2;rfl
  obtain ⟨u,hu,rv⟩:=r.get ha
  have hp:ps[i]? = some y:=by
   rw [<- S.pre,List.getElem?_take_of_lt (by lia)];exact h1
  have ndP:ps.Nodup:=by rw [<- S.pre];exact S.nd.sublist (List.take_sublist _ _)
  refine ⟨u,rv,?_⟩
  rcases S.par y (List.mem_of_getElem? hp) with k | k
  ·exact .inl ⟨k,wV ndP hp hu k⟩
  ·obtain ⟨c,e⟩:=zP (n:=s.heap.objs.size + 1) k
   refine .inr ⟨.inl k,c,e,?_⟩
   have q:=x.cell y c e
   rw [wL ndP hp hu (by show scope.names.lookup y ≠ _;rw [k];decide)] at q
   exact q
 ·exact e0.hok.fresh (Nat.le_of_lt (x.above y c (PySem.mem_of_lookup h)))
 ·unfold bd
  show _ = N.length
  rw [List.length_append,List.length_map,List.length_replicate]
  lia
theorem Kj {CX:CXT} {P:Program} {w:World} {K:W.Frag} {mg:Str -> Option Value} {base:Heap} {k:Nat} {f:Addr} {name qual:Str} {params:Arguments} {body:List Stmt} {scope:Scope} {dV kV doc pm cdv ct oc:Value} {an od:Option Addr}
  {osl:Array (Option Value)} {N ps:List Str} {sp:Sp} (lk:K.lookup f = some ⟨oc,od,.func (W.fnOf name qual params body scope dV kV doc pm an cdv ct),osl⟩) (hcd:W.codeIn K cdv qual = true) (S:FnScope N ps scope)
  (len:∀ vs H Q E,sp vs H Q E -> vs.length = ps.length)
  (hbody:∀ (A:Around) (outer:List Env) (s:Shared) (H:Hp) (vs:List V) (Q:VK) (E:XK),Room k (A.deeper (envOfC qual scope s.heap.objs.size f cdv)) -> sp vs H Q E ->
   ∃ t,PSs (AW CX P w K mg base N qual scope f cdv A outer s H E) body t /\ t { nx:=fun _ H'=>Q .non H',rt:=Q } (bd N vs) H) :
  FnOk P w K mg base CX (k + 1) f (W.fnOf name qual params body scope dV kV doc pm an cdv ct) ps sp:=by
 refine ⟨len,fun A outer s H args us vs Q E hr e0 hb r hsp=>?_⟩
 have hl:=len _ _ _ _ hsp
 have KX:K.In s.heap:=e0.mod.kin.keeps fun b o e=>(e0.bs b o e).1
 have lim:s.heap.NoLimit:=e0.mod.nolimit.keeps fun b o e=>(e0.bs b o e).1
 have hkind:∀ y ∈ ps.zip us,scope.names.lookup y.1 = some .local \/ (scope.names.lookup y.1 = some .cell /\ ((cellsFrom (s.heap.objs.size + 1) scope.names []).lookup y.1).isSome = true):=fun hpt0 hy=>by
  obtain ⟨n,v⟩:=hpt0
  rcases S.par n (List.of_mem_zip hy).1 with q | q
  ·exact .inl q
  ·exact .inr ⟨q,W.cellsFrom_some _ _ _ (.inl q)⟩
 refine codeAny_call_function hr.depth (KX _ _ lk) rfl S.co S.gen rfl (W.codeRec_of KX hcd) (hb _ _ _ _ ?_)
 refine wpAny_newFunctionEnv_cells S.kind hkind fun env he s1 x=>?_
 subst he
 refine ⟨lim.keeps x.toInCall.keep,codeAny_func ?_⟩
 obtain ⟨t,ht,hq⟩:=hbody A outer s H vs Q E (hr.deeper _) hsp
 have I:Inv (AW CX P w K mg base N qual scope f cdv A outer s H E) [] (bd N vs) H s1:=DJ S hr.hd e0 hl r x
 refine wpAny_mono (ht [] s1 (bd N vs) H _ I hq) (fun fl s' hs=>?_) fun e s' hs=>hs
 have fin:∀ {σ':St} {H':Hp} {v:V} {u:Value},Inv (AW CX P w K mg base N qual scope f cdv A outer s H E) [] σ' H' s' -> RelV v u -> Q v H' -> CE outer P w H s Q u s':=
  fun {σ' H' v u} J rv q=>⟨v,H',J.os,J.bare,J.base,J.hok,rv,q⟩
 cases fl with
 | ret u=>
  obtain ⟨v,σ',H',J,rv,q⟩:=hs
  exact fin J rv q
 | next=>
  obtain ⟨σ',H',J,q⟩:=hs
  exact fin (v:=V.non) (u:=Value.none) J rfl q
 | brk=>
  obtain ⟨_,_,_,q⟩:=hs
  exact False.elim q
 | cont=>
  obtain ⟨_,_,_,q⟩:=hs
  exact False.elim q
section
variable {X:Cx} {x:Str} {p pos:Pos} {e:Expr} {es:List Expr} {t:TA} {id T:String} {r:List V -> Hp -> VK -> Prop}
def tCB (r:List V -> Hp -> VK -> Prop) (t:TA):TE:=fun σ H Q=>t σ H fun vs H1=>r vs H1 Q
theorem bo (hc:CallR X (.builtin id) r) (hg:Gl X x) (hm:X.mg x = none) (hv:bootBuiltins x = some (.builtin id)) (ha:PA X (e :: es) t) (hn:x ≠ "__name__" := by decide) (hdb:(x == ("__debug__" : Str)) = false:=by decide)
  (he:starEach (e :: es) X.env = (false,eval e X.env) :: starEach es X.env:=by rfl) (hpl:(backTo pos (starEach es X.env)).any (·.1) = false:=by rfl):PE X (.Call (.Name x p) (e :: es) [] pos) (tCB r t):=by
 intro pins s σ H Q I h
 refine wpAny_Call_Name_kw (uk I hg hm hv ?_ hn hdb)
 exact PyProof.Rows.callWith_builtin1 (thn (ha pos pins s σ H _ I h) fun us s1 ⟨vs,H1,I1,r1,q1⟩=>hc pins s1 σ H1 vs us Q I1 r1 q1) he hpl
theorem b9 (hc:CallR X (.type T) r) (hg:Gl X x) (hm:X.mg x = none) (hv:bootBuiltins x = some (.type T)) (ha:PA X (e :: es) t) (hn:x ≠ "__name__" := by decide) (hdb:(x == ("__debug__" : Str)) = false:=by decide)
  (he:starEach (e :: es) X.env = (false,eval e X.env) :: starEach es X.env:=by rfl) (hpl:(backTo pos (starEach es X.env)).any (·.1) = false:=by rfl):PE X (.Call (.Name x p) (e :: es) [] pos) (tCB r t):=by
 intro pins s σ H Q I h
 refine wpAny_Call_Name_kw (uk I hg hm hv ?_ hn hdb)
 exact PyProof.Rows.callWith_type1 (thn (ha pos pins s σ H _ I h) fun us s1 ⟨vs,H1,I1,r1,q1⟩=>hc pins s1 σ H1 vs us Q I1 r1 q1) he hpl
end
end L2
namespace HT
open PySem PyProof.Rows
def cG:List Int -> List Int -> Bool
 | [],[]=>false
 | [],_ :: _=>true
 | _ :: _,[]=>false
 | x :: xs,y :: ys=>if x = y then cG xs ys else decide (x < y)
theorem BH (x y:Int) (xs ys:List Int):cG (x :: xs) (y :: ys) = if x = y then cG xs ys else decide (x < y):=rfl
section
open PySem.SeqAt
open PySem.AutoSeq1 (wpAny_loadPart')
open PySem.MeetsSeq PySem.MeetsSeq2 PySem.MeetsSeq3
end
section
variable {prog:Program} {w:World} {A:Around} {E:Value -> Shared -> Prop} {s:Shared}
theorem GL {t b:Addr} {vs ws:List Value} {Q:Value -> Shared -> Prop} (ht:IsTup s.heap t vs.toArray) (hb:IsTup s.heap b ws.toArray) (hv:vs ≠ [])
  (h1:ws = [] -> Q (.ref t) s) (h2:ws ≠ [] -> Q (.ref s.heap.objs.size) { s with heap:=s.heap.push { cls:=.type "tuple",data:=.seq (vs ++ ws).toArray } })
  (hsz:vs.length + ws.length <= sizeLine):wpAny (model prog w) A (binaryOp .Add (.ref t) (.ref b)) Q E s:=by
 obtain ⟨⟨cls,dd,data,sl⟩,ho,hc,n,hd⟩:=id ht
 obtain ⟨⟨cls2,dd2,data2,sl2⟩,ho2,hc2,n2,hd2⟩:=id hb
 simp only at hc hd hc2 hd2
 subst hc hd hc2 hd2
 have e:vs.toArray ++ ws.toArray = (vs ++ ws).toArray:=by simp
 by_cases hw:ws = []
 ·exact concat_meets ⟨_,ho,rfl⟩ ⟨_,ho2,rfl⟩ noFill_tuple_add seq_tuple_add PySem.F.slot_tuple_add PySem.F.entry_tuple_add (PySem.F.args_tuple_add_2 _ _)
   (tuple_addW1 t b vs.toArray ws.toArray n n2 dd dd2 sl sl2 (by simpa using hv) (by simp [hw])) ⟨ho,ho2,h1 hw⟩
 ·refine concat_meets ⟨_,ho,rfl⟩ ⟨_,ho2,rfl⟩ noFill_tuple_add seq_tuple_add PySem.F.slot_tuple_add PySem.F.entry_tuple_add (PySem.F.args_tuple_add_2 _ _)
   (tuple_addW2 t b vs.toArray ws.toArray n n2 dd dd2 sl sl2 (by simpa using hv) (by simpa using hw) (by rw [List.size_toArray,List.size_toArray];exact hsz)) ⟨ho,ho2,?_⟩
  rw [e]
  exact h2 hw
def sIx (n d:Nat):Option Int -> Nat
 | none=>d
 | some v=>if v < 0 then (v + (n:Int)).toNat else min v.toNat n
theorem Ie (n d:Nat) (hd:d <= n) (o:Option Int):sIx n d o <= n:=by
 cases o with
 | none=>exact hd
 | some v=>
  show (if v < 0 then (v + (n:Int)).toNat else min v.toNat n) <= n
  by_cases hv:v < 0
  ·rw [if_pos hv];lia
  ·rw [if_neg hv];exact Nat.min_le_right _ _
theorem Cj (v:Int) (n d:Nat):(if v < 0 then max (v + (n:Int)) 0 else min v (n:Int)) = ((sIx n d (some v):Nat):Int):=by
 show (if v < 0 then max (v + (n:Int)) 0 else min v (n:Int)) = (((if v < 0 then (v + (n:Int)).toNat else min v.toNat n):Nat):Int)
 by_cases hv:v < 0
 ·simp only [if_pos hv];lia
 ·simp only [if_neg hv];lia
theorem AV (lo hi:Option Int) (n:Nat):Builtin.Slice.sliceAdjust lo hi 1 (n:Int) = (((sIx n 0 lo:Nat):Int),((sIx n n hi:Nat):Int)):=by
 have h1:¬ ((1:Int) < 0):=by lia
 unfold Builtin.Slice.sliceAdjust
 simp only [h1,if_false]
 refine Prod.ext ?_ ?_
 ·cases lo with
  | none=>rfl
  | some v=>exact Cj v n 0
 ·cases hi with
  | none=>rfl
  | some v=>exact Cj v n n
theorem Bl (i j:Nat):Builtin.Slice.slicePlaces (i:Int) (j:Int) 1 = j - i:=by
 unfold Builtin.Slice.slicePlaces
 have h1:(1:Int) > 0:=by lia
 simp only [h1,if_true,Int.ediv_one]
 split <;> lia
theorem u8 {v:Value} {o:Option Int} {Q:Option Int -> Shared -> Prop} (p:IsPart v o) (h:Q o s):wpAny (model prog w) A (Builtin.Slice.slicePartIndex v) Q E s:=by
 cases p with
 | none=>exact slicePart_none h
 | int i t=>exact slicePart_int h
theorem ki {sl:Addr} {vl vu:Value} {lo hi:Option Int} {n:Nat} {Q:Int × Int × Nat -> Shared -> Prop} (hs:s.heap.IsSliceOf sl vl vu .none) (pl:IsPart vl lo) (pu:IsPart vu hi)
  (h:Q (((sIx n 0 lo:Nat):Int),1,sIx n n hi - sIx n 0 lo) s):wpAny (model prog w) A (Builtin.Slice.sliceApplied (.ref sl) (pure (n:Int))) Q E s:=by
 obtain ⟨os,hos,hcs,hds⟩:=id hs
 unfold Builtin.Slice.sliceApplied Builtin.Slice.sliceFields
 refine wpAny_bind (wpAny_bind (wpAny_field hos hds (x:=vl) rfl (wpAny_bind (wpAny_field hos hds (x:=vu) rfl (wpAny_bind (wpAny_field hos hds (x:=.none) rfl (wpAny_pure ?_)))))))
 refine wpAny_bind (slicePart_none ?_)
 show wpAny _ _ (if ((1:Int) == 0) = true then _ else _) _ _ s
 rw [if_neg (by decide)]
 refine wpAny_bind (u8 pl (wpAny_bind (u8 pu (wpAny_bind (wpAny_pure ?_)))))
 show wpAny _ _ (match Builtin.Slice.sliceAdjust lo hi 1 (n:Int) with | (lo,hi)=>pure (lo,(1:Int),Builtin.Slice.slicePlaces lo hi 1)) _ _ s
 rw [AV lo hi n]
 show wpAny _ _ (pure (((sIx n 0 lo:Nat):Int),(1:Int),Builtin.Slice.slicePlaces ((sIx n 0 lo:Nat):Int) ((sIx n n hi:Nat):Int) 1)) _ _ s
 rw [Bl]
 exact wpAny_pure h
theorem FW (xs:Array Value) (i k:Nat):((List.range k).filterMap fun (m:Nat)=>xs[((i:Int) + (m:Int) * 1).toNat]?).toArray = ((xs.toList.drop i).take k).toArray:=by
 have e:(fun (m:Nat)=>xs[((i:Int) + (m:Int) * 1).toNat]?) = fun m=>xs[i + m]?:=by
  funext m
  have:((i:Int) + (m:Int) * 1).toNat = i + m:=by lia
  rw [this]
 rw [e]
 have:=pick_run xs i k
 rw [List.filterMap_map] at this
 have e2:((fun x=>xs[x]?) ∘ fun x=>i + x) = fun m=>xs[i + m]?:=rfl
 rw [e2] at this
 rw [this]
theorem oW {t sl:Addr} {items:Array Value} {vl vu:Value} {lo hi:Option Int} {Q:Value -> Shared -> Prop} (ht:IsTup s.heap t items) (hs:s.heap.IsSliceOf sl vl vu .none) (pl:IsPart vl lo) (pu:IsPart vu hi)
  (hw:¬ (sIx items.size 0 lo = 0 /\ sIx items.size items.size hi = items.size))
  (h:Q (.ref s.heap.objs.size) { s with heap:=s.heap.push { cls:=.type "tuple",data:=.seq ((items.toList.drop (sIx items.size 0 lo)).take (sIx items.size items.size hi - sIx items.size 0 lo)).toArray } })
  (hsz:items.size <= sizeLine):wpAny (model prog w) A (getItem (.ref t) (.ref sl)) Q E s:=by
 have htake:sizeOk (.seq ((items.toList.drop (sIx items.size 0 lo)).take (sIx items.size items.size hi - sIx items.size 0 lo)).toArray):=by
  show ((items.toList.drop (sIx items.size 0 lo)).take (sIx items.size items.size hi - sIx items.size 0 lo)).toArray.size <= sizeLine
  rw [List.size_toArray,List.length_take,List.length_drop,Array.length_toList]
  omega
 have hj:sIx items.size items.size hi <= items.size:=Ie _ _ (Nat.le_refl _) hi
 obtain ⟨os,hos,hcs,hds⟩:=id hs
 have hTs:s.TypeIs (.ref sl) "slice" := ⟨os,hos,hcs⟩
 unfold getItem
 try with_reducible refine wpAny_holding ?_
 first | refine wpAny_bind (wpAny_pure ?_) | skip
 refine wpAny_bind (wpAny_sequenceKey ht.typeIs (by decide) ?_)
 refine wpAny_bind (wpAny_callSpecial?_slot (name:=Str.ofString "__getitem__") ht.typeIs PyProof.Rows.slot_tuple_getitem
  (wpAny_call_entry PyProof.Rows.slot_tuple_getitem ht.typeIs entry_tuple_getitem ?_ (args_tuple_getitem _ _)))
 show wpAny _ _ (Builtin.Tuple.tupleItemsOf (.ref t) >>= _) _ _ s
 refine wpAny_bind (tupleItemsOf_ ht ?_)
 refine wpAny_bind (wpAny_typeOf hTs ?_)
 rw [if_pos (by decide)]
 refine wpAny_bind (ki hs pl pu ?_)
 have hno:¬ ((((sIx items.size 0 lo:Nat):Int) == 0 && (1:Int) == 1 && (sIx items.size items.size hi - sIx items.size 0 lo) == items.size) = true):=by
  intro q
  rw [Bool.and_eq_true,Bool.and_eq_true] at q
  have q1:((sIx items.size 0 lo:Nat):Int) = 0:=eq_of_beq q.1.1
  have q2:sIx items.size items.size hi - sIx items.size 0 lo = items.size:=eq_of_beq q.2
  exact hw ⟨by omega,by omega⟩
 show wpAny _ _ (if (((sIx items.size 0 lo:Nat):Int) == 0 && (1:Int) == 1 && (sIx items.size items.size hi - sIx items.size 0 lo) == items.size) = true then _ else _) _ _ s
 rw [if_neg hno,FW]
 first
  | exact wpAny_bind (m:=Builtin.Tuple.tupleExact _) (wpAny_newObj_type (wpAny_pure ⟨_,rfl,wpAny_pure h⟩) htake)
  | exact wpAny_bind (m:=Builtin.Tuple.tupleExact _) (wpAny_newObj_type (wpAny_bind (wpAny_pure (wpAny_pure ⟨_,rfl,wpAny_pure h⟩))) htake)
  | exact wpAny_bind (wpAny_bind (m:=Builtin.Tuple.tupleExact _) (wpAny_newObj_type (wpAny_pure (wpAny_pure ⟨_,rfl,wpAny_pure h⟩)) htake))
  | exact wpAny_bind (wpAny_bind (m:=Builtin.Tuple.tupleExact _) (wpAny_newObj_type (wpAny_pure ⟨_,rfl,wpAny_pure h⟩) htake))
end
end HT
namespace L2
open PySem PySem.Spec PyProof.Rows
abbrev TO:=St -> Hp -> (Option Int -> Hp -> Prop) -> Prop
def PO (X:Cx) (e:Option Expr) (t:TO):Prop:=
 ∀ (pins:List (Addr × Obj)) (s:Shared) (σ:St) (H:Hp) (Q:Option Int -> Hp -> Prop),Inv X pins σ H s -> t σ H Q ->
  wpAny (model X.prog X.w) X.A (evalPart e X.env) (fun u s'=>∃ o H',Inv X pins σ H' s' /\ IsPart u o /\ Q o H') X.xe s
def Cf:TO:=fun _ H Q=>Q none H
def Hw (t:TE):TO:=fun σ H Q=>t σ H fun x H1=>∃ i,x = .int i /\ Q (some i) H1
theorem i6 {ns:List Int}:∀ {us:List Value},Vals (ns.map V.int) us -> IntsAre us ns:=by
 induction ns with
 | nil=>intro us r;rw [List.map_nil] at r;cases r;exact .nil
 | cons n ns ih=>
  intro us r
  rw [List.map_cons] at r
  cases r with
  | cons r1 r2=>
   obtain ⟨t,e⟩:=r1
   subst e
   exact .cons n t (ih r2)
section
variable {X:Cx} {e:Expr} {te:TE} {lo hi:Option Expr} {tl th:TO} {pos p2:Pos}
theorem Co:PO X none Cf:=by
 intro pins s σ H Q I h
 rw [evalPart_none]
 exact wpAny_pure ⟨none,H,I,.none,h⟩
theorem tj (h:PE X e te):PO X (some e) (Hw te):=by
 intro pins s σ H Q I hw
 rw [evalPart_some]
 refine thn (h pins s σ H _ I hw) fun u s1 hpt9=>?_
 obtain ⟨x,H1,I1,r1,q1⟩:=hpt9
 obtain ⟨i,rfl,q⟩:=q1
 obtain ⟨t,rfl⟩:=r1
 exact ⟨some i,H1,I1,.int i t,q⟩
def SlR (X:Cx) (r:V -> Option Int -> Option Int -> Hp -> VK -> Prop):Prop:=
 ∀ (pins:List (Addr × Obj)) (s:Shared) (σ:St) (H:Hp) (x:V) (v vl vu:Value) (lo hi:Option Int) (sl:Addr) (Q:VK),Inv X pins σ H s -> RelV x v -> s.heap.IsSliceOf sl vl vu .none -> IsPart vl lo -> IsPart vu hi -> r x lo hi H Q ->
  ∃ T id,typeLookup (.type T) "__getitem__" = pure (some (.builtin id)) /\ s.TypeIs v T /\ wpAny (model X.prog X.w) X.A (getItem v (.ref sl)) (EP X pins σ Q) X.xe s
theorem SlR.or {r r':V -> Option Int -> Option Int -> Hp -> VK -> Prop} (h:SlR X r) (h':SlR X r'):SlR X (fun x lo hi H Q=>r x lo hi H Q \/ r' x lo hi H Q):=by
 intro pins s σ H x v vl vu lo hi sl Q I rx hs pl pu q
 rcases q with q | q
 ·exact h pins s σ H x v vl vu lo hi sl Q I rx hs pl pu q
 ·exact h' pins s σ H x v vl vu lo hi sl Q I rx hs pl pu q
def tSl (r:V -> Option Int -> Option Int -> Hp -> VK -> Prop) (te:TE) (tl th:TO):TE:=fun σ H Q=>te σ H fun x H1=>tl σ H1 fun l H2=>th σ H2 fun u H3=>r x l u H3 Q
theorem uI {r:V -> Option Int -> Option Int -> Hp -> VK -> Prop} (hr:SlR X r) (he:PE X e te) (hl:PO X lo tl) (hu:PO X hi th):PE X (.Subscript e (.Slice lo hi none p2) pos) (tSl r te tl th):=by
 intro pins s σ H Q I h
 refine Subscript_ (thn (he pins s σ H _ I h) fun v s1 hpt9=>?_)
 obtain ⟨x,H1,I1,r1,q1⟩:=hpt9
 refine wpAny_Slice (thn (hl pins s1 σ H1 _ I1 q1) fun vl s2 ⟨l,H2,I2,pl,q2⟩=>thn (hu pins s2 σ H2 _ I2 q2) fun vu s3 hpt9=>?_)
 obtain ⟨u,H3,I3,pu,q3⟩:=hpt9
 rw [evalPart_none]
 refine wpAny_pure ?_
 have I4:Inv X pins σ H3 { s3 with heap:=s3.heap.push { cls:=.type "slice",data:=.fields #[vl,vu,.none] } }:=I3.kept (t':=s3.toks) fun b ob q=>Heap.get?_push_of_some _ q
 obtain ⟨T,id,hT,ht,hg⟩:=hr pins { s3 with heap:=s3.heap.push { cls:=.type "slice",data:=.fields #[vl,vu,.none] } } σ H3 x v vl vu l u s3.heap.objs.size Q I4 r1 (Heap.IsSliceOf.new ..) pl pu q3
 show wpAny (model X.prog X.w) X.A (subscriptTail e (.Slice lo hi none p2) v (.ref s3.heap.objs.size)) (EP X pins σ Q) X.xe { s3 with heap:=s3.heap.push { cls:=.type "slice",data:=.fields #[vl,vu,.none] } }
 exact tail_any (ops:=[.ref s3.heap.objs.size,v]) ht hT hg (by with_unfolding_all rfl)
def oo (xs:List V) (lo hi:Option Int):List V:=(xs.drop (HT.sIx xs.length 0 lo)).take (HT.sIx xs.length xs.length hi - HT.sIx xs.length 0 lo)
theorem sf (xs:List V) (lo hi:Option Int):(oo xs lo hi).length <= xs.length:=by
 unfold oo
 rw [List.length_take,List.length_drop]
 lia
def LV (K:W.Frag):V -> Option Int -> Option Int -> Hp -> VK -> Prop:=fun x lo hi H Q=>∃ a xs,x = .ref a /\ SqT K H a xs /\
 ¬ (HT.sIx xs.length 0 lo = 0 /\ HT.sIx xs.length xs.length hi = xs.length) /\ ∀ p,H p = none -> Q (.ref p) (upd H p (.tup (oo xs lo hi)))
theorem Iy:SlR X (LV X.K):=by
 intro pins s σ H x v vl vu lo hi sl Q I rx hs pl pu h
 obtain ⟨a,xs,rfl,hx,hw,q⟩:=h
 cases rx
 obtain ⟨its,r,ht,hz⟩:=I.tuple hx
 have hlen:its.toArray.size = xs.length:=by rw [List.size_toArray];exact r.length.symm
 refine ⟨"tuple",_,PyProof.Rows.slot_tuple_getitem.lookup,ht.typeIs,?_⟩
 refine HT.oW ht hs pl pu (by rw [hlen];exact hw) ?_ (by rw [hlen];exact hz)
 rw [hlen]
 refine ⟨.ref s.heap.objs.size,_,I.laid (t':=s.toks) (o:=.tup (oo xs lo hi)) (fun b ob q=>Heap.get?_push_of_some _ q) (Nat.le_refl _) ?_,rfl,q _ (I.hok.fresh (Nat.le_refl _))⟩
 exact ⟨Nat.le_trans (sf xs lo hi) hz,_,(r.drop (HT.sIx xs.length 0 lo)).take (HT.sIx xs.length xs.length hi - HT.sIx xs.length 0 lo),IsTup.new _ _⟩
theorem Vals.nil_iff {xs:List V} {us:List Value} (r:Vals xs us):us = [] ↔ xs = []:=by
 cases r with
 | nil=>simp
 | cons _ _=>simp
end
def ixN (n:Nat) (i:Int):Option Nat:=if 0 <= i then (if i < n then some i.toNat else none) else if -(n:Int) <= i then some (i + n).toNat else none
def atI {α:Type} (xs:List α) (i:Int):Option α:=(ixN xs.length i).bind fun j=>xs[j]?
theorem Cu {n:Nat} {i:Int} {j:Nat} (h:ixN n i = some j):seqIndex? i n = some j /\ j < n /\ -(n:Int) <= i /\ i < n:=by
 unfold ixN at h
 by_cases h0:0 <= i
 ·rw [if_pos h0] at h
  by_cases h1:i < n
  ·rw [if_pos h1] at h
   have e:i.toNat = j:=Option.some.inj h
   exact ⟨by rw [seqIndex_of h0 h1,e],by lia,by lia,h1⟩
  ·rw [if_neg h1] at h;cases h
 ·rw [if_neg h0] at h
  by_cases h1:-(n:Int) <= i
  ·rw [if_pos h1] at h
   have e:(i + n).toNat = j:=Option.some.inj h
   exact ⟨by rw [seqIndex_neg (by lia) h1,e],by lia,h1,by lia⟩
  ·rw [if_neg h1] at h;cases h
theorem xW {α:Type} {xs:List α} {i:Int} {v:α} (h:atI xs i = some v):∃ j,seqIndex? i xs.length = some j /\ xs[j]? = some v /\ j < xs.length /\ -(xs.length:Int) <= i /\ i < xs.length:=by
 unfold atI at h
 cases e:ixN xs.length i with
 | none=>rw [e] at h;cases h
 | some j=>
  rw [e] at h
  obtain ⟨h1,h2,h3,h4⟩:=Cu e
  exact ⟨j,h1,h,h2,h3,h4⟩
def Cq (b:Expr):Prop:=∀ o i,subscripted b false o i = operate [o,i] (getItem o i)
def IxR (X:Cx) (r:R2):Prop:=
 ∀ (value slice:Expr) (pins:List (Addr × Obj)) (s:Shared) (σ:St) (H:Hp) (x y:V) (v u:Value) (Q:VK),Inv X pins σ H s -> RelV x v -> RelV y u -> r x y H Q ->
  subscripted slice false v u = operate [v,u] (getItem v u) -> wpAny (model X.prog X.w) X.A (subscriptTail value slice v u) (EP X pins σ Q) X.xe s
def MtR (X:Cx) (id:String) (r:V -> List V -> Hp -> VK -> Prop):Prop:=
 ∀ (pins:List (Addr × Obj)) (s:Shared) (σ:St) (H:Hp) (x:V) (xs:List V) (v:Value) (us:List Value) (Q:VK),Inv X pins σ H s -> RelV x v -> Vals xs us -> r x xs H Q ->
  wpAny (model X.prog X.w) X.A (call (.builtin id) (v :: us)) (EP X pins σ Q) X.xe s
section
variable {X:Cx} {a b:Expr} {ta tb:TE} {pos:Pos}
theorem IxR.or {r r':R2} (h:IxR X r) (h':IxR X r'):IxR X (fun x y H Q=>r x y H Q \/ r' x y H Q):=by
 intro value slice pins s σ H x y v u Q I rx ry q hs
 rcases q with q | q
 ·exact h value slice pins s σ H x y v u Q I rx ry q hs
 ·exact h' value slice pins s σ H x y v u Q I rx ry q hs
theorem JS {r:R2} (hr:IxR X r) (ha:PE X a ta) (hb:PE X b tb) (hs:Cq b):PE X (.Subscript a b pos) (tOp r ta tb):=by
 intro pins s σ H Q I h
 exact Subscript_ (HS ha hb I h fun v u s2 x y H2 I2 rx ry q=>hr a b pins s2 σ H2 x y v u Q I2 rx ry q (hs _ _))
def JW (K:W.Frag):R2:=fun x y H Q=>∃ p xs i v,x = .ref p /\ y = .int i /\ SqL K H p xs /\ atI xs i = some v /\ Q v H
def JZ (K:W.Frag):R2:=fun x y H Q=>∃ p xs i v,x = .ref p /\ y = .int i /\ SqT K H p xs /\ atI xs i = some v /\ Q v H
def KY:R2:=fun x y H Q=>∃ z i c,x = .str z /\ y = .int i /\ z.length <= sizeLine /\ atI z.cps.toList i = some c /\ Q (.str ⟨#[c]⟩) H
theorem ix_list:IxR X (JW X.K):=by
 intro value slice pins s σ H x y v u Q I rx ry h hs
 obtain ⟨p,xs,i,z,rfl,rfl,hq,he,q⟩:=h
 cases rx
 obtain ⟨t,rfl⟩:=ry
 obtain ⟨its,r,pl,hz⟩:=I.list hq
 obtain ⟨j,h1,h2,h3,h4,h5⟩:=xW he
 obtain ⟨w,ew,rw'⟩:=r.get h2
 have hl:=r.length
 have hn:=nK
 have fin:EP X pins σ Q w s:=⟨z,H,I,rw',q⟩
 by_cases h0:0 <= i
 ·have hj:i.toNat = j:=by
   rw [seqIndex_of h0 h5] at h1
   exact Option.some.inj h1
  exact item_listR pl.isList h0 (by lia) (by rw [hj];simpa using ew) fin hs
 ·have hj:(i + (its.toArray.size:Int)).toNat = j:=by
   rw [seqIndex_neg (by lia) h4] at h1
   rw [List.size_toArray,<- hl]
   exact Option.some.inj h1
  exact subscriptTail_builtinR (x:=w) pl.isList.typeIs slot_list_getitem.lookup
   (wpAny_getItem_list_neg (Q:=fun r s'=>r = w /\ EP X pins σ Q r s') pl.isList (by lia) (by rw [List.size_toArray] <;> lia) (by lia) (by rw [hj];simpa using ew) ⟨rfl,fin⟩) hs
theorem ix_tup:IxR X (JZ X.K):=by
 intro value slice pins s σ H x y v u Q I rx ry h hs
 obtain ⟨p,xs,i,z,rfl,rfl,hq,he,q⟩:=h
 cases rx
 obtain ⟨t,rfl⟩:=ry
 obtain ⟨its,r,pl,hz⟩:=I.tuple hq
 obtain ⟨j,h1,h2,h3,h4,h5⟩:=xW he
 obtain ⟨w,ew,rw'⟩:=r.get h2
 have hl:=r.length
 have hn:=nK
 have fin:EP X pins σ Q w s:=⟨z,H,I,rw',q⟩
 exact subscriptTail_builtinR (x:=w) pl.typeIs slot_tuple_getitem.lookup
  (getItem_tuple (j:=j) (Q:=fun r s'=>r = w /\ EP X pins σ Q r s') pl (by lia) (by lia) (by rw [List.size_toArray,<- hl];exact h1) (by simpa using ew) ⟨rfl,fin⟩) hs
theorem IV:IxR X KY:=by
 intro value slice pins s σ H x y v u Q I rx ry h hs
 obtain ⟨z,i,c,rfl,rfl,hz,he,q⟩:=h
 obtain ⟨t,rfl⟩:=rx
 obtain ⟨t',rfl⟩:=ry
 obtain ⟨j,h1,h2,h3,h4,h5⟩:=xW he
 have hl:z.cps.toList.length = z.length:=by simp [Str.length]
 rw [hl] at h1 h4 h5
 have hn:=nK
 exact tail_any (typeIs_str s z t) slot_str_getitem.lookup (getItem_str (c:=c) (by
  have e1:decide (i < -(2 ^ 63:Int)) = false:=decide_eq_false (by lia)
  have e2:decide (i ≥ 2 ^ 63) = false:=decide_eq_false (by lia)
  rw [e1,e2,Bool.or_false]) (by rw [h1];simpa using h2) ⟨.str ⟨#[c]⟩,H,I.tok _,⟨_,rfl⟩,q⟩) hs
def rIx (K:W.Frag):R2:=fun x y H Q=>JW K x y H Q \/ JZ K x y H Q \/ KY x y H Q
theorem Im:IxR X (rIx X.K):=ix_list.or (ix_tup.or IV)
theorem BG (its:List Value) (n j:Nat) (u:Value):Obj.mapSeq (·.setIfInBounds j u) { cls:=.type "list",data:=.seq its.toArray n } = { cls:=.type "list",data:=.seq (its.set j u).toArray n }:=by
 simp [Obj.mapSeq]
theorem Inv.lst {pins:List (Addr × Obj)} {σ:St} {H:Hp} {s:Shared} {p:Addr} {xs:List V} (I:Inv X pins σ H s) (h:H p = some (.lst xs)) :
  ∃ (its:List Value) (n:Nat),Vals xs its /\ s.heap.get? p = some { cls:=.type "list",data:=.seq its.toArray n } /\ xs.length <= sizeLine:=by
 obtain ⟨z,its,n,r,e⟩:=I.hok p _ h
 exact ⟨its,n,r,e,z⟩
theorem Inv.lstUpd {pins:List (Addr × Obj)} {σ:St} {H:Hp} {s:Shared} {p:Addr} {xs ys:List V} {its its':List Value} {n n':Nat} {f:Obj -> Obj} (I:Inv X pins σ H s) (h:H p = some (.lst xs))
  (ho:s.heap.get? p = some { cls:=.type "list",data:=.seq its.toArray n }) (hf:f { cls:=.type "list",data:=.seq its.toArray n } = { cls:=.type "list",data:=.seq its'.toArray n' }) (r:Vals ys its') (hz:ys.length <= sizeLine) (t:Nat) :
  Inv X pins σ (upd H p (.lst ys)) { s with heap:=s.heap.update p f,toks:=t }:=by
 have e:(s.heap.update p f).get? p = some { cls:=.type "list",data:=.seq its'.toArray n' }:=by
  rw [Heap.get?_update_self f ho (by rw [hf] <;> rfl),hf]
 refine I.write (x:=p) (e:=p) (by rw [h];trivial) (.inl rfl) (fun b u hb q=>(Heap.get?_update_other _ _ (Ne.symm hb)).trans q) ⟨_,e⟩ ?_
 exact ⟨hz,its',n',r,e⟩
def Hm:V -> V -> V -> Hp -> (Hp -> Prop) -> Prop:=fun o i v H Q=>∃ p xs k j,o = .ref p /\ i = .int k /\ H p = some (.lst xs) /\ ixN xs.length k = some j /\ Q (upd H p (.lst (xs.set j v)))
theorem oP:KC X Hm:=by
 intro pins s σ H o i v ov iv u Q I ro ri rv h
 obtain ⟨p,xs,k,j,rfl,rfl,hp,hj,q⟩:=h
 cases ro
 obtain ⟨t,rfl⟩:=ri
 obtain ⟨its,n,r,ho,hz⟩:=I.lst hp
 obtain ⟨h1,h2,h3,h4⟩:=Cu hj
 have hl:=r.length
 have hn:=nK
 have I':Inv X pins σ (upd H p (.lst (xs.set j v))) { s with heap:=s.heap.update p (Obj.mapSeq (·.setIfInBounds j u)) }:=
  I.lstUpd hp ho (BG its n j u) (r.set rv j) (by rw [List.length_set];exact hz) s.toks
 by_cases h0:0 <= k
 ·have hk:k.toNat = j:=by
   rw [seqIndex_of h0 h4] at h1
   exact Option.some.inj h1
  exact W.ki_setAt ho h0 (by lia) (by rw [List.size_toArray,<- hl];exact h4) (by rw [hk];exact ⟨_,I',q⟩)
 ·have hk:(k + (its.toArray.size:Int)).toNat = j:=by
   rw [seqIndex_neg (by lia) h3] at h1
   rw [List.size_toArray,<- hl]
   exact Option.some.inj h1
  exact W.ki_setBack ho (by lia) (by rw [List.size_toArray,<- hl];exact h3) (by lia) (by rw [hk];exact ⟨_,I',q⟩)
theorem xX (lo hi:Option Int) (n:Nat):(sliceBounds lo hi none n).1 = ((HT.sIx n 0 lo:Nat):Int) /\ (sliceBounds lo hi none n).2.1 = ((HT.sIx n n hi:Nat):Int) /\ (sliceBounds lo hi none n).2.2 = 1:=by
 refine ⟨?_,?_,rfl⟩
 ·cases lo with
  | none=>simp [sliceBounds,HT.sIx]
  | some i=>
   simp only [sliceBounds,HT.sIx,Option.getD_none,show (1:Int) > 0 by decide,if_true]
   by_cases h:i < 0
   ·simp only [h,if_true] <;> lia
   ·simp only [h,if_false] <;> lia
 ·cases hi with
  | none=>simp [sliceBounds,HT.sIx]
  | some i=>
   simp only [sliceBounds,HT.sIx,Option.getD_none,show (1:Int) > 0 by decide,if_true]
   by_cases h:i < 0
   ·simp only [h,if_true] <;> lia
   ·simp only [h,if_false] <;> lia
theorem vQ (its:List Value) (lo hi:Option Int):slicePick its.toArray lo hi none = ((its.drop (HT.sIx its.length 0 lo)).take (HT.sIx its.length its.length hi - HT.sIx its.length 0 lo)).toArray:=by
 obtain ⟨h1,h2,h3⟩:=xX lo hi its.toArray.size
 unfold slicePick
 rw [h1,h2,h3]
 simp only [sliceRange_one,pick_run,List.size_toArray] <;> rfl
def Kd (K:W.Frag):V -> Option Int -> Option Int -> Hp -> VK -> Prop:=fun x lo hi H Q=>∃ a xs,x = .ref a /\ SqL K H a xs /\ ∀ p,H p = none -> Q (.ref p) (upd H p (.lst (oo xs lo hi)))
theorem G4:SlR X (Kd X.K):=by
 intro pins s σ H x v vl vu lo hi sl Q I rx hs pl pu h
 obtain ⟨a,xs,rfl,hx,q⟩:=h
 cases rx
 obtain ⟨its,r,ht,hz⟩:=I.list hx
 have hlen:=r.length
 refine ⟨"list",_,slot_list_getitem.lookup,ht.isList.typeIs,?_⟩
 refine wpAny_getItem_list_slice ht.isList hs pl pu .none (by simp) ?_ (by rw [List.size_toArray] <;> lia)
 rw [vQ,<- hlen]
 refine ⟨.ref s.heap.objs.size,_,I.laid (t':=s.toks) (o:=.lst (oo xs lo hi)) (fun b ob q=>Heap.get?_push_of_some _ q) (Nat.le_refl _) ?_,rfl,q _ (I.hok.fresh (Nat.le_refl _))⟩
 exact ⟨Nat.le_trans (sf xs lo hi) hz,_,0,(r.drop (HT.sIx xs.length 0 lo)).take (HT.sIx xs.length xs.length hi - HT.sIx xs.length 0 lo),Heap.get?_push_size _ rfl⟩
theorem CallR.or {f:Value} {r r':List V -> Hp -> VK -> Prop} (h:CallR X f r) (h':CallR X f r'):CallR X f (fun xs H Q=>r xs H Q \/ r' xs H Q):=by
 intro pins s σ H xs us Q I rs q
 rcases q with q | q
 ·exact h pins s σ H xs us Q I rs q
 ·exact h' pins s σ H xs us Q I rs q
theorem bj:CallR X (.type "tuple") (fun xs H Q=>∃ p ys,xs = [.ref p] /\ ((SqL X.K H p ys /\ ∀ l,H l = none -> Q (.ref l) (upd H l (.tup ys))) \/ (SqT X.K H p ys /\ Q (.ref p) H))):=by
 intro pins s σ H xs us Q I r h
 obtain ⟨p,ys,rfl,h⟩:=h
 obtain ⟨u,rfl,rx⟩:=Fv r
 cases rx
 rcases h with ⟨hq,q⟩ | ⟨hq,q⟩
 ·obtain ⟨its,r',pl,hz⟩:=I.list hq
  have hlen:=r'.length
  refine call_tuple_list pl.isList (fun h' kp=>?_) (by simp only [List.size_toArray] <;> lia)
  have I1:Inv X pins σ H { s with heap:=h' }:=I.kept (t':=s.toks) kp
  have I2:Inv X pins σ (upd H h'.objs.size (.tup ys)) { s with heap:=h'.push { cls:=.type "tuple",data:=.seq its.toArray } }:=
   I1.laid (t':=s.toks) (fun b o e=>Heap.get?_push_of_some _ e) (Nat.le_refl _) (show ObjOk X.prog X.w _ _ _ (.tup ys) from ⟨hz,its,r',IsTup.new _ _⟩)
  exact ⟨.ref h'.objs.size,_,I2,rfl,q _ (I1.hok.fresh (Nat.le_refl _))⟩
 ·obtain ⟨its,r',pl,hz⟩:=I.tuple hq
  exact call_tuple_same pl ⟨.ref p,H,I,rfl,q⟩
def tyV (K:W.Frag) (T:String) (x:V) (H:Hp):Prop:=match x with
 | .str _=>T = "str"
 | .int _=>T = "int"
 | .ref p=>(T = "list" /\ ∃ xs,SqL K H p xs) \/ (T = "tuple" /\ ∃ o,K.lookup p = some o /\ o.cls = .type "tuple" /\ o.dict = none) \/
   (T = "dict" /\ ((∃ kvs,H p = some (.dK kvs)) \/ ∃ kvs,H p = some (.dT kvs))) \/ (T = "set" /\ ∃ S n,H p = some (.set S n))
 | _=>False
theorem JB {pins:List (Addr × Obj)} {σ:St} {H:Hp} {s:Shared} {T:String} {x:V} {v:Value} (I:Inv X pins σ H s) (r:RelV x v) (ty:tyV X.K T x H) :
  s.TypeIs v T /\ ∀ a,v = .ref a -> ∃ ob,s.heap.get? a = some ob /\ ob.dict = none:=by
 cases x with
 | str z=>
  obtain ⟨t,rfl⟩:=r
  cases (show T = "str" from ty)
  exact ⟨typeIs_str s z t,fun _ e=>nomatch e⟩
 | int i=>
  obtain ⟨t,rfl⟩:=r
  cases (show T = "int" from ty)
  exact ⟨typeIs_int s i t,fun _ e=>nomatch e⟩
 | ref p=>
  cases r
  rcases ty with ⟨rfl,xs,hq⟩ | ⟨rfl,o,hk,hc,hd⟩ | ⟨rfl,hk⟩ | ⟨rfl,S,n,hk⟩
  ·obtain ⟨its,_,pl,_⟩:=I.list hq
   refine ⟨pl.isList.typeIs,fun a e=>?_⟩
   cases e
   obtain ⟨o,n,e,c,hd,_⟩:=pl
   exact ⟨o,e,hd⟩
  ·refine ⟨⟨o,I.kIn p o hk,hc⟩,fun a e=>?_⟩
   cases e
   exact ⟨o,I.kIn _ o hk,hd⟩
  ·have z:∃ o,s.heap.get? p = some o /\ o.ExactDict:=by
    rcases hk with ⟨kvs,hk⟩ | ⟨kvs,hk⟩
    ·obtain ⟨_,_,_,_,o,_,_,e,ex,_⟩:=I.hok p _ hk
     exact ⟨o,e,ex⟩
    ·obtain ⟨_,_,_,_,o,_,_,e,ex,_⟩:=I.hok p _ hk
     exact ⟨o,e,ex⟩
   obtain ⟨o,e,ex⟩:=z
   refine ⟨⟨o,e,ex.1⟩,fun a e2=>?_⟩
   cases e2
   exact ⟨o,e,ex.2.1⟩
  ·obtain ⟨o,_,_,_,e,ex,_⟩:=I.hok p _ hk
   refine ⟨⟨o,e,ex.1⟩,fun a e2=>?_⟩
   cases e2
   exact ⟨o,e,ex.2.1⟩
 | _=>exact False.elim ty
def tBM (K:W.Frag) (T:String) (r:V -> List V -> Hp -> VK -> Prop) (to:TE) (t:TA):TE:=fun σ H Q=>to σ H fun x H1=>tyV K T x H1 /\ t σ H1 fun xs H2=>r x xs H2 Q
variable {o e:Expr} {es:List Expr} {to:TE} {t:TA} {name:Str} {apos cpos:Pos} {T id:String} {r:V -> List V -> Hp -> VK -> Prop}
theorem mj (pa:PlainAttrs T) (slot:Slot T name id) (hty:typeOf (.builtin id) = pure (.type "method_descriptor")) (hm:MtR X id r) (ho:PE X o to) (ha:PA X (e :: es) t)
  (hbase:attributeBase o name X.env (eval o X.env) = eval o X.env:=by rfl)
  (hfew:((backTo cpos (starEach (e :: es) X.env)).all (fun x=>!x.1) && (backToKw cpos (keywordEach [] X.env)).all (fun x=>x.1.isSome)
   && decide ((e :: es).length + ([]:List Keyword).length + (if ([]:List Keyword).isEmpty then 0 else 1) < 30)) = true:=by rfl)
  (hline:(apos.endLine == cpos.line) = true:=by rfl) (hs:starEach (e :: es) X.env = (false,eval e X.env) :: starEach es X.env:=by rfl) (hplain:(backTo cpos (starEach es X.env)).any (·.1) = false:=by rfl) :
  PE X (.Call (.Attribute o name apos) (e :: es) [] cpos) (tBM X.K T r to t):=by
 intro pins s σ H Q I h
 refine wpAny_Call_method_late hbase hfew hline rfl (thn (ho pins s σ H _ I h) fun v s1 hpt9=>?_)
 obtain ⟨x,H1,I1,r1,ty,q1⟩:=hpt9
 obtain ⟨h1,h2⟩:=JB I1 r1 ty
 refine ⟨T,id,pa,slot,hty,h1,h2,?_⟩
 have hA:=ha cpos pins s1 σ H1 _ I1 q1
 rw [hs] at hA ⊢
 refine Calls.callWith_builtin (by show (false || (backTo cpos (starEach es X.env)).any (·.1)) = false;rw [hplain] <;> rfl) (Calls.evalArgs_plain ?_)
 exact thn hA fun us s2 ⟨vs,H2,I2,r2,q2⟩=>hm pins s2 σ H2 x vs v us Q I2 r1 r2 q2
end
def MtM (X:Cx) (id:String) (r:V -> List V -> Hp -> VK -> Prop):Prop:=
 ∀ (pins:List (Addr × Obj)) (s:Shared) (σ:St) (H:Hp) (x:V) (xs:List V) (v:Value) (us:List Value) (Q:VK),Inv X pins σ H s -> RelV x v -> Vals xs us -> r x xs H Q ->
  wpAny (model X.prog X.w) X.A (call (.builtin id) (v :: us)) (EP X pins σ Q) X.xe s
theorem Vals.one {x:V} {us:List Value} (h:Vals [x] us):∃ u,us = [u] /\ RelV x u:=by
 cases h with
 | cons r t=>cases t;exact ⟨_,rfl,r⟩
section
variable {X:Cx} {pins:List (Addr × Obj)} {σ:St} {H:Hp} {s:Shared} {l b:Addr} {xs ys zs:List V}
theorem Inv.lset {its its':List Value} {n:Nat} {f:Array Value -> Array Value} {t':Nat} (I:Inv X pins σ H s) (hH:H l = some (.lst xs))
  (e:s.heap.get? l = some { cls:=.type "list",data:=.seq its.toArray n }) (hf:f its.toArray = its'.toArray) (hv:Vals ys its') (hz:ys.length <= sizeLine) :
  Inv X pins σ (upd H l (.lst ys)) { s with heap:=s.heap.update l (Obj.mapSeq f),toks:=t' }:=by
 have q:=PySem.IsL.update e f
 rw [hf] at q
 refine I.write (x:=l) (e:=l) (by rw [hH];exact trivial) (.inl rfl) (fun b' u hb hu=>(Heap.get?_update_other s.heap (Obj.mapSeq f) (Ne.symm hb)).trans hu) ⟨_,q⟩ ?_
 exact ⟨hz,its',_,hv,q⟩
theorem Inv.lnew {its:List Value} {t':Nat} (I:Inv X pins σ H s) (hv:Vals ys its) (hz:ys.length <= sizeLine) :
  Inv X pins σ (upd H s.heap.objs.size (.lst ys)) { s with heap:=s.heap.push { cls:=.type "list",data:=.seq its.toArray },toks:=t' }:=
 I.laid (fun _ _ q=>Heap.get?_push_of_some _ q) (Nat.le_refl _) ⟨hz,its,0,hv,Heap.get?_push_size _ rfl⟩
theorem Inv.fresh (I:Inv X pins σ H s):H s.heap.objs.size = none:=I.hok.fresh (Nat.le_refl _)
theorem Inv.lstM (I:Inv X pins σ H s) (hH:H l = some (.lst xs)):xs.length <= sizeLine /\ ∃ (its:List Value) (n:Nat),Vals xs its /\ xs.length = its.length /\ s.heap.get? l = some { cls:=.type "list",data:=.seq its.toArray n }:=by
 obtain ⟨z,its,n,r,e⟩:=I.hok l _ hH
 exact ⟨z,its,n,r,r.length,e⟩
theorem FP {n:Nat} (h:n <= sizeLine):Builtin.List.listTooLong n = false:=by
 unfold Builtin.List.listTooLong
 exact decide_eq_false (by lia)
end
section
variable {X:Cx}
def rAppend:V -> List V -> Hp -> VK -> Prop:=fun x vs H Q=>∃ l xs y,x = .ref l /\ vs = [y] /\ H l = some (.lst xs) /\ xs.length < sizeLine /\ Q .non (upd H l (.lst (xs ++ [y])))
theorem cW:MtM X "list.append" rAppend:=by
 intro pins s σ H x vs v us Q I rx rv h
 obtain ⟨l,xs,y,rfl,rfl,hH,hz,q⟩:=h
 cases rx
 obtain ⟨u,rfl,ru⟩:=rv.one
 obtain ⟨z,its,n,r,hl,e⟩:=I.lstM hH
 refine call_meets F.slot_list_append ⟨_,e,rfl⟩ F.entry_list_append (F.args_list_append_2 _ _) (PySem.list_append l its.toArray n u (by rw [List.size_toArray];lia)) ⟨e,?_⟩
 refine ⟨.non,_,I.lset (its':=its ++ [u]) hH e (by simp) (r.append (.cons ru .nil)) ?_,rfl,q⟩
 rw [List.length_append,List.length_singleton]
 lia
end
section
variable {prog:Program} {w:World} {A:Around} {E:Value -> Shared -> Prop} {s:Shared}
end
section
variable {X:Cx}
end
end L2
namespace Att
open PySem PySem.W PySem.Calls PyProof.Rows
theorem sE {P:Params} {h:Heap}:∀ (ns:List Int) (vs:List Value),WellAll P h vs (ns.map WData.int) -> IntsAre vs ns:=by
 intro ns
 induction ns with
 | nil=>
  intro vs w
  rw [List.map_nil] at w
  cases w
  exact .nil
 | cons n ns ih=>
  intro vs w
  rw [List.map_cons] at w
  cases w with
  | cons a b=>
   cases a
   exact .cons _ _ (ih _ b)
theorem CU {l:OpenLaw} {n:Nat} (hn:l.most = some n) {P:Params} {h:Heap} {args:List WData} {vals:List Value}
  (hpre:l.row.toRowW.claim.pre args = true) (hwl:WellAll P h vals args) :
  ∃ a vs ns,vals = [Value.ref a] /\ args = [WData.list (ns.map WData.int)] /\ h.get? a = some { cls:=.type "list",data:=.seq vs.toArray } /\ IntsAre vs ns /\ ns.length <= n:=by
 have hsh:WShape.hasAll [] args [.list .int] = true:=(pre_splitW hpre).1
 have hc:l.pre.holds [] { args:=args } = true:=(pre_splitW hpre).2
 obtain ⟨d,r,rfl,h1,h2⟩:=hasAllW_cons hsh
 obtain rfl:=hasAllW_nil h2
 obtain ⟨xs,rfl,h3⟩:=hasW_list h1
 obtain ⟨ns,rfl⟩:=items_int h3
 have hlen:ns.length <= n:=by
  unfold OpenLaw.pre at hc
  have h4:(WTm.not (.lt (.lit (.int (n:Int))) (.len (.arg 0)))).holds [] { args:=[.list (ns.map .int)] } = true:=by
   have h4:=(holds_andW hc).1
   rw [hn] at h4
   exact h4
  have h5:=condW_of h4 (w_not (w_lt w_lit (w_len_list (w_arg rfl))))
  rw [List.length_map] at h5
  refine Nat.le_of_not_lt fun q=>?_
  have q':(n:Int) < ((ns.length:Nat):Int):=by omega
  first
   | (rw [decide_eq_true q'] at h5;exact absurd h5 (by decide))
   | (simp at h5;omega)
 cases hwl with
 | cons w1 w2=>
  cases w2
  cases w1 with
  | list ho hall=>exact ⟨_,_,ns,rfl,rfl,ho,sE ns _ hall,hlen⟩
theorem CW (l:OpenLaw) (args:List WData):l.row.toRowW.claim.post args (.bool true) args = true:=
 postW_of (r:=l.row.toRowW) (X:=(true == true))
  (show WShape.has [] (.bool true) .bool = true by first | rfl | decide | simp [WShape.has,WShape.arms,WShape.armsAll])
  (show (WTm.eq .res (.lit (.bool true))).value [] { args:=args,res:=some (.bool true),after:=args } = some (.bool (true == true)) from w_eq_bool (w_res rfl) w_lit) rfl
theorem y3 {l:OpenLaw} {n:Nat} {q:Program} {loose:List Str} {XP:(Str -> Option Value) -> Heap -> Prop} {YP:World -> Heap -> Prop} {d:DefRec}
  (hn:l.most = some n) (hdf:d.params.defaults = [])
  (call:∀ (w:World) (s₀ s₁:Shared) (mg mb:Str -> Option Value) (fa:Addr) (o:Obj) (pm cd doc:Value) (a:Addr) (vs:List Value) (ns:List Int),
   Ground q loose [] XP w s₀ mg mb s₁.heap -> YP w s₁.heap ->
   s₁.heap.get? fa = some o -> o.data = .func (docDef d.name d.params d.body d.scope pm cd doc) -> s₁.heap.CodeRec cd d.name -> mg d.name = some (.ref fa) ->
   s₁.heap.get? a = some { cls:=.type "list",data:=.seq vs.toArray } -> IntsAre vs ns -> ns.length <= n -> s₁.gens = #[] ->
   codeAny (model l.prog w) callerA (.call (.ref fa) ⟨[.ref a],[]⟩) (fun r s'=>r = .ok (.ret (.bool true)) /\ OldK s₁.heap s'.heap /\ s'.os = s₁.os /\ AllBare s'.gens) s₁) :
  WalkO q loose XP YP l.row.toRowW d [] (fun f vs=>PySem.call f vs):=by
 intro w s₀ s₁ mg mb G Y fa o pm cd doc dV kV ho hd hcd hD hmg hg args vals as hpre hlay hrd hwl hlo
 obtain rfl:dV = .none:=Dflts.none hD hdf
 obtain rfl:kV = .none:=Dflts.noKw hD
 obtain ⟨a,vs,ns,rfl,rfl,hobj,hints,hlen⟩:=CU hn hpre hwl
 refine enter_call (codeAny_mono (call w s₀ s₁ mg mb fa o pm cd doc a vs ns G Y ho (fd_plain hd) hcd hmg hobj hints hlen hg) fun r s' hq=>?_)
 obtain ⟨rfl,h2,h3,h4⟩:=hq
 exact ⟨.inl ⟨.bool true,.bool true,[],rfl,fun _=>rfl,.bool true,CW l _,fun _=>⟨List.Pairwise.nil,fun _ hm=>(nomatch hm)⟩⟩,h2,h3,h4⟩
section
variable {prog:Program} {w:World} {A:Around} {E:Value -> Shared -> Prop} {s:Shared} {K:Frag}
end
end Att
namespace L2
open PySem PySem.Spec PyProof.Rows
theorem wz:∀ {vs:List Value} {ns:List Int},IntsAre vs ns -> Vals (ns.map V.int) vs
 | _,_,.nil=>.nil
 | _,_,.cons n t h=>.cons ⟨t,rfl⟩ (wz h)
def Ic (H:Hp):Prop:=∀ b,H b = none \/ ∃ o xs,H b = some (.frz o (.lst xs))
theorem Eo {P:Program} {w:World} {K:W.Frag} {mg mb:Str -> Option Value} {CX:CXT} {k:Nat} {fa a:Addr} {fd:FuncData} {x:Str} {sp:Sp} {s₁:Shared} {vs:List Value} {ns:List Int}
  (KX:K.In s₁.heap) (hns:s₁.heap.Ns mainGlobals mg) (hb:s₁.heap.Ns builtinsNs mb) (hbb:∀ x:Str,x ≠ "__name__" -> mb x = bootBuiltins x) (hlim:s₁.heap.NoLimit) (hg:s₁.gens = #[])
  (ha:s₁.heap.get? a = some { cls:=.type "list",data:=.seq vs.toArray }) (hi:IntsAre vs ns) (hl:ns.length <= sizeLine) (hr:Room k callerA)
  (F:∀ base:Heap,K.In base -> base.Ns mainGlobals mg -> FnOk P w K mg base CX k fa fd [x] sp) (hbind:∀ (s:Shared) (u:Value),BindsTo s fd ⟨[u],[]⟩ [(x,u)])
  (hsp:∀ H:Hp,Ic H -> SqL K H a (ns.map V.int) -> sp [.ref a] H (fun v _=>v = .bl true) fun _ _ _=>False)
  (hCX:∀ H e s',CX [] H s₁ (fun _ _ _=>False) e s' -> False) :
  codeAny (model P w) callerA (.call (.ref fa) ⟨[.ref a],[]⟩) (fun r s'=>r = .ok (.ret (.bool true)) /\ OldK s₁.heap s'.heap /\ s'.os = s₁.os /\ AllBare s'.gens) s₁:=by
 have rv:=wz hi
 have lenV:=hi.length
 -- from an abstract heap in which nothing but the script may be tracked
 have core:∀ H:Hp,Ic H -> SqL K H a (ns.map V.int) -> HOk P w H s₁.heap -> (∀ b,H b ≠ none -> b = a) -> (H a ≠ none -> K.lookup a = none) ->
   codeAny (model P w) callerA (.call (.ref fa) ⟨[.ref a],[]⟩) (fun r s'=>r = .ok (.ret (.bool true)) /\ OldK s₁.heap s'.heap /\ s'.os = s₁.os /\ AllBare s'.gens) s₁:=by
  intro H hO hS hok hA hK
  have base_of:∀ {b:Addr} {o:Obj},s₁.heap.get? b = some o -> H b = none -> (yn s₁.heap H).get? b = some o:=fun e n=>Fe e n
  have noA:∀ {b:Addr} {o:Obj} {es:Array DictEntry} {ep:Nat},s₁.heap.get? b = some o -> o.data = .dict es ep -> H b = none:=fun {b o es ep} e d=>by
   cases q:H b with
   | none=>rfl
   | some u=>
    have e':b = a:=hA b (by rw [q];simp)
    subst e'
    rw [ha] at e;cases e
    have d':Data.seq vs.toArray _ = Data.dict es ep:=d
    cases d'
  have nsK:∀ {b:Addr} {m:Str -> Option Value},s₁.heap.Ns b m -> (yn s₁.heap H).Ns b m:=fun {b m} ⟨o,es,ep,e,d,r⟩=>⟨o,es,ep,base_of e (noA e d),d,r⟩
  have hKb:K.In (yn s₁.heap H):=fun b o e=>base_of (KX b o e) (by
   cases q:H b with
   | none=>rfl
   | some u=>
    have e':b = a:=hA b (by rw [q];simp)
    subst e'
    rw [hK (by rw [q];simp)] at e;cases e)
  have hM:Mod K mg (yn s₁.heap H):=⟨hKb,nsK hns,⟨mb,nsK hb,hbb⟩,let ⟨mc,h1,h2⟩:=hlim;⟨mc,nsK h1,h2⟩⟩
  have e0:Env0 P w K mg (yn s₁.heap H) callerA [] s₁ H:=⟨rfl,hM,fun b o e=>G5 e,Nat.le_of_eq (C7 _ _),trivial,fun b hb=>absurd (show b ∈ ([]:List Addr) from hb) (by simp),hok,.of_eq hg⟩
  refine codeAny_mono ((F _ hKb (nsK hns)).run callerA [] s₁ H ⟨[.ref a],[]⟩ [.ref a] [.ref a] _ _ hr e0 (hbind s₁ (.ref a)) (.cons rfl .nil) (hsp H hO hS)) fun r s' h=>?_
  cases r with
  | error e=>exact (hCX H e s' h).elim
  | ok fl=>
   cases fl with
   | next=>exact False.elim h
   | brk=>exact False.elim h
   | cont=>exact False.elim h
   | ret u=>
    obtain ⟨v,H',os,bare,un,hok',r',q⟩:=h
    have q':v = .bl true:=q
    subst q'
    obtain rfl:u = Value.bool true:=r'
    refine ⟨rfl,OldK.of_keep fun b o e=>?_,os,bare⟩
    cases q:H b with
    | none=>exact un.keep b o e q (by intro z;exact absurd (show b ∈ ([]:List Addr) from z) (by simp)) (by simp)
    | some u=>
     rcases hO b with z | ⟨ob,xs,z⟩
     ·rw [q] at z;cases z
     ·have z2:=un.frzs b ob _ z
      obtain ⟨e1,_⟩:=hok b _ z
      obtain ⟨e2,_⟩:=hok' b _ z2
      rw [e] at e1;cases e1
      exact e2
 cases hk:K.lookup a with
 | some o=>
  -- the script is one of the module's own objects
  have e:=KX a o hk
  rw [ha] at e
  cases e
  refine core (fun _=>none) (fun _=>.inl rfl) (.inr ⟨_,vs.toArray,_,hk,rfl,rfl,rfl,by rw [List.size_toArray,lenV];exact hl,by simpa using rv⟩) (fun b u z=>by have z':(none:Option HO) = some u:=z;cases z') (fun b z=>absurd rfl z) fun z=>absurd rfl z
 | none=>
  refine core (fun b=>if b = a then some (.frz { cls:=.type "list",data:=.seq vs.toArray } (.lst (ns.map V.int))) else none) (fun b=>?_) (.inl (.inr ⟨{ cls:=.type "list",data:=.seq vs.toArray },if_pos rfl⟩)) (fun b u z=>?_) (fun b z=>?_) fun _=>hk
  ·by_cases hb:b = a
   ·exact .inr ⟨_,_,if_pos hb⟩
   ·exact .inl (if_neg hb)
  ·by_cases hb:b = a
   ·have z':=(if_pos hb).symm.trans z
    cases z'
    subst hb
    exact ⟨ha,by rw [List.length_map];exact hl,vs,_,rv,ha⟩
   ·have z':=(if_neg hb).symm.trans z
    cases z'
  ·by_cases hb:b = a
   ·exact hb
   ·exact absurd (if_neg hb) z
theorem GE {l:W.OpenLaw} {n k:Nat} {q:Program} {loose:List Str} {XP:(Str -> Option Value) -> Heap -> Prop} {YP:World -> Heap -> Prop} {d:DefRec} {K:Params -> W.Frag} {CX:World -> CXT} {sp:World -> Sp} {x:Str}
  (hn:l.most = some n) (hn2:n <= sizeLine) (hdf:d.params.defaults = []) (hr:Room k callerA)
  (hY:∀ (w:World) (h:Heap),YP w h -> (K w.params).In h)
  (F:∀ (w:World) (mg:Str -> Option Value) (fa:Addr) (h:Heap),(K w.params).In h -> h.Ns mainGlobals mg -> mg d.name = some (.ref fa) ->
   ∃ fd:FuncData,(∀ (s:Shared) (u:Value),BindsTo s fd ⟨[u],[]⟩ [(x,u)]) /\
    ∀ base:Heap,(K w.params).In base -> base.Ns mainGlobals mg -> FnOk l.prog w (K w.params) mg base (CX w) k fa fd [x] (sp w))
  (hsp:∀ (w:World) (H:Hp) (a:Addr) (ns:List Int),ns.length <= n -> Ic H -> SqL (K w.params) H a (ns.map V.int) -> sp w [.ref a] H (fun v _=>v = .bl true) fun _ _ _=>False)
  (hCX:∀ (w:World) (H:Hp) (s:Shared) (e:Value) (s':Shared),CX w [] H s (fun _ _ _=>False) e s' -> False) :
  W.WalkO q loose XP YP l.row.toRowW d [] (fun f vs=>PySem.call f vs):=by
 refine Att.y3 hn hdf fun w s₀ s₁ mg mb fa o pm cd doc a vs ns G Y ho hd hcd hmg hobj hints hlen hg=>?_
 have KX:=hY w _ Y
 obtain ⟨fd,hb,hF⟩:=F w mg fa _ KX G.T.g hmg
 exact Eo KX G.T.g G.T.b G.T.builtins G.T.nolimit hg hobj hints (Nat.le_trans hlen hn2) hr hF hb (fun H hO hS=>hsp w H a ns hlen hO hS) fun H e s'=>hCX w H s₁ e s'
def jI (s:Stmt) (j:Nat):Stmt:=match s with
 | .ClassDef _ _ _ body _ _ _ _ _ _ _=>body.getD j (.Pass ⟨0,0,0,0⟩)
 | _=>.Pass ⟨0,0,0,0⟩
def sW (s:Stmt):Arguments:=match s with
 | .FunctionDef _ a _ _ _ _ _ _ _ _=>a
 | _=>{ posonlyargs:=[],args:=[],vararg:=none,kwonlyargs:=[],kw_defaults:=[],kwarg:=none,defaults:=[] }
def mJ (s:Stmt):List Stmt:=match s with
 | .FunctionDef _ _ b _ _ _ _ _ _ _=>b
 | _=>[]
def aK (s:Stmt):Scope:=match s with
 | .FunctionDef _ _ _ _ _ _ sc _ _ _=>sc
 | _=>{ kind:=.function,names:=[],isGenerator:=false,isCoroutine:=false }
abbrev CX0:CXT:=fun _ _ _ _ _ _=>False
abbrev E0:XK:=fun _ _ _=>False
theorem eo {X:Cx}:kB CX0 X E0:=fun _ _ _ _ _ _ _ h=>h.elim
structure Fun (K:W.Frag) (x qual:Str) (st:Stmt) (f:Addr) (fd:FuncData):Prop where
 ex:∃ (oc:Value) (od:Option Addr) (kV doc pm:Value) (an:Option Addr) (cdv ct:Value) (osl:Array (Option Value)),
  fd = W.fnOf x qual (sW st) (mJ st) (aK st) .none kV doc pm an cdv ct /\ K.lookup f = some ⟨oc,od,.func fd,osl⟩ /\ W.codeIn K cdv qual = true
 kp:W.keepIn K (.ref f) = true
section
variable {P:Program} {w:World} {K:W.Frag} {mg:Str -> Option Value} {base:Heap}
theorem Fun.ok {x qual:Str} {st:Stmt} {f:Addr} {fd:FuncData} {N ps:List Str} {k:Nat} {sp:Sp} (F:Fun K x qual st f fd) (S:FnScope N ps (aK st)) (len:∀ vs H Q E,sp vs H Q E -> vs.length = ps.length)
  (hbody:∀ (cdv:Value) (A:Around) (outer:List Env) (s:Shared) (H:Hp) (vs:List V) (Q:VK) (E:XK),Room k (A.deeper (envOfC qual (aK st) s.heap.objs.size f cdv)) -> sp vs H Q E ->
   ∃ t,PSs (AW CX0 P w K mg base N qual (aK st) f cdv A outer s H E).nox (mJ st) t /\ t { nx:=fun _ H'=>Q .non H',rt:=Q } (bd N vs) H):FnOk P w K mg base CX0 (k + 1) f fd ps sp:=by
 obtain ⟨oc,od,kV,doc,pm,an,cdv,ct,osl,rfl,lk,hcd⟩:=F.ex
 refine Kj lk hcd S len fun A outer s H vs Q E hr hsp=>?_
 obtain ⟨t,h,q⟩:=hbody cdv A outer s H vs Q E hr hsp
 exact ⟨t,h.nox,q⟩
theorem Fun.binds {x qual:Str} {st:Stmt} {f:Addr} {fd:FuncData} {ps:List Str} (F:Fun K x qual st f fd)
  (h:∀ (kV doc pm:Value) (an:Option Addr) (cdv ct:Value) (us:List Value),us.length = ps.length -> bindArgs (W.fnOf x qual (sW st) (mJ st) (aK st) .none kV doc pm an cdv ct) ⟨us,[]⟩ = pure (ps.zip us)):Binds K fd ps []:=by
 obtain ⟨oc,od,kV,doc,pm,an,cdv,ct,osl,rfl,lk,hcd⟩:=F.ex
 exact .all (h kV doc pm an cdv ct)
theorem IB {x qual:Str} {st:Stmt} {f:Addr} {oc:Value} {od an:Option Addr} {osl:Array (Option Value)} {kV doc pm cdv ct:Value} (l:K.lookup f = some ⟨oc,od,.func (W.fnOf x qual (sW st) (mJ st) (aK st) .none kV doc pm an cdv ct),osl⟩)
  (c:W.codeIn K cdv qual = true) (k:W.keepIn K (.ref f) = true):Fun K x qual st f (W.fnOf x qual (sW st) (mJ st) (aK st) .none kV doc pm an cdv ct):=⟨⟨oc,od,kV,doc,pm,an,cdv,ct,osl,rfl,l,c⟩,k⟩
end
section
variable {X:Cx}
theorem pv (i:Nat) {x:Str} {pos:Pos} (hN:X.N[i]? = some x:=by rfl) (hv:Vis X.env.scope x:=by first | exact Or.inl rfl | exact Or.inr (.inl rfl) | exact Or.inr (.inr rfl)) (hd:(x == ("__debug__" : Str)) = false:=by decide)
  (hcd:(x == ("__classdict__" : Str)) = false:=by decide):PE X (.Name x pos) (sw i):=Jp hN hv hd hcd
end
theorem Dz {A B:Prop} (h:B):if false = true then A else B:=by
 rw [if_neg Bool.false_ne_true]
 exact h
theorem DY {A B:Prop} (h:A):if true = true then A else B:=by
 rw [if_pos rfl]
 exact h
def Same (H H':Hp):Prop:=∀ b o,H b = some o -> H' b = some o
theorem Same.refl (H:Hp):Same H H:=fun _ _ h=>h
theorem Same.trans {H H1 H2:Hp} (a:Same H H1) (b:Same H1 H2):Same H H2:=fun c o h=>b c o (a c o h)
theorem Same.free {H H':Hp} (e:Same H H') {l:Addr} (h:H' l = Option.none):H l = Option.none:=by
 cases q:H l with
 | none=>rfl
 | some o=>
  rw [e l o q] at h
  cases h
end L2
set_option linter.all false
set_option maxHeartbeats 4000000
set_option maxRecDepth 100000
namespace L2
open PySem PySem.Spec PyProof.Rows
structure CmpOk (XN:List Str) (sc scope:Scope) (N:List Str) (js:List (Option Nat)):Prop where
 kind:scope.kind = .function
 cell:∀ y ∈ scope.names,y.2 ≠ .cell
 free:∀ y ∈ scope.names,y.2 = .free -> sc.names.lookup y.1 = some .cell \/ sc.names.lookup y.1 = some .free
 loc:∀ y ∈ scope.names,y.2 = .local -> scope.names.lookup y.1 = some .local
 len:js.length = N.length
 ix:((N.zip js).all fun p=>match p.2 with | none=>true | some j=>decide (XN[j]? = some p.1) && decide (scope.names.lookup p.1 = some .free)) = true
def gC (env:Env):List (Str × NameKind) -> List (Str × Addr) -> List (Str × Addr)
 | [],cs=>cs
 | (n,k) :: r,cs=>gC env r (if k = .free then (match env.cells.lookup n with | some c=>(n,c) :: cs | none=>cs) else cs)
theorem uc {env:Env}:∀ {names:List (Str × NameKind)} {cs:List (Str × Addr)},(∀ n c,cs.lookup n = some c -> env.cells.lookup n = some c) -> ∀ n c,(gC env names cs).lookup n = some c -> env.cells.lookup n = some c
 | [],_,h=>h
 | (m,k) :: r,cs,h=>by
  unfold gC
  refine uc ?_
  split
  ·cases e:env.cells.lookup m with
   | none=>exact h
   | some d=>
    intro n c hn
    dsimp only at hn
    rw [List.lookup_cons] at hn
    cases q:n == m with
    | true=>
     rw [q] at hn
     have e1:n = m:=by simpa using q
     cases hn
     rw [e1];exact e
    | false=>rw [q] at hn;exact h n c hn
  ·exact h
theorem uZ {env:Env}:∀ {names:List (Str × NameKind)} {cs:List (Str × Addr)} {n:Str},((n,NameKind.free) ∈ names /\ (∃ c,env.cells.lookup n = some c)) \/ (∃ c,cs.lookup n = some c) -> ∃ c,(gC env names cs).lookup n = some c
 | [],_,_,h=>h.elim (fun z=>by cases z.1) id
 | (m,k) :: r,cs,n,h=>by
  unfold gC
  refine uZ ?_
  rcases h with ⟨hm,c,hc⟩ | ⟨c,hc⟩
  ·rcases List.mem_cons.mp hm with e | hm
   ·cases e
    right
    rw [if_pos rfl,hc]
    exact ⟨c,by rw [List.lookup_cons];simp⟩
   ·exact .inl ⟨hm,c,hc⟩
  ·right
   split
   ·cases e:env.cells.lookup m with
    | none=>exact ⟨c,hc⟩
    | some d=>
     dsimp only
     rw [List.lookup_cons]
     cases q:n == m with
     | true=>exact ⟨d,rfl⟩
     | false=>exact ⟨c,hc⟩
   ·exact ⟨c,hc⟩
theorem nW {env:Env} {scope:Scope} (h:∀ y ∈ scope.names,y.2 = .free -> ∃ c,env.cells.lookup y.1 = some c):closureFor scope env = pure (gC env scope.names []):=by
 have key:∀ (names:List (Str × NameKind)) (cs:List (Str × Addr)),(∀ y ∈ names,y.2 = .free -> ∃ c,env.cells.lookup y.1 = some c) ->
   (forIn names cs (fun (x:Str × NameKind) r=>if (x.2 == NameKind.free) = true then (do let a ← cellOf env x.1;pure (ForInStep.yield ((x.1,a) :: r))) else pure (ForInStep.yield r)):Sem (List (Str × Addr))) = pure (gC env names cs):=by
  intro names
  induction names with
  | nil=>intro cs _;rfl
  | cons y r ih=>
   intro cs hy
   obtain ⟨n,k⟩:=y
   rw [List.forIn_cons]
   unfold gC
   by_cases hk:k = .free
   ·subst hk
    obtain ⟨c,hc⟩:=hy _ List.mem_cons_self rfl
    have e1:cellOf env n = pure c:=by unfold cellOf;rw [hc]
    rw [if_pos (by rfl)]
    rw [if_pos rfl,hc]
    show ((cellOf env n >>= fun a=>pure (ForInStep.yield ((n,a) :: cs))) >>= _) = _
    rw [e1]
    exact ih _ fun z hz=>hy z (List.mem_cons_of_mem _ hz)
   ·have hb:(k == NameKind.free) = false:=by simpa using hk
    rw [if_neg (by rw [hb];decide),if_neg hk]
    exact ih _ fun z hz=>hy z (List.mem_cons_of_mem _ hz)
 have k:=key scope.names [] h
 unfold closureFor
 show (forIn scope.names ([]:List (Str × Addr)) _ >>= fun cs=>pure cs) = _
 refine Eq.trans (congrArg (fun t=>t >>= fun cs=>pure cs) (Eq.trans ?_ k)) rfl
 congr 1
theorem nQ {env:Env}:∀ {names:List (Str × NameKind)} {x:Str},names.lookup x = some .free ->
  (names.map fun (n,k)=>if (k == NameKind.free && env.scope.kind == .function && env.kindOf n == some .cell) then (n,NameKind.cell) else (n,k)).lookup x = some .cell \/
  (names.map fun (n,k)=>if (k == NameKind.free && env.scope.kind == .function && env.kindOf n == some .cell) then (n,NameKind.cell) else (n,k)).lookup x = some .free
 | [],_,h=>by simp at h
 | (n,k) :: r,x,h=>by
  have ih:=@nQ env r x
  rw [List.map_cons]
  dsimp only
  cases q:x == n with
  | true=>
   rw [List.lookup_cons,q] at h
   cases h
   split
   ·left;rw [List.lookup_cons,q]
   ·right;rw [List.lookup_cons,q]
  | false=>
   rw [List.lookup_cons,q] at h
   split
   ·rw [List.lookup_cons,q];exact ih h
   ·rw [List.lookup_cons,q];exact ih h
theorem nJ {env:Env}:∀ {names:List (Str × NameKind)} {x:Str} {j:NameKind},(∀ y ∈ names,y.2 ≠ .cell) -> (j = .cell \/ j = .free) ->
  (names.map fun (n,k)=>if (k == NameKind.free && env.scope.kind == .function && env.kindOf n == some .cell) then (n,NameKind.cell) else (n,k)).lookup x = some j -> (x,NameKind.free) ∈ names
 | [],_,_,_,_,h=>by simp at h
 | (n,k) :: r,x,j,hc,hj,h=>by
  have ih:=@nJ env r x j (fun y hy=>hc y (List.mem_cons_of_mem _ hy)) hj
  rw [List.map_cons] at h
  dsimp only at h
  cases q:x == n with
  | true=>
   have e:x = n:=by simpa using q
   subst e
   split at h
   ·rename_i g
    have:k = .free:=by
     simp only [Bool.and_eq_true,beq_iff_eq] at g
     exact g.1.1
    subst this
    exact List.mem_cons_self
   ·rw [List.lookup_cons,q] at h
    cases h
    rcases hj with z | z
    ·exact absurd z (hc _ List.mem_cons_self)
    ·rw [z];exact List.mem_cons_self
  | false=>
   refine List.mem_cons_of_mem _ (ih ?_)
   split at h
   ·rw [List.lookup_cons,q] at h;exact h
   ·rw [List.lookup_cons,q] at h;exact h
def inn (js:List (Option Nat)) (σ:St):St:=js.map fun o=>match o with | none=>none | some j=>(σ[j]?).join
structure CxZ where
 cl:List (Str × Addr)
 C:Addr
 s:Shared
 H:Hp
 fp:List Addr
 pins:List (Addr × Obj)
def cxC (X:Cx) (N:List Str) (scope:Scope) (z:CxZ):Cx where
 prog:=X.prog
 w:=X.w
 K:=X.K
 mg:=X.mg
 base:=X.base
 A:=X.A
 N:=N
 s₀:=z.s
 H₀:=z.H
 env:=compEnvC scope z.cl z.C X.env
 outer:=X.stack
 stack:=X.stack
 ex:=z.fp
 fn:=fun _=>false
 calm:=X.calm
 pn:=X.pn ++ z.pins
 xe:=fun _ _=>False
section
variable {X:Cx} {pins:List (Addr × Obj)} {σ:St} {H:Hp} {s:Shared} {XN N:List Str} {sc scope:Scope} {js:List (Option Nat)}
theorem Ea {h1:Heap} {m:Str -> Option Value} {tk:Nat} {fp:List Addr} (ck:CmpOk XN sc scope N js) (hXN:X.N = XN) (hsc:X.env.scope = sc) (I:Inv X pins σ H s) (hf:∀ b ∈ fp,pU X pins H b)
  (hfo:∀ b ∈ fp,b < s.heap.objs.size) (hn:h1.Ns s.heap.objs.size m) (hk:∀ b o,s.heap.get? b = some o -> h1.get? b = some o) :
  Inv (cxC X N scope ⟨gC X.env scope.names [],s.heap.objs.size,s,H,fp,pins⟩) [] (inn js σ) H { s with heap:=h1,toks:=tk }:=by
 subst hXN hsc
 have sub:∀ n c,(gC X.env scope.names []).lookup n = some c -> X.env.cells.lookup n = some c:=uc fun n c h=>by simp at h
 have clt:∀ n c,(gC X.env scope.names []).lookup n = some c -> c < s.heap.objs.size:=fun n c h=>by
  obtain ⟨v,q⟩:=I.cell n c (sub n c h)
  exact q.lt
 have has:∀ x,(x,NameKind.free) ∈ scope.names -> ∃ c,(gC X.env scope.names []).lookup x = some c:=fun x hx=>
  uZ (.inl ⟨hx,I.ok.has x (ck.free _ hx rfl)⟩)
 refine ⟨⟨I.ok.mod,ck.kind,I.ok.glob,I.ok.blt,Nat.le_refl _,fun x y c h1 h2=>I.ok.inj x y c (sub x c h1) (sub y c h2),fun x hx=>?has,fun x c hx=>?cab,I.ok.hd,I.ok.frames,.inl rfl,fun b hb=>?exf,I.bs,?bsz,fun b o e hb=>?noex,fun b hb=>?exfs,I.stack,I.stkFree⟩,
  rfl,I.bare,Un.kept hk,⟨m,hn,fun i x v h1 h2 h3=>?loc⟩,fun x c h=>?cell,I.hok.fresh (Nat.le_refl _),fun x c h=>I.freeC x c (sub x c h),fun p hp=>?pin,I.hok.kept hk,?len⟩
 case has=>
  rcases hx with hx | hx
  ·exact has x (nJ ck.cell (.inl rfl) hx)
  ·exact has x (nJ ck.cell (.inr rfl) hx)
 case cab=>cases hx
 case exf=>
  obtain ⟨f0,f1,f2,f3,f4,f5⟩:=hf b hb
  exact ⟨Nat.ne_of_lt (hfo b hb),fun x c e=>f4 x c (sub x c e)⟩
 case bsz=>exact Nat.le_trans I.ok.bsz I.sz
 case noex=>
  obtain ⟨f0,f1,f2,f3,f4,f5⟩:=hf b hb
  rcases f3 with f3 | f3
  ·exact I.ok.noex b o e f3
  ·exact absurd (Nat.lt_of_lt_of_le (Heap.lt_size e) (Nat.le_trans I.ok.bsz f3)) (Nat.lt_irrefl _)
 case exfs=>
  obtain ⟨f0,f1,f2,f3,f4,f5⟩:=hf b hb
  intro z
  rcases List.mem_cons.mp (I.stkSub b z) with e | e
  ·exact f1 e
  ·exact f2 e
 case loc=>
  have hl:N.length = js.length:=ck.len.symm
  have hi:i < js.length:=by
   have:=(List.getElem?_eq_some_iff.mp h1).1
   have e:(cxC X N scope ⟨gC X.env scope.names [],s.heap.objs.size,s,H,fp,pins⟩).N = N:=rfl
   rw [e] at this
   lia
  have hN:N[i]? = some x:=h1
  have hj:js[i]? = some js[i]:=List.getElem?_eq_getElem hi
  unfold inn at h2
  rw [List.getElem?_map,hj] at h2
  cases q:js[i] with
  | none=>rw [q] at h2;cases h2
  | some j=>
   rw [q] at h2 hj
   have h2':(σ[j]?).join = some v:=Option.some.inj h2
   have hσ:σ[j]? = some (some v):=by
    cases e:σ[j]? with
    | none=>rw [e] at h2';cases h2'
    | some o=>rw [e] at h2';exact congrArg some h2'
   have hm:(x,some j) ∈ N.zip js:=by
    refine List.mem_of_getElem? (i:=i) ?_
    rw [List.getElem?_zip_eq_some]
    exact ⟨hN,hj⟩
   have hc:=List.all_eq_true.mp ck.ix _ hm
   simp only [Bool.and_eq_true,decide_eq_true_eq] at hc
   obtain ⟨c1,c2⟩:=hc
   have hfr:(x,NameKind.free) ∈ scope.names:=PySem.mem_of_lookup c2
   have hvis:X.env.scope.names.lookup x = some .cell \/ X.env.scope.names.lookup x = some .free:=ck.free _ hfr rfl
   obtain ⟨m0,hn0,hl0⟩:=I.loc
   obtain ⟨u,r,l⟩:=hl0 j x v c1 hσ (hvis.elim (fun z=>.inr (.inl z)) fun z=>.inr (.inr z))
   refine ⟨u,r,.inr ⟨?_,?_⟩⟩
   ·exact nQ c2
   ·rcases l with ⟨k1,_⟩ | ⟨_,c,k1,k2⟩
    ·have k1':X.env.scope.names.lookup x = some .local:=k1
     rcases hvis with z | z
     ·rw [z] at k1';cases k1'
     ·rw [z] at k1';cases k1'
    ·obtain ⟨c',hc'⟩:=has x hfr
     have e:=sub x c' hc'
     rw [k1] at e
     cases e
     obtain ⟨oc,ho,hd⟩:=k2
     exact ⟨c,hc',oc,hk _ _ ho,hd⟩
 case cell=>
  obtain ⟨v,oc,ho,hd⟩:=I.cell x c (sub x c h)
  exact ⟨v,oc,hk _ _ ho,hd⟩
 case pin=>
  have hp':p ∈ X.pn ++ pins:=by simpa [cxC] using hp
  obtain ⟨p1,p2,p3,p4,p5⟩:=I.pin p hp'
  refine ⟨hk _ _ p1,p2,Nat.ne_of_lt (Heap.lt_size p1),fun z=>?_,p5⟩
  rcases List.mem_cons.mp (I.stkSub _ z) with e | e
  ·exact p3 e
  ·exact p4 e
 case len=>
  show (inn js σ).length = N.length
  unfold inn
  rw [List.length_map]
  exact ck.len
abbrev TIf:=St -> Hp -> (Bool -> Hp -> Prop) -> Prop
def PIf (X:Cx) (ifs:List Expr) (t:TIf):Prop:=
 ∀ (pins:List (Addr × Obj)) (s:Shared) (σ:St) (H:Hp) (Q:Bool -> Hp -> Prop),Inv X pins σ H s -> t σ H Q ->
  wpAny (model X.prog X.w) X.A (forIn ifs true fun c r=>if r = true then do let ok ← isTrue c X.env (eval c X.env);pure (ForInStep.yield ok) else pure (ForInStep.yield r)) (TP X pins σ Q) X.xe s
def Hu:TIf:=fun _ H Q=>Q true H
theorem cI:PIf X [] Hu:=fun _ _ _ H _ I h=>wpAny_tests_nil ⟨H,I,h⟩
theorem pS {c:Expr} {t:TT} (h:PT X c t):PIf X [c] t:=fun pins s σ H Q I q=>wpAny_tests_one (h pins s σ H Q I q)
def Lev (σ σ':St):Prop:=σ.length = σ'.length /\ ∀ (i:Nat) (v:V),σ[i]? = some (some v) -> σ'[i]? = some (some v)
theorem Lev.refl (σ:St):Lev σ σ:=⟨rfl,fun _ _ h=>h⟩
def vJ (js:List (Option Nat)) (g:TG):Prop:=∀ (σ0:St) (v:V) (σ:St) (H:Hp) (Q:St -> Hp -> Prop),Lev (inn js σ0) σ -> g v σ H Q -> g v σ H fun σ' H'=>Lev (inn js σ0) σ' /\ Q σ' H'
def CB (js:List (Option Nat)) (g:TGs):Prop:=∀ (σ0:St) (vs:List V) (σ:St) (H:Hp) (Q:St -> Hp -> Prop),Lev (inn js σ0) σ -> g vs σ H Q -> g vs σ H fun σ' H'=>Lev (inn js σ0) σ' /\ Q σ' H'
theorem aN {i:Nat} (h:js[i]? = some none:=by rfl):vJ js (jW i):=fun σ0 v σ H Q l q=>by
 refine ⟨⟨?_,fun j u e=>?_⟩,q⟩
 ·rw [List.length_set];exact l.1
 ·by_cases hij:i = j
  ·subst hij
   unfold inn at e
   rw [List.getElem?_map,h] at e
   cases e
  ·rw [List.getElem?_set_ne hij]
   exact l.2 j u e
theorem cJ:CB js H9:=fun σ0 vs σ H Q l q=>⟨q.1,l,q.2⟩
theorem aL {t:TG} {u:TGs} (h:vJ js t) (k:CB js u) (mono:∀ v σ H (Q Q':St -> Hp -> Prop),(∀ a b,Q a b -> Q' a b) -> t v σ H Q -> t v σ H Q'):CB js (FZ t u):=fun σ0 vs σ H Q l q=>by
 obtain ⟨v,r,e,q⟩:=q
 exact ⟨v,r,e,mono _ _ _ _ _ (fun σ' H' z=>k σ0 r σ' H' Q z.1 z.2) (h σ0 v σ H _ l q)⟩
theorem aD {i:Nat}:∀ v σ H (Q Q':St -> Hp -> Prop),(∀ a b,Q a b -> Q' a b) -> jW i v σ H Q -> jW i v σ H Q':=fun _ _ _ _ _ h q=>h _ _ q
theorem eU {K:W.Frag} {n:Nat} {t:TGs} (h:CB js t):vJ js (Jc K n t):=fun σ0 v σ H Q l q=>by
 obtain ⟨a,xs,e,hq,hl,q⟩:=q
 exact ⟨a,xs,e,hq,hl,h σ0 xs σ H Q l q⟩
def CD (js:List (Option Nat)) (wi:TI) (g:TG) (tt:TIf) (te:TE):TE:=fun σ H Q=>wi σ H fun J H1=>∀ D,H1 D = none -> ∃ W:Nat -> Nat -> Hp -> Prop,(∃ m,W 0 m (upd H1 D (.lst []))) /\ ∀ i m H,W i m H ->
 (J.stop i H /\ Q (.ref D) H) \/ (J.go i H /\ ∀ x H',J.yld i H x H' -> g x (inn js σ) H' fun σ2 H2=>tt σ2 H2 fun b H3=>
  if b = true then te σ2 H3 fun y H4=>∃ ys,H4 D = some (.lst ys) /\ ys.length < sizeLine /\ ∃ m',m' < m /\ W (i + 1) m' (upd H4 D (.lst (ys ++ [y]))) else ∃ m',m' < m /\ W (i + 1) m' H3)
variable {tg iter elt:Expr} {ifs:List Expr} {pos:Pos} {wi:TI} {g:TG} {tt:TIf} {te:TE}
theorem DS {E:Value -> Shared -> Prop} {R:Result -> Shared -> Prop} {it D:Addr} {fp:List Addr} {tn:Nat -> Heap -> Prop} {J:It} {z:CxZ} {W:Nat -> Nat -> Hp -> Prop} {n:Nat}
  (hc:X.calm = true) (T:Turn X.prog X.w X.K tg J fp it tn) (hz:∀ b ∈ fp,∀ H',H' b = none -> pU (cxC X N scope z) [] H' b)
  (hg:PG (cxC X N scope z) tg g) (hs:vJ js g) (ht:PIf (cxC X N scope z) ifs tt) (he:PE (cxC X N scope z) elt te)
  (turn:∀ i m H,W i m H -> (J.stop i H /\ ∀ s',Inv (cxC X N scope z) [] (inn js σ) H s' -> R (.ok .next) s') \/ (J.go i H /\ ∀ x H',J.yld i H x H' -> g x (inn js σ) H' fun σ2 H2=>tt σ2 H2 fun b H3=>
   if b = true then te σ2 H3 fun y H4=>∃ ys,H4 D = some (.lst ys) /\ ys.length < sizeLine /\ ∃ m',m' < m /\ W (i + 1) m' (upd H4 D (.lst (ys ++ [y]))) else ∃ m',m' < m /\ W (i + 1) m' H3))
  {s1:Shared} {H1:Hp} (I1:Inv (cxC X N scope z) [] (inn js σ) H1 s1) (t1:tn 0 s1.heap) (f1:∀ b ∈ fp,H1 b = none) (w1:W 0 n H1) :
  codeAny (model X.prog X.w) X.A (.compLoop (.ListComp elt [⟨tg,iter,ifs,0⟩] scope pos) 0 (.ref it) (.ref D) (compEnvC scope z.cl z.C X.env)) R s1:=by
 refine codeAny_loop (c:=.compLoop (.ListComp elt [⟨tg,iter,ifs,0⟩] scope pos) 0 (.ref it) (.ref D) (compEnvC scope z.cl z.C X.env)) rfl
  (fun k s'=>∃ i H',Inv (cxC X N scope z) [] (inn js σ) H' s' /\ tn i s'.heap /\ (∀ b ∈ fp,H' b = none) /\ W i k H') ?_ n ⟨0,H1,I1,t1,f1,w1⟩
 rintro k s2 ⟨i,H2,I2,t2,f2,w2⟩
 show wpAny (model X.prog X.w) X.A ((compTurn (.ListComp elt [⟨tg,iter,ifs,0⟩] scope pos) 0 (.ref it) (.ref D) (compEnvC scope z.cl z.C X.env)).onRaise fun x=>do noteFrame x (compEnvC scope z.cl z.C X.env);theTreesLotGoes x) _ _ s2
 refine wpAny_noted ?_
 rw [compTurn_list]
 refine wpAny_bind (wpAny_standAt ?_)
 rcases turn i k H2 w2 with ⟨stop,fin⟩ | ⟨go,step⟩
 ·refine wpAny_bind (thn (T.done (cxC X N scope z) rfl rfl rfl hc i [] s2 (inn js σ) H2 _ I2 (fun b hb=>hz b hb H2 (f2 b hb)) t2 stop) fun r s3 h3=>?_)
  obtain ⟨rfl,I3⟩:=h3
  exact wpAny_pure (fin s3 I3)
 ·refine wpAny_bind (thn (T.item (cxC X N scope z) rfl rfl rfl hc i [] s2 (inn js σ) H2 _ I2 (fun b hb=>hz b hb H2 (f2 b hb)) t2 go) fun r s3 h3=>?_)
  obtain ⟨u,rfl,h3⟩:=h3
  refine wpAny_bind (thn h3 fun _ s4 h4=>?_)
  obtain ⟨x,H4,I4,r4,y4,t4,f4⟩:=h4
  have P4:=I4.pinned (fun b hb=>hz b hb H4 (f4 b hb)) (T.obj _ _ t4)
  have ff:∀ {e:Value} {s':Shared},(cxC X N scope z).xe e s' -> False:=fun h=>h
  refine wpAny_bind (wpAny_mono (hg _ s4 (inn js σ) H4 x u _ P4 r4 (hs σ x (inn js σ) H4 _ (Lev.refl _) (step x H4 y4))) (fun _ s5 h5=>?_) fun _ _ h=>(ff h).elim)
  obtain ⟨σ5,H5,I5,lev,q5⟩:=h5
  refine wpAny_bind (wpAny_mono (ht _ s5 σ5 H5 _ I5 q5) (fun ok s6 h6=>?_) fun _ _ h=>(ff h).elim)
  obtain ⟨H6,I6,q6⟩:=h6
  have again:∀ {s7:Shared} {H7:Hp},Inv (cxC X N scope z) ([] ++ qC fp s4.heap) σ5 H7 s7 -> (∃ m',m' < k /\ W (i + 1) m' H7) -> ∃ m,m < k /\ ∃ i H',Inv (cxC X N scope z) [] (inn js σ) H' s7 /\ tn i s7.heap /\ (∀ b ∈ fp,H' b = none) /\ W i m H':=fun {s7 H7} I7 h7=>by
   obtain ⟨m',hm,w7⟩:=h7
   refine ⟨m',hm,i + 1,H7,(I7.unpinned).weak lev.1 lev.2,T.keep _ _ _ t4 fun b hb o e=>(I7.pin (b,o) (List.mem_append_right _ (List.mem_append_right _ (gw hb e)))).1,fun b hb=>?_,w7⟩
   obtain ⟨o,e,d⟩:=T.obj _ _ t4 b hb
   exact (I7.pin (b,o) (List.mem_append_right _ (List.mem_append_right _ (gw hb e)))).2.1
  cases ok with
  | false=>
   rw [if_neg (by decide)] at q6
   exact wpAny_pure ⟨rfl,again I6 q6⟩
  | true=>
   rw [if_pos rfl] at q6
   refine wpAny_bind (wpAny_bind (wpAny_mono (he _ s6 σ5 H6 _ I6 q6) (fun y s7 h7=>?_) fun _ _ h=>(ff h).elim))
   obtain ⟨vy,H7,I7,r7,ys,hD,hl,q7⟩:=h7
   refine wpAny_bind (wpAny_mono (cW (X:=cxC X N scope z) _ s7 σ5 H7 (.ref D) [vy] (.ref D) [y] (fun _ H'=>∃ m',m' < k /\ W (i + 1) m' H') I7 rfl (.cons r7 .nil) ⟨D,ys,vy,rfl,rfl,hD,hl,q7⟩) (fun _ s8 h8=>?_) fun _ _ h=>(ff h).elim)
   obtain ⟨_,H8,I8,_,q8⟩:=h8
   exact wpAny_pure (wpAny_pure ⟨rfl,again I8 q8⟩)
theorem tH {E:Value -> Shared -> Prop} {RR:Value -> Addr -> Result -> Shared -> Prop} {Q:VK} {itv:Value} {s2:Shared} (ck:CmpOk XN sc scope N js) (hXN:X.N = XN) (hsc:X.env.scope = sc) (hc:X.calm = true)
  (hg:∀ z,PG (cxC X N scope z) tg g) (hs:vJ js g) (ht:∀ z,PIf (cxC X N scope z) ifs tt) (he:∀ z,PE (cxC X N scope z) elt te)
  (h2:PIE X pins σ tg (fun J H1=>∀ D,H1 D = none -> ∃ W:Nat -> Nat -> Hp -> Prop,(∃ m,W 0 m (upd H1 D (.lst []))) /\ ∀ i m H,W i m H ->
   (J.stop i H /\ Q (.ref D) H) \/ (J.go i H /\ ∀ x H',J.yld i H x H' -> g x (inn js σ) H' fun σ2 H2=>tt σ2 H2 fun b H3=>
    if b = true then te σ2 H3 fun y H4=>∃ ys,H4 D = some (.lst ys) /\ ys.length < sizeLine /\ ∃ m',m' < m /\ W (i + 1) m' (upd H4 D (.lst (ys ++ [y]))) else ∃ m',m' < m /\ W (i + 1) m' H3)) itv s2)
  (hRR:∀ D C s' H' m o,Inv X (pins ++ [(C,o)]) σ H' s' -> s'.heap.Ns C m -> (X.s₀.heap.objs.size <= C /\ C ≠ X.env.locals /\ (∀ x c,X.env.cells.lookup x = some c -> c ≠ C) /\ ∀ p ∈ X.pn ++ pins,p.1 ≠ C) -> H' C = none -> Q (.ref D) H' -> RR (.ref D) C (.ok .next) s') :
  wpAny (model X.prog X.w) X.A (newList []) (fun acc s₃=>wpAny (model X.prog X.w) X.A (newFunctionEnv scope X.env.globals (gC X.env scope.names []) [] X.env.qual none .none (some X.env)) (fun cenv s₄=>
   codeAny (model X.prog X.w) X.A (.compStart (.ListComp elt [⟨tg,iter,ifs,0⟩] scope pos) 0 itv acc { cenv with scope:=relabel scope X.env }) (RR acc cenv.locals) s₄) E s₃) E s2:=by
 obtain ⟨it,fp,tn,J,H2,rfl,I2,T,t2,f2,q2⟩:=h2
 have fo:∀ b ∈ fp,b < s2.heap.objs.size:=fun b hb=>by
  obtain ⟨o,e,_⟩:=T.obj _ _ t2 b hb
  exact Heap.lt_size e
 have hD:H2 s2.heap.objs.size = none:=I2.fresh
 obtain ⟨W,⟨n,w0⟩,turn⟩:=q2 _ hD
 refine wpAny_newObj_type (wpAny_newFunctionEnv ck.cell (by intro y hy;simp at hy) (fun h1 hns hsb=>?_) ck.kind)
 have I3:Inv X pins σ (upd H2 s2.heap.objs.size (.lst [])) { s2 with heap:=s2.heap.push { cls:=.type "list",data:=.seq ([]:List Value).toArray },toks:=s2.toks }:=I2.lnew (its:=[]) .nil (Nat.zero_le _)
 have f3:∀ b ∈ fp,pU X pins (upd H2 s2.heap.objs.size (.lst [])) b:=fun b hb=>by
  obtain ⟨g0,g1⟩:=f2 b hb
  exact ⟨by rw [a7 (Nat.ne_of_lt (fo b hb))];exact g0,g1⟩
 have sz:(s2.heap.push { cls:=.type "list",data:=.seq ([]:List Value).toArray }).objs.size = s2.heap.objs.size + 1:=Heap.size_push _ _
 have kept:∀ b o,(s2.heap.push { cls:=.type "list",data:=.seq ([]:List Value).toArray }).get? b = some o -> h1.get? b = some o:=fun b o e=>
  hsb.extBut b o (Nat.ne_of_lt (Heap.lt_size e)) (Heap.get?_push_of_some _ e)
 have I4:=Ea (tk:=s2.toks + ([]:List (Str × Value)).length) ck hXN hsc I3 f3 (fun b hb=>by show b < (s2.heap.push _).objs.size;rw [sz];exact Nat.lt_succ_of_lt (fo b hb)) hns kept
 have t4:tn 0 h1:=T.keep _ _ _ t2 fun b hb o e=>kept b o (Heap.get?_push_of_some _ e)
 have fz:∀ b ∈ fp,∀ H',H' b = none -> pU (cxC X N scope ⟨gC X.env scope.names [],(s2.heap.push { cls:=.type "list",data:=.seq ([]:List Value).toArray }).objs.size,{ s2 with heap:=s2.heap.push { cls:=.type "list",data:=.seq ([]:List Value).toArray },toks:=s2.toks },upd H2 s2.heap.objs.size (.lst []),fp,pins⟩) [] H' b:=fun b hb H' hn=>by
  obtain ⟨g0,g1,g2,g3,g4,g5⟩:=f3 b hb
  refine ⟨hn,(I4.ok.exf b hb).1,I4.ok.exfs b hb,.inl hb,(I4.ok.exf b hb).2,fun p hp=>?_⟩
  exact g5 p (by simpa [cxC] using hp)
 have loop:=DS (X:=X) (σ:=σ) (N:=N) (scope:=scope) (js:=js) (iter:=iter) (pos:=pos) (E:=E) (R:=RR (.ref s2.heap.objs.size) (s2.heap.push { cls:=.type "list",data:=.seq ([]:List Value).toArray }).objs.size) (D:=s2.heap.objs.size) (W:=W) (n:=n)
  hc T fz (hg _) hs (ht _) (he _) (fun i m H w=>(turn i m H w).imp (fun a=>⟨a.1,fun s' Y=>?_⟩) id) I4 t4 (fun b hb=>(f3 b hb).1) w0
 ·exact codeAny_compStart_list loop (T.self _ 0 _ _ _ t4 loop)
 ·have bb:=Y.base
  have J0:Inv X pins σ H s':=I3.call' Y.os bb Y.hok Y.bare fun b hb=>by
   obtain ⟨g0,g1,g2,g3,g4,g5⟩:=f3 b hb
   exact ⟨g3,g1,g4,g5⟩
  obtain ⟨mC,nC,_⟩:=Y.loc
  obtain ⟨oC,eC,dC⟩:∃ o,s'.heap.get? (s2.heap.push { cls:=.type "list",data:=.seq ([]:List Value).toArray }).objs.size = some o /\ ∀ v,o.data ≠ .cell v:=by
   obtain ⟨o,es,ep,ho,hd,_⟩:=nC
   exact ⟨o,ho,fun v z=>by rw [hd] at z;cases z⟩
  have lC:X.s₀.heap.objs.size <= (s2.heap.push { cls:=.type "list",data:=.seq ([]:List Value).toArray }).objs.size:=I3.sz
  have cC:(s2.heap.push { cls:=.type "list",data:=.seq ([]:List Value).toArray }).objs.size ≠ X.env.locals:=Nat.ne_of_gt I3.lt
  have kC:∀ x c,X.env.cells.lookup x = some c -> c ≠ (s2.heap.push { cls:=.type "list",data:=.seq ([]:List Value).toArray }).objs.size:=fun x c e=>by
   obtain ⟨v,q⟩:=I3.cell x c e
   exact Nat.ne_of_lt q.lt
  have pC:∀ p ∈ X.pn ++ pins,p.1 ≠ (s2.heap.push { cls:=.type "list",data:=.seq ([]:List Value).toArray }).objs.size:=fun p hp=>Nat.ne_of_lt (Heap.lt_size (I3.pin p hp).1)
  have J1:Inv X (pins ++ [((s2.heap.push { cls:=.type "list",data:=.seq ([]:List Value).toArray }).objs.size,oC)]) σ H s':=J0.pins_of fun p hp=>by
   rcases List.mem_append.mp hp with hp | hp
   ·exact J0.pin p (List.mem_append_right _ hp)
   ·rw [List.mem_singleton.mp hp]
    exact ⟨eC,Y.free,cC,I3.nofs (Nat.le_refl _),dC⟩
  exact hRR _ _ s' H mC oC J1 nC ⟨lC,cC,kC,pC⟩ Y.free a.2
theorem bR (ck:CmpOk XN sc scope N js) (hi:PI X tg iter wi) (hg:∀ z,PG (cxC X N scope z) tg g) (hs:vJ js g) (ht:∀ z,PIf (cxC X N scope z) ifs tt) (he:∀ z,PE (cxC X N scope z) elt te)
  (hXN:X.N = XN:=by rfl) (hsc:X.env.scope = sc:=by rfl) (hc:X.calm = true:=by rfl) (hf:∀ x,foldedSetIterable iter X.env x = pure x:=by intro _;rfl) :
  PE X (.ListComp elt [⟨tg,iter,ifs,0⟩] scope pos) (CD js wi g tt te):=by
 intro pins s σ H Q I h
 rw [eval_ListComp]
 have hcl:closureFor scope X.env = pure (gC X.env scope.names []):=nW fun y hy hk=>I.ok.has y.1 (by
  have:=ck.free y hy hk
  rw [<- hsc] at this
  exact this)
 refine wpAny_comprehension_free (use:=none) rfl hf hcl ck.kind ck.loc (thn (hi pins s σ H _ I h) fun v s1 h1=>thn h1 fun itv s2 h2=>?_)
 refine tH (RR:=fun acc C=>compPost (model X.prog X.w) X.A X.xe none (EP X pins σ Q) acc C) ck hXN hsc hc hg hs ht he h2 ?_
 intro D C s' H' m o J nC hC fC q
 refine ⟨m,nC,fun h' sb=>⟨.ref D,H',?_,rfl,q⟩⟩
 have J0:Inv X pins σ H' s':=J.unpinned
 exact J0.turned (t':=s'.toks) (it:=C) (fun b o hb e=>sb.extBut b o hb e) fC hC.2.1 (.inr hC.1) hC.2.2.1 hC.2.2.2
theorem GB {i:Nat} {y:Str} {pos' spos:Pos} (ck:CmpOk XN sc scope N js) (hN:X.N.Nodup) (hi0:X.N[i]? = some y) (hx:Loc X.env.scope y) (hi:PI X tg iter wi) (hg:∀ z,PG (cxC X N scope z) tg g) (hs:vJ js g) (ht:∀ z,PIf (cxC X N scope z) ifs tt) (he:∀ z,PE (cxC X N scope z) elt te)
  (hsw:swapsWith (.ListComp elt [⟨tg,iter,ifs,0⟩] scope pos) (some (.Name y pos')) spos.line X.env = pure true:=by rfl)
  (hXN:X.N = XN:=by rfl) (hsc:X.env.scope = sc:=by rfl) (hc:X.calm = true:=by rfl) (hf:∀ x,foldedSetIterable iter X.env x = pure x:=by intro _;rfl)
  (hfn:X.fn y = true \/ X.env.scope.names.lookup y = some .local:=by first | exact .inl rfl | exact .inr rfl | assumption) :
  PS X (.Assign [.Name y pos'] (.ListComp elt [⟨tg,iter,ifs,0⟩] scope pos) spos) (zN (CD js wi g tt te) (jW i)):=by
 intro pins s σ H D I h
 rw [exec_Assign_Name_used _ _ _ _ hsw]
 have hcl:closureFor scope X.env = pure (gC X.env scope.names []):=nW fun y hy hk=>I.ok.has y.1 (by
  have:=ck.free y hy hk
  rw [<- hsc] at this
  exact this)
 refine wpAny_bind (wpAny_standAt (wpAny_bind ?_))
 show wpAny (model X.prog X.w) X.A (comprehension (.ListComp elt [⟨tg,iter,ifs,0⟩] scope pos) scope X.env _ (newList []) false (eval iter X.env) (some (assign (.Name y pos') X.env)) >>= fun _=>pure ()) _ _ s
 refine wpAny_bind (thn (wpAny_comprehension_free (use:=some (assign (.Name y pos') X.env)) (Q:=fun _ s'=>SP X pins D .next s') rfl hf hcl ck.kind ck.loc (thn (hi pins s σ H _ I h) fun v s1 h1=>thn h1 fun itv s2 h2=>?_)) fun _ s' q=>wpAny_pure (wpAny_pure q))
 refine tH (RR:=fun acc C=>compPost (model X.prog X.w) X.A X.xe (some (assign (.Name y pos') X.env)) (fun _ s'=>SP X pins D .next s') acc C) (Q:=fun x H1=>jW i x σ H1 D.nx) ck hXN hsc hc hg hs ht he h2 ?_
 intro A C s' H' m o J nC hC fC q
 refine thn (oH hN hi0 hx hfn _ s' σ H' (.ref A) (.ref A) _ J rfl q) fun _ s3 h3=>?_
 obtain ⟨σ3,H3,J3,q3⟩:=h3
 have pc:=J3.pin (C,o) (List.mem_append_right _ (List.mem_append_right _ List.mem_cons_self))
 have oC:s'.heap.get? C = some o:=(J.pin (C,o) (List.mem_append_right _ (List.mem_append_right _ List.mem_cons_self))).1
 refine ⟨m,nC.at' fun o' e=>?_,fun h' sb=>⟨σ3,H3,?_,q3⟩⟩
 ·rw [oC] at e
  cases e
  exact pc.1
 ·have J0:Inv X pins σ3 H3 s3:=J3.unpinned
  exact J0.turned (t':=s3.toks) (it:=C) (fun b o hb e=>sb.extBut b o hb e) pc.2.1 hC.2.1 (.inr hC.1) hC.2.2.1 hC.2.2.2
end
end L2
namespace Srt
open PySem PySem.W PyProof.Rows
section
variable {α β:Type} (lt:Nat -> Nat -> Bool) (n:Nat)
end
section
variable {lt:Nat -> Nat -> Bool} {le:Nat -> Nat -> Prop} {n:Nat} {p:Array Nat}
abbrev at' (p:Array Nat) (i:Nat):Nat:=p.getD i 0
theorem An {p q:Array Nat} {i j:Nat} (h:p[i]? = q[j]?):at' p i = at' q j:=by
 have e:∀ (r:Array Nat) (k:Nat),at' r k = (r[k]?).getD 0:=fun r k=>by simp [at']
 rw [e,e,h]
def Asc (le:Nat -> Nat -> Prop) (p:Array Nat) (m:Nat):Prop:=∀ i j,i <= j -> j < m -> le (at' p i) (at' p j)
def Bel (n:Nat) (p:Array Nat):Prop:=∀ k,at' p k < n
structure Ord (lt:Nat -> Nat -> Bool) (le:Nat -> Nat -> Prop):Prop where
 tr:∀ a b c,le a b -> le b c -> le a c
 rf:∀ a,le a a
 yes:∀ a b,lt a b = true -> le a b
 no:∀ a b,lt a b = false -> le b a
theorem HY (hn:0 < n) (hp:p.Perm (List.range n).toArray):Bel n p:=fun k=>by
 have e:at' p k = (p[k]?).getD 0:=by simp [at']
 rw [e]
 cases h:p[k]? with
 | none=>exact hn
 | some v=>
  have hm:v ∈ p:=Array.mem_of_getElem? h
  have:=(Array.perm_iff_toList_perm.mp hp).mem_iff.mp (Array.mem_toList_iff.mpr hm)
  simpa using this
theorem cc {i j:Nat} (hj:j <= p.size) (k:Nat):at' (kas_rev p i j) k = if i <= k /\ k < j then at' p (i + j - 1 - k) else at' p k:=by
 have e:=getElem?_mirror_all (i:=i) hj k
 by_cases h:i <= k /\ k < j
 ·rw [if_pos h] at e ⊢;exact An e
 ·rw [if_neg h] at e ⊢;exact An e
variable {z:Nat}
theorem qY {src d:Nat} (hs:src < p.size) (hd:d <= src) (k:Nat):at' (bubble p src d) k = if k = src - d then at' p src else if src - d < k /\ k <= src then at' p (k - 1) else at' p k:=by
 have e:=getElem?_bubble hs d hd k
 by_cases h1:k = src - d
 ·rw [if_pos h1] at e ⊢;exact An e
 ·rw [if_neg h1] at e ⊢
  by_cases h2:src - d < k /\ k <= src
  ·rw [if_pos h2] at e ⊢;exact An e
  ·rw [if_neg h2] at e ⊢;exact An e
end
theorem Bh {α:Type} {le:Nat -> Nat -> Prop} {p:Array Nat} {vs:List α} {d:α} (hp:p.Perm (List.range vs.length).toArray) (ha:Asc le p vs.length) :
  (p.toList.map fun i=>vs.getD i d).Perm vs /\ ∀ R:α -> α -> Prop,(∀ i j,i < vs.length -> j < vs.length -> le i j -> R (vs.getD i d) (vs.getD j d)) -> (p.toList.map fun i=>vs.getD i d).Pairwise R:=by
 have hl:p.toList.Perm (List.range vs.length):=by simpa using Array.perm_iff_toList_perm.mp hp
 constructor
 ·have h1:(p.toList.map fun i=>vs.getD i d).Perm ((List.range vs.length).map fun i=>vs.getD i d):=hl.map _
  have h2:((List.range vs.length).map fun i=>vs.getD i d) = vs:=by
   apply List.ext_getElem
   ·simp
   ·intro i h1 h2;simp at h1;simp [h1]
  rw [h2] at h1
  exact h1
 ·intro R hR
  rw [List.pairwise_map,List.pairwise_iff_getElem]
  intro i j hi hj hij
  have hs:p.toList.length = vs.length:=by rw [hl.length_eq];simp
  have m:∀ k (hk:k < p.toList.length),p.toList[k] < vs.length:=fun k hk=>by simpa using hl.mem_iff.mp (List.getElem_mem hk)
  have a:∀ k (hk:k < p.toList.length),at' p k = p.toList[k]:=fun k hk=>by
   have:k < p.size:=by simpa using hk
   simp [at',Array.getD,this]
  refine hR _ _ (m i hi) (m j hj) ?_
  rw [<- a i hi,<- a j hj]
  exact ha i j (Nat.le_of_lt hij) (by lia)
def GV:Bool -> Keyed -> Array Keyed -> Nat -> Nat -> Nat -> StateT SortSt Sem (Option Nat):=sortPriv% PySem.Builtin.gallop
def Ep:Array Keyed -> Array Keyed -> StateT SortSt Sem (Array Keyed):=sortPriv% PySem.Builtin.mergeLo
def FI:Array Keyed -> Array Keyed -> StateT SortSt Sem (Array Keyed):=sortPriv% PySem.Builtin.mergeHi
section
variable {prog:Program} {w:World} {A:Around} {E:Value -> Shared -> Prop} {s:Shared} {κ:SortKind} {it:Array Keyed} {n:Nat} {lt:Nat -> Nat -> Bool} {le:Nat -> Nat -> Prop}
def vI (prog:Program) (w:World) (A:Around) (s:Shared) (κ:SortKind) (it:Array Keyed) (n:Nat) (lt:Nat -> Nat -> Bool):Prop:=
 ∀ i j (C:Bool -> Shared -> Prop),i < n -> j < n -> C (lt i j) s -> kas_cmp prog w A κ it i j C s
theorem w_lt (hc:vI prog w A s κ it n lt) {i j:Nat} {Q:Option Bool -> SortSt -> Prop} {st:SortSt} (hk:kindOf st = κ) (hi:i < n) (hj:j < n) (h:Q (some (lt i j)) st):wpS (model prog w) A E s (lt' (kas_item it i) (kas_item it j)) Q st:=by
 rw [lt'_eq]
 refine wpS_bind (wpS_get ?_)
 rw [hk]
 refine wpS_bind (wpS_lift (wpAny_attempt (wpAny_mono (hc i j (fun c s'=>s' = s /\ c = lt i j) hi hj ⟨rfl,rfl⟩) (fun c s' h'=>?_) fun _ _ hF=>hF.elim)))
 obtain ⟨rfl,rfl⟩:=h'
 exact ⟨rfl,wpS_pure h⟩
theorem aM {X:Array Nat} {k:Nat} {Q:Keyed -> SortSt -> Prop} {st:SortSt} (hk:k < X.size) (h:Q (kas_item it (at' X k)) st):wpS (model prog w) A E s (elem' (X.map (kas_item it)) k) Q st:=by
 rw [elem'_eq]
 have e:at' X k = X[k]:=by simp [at',hk]
 rw [e] at h
 have e2:(X.map (kas_item it))[k]? = some (kas_item it X[k]):=by simp [hk]
 rw [e2]
 exact wpS_pure h
theorem cB (o:Ord lt le) (hc:vI prog w A s κ it n lt) {left:Bool} {key:Nat} {X:Array Nat} {base m hint:Nat} {Q:Option Nat -> SortSt -> Prop} {st:SortSt} (hk:kindOf st = κ) (hb:∀ i,i < X.size -> at' X i < n) (hkey:key < n)
  (hz:base + m <= X.size) (hh:hint < m) (hs:∀ i j,i <= j -> j < m -> le (at' X (base + i)) (at' X (base + j)))
  (h:∀ k,k <= m -> (∀ i,i < k -> le (at' X (base + i)) key) -> (∀ i,k <= i -> i < m -> le key (at' X (base + i))) -> Q (some k) st) :
  wpS (model prog w) A E s (GV left (kas_item it key) (X.map (kas_item it)) base m hint) Q st:=by
 have bey:∀ i,i < m -> ∀ (R:Option Bool -> SortSt -> Prop),(∀ c,(c = true -> le (at' X (base + i)) key) -> (c = false -> le key (at' X (base + i))) -> R (some c) st) -> wpS (model prog w) A E s (do
   let x ← elem' (X.map (kas_item it)) (base + i)
   if left = true then lt' x (kas_item it key) else do
    let r ← lt' (kas_item it key) x
    pure (Option.map (fun x=>!x) r)) R st:=fun i hi R hR=>by
  refine wpS_bind (aM (by lia) ?_)
  have hx:=hb (base + i) (by lia)
  cases left with
  | true=>
   rw [if_pos rfl]
   exact w_lt hc hk hx hkey (hR _ (o.yes _ _) (o.no _ _))
  | false=>
   rw [if_neg (by decide)]
   refine wpS_bind (w_lt hc hk hkey hx (wpS_pure ?_))
   refine hR _ (fun e=>o.no _ _ (by simpa using e)) (fun e=>o.yes _ _ (by simpa using e))
 have lo':∀ k,k < m -> le (at' X (base + k)) key -> ∀ i,i <= k -> le (at' X (base + i)) key:=fun k hk hl i hi=>o.tr _ _ _ (hs i k hi hk) hl
 have hi':∀ k,k < m -> le key (at' X (base + k)) -> ∀ i,k <= i -> i < m -> le key (at' X (base + i)):=fun k hk hl i hi him=>o.tr _ _ _ hl (hs k i hi him)
 refine wpS_bind (bey hint hh _ fun c c1 c2=>?_)
 dsimp only
 cases c with
 | true=>
  rw [if_pos rfl]
  refine wpS_bind (wpS_mono (wpS_forRange (I:=fun x c st'=>st' = st /\ ∃ l f,c = (none,l,f) /\ x + 1 <= f /\ hint + l < m /\ le (at' X (base + (hint + l))) key)
   (Q:=fun c st'=>st' = st /\ ∃ l f,c = (none,l,f) /\ hint + l < m /\ le (at' X (base + (hint + l))) key /\ (f < m - hint -> le key (at' X (base + (hint + f))))) ?s1 ?f1 ?i1) ?p1)
  case i1=>exact ⟨rfl,0,1,rfl,by lia,by lia,c1 rfl⟩
  case f1=>
   rintro c st' ⟨rfl,l,f,rfl,h1,h2,h3⟩
   exact ⟨rfl,l,f,rfl,h2,h3,fun _=>by lia⟩
  case s1=>
   rintro x c st' _ hx ⟨rfl,l,f,rfl,h1,h2,h3⟩
   dsimp only
   by_cases hge:f ≥ m - hint
   ·rw [if_pos hge]
    exact wpS_pure ⟨rfl,l,f,rfl,h2,h3,fun _=>by lia⟩
   ·rw [if_neg hge]
    refine wpS_bind (bey (hint + f) (by lia) _ fun c d1 d2=>?_)
    dsimp only
    cases c with
    | true=>exact wpS_pure ⟨rfl,f,2 * f + 1,rfl,by lia,by lia,d1 rfl⟩
    | false=>exact wpS_pure ⟨rfl,l,f,rfl,h2,h3,fun _=>d2 rfl⟩
  case p1=>
   rintro c st' ⟨rfl,l,f,rfl,h2,h3,h4⟩
   dsimp only
   have g1:∀ i,i < hint + l + 1 -> i < m -> le (at' X (base + i)) key:=fun i hi _=>lo' _ h2 h3 i (by lia)
   have g2:∀ i,hint + min f (m - hint) <= i -> i < m -> le key (at' X (base + i)):=fun i hi him=>hi' (hint + f) (by lia) (h4 (by lia)) i (by lia) him
   have g3:hint + min f (m - hint) <= m:=by lia
   generalize hint + l + 1 = L at g1 ⊢
   generalize hint + min f (m - hint) = H at g2 g3 ⊢
   refine wpS_bind (wpS_mono (wpS_forRange (I:=fun x c st2=>st2 = st' /\ ∃ l h,c = (none,l,h) /\ h <= m /\ h - l <= m - x /\ (∀ i,i < l -> i < m -> le (at' X (base + i)) key) /\ (∀ i,h <= i -> i < m -> le key (at' X (base + i))))
    (Q:=fun c st2=>st2 = st' /\ ∃ l h,c = (none,l,h) /\ h <= m /\ h <= l /\ (∀ i,i < l -> i < m -> le (at' X (base + i)) key) /\ (∀ i,h <= i -> i < m -> le key (at' X (base + i)))) ?s2 ?f2 ?i2) ?p2)
   case i2=>exact ⟨rfl,L,H,rfl,g3,by lia,g1,g2⟩
   case f2=>
    rintro c st2 ⟨rfl,l,h,rfl,k1,k2,k3,k4⟩
    exact ⟨rfl,l,h,rfl,k1,by lia,k3,k4⟩
   case s2=>
    rintro x c st2 _ hx ⟨rfl,l,h,rfl,k1,k2,k3,k4⟩
    dsimp only
    by_cases hge:l ≥ h
    ·rw [if_pos hge]
     exact wpS_pure ⟨rfl,l,h,rfl,k1,hge,k3,k4⟩
    ·rw [if_neg hge]
     refine wpS_bind (bey (l + (h - l) / 2) (by lia) _ fun c d1 d2=>?_)
     dsimp only
     cases c with
     | true=>exact wpS_pure ⟨rfl,_,_,rfl,k1,by lia,fun i hi him=>lo' _ (by lia) (d1 rfl) i (by lia),k4⟩
     | false=>exact wpS_pure ⟨rfl,_,_,rfl,by lia,by lia,k3,fun i hi him=>hi' _ (by lia) (d2 rfl) i hi him⟩
   case p2=>
    rintro c st2 ⟨rfl,l,h',rfl,k1,k2,k3,k4⟩
    exact wpS_pure (h h' k1 (fun i hi=>k3 i (by lia) (by lia)) k4)
 | false=>
  rw [if_neg (by decide)]
  refine wpS_bind (wpS_mono (wpS_forRange (I:=fun x c st'=>st' = st /\ ∃ l f,c = (none,l,f) /\ x + 1 <= f /\ l <= hint /\ le key (at' X (base + (hint - l))))
   (Q:=fun c st'=>st' = st /\ ∃ l f,c = (none,l,f) /\ l <= hint /\ le key (at' X (base + (hint - l))) /\ (f < hint + 1 -> le (at' X (base + (hint - f))) key)) ?s1 ?f1 ?i1) ?p1)
  case i1=>exact ⟨rfl,0,1,rfl,by lia,by lia,c2 rfl⟩
  case f1=>
   rintro c st' ⟨rfl,l,f,rfl,h1,h2,h3⟩
   exact ⟨rfl,l,f,rfl,h2,h3,fun _=>by lia⟩
  case s1=>
   rintro x c st' _ hx ⟨rfl,l,f,rfl,h1,h2,h3⟩
   dsimp only
   by_cases hge:f ≥ hint + 1
   ·rw [if_pos hge]
    exact wpS_pure ⟨rfl,l,f,rfl,h2,h3,fun _=>by lia⟩
   ·rw [if_neg hge]
    refine wpS_bind (bey (hint - f) (by lia) _ fun c d1 d2=>?_)
    dsimp only
    cases c with
    | true=>exact wpS_pure ⟨rfl,l,f,rfl,h2,h3,fun _=>d1 rfl⟩
    | false=>exact wpS_pure ⟨rfl,f,2 * f + 1,rfl,by lia,by lia,d2 rfl⟩
  case p1=>
   rintro c st' ⟨rfl,l,f,rfl,h2,h3,h4⟩
   dsimp only
   have g1:∀ i,i < hint + 1 - min f (hint + 1) -> i < m -> le (at' X (base + i)) key:=fun i hi _=>lo' (hint - f) (by lia) (h4 (by lia)) i (by lia)
   have g2:∀ i,hint - l <= i -> i < m -> le key (at' X (base + i)):=fun i hi him=>hi' (hint - l) (by lia) h3 i (by lia) him
   have g3:hint - l <= m:=by lia
   generalize hint + 1 - min f (hint + 1) = L at g1 ⊢
   generalize hint - l = H at g2 g3 ⊢
   refine wpS_bind (wpS_mono (wpS_forRange (I:=fun x c st2=>st2 = st' /\ ∃ l h,c = (none,l,h) /\ h <= m /\ h - l <= m - x /\ (∀ i,i < l -> i < m -> le (at' X (base + i)) key) /\ (∀ i,h <= i -> i < m -> le key (at' X (base + i))))
    (Q:=fun c st2=>st2 = st' /\ ∃ l h,c = (none,l,h) /\ h <= m /\ h <= l /\ (∀ i,i < l -> i < m -> le (at' X (base + i)) key) /\ (∀ i,h <= i -> i < m -> le key (at' X (base + i)))) ?s2 ?f2 ?i2) ?p2)
   case i2=>exact ⟨rfl,L,H,rfl,g3,by lia,g1,g2⟩
   case f2=>
    rintro c st2 ⟨rfl,l,h,rfl,k1,k2,k3,k4⟩
    exact ⟨rfl,l,h,rfl,k1,by lia,k3,k4⟩
   case s2=>
    rintro x c st2 _ hx ⟨rfl,l,h,rfl,k1,k2,k3,k4⟩
    dsimp only
    by_cases hge:l ≥ h
    ·rw [if_pos hge]
     exact wpS_pure ⟨rfl,l,h,rfl,k1,hge,k3,k4⟩
    ·rw [if_neg hge]
     refine wpS_bind (bey (l + (h - l) / 2) (by lia) _ fun c d1 d2=>?_)
     dsimp only
     cases c with
     | true=>exact wpS_pure ⟨rfl,_,_,rfl,k1,by lia,fun i hi him=>lo' _ (by lia) (d1 rfl) i (by lia),k4⟩
     | false=>exact wpS_pure ⟨rfl,_,_,rfl,by lia,by lia,k3,fun i hi him=>hi' _ (by lia) (d2 rfl) i hi him⟩
   case p2=>
    rintro c st2 ⟨rfl,l,h',rfl,k1,k2,k3,k4⟩
    exact wpS_pure (h h' k1 (fun i hi=>k3 i (by lia) (by lia)) k4)
end
end Srt
namespace Srt
section
variable {le:Nat -> Nat -> Prop} {tot out ra rb xs:List Nat}
def Inv (le:Nat -> Nat -> Prop) (tot out ra rb:List Nat):Prop:=(out ++ ra).Pairwise le /\ (out ++ rb).Pairwise le /\ (out ++ (ra ++ rb)).Perm tot
theorem Inv.symm (h:Inv le tot out ra rb):Inv le tot out rb ra:=⟨h.2.1,h.1,(List.Perm.append_left _ List.perm_append_comm).trans h.2.2⟩
theorem Inv.block (h:Inv le tot out (xs ++ ra) rb) (k:∀ x ∈ xs,∀ y ∈ rb,le x y):Inv le tot (out ++ xs) ra rb:=by
 obtain ⟨h1,h2,h3⟩:=h
 refine ⟨by rw [List.append_assoc];exact h1,?_,by rw [List.append_assoc,<- List.append_assoc xs];exact h3⟩
 rw [List.pairwise_append] at h1 h2
 rw [List.append_assoc,List.pairwise_append]
 obtain ⟨a1,a2,a3⟩:=h1
 obtain ⟨b1,b2,b3⟩:=h2
 rw [List.pairwise_append] at a2
 refine ⟨a1,List.pairwise_append.mpr ⟨a2.1,b2,k⟩,fun x hx y hy=>?_⟩
 rcases List.mem_append.mp hy with hy | hy
 ·exact a3 x hx y (List.mem_append_left _ hy)
 ·exact b3 x hx y hy
theorem Inv.doneA (h:Inv le tot out ra []):(out ++ ra).Pairwise le /\ (out ++ ra).Perm tot:=⟨h.1,by have:=h.2.2;rwa [List.append_nil] at this⟩
theorem Inv.lastA {x:Nat} (h:Inv le tot out [x] rb) (k:∀ y ∈ rb,le y x):(out ++ (rb ++ [x])).Pairwise le /\ (out ++ (rb ++ [x])).Perm tot:=by
 refine ⟨?_,(List.Perm.append_left _ List.perm_append_comm).trans h.2.2⟩
 obtain ⟨h1,h2,_⟩:=h
 rw [List.pairwise_append] at h1 h2
 rw [List.pairwise_append]
 refine ⟨h1.1,List.pairwise_append.mpr ⟨h2.2.1,List.pairwise_singleton _ _,fun y hy z hz=>?_⟩,fun a ha b hb=>?_⟩
 ·rw [List.mem_singleton] at hz;subst hz;exact k y hy
 ·rcases List.mem_append.mp hb with hb | hb
  ·exact h2.2.2 a ha b hb
  ·exact h1.2.2 a ha b hb
end
section
variable {X Y O:Array Nat} {le:Nat -> Nat -> Prop} {tot:List Nat}
theorem IG {i:Nat} (h:i < X.size):at' X i = X[i]:=by simp [at',h]
theorem kN {i:Nat} (h:i < X.size):X.toList[i]'(by simpa using h) = at' X i:=by rw [IG h];simp
theorem xA {i:Nat} (h:i < X.size):X.toList.drop i = at' X i :: X.toList.drop (i + 1):=by
 rw [List.drop_eq_getElem_cons (by simpa using h),kN h]
theorem oT {i j:Nat} (h:i <= j):X.toList.drop i = (X.extract i j).toList ++ X.toList.drop j:=by
 rw [Array.toList_extract,List.extract_eq_take_drop]
 have e:X.toList.drop j = (X.toList.drop i).drop (j - i):=by rw [List.drop_drop];congr 1;lia
 rw [e,List.take_append_drop]
theorem uf {i x:Nat} (h:x ∈ X.toList.drop i):∃ j,i <= j /\ j < X.size /\ at' X j = x:=by
 obtain ⟨k,hk⟩:=List.getElem?_of_mem h
 rw [List.getElem?_drop] at hk
 obtain ⟨h1,h2⟩:=List.getElem?_eq_some_iff.mp hk
 have h1':i + k < X.size:=by simpa using h1
 exact ⟨i + k,by lia,h1',by rw [<- kN h1'];exact h2⟩
theorem td {i j x:Nat} (h:x ∈ (X.extract i j).toList):∃ k,i <= k /\ k < j /\ k < X.size /\ at' X k = x:=by
 obtain ⟨k,hk⟩:=List.getElem?_of_mem h
 rw [Array.toList_extract,List.extract_eq_take_drop,List.getElem?_take] at hk
 split at hk
 ·rw [List.getElem?_drop] at hk
  obtain ⟨h1,h2⟩:=List.getElem?_eq_some_iff.mp hk
  have h1':i + k < X.size:=by simpa using h1
  exact ⟨i + k,by lia,by lia,h1',by rw [<- kN h1'];exact h2⟩
 ·cases hk
abbrev J (le:Nat -> Nat -> Prop) (tot:List Nat) (X Y O:Array Nat) (ia ib:Nat):Prop:=Inv le tot O.toList (X.toList.drop ia) (Y.toList.drop ib)
variable {ia ib:Nat}
theorem J.one (j:J le tot X Y O ia ib) (h:ia < X.size) (k:∀ i,ib <= i -> i < Y.size -> le (at' X ia) (at' Y i)):J le tot X Y (O.push (at' X ia)) (ia + 1) ib:=by
 unfold J at j ⊢
 rw [xA h] at j
 have:=Inv.block (xs:=[at' X ia]) j (fun x hx y hy=>by
  rw [List.mem_singleton] at hx
  subst hx
  obtain ⟨i,h1,h2,rfl⟩:=uf hy
  exact k i h1 h2)
 rwa [Array.toList_push]
theorem J.blk {m:Nat} (j:J le tot X Y O ia ib) (k:∀ i l,ia <= i -> i < ia + m -> i < X.size -> ib <= l -> l < Y.size -> le (at' X i) (at' Y l)):J le tot X Y (O ++ X.extract ia (ia + m)) (ia + m) ib:=by
 unfold J at j ⊢
 rw [oT (j:=ia + m) (by lia)] at j
 have:=Inv.block j (fun x hx y hy=>by
  obtain ⟨i,h1,h2,h3,rfl⟩:=td hx
  obtain ⟨l,h4,h5,rfl⟩:=uf hy
  exact k i l h1 h2 h3 h4 h5)
 rwa [Array.toList_append]
theorem J.sy (j:J le tot X Y O ia ib):J le tot Y X O ib ia:=Inv.symm j
abbrev lv (le:Nat -> Nat -> Prop) (tot:List Nat) (R:Array Nat):Prop:=R.toList.Pairwise le /\ R.toList.Perm tot
theorem J.done1 (j:J le tot X Y O ia ib) (h:Y.size <= ib) (h2:ia <= X.size):lv le tot (O ++ X.extract ia X.size ++ Y.extract ib Y.size):=by
 unfold J at j
 rw [List.drop_of_length_le (l:=Y.toList) (by simpa using h)] at j
 have e:(Y.extract ib Y.size) = #[]:=by simp;lia
 have e2:X.toList.drop ia = (X.extract ia X.size).toList:=by rw [oT h2];simp
 rw [e,Array.append_empty]
 unfold lv
 rw [Array.toList_append,<- e2]
 exact j.doneA
theorem J.done2 (j:J le tot X Y O ia ib) (h:X.size <= ia) (h2:ib <= Y.size):lv le tot (O ++ X.extract ia X.size ++ Y.extract ib Y.size):=by
 have e:(X.extract ia X.size) = #[]:=by simp;lia
 have:=j.sy.done1 h h2
 rw [e,Array.append_empty] at this ⊢
 exact this
theorem J.last (j:J le tot X Y O ia ib) (h:ia + 1 = X.size) (h2:ib <= Y.size) (k:∀ i,i < Y.size -> le (at' Y i) (at' X ia)):lv le tot (O ++ Y.extract ib Y.size ++ X.extract ia X.size):=by
 unfold J at j
 rw [xA (by lia),List.drop_of_length_le (l:=X.toList) (i:=ia + 1) (by simp;lia)] at j
 have:=j.lastA fun y hy=>by
  obtain ⟨i,h1,h2,rfl⟩:=uf hy
  exact k i h2
 have e:(X.extract ia X.size).toList = [at' X ia]:=by
  have e2:X.toList.drop ia = (X.extract ia X.size).toList:=by rw [oT (j:=X.size) (by lia)];simp
  rw [<- e2,xA (by lia),List.drop_of_length_le (l:=X.toList) (i:=ia + 1) (by simp;lia)]
 have e3:Y.toList.drop ib = (Y.extract ib Y.size).toList:=by rw [oT h2];simp
 unfold lv
 rw [Array.toList_append,Array.toList_append,e,<- e3,List.append_assoc]
 exact this
end
end Srt
namespace Srt
open PySem PySem.W PyProof.Rows
section
variable {prog:Program} {w:World} {A:Around} {E:Value -> Shared -> Prop} {s:Shared} {κ:SortKind} {it:Array Keyed} {n:Nat} {lt:Nat -> Nat -> Bool} {le:Nat -> Nat -> Prop}
def Same (κ:SortKind) (st st':SortSt):Prop:=kindOf st' = κ /\ arrOf st' = arrOf st /\ pendingOf st' = pendingOf st /\ failedOf st' = failedOf st
theorem Same.g {st st2:SortSt} (h:Same κ st st2) (g:Nat):Same κ st (SortSt.mk' (kindOf st2) (arrOf st2) (pendingOf st2) g (failedOf st2)):=h
theorem bP {σ α:Type} {M:Model} {c:Prop} [Decidable c] {a b:StateT σ Sem α} {Q:α -> σ -> Prop} {st:σ} (h1:wpS M A E s a Q st) (h2:wpS M A E s b Q st):wpS M A E s (if c then a else b) Q st:=by
 by_cases h:c
 ·rw [if_pos h];exact h1
 ·rw [if_neg h];exact h2
theorem exm (f:Nat -> Keyed) (Z:Array Nat):(Z.map f).extract 0 Z.size = Z.map f:=by
 have:Z.size = (Z.map f).size:=by simp
 rw [this];simp
theorem CA {X:Array Nat} (h:∀ i j,i <= j -> j < X.size -> le (at' X i) (at' X j)):X.toList.Pairwise le:=by
 rw [List.pairwise_iff_getElem]
 intro i j hi hj hij
 have h2:j < X.size:=by simpa using hj
 rw [kN (by lia),kN h2]
 exact h i j (by lia) h2
theorem D0 (o:Ord lt le) (hc:vI prog w A s κ it n lt) {X Y:Array Nat} {Q:Array Keyed -> SortSt -> Prop} {st:SortSt} (hk:kindOf st = κ) (hx:∀ i,i < X.size -> at' X i < n) (hy:∀ i,i < Y.size -> at' Y i < n)
  (x1:1 <= X.size) (y1:1 <= Y.size) (sx:∀ i j,i <= j -> j < X.size -> le (at' X i) (at' X j)) (sy:∀ i j,i <= j -> j < Y.size -> le (at' Y i) (at' Y j)) (hf:∀ i,i < X.size -> le (at' Y 0) (at' X i)) (hl:∀ i,i < Y.size -> le (at' Y i) (at' X (X.size - 1)))
  (h:∀ R st',Same κ st st' -> lv le (X.toList ++ Y.toList) R -> Q (R.map (kas_item it)) st') :
  wpS (model prog w) A E s (Ep (X.map (kas_item it)) (Y.map (kas_item it))) Q st:=by
 have sm0:Same κ st st:=⟨hk,rfl,rfl,rfl⟩
 have j0:J le (X.toList ++ Y.toList) X Y #[] 0 0:=⟨by simpa using CA sx,by simpa using CA sy,by simp⟩
 have j1:J le (X.toList ++ Y.toList) X Y #[at' Y 0] 0 1:=(j0.sy.one (by lia) fun i _ h2=>hf i h2).sy
 refine wpS_bind (wpS_lift (wpAny_rule ⟨rfl,?_⟩))
 refine wpS_bind (aM (by lia) ?_)
 dsimp only
 simp only [Array.size_map,beq_iff_eq]
 by_cases e1:1 = Y.size
 ·rw [if_pos e1]
  refine wpS_pure ?_
  have:=h _ st sm0 (j1.done1 (by lia) (by lia))
  simpa [exm] using this
 rw [if_neg e1]
 by_cases e2:0 + 1 = X.size
 ·rw [if_pos e2]
  refine wpS_pure ?_
  have:=h _ st sm0 (j1.last (by lia) (by lia) fun i hi=>by have:=hl i hi;rwa [show X.size - 1 = 0 by lia] at this)
  simpa [exm] using this
 rw [if_neg e2]
 refine wpS_bind (wpS_get ?_)
 refine wpS_bind (wpS_mono (wpS_forRange (I:=fun x c st2=>Same κ st st2 /\ ∃ O ia ib g,c = (none,O.map (kas_item it),ia,ib,g) /\ ia + 1 < X.size /\ ib < Y.size /\ x + 1 <= ia + ib /\ J le (X.toList ++ Y.toList) X Y O ia ib)
  (Q:=fun c st2=>∃ R,c.1 = some (R.map (kas_item it)) /\ lv le (X.toList ++ Y.toList) R /\ Same κ st st2) ?s1 ?f1 ?i1) ?p1)
 case i1=>exact ⟨sm0,#[at' Y 0],0,1,_,by simp;rfl,by lia,by lia,by lia,j1⟩
 case f1=>
  rintro c st2 ⟨sm,O,ia,ib,g,rfl,la,lb,ls,j⟩
  lia
 case p1=>
  rintro ⟨c,c'⟩ st2 ⟨R,hc1,hR,sm⟩
  dsimp only at hc1
  subst hc1
  exact wpS_pure (h R st2 sm hR)
 case s1=>
  rintro x c st2 _ hx0 ⟨sm,O,ia,ib,g,rfl,la,lb,ls,j⟩
  dsimp only
  -- one by one
  refine wpS_bind (wpS_mono (wpS_forRange (I:=fun y c st2=>Same κ st st2 /\ ∃ O ia ib a b,c = (none,O.map (kas_item it),ia,ib,a,b) /\ ia + 1 < X.size /\ ib < Y.size /\ x + 1 + y <= ia + ib /\ J le (X.toList ++ Y.toList) X Y O ia ib)
   (Q:=fun c st2=>(∃ R,c.1 = some (R.map (kas_item it)) /\ lv le (X.toList ++ Y.toList) R /\ Same κ st st2) \/ (Same κ st st2 /\ ∃ O ia ib a b,c = (none,O.map (kas_item it),ia,ib,a,b) /\ ia + 1 < X.size /\ ib < Y.size /\ x + 1 + 1 <= ia + ib /\ J le (X.toList ++ Y.toList) X Y O ia ib)) ?s2 ?f2 ?i2) ?p2)
  case i2=>exact ⟨sm,O,ia,ib,0,0,rfl,la,lb,ls,j⟩
  case f2=>
   rintro c st2 ⟨sm,O,ia,ib,a,b,rfl,la,lb,ls,j⟩
   lia
  case s2=>
   clear la lb ls j sm
   rintro y c st2 _ hy0 ⟨sm,O,ia,ib,a,b,rfl,la,lb,ls,j⟩
   dsimp only
   refine wpS_bind (aM lb ?_)
   refine wpS_bind (aM (by lia) ?_)
   refine wpS_bind (w_lt hc sm.1 (hy ib lb) (hx ia (by lia)) ?_)
   dsimp only
   cases cw:lt (at' Y ib) (at' X ia) with
   | true=>
    rw [if_pos rfl]
    have l0:=o.yes _ _ cw
    have j2:J le (X.toList ++ Y.toList) X Y (O.push (at' Y ib)) ia (ib + 1):=(j.sy.one lb fun i h1 h2=>o.tr _ _ _ l0 (sx _ _ h1 h2)).sy
    refine wpS_bind (aM lb ?_)
    by_cases e3:ib + 1 = Y.size
    ·rw [if_pos e3]
     refine wpS_pure (.inl ⟨(O.push (at' Y ib)) ++ X.extract ia X.size ++ Y.extract (ib + 1) Y.size,?_,j2.done1 (by lia) (by lia),sm⟩)
     simp
    ·rw [if_neg e3]
     refine bP ?_ ?_
     ·exact wpS_pure (.inr ⟨sm,O.push (at' Y ib),ia,ib + 1,_,_,by rw [Array.map_push],by lia,by lia,by lia,j2⟩)
     ·exact wpS_pure ⟨sm,O.push (at' Y ib),ia,ib + 1,_,_,by rw [Array.map_push],by lia,by lia,by lia,j2⟩
   | false=>
    rw [if_neg (by decide)]
    have l0:=o.no _ _ cw
    have j2:=j.one (by lia) fun i h1 h2=>o.tr _ _ _ l0 (sy _ _ h1 h2)
    refine wpS_bind (aM (by lia) ?_)
    by_cases e3:ia + 1 + 1 = X.size
    ·rw [if_pos e3]
     refine wpS_pure (.inl ⟨(O.push (at' X ia)) ++ Y.extract ib Y.size ++ X.extract (ia + 1) X.size,?_,j2.last (by lia) (by lia) (fun i hi=>by have:=hl i hi;rwa [show X.size - 1 = ia + 1 by lia] at this),sm⟩)
     simp
    ·rw [if_neg e3]
     refine bP ?_ ?_
     ·exact wpS_pure (.inr ⟨sm,O.push (at' X ia),ia + 1,ib,_,_,by rw [Array.map_push],by lia,by lia,by lia,j2⟩)
     ·exact wpS_pure ⟨sm,O.push (at' X ia),ia + 1,ib,_,_,by rw [Array.map_push],by lia,by lia,by lia,j2⟩
  case p2=>
   clear la lb ls j sm
   rintro ⟨c,c'⟩ st2 (⟨R,hc1,hR,sm⟩ | ⟨sm,O,ia,ib,a,b,hcc,la,lb,ls,j⟩)
   ·dsimp only at hc1
    subst hc1
    exact wpS_pure ⟨R,rfl,hR,sm⟩
   cases hcc
   dsimp only
   refine wpS_bind (wpS_lift (wpAny_rule ⟨rfl,?_⟩))
   have hst:∃ bd,bd = x + 1 + 1:=⟨_,rfl⟩
   obtain ⟨bd,hst⟩:=hst
   rw [<- hst] at ls
   refine wpS_bind (wpS_mono (wpS_forRange (I:=fun y c st2=>Same κ st st2 /\ ∃ O ia ib m a b,c = (none,O.map (kas_item it),ia,ib,m,a,b) /\ ia + 1 < X.size /\ ib < Y.size /\ bd <= ia + ib /\ J le (X.toList ++ Y.toList) X Y O ia ib)
    (Q:=fun c st2=>(∃ R,c.1 = some (R.map (kas_item it)) /\ lv le (X.toList ++ Y.toList) R /\ Same κ st st2) \/ (Same κ st st2 /\ ∃ O ia ib m a b,c = (none,O.map (kas_item it),ia,ib,m,a,b) /\ ia + 1 < X.size /\ ib < Y.size /\ bd <= ia + ib /\ J le (X.toList ++ Y.toList) X Y O ia ib)) ?s3 ?f3 ?i3) ?p3)
   case i3=>exact ⟨sm,O,ia,ib,_,_,_,rfl,la,lb,ls,j⟩
   case f3=>exact fun c st2 h=>.inr h
   case p3=>
    clear la lb ls j sm
    rintro ⟨c,c'⟩ st2 (⟨R,hc1,hR,sm⟩ | ⟨sm,O,ia,ib,m,a,b,hcc,la,lb,ls,j⟩)
    ·dsimp only at hc1
     subst hc1
     exact wpS_pure ⟨R,rfl,hR,sm⟩
    cases hcc
    dsimp only
    refine wpS_bind (wpS_modify (wpS_pure ?_))
    exact ⟨sm.g _,O,ia,ib,_,rfl,la,lb,by lia,j⟩
   case s3=>
    clear la lb ls j sm
    rintro y c st2 _ hy0 ⟨sm,O,ia,ib,m,a,b,rfl,la,lb,ls,j⟩
    dsimp only
    by_cases hm:m > 1
    ·rw [if_pos hm]
     refine wpS_bind (wpS_modify ?_)
     replace sm:=sm.g (m - 1)
     refine wpS_bind (aM lb ?_)
     refine wpS_bind (cB o hc sm.1 hx (hy ib lb) (by lia) (by lia) (fun i k h1 h2=>sx _ _ (by lia) (by lia)) fun k k1 k2 k3=>?_)
     dsimp only
     have k2':∀ i,ia <= i -> i < ia + k -> le (at' X i) (at' Y ib):=fun i h1 h2=>by
      have:=k2 (i - ia) (by lia)
      rwa [show ia + (i - ia) = i by lia] at this
     have ky:∀ i,ia + k <= i -> i < X.size -> le (at' Y ib) (at' X i):=fun i h1 h2=>by
      have:=k3 (i - ia) (by lia) (by lia)
      rwa [show ia + (i - ia) = i by lia] at this
     by_cases k0:k > 0
     ·rw [if_pos k0]
      replace j:=j.blk (m:=k) fun i l h1 h2 h3 h4 h5=>o.tr _ _ _ (k2' i h1 h2) (sy _ _ h4 h5)
      have eO:O.map (kas_item it) ++ (X.map (kas_item it)).extract ia (ia + k) = (O ++ X.extract ia (ia + k)).map (kas_item it):=by simp
      rw [eO]
      by_cases e1:ia + k + 1 = X.size
      ·rw [if_pos e1]
       refine wpS_pure (.inl ⟨O ++ X.extract ia (ia + k) ++ Y.extract ib Y.size ++ X.extract (ia + k) X.size,?_,j.last (by lia) (by lia) (fun i hi=>by have:=hl i hi;rwa [show X.size - 1 = ia + k by lia] at this),sm⟩)
       simp
      rw [if_neg e1]
      by_cases e2:ia + k = X.size
      ·rw [if_pos e2]
       refine wpS_pure (.inl ⟨O ++ X.extract ia (ia + k) ++ X.extract (ia + k) X.size ++ Y.extract ib Y.size,?_,j.done2 (by lia) (by lia),sm⟩)
       simp
      rw [if_neg e2]
      have la2:ia + k + 1 < X.size:=by lia
      have ls2:bd <= ia + k + ib:=by lia
      clear k2' k2 k3 eO e1 e2
      generalize O ++ X.extract ia (ia + k) = O at j ⊢
      generalize hia:ia + k = ia at j la2 ls2 ky ⊢
      clear la ls k1 hia
      rename_i ia0 _
      clear k0
      have la:=la2
      have ls:=ls2
      -- y0
      refine wpS_bind (aM lb ?_)
      have j2:J le (X.toList ++ Y.toList) X Y (O.push (at' Y ib)) ia (ib + 1):=(j.sy.one lb fun i h1 h2=>ky i h1 h2).sy
      by_cases e3:ib + 1 = Y.size
      ·rw [if_pos e3]
       refine wpS_pure (.inl ⟨(O.push (at' Y ib)) ++ X.extract ia X.size ++ Y.extract (ib + 1) Y.size,?_,j2.done1 (by lia) (by lia),sm⟩)
       simp
      ·rw [if_neg e3]
       refine wpS_bind (aM (by lia) ?_)
       refine wpS_bind (cB o hc sm.1 hy (hx ia (by lia)) (by lia) (by lia) (fun i k h1 h2=>sy _ _ (by lia) (by lia)) fun k k1 k2 k3=>?_)
       dsimp only
       have k2':∀ i,ib + 1 <= i -> i < ib + 1 + k -> le (at' Y i) (at' X ia):=fun i h1 h2=>by
        have:=k2 (i - (ib + 1)) (by lia)
        rwa [show ib + 1 + (i - (ib + 1)) = i by lia] at this
       have k3':∀ i,ib + 1 + k <= i -> i < Y.size -> le (at' X ia) (at' Y i):=fun i h1 h2=>by
        have:=k3 (i - (ib + 1)) (by lia) (by lia)
        rwa [show ib + 1 + (i - (ib + 1)) = i by lia] at this
       have j3:J le (X.toList ++ Y.toList) X Y (O.push (at' Y ib) ++ Y.extract (ib + 1) (ib + 1 + k)) ia (ib + 1 + k):=(j2.sy.blk fun i l h1 h2 h3 h4 h5=>o.tr _ _ _ (k2' i h1 h2) (sx _ _ h4 h5)).sy
       by_cases k0:k > 0
       ·rw [if_pos k0]
        by_cases e4:ib + 1 + k = Y.size
        ·rw [if_pos e4]
         refine wpS_pure (.inl ⟨(O.push (at' Y ib)) ++ Y.extract (ib + 1) (ib + 1 + k) ++ X.extract ia X.size ++ Y.extract (ib + 1 + k) Y.size,?_,j3.done1 (by lia) (by lia),sm⟩)
         simp
        ·rw [if_neg e4]
         refine wpS_bind (aM (by lia) ?_)
         have j4:=j3.one (by lia) fun i h1 h2=>k3' i h1 h2
         by_cases e5:ia + 1 + 1 = X.size
         ·rw [if_pos e5]
          refine wpS_pure (.inl ⟨(O.push (at' Y ib) ++ Y.extract (ib + 1) (ib + 1 + k)).push (at' X ia) ++ Y.extract (ib + 1 + k) Y.size ++ X.extract (ia + 1) X.size,?_,j4.last (by lia) (by lia) (fun i hi=>by have:=hl i hi;rwa [show X.size - 1 = ia + 1 by lia] at this),sm⟩)
          simp
         ·rw [if_neg e5]
          have fin:∀ m c d,∃ O' ia' ib' m' c' d',((none,((O.map (kas_item it)).push (kas_item it (at' Y ib)) ++ (Y.map (kas_item it)).extract (ib + 1) (ib + 1 + k)).push (kas_item it (at' X ia)),ia + 1,ib + 1 + k,m,c,d):Option (Array Keyed) × Array Keyed × Nat × Nat × Nat × Nat × Nat) = (none,O'.map (kas_item it),ia',ib',m',c',d') /\ ia' + 1 < X.size /\ ib' < Y.size /\ bd <= ia' + ib' /\ J le (X.toList ++ Y.toList) X Y O' ia' ib':=fun m c d=>⟨_,_,_,m,c,d,by rw [show (((O.map (kas_item it)).push (kas_item it (at' Y ib)) ++ (Y.map (kas_item it)).extract (ib + 1) (ib + 1 + k)).push (kas_item it (at' X ia))) = ((O.push (at' Y ib) ++ Y.extract (ib + 1) (ib + 1 + k)).push (at' X ia)).map (kas_item it) by simp],by lia,by lia,by lia,j4⟩
          refine bP ?_ ?_
          ·exact wpS_pure (.inr ⟨sm,fin _ _ _⟩)
          ·exact wpS_pure ⟨sm,fin _ _ _⟩
       ·rw [if_neg k0]
        have k00:k = 0:=by lia
        subst k00
        have j3':J le (X.toList ++ Y.toList) X Y (O.push (at' Y ib)) ia (ib + 1):=j2
        refine wpS_bind (aM (by lia) ?_)
        have j4:=j3'.one (by lia) fun i h1 h2=>k3' i (by lia) h2
        by_cases e5:ia + 1 + 1 = X.size
        ·rw [if_pos e5]
         refine wpS_pure (.inl ⟨(O.push (at' Y ib)).push (at' X ia) ++ Y.extract (ib + 1) Y.size ++ X.extract (ia + 1) X.size,?_,j4.last (by lia) (by lia) (fun i hi=>by have:=hl i hi;rwa [show X.size - 1 = ia + 1 by lia] at this),sm⟩)
         simp
        ·rw [if_neg e5]
         have fin:∀ m c d,∃ O' ia' ib' m' c' d',((none,((O.map (kas_item it)).push (kas_item it (at' Y ib))).push (kas_item it (at' X ia)),ia + 1,ib + 1,m,c,d):Option (Array Keyed) × Array Keyed × Nat × Nat × Nat × Nat × Nat) = (none,O'.map (kas_item it),ia',ib',m',c',d') /\ ia' + 1 < X.size /\ ib' < Y.size /\ bd <= ia' + ib' /\ J le (X.toList ++ Y.toList) X Y O' ia' ib':=fun m c d=>⟨_,_,_,m,c,d,by rw [show ((O.map (kas_item it)).push (kas_item it (at' Y ib))).push (kas_item it (at' X ia)) = ((O.push (at' Y ib)).push (at' X ia)).map (kas_item it) by simp],by lia,by lia,by lia,j4⟩
         refine bP ?_ ?_
         ·exact wpS_pure (.inr ⟨sm,fin _ _ _⟩)
         ·exact wpS_pure ⟨sm,fin _ _ _⟩
     ·rw [if_neg k0]
      have k00:k = 0:=by lia
      subst k00
      replace ky:∀ i,ia <= i -> i < X.size -> le (at' Y ib) (at' X i):=ky
      -- y0
      refine wpS_bind (aM lb ?_)
      have j2:J le (X.toList ++ Y.toList) X Y (O.push (at' Y ib)) ia (ib + 1):=(j.sy.one lb fun i h1 h2=>ky i h1 h2).sy
      by_cases e3:ib + 1 = Y.size
      ·rw [if_pos e3]
       refine wpS_pure (.inl ⟨(O.push (at' Y ib)) ++ X.extract ia X.size ++ Y.extract (ib + 1) Y.size,?_,j2.done1 (by lia) (by lia),sm⟩)
       simp
      ·rw [if_neg e3]
       refine wpS_bind (aM (by lia) ?_)
       refine wpS_bind (cB o hc sm.1 hy (hx ia (by lia)) (by lia) (by lia) (fun i k h1 h2=>sy _ _ (by lia) (by lia)) fun k k1 k2 k3=>?_)
       dsimp only
       have k2':∀ i,ib + 1 <= i -> i < ib + 1 + k -> le (at' Y i) (at' X ia):=fun i h1 h2=>by
        have:=k2 (i - (ib + 1)) (by lia)
        rwa [show ib + 1 + (i - (ib + 1)) = i by lia] at this
       have k3':∀ i,ib + 1 + k <= i -> i < Y.size -> le (at' X ia) (at' Y i):=fun i h1 h2=>by
        have:=k3 (i - (ib + 1)) (by lia) (by lia)
        rwa [show ib + 1 + (i - (ib + 1)) = i by lia] at this
       have j3:J le (X.toList ++ Y.toList) X Y (O.push (at' Y ib) ++ Y.extract (ib + 1) (ib + 1 + k)) ia (ib + 1 + k):=(j2.sy.blk fun i l h1 h2 h3 h4 h5=>o.tr _ _ _ (k2' i h1 h2) (sx _ _ h4 h5)).sy
       by_cases k0:k > 0
       ·rw [if_pos k0]
        by_cases e4:ib + 1 + k = Y.size
        ·rw [if_pos e4]
         refine wpS_pure (.inl ⟨(O.push (at' Y ib)) ++ Y.extract (ib + 1) (ib + 1 + k) ++ X.extract ia X.size ++ Y.extract (ib + 1 + k) Y.size,?_,j3.done1 (by lia) (by lia),sm⟩)
         simp
        ·rw [if_neg e4]
         refine wpS_bind (aM (by lia) ?_)
         have j4:=j3.one (by lia) fun i h1 h2=>k3' i h1 h2
         by_cases e5:ia + 1 + 1 = X.size
         ·rw [if_pos e5]
          refine wpS_pure (.inl ⟨(O.push (at' Y ib) ++ Y.extract (ib + 1) (ib + 1 + k)).push (at' X ia) ++ Y.extract (ib + 1 + k) Y.size ++ X.extract (ia + 1) X.size,?_,j4.last (by lia) (by lia) (fun i hi=>by have:=hl i hi;rwa [show X.size - 1 = ia + 1 by lia] at this),sm⟩)
          simp
         ·rw [if_neg e5]
          have fin:∀ m c d,∃ O' ia' ib' m' c' d',((none,((O.map (kas_item it)).push (kas_item it (at' Y ib)) ++ (Y.map (kas_item it)).extract (ib + 1) (ib + 1 + k)).push (kas_item it (at' X ia)),ia + 1,ib + 1 + k,m,c,d):Option (Array Keyed) × Array Keyed × Nat × Nat × Nat × Nat × Nat) = (none,O'.map (kas_item it),ia',ib',m',c',d') /\ ia' + 1 < X.size /\ ib' < Y.size /\ bd <= ia' + ib' /\ J le (X.toList ++ Y.toList) X Y O' ia' ib':=fun m c d=>⟨_,_,_,m,c,d,by rw [show (((O.map (kas_item it)).push (kas_item it (at' Y ib)) ++ (Y.map (kas_item it)).extract (ib + 1) (ib + 1 + k)).push (kas_item it (at' X ia))) = ((O.push (at' Y ib) ++ Y.extract (ib + 1) (ib + 1 + k)).push (at' X ia)).map (kas_item it) by simp],by lia,by lia,by lia,j4⟩
          refine bP ?_ ?_
          ·exact wpS_pure (.inr ⟨sm,fin _ _ _⟩)
          ·exact wpS_pure ⟨sm,fin _ _ _⟩
       ·rw [if_neg k0]
        have k00:k = 0:=by lia
        subst k00
        have j3':J le (X.toList ++ Y.toList) X Y (O.push (at' Y ib)) ia (ib + 1):=j2
        refine wpS_bind (aM (by lia) ?_)
        have j4:=j3'.one (by lia) fun i h1 h2=>k3' i (by lia) h2
        by_cases e5:ia + 1 + 1 = X.size
        ·rw [if_pos e5]
         refine wpS_pure (.inl ⟨(O.push (at' Y ib)).push (at' X ia) ++ Y.extract (ib + 1) Y.size ++ X.extract (ia + 1) X.size,?_,j4.last (by lia) (by lia) (fun i hi=>by have:=hl i hi;rwa [show X.size - 1 = ia + 1 by lia] at this),sm⟩)
         simp
        ·rw [if_neg e5]
         have fin:∀ m c d,∃ O' ia' ib' m' c' d',((none,((O.map (kas_item it)).push (kas_item it (at' Y ib))).push (kas_item it (at' X ia)),ia + 1,ib + 1,m,c,d):Option (Array Keyed) × Array Keyed × Nat × Nat × Nat × Nat × Nat) = (none,O'.map (kas_item it),ia',ib',m',c',d') /\ ia' + 1 < X.size /\ ib' < Y.size /\ bd <= ia' + ib' /\ J le (X.toList ++ Y.toList) X Y O' ia' ib':=fun m c d=>⟨_,_,_,m,c,d,by rw [show ((O.map (kas_item it)).push (kas_item it (at' Y ib))).push (kas_item it (at' X ia)) = ((O.push (at' Y ib)).push (at' X ia)).map (kas_item it) by simp],by lia,by lia,by lia,j4⟩
         refine bP ?_ ?_
         ·exact wpS_pure (.inr ⟨sm,fin _ _ _⟩)
         ·exact wpS_pure ⟨sm,fin _ _ _⟩
    ·rw [if_neg hm]
     refine wpS_bind (wpS_modify ?_)
     replace sm:=sm.g (m)
     refine wpS_bind (aM lb ?_)
     refine wpS_bind (cB o hc sm.1 hx (hy ib lb) (by lia) (by lia) (fun i k h1 h2=>sx _ _ (by lia) (by lia)) fun k k1 k2 k3=>?_)
     dsimp only
     have k2':∀ i,ia <= i -> i < ia + k -> le (at' X i) (at' Y ib):=fun i h1 h2=>by
      have:=k2 (i - ia) (by lia)
      rwa [show ia + (i - ia) = i by lia] at this
     have ky:∀ i,ia + k <= i -> i < X.size -> le (at' Y ib) (at' X i):=fun i h1 h2=>by
      have:=k3 (i - ia) (by lia) (by lia)
      rwa [show ia + (i - ia) = i by lia] at this
     by_cases k0:k > 0
     ·rw [if_pos k0]
      replace j:=j.blk (m:=k) fun i l h1 h2 h3 h4 h5=>o.tr _ _ _ (k2' i h1 h2) (sy _ _ h4 h5)
      have eO:O.map (kas_item it) ++ (X.map (kas_item it)).extract ia (ia + k) = (O ++ X.extract ia (ia + k)).map (kas_item it):=by simp
      rw [eO]
      by_cases e1:ia + k + 1 = X.size
      ·rw [if_pos e1]
       refine wpS_pure (.inl ⟨O ++ X.extract ia (ia + k) ++ Y.extract ib Y.size ++ X.extract (ia + k) X.size,?_,j.last (by lia) (by lia) (fun i hi=>by have:=hl i hi;rwa [show X.size - 1 = ia + k by lia] at this),sm⟩)
       simp
      rw [if_neg e1]
      by_cases e2:ia + k = X.size
      ·rw [if_pos e2]
       refine wpS_pure (.inl ⟨O ++ X.extract ia (ia + k) ++ X.extract (ia + k) X.size ++ Y.extract ib Y.size,?_,j.done2 (by lia) (by lia),sm⟩)
       simp
      rw [if_neg e2]
      have la2:ia + k + 1 < X.size:=by lia
      have ls2:bd <= ia + k + ib:=by lia
      clear k2' k2 k3 eO e1 e2
      generalize O ++ X.extract ia (ia + k) = O at j ⊢
      generalize hia:ia + k = ia at j la2 ls2 ky ⊢
      clear la ls k1 hia
      rename_i ia0 _
      clear k0
      have la:=la2
      have ls:=ls2
      -- y0
      refine wpS_bind (aM lb ?_)
      have j2:J le (X.toList ++ Y.toList) X Y (O.push (at' Y ib)) ia (ib + 1):=(j.sy.one lb fun i h1 h2=>ky i h1 h2).sy
      by_cases e3:ib + 1 = Y.size
      ·rw [if_pos e3]
       refine wpS_pure (.inl ⟨(O.push (at' Y ib)) ++ X.extract ia X.size ++ Y.extract (ib + 1) Y.size,?_,j2.done1 (by lia) (by lia),sm⟩)
       simp
      ·rw [if_neg e3]
       refine wpS_bind (aM (by lia) ?_)
       refine wpS_bind (cB o hc sm.1 hy (hx ia (by lia)) (by lia) (by lia) (fun i k h1 h2=>sy _ _ (by lia) (by lia)) fun k k1 k2 k3=>?_)
       dsimp only
       have k2':∀ i,ib + 1 <= i -> i < ib + 1 + k -> le (at' Y i) (at' X ia):=fun i h1 h2=>by
        have:=k2 (i - (ib + 1)) (by lia)
        rwa [show ib + 1 + (i - (ib + 1)) = i by lia] at this
       have k3':∀ i,ib + 1 + k <= i -> i < Y.size -> le (at' X ia) (at' Y i):=fun i h1 h2=>by
        have:=k3 (i - (ib + 1)) (by lia) (by lia)
        rwa [show ib + 1 + (i - (ib + 1)) = i by lia] at this
       have j3:J le (X.toList ++ Y.toList) X Y (O.push (at' Y ib) ++ Y.extract (ib + 1) (ib + 1 + k)) ia (ib + 1 + k):=(j2.sy.blk fun i l h1 h2 h3 h4 h5=>o.tr _ _ _ (k2' i h1 h2) (sx _ _ h4 h5)).sy
       by_cases k0:k > 0
       ·rw [if_pos k0]
        by_cases e4:ib + 1 + k = Y.size
        ·rw [if_pos e4]
         refine wpS_pure (.inl ⟨(O.push (at' Y ib)) ++ Y.extract (ib + 1) (ib + 1 + k) ++ X.extract ia X.size ++ Y.extract (ib + 1 + k) Y.size,?_,j3.done1 (by lia) (by lia),sm⟩)
         simp
        ·rw [if_neg e4]
         refine wpS_bind (aM (by lia) ?_)
         have j4:=j3.one (by lia) fun i h1 h2=>k3' i h1 h2
         by_cases e5:ia + 1 + 1 = X.size
         ·rw [if_pos e5]
          refine wpS_pure (.inl ⟨(O.push (at' Y ib) ++ Y.extract (ib + 1) (ib + 1 + k)).push (at' X ia) ++ Y.extract (ib + 1 + k) Y.size ++ X.extract (ia + 1) X.size,?_,j4.last (by lia) (by lia) (fun i hi=>by have:=hl i hi;rwa [show X.size - 1 = ia + 1 by lia] at this),sm⟩)
          simp
         ·rw [if_neg e5]
          have fin:∀ m c d,∃ O' ia' ib' m' c' d',((none,((O.map (kas_item it)).push (kas_item it (at' Y ib)) ++ (Y.map (kas_item it)).extract (ib + 1) (ib + 1 + k)).push (kas_item it (at' X ia)),ia + 1,ib + 1 + k,m,c,d):Option (Array Keyed) × Array Keyed × Nat × Nat × Nat × Nat × Nat) = (none,O'.map (kas_item it),ia',ib',m',c',d') /\ ia' + 1 < X.size /\ ib' < Y.size /\ bd <= ia' + ib' /\ J le (X.toList ++ Y.toList) X Y O' ia' ib':=fun m c d=>⟨_,_,_,m,c,d,by rw [show (((O.map (kas_item it)).push (kas_item it (at' Y ib)) ++ (Y.map (kas_item it)).extract (ib + 1) (ib + 1 + k)).push (kas_item it (at' X ia))) = ((O.push (at' Y ib) ++ Y.extract (ib + 1) (ib + 1 + k)).push (at' X ia)).map (kas_item it) by simp],by lia,by lia,by lia,j4⟩
          refine bP ?_ ?_
          ·exact wpS_pure (.inr ⟨sm,fin _ _ _⟩)
          ·exact wpS_pure ⟨sm,fin _ _ _⟩
       ·rw [if_neg k0]
        have k00:k = 0:=by lia
        subst k00
        have j3':J le (X.toList ++ Y.toList) X Y (O.push (at' Y ib)) ia (ib + 1):=j2
        refine wpS_bind (aM (by lia) ?_)
        have j4:=j3'.one (by lia) fun i h1 h2=>k3' i (by lia) h2
        by_cases e5:ia + 1 + 1 = X.size
        ·rw [if_pos e5]
         refine wpS_pure (.inl ⟨(O.push (at' Y ib)).push (at' X ia) ++ Y.extract (ib + 1) Y.size ++ X.extract (ia + 1) X.size,?_,j4.last (by lia) (by lia) (fun i hi=>by have:=hl i hi;rwa [show X.size - 1 = ia + 1 by lia] at this),sm⟩)
         simp
        ·rw [if_neg e5]
         have fin:∀ m c d,∃ O' ia' ib' m' c' d',((none,((O.map (kas_item it)).push (kas_item it (at' Y ib))).push (kas_item it (at' X ia)),ia + 1,ib + 1,m,c,d):Option (Array Keyed) × Array Keyed × Nat × Nat × Nat × Nat × Nat) = (none,O'.map (kas_item it),ia',ib',m',c',d') /\ ia' + 1 < X.size /\ ib' < Y.size /\ bd <= ia' + ib' /\ J le (X.toList ++ Y.toList) X Y O' ia' ib':=fun m c d=>⟨_,_,_,m,c,d,by rw [show ((O.map (kas_item it)).push (kas_item it (at' Y ib))).push (kas_item it (at' X ia)) = ((O.push (at' Y ib)).push (at' X ia)).map (kas_item it) by simp],by lia,by lia,by lia,j4⟩
         refine bP ?_ ?_
         ·exact wpS_pure (.inr ⟨sm,fin _ _ _⟩)
         ·exact wpS_pure ⟨sm,fin _ _ _⟩
     ·rw [if_neg k0]
      have k00:k = 0:=by lia
      subst k00
      replace ky:∀ i,ia <= i -> i < X.size -> le (at' Y ib) (at' X i):=ky
      -- y0
      refine wpS_bind (aM lb ?_)
      have j2:J le (X.toList ++ Y.toList) X Y (O.push (at' Y ib)) ia (ib + 1):=(j.sy.one lb fun i h1 h2=>ky i h1 h2).sy
      by_cases e3:ib + 1 = Y.size
      ·rw [if_pos e3]
       refine wpS_pure (.inl ⟨(O.push (at' Y ib)) ++ X.extract ia X.size ++ Y.extract (ib + 1) Y.size,?_,j2.done1 (by lia) (by lia),sm⟩)
       simp
      ·rw [if_neg e3]
       refine wpS_bind (aM (by lia) ?_)
       refine wpS_bind (cB o hc sm.1 hy (hx ia (by lia)) (by lia) (by lia) (fun i k h1 h2=>sy _ _ (by lia) (by lia)) fun k k1 k2 k3=>?_)
       dsimp only
       have k2':∀ i,ib + 1 <= i -> i < ib + 1 + k -> le (at' Y i) (at' X ia):=fun i h1 h2=>by
        have:=k2 (i - (ib + 1)) (by lia)
        rwa [show ib + 1 + (i - (ib + 1)) = i by lia] at this
       have k3':∀ i,ib + 1 + k <= i -> i < Y.size -> le (at' X ia) (at' Y i):=fun i h1 h2=>by
        have:=k3 (i - (ib + 1)) (by lia) (by lia)
        rwa [show ib + 1 + (i - (ib + 1)) = i by lia] at this
       have j3:J le (X.toList ++ Y.toList) X Y (O.push (at' Y ib) ++ Y.extract (ib + 1) (ib + 1 + k)) ia (ib + 1 + k):=(j2.sy.blk fun i l h1 h2 h3 h4 h5=>o.tr _ _ _ (k2' i h1 h2) (sx _ _ h4 h5)).sy
       by_cases k0:k > 0
       ·rw [if_pos k0]
        by_cases e4:ib + 1 + k = Y.size
        ·rw [if_pos e4]
         refine wpS_pure (.inl ⟨(O.push (at' Y ib)) ++ Y.extract (ib + 1) (ib + 1 + k) ++ X.extract ia X.size ++ Y.extract (ib + 1 + k) Y.size,?_,j3.done1 (by lia) (by lia),sm⟩)
         simp
        ·rw [if_neg e4]
         refine wpS_bind (aM (by lia) ?_)
         have j4:=j3.one (by lia) fun i h1 h2=>k3' i h1 h2
         by_cases e5:ia + 1 + 1 = X.size
         ·rw [if_pos e5]
          refine wpS_pure (.inl ⟨(O.push (at' Y ib) ++ Y.extract (ib + 1) (ib + 1 + k)).push (at' X ia) ++ Y.extract (ib + 1 + k) Y.size ++ X.extract (ia + 1) X.size,?_,j4.last (by lia) (by lia) (fun i hi=>by have:=hl i hi;rwa [show X.size - 1 = ia + 1 by lia] at this),sm⟩)
          simp
         ·rw [if_neg e5]
          have fin:∀ m c d,∃ O' ia' ib' m' c' d',((none,((O.map (kas_item it)).push (kas_item it (at' Y ib)) ++ (Y.map (kas_item it)).extract (ib + 1) (ib + 1 + k)).push (kas_item it (at' X ia)),ia + 1,ib + 1 + k,m,c,d):Option (Array Keyed) × Array Keyed × Nat × Nat × Nat × Nat × Nat) = (none,O'.map (kas_item it),ia',ib',m',c',d') /\ ia' + 1 < X.size /\ ib' < Y.size /\ bd <= ia' + ib' /\ J le (X.toList ++ Y.toList) X Y O' ia' ib':=fun m c d=>⟨_,_,_,m,c,d,by rw [show (((O.map (kas_item it)).push (kas_item it (at' Y ib)) ++ (Y.map (kas_item it)).extract (ib + 1) (ib + 1 + k)).push (kas_item it (at' X ia))) = ((O.push (at' Y ib) ++ Y.extract (ib + 1) (ib + 1 + k)).push (at' X ia)).map (kas_item it) by simp],by lia,by lia,by lia,j4⟩
          refine bP ?_ ?_
          ·exact wpS_pure (.inr ⟨sm,fin _ _ _⟩)
          ·exact wpS_pure ⟨sm,fin _ _ _⟩
       ·rw [if_neg k0]
        have k00:k = 0:=by lia
        subst k00
        have j3':J le (X.toList ++ Y.toList) X Y (O.push (at' Y ib)) ia (ib + 1):=j2
        refine wpS_bind (aM (by lia) ?_)
        have j4:=j3'.one (by lia) fun i h1 h2=>k3' i (by lia) h2
        by_cases e5:ia + 1 + 1 = X.size
        ·rw [if_pos e5]
         refine wpS_pure (.inl ⟨(O.push (at' Y ib)).push (at' X ia) ++ Y.extract (ib + 1) Y.size ++ X.extract (ia + 1) X.size,?_,j4.last (by lia) (by lia) (fun i hi=>by have:=hl i hi;rwa [show X.size - 1 = ia + 1 by lia] at this),sm⟩)
         simp
        ·rw [if_neg e5]
         have fin:∀ m c d,∃ O' ia' ib' m' c' d',((none,((O.map (kas_item it)).push (kas_item it (at' Y ib))).push (kas_item it (at' X ia)),ia + 1,ib + 1,m,c,d):Option (Array Keyed) × Array Keyed × Nat × Nat × Nat × Nat × Nat) = (none,O'.map (kas_item it),ia',ib',m',c',d') /\ ia' + 1 < X.size /\ ib' < Y.size /\ bd <= ia' + ib' /\ J le (X.toList ++ Y.toList) X Y O' ia' ib':=fun m c d=>⟨_,_,_,m,c,d,by rw [show ((O.map (kas_item it)).push (kas_item it (at' Y ib))).push (kas_item it (at' X ia)) = ((O.push (at' Y ib)).push (at' X ia)).map (kas_item it) by simp],by lia,by lia,by lia,j4⟩
         refine bP ?_ ?_
         ·exact wpS_pure (.inr ⟨sm,fin _ _ _⟩)
         ·exact wpS_pure ⟨sm,fin _ _ _⟩
end
section
variable {X Y O:Array Nat} {le:Nat -> Nat -> Prop} {tot:List Nat} {na nb:Nat}
theorem B9 {i:Nat} (h:i < X.size):X.toList.take (i + 1) = X.toList.take i ++ [at' X i]:=by
 rw [List.take_succ_eq_append_getElem (by simpa using h),kN h]
theorem ml {i j:Nat} (h:i <= j):X.toList.take j = X.toList.take i ++ (X.extract i j).toList:=by
 rw [Array.toList_extract,List.extract_eq_take_drop]
 have e:j = i + (j - i):=by lia
 conv=>lhs;rw [e,List.take_add]
theorem um {i x:Nat} (h:x ∈ X.toList.take i):∃ j,j < i /\ j < X.size /\ at' X j = x:=by
 obtain ⟨k,hk⟩:=List.getElem?_of_mem h
 rw [List.getElem?_take] at hk
 split at hk
 ·obtain ⟨h1,h2⟩:=List.getElem?_eq_some_iff.mp hk
  have h1':k < X.size:=by simpa using h1
  exact ⟨k,by lia,h1',by rw [<- kN h1'];exact h2⟩
 ·cases hk
abbrev JH (le:Nat -> Nat -> Prop) (tot:List Nat) (X Y O:Array Nat) (na nb:Nat):Prop:=Inv (fun a b=>le b a) tot O.toList (X.toList.take na).reverse (Y.toList.take nb).reverse
theorem JH.sy (j:JH le tot X Y O na nb):JH le tot Y X O nb na:=Inv.symm j
theorem JH.one (j:JH le tot X Y O na nb) (h:1 <= na) (h2:na <= X.size) (k:∀ i,i < nb -> le (at' Y i) (at' X (na - 1))):JH le tot X Y (O.push (at' X (na - 1))) (na - 1) nb:=by
 unfold JH at j ⊢
 obtain ⟨m,rfl⟩:∃ m,na = m + 1:=⟨na - 1,by lia⟩
 rw [B9 (by lia),List.reverse_append] at j
 rw [Nat.add_sub_cancel] at k ⊢
 have:=Inv.block (xs:=[at' X m]) j (fun x hx y hy=>by
  rw [List.mem_singleton] at hx
  subst hx
  obtain ⟨i,h1,h2,rfl⟩:=um (List.mem_reverse.mp hy)
  exact k i h1)
 rwa [Array.toList_push]
theorem JH.blk {m:Nat} (j:JH le tot X Y O na nb) (h:m <= na) (h2:na <= X.size) (k:∀ i l,m <= i -> i < na -> l < nb -> le (at' Y l) (at' X i)):JH le tot X Y (O ++ (X.extract m na).reverse) m nb:=by
 unfold JH at j ⊢
 rw [ml h,List.reverse_append] at j
 have:=Inv.block j (fun x hx y hy=>by
  obtain ⟨i,h1,h2,h3,rfl⟩:=td (List.mem_reverse.mp hx)
  obtain ⟨l,h4,h5,rfl⟩:=um (List.mem_reverse.mp hy)
  exact k i l h1 h2 h4)
 rwa [Array.toList_append,Array.toList_reverse]
theorem yU {l r:List Nat} (h:l.Pairwise (fun a b=>le b a) /\ l.Perm tot) (e:l = r.reverse):r.Pairwise le /\ r.Perm tot:=by
 subst e
 exact ⟨List.pairwise_reverse.mp h.1,(List.reverse_perm _).symm.trans h.2⟩
theorem HU (m:Nat):(X.extract 0 m).toList = X.toList.take m:=by rw [Array.toList_extract,List.extract_eq_take_drop];simp
theorem JH.done1 (j:JH le tot X Y O na nb) (h:nb = 0) (h2:na <= X.size):lv le tot (X.extract 0 na ++ Y.extract 0 nb ++ O.reverse):=by
 subst h
 refine yU (l:=O.toList ++ (X.toList.take na).reverse) (Inv.doneA (by unfold JH at j;simpa using j)) ?_
 simp [HU]
theorem JH.done2 (j:JH le tot X Y O na nb) (h:na = 0) (h2:nb <= Y.size):lv le tot (X.extract 0 na ++ Y.extract 0 nb ++ O.reverse):=by
 have:=j.sy.done1 h h2
 subst h
 simpa using this
theorem JH.first (j:JH le tot X Y O na nb) (h:nb = 1) (y1:1 <= Y.size) (h2:na <= X.size) (k:∀ i,i < X.size -> le (at' Y 0) (at' X i)):lv le tot (Y.extract 0 nb ++ X.extract 0 na ++ O.reverse):=by
 subst h
 have e:Y.toList.take 1 = [at' Y 0]:=by rw [B9 (i:=0) (by lia)];simp
 have j2:Inv (fun a b=>le b a) tot O.toList [at' Y 0] (X.toList.take na).reverse:=by have:=j.sy;unfold JH at this;rw [e] at this;exact this
 refine yU (j2.lastA fun y hy=>?_) ?_
 ·obtain ⟨i,h1,h2,rfl⟩:=um (List.mem_reverse.mp hy)
  exact k i h2
 ·rw [Array.toList_append,Array.toList_append,HU,HU,e]
  simp
end
section
variable {prog:Program} {w:World} {A:Around} {E:Value -> Shared -> Prop} {s:Shared} {κ:SortKind} {it:Array Keyed} {n:Nat} {lt:Nat -> Nat -> Bool} {le:Nat -> Nat -> Prop}
theorem Dq (o:Ord lt le) (hc:vI prog w A s κ it n lt) {X Y:Array Nat} {Q:Array Keyed -> SortSt -> Prop} {st:SortSt} (hk:kindOf st = κ) (hx:∀ i,i < X.size -> at' X i < n) (hy:∀ i,i < Y.size -> at' Y i < n)
  (x1:1 <= X.size) (y1:1 <= Y.size) (sx:∀ i j,i <= j -> j < X.size -> le (at' X i) (at' X j)) (sy:∀ i j,i <= j -> j < Y.size -> le (at' Y i) (at' Y j)) (hf:∀ i,i < X.size -> le (at' Y 0) (at' X i)) (hl:∀ i,i < Y.size -> le (at' Y i) (at' X (X.size - 1)))
  (h:∀ R st',Same κ st st' -> lv le (X.toList ++ Y.toList) R -> Q (R.map (kas_item it)) st') :
  wpS (model prog w) A E s (FI (X.map (kas_item it)) (Y.map (kas_item it))) Q st:=by
 have sm0:Same κ st st:=⟨hk,rfl,rfl,rfl⟩
 have j0:JH le (X.toList ++ Y.toList) X Y #[] X.size Y.size:=by
  have ex:X.toList.take X.size = X.toList:=List.take_of_length_le (by simp)
  have ey:Y.toList.take Y.size = Y.toList:=List.take_of_length_le (by simp)
  unfold JH
  rw [ex,ey]
  exact ⟨by simpa using List.pairwise_reverse.mpr (CA sx),by simpa using List.pairwise_reverse.mpr (CA sy),by simpa using (List.reverse_perm X.toList).append (List.reverse_perm Y.toList)⟩
 have j1:JH le (X.toList ++ Y.toList) X Y #[at' X (X.size - 1)] (X.size - 1) Y.size:=j0.one x1 (Nat.le_refl _) fun i h2=>hl i h2
 refine wpS_bind (wpS_lift (wpAny_rule ⟨rfl,?_⟩))
 dsimp only
 simp only [Array.size_map,beq_iff_eq]
 refine wpS_bind (aM (X:=X) (by lia) ?_)
 by_cases e1:X.size - 1 = 0
 ·rw [if_pos e1]
  refine wpS_pure ?_
  have:=h _ st sm0 (j1.done2 e1 (by lia))
  simpa [exm] using this
 rw [if_neg e1]
 by_cases e2:Y.size = 1
 ·rw [if_pos e2]
  refine wpS_pure ?_
  have:=h _ st sm0 (j1.first e2 (by lia) (by lia) hf)
  simpa [exm] using this
 rw [if_neg e2]
 refine wpS_bind (wpS_get ?_)
 refine wpS_bind (wpS_mono (wpS_forRange (I:=fun x c st2=>Same κ st st2 /\ ∃ O na nb g,c = (none,na,nb,O.map (kas_item it),g) /\ 1 <= na /\ 1 < nb /\ na < X.size /\ nb <= Y.size /\ na + nb + (x + 1) <= X.size + Y.size /\ JH le (X.toList ++ Y.toList) X Y O na nb)
  (Q:=fun c st2=>∃ R,c.1 = some (R.map (kas_item it)) /\ lv le (X.toList ++ Y.toList) R /\ Same κ st st2) ?s1 ?f1 ?i1) ?p1)
 case i1=>exact ⟨sm0,#[at' X (X.size - 1)],X.size - 1,Y.size,_,by simp;rfl,by lia,by lia,by lia,by lia,by lia,j1⟩
 case f1=>
  rintro c st2 ⟨sm,O,na,nb,g,rfl,la,lb,lx,ly,ls,j⟩
  lia
 case p1=>
  rintro ⟨c,c'⟩ st2 ⟨R,hc1,hR,sm⟩
  dsimp only at hc1
  subst hc1
  exact wpS_pure (h R st2 sm hR)
 case s1=>
  rintro x c st2 _ hx0 ⟨sm,O,na,nb,g,rfl,la,lb,lx,ly,ls,j⟩
  dsimp only
  refine wpS_bind (wpS_mono (wpS_forRange (I:=fun y c st2=>Same κ st st2 /\ ∃ O na nb a b,c = (none,na,nb,O.map (kas_item it),a,b) /\ 1 <= na /\ 1 < nb /\ na < X.size /\ nb <= Y.size /\ na + nb + (x + 1 + y) <= X.size + Y.size /\ JH le (X.toList ++ Y.toList) X Y O na nb)
   (Q:=fun c st2=>(∃ R,c.1 = some (R.map (kas_item it)) /\ lv le (X.toList ++ Y.toList) R /\ Same κ st st2) \/ (Same κ st st2 /\ ∃ O na nb a b,c = (none,na,nb,O.map (kas_item it),a,b) /\ 1 <= na /\ 1 < nb /\ na < X.size /\ nb <= Y.size /\ na + nb + (x + 1 + 1) <= X.size + Y.size /\ JH le (X.toList ++ Y.toList) X Y O na nb)) ?s2 ?f2 ?i2) ?p2)
  case i2=>exact ⟨sm,O,na,nb,0,0,rfl,la,lb,lx,ly,ls,j⟩
  case f2=>
   rintro c st2 ⟨sm,O,na,nb,a,b,rfl,la,lb,lx,ly,ls,j⟩
   lia
  case s2=>
   clear la lb lx ly ls j sm
   rintro y c st2 _ hy0 ⟨sm,O,na,nb,a,b,rfl,la,lb,lx,ly,ls,j⟩
   dsimp only
   refine wpS_bind (aM (by lia) ?_)
   refine wpS_bind (aM (by lia) ?_)
   refine wpS_bind (w_lt hc sm.1 (hy (nb - 1) (by lia)) (hx (na - 1) (by lia)) ?_)
   dsimp only
   cases cw:lt (at' Y (nb - 1)) (at' X (na - 1)) with
   | true=>
    rw [if_pos rfl]
    have l0:=o.yes _ _ cw
    have j2:=j.one la (by lia) fun i h1=>o.tr _ _ _ (sy i (nb - 1) (by lia) (by lia)) l0
    refine wpS_bind (aM (by lia) ?_)
    by_cases e3:na - 1 = 0
    ·rw [if_pos e3]
     refine wpS_pure (.inl ⟨X.extract 0 (na - 1) ++ Y.extract 0 nb ++ (O.push (at' X (na - 1))).reverse,?_,j2.done2 e3 (by lia),sm⟩)
     simp [Array.map_reverse]
    ·rw [if_neg e3]
     refine bP ?_ ?_
     ·exact wpS_pure (.inr ⟨sm,O.push (at' X (na - 1)),na - 1,nb,_,_,by rw [Array.map_push],by lia,by lia,by lia,by lia,by lia,j2⟩)
     ·exact wpS_pure ⟨sm,O.push (at' X (na - 1)),na - 1,nb,_,_,by rw [Array.map_push],by lia,by lia,by lia,by lia,by lia,j2⟩
   | false=>
    rw [if_neg (by decide)]
    have l0:=o.no _ _ cw
    have j2:JH le (X.toList ++ Y.toList) X Y (O.push (at' Y (nb - 1))) na (nb - 1):=(j.sy.one (by lia) (by lia) fun i h1=>o.tr _ _ _ (sx i (na - 1) (by lia) (by lia)) l0).sy
    refine wpS_bind (aM (by lia) ?_)
    by_cases e3:nb - 1 = 1
    ·rw [if_pos e3]
     refine wpS_pure (.inl ⟨Y.extract 0 (nb - 1) ++ X.extract 0 na ++ (O.push (at' Y (nb - 1))).reverse,?_,j2.first e3 (by lia) (by lia) hf,sm⟩)
     simp [Array.map_reverse]
    ·rw [if_neg e3]
     refine bP ?_ ?_
     ·exact wpS_pure (.inr ⟨sm,O.push (at' Y (nb - 1)),na,nb - 1,_,_,by rw [Array.map_push],by lia,by lia,by lia,by lia,by lia,j2⟩)
     ·exact wpS_pure ⟨sm,O.push (at' Y (nb - 1)),na,nb - 1,_,_,by rw [Array.map_push],by lia,by lia,by lia,by lia,by lia,j2⟩
  case p2=>
   clear la lb lx ly ls j sm
   rintro ⟨c,c'⟩ st2 (⟨R,hc1,hR,sm⟩ | ⟨sm,O,na,nb,a,b,hcc,la,lb,lx,ly,ls,j⟩)
   ·dsimp only at hc1
    subst hc1
    exact wpS_pure ⟨R,rfl,hR,sm⟩
   cases hcc
   dsimp only
   refine wpS_bind (wpS_lift (wpAny_rule ⟨rfl,?_⟩))
   have hst:∃ bd,bd = x + 1 + 1:=⟨_,rfl⟩
   obtain ⟨bd,hst⟩:=hst
   rw [<- hst] at ls
   refine wpS_bind (wpS_mono (wpS_forRange (I:=fun y c st2=>Same κ st st2 /\ ∃ O na nb m a b,c = (none,na,nb,O.map (kas_item it),m,a,b) /\ 1 <= na /\ 1 < nb /\ na < X.size /\ nb <= Y.size /\ na + nb + bd <= X.size + Y.size /\ JH le (X.toList ++ Y.toList) X Y O na nb)
    (Q:=fun c st2=>(∃ R,c.1 = some (R.map (kas_item it)) /\ lv le (X.toList ++ Y.toList) R /\ Same κ st st2) \/ (Same κ st st2 /\ ∃ O na nb m a b,c = (none,na,nb,O.map (kas_item it),m,a,b) /\ 1 <= na /\ 1 < nb /\ na < X.size /\ nb <= Y.size /\ na + nb + bd <= X.size + Y.size /\ JH le (X.toList ++ Y.toList) X Y O na nb)) ?s3 ?f3 ?i3) ?p3)
   case i3=>exact ⟨sm,O,na,nb,_,_,_,rfl,la,lb,lx,ly,ls,j⟩
   case f3=>exact fun c st2 h=>.inr h
   case p3=>
    clear la lb lx ly ls j sm
    rintro ⟨c,c'⟩ st2 (⟨R,hc1,hR,sm⟩ | ⟨sm,O,na,nb,m,a,b,hcc,la,lb,lx,ly,ls,j⟩)
    ·dsimp only at hc1
     subst hc1
     exact wpS_pure ⟨R,rfl,hR,sm⟩
    cases hcc
    dsimp only
    refine wpS_bind (wpS_modify (wpS_pure ?_))
    exact ⟨sm.g _,O,na,nb,_,rfl,la,lb,lx,ly,by lia,j⟩
   case s3=>
    clear la lb lx ly ls j sm
    rintro y c st2 _ hy0 ⟨sm,O,na,nb,m,a,b,rfl,la,lb,lx,ly,ls,j⟩
    dsimp only
    by_cases hm:m > 1
    ·rw [if_pos hm]
     refine wpS_bind (wpS_modify ?_)
     replace sm:=sm.g (m - 1)
     refine wpS_bind (aM (by lia) ?_)
     refine wpS_bind (cB o hc sm.1 hx (hy (nb - 1) (by lia)) (by lia) (by lia) (fun i k h1 h2=>sx _ _ (by lia) (by lia)) fun k k1 k2 k3=>?_)
     dsimp only
     simp only [Nat.zero_add] at k2 k3
     by_cases k0:na - k > 0
     ·rw [if_pos k0]
      replace j:=j.blk (m:=k) (by lia) (by lia) fun i l h1 h2 h3=>o.tr _ _ _ (sy l (nb - 1) (by lia) (by lia)) (k3 i h1 h2)
      have eO:O.map (kas_item it) ++ ((X.map (kas_item it)).extract k na).reverse = (O ++ (X.extract k na).reverse).map (kas_item it):=by simp [Array.map_reverse]
      rw [eO]
      by_cases e1:k = 0
      ·rw [if_pos e1]
       refine wpS_pure (.inl ⟨X.extract 0 k ++ Y.extract 0 nb ++ (O ++ (X.extract k na).reverse).reverse,?_,j.done2 e1 (by lia),sm⟩)
       simp [Array.map_reverse]
      rw [if_neg e1]
      have la2:1 <= k:=by lia
      have lx2:k < X.size:=by lia
      have ls2:k + nb + bd <= X.size + Y.size:=by lia
      have ky:∀ i,i < k -> le (at' X i) (at' Y (nb - 1)):=k2
      clear k2 k3 eO e1
      generalize O ++ (X.extract k na).reverse = O at j ⊢
      generalize na - k = kk at k0 ⊢
      clear k0 k1 la lx ls
      have la:=la2
      have lx:=lx2
      have ls:=ls2
      clear la2 lx2 ls2
      obtain ⟨na,hna⟩:∃ na,na = k:=⟨k,rfl⟩
      subst hna
      refine wpS_bind (aM (by lia) ?_)
      have j2:JH le (X.toList ++ Y.toList) X Y (O.push (at' Y (nb - 1))) na (nb - 1):=(j.sy.one (by lia) (by lia) fun i h1=>ky i h1).sy
      by_cases e3:nb - 1 = 1
      ·rw [if_pos e3]
       refine wpS_pure (.inl ⟨Y.extract 0 (nb - 1) ++ X.extract 0 na ++ (O.push (at' Y (nb - 1))).reverse,?_,j2.first e3 (by lia) (by lia) hf,sm⟩)
       simp [Array.map_reverse]
      ·rw [if_neg e3]
       refine wpS_bind (aM (by lia) ?_)
       refine wpS_bind (cB o hc sm.1 hy (hx (na - 1) (by lia)) (by lia) (by lia) (fun i k h1 h2=>sy _ _ (by lia) (by lia)) fun k k1 k2 k3=>?_)
       dsimp only
       simp only [Nat.zero_add] at k2 k3
       have j3:JH le (X.toList ++ Y.toList) X Y (O.push (at' Y (nb - 1)) ++ (Y.extract k (nb - 1)).reverse) na k:=(j2.sy.blk (by lia) (by lia) fun i l h1 h2 h3=>o.tr _ _ _ (sx l (na - 1) (by lia) (by lia)) (k3 i h1 h2)).sy
       by_cases k0:nb - 1 - k > 0
       ·rw [if_pos k0]
        by_cases e4:k = 1
        ·rw [if_pos e4]
         refine wpS_pure (.inl ⟨Y.extract 0 k ++ X.extract 0 na ++ (O.push (at' Y (nb - 1)) ++ (Y.extract k (nb - 1)).reverse).reverse,?_,j3.first e4 (by lia) (by lia) hf,sm⟩)
         simp [Array.map_reverse]
        rw [if_neg e4]
        by_cases e5:k = 0
        ·rw [if_pos e5]
         refine wpS_pure (.inl ⟨X.extract 0 na ++ Y.extract 0 k ++ (O.push (at' Y (nb - 1)) ++ (Y.extract k (nb - 1)).reverse).reverse,?_,j3.done1 e5 (by lia),sm⟩)
         simp [Array.map_reverse]
        rw [if_neg e5]
        refine wpS_bind (aM (by lia) ?_)
        have j4:=j3.one (by lia) (by lia) fun i h1=>k2 i h1
        have eO:((O.map (kas_item it)).push (kas_item it (at' Y (nb - 1))) ++ ((Y.map (kas_item it)).extract k (nb - 1)).reverse).push (kas_item it (at' X (na - 1))) = ((O.push (at' Y (nb - 1)) ++ (Y.extract k (nb - 1)).reverse).push (at' X (na - 1))).map (kas_item it):=by simp [Array.map_reverse]
        by_cases e6:na - 1 = 0
        ·rw [if_pos e6]
         refine wpS_pure (.inl ⟨X.extract 0 (na - 1) ++ Y.extract 0 k ++ ((O.push (at' Y (nb - 1)) ++ (Y.extract k (nb - 1)).reverse).push (at' X (na - 1))).reverse,?_,j4.done2 e6 (by lia),sm⟩)
         simp [Array.map_reverse]
        ·rw [if_neg e6]
         have fin:∀ m c d,∃ O' na' nb' m' c' d',((none,na - 1,k,((O.map (kas_item it)).push (kas_item it (at' Y (nb - 1))) ++ ((Y.map (kas_item it)).extract k (nb - 1)).reverse).push (kas_item it (at' X (na - 1))),m,c,d):Option (Array Keyed) × Nat × Nat × Array Keyed × Nat × Nat × Nat) = (none,na',nb',O'.map (kas_item it),m',c',d') /\ 1 <= na' /\ 1 < nb' /\ na' < X.size /\ nb' <= Y.size /\ na' + nb' + bd <= X.size + Y.size /\ JH le (X.toList ++ Y.toList) X Y O' na' nb':=fun m c d=>⟨_,_,_,m,c,d,by rw [eO],by lia,by lia,by lia,by lia,by lia,j4⟩
         refine bP ?_ ?_
         ·exact wpS_pure (.inr ⟨sm,fin _ _ _⟩)
         ·exact wpS_pure ⟨sm,fin _ _ _⟩
       ·rw [if_neg k0]
        have k00:k = nb - 1:=by lia
        subst k00
        refine wpS_bind (aM (by lia) ?_)
        have j4:=j2.one (by lia) (by lia) fun i h1=>k2 i h1
        have eO:((O.map (kas_item it)).push (kas_item it (at' Y (nb - 1)))).push (kas_item it (at' X (na - 1))) = ((O.push (at' Y (nb - 1))).push (at' X (na - 1))).map (kas_item it):=by simp
        by_cases e6:na - 1 = 0
        ·rw [if_pos e6]
         refine wpS_pure (.inl ⟨X.extract 0 (na - 1) ++ Y.extract 0 (nb - 1) ++ ((O.push (at' Y (nb - 1))).push (at' X (na - 1))).reverse,?_,j4.done2 e6 (by lia),sm⟩)
         simp [Array.map_reverse]
        ·rw [if_neg e6]
         have fin:∀ m c d,∃ O' na' nb' m' c' d',((none,na - 1,nb - 1,((O.map (kas_item it)).push (kas_item it (at' Y (nb - 1)))).push (kas_item it (at' X (na - 1))),m,c,d):Option (Array Keyed) × Nat × Nat × Array Keyed × Nat × Nat × Nat) = (none,na',nb',O'.map (kas_item it),m',c',d') /\ 1 <= na' /\ 1 < nb' /\ na' < X.size /\ nb' <= Y.size /\ na' + nb' + bd <= X.size + Y.size /\ JH le (X.toList ++ Y.toList) X Y O' na' nb':=fun m c d=>⟨_,_,_,m,c,d,by rw [eO],by lia,by lia,by lia,by lia,by lia,j4⟩
         refine bP ?_ ?_
         ·exact wpS_pure (.inr ⟨sm,fin _ _ _⟩)
         ·exact wpS_pure ⟨sm,fin _ _ _⟩
     ·rw [if_neg k0]
      have k00:na = k:=by lia
      subst k00
      have ky:∀ i,i < na -> le (at' X i) (at' Y (nb - 1)):=k2
      refine wpS_bind (aM (by lia) ?_)
      have j2:JH le (X.toList ++ Y.toList) X Y (O.push (at' Y (nb - 1))) na (nb - 1):=(j.sy.one (by lia) (by lia) fun i h1=>ky i h1).sy
      by_cases e3:nb - 1 = 1
      ·rw [if_pos e3]
       refine wpS_pure (.inl ⟨Y.extract 0 (nb - 1) ++ X.extract 0 na ++ (O.push (at' Y (nb - 1))).reverse,?_,j2.first e3 (by lia) (by lia) hf,sm⟩)
       simp [Array.map_reverse]
      ·rw [if_neg e3]
       refine wpS_bind (aM (by lia) ?_)
       refine wpS_bind (cB o hc sm.1 hy (hx (na - 1) (by lia)) (by lia) (by lia) (fun i k h1 h2=>sy _ _ (by lia) (by lia)) fun k k1 k2 k3=>?_)
       dsimp only
       simp only [Nat.zero_add] at k2 k3
       have j3:JH le (X.toList ++ Y.toList) X Y (O.push (at' Y (nb - 1)) ++ (Y.extract k (nb - 1)).reverse) na k:=(j2.sy.blk (by lia) (by lia) fun i l h1 h2 h3=>o.tr _ _ _ (sx l (na - 1) (by lia) (by lia)) (k3 i h1 h2)).sy
       by_cases k0:nb - 1 - k > 0
       ·rw [if_pos k0]
        by_cases e4:k = 1
        ·rw [if_pos e4]
         refine wpS_pure (.inl ⟨Y.extract 0 k ++ X.extract 0 na ++ (O.push (at' Y (nb - 1)) ++ (Y.extract k (nb - 1)).reverse).reverse,?_,j3.first e4 (by lia) (by lia) hf,sm⟩)
         simp [Array.map_reverse]
        rw [if_neg e4]
        by_cases e5:k = 0
        ·rw [if_pos e5]
         refine wpS_pure (.inl ⟨X.extract 0 na ++ Y.extract 0 k ++ (O.push (at' Y (nb - 1)) ++ (Y.extract k (nb - 1)).reverse).reverse,?_,j3.done1 e5 (by lia),sm⟩)
         simp [Array.map_reverse]
        rw [if_neg e5]
        refine wpS_bind (aM (by lia) ?_)
        have j4:=j3.one (by lia) (by lia) fun i h1=>k2 i h1
        have eO:((O.map (kas_item it)).push (kas_item it (at' Y (nb - 1))) ++ ((Y.map (kas_item it)).extract k (nb - 1)).reverse).push (kas_item it (at' X (na - 1))) = ((O.push (at' Y (nb - 1)) ++ (Y.extract k (nb - 1)).reverse).push (at' X (na - 1))).map (kas_item it):=by simp [Array.map_reverse]
        by_cases e6:na - 1 = 0
        ·rw [if_pos e6]
         refine wpS_pure (.inl ⟨X.extract 0 (na - 1) ++ Y.extract 0 k ++ ((O.push (at' Y (nb - 1)) ++ (Y.extract k (nb - 1)).reverse).push (at' X (na - 1))).reverse,?_,j4.done2 e6 (by lia),sm⟩)
         simp [Array.map_reverse]
        ·rw [if_neg e6]
         have fin:∀ m c d,∃ O' na' nb' m' c' d',((none,na - 1,k,((O.map (kas_item it)).push (kas_item it (at' Y (nb - 1))) ++ ((Y.map (kas_item it)).extract k (nb - 1)).reverse).push (kas_item it (at' X (na - 1))),m,c,d):Option (Array Keyed) × Nat × Nat × Array Keyed × Nat × Nat × Nat) = (none,na',nb',O'.map (kas_item it),m',c',d') /\ 1 <= na' /\ 1 < nb' /\ na' < X.size /\ nb' <= Y.size /\ na' + nb' + bd <= X.size + Y.size /\ JH le (X.toList ++ Y.toList) X Y O' na' nb':=fun m c d=>⟨_,_,_,m,c,d,by rw [eO],by lia,by lia,by lia,by lia,by lia,j4⟩
         refine bP ?_ ?_
         ·exact wpS_pure (.inr ⟨sm,fin _ _ _⟩)
         ·exact wpS_pure ⟨sm,fin _ _ _⟩
       ·rw [if_neg k0]
        have k00:k = nb - 1:=by lia
        subst k00
        refine wpS_bind (aM (by lia) ?_)
        have j4:=j2.one (by lia) (by lia) fun i h1=>k2 i h1
        have eO:((O.map (kas_item it)).push (kas_item it (at' Y (nb - 1)))).push (kas_item it (at' X (na - 1))) = ((O.push (at' Y (nb - 1))).push (at' X (na - 1))).map (kas_item it):=by simp
        by_cases e6:na - 1 = 0
        ·rw [if_pos e6]
         refine wpS_pure (.inl ⟨X.extract 0 (na - 1) ++ Y.extract 0 (nb - 1) ++ ((O.push (at' Y (nb - 1))).push (at' X (na - 1))).reverse,?_,j4.done2 e6 (by lia),sm⟩)
         simp [Array.map_reverse]
        ·rw [if_neg e6]
         have fin:∀ m c d,∃ O' na' nb' m' c' d',((none,na - 1,nb - 1,((O.map (kas_item it)).push (kas_item it (at' Y (nb - 1)))).push (kas_item it (at' X (na - 1))),m,c,d):Option (Array Keyed) × Nat × Nat × Array Keyed × Nat × Nat × Nat) = (none,na',nb',O'.map (kas_item it),m',c',d') /\ 1 <= na' /\ 1 < nb' /\ na' < X.size /\ nb' <= Y.size /\ na' + nb' + bd <= X.size + Y.size /\ JH le (X.toList ++ Y.toList) X Y O' na' nb':=fun m c d=>⟨_,_,_,m,c,d,by rw [eO],by lia,by lia,by lia,by lia,by lia,j4⟩
         refine bP ?_ ?_
         ·exact wpS_pure (.inr ⟨sm,fin _ _ _⟩)
         ·exact wpS_pure ⟨sm,fin _ _ _⟩
    ·rw [if_neg hm]
     refine wpS_bind (wpS_modify ?_)
     replace sm:=sm.g (m)
     refine wpS_bind (aM (by lia) ?_)
     refine wpS_bind (cB o hc sm.1 hx (hy (nb - 1) (by lia)) (by lia) (by lia) (fun i k h1 h2=>sx _ _ (by lia) (by lia)) fun k k1 k2 k3=>?_)
     dsimp only
     simp only [Nat.zero_add] at k2 k3
     by_cases k0:na - k > 0
     ·rw [if_pos k0]
      replace j:=j.blk (m:=k) (by lia) (by lia) fun i l h1 h2 h3=>o.tr _ _ _ (sy l (nb - 1) (by lia) (by lia)) (k3 i h1 h2)
      have eO:O.map (kas_item it) ++ ((X.map (kas_item it)).extract k na).reverse = (O ++ (X.extract k na).reverse).map (kas_item it):=by simp [Array.map_reverse]
      rw [eO]
      by_cases e1:k = 0
      ·rw [if_pos e1]
       refine wpS_pure (.inl ⟨X.extract 0 k ++ Y.extract 0 nb ++ (O ++ (X.extract k na).reverse).reverse,?_,j.done2 e1 (by lia),sm⟩)
       simp [Array.map_reverse]
      rw [if_neg e1]
      have la2:1 <= k:=by lia
      have lx2:k < X.size:=by lia
      have ls2:k + nb + bd <= X.size + Y.size:=by lia
      have ky:∀ i,i < k -> le (at' X i) (at' Y (nb - 1)):=k2
      clear k2 k3 eO e1
      generalize O ++ (X.extract k na).reverse = O at j ⊢
      generalize na - k = kk at k0 ⊢
      clear k0 k1 la lx ls
      have la:=la2
      have lx:=lx2
      have ls:=ls2
      clear la2 lx2 ls2
      obtain ⟨na,hna⟩:∃ na,na = k:=⟨k,rfl⟩
      subst hna
      refine wpS_bind (aM (by lia) ?_)
      have j2:JH le (X.toList ++ Y.toList) X Y (O.push (at' Y (nb - 1))) na (nb - 1):=(j.sy.one (by lia) (by lia) fun i h1=>ky i h1).sy
      by_cases e3:nb - 1 = 1
      ·rw [if_pos e3]
       refine wpS_pure (.inl ⟨Y.extract 0 (nb - 1) ++ X.extract 0 na ++ (O.push (at' Y (nb - 1))).reverse,?_,j2.first e3 (by lia) (by lia) hf,sm⟩)
       simp [Array.map_reverse]
      ·rw [if_neg e3]
       refine wpS_bind (aM (by lia) ?_)
       refine wpS_bind (cB o hc sm.1 hy (hx (na - 1) (by lia)) (by lia) (by lia) (fun i k h1 h2=>sy _ _ (by lia) (by lia)) fun k k1 k2 k3=>?_)
       dsimp only
       simp only [Nat.zero_add] at k2 k3
       have j3:JH le (X.toList ++ Y.toList) X Y (O.push (at' Y (nb - 1)) ++ (Y.extract k (nb - 1)).reverse) na k:=(j2.sy.blk (by lia) (by lia) fun i l h1 h2 h3=>o.tr _ _ _ (sx l (na - 1) (by lia) (by lia)) (k3 i h1 h2)).sy
       by_cases k0:nb - 1 - k > 0
       ·rw [if_pos k0]
        by_cases e4:k = 1
        ·rw [if_pos e4]
         refine wpS_pure (.inl ⟨Y.extract 0 k ++ X.extract 0 na ++ (O.push (at' Y (nb - 1)) ++ (Y.extract k (nb - 1)).reverse).reverse,?_,j3.first e4 (by lia) (by lia) hf,sm⟩)
         simp [Array.map_reverse]
        rw [if_neg e4]
        by_cases e5:k = 0
        ·rw [if_pos e5]
         refine wpS_pure (.inl ⟨X.extract 0 na ++ Y.extract 0 k ++ (O.push (at' Y (nb - 1)) ++ (Y.extract k (nb - 1)).reverse).reverse,?_,j3.done1 e5 (by lia),sm⟩)
         simp [Array.map_reverse]
        rw [if_neg e5]
        refine wpS_bind (aM (by lia) ?_)
        have j4:=j3.one (by lia) (by lia) fun i h1=>k2 i h1
        have eO:((O.map (kas_item it)).push (kas_item it (at' Y (nb - 1))) ++ ((Y.map (kas_item it)).extract k (nb - 1)).reverse).push (kas_item it (at' X (na - 1))) = ((O.push (at' Y (nb - 1)) ++ (Y.extract k (nb - 1)).reverse).push (at' X (na - 1))).map (kas_item it):=by simp [Array.map_reverse]
        by_cases e6:na - 1 = 0
        ·rw [if_pos e6]
         refine wpS_pure (.inl ⟨X.extract 0 (na - 1) ++ Y.extract 0 k ++ ((O.push (at' Y (nb - 1)) ++ (Y.extract k (nb - 1)).reverse).push (at' X (na - 1))).reverse,?_,j4.done2 e6 (by lia),sm⟩)
         simp [Array.map_reverse]
        ·rw [if_neg e6]
         have fin:∀ m c d,∃ O' na' nb' m' c' d',((none,na - 1,k,((O.map (kas_item it)).push (kas_item it (at' Y (nb - 1))) ++ ((Y.map (kas_item it)).extract k (nb - 1)).reverse).push (kas_item it (at' X (na - 1))),m,c,d):Option (Array Keyed) × Nat × Nat × Array Keyed × Nat × Nat × Nat) = (none,na',nb',O'.map (kas_item it),m',c',d') /\ 1 <= na' /\ 1 < nb' /\ na' < X.size /\ nb' <= Y.size /\ na' + nb' + bd <= X.size + Y.size /\ JH le (X.toList ++ Y.toList) X Y O' na' nb':=fun m c d=>⟨_,_,_,m,c,d,by rw [eO],by lia,by lia,by lia,by lia,by lia,j4⟩
         refine bP ?_ ?_
         ·exact wpS_pure (.inr ⟨sm,fin _ _ _⟩)
         ·exact wpS_pure ⟨sm,fin _ _ _⟩
       ·rw [if_neg k0]
        have k00:k = nb - 1:=by lia
        subst k00
        refine wpS_bind (aM (by lia) ?_)
        have j4:=j2.one (by lia) (by lia) fun i h1=>k2 i h1
        have eO:((O.map (kas_item it)).push (kas_item it (at' Y (nb - 1)))).push (kas_item it (at' X (na - 1))) = ((O.push (at' Y (nb - 1))).push (at' X (na - 1))).map (kas_item it):=by simp
        by_cases e6:na - 1 = 0
        ·rw [if_pos e6]
         refine wpS_pure (.inl ⟨X.extract 0 (na - 1) ++ Y.extract 0 (nb - 1) ++ ((O.push (at' Y (nb - 1))).push (at' X (na - 1))).reverse,?_,j4.done2 e6 (by lia),sm⟩)
         simp [Array.map_reverse]
        ·rw [if_neg e6]
         have fin:∀ m c d,∃ O' na' nb' m' c' d',((none,na - 1,nb - 1,((O.map (kas_item it)).push (kas_item it (at' Y (nb - 1)))).push (kas_item it (at' X (na - 1))),m,c,d):Option (Array Keyed) × Nat × Nat × Array Keyed × Nat × Nat × Nat) = (none,na',nb',O'.map (kas_item it),m',c',d') /\ 1 <= na' /\ 1 < nb' /\ na' < X.size /\ nb' <= Y.size /\ na' + nb' + bd <= X.size + Y.size /\ JH le (X.toList ++ Y.toList) X Y O' na' nb':=fun m c d=>⟨_,_,_,m,c,d,by rw [eO],by lia,by lia,by lia,by lia,by lia,j4⟩
         refine bP ?_ ?_
         ·exact wpS_pure (.inr ⟨sm,fin _ _ _⟩)
         ·exact wpS_pure ⟨sm,fin _ _ _⟩
     ·rw [if_neg k0]
      have k00:na = k:=by lia
      subst k00
      have ky:∀ i,i < na -> le (at' X i) (at' Y (nb - 1)):=k2
      refine wpS_bind (aM (by lia) ?_)
      have j2:JH le (X.toList ++ Y.toList) X Y (O.push (at' Y (nb - 1))) na (nb - 1):=(j.sy.one (by lia) (by lia) fun i h1=>ky i h1).sy
      by_cases e3:nb - 1 = 1
      ·rw [if_pos e3]
       refine wpS_pure (.inl ⟨Y.extract 0 (nb - 1) ++ X.extract 0 na ++ (O.push (at' Y (nb - 1))).reverse,?_,j2.first e3 (by lia) (by lia) hf,sm⟩)
       simp [Array.map_reverse]
      ·rw [if_neg e3]
       refine wpS_bind (aM (by lia) ?_)
       refine wpS_bind (cB o hc sm.1 hy (hx (na - 1) (by lia)) (by lia) (by lia) (fun i k h1 h2=>sy _ _ (by lia) (by lia)) fun k k1 k2 k3=>?_)
       dsimp only
       simp only [Nat.zero_add] at k2 k3
       have j3:JH le (X.toList ++ Y.toList) X Y (O.push (at' Y (nb - 1)) ++ (Y.extract k (nb - 1)).reverse) na k:=(j2.sy.blk (by lia) (by lia) fun i l h1 h2 h3=>o.tr _ _ _ (sx l (na - 1) (by lia) (by lia)) (k3 i h1 h2)).sy
       by_cases k0:nb - 1 - k > 0
       ·rw [if_pos k0]
        by_cases e4:k = 1
        ·rw [if_pos e4]
         refine wpS_pure (.inl ⟨Y.extract 0 k ++ X.extract 0 na ++ (O.push (at' Y (nb - 1)) ++ (Y.extract k (nb - 1)).reverse).reverse,?_,j3.first e4 (by lia) (by lia) hf,sm⟩)
         simp [Array.map_reverse]
        rw [if_neg e4]
        by_cases e5:k = 0
        ·rw [if_pos e5]
         refine wpS_pure (.inl ⟨X.extract 0 na ++ Y.extract 0 k ++ (O.push (at' Y (nb - 1)) ++ (Y.extract k (nb - 1)).reverse).reverse,?_,j3.done1 e5 (by lia),sm⟩)
         simp [Array.map_reverse]
        rw [if_neg e5]
        refine wpS_bind (aM (by lia) ?_)
        have j4:=j3.one (by lia) (by lia) fun i h1=>k2 i h1
        have eO:((O.map (kas_item it)).push (kas_item it (at' Y (nb - 1))) ++ ((Y.map (kas_item it)).extract k (nb - 1)).reverse).push (kas_item it (at' X (na - 1))) = ((O.push (at' Y (nb - 1)) ++ (Y.extract k (nb - 1)).reverse).push (at' X (na - 1))).map (kas_item it):=by simp [Array.map_reverse]
        by_cases e6:na - 1 = 0
        ·rw [if_pos e6]
         refine wpS_pure (.inl ⟨X.extract 0 (na - 1) ++ Y.extract 0 k ++ ((O.push (at' Y (nb - 1)) ++ (Y.extract k (nb - 1)).reverse).push (at' X (na - 1))).reverse,?_,j4.done2 e6 (by lia),sm⟩)
         simp [Array.map_reverse]
        ·rw [if_neg e6]
         have fin:∀ m c d,∃ O' na' nb' m' c' d',((none,na - 1,k,((O.map (kas_item it)).push (kas_item it (at' Y (nb - 1))) ++ ((Y.map (kas_item it)).extract k (nb - 1)).reverse).push (kas_item it (at' X (na - 1))),m,c,d):Option (Array Keyed) × Nat × Nat × Array Keyed × Nat × Nat × Nat) = (none,na',nb',O'.map (kas_item it),m',c',d') /\ 1 <= na' /\ 1 < nb' /\ na' < X.size /\ nb' <= Y.size /\ na' + nb' + bd <= X.size + Y.size /\ JH le (X.toList ++ Y.toList) X Y O' na' nb':=fun m c d=>⟨_,_,_,m,c,d,by rw [eO],by lia,by lia,by lia,by lia,by lia,j4⟩
         refine bP ?_ ?_
         ·exact wpS_pure (.inr ⟨sm,fin _ _ _⟩)
         ·exact wpS_pure ⟨sm,fin _ _ _⟩
       ·rw [if_neg k0]
        have k00:k = nb - 1:=by lia
        subst k00
        refine wpS_bind (aM (by lia) ?_)
        have j4:=j2.one (by lia) (by lia) fun i h1=>k2 i h1
        have eO:((O.map (kas_item it)).push (kas_item it (at' Y (nb - 1)))).push (kas_item it (at' X (na - 1))) = ((O.push (at' Y (nb - 1))).push (at' X (na - 1))).map (kas_item it):=by simp
        by_cases e6:na - 1 = 0
        ·rw [if_pos e6]
         refine wpS_pure (.inl ⟨X.extract 0 (na - 1) ++ Y.extract 0 (nb - 1) ++ ((O.push (at' Y (nb - 1))).push (at' X (na - 1))).reverse,?_,j4.done2 e6 (by lia),sm⟩)
         simp [Array.map_reverse]
        ·rw [if_neg e6]
         have fin:∀ m c d,∃ O' na' nb' m' c' d',((none,na - 1,nb - 1,((O.map (kas_item it)).push (kas_item it (at' Y (nb - 1)))).push (kas_item it (at' X (na - 1))),m,c,d):Option (Array Keyed) × Nat × Nat × Array Keyed × Nat × Nat × Nat) = (none,na',nb',O'.map (kas_item it),m',c',d') /\ 1 <= na' /\ 1 < nb' /\ na' < X.size /\ nb' <= Y.size /\ na' + nb' + bd <= X.size + Y.size /\ JH le (X.toList ++ Y.toList) X Y O' na' nb':=fun m c d=>⟨_,_,_,m,c,d,by rw [eO],by lia,by lia,by lia,by lia,by lia,j4⟩
         refine bP ?_ ?_
         ·exact wpS_pure (.inr ⟨sm,fin _ _ _⟩)
         ·exact wpS_pure ⟨sm,fin _ _ _⟩
end
section
variable {α:Type}
theorem Ec (lo:Nat):∀ (R:List α) (p:Array α) (j:Nat),lo + j + R.length <= p.size -> ((R.zipIdx j).foldl (fun a x=>a.setIfInBounds (lo + x.2) x.1) p).toList = p.toList.take (lo + j) ++ R ++ p.toList.drop (lo + j + R.length)
 | [],p,j,_=>by simp
 | r :: R,p,j,h=>by
  have hl:lo + j < p.toList.length:=by simp at h ⊢;lia
  rw [List.zipIdx_cons,List.foldl_cons,Ec lo R _ (j + 1) (by simp at h ⊢;lia)]
  have e1:(p.setIfInBounds (lo + j) r).toList = p.toList.set (lo + j) r:=by simp
  have e2:(p.toList.set (lo + j) r).take (lo + (j + 1)) = p.toList.take (lo + j) ++ [r]:=by
   rw [<- Nat.add_assoc,List.take_succ_eq_append_getElem (by simpa using hl),List.take_set_of_le (Nat.le_refl _)]
   simp
  have e3:(p.toList.set (lo + j) r).drop (lo + (j + 1) + R.length) = p.toList.drop (lo + j + (r :: R).length):=by
   rw [List.drop_set_of_lt (by lia),List.length_cons]
   congr 1;lia
  rw [e1,e2,e3]
  simp
end
section
variable {prog:Program} {w:World} {A:Around} {E:Value -> Shared -> Prop} {s:Shared} {κ:SortKind} {it:Array Keyed} {n:Nat} {lt:Nat -> Nat -> Bool} {le:Nat -> Nat -> Prop}
def Stt (κ:SortKind) (it:Array Keyed) (st:SortSt) (p:Array Nat) (pend:Array (Nat × Nat × Nat)):Prop:=kindOf st = κ /\ arrOf st = p.map (kas_item it) /\ pendingOf st = pend /\ failedOf st = none
structure Srtd (le:Nat -> Nat -> Prop) (p p':Array Nat) (lo hi:Nat):Prop where
 perm:p'.Perm p
 out:∀ k,k < lo \/ hi <= k -> at' p' k = at' p k
 asc:∀ i j,lo <= i -> i <= j -> j < hi -> le (at' p' i) (at' p' j)
theorem Go {σ:Type} {M:Model} {x:σ} {Q:PUnit -> σ -> Prop} {st:σ} (h:Q ⟨⟩ x):wpS M A E s (set x:StateT σ Sem PUnit) Q st:=by
 unfold wpS
 rw [StateT.run_set]
 exact wpAny_pure ⟨rfl,h⟩
theorem LJ (l:List Nat) (k:Nat):at' l.toArray k = (l[k]?).getD 0:=by simp [at']
theorem IZ (p:Array Nat) (k:Nat):at' p k = (p.toList[k]?).getD 0:=by simp [at']
theorem Bi {p:Array Nat} {R:List Nat} {lo:Nat} (h:lo + R.length <= p.size) (k:Nat):at' (p.toList.take lo ++ R ++ p.toList.drop (lo + R.length)).toArray k = if lo <= k /\ k < lo + R.length then (R[k - lo]?).getD 0 else at' p k:=by
 rw [LJ,IZ]
 have hl:(p.toList.take lo).length = lo:=by rw [List.length_take];simp;lia
 by_cases h1:k < lo
 ·rw [if_neg (by lia),List.append_assoc,List.getElem?_append_left (by lia),List.getElem?_take,if_pos h1]
 ·by_cases h2:k < lo + R.length
  ·rw [if_pos ⟨by lia,h2⟩,List.append_assoc,List.getElem?_append_right (by lia),hl,List.getElem?_append_left (by lia)]
  ·rw [if_neg (by lia),List.getElem?_append_right (by rw [List.length_append,hl];lia),List.length_append,hl,List.getElem?_drop]
   congr 2;lia
theorem Ee {p:Array Nat} {R:List Nat} {lo:Nat} (h:R.Perm (p.extract lo (lo + R.length)).toList):(p.toList.take lo ++ R ++ p.toList.drop (lo + R.length)).toArray.Perm p:=by
 rw [Array.perm_iff_toList_perm]
 show (p.toList.take lo ++ R ++ p.toList.drop (lo + R.length)).Perm p.toList
 refine ((h.append_left _).append_right _).trans ?_
 rw [<- ml (by lia),List.take_append_drop]
theorem F4 {p:Array Nat} {i j k:Nat} (h:i + k < j):at' (p.extract i j) k = at' p (i + k):=by
 rw [IZ,IZ,Array.toList_extract,List.extract_eq_take_drop,List.getElem?_take,if_pos (by lia),List.getElem?_drop]
theorem zj {p:Array Nat} {i j:Nat} (h:j <= p.size):(p.extract i j).size = j - i:=by simp;lia
theorem Dr (o:Ord lt le) (hc:vI prog w A s κ it n lt) {i sa na pw sb nb q:Nat} {p:Array Nat} {pend:Array (Nat × Nat × Nat)} {Q:Bool -> SortSt -> Prop} {st:SortSt} (S:Stt κ it st p pend) (h1:pend[i]? = some (sa,na,pw)) (h2:pend[i + 1]? = some (sb,nb,q))
  (hsb:sb = sa + na) (na1:1 <= na) (nb1:1 <= nb) (hz:sb + nb <= p.size) (hp:∀ i,i < p.size -> at' p i < n) (sA:∀ i j,i <= j -> j < na -> le (at' p (sa + i)) (at' p (sa + j))) (sB:∀ i j,i <= j -> j < nb -> le (at' p (sb + i)) (at' p (sb + j)))
  (h:∀ p' st',Stt κ it st' p' ((pend.setIfInBounds i (sa,na + nb,pw)).eraseIdxIfInBounds (i + 1)) -> Srtd le p p' sa (sa + (na + nb)) -> Q true st'):wpS (model prog w) A E s (mergeAt' i) Q st:=by
 obtain ⟨S1,S2,S3,S4⟩:=S
 refine wpS_bind (wpS_get ?_)
 have S3':(sortPriv% PySem.Builtin.SortState.pending) st = pend:=S3
 have S2':(sortPriv% PySem.Builtin.SortState.a) st = p.map (kas_item it):=S2
 rw [S3',h1,h2]
 refine wpS_bind (Go ?_)
 rw [S2']
 generalize hst:(sortPriv% PySem.Builtin.SortState.mk) _ _ _ _ _ = st2
 have T:Stt κ it st2 p ((pend.setIfInBounds i (sa,na + nb,pw)).eraseIdxIfInBounds (i + 1)):=by subst hst;exact ⟨S1,rfl,rfl,S4⟩
 clear hst S1 S2 S3 S4 S2' S3' h1 h2
 generalize ((pend.setIfInBounds i (sa,na + nb,pw)).eraseIdxIfInBounds (i + 1)) = pend2 at T h
 have sA':∀ i j,sa <= i -> i <= j -> j < sb -> le (at' p i) (at' p j):=fun i j a1 a2 a3=>by
  have:=sA (i - sa) (j - sa) (by lia) (by lia)
  rwa [show sa + (i - sa) = i by lia,show sa + (j - sa) = j by lia] at this
 have sB':∀ i j,sb <= i -> i <= j -> j < sb + nb -> le (at' p i) (at' p j):=fun i j a1 a2 a3=>by
  have:=sB (i - sb) (j - sb) (by lia) (by lia)
  rwa [show sb + (i - sb) = i by lia,show sb + (j - sb) = j by lia] at this
 refine wpS_bind (aM (by lia) ?_)
 refine wpS_bind (cB o hc T.1 hp (hp sb (by lia)) (by lia) (by lia) sA fun k k1 k2 k3=>?_)
 have k2':∀ i,sa <= i -> i < sa + k -> le (at' p i) (at' p sb):=fun i a1 a2=>by
  have:=k2 (i - sa) (by lia)
  rwa [show sa + (i - sa) = i by lia] at this
 have k3':∀ i,sa + k <= i -> i < sb -> le (at' p sb) (at' p i):=fun i a1 a2=>by
  have:=k3 (i - sa) (by lia) (by lia)
  rwa [show sa + (i - sa) = i by lia] at this
 clear k2 k3
 dsimp only
 simp only [beq_iff_eq]
 by_cases e1:na - k = 0
 ·rw [if_pos e1]
  refine wpS_pure (h p st2 T ⟨.refl _,fun _ _=>rfl,fun i j a1 a2 a3=>?_⟩)
  by_cases b1:j < sb
  ·exact sA' i j a1 a2 b1
  ·by_cases b2:sb <= i
   ·exact sB' i j b2 a2 (by lia)
   ·exact o.tr _ _ _ (k2' i a1 (by lia)) (sB' sb j (Nat.le_refl _) (by lia) (by lia))
 rw [if_neg e1]
 refine wpS_bind (aM (by lia) ?_)
 have e2:sa + k + (na - k) - 1 = sb - 1:=by lia
 rw [e2]
 refine wpS_bind (cB o hc T.1 hp (hp (sb - 1) (by lia)) (by lia) (by lia) sB fun m m1 k2 k3=>?_)
 have m2':∀ i,sb <= i -> i < sb + m -> le (at' p i) (at' p (sb - 1)):=fun i a1 a2=>by
  have:=k2 (i - sb) (by lia)
  rwa [show sb + (i - sb) = i by lia] at this
 have m3':∀ i,sb + m <= i -> i < sb + nb -> le (at' p (sb - 1)) (at' p i):=fun i a1 a2=>by
  have:=k3 (i - sb) (by lia) (by lia)
  rwa [show sb + (i - sb) = i by lia] at this
 clear k2 k3
 dsimp only
 by_cases e3:m = 0
 ·rw [if_pos e3]
  subst e3
  refine wpS_pure (h p st2 T ⟨.refl _,fun _ _=>rfl,fun i j a1 a2 a3=>?_⟩)
  by_cases b1:j < sb
  ·exact sA' i j a1 a2 b1
  ·by_cases b2:sb <= i
   ·exact sB' i j b2 a2 (by lia)
   ·exact o.tr _ _ _ (sA' i (sb - 1) a1 (by lia) (by lia)) (m3' j (by lia) (by lia))
 rw [if_neg e3]
 generalize hr:na - k = r
 have hr1:na = k + r:=by lia
 have hr0:0 < r:=by lia
 clear hr e1 e2
 have zx:(p.extract (sa + k) sb).size = r:=by rw [zj (by lia)];lia
 have zy:(p.extract sb (sb + m)).size = m:=by rw [zj (by lia)];lia
 have ax:∀ i,i < r -> at' (p.extract (sa + k) sb) i = at' p (sa + k + i):=fun i hi=>F4 (by lia)
 have ay:∀ i,i < m -> at' (p.extract sb (sb + m)) i = at' p (sb + i):=fun i hi=>F4 (by lia)
 have exy:(p.extract (sa + k) sb).toList ++ (p.extract sb (sb + m)).toList = (p.extract (sa + k) (sb + m)).toList:=by
  have a1:=ml (X:=p) (i:=sa + k) (j:=sb) (by lia)
  have a2:=ml (X:=p) (i:=sb) (j:=sb + m) (by lia)
  have a3:=ml (X:=p) (i:=sa + k) (j:=sb + m) (by lia)
  rw [a1,a3,List.append_assoc] at a2
  exact (List.append_cancel_left a2).symm
 have key:∀ R:Array Nat,lv le ((p.extract (sa + k) sb).toList ++ (p.extract sb (sb + m)).toList) R -> R.toList.length = r + m /\ Srtd le p (p.toList.take (sa + k) ++ R.toList ++ p.toList.drop (sa + k + R.toList.length)).toArray sa (sa + (na + nb)):=fun R g=>by
  have hlen:R.toList.length = r + m:=by
   rw [g.2.length_eq,List.length_append,Array.length_toList,Array.length_toList,zx,zy]
  refine ⟨hlen,?_,fun i hi=>?_,fun i j a1 a2 a3=>?_⟩
  ·refine Ee ?_
   rw [hlen,show sa + k + (r + m) = sb + m by lia,<- exy]
   exact g.2
  ·rw [Bi (by lia),if_neg (by lia)]
  ·rw [Bi (by lia),Bi (by lia),hlen]
   have memR:∀ i,i < r + m -> ∃ c,(R.toList[i]?).getD 0 = at' p c /\ ((sa + k <= c /\ c < sb) \/ (sb <= c /\ c < sb + m)):=fun i hi=>by
    have hi':i < R.toList.length:=by lia
    have hm:R.toList[i] ∈ R.toList:=List.getElem_mem hi'
    have e:(R.toList[i]?).getD 0 = R.toList[i]:=by rw [List.getElem?_eq_getElem hi'];rfl
    rw [e]
    rcases List.mem_append.mp (g.2.mem_iff.mp hm) with hm | hm
    ·obtain ⟨c,c1,c2,c3,c4⟩:=td hm
     exact ⟨c,c4.symm,.inl ⟨c1,c2⟩⟩
    ·obtain ⟨c,c1,c2,c3,c4⟩:=td hm
     exact ⟨c,c4.symm,.inr ⟨c1,c2⟩⟩
   by_cases b1:sa + k <= i /\ i < sa + k + (r + m)
   ·rw [if_pos b1]
    by_cases b2:sa + k <= j /\ j < sa + k + (r + m)
    ·rw [if_pos b2]
     by_cases b3:i = j
     ·subst b3;exact o.rf _
     ·have:=List.pairwise_iff_getElem.mp g.1 (i - (sa + k)) (j - (sa + k)) (by lia) (by lia) (by lia)
      rw [List.getElem?_eq_getElem (by lia),List.getElem?_eq_getElem (by lia)]
      exact this
    ·rw [if_neg b2]
     obtain ⟨c,c1,c2⟩:=memR (i - (sa + k)) (by lia)
     rw [c1]
     rcases c2 with c2 | c2
     ·exact o.tr _ _ _ (sA' c (sb - 1) (by lia) (by lia) (by lia)) (m3' j (by lia) (by lia))
     ·exact sB' c j (by lia) (by lia) (by lia)
   ·rw [if_neg b1]
    by_cases b2:sa + k <= j /\ j < sa + k + (r + m)
    ·rw [if_pos b2]
     obtain ⟨c,c1,c2⟩:=memR (j - (sa + k)) (by lia)
     rw [c1]
     rcases c2 with c2 | c2
     ·exact sA' i c (by lia) (by lia) (by lia)
     ·exact o.tr _ _ _ (k2' i (by lia) (by lia)) (sB' sb c (Nat.le_refl _) (by lia) (by lia))
    ·rw [if_neg b2]
     by_cases b3:j < sb
     ·exact sA' i j a1 a2 b3
     ·by_cases b4:sb <= i
      ·exact sB' i j b4 a2 (by lia)
      ·exact o.tr _ _ _ (k2' i a1 (by lia)) (sB' sb j (Nat.le_refl _) (by lia) (by lia))
 have fin:∀ (R:Array Nat) (st3:SortSt),Same κ st2 st3 -> lv le ((p.extract (sa + k) sb).toList ++ (p.extract sb (sb + m)).toList) R ->
   Q (failedOf st3).isNone (setArr st3 ((R.map (kas_item it)).toList.zipIdx.foldl (fun a x=>a.setIfInBounds (sa + k + x.2) x.1) (arrOf st3))):=fun R st3 sm g=>by
  obtain ⟨hlen,S⟩:=key R g
  have ea:arrOf st3 = p.map (kas_item it):=sm.2.1.trans T.2.1
  have ef:failedOf st3 = none:=sm.2.2.2.trans T.2.2.2
  rw [ef]
  refine h _ _ ⟨sm.1,?_,sm.2.2.1.trans T.2.2.1,ef⟩ S
  show (R.map (kas_item it)).toList.zipIdx.foldl (fun a x=>a.setIfInBounds (sa + k + x.2) x.1) (arrOf st3) = _
  rw [ea]
  apply Array.toList_inj.mp
  rw [Ec (sa + k) _ _ 0 (by simp at hlen ⊢;lia)]
  simp
 have cx:(p.map (kas_item it)).extract (sa + k) sb = (p.extract (sa + k) sb).map (kas_item it):=by simp
 have cy:(p.map (kas_item it)).extract sb (sb + m) = (p.extract sb (sb + m)).map (kas_item it):=by simp
 rw [cx,cy]
 have hx:∀ i,i < (p.extract (sa + k) sb).size -> at' (p.extract (sa + k) sb) i < n:=fun i hi=>by rw [ax i (by lia)];exact hp _ (by lia)
 have hy:∀ i,i < (p.extract sb (sb + m)).size -> at' (p.extract sb (sb + m)) i < n:=fun i hi=>by rw [ay i (by lia)];exact hp _ (by lia)
 have sx:∀ i j,i <= j -> j < (p.extract (sa + k) sb).size -> le (at' (p.extract (sa + k) sb) i) (at' (p.extract (sa + k) sb) j):=fun i j a1 a2=>by rw [ax i (by lia),ax j (by lia)];exact sA' _ _ (by lia) (by lia) (by lia)
 have sy:∀ i j,i <= j -> j < (p.extract sb (sb + m)).size -> le (at' (p.extract sb (sb + m)) i) (at' (p.extract sb (sb + m)) j):=fun i j a1 a2=>by rw [ay i (by lia),ay j (by lia)];exact sB' _ _ (by lia) (by lia) (by lia)
 have hf:∀ i,i < (p.extract (sa + k) sb).size -> le (at' (p.extract sb (sb + m)) 0) (at' (p.extract (sa + k) sb) i):=fun i a1=>by rw [ay 0 (by lia),ax i (by lia)];exact k3' _ (by lia) (by lia)
 have hl:∀ i,i < (p.extract sb (sb + m)).size -> le (at' (p.extract sb (sb + m)) i) (at' (p.extract (sa + k) sb) ((p.extract (sa + k) sb).size - 1)):=fun i a1=>by
  rw [zx,ay i (by lia),ax _ (by lia),show sa + k + (r - 1) = sb - 1 by lia]
  exact m2' _ (by lia) (by lia)
 by_cases e4:r <= m
 ·rw [if_pos e4]
  refine wpS_bind (D0 o hc T.1 hx hy (by lia) (by lia) sx sy hf hl fun R st3 sm g=>?_)
  exact wpS_bind (wpS_modify (wpS_bind (wpS_get (wpS_pure (fin R st3 sm g)))))
 ·rw [if_neg e4]
  refine wpS_bind (Dq o hc T.1 hx hy (by lia) (by lia) sx sy hf hl fun R st3 sm g=>?_)
  exact wpS_bind (wpS_modify (wpS_bind (wpS_get (wpS_pure (fin R st3 sm g)))))
end
section
variable {le:Nat -> Nat -> Prop} {lt:Nat -> Nat -> Bool} {p p' p2:Array Nat} {a b c:Nat}
def Up (le:Nat -> Nat -> Prop) (p:Array Nat) (a b:Nat):Prop:=∀ i j,a <= i -> i <= j -> j < b -> le (at' p i) (at' p j)
def Dn (le:Nat -> Nat -> Prop) (p:Array Nat) (a b:Nat):Prop:=∀ i j,a <= i -> i <= j -> j < b -> le (at' p j) (at' p i)
def Es (le:Nat -> Nat -> Prop) (p:Array Nat) (a b:Nat):Prop:=∀ k,a <= k -> k < b -> le (at' p k) (at' p (b - 1)) /\ le (at' p (b - 1)) (at' p k)
def Near (p p':Array Nat) (lo hi:Nat):Prop:=p'.Perm p /\ ∀ k,k < lo \/ hi <= k -> at' p' k = at' p k
theorem Near.rf:Near p p a b:=⟨.refl _,fun _ _=>rfl⟩
theorem Near.tr (h:Near p p' a b) (h2:Near p' p2 a b):Near p p2 a b:=⟨h2.1.trans h.1,fun k hk=>(h2.2 k hk).trans (h.2 k hk)⟩
theorem Near.wide {d e:Nat} (h:Near p p' a b) (h1:d <= a) (h2:b <= e):Near p p' d e:=⟨h.1,fun k hk=>h.2 k (by lia)⟩
theorem Near.size (h:Near p p' a b):p'.size = p.size:=h.1.size_eq
theorem fW (h:b <= p.size):Near p (kas_rev p a b) a b:=⟨mirror_perm _ _ _ _,fun k hk=>by rw [cc h,if_neg (by lia)]⟩
theorem Ar {d:Nat} (h:b < p.size) (hd:d <= b):Near p (bubble p b d) (b - d) (b + 1):=⟨bubble_perm _ _ _,fun k hk=>by rw [qY h hd,if_neg (by lia),if_neg (by lia)]⟩
theorem Up.succ (o:Ord lt le) (h:Up le p a b) (hab:a < b) (hl:le (at' p (b - 1)) (at' p b)):Up le p a (b + 1):=fun i j h1 h2 h3=>by
 by_cases e:j = b
 ·subst e
  by_cases e2:i = j
  ·subst e2;exact o.rf _
  ·exact o.tr _ _ _ (h i (j - 1) h1 (by lia) (by lia)) hl
 ·exact h i j h1 h2 (by lia)
theorem Dn.succ (o:Ord lt le) (h:Dn le p a b) (hab:a < b) (hl:le (at' p b) (at' p (b - 1))):Dn le p a (b + 1):=fun i j h1 h2 h3=>by
 by_cases e:j = b
 ·subst e
  by_cases e2:i = j
  ·subst e2;exact o.rf _
  ·exact o.tr _ _ _ hl (h i (j - 1) h1 (by lia) (by lia))
 ·exact h i j h1 h2 (by lia)
theorem IE (o:Ord lt le):Up le p a (a + 1):=fun i j h1 h2 h3=>by
 have:i = j:=by lia
 subst this;exact o.rf _
theorem Up.of (h:Up le p a b) (k:∀ i,a <= i -> i < b -> at' p' i = at' p i):Up le p' a b:=fun i j h1 h2 h3=>by
 rw [k i h1 (by lia),k j (by lia) h3];exact h i j h1 h2 h3
theorem Dn.rev (o:Ord lt le) (h:Dn le p a b) (hb:b <= p.size) (hc:a <= c) (he:Es le p c b):Dn le (kas_rev p c b) a b:=by
 have key:∀ k,a <= k -> k < b -> ∃ k',a <= k' /\ k' < b /\ at' (kas_rev p c b) k = at' p k' /\ le (at' p k') (at' p k) /\ le (at' p k) (at' p k'):=fun k hk0 hk=>by
  rw [cc hb]
  split
  ·rename_i h1
   refine ⟨c + b - 1 - k,by lia,by lia,rfl,?_⟩
   obtain ⟨a1,a2⟩:=he k h1.1 hk
   obtain ⟨b1,b2⟩:=he (c + b - 1 - k) (by lia) (by lia)
   exact ⟨o.tr _ _ _ b1 a2,o.tr _ _ _ a1 b2⟩
  ·exact ⟨k,hk0,hk,rfl,o.rf _,o.rf _⟩
 intro i j h0 hij hj
 obtain ⟨i',_,_,e1,x1,x2⟩:=key i h0 (by lia)
 obtain ⟨j',_,_,e2,y1,y2⟩:=key j (by lia) hj
 rw [e1,e2]
 exact o.tr _ _ _ y1 (o.tr _ _ _ (h i j h0 hij hj) x2)
theorem Dn.turn (h:Dn le p a b) (hb:b <= p.size):Up le (kas_rev p a b) a b:=by
 intro i j h0 hij hj
 rw [cc hb,cc hb,if_pos ⟨h0,by lia⟩,if_pos ⟨by lia,hj⟩]
 exact h _ _ (by lia) (by lia) (by lia)
theorem qH (o:Ord lt le) (h:a + 1 = b):Es le p a b:=fun k h1 h2=>by
 have:k = b - 1:=by lia
 subst this
 exact ⟨o.rf _,o.rf _⟩
end
section
variable {prog:Program} {w:World} {A:Around} {E:Value -> Shared -> Prop} {s:Shared} {κ:SortKind} {it:Array Keyed} {n:Nat} {lt:Nat -> Nat -> Bool} {le:Nat -> Nat -> Prop} {p:Array Nat} {pend:Array (Nat × Nat × Nat)} {st:SortSt}
theorem jd (hc:vI prog w A s κ it n lt) (S:Stt κ it st p pend) (hp:∀ i,i < p.size -> at' p i < n) {i j:Nat} {Q:Option Bool -> SortSt -> Prop} (hi:i < p.size) (hj:j < p.size) (h:Q (some (lt (at' p i) (at' p j))) st):wpS (model prog w) A E s (ltAt' i j) Q st:=by
 rw [ltAt'_eq]
 refine wpS_bind (wpS_get ?_)
 dsimp only
 rw [S.2.1]
 exact wpS_bind (aM hi (wpS_bind (aM hj (w_lt hc S.1 (hp _ hi) (hp _ hj) h))))
theorem o8 (S:Stt κ it st p pend) {i j:Nat} {Q:Unit -> SortSt -> Prop} (h:∀ st',Stt κ it st' (kas_rev p i j) pend -> Q () st'):wpS (model prog w) A E s (reverseSlice' i j) Q st:=by
 rw [reverseSlice'_eq]
 refine wpS_modify (h _ ⟨S.1,?_,S.2.2⟩)
 show mirror (arrOf st) i j ((j - i) / 2) = _
 rw [S.2.1]
 exact kas_swaps_map (kas_item it) (fun k=>i + k) (fun k=>j - 1 - k) _ p
theorem Ij (S:Stt κ it st p pend) {i j:Nat} {Q:Unit -> SortSt -> Prop} (h:∀ st',Stt κ it st' (bubble p i (i - j)) pend -> Q () st'):wpS (model prog w) A E s (moveDown' i j) Q st:=by
 rw [moveDown'_eq]
 refine wpS_modify (h _ ⟨S.1,?_,S.2.2⟩)
 show bubble (arrOf st) i (i - j) = _
 rw [S.2.1]
 exact kas_swaps_map (kas_item it) (fun k=>i - k) (fun k=>i - k - 1) _ p
theorem KW (o:Ord lt le) (hc:vI prog w A s κ it n lt) (S:Stt κ it st p pend) (hp:∀ p':Array Nat,p'.Perm p -> ∀ i,i < p'.size -> at' p' i < n) {lo m ok:Nat} {Q:Bool -> SortSt -> Prop} (hz:lo + m <= p.size) (hok:ok <= m) (ok1:1 <= ok) (hs:Up le p lo (lo + ok))
  (h:∀ p' st',Stt κ it st' p' pend -> Near p p' lo (lo + m) -> Up le p' lo (lo + m) -> Q true st'):wpS (model prog w) A E s (binarySort' lo m ok) Q st:=by
 refine wpS_bind (wpS_mono (wpS_forRange (I:=fun k c st'=>c = (none,()) /\ ∃ p',Stt κ it st' p' pend /\ Near p p' lo (lo + m) /\ Up le p' lo (lo + min k m))
  (Q:=fun c st'=>c = (none,()) /\ ∃ p',Stt κ it st' p' pend /\ Near p p' lo (lo + m) /\ Up le p' lo (lo + m)) ?step ?fin ?init) ?post)
 case post=>
  rintro c st' ⟨rfl,p',S',N,U⟩
  exact wpS_pure (h p' st' S' N U)
 case init=>exact ⟨rfl,p,S,.rf,by rw [show min (max ok 1) m = ok by lia];exact hs⟩
 case fin=>
  rintro c st' ⟨hc',p',S',N,U⟩
  exact ⟨hc',p',S',N,by rwa [show min (max (max ok 1) m) m = m by lia] at U⟩
 case step=>
  rintro k c st' hak hkn ⟨rfl,p',S',N,U⟩
  rw [show min k m = k by lia] at U
  have hsz:=N.size
  have hk1:1 <= k:=by lia
  have hkm:k < m:=by lia
  clear hak hkn hok ok1 hs
  refine wpS_bind (wpS_mono (wpS_forRange (I:=fun x c st''=>st'' = st' /\ ∃ l r,c = (none,l,r) /\ l <= r /\ r <= k /\ r - l <= k - x /\
    (∀ i,i < l -> le (at' p' (lo + i)) (at' p' (lo + k))) /\ (∀ i,r <= i -> i < k -> le (at' p' (lo + k)) (at' p' (lo + i))))
   (Q:=fun c st''=>st'' = st' /\ ∃ l r,c = (none,l,r) /\ l <= k /\
    (∀ i,i < l -> le (at' p' (lo + i)) (at' p' (lo + k))) /\ (∀ i,l <= i -> i < k -> le (at' p' (lo + k)) (at' p' (lo + i)))) ?istep ?ifin ?iinit) ?ipost)
  case iinit=>exact ⟨rfl,0,k,rfl,by lia,by lia,by lia,fun i hi=>by lia,fun i h1 h2=>by lia⟩
  case ifin=>
   rintro c st'' ⟨rfl,l,r,rfl,hlr,hrk,hm,hlo,hhi⟩
   have:l = r:=by lia
   subst this
   exact ⟨rfl,l,l,rfl,hrk,hlo,hhi⟩
  case istep=>
   rintro x c st'' _ hxk ⟨rfl,l,r,rfl,hlr,hrk,hm,hlo,hhi⟩
   dsimp only
   by_cases hge:l ≥ r
   ·rw [if_pos hge]
    have:l = r:=by lia
    subst this
    exact wpS_pure ⟨rfl,l,l,rfl,hrk,hlo,hhi⟩
   ·rw [if_neg hge]
    refine wpS_bind (jd hc S' (hp _ N.1) (by lia) (by lia) ?_)
    dsimp only
    cases cw:lt (at' p' (lo + k)) (at' p' (lo + (l + r) / 2)) with
    | true=>
     rw [if_pos rfl]
     exact wpS_pure ⟨rfl,l,(l + r) / 2,rfl,by lia,by lia,by lia,hlo,fun i h1 h2=>o.tr _ _ _ (o.yes _ _ cw) (U _ _ (by lia) (by lia) (by lia))⟩
    | false=>
     rw [if_neg (by decide)]
     exact wpS_pure ⟨rfl,(l + r) / 2 + 1,r,rfl,by lia,by lia,by lia,fun i h1=>o.tr _ _ _ (U _ _ (by lia) (by lia) (by lia)) (o.no _ _ cw),hhi⟩
  case ipost=>
   rintro c st'' ⟨rfl,l,r,rfl,hlk,hlo,hhi⟩
   dsimp only
   refine wpS_bind (Ij S' fun st3 S3=>wpS_pure ⟨rfl,_,S3,N.tr ((Ar (by lia) (by lia)).wide (by lia) (by lia)),?_⟩)
   rw [show min (k + 1) m = k + 1 by lia,show lo + k - (lo + l) = k - l by lia]
   intro i j h1 h2 h3
   rw [qY (by lia) (by lia),qY (by lia) (by lia)]
   rw [show lo + k - (k - l) = lo + l by lia]
   by_cases i1:i = lo + l
   ·rw [if_pos i1]
    by_cases j1:j = lo + l
    ·rw [if_pos j1];exact o.rf _
    ·rw [if_neg j1]
     rw [if_pos (by lia)]
     have:=hhi (j - 1 - lo) (by lia) (by lia)
     rwa [show lo + (j - 1 - lo) = j - 1 by lia] at this
   ·rw [if_neg i1]
    by_cases j1:j = lo + l
    ·rw [if_pos j1,if_neg (by lia)]
     have:=hlo (i - lo) (by lia)
     rwa [show lo + (i - lo) = i by lia] at this
    ·rw [if_neg j1]
     by_cases i2:lo + l < i /\ i <= lo + k
     ·rw [if_pos i2,if_pos (by lia)]
      exact U _ _ (by lia) (by lia) (by lia)
     ·rw [if_neg i2]
      by_cases j2:lo + l < j /\ j <= lo + k
      ·rw [if_pos j2]
       exact U _ _ (by lia) (by lia) (by lia)
      ·rw [if_neg j2]
       exact U _ _ (by lia) (by lia) (by lia)
end
section
variable {prog:Program} {w:World} {A:Around} {E:Value -> Shared -> Prop} {s:Shared} {κ:SortKind} {it:Array Keyed} {n:Nat} {lt:Nat -> Nat -> Bool} {le:Nat -> Nat -> Prop} {p:Array Nat} {pend:Array (Nat × Nat × Nat)} {st:SortSt}
theorem Gi (o:Ord lt le) (hc:vI prog w A s κ it n lt) (S:Stt κ it st p pend) (hp:∀ p':Array Nat,p'.Perm p -> ∀ i,i < p'.size -> at' p' i < n) {lo nrem:Nat} {Q:Option Nat -> SortSt -> Prop} (h1:1 <= nrem) (hz:lo + nrem <= p.size)
  (h:∀ m p' st',Stt κ it st' p' pend -> 1 <= m -> m <= nrem -> Near p p' lo (lo + m) -> Up le p' lo (lo + m) -> Q (some m) st'):wpS (model prog w) A E s (countRun' lo nrem) Q st:=by
 refine wpS_bind (wpS_mono (wpS_forRange (I:=fun x c st'=>st' = st /\ c = (none,x) /\ x <= nrem /\ Up le p lo (lo + x))
  (Q:=fun c st'=>st' = st /\ ∃ m,c = (none,m) /\ 1 <= m /\ m <= nrem /\ Up le p lo (lo + m) /\ (m < nrem -> le (at' p (lo + m)) (at' p (lo + m - 1)))) ?s1 ?f1 ?i1) ?p1)
 case i1=>exact ⟨rfl,rfl,h1,IE o⟩
 case f1=>
  rintro c st' ⟨rfl,rfl,k1,k2⟩
  exact ⟨rfl,_,rfl,by lia,k1,k2,fun _=>by lia⟩
 case s1=>
  rintro x c st' hx0 hx ⟨rfl,rfl,k1,k2⟩
  dsimp only
  refine wpS_bind (jd hc S (hp p (.refl _)) (by lia) (by lia) ?_)
  dsimp only
  cases cw:lt (at' p (lo + x)) (at' p (lo + x - 1)) with
  | true=>
   rw [if_pos rfl]
   exact wpS_pure ⟨rfl,x,rfl,hx0,k1,k2,fun _=>o.yes _ _ cw⟩
  | false=>
   rw [if_neg (by decide)]
   exact wpS_pure ⟨rfl,rfl,by lia,Up.succ (b:=lo + x) o k2 (by lia) (o.no _ _ cw)⟩
 case p1=>
  rintro c st' ⟨rfl,m,rfl,m1,m2,U,hd⟩
  dsimp only
  simp only [beq_iff_eq]
  by_cases e1:m = nrem
  ·rw [if_pos e1]
   exact wpS_pure (h m p st' S m1 m2 .rf U)
  rw [if_neg e1]
  have e1':m < nrem:=by lia
  clear e1
  by_cases e2:m > 1
  ·rw [if_pos e2]
   refine wpS_bind (jd hc S (hp p (.refl _)) (by lia) (by lia) ?_)
   dsimp only
   cases cw:lt (at' p lo) (at' p (lo + m - 1)) with
   | true=>
    rw [if_pos rfl]
    exact wpS_pure (h m p st' S m1 m2 .rf U)
   | false=>
    rw [if_neg (by decide)]
    have g0:=o.no _ _ cw
    refine wpS_bind (o8 S fun stx Sx=>?_)
    have same:∀ i j,lo <= i -> i < lo + m -> lo <= j -> j < lo + m -> le (at' p i) (at' p j):=fun i j a1 a2 a3 a4=>o.tr _ _ _ (U i (lo + m - 1) a1 (by lia) (by lia)) (o.tr _ _ _ g0 (U lo j (Nat.le_refl _) a3 a4))
    have d0:Dn le (kas_rev p lo (lo + m)) lo (lo + m):=fun i j a1 a2 a3=>by
     rw [cc (by lia),cc (by lia),if_pos (by lia),if_pos (by lia)]
     exact same _ _ (by lia) (by lia) (by lia) (by lia)
    have Dx:Dn le (kas_rev p lo (lo + m)) lo (lo + (m + 1)):=Dn.succ (b:=lo + m) o d0 (by lia) (by
     rw [cc (by lia),cc (by lia),if_neg (by lia),if_pos (by lia)]
     exact o.tr _ _ _ (hd (by lia)) (same _ _ (by lia) (by lia) (by lia) (by lia)))
    have Nx:Near p (kas_rev p lo (lo + m)) lo (lo + (m + 1)):=(fW (by lia)).wide (Nat.le_refl _) (by lia)
    generalize kas_rev p lo (lo + m) = px at Sx Dx Nx
    refine wpS_bind (wpS_lift (wpAny_rule ⟨rfl,?_⟩))
    refine wpS_bind (wpS_mono (wpS_forRange (I:=fun x c st'=>∃ q p',c = (none,x,q) /\ Stt κ it st' p' pend /\ Near p p' lo (lo + x) /\ x <= nrem /\ q + 1 <= x /\ Dn le p' lo (lo + x) /\ Es le p' (lo + x - (q + 1)) (lo + x))
     (Q:=fun c st'=>∃ x q p',c = (none,x,q) /\ m + 1 <= x /\ Stt κ it st' p' pend /\ Near p p' lo (lo + x) /\ x <= nrem /\ q + 1 <= x /\ Dn le p' lo (lo + x) /\ Es le p' (lo + x - (q + 1)) (lo + x)) ?s2 ?f2 ?i2) ?p2)
    case i2=>exact ⟨0,px,rfl,Sx,Nx,by lia,by lia,Dx,qH o (by lia)⟩
    case f2=>
     rintro c st' ⟨q,p',rfl,S',N',k1,k2,D',E'⟩
     exact ⟨_,q,p',rfl,by lia,S',N',k1,k2,D',E'⟩
    case s2=>
     rintro x c st' hx0 hx ⟨q,p',rfl,S',N',k1,k2,D',E'⟩
     dsimp only
     have hs2:=N'.size
     refine wpS_bind (jd hc S' (hp _ N'.1) (by lia) (by lia) ?_)
     dsimp only
     cases cw:lt (at' p' (lo + x)) (at' p' (lo + x - 1)) with
     | true=>
      rw [if_pos rfl]
      have hl:=o.yes _ _ cw
      by_cases q0:q > 0
      ·rw [if_pos q0]
       refine wpS_bind (o8 S' fun st4 S4=>wpS_pure ?_)
       have d1:=D'.rev o (by lia) (by lia) E'
       have b1:at' (kas_rev p' (lo + x - (q + 1)) (lo + x)) (lo + x) = at' p' (lo + x):=by rw [cc (by lia),if_neg (by lia)]
       have b2:at' (kas_rev p' (lo + x - (q + 1)) (lo + x)) (lo + x - 1) = at' p' (lo + x - (q + 1)):=by
        rw [cc (by lia),if_pos (by lia)]
        congr 1;lia
       exact ⟨0,_,rfl,S4,(N'.tr ((fW (by lia)).wide (by lia) (by lia))).wide (by lia) (by lia),by lia,by lia,Dn.succ (b:=lo + x) o d1 (by lia) (by rw [b1,b2];exact o.tr _ _ _ hl (E' _ (Nat.le_refl _) (by lia)).2),qH o (by lia)⟩
      ·rw [if_neg q0]
       exact wpS_pure ⟨0,p',rfl,S',N'.wide (by lia) (by lia),by lia,by lia,Dn.succ (b:=lo + x) o D' (by lia) hl,qH o (by lia)⟩
     | false=>
      rw [if_neg (by decide)]
      have g1:=o.no _ _ cw
      refine wpS_bind (jd hc S' (hp _ N'.1) (by lia) (by lia) ?_)
      dsimp only
      cases cw2:lt (at' p' (lo + x - 1)) (at' p' (lo + x)) with
      | true=>
       rw [if_pos rfl]
       exact wpS_pure ⟨x,q,p',rfl,hx0,S',N',k1,k2,D',E'⟩
      | false=>
       rw [if_neg (by decide)]
       have g2:=o.no _ _ cw2
       refine wpS_pure ⟨q + 1,p',rfl,S',N'.wide (by lia) (by lia),by lia,by lia,Dn.succ (b:=lo + x) o D' (by lia) g2,fun k a1 a2=>?_⟩
       rw [show lo + (x + 1) - 1 = lo + x by lia]
       by_cases hk:k = lo + x
       ·subst hk;exact ⟨o.rf _,o.rf _⟩
       ·obtain ⟨x1,x2⟩:=E' k (by lia) (by lia)
        exact ⟨o.tr _ _ _ x1 g1,o.tr _ _ _ g2 x2⟩
    case p2=>
     rintro c st' ⟨x,q,p',rfl,x1,S',N',x2,x3,D',E'⟩
     dsimp only
     have hs2:=N'.size
     by_cases q0:q > 0
     ·rw [if_pos q0]
      refine wpS_bind (o8 S' fun stX SX=>?_)
      have DX:=D'.rev o (by lia) (by lia) E'
      have NX:=N'.tr ((fW (by lia)).wide (a:=lo + x - (q + 1)) (b:=lo + x) (d:=lo) (e:=lo + x) (by lia) (by lia))
      generalize kas_rev p' (lo + x - (q + 1)) (lo + x) = pX at SX DX NX
      refine wpS_bind (o8 SX fun st4 S4=>?_)
      have hs4:=NX.size
      have N4:=NX.tr (fW (a:=lo) (b:=lo + x) (by lia))
      have U4:=DX.turn (by lia)
      refine wpS_bind (wpS_mono (wpS_forRange (I:=fun y c st'=>st' = st4 /\ c = (none,y) /\ y <= nrem /\ Up le (kas_rev pX lo (lo + x)) lo (lo + y))
       (Q:=fun c st'=>st' = st4 /\ ∃ y,c = (none,y) /\ x <= y /\ y <= nrem /\ Up le (kas_rev pX lo (lo + x)) lo (lo + y)) ?s3 ?f3 ?i3) ?p3)
      case i3=>exact ⟨rfl,rfl,x2,U4⟩
      case f3=>
       rintro c st' ⟨rfl,rfl,k1,k2⟩
       exact ⟨rfl,_,rfl,by lia,k1,k2⟩
      case s3=>
       rintro y c st' hy0 hy ⟨rfl,rfl,k1,k2⟩
       dsimp only
       have hs5:=N4.size
       refine wpS_bind (jd hc S4 (hp _ N4.1) (by lia) (by lia) ?_)
       dsimp only
       cases cw:lt (at' (kas_rev pX lo (lo + x)) (lo + y)) (at' (kas_rev pX lo (lo + x)) (lo + y - 1)) with
       | true=>
        rw [if_pos rfl]
        exact wpS_pure ⟨rfl,y,rfl,hy0,k1,k2⟩
       | false=>
        rw [if_neg (by decide)]
        exact wpS_pure ⟨rfl,rfl,by lia,Up.succ (b:=lo + y) o k2 (by lia) (o.no _ _ cw)⟩
      case p3=>
       rintro c st' ⟨rfl,y,rfl,y1,y2,U⟩
       exact wpS_pure (h y _ st' S4 (by lia) y2 (N4.wide (Nat.le_refl _) (by lia)) U)
     ·rw [if_neg q0]
      have DX:=D'
      have NX:=N'
      have SX:=S'
      generalize p' = pX at SX DX NX
      refine wpS_bind (o8 SX fun st4 S4=>?_)
      have hs4:=NX.size
      have N4:=NX.tr (fW (a:=lo) (b:=lo + x) (by lia))
      have U4:=DX.turn (by lia)
      refine wpS_bind (wpS_mono (wpS_forRange (I:=fun y c st'=>st' = st4 /\ c = (none,y) /\ y <= nrem /\ Up le (kas_rev pX lo (lo + x)) lo (lo + y))
       (Q:=fun c st'=>st' = st4 /\ ∃ y,c = (none,y) /\ x <= y /\ y <= nrem /\ Up le (kas_rev pX lo (lo + x)) lo (lo + y)) ?s3 ?f3 ?i3) ?p3)
      case i3=>exact ⟨rfl,rfl,x2,U4⟩
      case f3=>
       rintro c st' ⟨rfl,rfl,k1,k2⟩
       exact ⟨rfl,_,rfl,by lia,k1,k2⟩
      case s3=>
       rintro y c st' hy0 hy ⟨rfl,rfl,k1,k2⟩
       dsimp only
       have hs5:=N4.size
       refine wpS_bind (jd hc S4 (hp _ N4.1) (by lia) (by lia) ?_)
       dsimp only
       cases cw:lt (at' (kas_rev pX lo (lo + x)) (lo + y)) (at' (kas_rev pX lo (lo + x)) (lo + y - 1)) with
       | true=>
        rw [if_pos rfl]
        exact wpS_pure ⟨rfl,y,rfl,hy0,k1,k2⟩
       | false=>
        rw [if_neg (by decide)]
        exact wpS_pure ⟨rfl,rfl,by lia,Up.succ (b:=lo + y) o k2 (by lia) (o.no _ _ cw)⟩
      case p3=>
       rintro c st' ⟨rfl,y,rfl,y1,y2,U⟩
       exact wpS_pure (h y _ st' S4 (by lia) y2 (N4.wide (Nat.le_refl _) (by lia)) U)
  ·rw [if_neg e2]
   have m11:m = 1:=by lia
   have Sx:=S
   have Dx:Dn le p lo (lo + (m + 1)):=Dn.succ (b:=lo + m) o (fun i j a1 a2 a3=>by
    have:i = j:=by lia
    subst this;exact o.rf _) (by lia) (hd (by lia))
   have Nx:Near p p lo (lo + (m + 1)):=.rf
   obtain ⟨px,hpx⟩:∃ px,px = p:=⟨p,rfl⟩
   rw [<- hpx] at Sx Dx
   replace Nx:Near p px lo (lo + (m + 1)):=by rw [hpx];exact .rf
   refine wpS_bind (wpS_lift (wpAny_rule ⟨rfl,?_⟩))
   refine wpS_bind (wpS_mono (wpS_forRange (I:=fun x c st'=>∃ q p',c = (none,x,q) /\ Stt κ it st' p' pend /\ Near p p' lo (lo + x) /\ x <= nrem /\ q + 1 <= x /\ Dn le p' lo (lo + x) /\ Es le p' (lo + x - (q + 1)) (lo + x))
    (Q:=fun c st'=>∃ x q p',c = (none,x,q) /\ m + 1 <= x /\ Stt κ it st' p' pend /\ Near p p' lo (lo + x) /\ x <= nrem /\ q + 1 <= x /\ Dn le p' lo (lo + x) /\ Es le p' (lo + x - (q + 1)) (lo + x)) ?s2 ?f2 ?i2) ?p2)
   case i2=>exact ⟨0,px,rfl,Sx,Nx,by lia,by lia,Dx,qH o (by lia)⟩
   case f2=>
    rintro c st' ⟨q,p',rfl,S',N',k1,k2,D',E'⟩
    exact ⟨_,q,p',rfl,by lia,S',N',k1,k2,D',E'⟩
   case s2=>
    rintro x c st' hx0 hx ⟨q,p',rfl,S',N',k1,k2,D',E'⟩
    dsimp only
    have hs2:=N'.size
    refine wpS_bind (jd hc S' (hp _ N'.1) (by lia) (by lia) ?_)
    dsimp only
    cases cw:lt (at' p' (lo + x)) (at' p' (lo + x - 1)) with
    | true=>
     rw [if_pos rfl]
     have hl:=o.yes _ _ cw
     by_cases q0:q > 0
     ·rw [if_pos q0]
      refine wpS_bind (o8 S' fun st4 S4=>wpS_pure ?_)
      have d1:=D'.rev o (by lia) (by lia) E'
      have b1:at' (kas_rev p' (lo + x - (q + 1)) (lo + x)) (lo + x) = at' p' (lo + x):=by rw [cc (by lia),if_neg (by lia)]
      have b2:at' (kas_rev p' (lo + x - (q + 1)) (lo + x)) (lo + x - 1) = at' p' (lo + x - (q + 1)):=by
       rw [cc (by lia),if_pos (by lia)]
       congr 1;lia
      exact ⟨0,_,rfl,S4,(N'.tr ((fW (by lia)).wide (by lia) (by lia))).wide (by lia) (by lia),by lia,by lia,Dn.succ (b:=lo + x) o d1 (by lia) (by rw [b1,b2];exact o.tr _ _ _ hl (E' _ (Nat.le_refl _) (by lia)).2),qH o (by lia)⟩
     ·rw [if_neg q0]
      exact wpS_pure ⟨0,p',rfl,S',N'.wide (by lia) (by lia),by lia,by lia,Dn.succ (b:=lo + x) o D' (by lia) hl,qH o (by lia)⟩
    | false=>
     rw [if_neg (by decide)]
     have g1:=o.no _ _ cw
     refine wpS_bind (jd hc S' (hp _ N'.1) (by lia) (by lia) ?_)
     dsimp only
     cases cw2:lt (at' p' (lo + x - 1)) (at' p' (lo + x)) with
     | true=>
      rw [if_pos rfl]
      exact wpS_pure ⟨x,q,p',rfl,hx0,S',N',k1,k2,D',E'⟩
     | false=>
      rw [if_neg (by decide)]
      have g2:=o.no _ _ cw2
      refine wpS_pure ⟨q + 1,p',rfl,S',N'.wide (by lia) (by lia),by lia,by lia,Dn.succ (b:=lo + x) o D' (by lia) g2,fun k a1 a2=>?_⟩
      rw [show lo + (x + 1) - 1 = lo + x by lia]
      by_cases hk:k = lo + x
      ·subst hk;exact ⟨o.rf _,o.rf _⟩
      ·obtain ⟨x1,x2⟩:=E' k (by lia) (by lia)
       exact ⟨o.tr _ _ _ x1 g1,o.tr _ _ _ g2 x2⟩
   case p2=>
    rintro c st' ⟨x,q,p',rfl,x1,S',N',x2,x3,D',E'⟩
    dsimp only
    have hs2:=N'.size
    by_cases q0:q > 0
    ·rw [if_pos q0]
     refine wpS_bind (o8 S' fun stX SX=>?_)
     have DX:=D'.rev o (by lia) (by lia) E'
     have NX:=N'.tr ((fW (by lia)).wide (a:=lo + x - (q + 1)) (b:=lo + x) (d:=lo) (e:=lo + x) (by lia) (by lia))
     generalize kas_rev p' (lo + x - (q + 1)) (lo + x) = pX at SX DX NX
     refine wpS_bind (o8 SX fun st4 S4=>?_)
     have hs4:=NX.size
     have N4:=NX.tr (fW (a:=lo) (b:=lo + x) (by lia))
     have U4:=DX.turn (by lia)
     refine wpS_bind (wpS_mono (wpS_forRange (I:=fun y c st'=>st' = st4 /\ c = (none,y) /\ y <= nrem /\ Up le (kas_rev pX lo (lo + x)) lo (lo + y))
      (Q:=fun c st'=>st' = st4 /\ ∃ y,c = (none,y) /\ x <= y /\ y <= nrem /\ Up le (kas_rev pX lo (lo + x)) lo (lo + y)) ?s3 ?f3 ?i3) ?p3)
     case i3=>exact ⟨rfl,rfl,x2,U4⟩
     case f3=>
      rintro c st' ⟨rfl,rfl,k1,k2⟩
      exact ⟨rfl,_,rfl,by lia,k1,k2⟩
     case s3=>
      rintro y c st' hy0 hy ⟨rfl,rfl,k1,k2⟩
      dsimp only
      have hs5:=N4.size
      refine wpS_bind (jd hc S4 (hp _ N4.1) (by lia) (by lia) ?_)
      dsimp only
      cases cw:lt (at' (kas_rev pX lo (lo + x)) (lo + y)) (at' (kas_rev pX lo (lo + x)) (lo + y - 1)) with
      | true=>
       rw [if_pos rfl]
       exact wpS_pure ⟨rfl,y,rfl,hy0,k1,k2⟩
      | false=>
       rw [if_neg (by decide)]
       exact wpS_pure ⟨rfl,rfl,by lia,Up.succ (b:=lo + y) o k2 (by lia) (o.no _ _ cw)⟩
     case p3=>
      rintro c st' ⟨rfl,y,rfl,y1,y2,U⟩
      exact wpS_pure (h y _ st' S4 (by lia) y2 (N4.wide (Nat.le_refl _) (by lia)) U)
    ·rw [if_neg q0]
     have DX:=D'
     have NX:=N'
     have SX:=S'
     generalize p' = pX at SX DX NX
     refine wpS_bind (o8 SX fun st4 S4=>?_)
     have hs4:=NX.size
     have N4:=NX.tr (fW (a:=lo) (b:=lo + x) (by lia))
     have U4:=DX.turn (by lia)
     refine wpS_bind (wpS_mono (wpS_forRange (I:=fun y c st'=>st' = st4 /\ c = (none,y) /\ y <= nrem /\ Up le (kas_rev pX lo (lo + x)) lo (lo + y))
      (Q:=fun c st'=>st' = st4 /\ ∃ y,c = (none,y) /\ x <= y /\ y <= nrem /\ Up le (kas_rev pX lo (lo + x)) lo (lo + y)) ?s3 ?f3 ?i3) ?p3)
     case i3=>exact ⟨rfl,rfl,x2,U4⟩
     case f3=>
      rintro c st' ⟨rfl,rfl,k1,k2⟩
      exact ⟨rfl,_,rfl,by lia,k1,k2⟩
     case s3=>
      rintro y c st' hy0 hy ⟨rfl,rfl,k1,k2⟩
      dsimp only
      have hs5:=N4.size
      refine wpS_bind (jd hc S4 (hp _ N4.1) (by lia) (by lia) ?_)
      dsimp only
      cases cw:lt (at' (kas_rev pX lo (lo + x)) (lo + y)) (at' (kas_rev pX lo (lo + x)) (lo + y - 1)) with
      | true=>
       rw [if_pos rfl]
       exact wpS_pure ⟨rfl,y,rfl,hy0,k1,k2⟩
      | false=>
       rw [if_neg (by decide)]
       exact wpS_pure ⟨rfl,rfl,by lia,Up.succ (b:=lo + y) o k2 (by lia) (o.no _ _ cw)⟩
     case p3=>
      rintro c st' ⟨rfl,y,rfl,y1,y2,U⟩
      exact wpS_pure (h y _ st' S4 (by lia) y2 (N4.wide (Nat.le_refl _) (by lia)) U)
end
section
variable {le:Nat -> Nat -> Prop} {p p':Array Nat} {a b c:Nat}
def Rn (le:Nat -> Nat -> Prop) (p:Array Nat):Nat -> List (Nat × Nat × Nat) -> Nat -> Prop
 | a,[],b=>a = b
 | a,e :: es,b=>e.1 = a /\ 1 <= e.2.1 /\ Up le p a (a + e.2.1) /\ Rn le p (a + e.2.1) es b
theorem Rn.len_le:∀ {l:List (Nat × Nat × Nat)} {a:Nat},Rn le p a l b -> a + l.length <= b
 | [],a,h=>by have:a = b:=h;simp [this]
 | e :: es,a,h=>by
  have:=Rn.len_le h.2.2.2
  have:=h.2.1
  simp;lia
theorem Rn.of:∀ {l:List (Nat × Nat × Nat)} {a:Nat},Rn le p a l b -> (∀ k,a <= k -> k < b -> at' p' k = at' p k) -> Rn le p' a l b
 | [],a,h,_=>h
 | e :: es,a,h,k=>⟨h.1,h.2.1,h.2.2.1.of fun i h1 h2=>k i h1 (by have:=Rn.len_le h.2.2.2;lia),Rn.of h.2.2.2 fun i h1 h2=>k i (by lia) h2⟩
theorem Rn.app:∀ {l l':List (Nat × Nat × Nat)} {a:Nat},Rn le p a (l ++ l') b -> ∃ c,Rn le p a l c /\ Rn le p c l' b
 | [],l',a,h=>⟨a,rfl,h⟩
 | e :: es,l',a,h=>by
  obtain ⟨c,h1,h2⟩:=Rn.app h.2.2.2
  exact ⟨c,⟨h.1,h.2.1,h.2.2.1,h1⟩,h2⟩
theorem Rn.put:∀ {l l':List (Nat × Nat × Nat)} {a:Nat},Rn le p a l c -> Rn le p c l' b -> Rn le p a (l ++ l') b
 | [],l',a,h,h2=>by have:a = c:=h;subst this;exact h2
 | e :: es,l',a,h,h2=>⟨h.1,h.2.1,h.2.2.1,Rn.put h.2.2.2 h2⟩
theorem Rn.same:∀ {l l':List (Nat × Nat × Nat)} {a:Nat},(l.map fun e=>(e.1,e.2.1)) = (l'.map fun e=>(e.1,e.2.1)) -> Rn le p a l b -> Rn le p a l' b
 | [],[],a,_,h=>h
 | [],_ :: _,a,h,_=>by simp at h
 | _ :: _,[],a,h,_=>by simp at h
 | e :: es,e' :: es',a,h,k=>by
  simp only [List.map_cons,List.cons.injEq,Prod.mk.injEq] at h
  obtain ⟨⟨h1,h2⟩,h3⟩:=h
  obtain ⟨k1,k2,k3,k4⟩:=k
  rw [h1] at k1
  rw [h2] at k2 k3 k4
  exact ⟨k1,k2,k3,Rn.same h3 k4⟩
theorem G3 {c:Prop} [Decidable c] {k m:Nat} (h:k + 1 < m):(if c then k - 1 else k) + 1 < m:=by split <;> lia
theorem Jq {α:Type} (x z:α) (r:List α):∀ pre:List α,(pre ++ x :: r).set pre.length z = pre ++ z :: r
 | []=>rfl
 | y :: pre=>by simp
theorem EL {α:Type} (z y:α) (r:List α):∀ pre:List α,(pre ++ z :: y :: r).eraseIdx (pre.length + 1) = pre ++ z :: r
 | []=>rfl
 | x :: pre=>by
  have:=EL z y r pre
  simp only [List.cons_append,List.length_cons,List.eraseIdx_cons_succ,this]
theorem IP {α:Type} {l:List α} {i:Nat} (h:i + 1 < l.length):∃ pre x y post,l = pre ++ x :: y :: post /\ pre.length = i:=by
 refine ⟨l.take i,l[i],l[i + 1],l.drop (i + 2),?_,by rw [List.length_take];lia⟩
 rw [<- List.drop_eq_getElem_cons h,<- List.drop_eq_getElem_cons (by lia),List.take_append_drop]
end
section
variable {prog:Program} {w:World} {A:Around} {E:Value -> Shared -> Prop} {s:Shared} {κ:SortKind} {it:Array Keyed} {n:Nat} {lt:Nat -> Nat -> Bool} {le:Nat -> Nat -> Prop} {p:Array Nat} {pend:Array (Nat × Nat × Nat)} {st:SortSt}
theorem qp (o:Ord lt le) (hc:vI prog w A s κ it n lt) (S:Stt κ it st p pend) (hp:∀ i,i < p.size -> at' p i < n) {i b:Nat} {Q:Bool -> SortSt -> Prop} (hi:i + 1 < pend.size) (R:Rn le p 0 pend.toList b) (hb:b <= p.size)
  (h:∀ p' pend' st',Stt κ it st' p' pend' -> Near p p' 0 b -> Rn le p' 0 pend'.toList b -> pend'.size + 1 = pend.size -> Q true st'):wpS (model prog w) A E s (mergeAt' i) Q st:=by
 obtain ⟨pre,⟨sa,na,pw⟩,⟨sb,nb,q⟩,post,e,hl⟩:=IP (l:=pend.toList) (i:=i) (by simpa using hi)
 rw [e] at R
 obtain ⟨c,R1,R2⟩:=R.app
 obtain ⟨r1,r2,r3,r4,r5,r6,r7⟩:=R2
 dsimp only at r1 r2 r3 r4 r5 r6 r7
 subst r1
 have hle:=r7.len_le
 have g1:pend[i]? = some (sa,na,pw):=by rw [<- Array.getElem?_toList,e,List.getElem?_append_right (by lia)];simp [hl]
 have g2:pend[i + 1]? = some (sb,nb,q):=by rw [<- Array.getElem?_toList,e,List.getElem?_append_right (by lia)];simp [hl]
 refine Dr o hc S g1 g2 r4 r2 r5 (by lia) hp (fun i j a1 a2=>r3 _ _ (by lia) (by lia) (by lia)) (fun i j a1 a2=>r6 _ _ (by lia) (by lia) (by lia)) fun p' st' S' so=>?_
 have en:((pend.setIfInBounds i (sa,na + nb,pw)).eraseIdxIfInBounds (i + 1)).toList = pre ++ (sa,na + nb,pw) :: post:=by
  have h2:i + 1 < (pend.setIfInBounds i (sa,na + nb,pw)).size:=by simpa using hi
  rw [Array.eraseIdxIfInBounds,dif_pos h2,Array.toList_eraseIdx,Array.toList_setIfInBounds,e,<- hl]
  rw [Jq,EL]
 have hle1:=R1.len_le
 refine h p' _ st' S' ⟨so.perm,fun k hk=>so.out k (by lia)⟩ ?_ ?_
 ·rw [en]
  refine Rn.put (R1.of fun k _ h2=>so.out k (by lia)) ⟨rfl,by dsimp only;lia,fun i j a1 a2 a3=>so.asc i j a1 a2 a3,?_⟩
  dsimp only
  rw [show sa + (na + nb) = sa + na + nb by lia]
  exact r7.of fun k h1 h2=>so.out k (by lia)
 ·have e4:=congrArg List.length en
  have e3:=congrArg List.length e
  rw [Array.length_toList] at e4 e3
  rw [e4,e3]
  simp only [List.length_append,List.length_cons]
  lia
theorem JJ (o:Ord lt le) (hc:vI prog w A s κ it n lt) (S:Stt κ it st p #[]) (hp:∀ p':Array Nat,p'.Perm p -> ∀ i,i < p'.size -> at' p' i < n) {Q:Unit -> SortSt -> Prop}
  (h:∀ p' pend' st',Stt κ it st' p' pend' -> p'.Perm p -> Up le p' 0 p.size -> Q () st'):wpS (model prog w) A E s sortRuns' Q st:=by
 rw [sortRuns'_eq]
 refine wpS_bind (wpS_get ?_)
 dsimp only
 rw [S.2.1,Array.size_map]
 generalize minRun' p.size p.size 0 = minrun
 refine wpS_bind (wpS_mono (wpS_forRange (I:=fun x c st'=>∃ lo p' pend',c = (none,lo) /\ Stt κ it st' p' pend' /\ p'.Perm p /\ Rn le p' 0 pend'.toList lo /\ lo <= p.size /\ x <= lo)
  (Q:=fun c st'=>∃ p' pend',c.1 = none /\ Stt κ it st' p' pend' /\ p'.Perm p /\ Rn le p' 0 pend'.toList p.size) ?s1 ?f1 ?i1) ?p1)
 case i1=>exact ⟨0,p,#[],rfl,S,.refl _,rfl,by lia,by lia⟩
 case f1=>
  rintro c st' ⟨lo,p',pend',rfl,S',P',R',l1,l2⟩
  have:lo = p.size:=by lia
  subst this
  exact ⟨p',pend',rfl,S',P',R'⟩
 case s1=>
  rintro x c st' _ hx ⟨lo,p',pend',rfl,S',P',R',l1,l2⟩
  dsimp only
  by_cases e1:lo ≥ p.size
  ·rw [if_pos e1]
   have:lo = p.size:=by lia
   subst this
   exact wpS_pure ⟨p',pend',rfl,S',P',R'⟩
  rw [if_neg e1]
  have hs':=P'.size_eq
  refine wpS_bind (Gi o hc S' (fun q hq=>hp q (hq.trans P')) (by lia) (by lia) fun m p2 st2 S2 m1 m2 N2 U2=>?_)
  have P2:=N2.1.trans P'
  have hs2:=P2.size_eq
  have R2:Rn le p2 0 pend'.toList lo:=R'.of fun k _ h2=>N2.2 k (.inl h2)
  dsimp only
  by_cases e2:m < minrun
  ·rw [if_pos e2]
   refine wpS_bind (wpS_lift (wpAny_rule ⟨rfl,?_⟩))
   refine wpS_bind (KW o hc S2 (fun q hq=>hp q (hq.trans P2)) (m:=min (p.size - lo) minrun) (by lia) (by lia) m1 U2 fun p3 st3 S3 N3 U3=>?_)
   replace R2:Rn le p3 0 pend'.toList lo:=R2.of fun k _ h2=>N3.2 k (.inl h2)
   replace P2:=N3.1.trans P2
   replace S2:=S3
   replace U2:=U3
   have hnn:1 <= min (p.size - lo) minrun:=by lia
   have hnn2:lo + min (p.size - lo) minrun <= p.size:=by lia
   clear S3 U3 N3 N2 hs2
   generalize min (p.size - lo) minrun = nn at *
   rw [if_neg (by decide)]
   clear st2 p2
   generalize p3 = p2 at *
   generalize st3 = st2 at *
   refine wpS_bind (wpS_get ?_)
   rw [S2.2.2.1]
   cases hbk:pend'.back? with
   | none=>
    dsimp only
    refine wpS_bind (wpS_modify (wpS_pure ⟨lo + nn,p2,pend'.push (lo,nn,0),rfl,⟨S2.1,S2.2.1,?_,S2.2.2.2⟩,P2,?_,by lia,by lia⟩))
    ·show (pendingOf st2).push _ = _
     rw [S2.2.2.1]
    ·rw [Array.toList_push]
     exact R2.put ⟨rfl,hnn,U2,rfl⟩
   | some e=>
    obtain ⟨s1,n1,z1⟩:=e
    dsimp only
    generalize power' _ _ _ _ = pw
    refine wpS_bind (wpS_mono (wpS_forRange (I:=fun y c st3=>c = (none,()) /\ ∃ p3 pend3,Stt κ it st3 p3 pend3 /\ p3.Perm p /\ Rn le p3 0 pend3.toList lo /\ Up le p3 lo (lo + nn))
     (Q:=fun c st3=>c = (none,()) /\ ∃ p3 pend3,Stt κ it st3 p3 pend3 /\ p3.Perm p /\ Rn le p3 0 pend3.toList lo /\ Up le p3 lo (lo + nn)) ?s2 ?f2 ?i2) ?p2)
    case i2=>exact ⟨rfl,p2,pend',S2,P2,R2,U2⟩
    case f2=>exact fun c st3 h=>h
    case s2=>
     rintro y c st3 _ hy ⟨rfl,p3,pend3,S3,P3,R3,U3⟩
     refine wpS_bind (wpS_get ?_)
     rw [S3.2.2.1]
     by_cases c1:pend3.size > 1
     ·rw [if_pos c1]
      cases hg:pend3[pend3.size - 2]? with
      | none=>exact wpS_pure ⟨rfl,p3,pend3,S3,P3,R3,U3⟩
      | some e=>
       obtain ⟨z2,z3,older⟩:=e
       dsimp only
       by_cases c2:older <= pw
       ·rw [if_pos c2]
        exact wpS_pure ⟨rfl,p3,pend3,S3,P3,R3,U3⟩
       ·rw [if_neg c2]
        have hs3:=P3.size_eq
        refine wpS_bind (qp o hc S3 (hp _ P3) (i:=pend3.size - 2) (by lia) R3 (by lia) fun p4 pend4 st4 S4 N4 R4 _=>?_)
        exact wpS_pure ⟨rfl,p4,pend4,S4,N4.1.trans P3,R4,U3.of fun i h1 h2=>N4.2 i (.inr h1)⟩
     ·rw [if_neg c1]
      exact wpS_pure ⟨rfl,p3,pend3,S3,P3,R3,U3⟩
    case p2=>
     rintro c st3 ⟨rfl,p3,pend3,S3,P3,R3,U3⟩
     dsimp only
     refine wpS_bind (wpS_modify (wpS_bind (wpS_modify (wpS_pure ⟨lo + nn,p3,(pend3.modify (pend3.size - 1) fun e=>(e.1,e.2.1,pw)).push (lo,nn,0),rfl,⟨S3.1,S3.2.1,?_,S3.2.2.2⟩,P3,?_,by lia,by lia⟩))))
     ·show ((pendingOf st3).modify ((pendingOf st3).size - 1) _).push _ = _
      rw [S3.2.2.1]
     ·rw [Array.toList_push]
      refine Rn.put (R3.same ?_) ⟨rfl,hnn,U3,rfl⟩
      apply List.ext_getElem?
      intro k
      rw [List.getElem?_map,List.getElem?_map,Array.getElem?_toList,Array.getElem?_toList,Array.getElem?_modify]
      split
      ·cases pend3[k]? <;> rfl
      ·rfl
  ·rw [if_neg e2]
   have hnn:=m1
   have hnn2:lo + m <= p.size:=by lia
   refine wpS_bind (wpS_get ?_)
   rw [S2.2.2.1]
   cases hbk:pend'.back? with
   | none=>
    dsimp only
    refine wpS_bind (wpS_modify (wpS_pure ⟨lo + m,p2,pend'.push (lo,m,0),rfl,⟨S2.1,S2.2.1,?_,S2.2.2.2⟩,P2,?_,by lia,by lia⟩))
    ·show (pendingOf st2).push _ = _
     rw [S2.2.2.1]
    ·rw [Array.toList_push]
     exact R2.put ⟨rfl,hnn,U2,rfl⟩
   | some e=>
    obtain ⟨s1,n1,z1⟩:=e
    dsimp only
    generalize power' _ _ _ _ = pw
    refine wpS_bind (wpS_mono (wpS_forRange (I:=fun y c st3=>c = (none,()) /\ ∃ p3 pend3,Stt κ it st3 p3 pend3 /\ p3.Perm p /\ Rn le p3 0 pend3.toList lo /\ Up le p3 lo (lo + m))
     (Q:=fun c st3=>c = (none,()) /\ ∃ p3 pend3,Stt κ it st3 p3 pend3 /\ p3.Perm p /\ Rn le p3 0 pend3.toList lo /\ Up le p3 lo (lo + m)) ?s2 ?f2 ?i2) ?p2)
    case i2=>exact ⟨rfl,p2,pend',S2,P2,R2,U2⟩
    case f2=>exact fun c st3 h=>h
    case s2=>
     rintro y c st3 _ hy ⟨rfl,p3,pend3,S3,P3,R3,U3⟩
     refine wpS_bind (wpS_get ?_)
     rw [S3.2.2.1]
     by_cases c1:pend3.size > 1
     ·rw [if_pos c1]
      cases hg:pend3[pend3.size - 2]? with
      | none=>exact wpS_pure ⟨rfl,p3,pend3,S3,P3,R3,U3⟩
      | some e=>
       obtain ⟨z2,z3,older⟩:=e
       dsimp only
       by_cases c2:older <= pw
       ·rw [if_pos c2]
        exact wpS_pure ⟨rfl,p3,pend3,S3,P3,R3,U3⟩
       ·rw [if_neg c2]
        have hs3:=P3.size_eq
        refine wpS_bind (qp o hc S3 (hp _ P3) (i:=pend3.size - 2) (by lia) R3 (by lia) fun p4 pend4 st4 S4 N4 R4 _=>?_)
        exact wpS_pure ⟨rfl,p4,pend4,S4,N4.1.trans P3,R4,U3.of fun i h1 h2=>N4.2 i (.inr h1)⟩
     ·rw [if_neg c1]
      exact wpS_pure ⟨rfl,p3,pend3,S3,P3,R3,U3⟩
    case p2=>
     rintro c st3 ⟨rfl,p3,pend3,S3,P3,R3,U3⟩
     dsimp only
     refine wpS_bind (wpS_modify (wpS_bind (wpS_modify (wpS_pure ⟨lo + m,p3,(pend3.modify (pend3.size - 1) fun e=>(e.1,e.2.1,pw)).push (lo,m,0),rfl,⟨S3.1,S3.2.1,?_,S3.2.2.2⟩,P3,?_,by lia,by lia⟩))))
     ·show ((pendingOf st3).modify ((pendingOf st3).size - 1) _).push _ = _
      rw [S3.2.2.1]
     ·rw [Array.toList_push]
      refine Rn.put (R3.same ?_) ⟨rfl,hnn,U3,rfl⟩
      apply List.ext_getElem?
      intro k
      rw [List.getElem?_map,List.getElem?_map,Array.getElem?_toList,Array.getElem?_toList,Array.getElem?_modify]
      split
      ·cases pend3[k]? <;> rfl
      ·rfl
 case p1=>
  rintro ⟨c,c'⟩ st' ⟨p',pend',hc1,S',P',R'⟩
  dsimp only at hc1
  subst hc1
  dsimp only
  refine wpS_bind (wpS_mono (wpS_forRange (I:=fun x c st'=>∃ p' pend',c = (none,()) /\ Stt κ it st' p' pend' /\ p'.Perm p /\ Rn le p' 0 pend'.toList p.size /\ pend'.size + x <= p.size)
   (Q:=fun c st'=>∃ p' pend',c = (none,()) /\ Stt κ it st' p' pend' /\ p'.Perm p /\ Rn le p' 0 pend'.toList p.size /\ pend'.size <= 1) ?s5 ?f5 ?i5) ?p5)
  case i5=>exact ⟨p',pend',rfl,S',P',R',by have:=R'.len_le;rw [Array.length_toList] at this;lia⟩
  case f5=>
   rintro c st' ⟨p',pend',rfl,S',P',R',hl⟩
   exact ⟨p',pend',rfl,S',P',R',by lia⟩
  case s5=>
   rintro x c st' _ hx ⟨p',pend',rfl,S',P',R',hl⟩
   refine wpS_bind (wpS_get ?_)
   rw [S'.2.2.1]
   by_cases e1:pend'.size <= 1
   ·rw [if_pos e1]
    exact wpS_pure ⟨p',pend',rfl,S',P',R',e1⟩
   rw [if_neg e1]
   have hs':=P'.size_eq
   refine wpS_bind (qp o hc S' (hp _ P') ?_ R' (by lia) fun p4 pend4 st4 S4 N4 R4 h4=>?_)
   ·exact G3 (by lia)
   ·exact wpS_pure ⟨p4,pend4,rfl,S4,N4.1.trans P',R4,by lia⟩
  case p5=>
   rintro c st' ⟨p',pend',rfl,S',P',R',hl⟩
   refine wpS_pure (h p' pend' st' S' P' ?_)
   cases hq:pend'.toList with
   | nil=>
    rw [hq] at R'
    have:0 = p.size:=R'
    intro i j _ _ h3
    lia
   | cons e es=>
    cases es with
    | nil=>
     rw [hq] at R'
     obtain ⟨r1,r2,r3,r4⟩:=R'
     have r4':0 + e.2.1 = p.size:=r4
     rw [<- r4']
     exact r3
    | cons e2 es=>
     have:=congrArg List.length hq
     rw [Array.length_toList] at this
     simp at this
     lia
end
section
variable {prog:Program} {w:World} {A:Around} {E:Value -> Shared -> Prop} {s:Shared}
structure Known (prog:Program) (w:World) (s:Shared) (vs:List Value) (κ:SortKind) (lt:Nat -> Nat -> Bool):Prop where
 kind:∀ (A:Around) (E:Value -> Shared -> Prop) (h':Heap) (Q:SortKind -> Shared -> Prop),(∀ b o,s.heap.get? b = some o -> h'.get? b = some o) -> 2 <= vs.length -> Q κ { s with heap:=h' } -> wpAny (model prog w) A (keyKind' vs.toArray) Q E { s with heap:=h' }
 ask:∀ (A:Around) (h':Heap) (i j:Nat) (C:Bool -> Shared -> Prop),(∀ b o,s.heap.get? b = some o -> h'.get? b = some o) -> i < vs.length -> j < vs.length -> C (lt i j) { s with heap:=h' } -> kas_ask prog w A κ vs i j C { s with heap:=h' }
theorem Known.on {vs:List Value} {κ:SortKind} {lt:Nat -> Nat -> Bool} {h:Heap} (k:Known prog w s vs κ lt) (hk:∀ b o,s.heap.get? b = some o -> h.get? b = some o):Known prog w { s with heap:=h } vs κ lt:=
 ⟨fun A E h' Q h2=>k.kind A E h' Q fun b o e=>h2 b o (hk b o e),fun A h' i j C h2=>k.ask A h' i j C fun b o e=>h2 b o (hk b o e)⟩
def kW (vs:List Value) (p:Array Nat):Array Value:=(p.toList.map fun i=>vs.getD i Value.none).toArray
theorem A6 {vs:List Value} {p:Array Nat} (h:p.size = vs.length):(kW vs p).size = vs.length:=by
 unfold kW;simp [h]
theorem yN {vs:List Value}:kW vs (List.range vs.length).toArray = vs.toArray:=by
 unfold kW
 congr 1
 apply List.ext_getElem
 ·simp
 ·intro i h1 h2
  simp at h1
  simp [h1]
theorem Gn {le:Nat -> Nat -> Prop} (rf:∀ a,le a a) {n:Nat} (h:n < 2) (p:Array Nat):Asc le p n:=fun i j hij hj=>by
 have e:i = j:=by lia
 subst e;exact rf _
theorem E4 {a:Addr} {vs:List Value} {n:Nat} {κ:SortKind} {lt:Nat -> Nat -> Bool} {le:Nat -> Nat -> Prop} {P:PySem.Fin -> Shared -> Prop} (o:Ord lt le) (ho:s.heap.get? a = some (seqObj "list" vs.toArray n)) (hN:vs.length <= sizeLine)
  (hk:∀ h',(∀ b o,b ≠ a -> s.heap.get? b = some o -> h'.get? b = some o) -> Known prog w { s with heap:=h' } vs κ lt)
  (h:∀ p:Array Nat,p.Perm (List.range vs.length).toArray -> Asc le p vs.length -> P (.done (.ret .none)) { s with heap:=sortedHeap s.heap a vs (kW vs p) }):wpAny (model prog w) A (Builtin.«list.sort» ⟨[.ref a],[]⟩) P E s:=by
 have ha:a < s.heap.objs.size:=Heap.lt_size ho
 obtain ⟨e1,ho1⟩:∃ e1,(s.heap.update a (Obj.mapSeq fun _=>#[])).get? a = some (seqObj "list" #[] e1):=⟨_,get?_update_seq ho fun _=>#[]⟩
 have ne1:a ≠ ((s.heap.update a (Obj.mapSeq fun _=>#[])).push (seqObj "tuple" vs.toArray 0)).objs.size:=by rw [size_push',Heap.size_update];exact Nat.ne_of_lt (Nat.lt_succ_of_lt ha)
 have ne2:a ≠ (s.heap.update a (Obj.mapSeq fun _=>#[])).objs.size:=by rw [Heap.size_update];exact Nat.ne_of_lt ha
 have ho6:(((s.heap.update a (Obj.mapSeq fun _=>#[])).push (seqObj "tuple" vs.toArray 0)).push (seqObj "list" #[] 0)).get? a = some (seqObj "list" #[] e1):=by rw [Heap.get?_push_ne _ _ _ ne1,Heap.get?_push_ne _ _ _ ne2,ho1]
 have keep:∀ b q,b ≠ a -> s.heap.get? b = some q -> (((s.heap.update a (Obj.mapSeq fun _=>#[])).push (seqObj "tuple" vs.toArray 0)).push (seqObj "list" #[] 0)).get? b = some q:=fun b q hb hq=>
  Heap.get?_push_of_some _ (Heap.get?_push_of_some _ ((Heap.get?_update_ne _ _ _ _ hb).trans hq))
 have K:=hk _ keep
 rw [list_sort_plain];refine wpAny_bind (listItems_at ho rfl (wpAny_bind (listUpdate_at ho rfl (wpAny_bind (seqEpoch_at ho1 rfl (wpAny_bind (wpAny_newTuple (wpAny_bind (wpAny_newList (wpAny_holding ?_))))))))))
 dsimp only
 have hn:vs.toArray.size = vs.length:=by simp
 have fin:∀ (p:Array Nat) (st:SortSt),p.Perm (List.range vs.length).toArray -> Asc le p vs.length -> (arrOf st).map (·.2) = kW vs p -> failedOf st = none ->
   wpAny (model prog w) A (do
    let touched:=(← seqEpoch a) != e1
    Builtin.List.listUpdate (.ref a) fun _=>(arrOf st).map (·.2)
    if let some e:=failedOf st then rule "list.sort.comparison-raised"; throw e
    if touched then rule "list.sort.modified"; raiseError "ValueError" "list modified during sort"
    ret .none) P E { s with heap:=((s.heap.update a (Obj.mapSeq fun _=>#[])).push (seqObj "tuple" vs.toArray 0)).push (seqObj "list" #[] 0) }:=fun p st hp hs ho2 hf=>by
  have hz:(kW vs p).size <= sizeLine + 1:=by
   rw [A6 (by rw [hp.size_eq];simp)];lia
  rw [ho2,hf]
  refine wpAny_bind (seqEpoch_at ho6 rfl (wpAny_bind (listUpdate_at ho6 rfl ?_ (hsz2:=hz))))
  simp only [bne_self_eq_false,Bool.false_eq_true,if_false]
  exact wpAny_pure (h p hp hs)
 by_cases h2:vs.toArray.size < 2
 ·rw [if_pos h2,if_pos h2]
  refine wpAny_bind (wpAny_pure ?_)
  rw [StateT.run_pure]
  refine wpAny_bind (wpAny_pure (fin (List.range vs.length).toArray _ (Array.Perm.refl _) (Gn o.rf (by lia) _) ?_ rfl))
  rw [yN]
  show ((vs.toArray.zip vs.toArray).map (·.2)) = vs.toArray
  apply Array.ext
  ·simp
  ·intro i h1 h2;simp
 ·rw [if_neg h2,if_neg h2]
  refine wpAny_bind (K.kind _ _ _ _ (fun _ _ e=>e) (by lia) ?_)
  have pos:0 < vs.length:=by lia
  have perm0:∀ p':Array Nat,p'.Perm (List.range vs.length).toArray -> ∀ i,i < p'.size -> at' p' i < vs.length:=fun p' h' i _=>HY pos h' i
  have esz:(vs.toArray.zip vs.toArray).size = vs.length:=by simp
  have er:=kas_range (vs.toArray.zip vs.toArray)
  rw [esz] at er
  have run:=JJ (prog:=prog) (w:=w) (A:=A) (E:=E) (κ:=κ) (it:=vs.toArray.zip vs.toArray) (n:=vs.length) (lt:=lt) (le:=le) (p:=(List.range vs.length).toArray) (st:=SortSt.mk' κ (vs.toArray.zip vs.toArray) #[] 7 none)
   (s:={ s with heap:=((s.heap.update a (Obj.mapSeq fun _=>#[])).push (seqObj "tuple" vs.toArray 0)).push (seqObj "list" #[] 0) })
   (Q:=fun _ st=>∃ p:Array Nat,(arrOf st).map (·.2) = kW vs p /\ failedOf st = none /\ p.Perm (List.range vs.length).toArray /\ Asc le p vs.length) o
   (fun i j C hi hj hc=>by rw [<- kat_ask_eq (ks:=vs) (vs:=vs) rfl];exact K.ask _ _ i j C (fun _ _ e=>e) hi hj hc) ⟨rfl,er.symm,rfl,rfl⟩ perm0
   (fun p' pend' st' S' hp hu=>⟨p',kat_snds rfl S'.2.1,S'.2.2.2,hp,fun i j hij hj=>hu i j (Nat.zero_le _) hij (by simpa using hj)⟩)
  refine wpAny_bind (wpAny_mono run (fun r s' hr=>?_) fun _ _ e=>e)
  ·obtain ⟨rfl,p,e2,hf,hp,hs⟩:=hr
   exact fin p r.2 hp hs e2 hf
theorem wx {l:Addr} {vs:List Value} {κ:SortKind} {lt:Nat -> Nat -> Bool} {le:Nat -> Nat -> Prop} {Q:Value -> Shared -> Prop} (o:Ord lt le) (hl:s.heap.IsList l vs.toArray) (hN:vs.length <= sizeLine) (hk:Known prog w s vs κ lt)
  (h:∀ p:Array Nat,p.Perm (List.range vs.length).toArray -> Asc le p vs.length -> Q (.ref (s.heap.objs.size + 1)) { s with heap:=sortedAll s.heap vs (kW vs p) }):wpAny (model prog w) A (call (.builtin "sorted") [.ref l]) Q E s:=by
 have hz:vs.length <= sizeLine:=hN
 have sz:((s.heap.push (seqObj "list" #[] 0)).update s.heap.objs.size (Obj.mapSeq (· ++ vs.toArray))).objs.size = s.heap.objs.size + 1:=by rw [Heap.size_update,size_push']
 have at1:(((s.heap.push (seqObj "list" #[] 0)).update s.heap.objs.size (Obj.mapSeq (· ++ vs.toArray))).push (seqObj "list" vs.toArray 0)).get? (s.heap.objs.size + 1) = some (seqObj "list" vs.toArray 0):=by rw [<- sz];exact Heap.get?_push_size _ rfl
 have old:∀ b q,s.heap.get? b = some q -> b ≠ s.heap.objs.size + 1 /\ (((s.heap.push (seqObj "list" #[] 0)).update s.heap.objs.size (Obj.mapSeq (· ++ vs.toArray))).push (seqObj "list" vs.toArray 0)).get? b = some q:=fun b q e=>by
  have hb:=Heap.lt_size e
  refine ⟨Nat.ne_of_lt (Nat.lt_succ_of_lt hb),Heap.get?_push_of_some _ ?_⟩
  rw [Heap.get?_update_ne _ _ _ _ (Nat.ne_of_lt hb)]
  exact Heap.get?_push_of_some _ e
 refine Calls.call_function_entry kind_sorted plain_sorted entry_sorted (args_sorted1 (.ref l)) ?_;unfold Builtin.«sorted»
 refine wpAny_bind (m:=checkCount "sorted" 1 1 _) (wpAny_pure (wpAny_bind (collect_list hl (wpAny_bind (wpAny_newList ?_ hz)) hz)))
 show wpAny (model prog w) _ _ _ _ { s with heap:=((s.heap.push (seqObj "list" #[] 0)).update s.heap.objs.size (Obj.mapSeq (· ++ vs.toArray))).push (seqObj "list" vs.toArray 0) }
 rw [sz]
 refine wpAny_bind (wpAny_holding (wpAny_call_entry slot_list_sort ⟨_,at1,rfl⟩ entry_list_sort (E4 (κ:=κ) (le:=le) o at1 hN (fun h' kp=>?_) fun p hp hs=>⟨_,rfl,wpAny_pure ⟨_,rfl,h p hp hs⟩⟩) (args_list_sort _)))
 exact hk.on fun b q e=>kp b q (old b q e).1 (old b q e).2
end
section
variable {prog:Program} {w:World} {A:Around} {E:Value -> Shared -> Prop} {s:Shared}
def iY:List Int -> List Int -> Bool
 | [],[]=>false
 | [],_ :: _=>true
 | _ :: _,[]=>false
 | x :: xs,y :: ys=>if x = y then iY xs ys else decide (x < y)
theorem sg:∀ a:List Int,iY a a = false
 | []=>rfl
 | x :: xs=>by unfold iY;rw [if_pos rfl];exact sg xs
theorem uL:∀ a b:List Int,iY a b = true -> iY b a = false
 | [],[],h=>by unfold iY at h;cases h
 | [],_ :: _,_=>by unfold iY;rfl
 | _ :: _,[],h=>by unfold iY at h;cases h
 | x :: xs,y :: ys,h=>by
  unfold iY at h ⊢
  by_cases e:x = y
  ·rw [if_pos e] at h;rw [if_pos e.symm];exact uL xs ys h
  ·rw [if_neg e] at h
   rw [if_neg (Ne.symm e)]
   have:=of_decide_eq_true h
   exact decide_eq_false (by lia)
theorem uH:∀ a b c:List Int,iY b a = false -> iY c b = false -> iY c a = false
 | [],_,[],_,_=>rfl
 | [],[],_ :: _,_,h=>by unfold iY at h;cases h <;> rfl
 | [],_ :: _,_ :: _,_,_=>by unfold iY;rfl
 | _ :: _,[],_,h,_=>by unfold iY at h;cases h
 | x :: xs,y :: ys,[],_,h=>by unfold iY at h;cases h
 | x :: xs,y :: ys,z :: zs,h1,h2=>by
  unfold iY at h1 h2 ⊢
  by_cases e1:y = x
  ·rw [if_pos e1] at h1
   by_cases e2:z = y
   ·rw [if_pos e2] at h2
    rw [if_pos (e2.trans e1)]
    exact uH xs ys zs h1 h2
   ·rw [if_neg e2] at h2
    rw [if_neg (by lia)]
    have:=of_decide_eq_false h2
    exact decide_eq_false (by lia)
  ·rw [if_neg e1] at h1
   have g1:=of_decide_eq_false h1
   by_cases e2:z = y
   ·rw [if_neg (by lia)]
    exact decide_eq_false (by lia)
   ·rw [if_neg e2] at h2
    have g2:=of_decide_eq_false h2
    rw [if_neg (by lia)]
    exact decide_eq_false (by lia)
theorem Ez (f:Nat -> List Int):Ord (fun i j=>iY (f i) (f j)) (fun i j=>iY (f j) (f i) = false):=
 ⟨fun a b c h1 h2=>uH _ _ _ h1 h2,fun a=>sg _,fun a b h=>uL _ _ h,fun a b h=>h⟩
def KB (h:Heap) (v:Value) (ns:List Int):Prop:=∃ a o xs n,v = .ref a /\ h.get? a = some o /\ o.cls = .type "tuple" /\ o.data = .seq xs n /\ IntsAre xs.toList ns
theorem G2:∀ (xs ys:List Value) (ns ms:List Int) (i:Nat) (fin:Bool) (Q:Bool -> Shared -> Prop),IntsAre xs ns -> IntsAre ys ms -> (fin = decide (xs.length < ys.length)) -> Q (iY ns ms) s ->
  KatLex prog w A true fin Q (xs.zip ys) i s:=by
 intro xs
 induction xs with
 | nil=>
  intro ys ns ms i fin Q hx hy hf hq
  cases hx
  rw [List.zip_nil_left]
  show Q fin s
  rw [hf]
  cases hy with
  | nil=>exact hq
  | cons b u ty=>exact hq
 | cons x xs ih=>
  intro ys ns ms i fin Q hx hy hf hq
  cases hx with
  | cons a t tx=>
   cases hy with
   | nil=>
    rw [List.zip_nil_right]
    show Q fin s
    rw [hf]
    exact hq
   | @cons c u ys' ms' ty=>
    rw [List.zip_cons_cons]
    refine kat_cons ((SeqAt.EqAt.int_int a t c u) prog w _ _ ?_)
    unfold iY at hq
    by_cases e:a = c
    ·rw [if_pos e] at hq
     have eb:(a == c) = true:=by simpa using e
     rw [eb]
     exact kat_yes (ih ys' _ ms' (i + 1) fin Q tx ty (by rw [hf];simp) hq)
    ·rw [if_neg e] at hq
     have eb:(a == c) = false:=by simpa using e
     rw [eb]
     refine kat_no ?_
     cases q:i == 0 with
     | true=>exact oneLt_int hq
     | false=>exact kat_one _ _ (lt_int hq)
theorem Be {vs:List Value} {f:Nat -> List Int} (hv:∀ i,i < vs.length -> KB s.heap (vs.getD i Value.none) (f i) /\ f i ≠ []):Known prog w s vs (tuples' true) fun i j=>iY (f i) (f j):=by
 refine ⟨fun A E h' Q hk h2 hq=>?_,fun A h' i j C hk hi hj hc=>?_⟩
 ·have hv':∀ v ∈ vs,∃ n t rest a o xs k,v = .ref a /\ h'.get? a = some o /\ o.cls = .type "tuple" /\ o.data = .seq xs k /\ xs.toList = Value.int n t :: rest:=fun v hm=>by
   obtain ⟨i,hi,e⟩:=List.getElem_of_mem hm
   obtain ⟨⟨a,o,xs,k,e1,e2,e3,e4,e5⟩,ne⟩:=hv i hi
   have ev:vs.getD i Value.none = v:=by rw [List.getD_eq_getElem?_getD,List.getElem?_eq_getElem hi];exact e
   rw [ev] at e1
   revert e5 ne
   generalize f i = ns
   generalize ex:xs.toList = L
   intro ne e5
   cases e5 with
   | nil=>exact absurd rfl ne
   | @cons n t vs' ns' tl=>exact ⟨n,t,vs',a,o,xs,k,e1,hk _ _ e2,e3,e4,ex⟩
  have fs:∀ L:List Value,(∀ v ∈ L,∃ n t rest a o xs k,v = .ref a /\ h'.get? a = some o /\ o.cls = .type "tuple" /\ o.data = .seq xs k /\ xs.toList = Value.int n t :: rest) -> ∃ gs,KatTups h' L gs /\ gs.length = L.length /\ ∀ v ∈ gs,∃ n t,v = Value.int n t:=by
   intro L
   induction L with
   | nil=>exact fun _=>⟨[],.nil,rfl,fun _ h=>(by cases h)⟩
   | cons v L ih=>
    intro hL
    obtain ⟨gs,g1,g2,g3⟩:=ih fun u hu=>hL u (List.mem_cons_of_mem _ hu)
    obtain ⟨n,t,rest,a,o,xs,k,rfl,e2,e3,e4,e5⟩:=hL v List.mem_cons_self
    refine ⟨.int n t :: gs,.cons e2 e3 e4 (by rw [<- Array.getElem?_toList,e5];rfl) g1,by rw [List.length_cons,List.length_cons,g2],fun u hu=>?_⟩
    rcases List.mem_cons.mp hu with rfl | hu
    ·exact ⟨n,t,rfl⟩
    ·exact g3 u hu
  obtain ⟨gs,g1,g2,g3⟩:=fs vs hv'
  refine kat_kind (s:={ s with heap:=h' }) (T:=.type "int") g1 (by lia) (fun v hm=>?_) (by decide) hq
  obtain ⟨n,t,rfl⟩:=g3 v hm
  exact Looks.of_pure rfl
 ·obtain ⟨⟨a,o,xs,k,e1,e2,e3,e4,e5⟩,_⟩:=hv i hi
  obtain ⟨⟨a',o',xs',k',e1',e2',e3',e4',e5'⟩,_⟩:=hv j hj
  unfold kas_ask
  rw [e1,e1']
  refine kat_lt (s:={ s with heap:=h' }) (hk _ _ e2) e4 (hk _ _ e2') e4' ?_
  refine G2 (s:={ s with heap:=h' }) _ _ _ _ _ _ _ e5 e5' ?_ hc
  simp
theorem tu:∀ {vs:List Value} {ns:List Int},IntsAre vs ns -> ∀ i,i < vs.length -> ∃ t,vs.getD i Value.none = .int (ns.getD i 0) t
 | _,_,.nil,i,h=>by simp at h
 | _,_,.cons n t _,0,_=>⟨t,rfl⟩
 | _,_,.cons n t tl,i + 1,h=>by
  obtain ⟨u,e⟩:=tu tl i (by simpa using h)
  exact ⟨u,by simpa using e⟩
theorem Bo {vs:List Value} {ns:List Int} (hI:IntsAre vs ns):Known prog w s vs oneType' fun i j=>decide (ns.getD i 0 < ns.getD j 0):=by
 refine ⟨fun A E h' Q hk h2 hq=>?_,fun A h' i j C hk hi hj hc=>?_⟩
 ·rw [ksk_kind (keys:=vs.toArray) (kz:=ns) (by simpa using hI) (by simpa using h2)]
  exact wpAny_pure hq
 ·obtain ⟨t,e1⟩:=tu hI i hi
  obtain ⟨u,e2⟩:=tu hI j hj
  unfold kas_ask
  rw [e1,e2,keyLt'_oneType]
  exact oneLt_int hc
theorem FJ (f:Nat -> Int):Ord (fun i j=>decide (f i < f j)) (fun i j=>f i <= f j):=
 ⟨fun _ _ _ h k=>Int.le_trans h k,fun _=>Int.le_refl _,fun a b h=>Int.le_of_lt (of_decide_eq_true h),fun a b h=>by have:=of_decide_eq_false h;show f b <= f a;lia⟩
theorem jZ {vs:List Value} {ns:List Int} (hI:IntsAre vs ns):∀ L:List Nat,(∀ i ∈ L,i < vs.length) -> IntsAre (L.map fun i=>vs.getD i Value.none) (L.map fun i=>ns.getD i 0)
 | [],_=>.nil
 | i :: L,h=>by
  obtain ⟨t,e⟩:=tu hI i (h i List.mem_cons_self)
  rw [List.map_cons,List.map_cons,e]
  exact .cons _ t (jZ hI L fun j hj=>h j (List.mem_cons_of_mem _ hj))
theorem yP:∀ {vs:List Value} {ns:List Int},IntsAre vs ns -> vs.length = ns.length
 | _,_,.nil=>rfl
 | _,_,.cons n t tl=>by rw [List.length_cons,List.length_cons,yP tl]
theorem yr {l:Addr} {vs:List Value} {ns:List Int} {Q:Value -> Shared -> Prop} (hl:s.heap.IsList l vs.toArray) (hI:IntsAre vs ns) (hN:vs.length <= sizeLine)
  (h:∀ (out:Array Value) ms,IntsAre out.toList ms -> ms.Perm ns -> ms.Pairwise (· <= ·) -> Q (.ref (s.heap.objs.size + 1)) { s with heap:=sortedAll s.heap vs out }):wpAny (model prog w) A (call (.builtin "sorted") [.ref l]) Q E s:=by
 refine wx (FJ fun i=>ns.getD i 0) hl hN (Bo hI) fun p hp ha=>?_
 have e:=yP hI
 have hb:∀ i ∈ p.toList,i < vs.length:=fun i hi=>by simpa using (Array.perm_iff_toList_perm.mp hp).mem_iff.mp hi
 rw [e] at hp ha
 obtain ⟨p1,p2⟩:=Bh (vs:=ns) (d:=0) hp ha
 exact h (kW vs p) _ (by simpa [kW] using jZ hI p.toList hb) p1 (p2 _ fun i j _ _ h=>h)
end
end Srt
namespace L2
open PySem
def Jx (K:W.Frag):List V -> Hp -> VK -> Prop:=fun xs H Q=>∃ p ys,xs = [.ref p] /\ ((SqL K H p ys /\ ∀ l,H l = none -> Q (.ref l) (upd H l (.tup ys))) \/ (SqT K H p ys /\ Q (.ref p) H))
def KS:List V -> Hp -> VK -> Prop:=fun xs H Q=>∃ i j,xs = [.int i,.int j] /\ Q (.int (if j > i then j else i)) H
def Li:List V -> Hp -> VK -> Prop:=fun xs H Q=>∃ i j,xs = [.int i,.int j] /\ Q (.int (if j < i then j else i)) H
def LP (K:W.Frag) (ta:TE):TT:=fun σ H Q=>ta σ H fun x H'=>∃ k,Gx K x H' k /\ Q k H'
def z8 (K:W.Frag):List V -> Hp -> VK -> Prop:=fun xs H Q=>∃ p,∃ ns:List Int,xs = [.ref p] /\ SqL K H p (ns.map V.int) /\ ns.length < 30000 /\
 ∀ (ms:List Int) l,ms.Perm ns -> ms.Pairwise (· <= ·) -> H l = none -> Q (.ref l) (upd H l (.lst (ms.map V.int)))
def HF (K:W.Frag):List V -> Hp -> VK -> Prop:=fun xs H Q=>∃ p,∃ ns:List Int,xs = [.ref p] /\ SqL K H p (ns.map V.int) /\ Q (.int ns.sum) H
def I0 (K:W.Frag) (tl:TE):TI:=fun σ H R=>tl σ H fun x H1=>∃ a,x = .ref a /\ (((∃ xs,SqL K H1 a xs) /\ R (Itl K a) H1) \/ ((∃ xs,SqT K H1 a xs) /\ R (Itt K a) H1))
end L2
namespace M
open PySem L2
inductive D where
 | non | bl (b:Bool) | int (i:Int) | str (x:Str) | ty (n:String) | lst (l:List D) | tup (l:List D) | scr (l:List D) | ins (N:Str) (ns:List Str) (l:List D) | dic (ks:List (List Int)) | dif (ks:List (List Int)) | mtp (l:List D)
 deriving Inhabited
theorem dq {S S':Hp} (s:Same S S') {a:Addr} {u:HO} (h:Rd S a u):Rd S' a u:=h.elim (fun e=>.inl (s _ _ e)) fun ⟨o,e⟩=>.inr ⟨o,s _ _ e⟩
theorem e7 {K:W.Frag} {S S':Hp} (s:Same S S') {a:Addr} {xs:List V} (h:SqL K S a xs):SqL K S' a xs:=h.elim (fun e=>.inl (dq s e)) .inr
theorem ba {K:W.Frag} {S S':Hp} (s:Same S S') {a:Addr} {xs:List V} (h:SqT K S a xs):SqT K S' a xs:=h.elim (fun e=>.inl (dq s e)) .inr
def TpA (K:W.Frag) (S:Hp) (a:Addr) (xs:List V):Prop:=SqT K S a xs
theorem TpA.of {K:W.Frag} {S:Hp} {a:Addr} {xs:List V} (h:S a = some (.tup xs)):TpA K S a xs:=SqT.of h
theorem TpA.sq {K:W.Frag} {S:Hp} {a:Addr} {xs:List V} (h:TpA K S a xs):SqT K S a xs:=h
theorem TpA.mono {K:W.Frag} {S S':Hp} (s:Same S S') {a:Addr} {xs:List V} (h:TpA K S a xs):TpA K S' a xs:=ba s h
def Bb (ks:List (List Int)):List (List Key × V):=ks.map fun k=>(k.map Sum.inl,V.bl true)
mutual
def Den (K:W.Frag) (S:Hp):D -> V -> Prop
 | .non,v=>v = .non
 | .bl b,v=>v = .bl b
 | .int i,v=>v = .int i
 | .str x,v=>v = .str x
 | .ty x,v=>v = .ty x
 | .lst l,v=>∃ p xs,v = .ref p /\ Rd S p (.lst xs) /\ Dens K S l xs
 | .tup l,v=>∃ p xs,v = .ref p /\ TpA K S p xs /\ Dens K S l xs
 | .scr l,v=>∃ p xs,v = .ref p /\ SqL K S p xs /\ Dens K S l xs
 | .mtp l,v=>∃ p xs,v = .ref p /\ SqT K S p xs /\ Dens K S l xs
 | .ins N ns l,v=>∃ p C dx fs,v = .ref p /\ W.nsIn K mainGlobals N = some (some (.ref C)) /\ S p = some (.ins C dx fs) /\ fs.map (·.1) = ns /\ Dens K S l (fs.map (·.2))
 | .dic ks,v=>∃ p,v = .ref p /\ Rd S p (.dT (Bb ks))
 | .dif ks,v=>∃ p o,v = .ref p /\ S p = some (.frz o (.dT (Bb ks)))
def Dens (K:W.Frag) (S:Hp):List D -> List V -> Prop
 | [],xs=>xs = []
 | d :: ds,xs=>∃ y ys,xs = y :: ys /\ Den K S d y /\ Dens K S ds ys
end
section
variable {K:W.Frag} {S S' H H':Hp}
theorem Dens.nil:Dens K S [] []:=by unfold Dens;rfl
theorem Dens.cons {d:D} {ds:List D} {y:V} {ys:List V} (h:Den K S d y) (k:Dens K S ds ys):Dens K S (d :: ds) (y :: ys):=by unfold Dens;exact ⟨y,ys,rfl,h,k⟩
theorem Dens.nil_of {xs:List V} (h:Dens K S [] xs):xs = []:=by unfold Dens at h;exact h
theorem Dens.cons_of {d:D} {ds:List D} {xs:List V} (h:Dens K S (d :: ds) xs):∃ y ys,xs = y :: ys /\ Den K S d y /\ Dens K S ds ys:=by unfold Dens at h;exact h
theorem Dens.length:∀ {ds:List D} {xs:List V},Dens K S ds xs -> ds.length = xs.length
 | [],_,h=>by rw [h.nil_of];rfl
 | _ :: _,_,h=>by
  obtain ⟨y,ys,rfl,_,k⟩:=h.cons_of
  rw [List.length_cons,List.length_cons,k.length]
theorem Dens.append:∀ {ds es:List D} {xs ys:List V},Dens K S ds xs -> Dens K S es ys -> Dens K S (ds ++ es) (xs ++ ys)
 | [],_,_,_,h,k=>by rw [h.nil_of];exact k
 | _ :: _,_,_,_,h,k=>by
  obtain ⟨y,ys,rfl,a,b⟩:=h.cons_of
  exact .cons a (b.append k)
theorem Dens.get:∀ {ds:List D} {xs:List V} {i:Nat} {d:D},Dens K S ds xs -> ds[i]? = some d -> ∃ x,xs[i]? = some x /\ Den K S d x
 | [],_,_,_,_,e=>by simp at e
 | _ :: _,_,0,_,h,e=>by
  obtain ⟨y,ys,rfl,a,b⟩:=h.cons_of
  simp at e;subst e
  exact ⟨y,rfl,a⟩
 | _ :: _,_,i + 1,_,h,e=>by
  obtain ⟨y,ys,rfl,a,b⟩:=h.cons_of
  obtain ⟨x,e1,h1⟩:=b.get (i:=i) (by simpa using e)
  exact ⟨x,by simpa using e1,h1⟩
theorem Dens.set:∀ {ds:List D} {xs:List V} {d:D} {x:V} (i:Nat),Dens K S ds xs -> Den K S d x -> Dens K S (ds.set i d) (xs.set i x)
 | [],_,_,_,_,h,_=>by rw [h.nil_of];exact .nil
 | _ :: _,_,_,_,0,h,k=>by
  obtain ⟨y,ys,rfl,a,b⟩:=h.cons_of
  exact .cons k b
 | _ :: _,_,_,_,i + 1,h,k=>by
  obtain ⟨y,ys,rfl,a,b⟩:=h.cons_of
  exact .cons a (b.set i k)
theorem Dens.take:∀ {ds:List D} {xs:List V} (i:Nat),Dens K S ds xs -> Dens K S (ds.take i) (xs.take i)
 | [],_,_,h=>by rw [h.nil_of];simp;exact .nil
 | _ :: _,_,0,h=>by simp;exact .nil
 | _ :: _,_,i + 1,h=>by
  obtain ⟨y,ys,rfl,a,b⟩:=h.cons_of
  exact .cons a (b.take i)
theorem Dens.drop:∀ {ds:List D} {xs:List V} (i:Nat),Dens K S ds xs -> Dens K S (ds.drop i) (xs.drop i)
 | [],_,_,h=>by rw [h.nil_of];simp;exact .nil
 | _ :: _,_,0,h=>h
 | _ :: _,_,i + 1,h=>by
  obtain ⟨y,ys,rfl,a,b⟩:=h.cons_of
  exact b.drop i
mutual
theorem Den.mono (s:Same S S'):∀ {d:D} {v:V},Den K S d v -> Den K S' d v
 | .dic _,_,h=>by
  unfold Den at *
  obtain ⟨p,e,h1⟩:=h
  exact ⟨p,e,dq s h1⟩
 | .dif _,_,h=>by
  unfold Den at *
  obtain ⟨p,o,e,h1⟩:=h
  exact ⟨p,o,e,s _ _ h1⟩
 | .non,_,h=>by unfold Den at *;exact h
 | .bl _,_,h=>by unfold Den at *;exact h
 | .int _,_,h=>by unfold Den at *;exact h
 | .str _,_,h=>by unfold Den at *;exact h
 | .ty _,_,h=>by unfold Den at *;exact h
 | .lst _,_,h=>by
  unfold Den at *
  obtain ⟨p,xs,e,h1,h2⟩:=h
  exact ⟨p,xs,e,dq s h1,Dens.mono s h2⟩
 | .tup _,_,h=>by
  unfold Den at *
  obtain ⟨p,xs,e,h1,h2⟩:=h
  exact ⟨p,xs,e,TpA.mono s h1,Dens.mono s h2⟩
 | .scr _,_,h=>by
  unfold Den at *
  obtain ⟨p,xs,e,h1,h2⟩:=h
  exact ⟨p,xs,e,e7 s h1,Dens.mono s h2⟩
 | .mtp _,_,h=>by
  unfold Den at *
  obtain ⟨p,xs,e,h1,h2⟩:=h
  exact ⟨p,xs,e,ba s h1,Dens.mono s h2⟩
 | .ins _ _ _,_,h=>by
  unfold Den at *
  obtain ⟨p,C,dx,fs,e,h0,h1,h2,h3⟩:=h
  exact ⟨p,C,dx,fs,e,h0,s _ _ h1,h2,Dens.mono s h3⟩
theorem Dens.mono (s:Same S S'):∀ {ds:List D} {xs:List V},Dens K S ds xs -> Dens K S' ds xs
 | [],_,h=>by rw [h.nil_of];exact .nil
 | _ :: _,_,h=>by
  obtain ⟨y,ys,rfl,a,b⟩:=h.cons_of
  exact .cons (Den.mono s a) (Dens.mono s b)
end
theorem den_int {i:Int} {v:V}:Den K S (.int i) v ↔ v = .int i:=by unfold Den;exact Iff.rfl
theorem den_bl {b:Bool} {v:V}:Den K S (.bl b) v ↔ v = .bl b:=by unfold Den;exact Iff.rfl
theorem den_non {v:V}:Den K S .non v ↔ v = .non:=by unfold Den;exact Iff.rfl
theorem den_str {x:Str} {v:V}:Den K S (.str x) v ↔ v = .str x:=by unfold Den;exact Iff.rfl
theorem L0 {x:String} {v:V}:Den K S (.ty x) v ↔ v = .ty x:=by unfold Den;exact Iff.rfl
theorem den_tup {l:List D} {v:V}:Den K S (.tup l) v ↔ ∃ p xs,v = .ref p /\ TpA K S p xs /\ Dens K S l xs:=by
 constructor
 ·intro h;unfold Den at h;exact h
 ·intro h;unfold Den;exact h
theorem iG {l:List D} {v:V} (h:Den K S (.tup l) v):∃ p xs,v = .ref p /\ SqT K S p xs /\ Dens K S l xs:=by
 obtain ⟨p,xs,e,h1,h2⟩:=den_tup.mp h
 exact ⟨p,xs,e,h1.sq,h2⟩
theorem den_lst {l:List D} {v:V}:Den K S (.lst l) v ↔ ∃ p xs,v = .ref p /\ Rd S p (.lst xs) /\ Dens K S l xs:=by
 constructor
 ·intro h;unfold Den at h;exact h
 ·intro h;unfold Den;exact h
theorem den_scr {l:List D} {v:V}:Den K S (.scr l) v ↔ ∃ p xs,v = .ref p /\ SqL K S p xs /\ Dens K S l xs:=by
 constructor
 ·intro h;unfold Den at h;exact h
 ·intro h;unfold Den;exact h
theorem den_mtp {l:List D} {v:V}:Den K S (.mtp l) v ↔ ∃ p xs,v = .ref p /\ SqT K S p xs /\ Dens K S l xs:=by
 constructor
 ·intro h;unfold Den at h;exact h
 ·intro h;unfold Den;exact h
theorem den_ins {N:Str} {ns:List Str} {l:List D} {v:V}:Den K S (.ins N ns l) v ↔ ∃ p C dx fs,v = .ref p /\ W.nsIn K mainGlobals N = some (some (.ref C)) /\ S p = some (.ins C dx fs) /\ fs.map (·.1) = ns /\ Dens K S l (fs.map (·.2)):=by
 constructor
 ·intro h;unfold Den at h;exact h
 ·intro h;unfold Den;exact h
def DenP (K:W.Frag) (S H:Hp) (d:D) (v:V):Prop:=Den K S d v \/ ∃ l p xs,d = .lst l /\ v = .ref p /\ H p = some (.lst xs) /\ Dens K S l xs
theorem DenP.lst {l:List D} {v:V} (s:Same S H) (h:DenP K S H (.lst l) v):∃ p xs,v = .ref p /\ Rd H p (.lst xs) /\ Dens K S l xs:=by
 rcases h with h | ⟨l',p,xs,e,e1,e2,e3⟩
 ·obtain ⟨p,xs,e,e1,e2⟩:=den_lst.mp h
  exact ⟨p,xs,e,dq s e1,e2⟩
 ·cases e
  exact ⟨p,xs,e1,.inl e2,e3⟩
theorem DenP.tup {l:List D} {v:V} (s:Same S H) (h:DenP K S H (.tup l) v):∃ p xs,v = .ref p /\ SqT K H p xs /\ Dens K S l xs:=by
 rcases h with h | ⟨l',p,xs,e,e1,e2,e3⟩
 ·obtain ⟨p,xs,e,e1,e2⟩:=iG h
  exact ⟨p,xs,e,ba s e1,e2⟩
 ·cases e
theorem DenP.scr {l:List D} {v:V} (s:Same S H) (h:DenP K S H (.scr l) v):∃ p xs,v = .ref p /\ SqL K H p xs /\ Dens K S l xs:=by
 rcases h with h | ⟨l',p,xs,e,e1,e2,e3⟩
 ·obtain ⟨p,xs,e,e1,e2⟩:=den_scr.mp h
  exact ⟨p,xs,e,e7 s e1,e2⟩
 ·cases e
theorem DenP.int {i:Int} {v:V} (h:DenP K S H (.int i) v):v = .int i:=by
 rcases h with h | ⟨l',p,xs,e,_⟩
 ·exact den_int.mp h
 ·cases e
theorem DenP.bl {i:Bool} {v:V} (h:DenP K S H (.bl i) v):v = .bl i:=by
 rcases h with h | ⟨l',p,xs,e,_⟩
 ·exact den_bl.mp h
 ·cases e
theorem DenP.str {i:Str} {v:V} (h:DenP K S H (.str i) v):v = .str i:=by
 rcases h with h | ⟨l',p,xs,e,_⟩
 ·exact den_str.mp h
 ·cases e
theorem DenP.non {v:V} (h:DenP K S H .non v):v = .non:=by
 rcases h with h | ⟨l',p,xs,e,_⟩
 ·exact den_non.mp h
 ·cases e
structure Ext (S H S' H':Hp):Prop where
 sh:Same S S'
 sub:Same S' H'
 al:∀ b o,H b = some o -> S b = none -> H' b = some o /\ S' b = none
theorem Ext.refl (h:Same S H):Ext S H S H:=⟨Same.refl _,h,fun _ _ h n=>⟨h,n⟩⟩
theorem Ext.trans {S1 H1 S2 H2:Hp} (a:Ext S H S1 H1) (b:Ext S1 H1 S2 H2):Ext S H S2 H2:=⟨a.sh.trans b.sh,b.sub,fun c o h n=>b.al c o (a.al c o h n).1 (a.al c o h n).2⟩
theorem Ext.same (a:Ext S H S' H') (s:Same S H):Same H H':=fun b o h=>by
 cases q:S b with
 | none=>exact (a.al b o h q).1
 | some u=>
  have:=s b u q
  rw [h] at this
  cases this
  exact a.sub b o (a.sh b o q)
theorem Ext.new (s:Same S H) {p:Addr} {o:HO} (h:H p = none):Ext S H (upd S p o) (upd H p o) where
 sh:=fun b u e=>by rw [a7 (bh e (s.free h))];exact e
 sub:=fun b u e=>by
  by_cases hb:b = p
  ·subst hb;rw [a8] at e ⊢;exact e
  ·rw [a7 hb] at e ⊢;exact s b u e
 al:=fun b u e n=>by
  have hb:=bh e h
  rw [a7 hb,a7 hb]
  exact ⟨e,n⟩
theorem Ext.own (s:Same S H) {p:Addr} {o:HO} (h:H p = none):Ext S H S (upd H p o) where
 sh:=Same.refl _
 sub:=fun b u e=>by rw [a7 (bh (s b u e) h)];exact s b u e
 al:=fun b u e n=>by
  have hb:=bh e h
  rw [a7 hb]
  exact ⟨e,n⟩
theorem DenP.mono {d:D} {v:V} (e:Ext S H S' H') (s:Same S H) (h:DenP K S H d v):DenP K S' H' d v:=by
 rcases h with h | ⟨l,p,xs,h1,h2,h3,h4⟩
 ·exact .inl (h.mono e.sh)
 ·exact .inr ⟨l,p,xs,h1,h2,e.same s _ _ h3,h4.mono e.sh⟩
inductive DensP (K:W.Frag) (S H:Hp):List D -> List V -> Prop where
 | nil:DensP K S H [] []
 | cons {d ds v vs}:DenP K S H d v -> DensP K S H ds vs -> DensP K S H (d :: ds) (v :: vs)
inductive O where
 | sh (d:D) | lst (l:List O) | tup (l:List O) | dic (ks:List (List Int)) | hd (p:Addr) (ks:List (List Int)) (os:List O)
 deriving Inhabited
mutual
def O.d:O -> D
 | .sh d=>d
 | .dic ks=>.dic ks
 | .hd _ ks os=>(O.ds os).headD (.dic ks)
 | .lst l=>.lst (O.ds l)
 | .tup l=>.tup (O.ds l)
def O.ds:List O -> List D
 | []=>[]
 | o :: l=>o.d :: O.ds l
end
mutual
def Own (K:W.Frag) (S H:Hp):O -> V -> List Addr -> Prop
 | .sh d,v,fp=>fp = [] /\ Den K S d v
 | .lst l,v,fp=>∃ a xs f,v = .ref a /\ fp = a :: f /\ H a = some (.lst xs) /\ Owns K S H l xs f
 | .tup l,v,fp=>∃ a xs f,v = .ref a /\ fp = a :: f /\ H a = some (.tup xs) /\ Owns K S H l xs f
 | .dic ks,v,fp=>∃ a,v = .ref a /\ fp = [a] /\ H a = some (.dT (Bb ks))
 | .hd p ks os,v,fp=>∃ xs f,v = xs.headD (.ref p) /\ fp = p :: f /\ H p = some (.dT (Bb ks)) /\ Owns K S H os xs f
def Owns (K:W.Frag) (S H:Hp):List O -> List V -> List Addr -> Prop
 | [],xs,fp=>xs = [] /\ fp = []
 | o :: l,xs,fp=>∃ y ys f g,xs = y :: ys /\ fp = f ++ g /\ Own K S H o y f /\ Owns K S H l ys g
end
theorem den_dic {ks:List (List Int)} {v:V}:Den K S (.dic ks) v ↔ ∃ p,v = .ref p /\ Rd S p (.dT (Bb ks)):=by unfold Den;exact Iff.rfl
theorem own_dic {ks:List (List Int)} {v:V} {fp:List Addr}:Own K S H (.dic ks) v fp ↔ ∃ a,v = .ref a /\ fp = [a] /\ H a = some (.dT (Bb ks)):=by unfold Own;exact Iff.rfl
theorem own_hd {p:Addr} {ks:List (List Int)} {os:List O} {v:V} {fp:List Addr}:Own K S H (.hd p ks os) v fp ↔ ∃ xs f,v = xs.headD (.ref p) /\ fp = p :: f /\ H p = some (.dT (Bb ks)) /\ Owns K S H os xs f:=by
 constructor
 ·intro h;unfold Own at h;exact h
 ·intro h;unfold Own;exact h
theorem own_sh {d:D} {v:V} {fp:List Addr}:Own K S H (.sh d) v fp ↔ fp = [] /\ Den K S d v:=by unfold Own;exact Iff.rfl
theorem own_lst {l:List O} {v:V} {fp:List Addr}:Own K S H (.lst l) v fp ↔ ∃ a xs f,v = .ref a /\ fp = a :: f /\ H a = some (.lst xs) /\ Owns K S H l xs f:=by
 constructor
 ·intro h;unfold Own at h;exact h
 ·intro h;unfold Own;exact h
theorem own_tup {l:List O} {v:V} {fp:List Addr}:Own K S H (.tup l) v fp ↔ ∃ a xs f,v = .ref a /\ fp = a :: f /\ H a = some (.tup xs) /\ Owns K S H l xs f:=by
 constructor
 ·intro h;unfold Own at h;exact h
 ·intro h;unfold Own;exact h
theorem Owns.nil:Owns K S H [] [] []:=by unfold Owns;exact ⟨rfl,rfl⟩
theorem Owns.cons {o:O} {l:List O} {y:V} {ys:List V} {f g:List Addr} (h:Own K S H o y f) (k:Owns K S H l ys g):Owns K S H (o :: l) (y :: ys) (f ++ g):=by unfold Owns;exact ⟨y,ys,f,g,rfl,rfl,h,k⟩
theorem Owns.nil_of {xs:List V} {fp:List Addr} (h:Owns K S H [] xs fp):xs = [] /\ fp = []:=by unfold Owns at h;exact h
theorem Owns.cons_of {o:O} {l:List O} {xs:List V} {fp:List Addr} (h:Owns K S H (o :: l) xs fp):∃ y ys f g,xs = y :: ys /\ fp = f ++ g /\ Own K S H o y f /\ Owns K S H l ys g:=by unfold Owns at h;exact h
theorem Owns.length:∀ {l:List O} {xs:List V} {fp:List Addr},Owns K S H l xs fp -> l.length = xs.length
 | [],_,_,h=>by rw [h.nil_of.1];rfl
 | _ :: _,_,_,h=>by
  obtain ⟨y,ys,f,g,rfl,rfl,_,k⟩:=h.cons_of
  rw [List.length_cons,List.length_cons,k.length]
theorem Owns.append:∀ {l m:List O} {xs ys:List V} {f g:List Addr},Owns K S H l xs f -> Owns K S H m ys g -> Owns K S H (l ++ m) (xs ++ ys) (f ++ g)
 | [],_,_,_,_,_,h,k=>by rw [h.nil_of.1,h.nil_of.2];exact k
 | _ :: _,_,_,_,_,_,h,k=>by
  obtain ⟨y,ys,f,g,rfl,rfl,a,b⟩:=h.cons_of
  rw [List.append_assoc]
  exact .cons a (b.append k)
theorem tf:∀ {ds:List D} {xs:List V},Dens K S ds xs -> Owns K S H (ds.map .sh) xs []
 | [],_,h=>by rw [h.nil_of];exact .nil
 | _ :: _,_,h=>by
  obtain ⟨y,ys,rfl,a,b⟩:=h.cons_of
  exact .cons (f:=[]) (own_sh.mpr ⟨rfl,a⟩) (tf b)
theorem nO:∀ {ds:List D} {xs:List V} {fp:List Addr},Owns K S H (ds.map .sh) xs fp -> Dens K S ds xs /\ fp = []
 | [],_,_,h=>by rw [h.nil_of.1,h.nil_of.2];exact ⟨.nil,rfl⟩
 | _ :: _,_,_,h=>by
  obtain ⟨y,ys,f,g,rfl,rfl,a,b⟩:=h.cons_of
  obtain ⟨e,a⟩:=own_sh.mp a
  obtain ⟨b,e2⟩:=nO b
  exact ⟨.cons a b,by rw [e,e2];rfl⟩
mutual
theorem Own.mono (s:Same S S'):∀ {o:O} {v:V} {fp:List Addr},(∀ b ∈ fp,H' b = H b) -> Own K S H o v fp -> Own K S' H' o v fp
 | .dic _,_,_,k,h=>by
  obtain ⟨a,e,rfl,h1⟩:=own_dic.mp h
  exact own_dic.mpr ⟨a,e,rfl,by rw [k a List.mem_cons_self];exact h1⟩
 | .hd _ _ _,_,_,k,h=>by
  obtain ⟨xs,f,e,rfl,h1,h2⟩:=own_hd.mp h
  exact own_hd.mpr ⟨xs,f,e,rfl,by rw [k _ List.mem_cons_self];exact h1,Owns.mono s (fun b hb=>k b (List.mem_cons_of_mem _ hb)) h2⟩
 | .sh _,_,_,k,h=>by
  obtain ⟨e,d⟩:=own_sh.mp h
  exact own_sh.mpr ⟨e,d.mono s⟩
 | .lst _,_,_,k,h=>by
  obtain ⟨a,xs,f,e,rfl,h1,h2⟩:=own_lst.mp h
  exact own_lst.mpr ⟨a,xs,f,e,rfl,by rw [k a List.mem_cons_self];exact h1,Owns.mono s (fun b hb=>k b (List.mem_cons_of_mem _ hb)) h2⟩
 | .tup _,_,_,k,h=>by
  obtain ⟨a,xs,f,e,rfl,h1,h2⟩:=own_tup.mp h
  exact own_tup.mpr ⟨a,xs,f,e,rfl,by rw [k a List.mem_cons_self];exact h1,Owns.mono s (fun b hb=>k b (List.mem_cons_of_mem _ hb)) h2⟩
theorem Owns.mono (s:Same S S'):∀ {l:List O} {xs:List V} {fp:List Addr},(∀ b ∈ fp,H' b = H b) -> Owns K S H l xs fp -> Owns K S' H' l xs fp
 | [],_,_,k,h=>by rw [h.nil_of.1,h.nil_of.2];exact .nil
 | _ :: _,_,_,k,h=>by
  obtain ⟨y,ys,f,g,rfl,rfl,a,b⟩:=h.cons_of
  exact .cons (Own.mono s (fun b hb=>k b (List.mem_append_left _ hb)) a) (Owns.mono s (fun b hb=>k b (List.mem_append_right _ hb)) b)
end
mutual
theorem Own.there:∀ {o:O} {v:V} {fp:List Addr},Own K S H o v fp -> ∀ b ∈ fp,H b ≠ none
 | .dic _,_,_,h=>by
  obtain ⟨a,e,rfl,h1⟩:=own_dic.mp h
  intro b hb
  rw [List.mem_singleton] at hb
  subst hb
  rw [h1];exact fun z=>by cases z
 | .hd _ _ _,_,_,h=>by
  obtain ⟨xs,f,e,rfl,h1,h2⟩:=own_hd.mp h
  intro b hb
  rcases List.mem_cons.mp hb with rfl | hb
  ·rw [h1];exact fun z=>by cases z
  ·exact Owns.there h2 b hb
 | .sh _,_,_,h=>by
  obtain ⟨e,d⟩:=own_sh.mp h
  rw [e];intro b hb;cases hb
 | .lst _,_,_,h=>by
  obtain ⟨a,xs,f,e,rfl,h1,h2⟩:=own_lst.mp h
  intro b hb
  rcases List.mem_cons.mp hb with rfl | hb
  ·rw [h1];exact fun z=>by cases z
  ·exact Owns.there h2 b hb
 | .tup _,_,_,h=>by
  obtain ⟨a,xs,f,e,rfl,h1,h2⟩:=own_tup.mp h
  intro b hb
  rcases List.mem_cons.mp hb with rfl | hb
  ·rw [h1];exact fun z=>by cases z
  ·exact Owns.there h2 b hb
theorem Owns.there:∀ {l:List O} {xs:List V} {fp:List Addr},Owns K S H l xs fp -> ∀ b ∈ fp,H b ≠ none
 | [],_,_,h=>by rw [h.nil_of.2];intro b hb;cases hb
 | _ :: _,_,_,h=>by
  obtain ⟨y,ys,f,g,rfl,rfl,a,b⟩:=h.cons_of
  intro c hc
  rcases List.mem_append.mp hc with hc | hc
  ·exact Own.there a c hc
  ·exact Owns.there b c hc
end
mutual
theorem Own.den {S2:Hp} (s:Same S S2):∀ {o:O} {v:V} {fp:List Addr},(∀ b ∈ fp,S2 b = H b) -> Own K S H o v fp -> Den K S2 o.d v
 | .dic _,_,_,k,h=>by
  obtain ⟨a,e,rfl,h1⟩:=own_dic.mp h
  rw [O.d]
  exact den_dic.mpr ⟨a,e,.inl (by rw [k a List.mem_cons_self];exact h1)⟩
 | .hd p ks os,_,_,k,h=>by
  obtain ⟨xs,f,e,rfl,h1,h2⟩:=own_hd.mp h
  have ds:=Owns.den s (fun b hb=>k b (List.mem_cons_of_mem _ hb)) h2
  rw [O.d,e]
  cases q:O.ds os with
  | nil=>
   rw [q] at ds
   rw [ds.nil_of]
   exact den_dic.mpr ⟨p,rfl,.inl (by rw [k p List.mem_cons_self];exact h1)⟩
  | cons d l=>
   rw [q] at ds
   obtain ⟨y,ys,rfl,a,_⟩:=ds.cons_of
   exact a
 | .sh _,_,_,k,h=>by
  obtain ⟨e,d⟩:=own_sh.mp h
  exact d.mono s
 | .lst l,_,_,k,h=>by
  obtain ⟨a,xs,f,e,rfl,h1,h2⟩:=own_lst.mp h
  rw [O.d]
  exact den_lst.mpr ⟨a,xs,e,.inl (by rw [k a List.mem_cons_self];exact h1),Owns.den s (fun b hb=>k b (List.mem_cons_of_mem _ hb)) h2⟩
 | .tup l,_,_,k,h=>by
  obtain ⟨a,xs,f,e,rfl,h1,h2⟩:=own_tup.mp h
  rw [O.d]
  exact den_tup.mpr ⟨a,xs,e,TpA.of (by rw [k a List.mem_cons_self];exact h1),Owns.den s (fun b hb=>k b (List.mem_cons_of_mem _ hb)) h2⟩
theorem Owns.den {S2:Hp} (s:Same S S2):∀ {l:List O} {xs:List V} {fp:List Addr},(∀ b ∈ fp,S2 b = H b) -> Owns K S H l xs fp -> Dens K S2 (O.ds l) xs
 | [],_,_,k,h=>by rw [h.nil_of.1,O.ds];exact .nil
 | _ :: _,_,_,k,h=>by
  obtain ⟨y,ys,f,g,rfl,rfl,a,b⟩:=h.cons_of
  rw [O.ds]
  exact .cons (Own.den s (fun b hb=>k b (List.mem_append_left _ hb)) a) (Owns.den s (fun b hb=>k b (List.mem_append_right _ hb)) b)
end
theorem Own.denH {o:O} {v:V} {fp:List Addr} (s:Same S H) (h:Own K S H o v fp):Den K H o.d v:=h.den s fun _ _=>rfl
theorem Ext.keeps {fp:List Addr} (e:Ext S H S' H') (h:∀ b ∈ fp,S b = none) (t:∀ b ∈ fp,H b ≠ none):(∀ b ∈ fp,H' b = H b) /\ ∀ b ∈ fp,S' b = none:=by
 have key:∀ b ∈ fp,H' b = H b /\ S' b = none:=fun b hb=>by
  cases q:H b with
  | none=>exact absurd q (t b hb)
  | some o=>exact e.al b o q (h b hb)
 exact ⟨fun b hb=>(key b hb).1,fun b hb=>(key b hb).2⟩
inductive Sl where
 | un | lo | sh (d:D) | ow (o:O)
 deriving Inhabited
abbrev Env:=List Sl
structure RlF (K:W.Frag) (A:Hp) (Λ:Nat -> Option Addr) (Φ:Nat -> List Addr) (ρ:Env) (σ:St) (S H:Hp):Prop where
 len:σ.length = ρ.length
 sub:Same S H
 sh:∀ (i:Nat) d,ρ[i]? = some (.sh d) -> ∃ v,σ[i]? = some (some v) /\ Den K S d v
 ow:∀ (i:Nat) o,ρ[i]? = some (.ow o) -> ∃ v,σ[i]? = some (some v) /\ Own K S H o v (Φ i) /\ (Φ i).Nodup /\ ∀ b ∈ Φ i,S b = none /\ A b = none
 dj:∀ (i j:Nat) o o',i ≠ j -> ρ[i]? = some (.ow o) -> ρ[j]? = some (.ow o') -> ∀ b ∈ Φ i,b ∉ Φ j
 lo:∀ (i:Nat),ρ[i]? = some .lo -> ∃ a,Λ i = some a /\ σ[i]? = some (some (.ref a))
 asub:Same A H
 adis:∀ b,S b = none \/ A b = none
def RlA (K:W.Frag) (A:Hp) (Λ:Nat -> Option Addr) (ρ:Env) (σ:St) (S H:Hp):Prop:=∃ Φ,RlF K A Λ Φ ρ σ S H
def Rl (K:W.Frag) (ρ:Env) (σ:St) (S H:Hp):Prop:=∃ A Λ Φ,RlF K A Λ Φ ρ σ S H
theorem RlF.ext {A:Hp} {Λ:Nat -> Option Addr} {Φ:Nat -> List Addr} {ρ:Env} {σ:St} (r:RlF K A Λ Φ ρ σ S H) (e:Ext S H S' H'):RlF K A Λ Φ ρ σ S' H' where
 len:=r.len
 sub:=e.sub
 sh:=fun i d h=>by
  obtain ⟨v,h1,h2⟩:=r.sh i d h
  exact ⟨v,h1,h2.mono e.sh⟩
 ow:=fun i o h=>by
  obtain ⟨v,h1,h2,h3,h4⟩:=r.ow i o h
  obtain ⟨k1,k2⟩:=e.keeps (fun b hb=>(h4 b hb).1) h2.there
  exact ⟨v,h1,h2.mono e.sh k1,h3,fun b hb=>⟨k2 b hb,(h4 b hb).2⟩⟩
 dj:=r.dj
 lo:=r.lo
 asub:=fun b o h=>e.same r.sub b o (r.asub b o h)
 adis:=fun b=>by
  rcases r.adis b with h | h
  ·cases q:A b with
   | none=>exact .inr rfl
   | some o=>exact .inl (e.al b o (r.asub b o q) h).2
  ·exact .inr h
theorem RlA.ext {A:Hp} {Λ:Nat -> Option Addr} {ρ:Env} {σ:St} (r:RlA K A Λ ρ σ S H) (e:Ext S H S' H'):RlA K A Λ ρ σ S' H':=let ⟨Φ,f⟩:=r;⟨Φ,f.ext e⟩
theorem RlA.toRl {A:Hp} {Λ:Nat -> Option Addr} {ρ:Env} {σ:St} (r:RlA K A Λ ρ σ S H):Rl K ρ σ S H:=let ⟨Φ,f⟩:=r;⟨A,Λ,Φ,f⟩
theorem RlA.sub {A:Hp} {Λ:Nat -> Option Addr} {ρ:Env} {σ:St} (r:RlA K A Λ ρ σ S H):Same S H:=let ⟨_,f⟩:=r;f.sub
theorem RlA.asub {A:Hp} {Λ:Nat -> Option Addr} {ρ:Env} {σ:St} (r:RlA K A Λ ρ σ S H):Same A H:=let ⟨_,f⟩:=r;f.asub
theorem RlA.adis {A:Hp} {Λ:Nat -> Option Addr} {ρ:Env} {σ:St} (r:RlA K A Λ ρ σ S H):∀ b,S b = none \/ A b = none:=let ⟨_,f⟩:=r;f.adis
theorem RlA.sh {A:Hp} {Λ:Nat -> Option Addr} {ρ:Env} {σ:St} (r:RlA K A Λ ρ σ S H):∀ (i:Nat) d,ρ[i]? = some (.sh d) -> ∃ v,σ[i]? = some (some v) /\ Den K S d v:=let ⟨_,f⟩:=r;f.sh
theorem Rl.ext {ρ:Env} {σ:St} (r:Rl K ρ σ S H) (e:Ext S H S' H'):Rl K ρ σ S' H':=let ⟨A,Λ,Φ,f⟩:=r;⟨A,Λ,Φ,f.ext e⟩
theorem Rl.sub {ρ:Env} {σ:St} (r:Rl K ρ σ S H):Same S H:=let ⟨_,_,_,f⟩:=r;f.sub
theorem Rl.sh {ρ:Env} {σ:St} (r:Rl K ρ σ S H):∀ (i:Nat) d,ρ[i]? = some (.sh d) -> ∃ v,σ[i]? = some (some v) /\ Den K S d v:=let ⟨_,_,_,f⟩:=r;f.sh
theorem Rl.ow {ρ:Env} {σ:St} (r:Rl K ρ σ S H):∀ (i:Nat) o,ρ[i]? = some (.ow o) -> ∃ v fp,σ[i]? = some (some v) /\ Own K S H o v fp /\ fp.Nodup /\ ∀ b ∈ fp,S b = none:=fun i o h=>by
 obtain ⟨A,Λ,Φ,f⟩:=r
 obtain ⟨v,h1,h2,h3,h4⟩:=f.ow i o h
 exact ⟨v,_,h1,h2,h3,fun b hb=>(h4 b hb).1⟩
abbrev XE:=Env -> Option D
abbrev XT:=Env -> Option Bool
abbrev XA:=Env -> Option (List D)
def SE (K:W.Frag) (t:TE) (e:XE):Prop:=∀ ρ σ S H (Q:VK) d,Rl K ρ σ S H -> e ρ = some d -> (∀ v S' H',Ext S H S' H' -> Den K S' d v -> Q v H') -> t σ H Q
def SPk (K:W.Frag) (t:TE) (e:XE):Prop:=∀ ρ σ S H (Q:VK) d,Rl K ρ σ S H -> e ρ = some d -> (∀ v S' H',Ext S H S' H' -> DenP K S' H' d v -> Q v H') -> t σ H Q
def SF (K:W.Frag) (t:TE) (e:XA):Prop:=∀ ρ σ S H (Q:VK) l,Rl K ρ σ S H -> e ρ = some l -> (∀ a xs S' H',Ext S H S' H' -> H a = none -> S' a = none -> H' a = some (.lst xs) -> Dens K S' l xs -> Q (.ref a) H') -> t σ H Q
def ST (K:W.Frag) (t:TT) (c:XT):Prop:=∀ ρ σ S H (Q:Bool -> Hp -> Prop) b,Rl K ρ σ S H -> c ρ = some b -> (∀ S' H',Ext S H S' H' -> Q b H') -> t σ H Q
def SA (K:W.Frag) (t:TA) (e:XA):Prop:=∀ ρ σ S H (Q:List V -> Hp -> Prop) ds,Rl K ρ σ S H -> e ρ = some ds -> (∀ vs S' H',Ext S H S' H' -> Dens K S' ds vs -> Q vs H') -> t σ H Q
def SAP (K:W.Frag) (t:TA) (e:XA):Prop:=∀ ρ σ S H (Q:List V -> Hp -> Prop) ds,Rl K ρ σ S H -> e ρ = some ds -> (∀ vs S' H',Ext S H S' H' -> DensP K S' H' ds vs -> Q vs H') -> t σ H Q
theorem SE.p {t:TE} {e:XE} (h:SE K t e):SPk K t e:=fun ρ σ S H Q d r x k=>h ρ σ S H Q d r x fun v S' H' z dv=>k v S' H' z (.inl dv)
@[simp] def xL (e:XA):XE:=fun ρ=>(e ρ).map D.lst
theorem SF.e {t:TE} {e:XA} (h:SF K t e):SE K t (xL e):=fun ρ σ S H Q d r x k=>by
 unfold xL at x
 cases q:e ρ with
 | none=>rw [q] at x;cases x
 | some l=>
  rw [q] at x
  cases x
  refine h ρ σ S H Q l r q fun a xs S' H' z h1 h2 h3 h4=>?_
  have s2:Same S' (upd S' a (.lst xs)):=fun b u e=>by rw [a7 (bh e h2)];exact e
  refine k _ (upd S' a (.lst xs)) H' ⟨z.sh.trans s2,fun b u e=>?_,fun b o e n=>?_⟩ (den_lst.mpr ⟨a,xs,rfl,.inl a8,h4.mono s2⟩)
  ·by_cases hb:b = a
   ·subst hb;rw [a8] at e;cases e;exact h3
   ·rw [a7 hb] at e;exact z.sub b u e
  ·obtain ⟨y1,y2⟩:=z.al b o e n
   exact ⟨y1,by rw [a7 (bh e h1)];exact y2⟩
@[simp] def aq (i:Nat):XE:=fun ρ=>match ρ[i]? with | some (.sh d)=>some d | _=>none
def shs:List O -> Option (List D)
 | []=>some []
 | .sh d :: l=>(shs l).map fun r=>d :: r
 | _=>none
theorem s9:∀ l:List D,shs (l.map .sh) = some l
 | []=>rfl
 | d :: l=>by rw [List.map_cons,shs,s9 l];rfl
theorem AY:∀ {os:List O} {l:List D},shs os = some l -> os = l.map .sh
 | [],l,h=>by cases h;rfl
 | o :: os,l,h=>by
  cases o with
  | sh d=>
   have h':(shs os).map (fun r=>d :: r) = some l:=h
   cases q:shs os with
   | none=>rw [q] at h';cases h'
   | some m=>rw [q] at h';cases h';rw [AY q];rfl
  | lst _=>cases h
  | tup _=>cases h
  | dic _=>cases h
  | hd _ _ _=>cases h
def Fi:Sl -> Option D
 | .sh d=>some d
 | .ow (.sh d)=>some d
 | .ow (.lst os)=>(shs os).map D.lst
 | _=>none
@[simp] theorem Lr (d:D):Fi (.ow (.sh d)) = some d:=rfl
@[simp] theorem Lm (d:D):Fi (.sh d) = some d:=rfl
@[simp] theorem Lo (l:List D):Fi (.ow (.lst (l.map .sh))) = some (.lst l):=by show (shs _).map D.lst = _;rw [s9];rfl
@[simp] def ah (i:Nat):XE:=fun ρ=>(ρ[i]?).bind Fi
theorem rY (i:Nat):SE K (sw i) (aq i):=fun ρ σ S H Q d r x k=>by
 unfold aq at x
 split at x
 ·rename_i d' e
  cases x
  obtain ⟨v,h1,h2⟩:=r.sh i _ e
  exact ⟨v,h1,k v S H (Ext.refl r.sub) h2⟩
 ·cases x
theorem iL (i:Nat):SPk K (sw i) (ah i):=fun ρ σ S H Q d r x k=>by
 unfold ah at x
 cases q:ρ[i]? with
 | none=>rw [q] at x;cases x
 | some s=>
  rw [q] at x
  cases s with
  | un=>cases x
  | lo=>cases x
  | sh d'=>
   cases x
   obtain ⟨v,h1,h2⟩:=r.sh i _ q
   exact ⟨v,h1,k v S H (Ext.refl r.sub) (.inl h2)⟩
  | ow o=>
   cases o with
   | sh d'=>
    cases x
    obtain ⟨v,fp,h1,h2,h3,h4⟩:=r.ow i _ q
    exact ⟨v,h1,k v S H (Ext.refl r.sub) (.inl (own_sh.mp h2).2)⟩
   | tup l=>cases x
   | dic ks=>cases x
   | hd _ _ _=>cases x
   | lst os=>
    have x':(shs os).map D.lst = some d:=x
    cases qs:shs os with
    | none=>rw [qs] at x';cases x'
    | some l=>
     rw [qs] at x'
     cases x'
     have e:=AY qs
     subst e
     obtain ⟨v,fp,h1,h2,h3,h4⟩:=r.ow i _ q
     obtain ⟨a,xs,f,rfl,rfl,h5,h6⟩:=own_lst.mp h2
     exact ⟨_,h1,k _ S H (Ext.refl r.sub) (.inr ⟨l,a,xs,rfl,rfl,h5,(nO h6).1⟩)⟩
def SQ (K:W.Frag) (t:TE) (e:XE):Prop:=∀ ρ σ S H (Q:VK) d,Rl K ρ σ S H -> e ρ = some d -> (∀ v S' H',Ext S H S' H' -> Den K H' d v -> Q v H') -> t σ H Q
theorem t8 {d:D} {v:V} (s:Same S H) (h:DenP K S H d v):Den K H d v:=by
 rcases h with h | ⟨l,p,xs,rfl,rfl,h1,h2⟩
 ·exact h.mono s
 ·exact den_lst.mpr ⟨p,xs,rfl,.inl h1,h2.mono s⟩
theorem SPk.q {t:TE} {e:XE} (h:SPk K t e):SQ K t e:=fun ρ σ S H Q d r x k=>h ρ σ S H Q d r x fun v S' H' z dv=>k v S' H' z (t8 z.sub dv)
def F3:Sl -> Option D
 | .sh d=>some d
 | .ow o=>some o.d
 | _=>none
@[simp] theorem Kc (d:D):F3 (.sh d) = some d:=rfl
@[simp] theorem Ku (o:O):F3 (.ow o) = some o.d:=rfl
@[simp] def Cs (i:Nat):XE:=fun ρ=>(ρ[i]?).bind F3
theorem Iq (i:Nat):SQ K (sw i) (Cs i):=fun ρ σ S H Q d r x k=>by
 unfold Cs at x
 cases q:ρ[i]? with
 | none=>rw [q] at x;cases x
 | some s=>
  rw [q] at x
  cases s with
  | un=>cases x
  | lo=>cases x
  | sh d'=>
   cases x
   obtain ⟨v,h1,h2⟩:=r.sh i _ q
   exact ⟨v,h1,k v S H (Ext.refl r.sub) (h2.mono r.sub)⟩
  | ow o=>
   cases x
   obtain ⟨v,fp,h1,h2,h3,h4⟩:=r.ow i _ q
   exact ⟨_,h1,k _ S H (Ext.refl r.sub) (h2.denH r.sub)⟩
@[simp] def xC (d:D):XE:=fun _=>some d
def qL:D -> Option V
 | .non=>some .non | .bl b=>some (.bl b) | .int i=>some (.int i) | .str x=>some (.str x) | .ty x=>some (.ty x) | _=>none
theorem pB {d:D} {v:V} (h:qL d = some v):Den K S d v:=by
 cases d <;> simp [qL] at h <;> subst h <;> unfold Den <;> rfl
theorem s_c {v:V} {d:D} (h:qL d = some v):SE K (tC v) (xC d):=fun ρ σ S H Q e r x k=>by
 cases x
 exact k v S H (Ext.refl r.sub) (pB h)
@[simp] def xFl (e:XE):XE:=fun ρ=>(e ρ).bind fun d=>if (qL d).isSome then some d else none
theorem Hf {d:D} {v w:V} (h:qL d = some w) (k:Den K S d v):v = w:=by
 cases d <;> simp [qL] at h <;> subst h <;> unfold Den at k <;> exact k
theorem SQ.fl {t:TE} {e:XE} (h:SQ K t e):SE K t (xFl e):=fun ρ σ S H Q d r x k=>by
 unfold xFl at x
 cases q:e ρ with
 | none=>rw [q] at x;cases x
 | some d'=>
  rw [q] at x
  dsimp only [Option.bind] at x
  split at x
  ·rename_i hf
   cases x
   obtain ⟨w,hw⟩:=Option.isSome_iff_exists.mp hf
   refine h ρ σ S H Q d r q fun v S' H' z dv=>k v S' H' z ?_
   rw [Hf hw dv]
   exact pB hw
  ·cases x
@[simp] def xOp (f:D -> D -> Option D) (a b:XE):XE:=fun ρ=>(a ρ).bind fun x=>(b ρ).bind fun y=>f x y
def SR2 (K:W.Frag) (r:R2) (f:D -> D -> Option D):Prop:=∀ S H x y d e g (Q:VK),Same S H -> DenP K S H d x -> DenP K S H e y -> f d e = some g -> (∀ v S' H',Ext S H S' H' -> Den K S' g v -> Q v H') -> r x y H Q
theorem Fj {r:R2} {f:D -> D -> Option D} {ta tb:TE} {a b:XE} (hr:SR2 K r f) (ha:SPk K ta a) (hb:SPk K tb b):SE K (tOp r ta tb) (xOp f a b):=fun ρ σ S H Q d r x k=>by
 unfold xOp at x
 cases qa:a ρ with
 | none=>rw [qa] at x;cases x
 | some da=>
  rw [qa] at x
  dsimp only [Option.bind] at x
  cases qb:b ρ with
  | none=>rw [qb] at x;cases x
  | some db=>
   rw [qb] at x
   refine ha ρ σ S H _ da r qa fun v S1 H1 z1 d1=>?_
   have r1:=r.ext z1
   refine hb ρ σ S1 H1 _ db r1 qb fun w S2 H2 z2 d2=>?_
   exact hr S2 H2 v w da db d Q z2.sub (d1.mono z2 r1.sub) d2 x fun u S3 H3 z3 d3=>k u S3 H3 ((z1.trans z2).trans z3) d3
theorem G1 {S2 H3 S3:Hp} (s:Same S H) (z:Ext H H S3 H3):Ext S H S H3:=⟨Same.refl _,fun b u e=>z.sub b u (z.sh b u (s b u e)),fun b o h n=>⟨z.sub b o (z.sh b o h),n⟩⟩
theorem J9 {r:R2} {f:D -> D -> Option D} {ta tb:TE} {a b:XE} (hr:SR2 K r f) (ha:SQ K ta a) (hb:SQ K tb b):SQ K (tOp r ta tb) (xOp f a b):=fun ρ σ S H Q d r x k=>by
 unfold xOp at x
 cases qa:a ρ with
 | none=>rw [qa] at x;cases x
 | some da=>
  rw [qa] at x
  dsimp only [Option.bind] at x
  cases qb:b ρ with
  | none=>rw [qb] at x;cases x
  | some db=>
   rw [qb] at x
   refine ha ρ σ S H _ da r qa fun v S1 H1 z1 d1=>?_
   have r1:=r.ext z1
   refine hb ρ σ S1 H1 _ db r1 qb fun w S2 H2 z2 d2=>?_
   exact hr H2 H2 v w da db d Q (Same.refl _) (.inl (d1.mono (z2.same r1.sub))) (.inl d2) x fun u S3 H3 z3 d3=>k u S2 H3 ((z1.trans z2).trans (G1 (S2:=S2) z2.sub z3)) (d3.mono z3.sub)
@[simp] def xUn (f:D -> Option D) (a:XE):XE:=fun ρ=>(a ρ).bind f
def SR1 (K:W.Frag) (r:V -> Hp -> VK -> Prop) (f:D -> Option D):Prop:=∀ S H x d g (Q:VK),Same S H -> DenP K S H d x -> f d = some g -> (∀ v S' H',Ext S H S' H' -> Den K S' g v -> Q v H') -> r x H Q
theorem FV {r:V -> Hp -> VK -> Prop} {f:D -> Option D} {ta:TE} {a:XE} (hr:SR1 K r f) (ha:SPk K ta a):SE K (tUn r ta) (xUn f a):=fun ρ σ S H Q d r x k=>by
 unfold xUn at x
 cases qa:a ρ with
 | none=>rw [qa] at x;cases x
 | some da=>
  rw [qa] at x
  refine ha ρ σ S H _ da r qa fun v S1 H1 z1 d1=>?_
  exact hr S1 H1 v da d Q z1.sub d1 x fun u S3 H3 z3 d3=>k u S3 H3 (z1.trans z3) d3
@[simp] def ap:XA:=fun _=>some []
@[simp] def af (a:XE) (b:XA):XA:=fun ρ=>(a ρ).bind fun x=>(b ρ).bind fun y=>some (x :: y)
theorem gX:SA K sM ap:=fun ρ σ S H Q ds r x k=>by cases x;exact k [] S H (Ext.refl r.sub) .nil
theorem Em:SAP K sM ap:=fun ρ σ S H Q ds r x k=>by cases x;exact k [] S H (Ext.refl r.sub) .nil
theorem km {a:XE} {b:XA} {ρ:Env} {ds:List D} (x:af a b ρ = some ds):∃ d r,a ρ = some d /\ b ρ = some r /\ ds = d :: r:=by
 unfold af at x
 cases qa:a ρ with
 | none=>rw [qa] at x;cases x
 | some da=>
  rw [qa] at x
  dsimp only [Option.bind] at x
  cases qb:b ρ with
  | none=>rw [qb] at x;cases x
  | some db=>rw [qb] at x;cases x;exact ⟨_,_,rfl,rfl,rfl⟩
theorem bH {ta:TE} {tr:TA} {a:XE} {b:XA} (ha:SE K ta a) (hb:SA K tr b):SA K (jg ta tr) (af a b):=fun ρ σ S H Q ds r x k=>by
 obtain ⟨da,db,qa,qb,rfl⟩:=km x
 refine ha ρ σ S H _ da r qa fun v S1 H1 z1 d1=>hb ρ σ S1 H1 _ db (r.ext z1) qb fun vs S2 H2 z2 d2=>k _ S2 H2 (z1.trans z2) (.cons (d1.mono z2.sh) d2)
theorem oO {ta:TE} {tr:TA} {a:XE} {b:XA} (ha:SPk K ta a) (hb:SAP K tr b):SAP K (jg ta tr) (af a b):=fun ρ σ S H Q ds r x k=>by
 obtain ⟨da,db,qa,qb,rfl⟩:=km x
 refine ha ρ σ S H _ da r qa fun v S1 H1 z1 d1=>hb ρ σ S1 H1 _ db (r.ext z1) qb fun vs S2 H2 z2 d2=>k _ S2 H2 (z1.trans z2) (.cons (d1.mono z2 (r.ext z1).sub) d2)
@[irreducible] def LIM:Nat:=1000000
theorem kQ:LIM < sizeLine:=by rw [sizeLine_eq];unfold LIM;decide
@[simp] def a9 (a:XA):XE:=fun ρ=>(a ρ).bind fun l=>if l.length <= LIM then some (.tup l) else none
theorem nz {t:TA} {a:XA} (h:SA K t a):SE K (Js t) (a9 a):=fun ρ σ S H Q d r x k=>by
 unfold a9 at x
 cases q:a ρ with
 | none=>rw [q] at x;cases x
 | some l=>
  rw [q] at x
  dsimp only [Option.bind] at x
  split at x
  ·rename_i hl
   cases x
   refine h ρ σ S H _ l r q fun vs S1 H1 z1 d1=>⟨?_,fun p hp=>?_⟩
   ·rw [<- d1.length];exact Nat.le_of_lt (Nat.lt_of_le_of_lt hl kQ)
   ·have z2:=Ext.new (o:=.tup vs) z1.sub hp
    exact k _ _ _ (z1.trans z2) (den_tup.mpr ⟨p,vs,rfl,TpA.of a8,d1.mono z2.sh⟩)
  ·cases x
@[simp] def my (a:XA):XA:=fun ρ=>(a ρ).bind fun l=>if l.length <= LIM then some l else none
theorem KI {t:TA} {a:XA} (h:SA K t a):SF K (Jb t) (my a):=fun ρ σ S H Q l r x k=>by
 unfold my at x
 cases q:a ρ with
 | none=>rw [q] at x;cases x
 | some l=>
  rw [q] at x
  dsimp only [Option.bind] at x
  split at x
  ·rename_i hl
   cases x
   refine h ρ σ S H _ l r q fun vs S1 H1 z1 d1=>⟨?_,fun p hp=>?_⟩
   ·rw [<- d1.length];exact Nat.le_of_lt (Nat.lt_of_le_of_lt hl kQ)
   ·have hp0:H p = none:=(z1.same r.sub).free hp
    exact k p vs S1 _ (z1.trans (Ext.own z1.sub hp)) hp0 (z1.sub.free hp) a8 d1
  ·cases x
@[simp] def xCB (f:List D -> Option D) (a:XA):XE:=fun ρ=>(a ρ).bind f
def SRB (K:W.Frag) (r:List V -> Hp -> VK -> Prop) (f:List D -> Option D):Prop:=∀ S H vs ds g (Q:VK),Same S H -> DensP K S H ds vs -> f ds = some g -> (∀ v S' H',Ext S H S' H' -> Den K S' g v -> Q v H') -> r vs H Q
theorem Kk {r:List V -> Hp -> VK -> Prop} {f:List D -> Option D} {t:TA} {a:XA} (hr:SRB K r f) (h:SAP K t a):SE K (tCB r t) (xCB f a):=fun ρ σ S H Q d rl x k=>by
 unfold xCB at x
 cases q:a ρ with
 | none=>rw [q] at x;cases x
 | some ds=>
  rw [q] at x
  refine h ρ σ S H _ ds rl q fun vs S1 H1 z1 d1=>?_
  exact hr S1 H1 vs ds d Q z1.sub d1 x fun v S2 H2 z2 d2=>k v S2 H2 (z1.trans z2) d2
@[simp] def DP (f:List D -> Option (List D)) (a:XA):XA:=fun ρ=>(a ρ).bind f
def SRF (K:W.Frag) (r:List V -> Hp -> VK -> Prop) (f:List D -> Option (List D)):Prop:=∀ S H vs ds g (Q:VK),Same S H -> DensP K S H ds vs -> f ds = some g -> (∀ a xs H',Ext S H S H' -> H a = none -> H' a = some (.lst xs) -> Dens K S g xs -> Q (.ref a) H') -> r vs H Q
theorem K5 {r:List V -> Hp -> VK -> Prop} {f:List D -> Option (List D)} {t:TA} {a:XA} (hr:SRF K r f) (h:SAP K t a):SF K (tCB r t) (DP f a):=fun ρ σ S H Q d rl x k=>by
 unfold DP at x
 cases q:a ρ with
 | none=>rw [q] at x;cases x
 | some ds=>
  rw [q] at x
  refine h ρ σ S H _ ds rl q fun vs S1 H1 z1 d1=>?_
  exact hr S1 H1 vs ds d Q z1.sub d1 x fun b xs H2 z2 h1 h2 d2=>k b xs S1 H2 (z1.trans z2) ((z1.same rl.sub).free h1) (z1.sub.free h1) h2 d2
def STr (K:W.Frag) (t:TE) (e:Env -> Option O):Prop:=∀ ρ σ S H (Q:VK) o,Rl K ρ σ S H -> e ρ = some o -> (∀ v fp S' H',Ext S H S' H' -> Own K S' H' o v fp -> fp.Nodup -> (∀ b ∈ fp,H b = none /\ S' b = none) -> Q v H') -> t σ H Q
@[simp] def xLT (e:XA):Env -> Option O:=fun ρ=>(e ρ).map fun l=>.lst (l.map .sh)
theorem SF.t {t:TE} {e:XA} (h:SF K t e):STr K t (xLT e):=fun ρ σ S H Q o r x k=>by
 unfold xLT at x
 cases q:e ρ with
 | none=>rw [q] at x;cases x
 | some l=>
  rw [q] at x
  cases x
  refine h ρ σ S H Q l r q fun a xs S' H' z h1 h2 h3 h4=>?_
  refine k _ [a] S' H' z (own_lst.mpr ⟨a,xs,[],rfl,rfl,h3,tf h4⟩) (by simp) fun b hb=>?_
  rw [List.mem_singleton.mp hb]
  exact ⟨h1,h2⟩
@[simp] def xSh (e:XE):Env -> Option O:=fun ρ=>(e ρ).map .sh
theorem SE.t {t:TE} {e:XE} (h:SE K t e):STr K t (xSh e):=fun ρ σ S H Q o r x k=>by
 unfold xSh at x
 cases q:e ρ with
 | none=>rw [q] at x;cases x
 | some d=>
  rw [q] at x
  cases x
  exact h ρ σ S H Q d r q fun v S' H' z dv=>k v [] S' H' z (own_sh.mpr ⟨rfl,dv⟩) .nil fun b hb=>by cases hb
def yF (S H:Hp) (fp:List Addr):Hp:=fun b=>if b ∈ fp then H b else S b
theorem tD {fp:List Addr} {b:Addr} (h:b ∈ fp):yF S H fp b = H b:=by unfold yF;rw [if_pos h]
theorem lO {fp:List Addr} {b:Addr} (h:b ∉ fp):yF S H fp b = S b:=by unfold yF;rw [if_neg h]
theorem mP {fp:List Addr} (n:∀ b ∈ fp,S b = none):Same S (yF S H fp):=fun b o e=>by
 rw [lO fun hb=>by rw [n b hb] at e;cases e]
 exact e
theorem zL {fp:List Addr} (s:Same S H):Same (yF S H fp) H:=fun b o e=>by
 by_cases hb:b ∈ fp
 ·rw [tD hb] at e;exact e
 ·rw [lO hb] at e;exact s b o e
theorem zd {fp:List Addr} (z:Ext S H S' H') (n:∀ b ∈ fp,H b = none /\ S' b = none):Ext S H (yF S' H' fp) H':=
 ⟨z.sh.trans (mP fun b hb=>(n b hb).2),zL z.sub,fun b o h hn=>⟨(z.al b o h hn).1,by rw [lO fun hb=>by rw [(n b hb).1] at h;cases h];exact (z.al b o h hn).2⟩⟩
@[simp] def xOD (e:Env -> Option O):XE:=fun ρ=>(e ρ).map O.d
theorem STr.e {t:TE} {e:Env -> Option O} (h:STr K t e):SE K t (xOD e):=fun ρ σ S H Q d r x k=>by
 unfold xOD at x
 cases q:e ρ with
 | none=>rw [q] at x;cases x
 | some o=>
  rw [q] at x
  cases x
  exact h ρ σ S H Q o r q fun v fp S' H' z ow nd n=>k v _ H' (zd z n) (ow.den (mP fun b hb=>(n b hb).2) fun b hb=>tD hb)
def c7 (K:W.Frag) (n:Nat) (m:List D -> Option O):Sp:=fun vs H Q _=>vs.length = n /\ ∃ S ds o,Same S H /\ Dens K S ds vs /\ m ds = some o /\ ∀ v fp S' H',Ext S H S' H' -> Own K S' H' o v fp -> fp.Nodup -> (∀ b ∈ fp,H b = none /\ S' b = none) -> Q v H'
@[simp] def Bf (m:List D -> Option O) (a:XA):Env -> Option O:=fun ρ=>(a ρ).bind m
theorem GU {n:Nat} {m:List D -> Option O} {E:XK} {t:TA} {a:XA} (h:SA K t a) (hn:∀ ρ ds,a ρ = some ds -> ds.length = n):STr K (rN (c7 K n m) [] E t) (Bf m a):=fun ρ σ S H Q o rl x k=>by
 unfold Bf at x
 cases q:a ρ with
 | none=>rw [q] at x;cases x
 | some ds=>
  rw [q] at x
  refine h ρ σ S H _ ds rl q fun vs S1 H1 z1 d1=>?_
  rw [List.append_nil]
  refine ⟨by rw [<- d1.length];exact hn ρ ds q,S1,ds,o,z1.sub,d1,x,fun v fp S2 H2 z2 ow nd n=>k v fp S2 H2 (z1.trans z2) ow nd fun b hb=>⟨(z1.same rl.sub).free (n b hb).1,(n b hb).2⟩⟩
@[simp] def aG (m:List D -> Option D) (a:XA):XE:=fun ρ=>(a ρ).bind m
theorem Bz {n:Nat} {m:List D -> Option O} {E:XK} {t:TA} {a:XA} (h:SA K t a) (hn:∀ ρ ds,a ρ = some ds -> ds.length = n):SE K (rN (c7 K n m) [] E t) (aG (fun ds=>(m ds).map O.d) a):=by
 have:=(GU (m:=m) (E:=E) h hn).e
 have e:xOD (Bf m a) = aG (fun ds=>(m ds).map O.d) a:=by
  funext ρ
  show ((a ρ).bind m).map O.d = (a ρ).bind fun ds=>(m ds).map O.d
  cases a ρ <;> rfl
 rw [e] at this
 exact this
@[simp] def LI (m:List D -> Option D) (a:XA):XE:=fun ρ=>((a ρ).bind m).bind fun d=>if (qL d).isSome then some d else none
def SAT (K:W.Frag) (t:TA) (e:Env -> Option (List O)):Prop:=∀ ρ σ S H (Q:List V -> Hp -> Prop) os,Rl K ρ σ S H -> e ρ = some os -> (∀ vs fp S' H',Ext S H S' H' -> Owns K S' H' os vs fp -> fp.Nodup -> (∀ b ∈ fp,H b = none /\ S' b = none) -> Q vs H') -> t σ H Q
@[simp] def E3:Env -> Option (List O):=fun _=>some []
@[simp] def xu (a:Env -> Option O) (b:Env -> Option (List O)):Env -> Option (List O):=fun ρ=>(a ρ).bind fun x=>(b ρ).bind fun y=>some (x :: y)
theorem Ji:SAT K sM E3:=fun ρ σ S H Q ds r x k=>by cases x;exact k [] [] S H (Ext.refl r.sub) .nil .nil fun _ hb=>by cases hb
theorem GZ {ta:TE} {tr:TA} {a:Env -> Option O} {b:Env -> Option (List O)} (ha:STr K ta a) (hb:SAT K tr b):SAT K (jg ta tr) (xu a b):=fun ρ σ S H Q os r x k=>by
 unfold xu at x
 cases qa:a ρ with
 | none=>rw [qa] at x;cases x
 | some oa=>
  rw [qa] at x
  dsimp only [Option.bind] at x
  cases qb:b ρ with
  | none=>rw [qb] at x;cases x
  | some ob=>
   rw [qb] at x
   cases x
   refine ha ρ σ S H _ oa r qa fun v fp S1 H1 z1 o1 nd1 n1=>hb ρ σ S1 H1 _ ob (r.ext z1) qb fun vs fq S2 H2 z2 o2 nd2 n2=>?_
   obtain ⟨k1,k2⟩:=z2.keeps (fun b hb=>(n1 b hb).2) o1.there
   refine k _ _ S2 H2 (z1.trans z2) (.cons (o1.mono z2.sh k1) o2) ?_ fun c hc=>?_
   ·refine List.nodup_append.mpr ⟨nd1,nd2,fun c hc d hd e=>?_⟩
    subst e
    exact o1.there c hc (n2 c hd).1
   ·rcases List.mem_append.mp hc with hc | hc
    ·exact ⟨(n1 c hc).1,k2 c hc⟩
    ·exact ⟨(z1.same r.sub).free (n2 c hc).1,(n2 c hc).2⟩
@[simp] def EW (a:Env -> Option (List O)):Env -> Option O:=fun ρ=>(a ρ).bind fun l=>if l.length <= LIM then some (.tup l) else none
@[simp] def FE (a:Env -> Option (List O)):Env -> Option O:=fun ρ=>(a ρ).bind fun l=>if l.length <= LIM then some (.lst l) else none
theorem wd {fp:List Addr} {p:Addr} {o:HO} (h:H p = none) (t:∀ b ∈ fp,H b ≠ none):(∀ b ∈ fp,upd H p o b = H b) /\ p ∉ fp:=by
 have np:p ∉ fp:=fun hp=>t p hp h
 exact ⟨fun b hb=>a7 fun e=>np (e ▸ hb),np⟩
theorem Jt {t:TA} {a:Env -> Option (List O)} (h:SAT K t a):STr K (Js t) (EW a):=fun ρ σ S H Q o r x k=>by
 unfold EW at x
 cases q:a ρ with
 | none=>rw [q] at x;cases x
 | some l=>
  rw [q] at x
  dsimp only [Option.bind] at x
  split at x
  ·rename_i hl
   cases x
   refine h ρ σ S H _ l r q fun vs fp S1 H1 z1 o1 nd1 n1=>⟨?_,fun p hp=>?_⟩
   ·rw [<- o1.length];exact Nat.le_of_lt (Nat.lt_of_le_of_lt hl kQ)
   ·obtain ⟨k1,k2⟩:=wd (o:=.tup vs) hp o1.there
    refine k _ (p :: fp) S1 _ (z1.trans (Ext.own z1.sub hp)) (own_tup.mpr ⟨p,vs,fp,rfl,rfl,a8,o1.mono (Same.refl _) k1⟩) (List.nodup_cons.mpr ⟨k2,nd1⟩) fun b hb=>?_
    rcases List.mem_cons.mp hb with rfl | hb
    ·exact ⟨(z1.same r.sub).free hp,z1.sub.free hp⟩
    ·exact n1 b hb
  ·cases x
theorem Jj {t:TA} {a:Env -> Option (List O)} (h:SAT K t a):STr K (Jb t) (FE a):=fun ρ σ S H Q o r x k=>by
 unfold FE at x
 cases q:a ρ with
 | none=>rw [q] at x;cases x
 | some l=>
  rw [q] at x
  dsimp only [Option.bind] at x
  split at x
  ·rename_i hl
   cases x
   refine h ρ σ S H _ l r q fun vs fp S1 H1 z1 o1 nd1 n1=>⟨?_,fun p hp=>?_⟩
   ·rw [<- o1.length];exact Nat.le_of_lt (Nat.lt_of_le_of_lt hl kQ)
   ·obtain ⟨k1,k2⟩:=wd (o:=.lst vs) hp o1.there
    refine k _ (p :: fp) S1 _ (z1.trans (Ext.own z1.sub hp)) (own_lst.mpr ⟨p,vs,fp,rfl,rfl,a8,o1.mono (Same.refl _) k1⟩) (List.nodup_cons.mpr ⟨k2,nd1⟩) fun b hb=>?_
    rcases List.mem_cons.mp hb with rfl | hb
    ·exact ⟨(z1.same r.sub).free hp,z1.sub.free hp⟩
    ·exact n1 b hb
  ·cases x
theorem xY {ρ:Env} {ds:List D} (h:ap ρ = some ds):ds.length = 0:=by cases h;rfl
theorem uh {a:XE} {b:XA} {n:Nat} (h:∀ ρ ds,b ρ = some ds -> ds.length = n) (ρ:Env) (ds:List D) (x:af a b ρ = some ds):ds.length = n + 1:=by
 obtain ⟨da,db,qa,qb,rfl⟩:=km x
 rw [List.length_cons,h ρ db qb]
@[simp] def xc (a b:XE):XE:=fun ρ=>(a ρ).bind fun x=>match x with | .bl true=>b ρ | .bl false=>some (.bl false) | _=>none
@[simp] def Nh (a b:XE):XE:=fun ρ=>(a ρ).bind fun x=>match x with | .bl true=>some (.bl true) | .bl false=>b ρ | _=>none
@[simp] def MF (a:XE):XE:=fun ρ=>(a ρ).bind fun x=>match x with | .bl c=>some (.bl (!c)) | _=>none
theorem Jf {ta tb:TE} {a b:XE} (ha:SPk K ta a) (hb:SE K tb b):SE K (Ho ta tb) (xc a b):=fun ρ σ S H Q d r x k=>by
 unfold xc at x
 cases qa:a ρ with
 | none=>rw [qa] at x;cases x
 | some da=>
  rw [qa] at x
  dsimp only [Option.bind] at x
  refine ha ρ σ S H _ da r qa fun v S1 H1 z1 d1=>?_
  split at x
  ·exact ⟨true,d1.bl,DY (hb ρ σ S1 H1 Q d (r.ext z1) x fun w S2 H2 z2 d2=>k w S2 H2 (z1.trans z2) d2)⟩
  ·cases x
   exact ⟨false,d1.bl,Dz (k _ S1 H1 z1 (den_bl.mpr rfl))⟩
  ·cases x
@[simp] def Nj (c:XT) (a b:XE):XE:=fun ρ=>(c ρ).bind fun q=>if q = true then a ρ else b ρ
@[simp] def xB (a:XE):XT:=fun ρ=>(a ρ).bind fun x=>match x with | .bl c=>some c | _=>none
theorem s_b {ta:TE} {a:XE} (ha:SPk K ta a):ST K (tB ta) (xB a):=fun ρ σ S H Q b r x k=>by
 unfold xB at x
 cases qa:a ρ with
 | none=>rw [qa] at x;cases x
 | some da=>
  rw [qa] at x
  dsimp only [Option.bind] at x
  refine ha ρ σ S H _ da r qa fun v S1 H1 z1 d1=>?_
  split at x
  ·cases x
   exact ⟨_,d1.bl,k S1 H1 z1⟩
  ·cases x
theorem xz {ta:TE} {a:XE} (ha:SPk K ta a):ST K (F1 ta) (xB a):=s_b ha
def Al:D -> Option Bool
 | .non=>some false
 | .bl b=>some b
 | .int i=>some (i != 0)
 | .str y=>if y.length <= LIM then some ((y.length:Int) != 0) else none
 | .lst l=>some (!l.isEmpty)
 | .tup l=>some (!l.isEmpty)
 | .scr l=>some (!l.isEmpty)
 | _=>none
theorem nY {ds:List D} {xs:List V} (h:Dens K S ds xs):(!ds.isEmpty) = !xs.isEmpty:=by
 have:=h.length
 cases ds <;> cases xs <;> simp_all
@[simp] def yf (a:XE):XT:=fun ρ=>(a ρ).bind Al
theorem Jz {d:D} {v:V} {b:Bool} (s:Same S H) (h:DenP K S H d v) (x:Al d = some b):Gx K v H b:=by
 cases d with
 | non=>rw [h.non];cases x;rfl
 | bl c=>rw [h.bl];cases x;rfl
 | int i=>rw [h.int];cases x;rfl
 | str y=>
  rw [h.str]
  have x':(if y.length <= LIM then some ((y.length:Int) != 0) else none) = some b:=x
  split at x'
  ·rename_i hl;cases x';exact ⟨Nat.le_of_lt (Nat.lt_of_le_of_lt hl kQ),rfl⟩
  ·cases x'
 | lst l=>
  obtain ⟨p,xs,rfl,h1,h2⟩:=h.lst s
  cases x
  exact .inl ⟨xs,.inl h1,nY h2⟩
 | tup l=>
  obtain ⟨p,xs,rfl,h1,h2⟩:=h.tup s
  cases x
  exact .inr (.inl ⟨xs,h1,nY h2⟩)
 | scr l=>
  obtain ⟨p,xs,rfl,h1,h2⟩:=h.scr s
  cases x
  exact .inl ⟨xs,h1,nY h2⟩
 | _=>cases x
end
section
variable {K:W.Frag} {S S' H H':Hp}
@[simp] def xG (a b:XT):XT:=fun ρ=>(a ρ).bind fun x=>if x = true then b ρ else some false
@[simp] def xOr (a b:XT):XT:=fun ρ=>(a ρ).bind fun x=>if x = true then some true else b ρ
@[simp] def BB (a:XT):XT:=fun ρ=>(a ρ).map fun x=>!x
theorem Kv {ta tb:TT} {a b:XT} (ha:ST K ta a) (hb:ST K tb b):ST K (J4 ta tb) (xG a b):=fun ρ σ S H Q d r x k=>by
 unfold xG at x
 cases qa:a ρ with
 | none=>rw [qa] at x;cases x
 | some q=>
  rw [qa] at x
  dsimp only [Option.bind] at x
  refine ha ρ σ S H _ q r qa fun S1 H1 z1=>?_
  cases q with
  | true=>exact DY (hb ρ σ S1 H1 Q d (r.ext z1) (by simpa using x) fun S2 H2 z2=>k S2 H2 (z1.trans z2))
  | false=>
   have:d = false:=by simpa using x.symm
   subst this
   exact Dz (k S1 H1 z1)
theorem LS {ta tb:TT} {a b:XT} (ha:ST K ta a) (hb:ST K tb b):ST K (tOr ta tb) (xOr a b):=fun ρ σ S H Q d r x k=>by
 unfold xOr at x
 cases qa:a ρ with
 | none=>rw [qa] at x;cases x
 | some q=>
  rw [qa] at x
  dsimp only [Option.bind] at x
  refine ha ρ σ S H _ q r qa fun S1 H1 z1=>?_
  cases q with
  | false=>exact Dz (hb ρ σ S1 H1 Q d (r.ext z1) (by simpa using x) fun S2 H2 z2=>k S2 H2 (z1.trans z2))
  | true=>
   have:d = true:=by simpa using x.symm
   subst this
   exact DY (k S1 H1 z1)
theorem K2 {ta:TT} {a:XT} (ha:ST K ta a):ST K (JY ta) (BB a):=fun ρ σ S H Q d r x k=>by
 unfold BB at x
 cases qa:a ρ with
 | none=>rw [qa] at x;cases x
 | some q=>
  rw [qa] at x
  cases x
  exact ha ρ σ S H _ q r qa k
inductive Out where
 | nx (ρ:Env) | rt (d:D) | ro (o:O) | bk (ρ:Env) | ct (ρ:Env)
abbrev XS:=Env -> Option Out
def Done (K:W.Frag) (A:Hp) (Λ:Nat -> Option Addr) (S:Hp) (E:Ends):Out -> Prop
 | .nx ρ=>∀ σ' S' H',RlA K A Λ ρ σ' S' H' -> Same S S' -> E.nx σ' H'
 | .bk ρ=>∀ σ' S' H',RlA K A Λ ρ σ' S' H' -> Same S S' -> E.bk σ' H'
 | .ct ρ=>∀ σ' S' H',RlA K A Λ ρ σ' S' H' -> Same S S' -> E.ct σ' H'
 | .rt d=>∀ v S' H',Same S S' -> Same S' H' -> Same A H' -> (∀ b,S' b = none \/ A b = none) -> Den K S' d v -> E.rt v H'
 | .ro o=>∀ v fp S' H',Same S S' -> Same S' H' -> Same A H' -> (∀ b,S' b = none \/ A b = none) -> Own K S' H' o v fp -> fp.Nodup -> (∀ b ∈ fp,S' b = none /\ A b = none) -> E.rt v H'
theorem Done.mono {A:Hp} {Λ:Nat -> Option Addr} {E:Ends} {o:Out} (s:Same S S') (h:Done K A Λ S E o):Done K A Λ S' E o:=by
 cases o with
 | nx ρ=>exact fun σ1 S1 H1 r z=>h σ1 S1 H1 r (s.trans z)
 | bk ρ=>exact fun σ1 S1 H1 r z=>h σ1 S1 H1 r (s.trans z)
 | ct ρ=>exact fun σ1 S1 H1 r z=>h σ1 S1 H1 r (s.trans z)
 | rt d=>exact fun v S1 H1 z=>h v S1 H1 (s.trans z)
 | ro d=>exact fun v fp S1 H1 z=>h v fp S1 H1 (s.trans z)
def SS (K:W.Frag) (t:TS) (m:XS):Prop:=∀ A Λ ρ σ S H (E:Ends) o,RlA K A Λ ρ σ S H -> m ρ = some o -> Done K A Λ S E o -> t E σ H
@[simp] def hW:XS:=fun ρ=>some (.nx ρ)
theorem IX:SS K Fd hW:=fun A Λ ρ σ S H E o r x k=>by cases x;exact k σ S H r (Same.refl _)
@[simp] def Mw:XS:=fun ρ=>some (.bk ρ)
@[simp] def MI:XS:=fun ρ=>some (.ct ρ)
@[simp] def Mu:XS:=fun _=>none
@[simp] def aS (m n:XS):XS:=fun ρ=>match m ρ with | some (.nx ρ')=>n ρ' | o=>o
theorem Kn {t u:TS} {m n:XS} (ht:SS K t m) (hu:SS K u n):SS K (Iw t u) (aS m n):=fun A Λ ρ σ S H E o r x k=>by
 unfold aS at x
 cases q:m ρ with
 | none=>rw [q] at x;cases x
 | some om=>
  rw [q] at x
  refine ht A Λ ρ σ S H _ om r q ?_
  cases om with
  | nx ρ'=>exact fun σ' S' H' r' z=>hu A Λ ρ' σ' S' H' E o r' x (k.mono z)
  | rt d=>cases x;exact k
  | ro d=>cases x;exact k
  | bk d=>cases x;exact k
  | ct d=>cases x;exact k
@[simp] def bU (e:XE):XS:=fun ρ=>(e ρ).map .rt
theorem Kz {te:TE} {e:XE} (h:SE K te e):SS K (HJ te) (bU e):=fun A Λ ρ σ S H E o r x k=>by
 unfold bU at x
 cases q:e ρ with
 | none=>rw [q] at x;cases x
 | some d=>
  rw [q] at x
  cases x
  refine h ρ σ S H _ d r.toRl q fun v S1 H1 z1 d1=>?_
  have r1:=r.ext z1
  exact k v S1 H1 z1.sh z1.sub r1.asub r1.adis d1
@[simp] def MM (e:Env -> Option O):XS:=fun ρ=>(e ρ).map .ro
@[simp] def FG (i:Nat):XS:=fun ρ=>match ρ[i]? with | some (.sh d)=>some (.rt d) | some (.ow o)=>some (.ro o) | _=>none
theorem HP (i:Nat):SS K (HJ (sw i)) (FG i):=fun A Λ ρ σ S H E o r x k=>by
 unfold FG at x
 cases q:ρ[i]? with
 | none=>rw [q] at x;cases x
 | some s=>
  rw [q] at x
  obtain ⟨Φ,f⟩:=r
  cases s with
  | un=>cases x
  | lo=>cases x
  | sh d=>
   cases x
   obtain ⟨v,h1,h2⟩:=f.sh i d q
   exact ⟨v,h1,k v S H (Same.refl _) f.sub f.asub f.adis h2⟩
  | ow ot=>
   cases x
   obtain ⟨v,h1,h2,h3,h4⟩:=f.ow i ot q
   exact ⟨v,h1,k v _ S H (Same.refl _) f.sub f.asub f.adis h2 h3 h4⟩
@[simp] def MV:XS:=fun _=>some (.rt .non)
@[simp] def xIf (c:XT) (m n:XS):XS:=fun ρ=>(c ρ).bind fun b=>if b = true then m ρ else n ρ
theorem Mt {tc:TT} {t u:TS} {c:XT} {m n:XS} (hc:ST K tc c) (ht:SS K t m) (hu:SS K u n):SS K (HL tc t u) (xIf c m n):=fun A Λ ρ σ S H E o r x k=>by
 unfold xIf at x
 cases qc:c ρ with
 | none=>rw [qc] at x;cases x
 | some q=>
  rw [qc] at x
  dsimp only [Option.bind] at x
  refine hc ρ σ S H _ q r.toRl qc fun S1 H1 z1=>?_
  cases q with
  | true=>exact DY (ht A Λ ρ σ S1 H1 E o (r.ext z1) (by simpa using x) (k.mono z1.sh))
  | false=>exact Dz (hu A Λ ρ σ S1 H1 E o (r.ext z1) (by simpa using x) (k.mono z1.sh))
theorem cL {α:Type} {l:List α} {i j:Nat} {x y:α} (h:(l.set i x)[j]? = some y):(i = j /\ y = x /\ i < l.length) \/ (i ≠ j /\ l[j]? = some y):=by
 by_cases hij:i = j
 ·subst hij
  have hl:=(List.getElem?_eq_some_iff.mp h).1
  rw [List.length_set] at hl
  rw [List.getElem?_set_self hl] at h
  exact .inl ⟨rfl,(Option.some.inj h).symm,hl⟩
 ·rw [List.getElem?_set_ne hij] at h
  exact .inr ⟨hij,h⟩
theorem RlF.set {A:Hp} {Λ:Nat -> Option Addr} {Φ:Nat -> List Addr} {ρ:Env} {σ:St} {d:D} {v:V} (r:RlF K A Λ Φ ρ σ S H) (i:Nat) (h:Den K S d v):RlF K A Λ Φ (ρ.set i (.sh d)) (σ.set i (some v)) S H where
 len:=by rw [List.length_set,List.length_set];exact r.len
 sub:=r.sub
 sh:=fun j e hj=>by
  rcases cL hj with ⟨rfl,e,hl⟩ | ⟨hij,hj⟩
  ·cases e
   exact ⟨v,List.getElem?_set_self (by rw [r.len];exact hl),h⟩
  ·rw [List.getElem?_set_ne hij]
   exact r.sh j e hj
 ow:=fun j o hj=>by
  rcases cL hj with ⟨rfl,e,hl⟩ | ⟨hij,hj⟩
  ·cases e
  ·rw [List.getElem?_set_ne hij]
   exact r.ow j o hj
 dj:=fun j k o o' hjk h1 h2=>by
  rcases cL h1 with ⟨rfl,e,hl⟩ | ⟨hij,h1⟩
  ·cases e
  ·rcases cL h2 with ⟨rfl,e,hl⟩ | ⟨hik,h2⟩
   ·cases e
   ·exact r.dj j k o o' hjk h1 h2
 lo:=fun j hj=>by
  rcases cL hj with ⟨rfl,e,hl⟩ | ⟨hij,hj⟩
  ·cases e
  ·rw [List.getElem?_set_ne hij]
   exact r.lo j hj
 asub:=r.asub
 adis:=r.adis
theorem RlA.set {A:Hp} {Λ:Nat -> Option Addr} {ρ:Env} {σ:St} {d:D} {v:V} (r:RlA K A Λ ρ σ S H) (i:Nat) (h:Den K S d v):RlA K A Λ (ρ.set i (.sh d)) (σ.set i (some v)) S H:=let ⟨Φ,f⟩:=r;⟨Φ,f.set i h⟩
theorem RlF.put {A:Hp} {Λ:Nat -> Option Addr} {Φ:Nat -> List Addr} {ρ:Env} {σ:St} {o:O} {v:V} {fp:List Addr} (r:RlF K A Λ Φ ρ σ S H) (i:Nat) (sub:Same S H') (asub:Same A H') (ow:Own K S H' o v fp) (nd:fp.Nodup) (n:∀ b ∈ fp,S b = none /\ A b = none)
  (keep:∀ (j:Nat) o',j ≠ i -> ρ[j]? = some (.ow o') -> ∀ b ∈ Φ j,H' b = H b /\ b ∉ fp):RlF K A Λ (fun j=>if j = i then fp else Φ j) (ρ.set i (.ow o)) (σ.set i (some v)) S H' where
 len:=by rw [List.length_set,List.length_set];exact r.len
 sub:=sub
 sh:=fun j e hj=>by
  rcases cL hj with ⟨rfl,e,hl⟩ | ⟨hij,hj⟩
  ·cases e
  ·rw [List.getElem?_set_ne hij]
   exact r.sh j e hj
 ow:=fun j o' hj=>by
  rcases cL hj with ⟨rfl,e,hl⟩ | ⟨hij,hj⟩
  ·cases e
   rw [if_pos rfl]
   exact ⟨v,List.getElem?_set_self (by rw [r.len];exact hl),ow,nd,n⟩
  ·rw [List.getElem?_set_ne hij,if_neg (Ne.symm hij)]
   obtain ⟨w,h1,h2,h3,h4⟩:=r.ow j o' hj
   exact ⟨w,h1,h2.mono (Same.refl _) fun b hb=>(keep j o' (Ne.symm hij) hj b hb).1,h3,h4⟩
 dj:=fun j k o1 o2 hjk h1 h2 b hb hb2=>by
  rcases cL h1 with ⟨rfl,e,hl⟩ | ⟨hij,h1⟩
  ·rcases cL h2 with ⟨rfl,e,hl⟩ | ⟨hik,h2⟩
   ·exact hjk rfl
   ·rw [if_pos rfl] at hb
    rw [if_neg (Ne.symm hik)] at hb2
    exact (keep k o2 (Ne.symm hik) h2 b hb2).2 hb
  ·rcases cL h2 with ⟨rfl,e,hl⟩ | ⟨hik,h2⟩
   ·rw [if_pos rfl] at hb2
    rw [if_neg (Ne.symm hij)] at hb
    exact (keep j o1 (Ne.symm hij) h1 b hb).2 hb2
   ·rw [if_neg (Ne.symm hij)] at hb
    rw [if_neg (Ne.symm hik)] at hb2
    exact r.dj j k o1 o2 hjk h1 h2 b hb hb2
 lo:=fun j hj=>by
  rcases cL hj with ⟨rfl,e,hl⟩ | ⟨hij,hj⟩
  ·cases e
  ·rw [List.getElem?_set_ne hij]
   exact r.lo j hj
 asub:=asub
 adis:=r.adis
theorem Ev {α:Type} {l:List α} {i:Nat} {x:α} (h:l[i]? = some x):l.set i x = l:=by
 apply List.ext_getElem?
 intro j
 by_cases e:i = j
 ·subst e
  rw [List.getElem?_set_self (List.getElem?_eq_some_iff.mp h).1,h]
 ·rw [List.getElem?_set_ne e]
def frz (i:Nat) (ρ:Env):Env:=match ρ[i]? with | some (.ow o)=>ρ.set i (.sh o.d) | _=>ρ
theorem RlA.frz {A:Hp} {Λ:Nat -> Option Addr} {ρ:Env} {σ:St} (r:RlA K A Λ ρ σ S H) (i:Nat):∃ S',Same S S' /\ RlA K A Λ (frz i ρ) σ S' H:=by
 unfold M.frz
 cases q:ρ[i]? with
 | none=>exact ⟨S,Same.refl _,r⟩
 | some s=>
  cases s with
  | un=>exact ⟨S,Same.refl _,r⟩
  | lo=>exact ⟨S,Same.refl _,r⟩
  | sh d=>exact ⟨S,Same.refl _,r⟩
  | ow o=>
   dsimp only
   obtain ⟨Φ,f⟩:=r
   obtain ⟨v,h1,h2,h3,h4⟩:=f.ow i o q
   have s2:Same S (yF S H (Φ i)):=mP fun b hb=>(h4 b hb).1
   have hd:Den K (yF S H (Φ i)) o.d v:=h2.den s2 fun b hb=>tD hb
   refine ⟨_,s2,Φ,?_⟩
   exact {
    len:=by rw [List.length_set];exact f.len
    sub:=zL f.sub
    sh:=fun j d hj=>by
     rcases cL hj with ⟨rfl,e,hl⟩ | ⟨hij,hj⟩
     ·cases e
      exact ⟨v,h1,hd⟩
     ·obtain ⟨w,k1,k2⟩:=f.sh j d hj
      exact ⟨w,k1,k2.mono s2⟩
    ow:=fun j o' hj=>by
     rcases cL hj with ⟨rfl,e,hl⟩ | ⟨hij,hj⟩
     ·cases e
     ·obtain ⟨w,k1,k2,k3,k4⟩:=f.ow j o' hj
      exact ⟨w,k1,k2.mono s2 fun _ _=>rfl,k3,fun b hb=>⟨by rw [lO fun hi=>f.dj i j o o' hij q hj b hi hb];exact (k4 b hb).1,(k4 b hb).2⟩⟩
    dj:=fun j k o1 o2 hjk g1 g2=>by
     rcases cL g1 with ⟨rfl,e,hl⟩ | ⟨hij,g1⟩
     ·cases e
     ·rcases cL g2 with ⟨rfl,e,hl⟩ | ⟨hik,g2⟩
      ·cases e
      ·exact f.dj j k o1 o2 hjk g1 g2
    lo:=fun j hj=>by
     rcases cL hj with ⟨rfl,e,hl⟩ | ⟨hij,hj⟩
     ·cases e
     ·exact f.lo j hj
    asub:=f.asub
    adis:=fun b=>by
     by_cases hb:b ∈ Φ i
     ·exact .inr (h4 b hb).2
     ·rw [lO hb];exact f.adis b }
@[simp] def GY (i:Nat) (m:XS):XS:=fun ρ=>m (frz i ρ)
theorem Ld {t:TS} {m:XS} (i:Nat) (h:SS K t m):SS K t (GY i m):=fun A Λ ρ σ S H E o r x k=>by
 obtain ⟨S',s,r'⟩:=r.frz i
 exact h A Λ _ σ S' H E o r' x (k.mono s)
abbrev XG:=D -> Env -> Option Env
abbrev XGs:=List D -> Env -> Option Env
def SG (K:W.Frag) (g:TG) (x:XG):Prop:=∀ A Λ ρ σ S H v d (Q:St -> Hp -> Prop) ρ',RlA K A Λ ρ σ S H -> Den K S d v -> x d ρ = some ρ' -> (∀ σ',RlA K A Λ ρ' σ' S H -> Q σ' H) -> g v σ H Q
def SGs (K:W.Frag) (g:TGs) (x:XGs):Prop:=∀ A Λ ρ σ S H vs ds (Q:St -> Hp -> Prop) ρ',RlA K A Λ ρ σ S H -> Dens K S ds vs -> x ds ρ = some ρ' -> (∀ σ',RlA K A Λ ρ' σ' S H -> Q σ' H) -> g vs σ H Q
@[simp] def ai (i:Nat):XG:=fun d ρ=>some (ρ.set i (.sh d))
def bg:XGs:=fun ds ρ=>match ds with | []=>some ρ | _=>none
def ar (x:XG) (y:XGs):XGs:=fun ds ρ=>match ds with | d :: r=>(x d ρ).bind (y r) | []=>none
def bn (y:XGs):XG:=fun d ρ=>match d with | .tup l=>y l ρ | .mtp l=>y l ρ | _=>none
theorem IC (i:Nat):SG K (jW i) (ai i):=fun A Λ ρ σ S H v d Q ρ' r dv x k=>by cases x;exact k _ (r.set i dv)
theorem JV:SGs K H9 bg:=fun A Λ ρ σ S H vs ds Q ρ' r dv x k=>by
 cases ds with
 | nil=>cases x;exact ⟨dv.nil_of,k σ r⟩
 | cons _ _=>cases x
theorem IJ {g:TG} {gs:TGs} {x:XG} {y:XGs} (h:SG K g x) (hs:SGs K gs y):SGs K (FZ g gs) (ar x y):=fun A Λ ρ σ S H vs ds Q ρ' r dv e k=>by
 cases ds with
 | nil=>cases e
 | cons d ds=>
  obtain ⟨v,vs,rfl,h1,h2⟩:=dv.cons_of
  have e':(x d ρ).bind (y ds) = some ρ':=e
  cases q:x d ρ with
  | none=>rw [q] at e';cases e'
  | some ρ1=>
   rw [q] at e'
   exact ⟨v,vs,rfl,h A Λ ρ σ S H v d _ ρ1 r h1 q fun σ1 r1=>hs A Λ ρ1 σ1 S H vs ds Q ρ' r1 h2 e' k⟩
def Aq (y:XGs) (n:Nat):Prop:=∀ ds ρ ρ',y ds ρ = some ρ' -> ds.length = n
theorem Ik:Aq bg 0:=fun ds ρ ρ' e=>by cases ds with | nil=>rfl | cons _ _=>cases e
theorem Gy {x:XG} {y:XGs} {n:Nat} (h:Aq y n):Aq (ar x y) (n + 1):=fun ds ρ ρ' e=>by
 cases ds with
 | nil=>cases e
 | cons d ds=>
  have e':(x d ρ).bind (y ds) = some ρ':=e
  cases q:x d ρ with
  | none=>rw [q] at e';cases e'
  | some ρ1=>rw [q] at e';rw [List.length_cons,h ds ρ1 ρ' e']
theorem Kb {gs:TGs} {y:XGs} {n:Nat} (hs:SGs K gs y) (hl:Aq y n):SG K (Jc K n gs) (bn y):=fun A Λ ρ σ S H v d Q ρ' r dv e k=>by
 cases d with
 | tup l=>
  obtain ⟨p,xs,rfl,h1,h2⟩:=iG dv
  exact ⟨p,xs,rfl,ba r.sub h1,by rw [<- h2.length];exact hl l ρ ρ' e,hs A Λ ρ σ S H xs l Q ρ' r h2 e k⟩
 | mtp l=>
  obtain ⟨p,xs,rfl,h1,h2⟩:=den_mtp.mp dv
  exact ⟨p,xs,rfl,ba r.sub h1,by rw [<- h2.length];exact hl l ρ ρ' e,hs A Λ ρ σ S H xs l Q ρ' r h2 e k⟩
 | _=>cases e
@[simp] def bq (e:XE) (g:XG):XS:=fun ρ=>(e ρ).bind fun d=>(g d ρ).map .nx
theorem KK {te:TE} {g:TG} {e:XE} {x:XG} (h:SE K te e) (hg:SG K g x):SS K (zN te g) (bq e x):=fun A Λ ρ σ S H E o r y k=>by
 unfold bq at y
 cases q:e ρ with
 | none=>rw [q] at y;cases y
 | some d=>
  rw [q] at y
  dsimp only [Option.bind] at y
  cases q2:x d ρ with
  | none=>rw [q2] at y;cases y
  | some ρ'=>
   rw [q2] at y
   cases y
   exact h ρ σ S H _ d r.toRl q fun v S1 H1 z1 d1=>hg A Λ ρ σ S1 H1 v d _ ρ' (r.ext z1) d1 q2 fun σ' r'=>k σ' S1 H1 r' z1.sh
@[simp] def Er (e:Env -> Option O) (i:Nat):XS:=fun ρ=>(e ρ).map fun o=>.nx (ρ.set i (.ow o))
theorem Ip {te:TE} {e:Env -> Option O} {i:Nat} (h:STr K te e):SS K (zN te (jW i)) (Er e i):=fun A Λ ρ σ S H E o r y k=>by
 unfold Er at y
 cases q:e ρ with
 | none=>rw [q] at y;cases y
 | some ot=>
  rw [q] at y
  cases y
  obtain ⟨Φ,f⟩:=r
  refine h ρ σ S H _ ot ⟨A,Λ,Φ,f⟩ q fun v fp S1 H1 z1 o1 nd n=>?_
  have r1:=f.ext z1
  refine k _ S1 H1 ⟨_,r1.put (H':=H1) i r1.sub r1.asub o1 nd (fun b hb=>⟨(n b hb).2,f.asub.free (n b hb).1⟩) fun j o' hj e1 b hb=>⟨rfl,fun hf=>?_⟩⟩ z1.sh
  obtain ⟨w,_,k2,_,_⟩:=f.ow j o' e1
  exact k2.there b hb (n b hf).1
@[simp] def lI (e:XA) (i:Nat):XS:=Er (xLT e) i
theorem II {te:TE} {e:XA} {i:Nat} (h:SF K te e):SS K (zN te (jW i)) (lI e i):=Ip h.t
def eY:O -> List Int -> Option O
 | o,[]=>some o
 | .lst l,k :: r=>(atI l k).bind fun o=>eY o r
 | .tup l,k :: r=>(atI l k).bind fun o=>eY o r
 | .sh _,_ :: _=>none
 | .dic _,_ :: _=>none
 | .hd _ _ _,_ :: _=>none
def ud (l:List O) (k:Int) (f:O -> O):List O:=match ixN l.length k with
 | some j=>(match l[j]? with | some o=>l.set j (f o) | none=>l)
 | none=>l
def kI:O -> List Int -> O -> O
 | _,[],q=>q
 | .lst l,k :: r,q=>.lst (ud l k fun o=>kI o r q)
 | .tup l,k :: r,q=>.tup (ud l k fun o=>kI o r q)
 | .sh d,_ :: _,_=>.sh d
 | .dic d,_ :: _,_=>.dic d
 | .hd p d l,_ :: _,_=>.hd p d l
def WalkV (H:Hp):V -> List Int -> V -> Prop
 | v,[],w=>v = w
 | v,k :: r,w=>∃ a xs u,v = .ref a /\ (H a = some (.lst xs) \/ H a = some (.tup xs)) /\ atI xs k = some u /\ WalkV H u r w
theorem WalkV.mono (s:Same H H'):∀ {p:List Int} {v w:V},WalkV H v p w -> WalkV H' v p w
 | [],_,_,h=>h
 | _ :: _,_,_,⟨a,xs,u,e,h,k,m⟩=>⟨a,xs,u,e,h.elim (fun z=>.inl (s _ _ z)) (fun z=>.inr (s _ _ z)),k,m.mono s⟩
theorem WalkV.uniq:∀ {p:List Int} {v w w':V},WalkV H v p w -> WalkV H v p w' -> w = w'
 | [],_,_,_,h,k=>h.symm.trans k
 | _ :: _,_,_,_,hpt0,hpt1=>by
  obtain ⟨a,xs,u,e,h,k,m⟩:=hpt0
  obtain ⟨a',xs',u',e',h',k',m'⟩:=hpt1
  rw [e] at e'
  cases e'
  have:xs = xs':=by
   rcases h with h | h <;> rcases h' with h' | h' <;> rw [h] at h' <;> cases h' <;> rfl
  subst this
  rw [k] at k'
  cases k'
  exact m.uniq m'
theorem WalkV.snoc:∀ {p:List Int} {v w u:V} {k:Int} {a:Addr} {xs:List V},WalkV H v p w -> w = .ref a -> (H a = some (.lst xs) \/ H a = some (.tup xs)) -> atI xs k = some u -> WalkV H v (p ++ [k]) u
 | [],_,_,u,k,a,xs,h,e,h1,h2=>⟨a,xs,u,h.trans e,h1,h2,rfl⟩
 | _ :: _,_,_,_,_,_,_,⟨b,ys,u',e,h,k,m⟩,e',h1,h2=>⟨b,ys,u',e,h,k,m.snoc e' h1 h2⟩
theorem rF:∀ {p:List Int} {o q:O} {k:Int},eY o (p ++ [k]) = some q -> ∃ q0,eY o p = some q0 /\ eY q0 [k] = some q
 | [],o,q,k,h=>⟨o,by unfold eY;rfl,h⟩
 | j :: p,o,q,k,h=>by
  cases o with
  | sh d=>cases h
  | dic _=>cases h
  | hd _ _ _=>cases h
  | lst l=>
   have h':(atI l j).bind (fun o=>eY o (p ++ [k])) = some q:=h
   cases e:atI l j with
   | none=>rw [e] at h';cases h'
   | some o1=>
    rw [e] at h'
    obtain ⟨q0,a,b⟩:=rF (p:=p) h'
    exact ⟨q0,by show (atI l j).bind (fun o=>eY o p) = some q0;rw [e];exact a,b⟩
  | tup l=>
   have h':(atI l j).bind (fun o=>eY o (p ++ [k])) = some q:=h
   cases e:atI l j with
   | none=>rw [e] at h';cases h'
   | some o1=>
    rw [e] at h'
    obtain ⟨q0,a,b⟩:=rF (p:=p) h'
    exact ⟨q0,by show (atI l j).bind (fun o=>eY o p) = some q0;rw [e];exact a,b⟩
theorem Owns.split:∀ {l:List O} {xs:List V} {f:List Addr} {j:Nat} {o:O},Owns K S H l xs f -> l[j]? = some o -> ∃ x f1 f2 f3,xs[j]? = some x /\ f = f1 ++ (f2 ++ f3) /\ Own K S H o x f2 /\
  ∀ H' o' f2',Own K S H' o' x f2' -> (∀ b ∈ f1,H' b = H b) -> (∀ b ∈ f3,H' b = H b) -> Owns K S H' (l.set j o') xs (f1 ++ (f2' ++ f3))
 | [],_,_,_,_,_,e=>by simp at e
 | o0 :: l,_,_,0,o,h,e=>by
  obtain ⟨y,ys,f,g,rfl,rfl,a,b⟩:=h.cons_of
  simp at e;subst e
  exact ⟨y,[],f,g,rfl,rfl,a,fun H' o' f2' h1 _ h3=>Owns.cons (f:=f2') h1 (b.mono (Same.refl _) h3)⟩
 | o0 :: l,_,_,j + 1,o,h,e=>by
  obtain ⟨y,ys,f,g,rfl,rfl,a,b⟩:=h.cons_of
  obtain ⟨x,f1,f2,f3,e1,rfl,h1,h2⟩:=b.split (j:=j) (by simpa using e)
  refine ⟨x,f ++ f1,f2,f3,by simpa using e1,by rw [List.append_assoc],h1,fun H' o' f2' k1 k2 k3=>?_⟩
  rw [List.append_assoc]
  exact .cons (a.mono (Same.refl _) fun b hb=>k2 b (List.mem_append_left _ hb)) (h2 H' o' f2' k1 (fun b hb=>k2 b (List.mem_append_right _ hb)) k3)
theorem AH {α:Type} {l:List α} {k:Int} {x:α} (h:atI l k = some x):∃ j,ixN l.length k = some j /\ l[j]? = some x:=by
 unfold atI at h
 cases q:ixN l.length k with
 | none=>rw [q] at h;cases h
 | some j=>rw [q] at h;exact ⟨j,rfl,h⟩
theorem Ge:∀ {p:List Int} {o q:O} {v:V} {fp:List Addr},Own K S H o v fp -> fp.Nodup -> eY o p = some q -> ∃ w fq,Own K S H q w fq /\ WalkV H v p w /\ (∀ b ∈ fq,b ∈ fp) /\ fq.Nodup /\
  ∀ H' q' fq',Own K S H' q' w fq' -> fq'.Nodup -> (∀ b ∈ fp,b ∉ fq -> H' b = H b) -> (∀ b ∈ fq',b ∈ fp -> b ∈ fq) -> ∃ fp',Own K S H' (kI o p q') v fp' /\ fp'.Nodup /\ ∀ b ∈ fp',b ∈ fp \/ b ∈ fq'
 | [],o,q,v,fp,h,nd,e=>by
  have e':some o = some q:=by unfold eY at e;exact e
  cases e'
  exact ⟨v,fp,h,rfl,fun b hb=>hb,nd,fun H' q' fq' h1 n1 _ _=>⟨fq',by unfold kI;exact h1,n1,fun b hb=>.inr hb⟩⟩
 | k :: r,o,q,v,fp,h,nd,e=>by
  have body:∀ (l:List O) (a:Addr) (xs:List V) (f:List Addr),v = .ref a -> fp = a :: f -> (H a = some (.lst xs) \/ H a = some (.tup xs)) -> Owns K S H l xs f -> ((atI l k).bind fun o=>eY o r) = some q ->
    ∃ w fq,Own K S H q w fq /\ WalkV H v (k :: r) w /\ (∀ b ∈ fq,b ∈ fp) /\ fq.Nodup /\ ∀ H' q' fq',Own K S H' q' w fq' -> fq'.Nodup -> (∀ b ∈ fp,b ∉ fq -> H' b = H b) -> (∀ b ∈ fq',b ∈ fp -> b ∈ fq) ->
     ∃ f',Owns K S H' (ud l k fun o=>kI o r q') xs f' /\ H' a = H a /\ (a :: f').Nodup /\ ∀ b ∈ a :: f',b ∈ fp \/ b ∈ fq':=by
   rintro l a xs f rfl rfl ha hl hs
   obtain ⟨na,nf⟩:=List.nodup_cons.mp nd
   cases qa:atI l k with
   | none=>rw [qa] at hs;cases hs
   | some o1=>
    rw [qa] at hs
    obtain ⟨j,ej,el⟩:=AH qa
    obtain ⟨x,f1,f2,f3,ex,rfl,h1,h2⟩:=hl.split el
    obtain ⟨n1,n23,d1⟩:=List.nodup_append.mp nf
    obtain ⟨n2,n3,d2⟩:=List.nodup_append.mp n23
    obtain ⟨w,fq,k1,k2,k3,k4,k5⟩:=Ge (p:=r) h1 n2 hs
    have ax:atI xs k = some x:=by unfold atI;rw [<- hl.length,ej];exact ex
    refine ⟨w,fq,k1,⟨a,xs,x,rfl,ha,ax,k2⟩,fun b hb=>List.mem_cons_of_mem _ (List.mem_append_right _ (List.mem_append_left _ (k3 b hb))),k4,fun H' q' fq' g1 g2 g3 g4=>?_⟩
    have in2:∀ b ∈ fq,b ∈ f2:=k3
    have a1:∀ b ∈ f1,b ∉ fq:=fun b hb hq=>d1 b hb b (List.mem_append_left _ (in2 b hq)) rfl
    have a3:∀ b ∈ f3,b ∉ fq:=fun b hb hq=>d2 b (in2 b hq) b hb rfl
    have aa:a ∉ fq:=fun hq=>na (List.mem_append_right _ (List.mem_append_left _ (in2 a hq)))
    obtain ⟨f2',m1,m2,m3⟩:=k5 H' q' fq' g1 g2 (fun b hb hn=>g3 b (List.mem_cons_of_mem _ (List.mem_append_right _ (List.mem_append_left _ hb))) hn) fun b hb hp=>g4 b hb (List.mem_cons_of_mem _ (List.mem_append_right _ (List.mem_append_left _ hp)))
    have out:∀ b ∈ f2',b ∉ f1 /\ b ∉ f3 /\ b ≠ a:=fun b hb=>by
     rcases m3 b hb with hb | hb
     ·exact ⟨fun z=>d1 b z b (List.mem_append_left _ hb) rfl,fun z=>d2 b hb b z rfl,fun z=>na (z ▸ List.mem_append_right _ (List.mem_append_left _ hb))⟩
     ·refine ⟨fun z=>a1 b z (g4 b hb (List.mem_cons_of_mem _ (List.mem_append_left _ z))),fun z=>a3 b z (g4 b hb (List.mem_cons_of_mem _ (List.mem_append_right _ (List.mem_append_right _ z)))),fun z=>?_⟩
      subst z
      exact aa (g4 b hb List.mem_cons_self)
    refine ⟨f1 ++ (f2' ++ f3),?_,g3 a List.mem_cons_self aa,?_,fun b hb=>?_⟩
    ·unfold ud
     rw [ej]
     dsimp only
     rw [el]
     exact h2 H' _ f2' m1 (fun b hb=>g3 b (List.mem_cons_of_mem _ (List.mem_append_left _ hb)) (a1 b hb)) fun b hb=>g3 b (List.mem_cons_of_mem _ (List.mem_append_right _ (List.mem_append_right _ hb))) (a3 b hb)
    ·refine List.nodup_cons.mpr ⟨fun z=>?_,List.nodup_append.mpr ⟨n1,List.nodup_append.mpr ⟨m2,n3,fun b hb c hc e=>(out b hb).2.1 (e ▸ hc)⟩,fun b hb c hc e=>?_⟩⟩
     ·rcases List.mem_append.mp z with z | z
      ·exact na (List.mem_append_left _ z)
      ·rcases List.mem_append.mp z with z | z
       ·exact (out a z).2.2 rfl
       ·exact na (List.mem_append_right _ (List.mem_append_right _ z))
     ·subst e
      rcases List.mem_append.mp hc with hc | hc
      ·exact (out b hc).1 hb
      ·exact d1 b hb b (List.mem_append_right _ hc) rfl
    ·rcases List.mem_cons.mp hb with rfl | hb
     ·exact .inl List.mem_cons_self
     ·rcases List.mem_append.mp hb with hb | hb
      ·exact .inl (List.mem_cons_of_mem _ (List.mem_append_left _ hb))
      ·rcases List.mem_append.mp hb with hb | hb
       ·exact (m3 b hb).imp (fun z=>List.mem_cons_of_mem _ (List.mem_append_right _ (List.mem_append_left _ z))) id
       ·exact .inl (List.mem_cons_of_mem _ (List.mem_append_right _ (List.mem_append_right _ hb)))
  cases o with
  | sh d=>cases e
  | dic _=>cases e
  | hd _ _ _=>cases e
  | lst l=>
   obtain ⟨a,xs,f,e1,e2,h1,h2⟩:=own_lst.mp h
   obtain ⟨w,fq,k1,k2,k3,k4,k5⟩:=body l a xs f e1 e2 (.inl h1) h2 e
   refine ⟨w,fq,k1,k2,k3,k4,fun H' q' fq' g1 g2 g3 g4=>?_⟩
   obtain ⟨f',m1,m2,m3,m4⟩:=k5 H' q' fq' g1 g2 g3 g4
   exact ⟨a :: f',by unfold kI;exact own_lst.mpr ⟨a,xs,f',e1,rfl,by rw [m2];exact h1,m1⟩,m3,m4⟩
  | tup l=>
   obtain ⟨a,xs,f,e1,e2,h1,h2⟩:=own_tup.mp h
   obtain ⟨w,fq,k1,k2,k3,k4,k5⟩:=body l a xs f e1 e2 (.inr h1) h2 e
   refine ⟨w,fq,k1,k2,k3,k4,fun H' q' fq' g1 g2 g3 g4=>?_⟩
   obtain ⟨f',m1,m2,m3,m4⟩:=k5 H' q' fq' g1 g2 g3 g4
   exact ⟨a :: f',by unfold kI;exact own_tup.mpr ⟨a,xs,f',e1,rfl,by rw [m2];exact h1,m1⟩,m3,m4⟩
abbrev XP:=Env -> Option (List Int)
def DA (K:W.Frag) (to:TE) (i:Nat) (p:XP):Prop:=∀ ρ σ S H (Q:VK) is o q,Rl K ρ σ S H -> ρ[i]? = some (.ow o) -> p ρ = some is -> eY o is = some q -> (∀ v w S' H',σ[i]? = some (some v) -> Ext S H S' H' -> WalkV H' v is w -> Q w H') -> to σ H Q
@[simp] def xPv:XP:=fun _=>some []
theorem K1 (i:Nat):DA K (sw i) i xPv:=fun ρ σ S H Q is o q r h1 h2 h3 k=>by
 cases h2
 obtain ⟨v,fp,e,_⟩:=r.ow i o h1
 exact ⟨v,e,k v v S H e (Ext.refl r.sub) rfl⟩
@[simp] def xPi (p:XP) (ix:XE):XP:=fun ρ=>(p ρ).bind fun is=>(ix ρ).bind fun d=>match d with | .int k=>some (is ++ [k]) | _=>none
theorem Me {to ti:TE} {i:Nat} {p:XP} {ix:XE} (hp:DA K to i p) (hi:SPk K ti ix):DA K (tOp (rIx K) to ti) i (xPi p ix):=fun ρ σ S H Q is o q r h1 h2 h3 k=>by
 unfold xPi at h2
 cases e1:p ρ with
 | none=>rw [e1] at h2;cases h2
 | some js=>
  rw [e1] at h2
  dsimp only [Option.bind] at h2
  cases e2:ix ρ with
  | none=>rw [e2] at h2;cases h2
  | some d=>
   rw [e2] at h2
   cases d with
   | int kk=>
    cases h2
    obtain ⟨q0,s1,s2⟩:=rF h3
    refine hp ρ σ S H _ js o q0 r h1 e1 s1 fun v w S1 H1 ev z1 wk=>?_
    have r1:=r.ext z1
    refine hi ρ σ S1 H1 _ _ r1 e2 fun u S2 H2 z2 d2=>?_
    have r2:=r1.ext z2
    obtain ⟨v',fp,ev',ow,nd,_⟩:=r2.ow i o h1
    rw [ev] at ev'
    cases ev'
    obtain ⟨w',fq,k1,k2,_⟩:=Ge ow nd s1
    have ew:=k2.uniq (wk.mono (z2.same r1.sub))
    subst ew
    rw [d2.int]
    cases q0 with
    | sh _=>cases s2
    | dic _=>cases s2
    | hd _ _ _=>cases s2
    | lst l=>
     have s2':(atI l kk).bind (fun o=>eY o []) = some q:=s2
     cases e3:atI l kk with
     | none=>rw [e3] at s2';cases s2'
     | some o1=>
      obtain ⟨a,xs,f,rfl,rfl,hx,hl⟩:=own_lst.mp k1
      obtain ⟨j,ej,el⟩:=AH e3
      obtain ⟨x,_,_,_,ex,_⟩:=hl.split el
      have ax:atI xs kk = some x:=by unfold atI;rw [<- hl.length,ej];exact ex
      exact .inl ⟨a,xs,kk,x,rfl,rfl,SqL.of hx,ax,k v x S2 H2 ev (z1.trans z2) (k2.snoc rfl (.inl hx) ax)⟩
    | tup l=>
     have s2':(atI l kk).bind (fun o=>eY o []) = some q:=s2
     cases e3:atI l kk with
     | none=>rw [e3] at s2';cases s2'
     | some o1=>
      obtain ⟨a,xs,f,rfl,rfl,hx,hl⟩:=own_tup.mp k1
      obtain ⟨j,ej,el⟩:=AH e3
      obtain ⟨x,_,_,_,ex,_⟩:=hl.split el
      have ax:atI xs kk = some x:=by unfold atI;rw [<- hl.length,ej];exact ex
      exact .inr (.inl ⟨a,xs,kk,x,rfl,rfl,SqT.of hx,ax,k v x S2 H2 ev (z1.trans z2) (k2.snoc rfl (.inr hx) ax)⟩)
   | _=>cases h2
theorem RlF.at {A:Hp} {Λ:Nat -> Option Addr} {Φ:Nat -> List Addr} {ρ:Env} {σ:St} {i:Nat} {o:O} {is:List Int} {l:List O} {v w:V} (f:RlF K A Λ Φ ρ σ S H) (h1:ρ[i]? = some (.ow o)) (h2:eY o is = some (.lst l)) (ev:σ[i]? = some (some v)) (wk:WalkV H v is w) :
  ∃ a xs f0,w = .ref a /\ H a = some (.lst xs) /\ Owns K S H l xs f0 /\ (a :: f0).Nodup /\ (∀ b ∈ a :: f0,b ∈ Φ i) /\ ∀ l' xs' f',(∀ H',(∀ b,b ≠ a -> H' b = H b) -> Owns K S H' l' xs' f') -> (a :: f').Nodup -> (∀ b ∈ f',b ∈ f0 \/ ((∀ (j:Nat) o',ρ[j]? = some (.ow o') -> b ∉ Φ j) /\ S b = none /\ A b = none)) ->
   RlA K A Λ (ρ.set i (.ow (kI o is (.lst l')))) σ S (upd H a (.lst xs')):=by
 obtain ⟨v',e',ow,nd,n⟩:=f.ow i o h1
 rw [ev] at e'
 cases e'
 obtain ⟨w',fq,k1,k2,k3,k4,k5⟩:=Ge ow nd h2
 have ew:=k2.uniq wk
 subst ew
 obtain ⟨a,xs,g,rfl,rfl,hx,hl⟩:=own_lst.mp k1
 have ain:=k3 a List.mem_cons_self
 refine ⟨a,xs,g,rfl,hx,hl,k4,k3,fun l' xs' f' g1 g2 g3=>?_⟩
 have ne:∀ b,b ≠ a -> upd H a (.lst xs') b = H b:=fun b hb=>a7 hb
 obtain ⟨fp',m1,m2,m3⟩:=k5 (upd H a (.lst xs')) (.lst l') (a :: f') (own_lst.mpr ⟨a,xs',f',rfl,rfl,a8,g1 _ ne⟩) g2 (fun b hb hn=>ne b fun z=>hn (z ▸ List.mem_cons_self)) fun b hb hp=>by
  rcases List.mem_cons.mp hb with rfl | hb
  ·exact List.mem_cons_self
  ·rcases g3 b hb with z | ⟨z,_⟩
   ·exact List.mem_cons_of_mem _ z
   ·exact absurd hp (z i o h1)
 have sub':Same S (upd H a (.lst xs')):=fun b u e=>by rw [ne b fun z=>by subst z;rw [(n b ain).1] at e;cases e];exact f.sub b u e
 have asub':Same A (upd H a (.lst xs')):=fun b u e=>by rw [ne b fun z=>by subst z;rw [(n b ain).2] at e;cases e];exact f.asub b u e
 have fin:=f.put (H':=upd H a (.lst xs')) i sub' asub' m1 m2 (fun b hb=>by
  rcases m3 b hb with z | z
  ·exact n b z
  ·rcases List.mem_cons.mp z with rfl | z
   ·exact n b ain
   ·rcases g3 b z with z | ⟨_,z⟩
    ·exact n b (k3 b (List.mem_cons_of_mem _ z))
    ·exact z) fun j o' hj e1 b hb=>by
   have nb:b ∉ Φ i:=fun z=>f.dj j i o' o hj e1 h1 b hb z
   refine ⟨ne b fun z=>nb (z ▸ ain),fun z=>?_⟩
   rcases m3 b z with z | z
   ·exact nb z
   ·rcases List.mem_cons.mp z with rfl | z
    ·exact nb ain
    ·rcases g3 b z with z | ⟨z,_⟩
     ·exact nb (k3 b (List.mem_cons_of_mem _ z))
     ·exact z j o' e1 hb
 rw [Ev ev] at fin
 exact ⟨_,fin⟩
theorem RlF.fresh {A:Hp} {Λ:Nat -> Option Addr} {Φ:Nat -> List Addr} {ρ:Env} {σ:St} {b:Addr} (f:RlF K A Λ Φ ρ σ S H) (h:H b = none):(∀ (j:Nat) o',ρ[j]? = some (.ow o') -> b ∉ Φ j) /\ S b = none /\ A b = none:=
 ⟨fun j o' e hb=>by obtain ⟨_,_,ow,_⟩:=f.ow j o' e;exact ow.there b hb h,f.sub.free h,f.asub.free h⟩
@[simp] def lA (i:Nat) (p:XP) (e:Env -> Option O):XS:=fun ρ=>match ρ[i]? with
 | some (.ow o)=>(p ρ).bind fun is=>(e ρ).bind fun x=>match eY o is with
  | some (.lst l)=>if l.length < LIM then some (.nx (ρ.set i (.ow (kI o is (.lst (l ++ [x])))))) else none
  | _=>none
 | _=>none
theorem Iu {to te:TE} {i:Nat} {p:XP} {e:Env -> Option O} (hp:DA K to i p) (h:STr K te e):SS K (wl (tBM K "list" rAppend to (jg te sM))) (lA i p e):=fun A Λ ρ σ S H E out r y k=>by
 unfold lA at y
 cases q0:ρ[i]? with
 | none=>rw [q0] at y;cases y
 | some s=>
  rw [q0] at y
  cases s with
  | un=>cases y
  | lo=>cases y
  | sh d=>cases y
  | ow o=>
   dsimp only at y
   cases q1:p ρ with
   | none=>rw [q1] at y;cases y
   | some is=>
    rw [q1] at y
    dsimp only [Option.bind] at y
    cases q2:e ρ with
    | none=>rw [q2] at y;cases y
    | some x=>
     rw [q2] at y
     dsimp only at y
     cases q3:eY o is with
     | none=>rw [q3] at y;cases y
     | some qo=>
      rw [q3] at y
      cases qo with
      | sh _=>cases y
      | dic _=>cases y
      | hd _ _ _=>cases y
      | tup _=>cases y
      | lst l=>
       dsimp only at y
       split at y
       ·rename_i hl
        cases y
        obtain ⟨Φ,f⟩:=r
        refine hp ρ σ S H _ is o _ ⟨A,Λ,Φ,f⟩ q0 q1 q3 fun v w S1 H1 ev z1 wk=>?_
        have f1:=f.ext z1
        obtain ⟨a,xs,g0,rfl,hx,hw,nd0,in0,_⟩:=f1.at q0 q3 ev wk
        refine ⟨.inl ⟨rfl,xs,SqL.of hx⟩,h ρ σ S1 H1 _ x ⟨A,Λ,Φ,f1⟩ q2 fun u fu S2 H2 z2 ou nd n=>?_⟩
        have f2:=f1.ext z2
        obtain ⟨a',xs',g1,e1,hx',hw',nd1,in1,up⟩:=f2.at q0 q3 ev (wk.mono (z2.same f1.sub))
        cases e1
        have fr:∀ b ∈ fu,(∀ (j:Nat) o',ρ[j]? = some (.ow o') -> b ∉ Φ j) /\ S2 b = none /\ A b = none:=fun b hb=>⟨(f1.fresh (n b hb).1).1,(n b hb).2,(f1.fresh (n b hb).1).2.2⟩
        have fa:∀ b ∈ fu,b ∉ a :: g1:=fun b hb z=>(fr b hb).1 i o q0 (in1 b z)
        obtain ⟨na,ng⟩:=List.nodup_cons.mp nd1
        refine ⟨a,xs',u,rfl,rfl,hx',?_,?_⟩
        ·rw [<- hw'.length];exact Nat.lt_trans hl kQ
        ·refine k σ S2 _ (up (l ++ [x]) (xs' ++ [u]) (g1 ++ fu) (fun H' ne=>?_) ?_ fun b hb=>?_) (z1.sh.trans z2.sh)
         ·have:=(hw'.mono (H':=H') (Same.refl _) fun b hb=>ne b fun z=>na (z ▸ hb)).append (.cons (ou.mono (H':=H') (Same.refl _) fun b hb=>ne b fun z=>fa b hb (z ▸ List.mem_cons_self)) .nil)
          rw [List.append_nil] at this
          exact this
         ·refine List.nodup_cons.mpr ⟨fun z=>?_,List.nodup_append.mpr ⟨ng,nd,fun b hb c hc e=>fa c hc (e ▸ List.mem_cons_of_mem _ hb)⟩⟩
          rcases List.mem_append.mp z with z | z
          ·exact na z
          ·exact fa a z List.mem_cons_self
         ·rcases List.mem_append.mp hb with hb | hb
          ·exact .inl hb
          ·exact .inr (fr b hb)
       ·cases y
@[simp] def MR (i:Nat) (p:XP) (j:Nat):XS:=fun ρ=>match ρ[i]? with
 | some (.ow o)=>(p ρ).bind fun is=>match eY o is with
  | some (.lst l)=>(match l.getLast? with
   | some (.sh d)=>some (.nx ((ρ.set i (.ow (kI o is (.lst l.dropLast)))).set j (.sh d)))
   | _=>none)
  | _=>none
 | _=>none
@[simp] def M3 (i:Nat) (p:XP):XS:=fun ρ=>match ρ[i]? with
 | some (.ow o)=>(p ρ).bind fun is=>match eY o is with
  | some (.lst l)=>(match shs l with | some ds=>some (.nx (ρ.set i (.ow (kI o is (.lst (ds.reverse.map .sh)))))) | none=>none)
  | _=>none
 | _=>none
def rExtM:V -> List V -> Hp -> VK -> Prop:=fun x vs H Q=>∃ l b xs zs,x = .ref l /\ vs = [.ref b] /\ H l = some (.lst xs) /\ Rd H b (.lst zs) /\ xs.length + zs.length <= sizeLine /\ Q .non (upd H l (.lst (xs ++ zs)))
@[simp] def B4 (i:Nat) (p:XP) (e:XE):XS:=fun ρ=>match ρ[i]? with
 | some (.ow o)=>(p ρ).bind fun is=>(e ρ).bind fun d=>match eY o is,d with
  | some (.lst l),.lst ds=>if l.length + ds.length <= LIM then some (.nx (ρ.set i (.ow (kI o is (.lst (l ++ ds.map .sh)))))) else none
  | _,_=>none
 | _=>none
theorem Ig {to te:TE} {i:Nat} {p:XP} {e:XE} (hp:DA K to i p) (h:SE K te e):SS K (wl (tBM K "list" rExtM to (jg te sM))) (B4 i p e):=fun A Λ ρ σ S H E out r y k=>by
 unfold B4 at y
 cases q0:ρ[i]? with
 | none=>rw [q0] at y;cases y
 | some s=>
  rw [q0] at y
  cases s with
  | un=>cases y
  | lo=>cases y
  | sh d=>cases y
  | ow o=>
   dsimp only at y
   cases q1:p ρ with
   | none=>rw [q1] at y;cases y
   | some is=>
    rw [q1] at y
    dsimp only [Option.bind] at y
    cases q2:e ρ with
    | none=>rw [q2] at y;cases y
    | some dd=>
     rw [q2] at y
     dsimp only at y
     cases q3:eY o is with
     | none=>rw [q3] at y;cases y
     | some qo=>
      rw [q3] at y
      cases qo with
      | sh _=>cases y
      | dic _=>cases y
      | hd _ _ _=>cases y
      | tup _=>cases y
      | lst l=>
       cases dd with
       | lst ds=>
        dsimp only at y
        split at y
        ·rename_i hl
         cases y
         obtain ⟨Φ,f⟩:=r
         refine hp ρ σ S H _ is o _ ⟨A,Λ,Φ,f⟩ q0 q1 q3 fun v w S1 H1 ev z1 wk=>?_
         have f1:=f.ext z1
         obtain ⟨a,xs,g0,rfl,hx,hw,nd0,in0,_⟩:=f1.at q0 q3 ev wk
         refine ⟨.inl ⟨rfl,xs,SqL.of hx⟩,h ρ σ S1 H1 _ _ ⟨A,Λ,Φ,f1⟩ q2 fun u S2 H2 z2 d2=>?_⟩
         have f2:=f1.ext z2
         obtain ⟨a',xs',g1,e1,hx',hw',nd1,in1,up⟩:=f2.at q0 q3 ev (wk.mono (z2.same f1.sub))
         cases e1
         obtain ⟨b,zs,rfl,hb,dz⟩:=den_lst.mp d2
         obtain ⟨na,ng⟩:=List.nodup_cons.mp nd1
         refine ⟨a,b,xs',zs,rfl,rfl,hx',dq z2.sub hb,?_,?_⟩
         ·rw [<- hw'.length,<- dz.length];exact Nat.le_of_lt (Nat.lt_of_le_of_lt hl kQ)
         ·refine k σ S2 _ (up (l ++ ds.map .sh) (xs' ++ zs) g1 (fun H' ne=>?_) nd1 fun b hb=>.inl hb) (z1.sh.trans z2.sh)
          have:=(hw'.mono (H':=H') (Same.refl _) fun b hb=>ne b fun z=>na (z ▸ hb)).append (tf (H:=H') dz)
          rw [List.append_nil] at this
          exact this
        ·cases y
       | _=>cases y
@[simp] def wU (i:Nat) (p:XP) (ix e:XE):XS:=fun ρ=>(e ρ).bind fun d=>match ρ[i]? with
 | some (.ow o)=>(p ρ).bind fun is=>(ix ρ).bind fun k=>match eY o is,k with
  | some (.lst l),.int k=>(match shs l with | some ds=>(ixN ds.length k).map fun j=>.nx (ρ.set i (.ow (kI o is (.lst ((ds.set j d).map .sh))))) | none=>none)
  | _,_=>none
 | _=>none
theorem IH {to te ti:TE} {i:Nat} {p:XP} {e ix:XE} (h:SE K te e) (hp:DA K to i p) (hi:SPk K ti ix):SS K (zN te (Kf to ti Hm)) (wU i p ix e):=fun A Λ ρ σ S H E out r y k=>by
 unfold wU at y
 cases q:e ρ with
 | none=>rw [q] at y;cases y
 | some d=>
  rw [q] at y
  dsimp only [Option.bind] at y
  cases q0:ρ[i]? with
  | none=>rw [q0] at y;cases y
  | some s=>
   rw [q0] at y
   cases s with
   | un=>cases y
   | lo=>cases y
   | sh d=>cases y
   | ow o=>
    dsimp only at y
    cases q1:p ρ with
    | none=>rw [q1] at y;cases y
    | some is=>
     rw [q1] at y
     dsimp only at y
     cases q2:ix ρ with
     | none=>rw [q2] at y;cases y
     | some dk=>
      rw [q2] at y
      dsimp only at y
      cases q3:eY o is with
      | none=>rw [q3] at y;cases y
      | some qo=>
       rw [q3] at y
       cases qo with
       | sh _=>cases y
       | dic _=>cases y
       | hd _ _ _=>cases y
       | tup _=>cases y
       | lst l=>
        cases dk with
        | int kk=>
         dsimp only at y
         cases q4:shs l with
         | none=>rw [q4] at y;cases y
         | some ds=>
          rw [q4] at y
          dsimp only at y
          cases q5:ixN ds.length kk with
          | none=>rw [q5] at y;cases y
          | some j=>
           rw [q5] at y
           cases y
           have ed:=AY q4
           subst ed
           obtain ⟨Φ,f⟩:=r
           refine h ρ σ S H _ d ⟨A,Λ,Φ,f⟩ q fun u S0 H0 z0 d0=>?_
           have f0:=f.ext z0
           refine hp ρ σ S0 H0 _ is o _ ⟨A,Λ,Φ,f0⟩ q0 q1 q3 fun v w S1 H1 ev z1 wk=>?_
           have f1:=f0.ext z1
           refine hi ρ σ S1 H1 _ _ ⟨A,Λ,Φ,f1⟩ q2 fun w2 S2 H2 z2 d2=>?_
           have f2:=f1.ext z2
           obtain ⟨a',xs',g1,rfl,hx',hw',nd1,in1,up⟩:=f2.at q0 q3 ev (wk.mono (z2.same f1.sub))
           obtain ⟨hd,rfl⟩:=nO hw'
           refine ⟨a',xs',kk,j,rfl,d2.int,hx',by rw [<- hd.length];exact q5,?_⟩
           exact k σ S2 _ (up ((ds.set j d).map .sh) (xs'.set j u) [] (fun H' ne=>tf (hd.set j ((d0.mono z1.sh).mono z2.sh))) nd1 fun b hb=>by cases hb) ((z0.sh.trans z1.sh).trans z2.sh)
        | _=>cases y
@[simp] def C4 (i:Nat) (e:XE) (f:D -> D -> Option D):XS:=fun ρ=>match ρ[i]? with
 | some (.sh x)=>(e ρ).bind fun y=>(f x y).map fun z=>.nx (ρ.set i (.sh z))
 | _=>none
theorem J7 {te:TE} {e:XE} {i:Nat} {ti:TIp} {f:D -> D -> Option D} (h:SPk K te e) (hr:SR2 K ti f):SS K (J6 i te ti) (C4 i e f):=fun A Λ ρ σ S H E o r y k=>by
 unfold C4 at y
 cases q0:ρ[i]? with
 | none=>rw [q0] at y;cases y
 | some s=>
  rw [q0] at y
  cases s with
  | un=>cases y
  | lo=>cases y
  | ow d=>cases y
  | sh x=>
   dsimp only at y
   cases q:e ρ with
   | none=>rw [q] at y;cases y
   | some d=>
    rw [q] at y
    dsimp only [Option.bind] at y
    cases q2:f x d with
    | none=>rw [q2] at y;cases y
    | some g=>
     rw [q2] at y
     cases y
     obtain ⟨v,h1,h2⟩:=r.sh i x q0
     refine ⟨v,h1,h ρ σ S H _ d r.toRl q fun w S1 H1 z1 d1=>?_⟩
     exact hr S1 H1 v w x d g _ z1.sub (.inl (h2.mono z1.sh)) d1 q2 fun u S2 H2 z2 d2=>k _ S2 H2 ((r.ext (z1.trans z2)).set i d2) (z1.sh.trans z2.sh)
@[simp] def ME (e:XE):XS:=fun ρ=>(e ρ).map fun _=>.nx ρ
end
section
variable {K:W.Frag} {S S' H H':Hp}
def Walks (K:W.Frag) (J:It) (S:Hp) (l:List D):Prop:=∀ S' H',Same S S' -> Same S' H' ->
 (∀ i d,l[i]? = some d -> J.go i H' /\ ∀ x H'',J.yld i H' x H'' -> H'' = H' /\ Den K S' d x) /\ J.stop l.length H'
def SI (K:W.Frag) (wi:TI) (e:XA):Prop:=∀ ρ σ S H (R:It -> Hp -> Prop) l,Rl K ρ σ S H -> e ρ = some l -> (∀ J S' H',Ext S H S' H' -> Walks K J S' l -> R J H') -> wi σ H R
def yT:D -> Option (List D)
 | .lst l=>some l | .tup l=>some l | .scr l=>some l | .mtp l=>some l | _=>none
def HX (K:W.Frag) (J:It) (S H:Hp) (l:List D):Prop:=∀ S' H',Ext S H S' H' ->
 (∀ i d,l[i]? = some d -> J.go i H' /\ ∀ x H'',J.yld i H' x H'' -> H'' = H' /\ Den K S' d x) /\ J.stop l.length H'
def SIP (K:W.Frag) (wi:TI) (e:XA):Prop:=∀ ρ σ S H (R:It -> Hp -> Prop) l,Rl K ρ σ S H -> e ρ = some l -> (∀ J S' H',Ext S H S' H' -> HX K J S' H' l -> R J H') -> wi σ H R
theorem SI.p {wi:TI} {e:XA} (h:SI K wi e):SIP K wi e:=fun ρ σ S H R l r x k=>h ρ σ S H R l r x fun J S' H' z w=>k J S' H' z fun S2 H2 z2=>w S2 H2 z2.sh z2.sub
@[simp] def xIt (e:XE):XA:=fun ρ=>(e ρ).bind yT
theorem Kl {tl:TE} {e:XE} (h:SE K tl e):SI K (I0 K tl) (xIt e):=fun ρ σ S H R l r x k=>by
 unfold xIt at x
 cases q:e ρ with
 | none=>rw [q] at x;cases x
 | some d=>
  rw [q] at x
  dsimp only [Option.bind] at x
  refine h ρ σ S H _ d r q fun v S1 H1 z1 d1=>?_
  cases d with
  | lst l'=>
   cases x
   obtain ⟨p,xs,rfl,h1,h2⟩:=den_lst.mp d1
   refine ⟨p,rfl,.inl ⟨⟨xs,.inl (dq z1.sub h1)⟩,k _ S1 H1 z1 fun S' H' s1 s2=>⟨fun i d hd=>?_,xs,.inl (dq (s1.trans s2) h1),Nat.le_of_eq h2.length.symm⟩⟩⟩
   obtain ⟨y,e1,e2⟩:=h2.get hd
   refine ⟨⟨xs,y,.inl (dq (s1.trans s2) h1),e1⟩,fun x H'' hy=>⟨hy.1,?_⟩⟩
   have:=hy.2 xs (.inl (dq (s1.trans s2) h1))
   rw [e1] at this
   cases this
   exact e2.mono s1
  | tup l'=>
   cases x
   obtain ⟨p,xs,rfl,h1,h2⟩:=iG d1
   refine ⟨p,rfl,.inr ⟨⟨xs,ba z1.sub h1⟩,k _ S1 H1 z1 fun S' H' s1 s2=>⟨fun i d hd=>?_,xs,ba (s1.trans s2) h1,Nat.le_of_eq h2.length.symm⟩⟩⟩
   obtain ⟨y,e1,e2⟩:=h2.get hd
   refine ⟨⟨xs,y,ba (s1.trans s2) h1,e1⟩,fun x H'' hy=>⟨hy.1,?_⟩⟩
   have:=hy.2 xs (ba (s1.trans s2) h1)
   rw [e1] at this
   cases this
   exact e2.mono s1
  | mtp l'=>
   cases x
   obtain ⟨p,xs,rfl,h1,h2⟩:=den_mtp.mp d1
   refine ⟨p,rfl,.inr ⟨⟨xs,ba z1.sub h1⟩,k _ S1 H1 z1 fun S' H' s1 s2=>⟨fun i d hd=>?_,xs,ba (s1.trans s2) h1,Nat.le_of_eq h2.length.symm⟩⟩⟩
   obtain ⟨y,e1,e2⟩:=h2.get hd
   refine ⟨⟨xs,y,ba (s1.trans s2) h1,e1⟩,fun x H'' hy=>⟨hy.1,?_⟩⟩
   have:=hy.2 xs (ba (s1.trans s2) h1)
   rw [e1] at this
   cases this
   exact e2.mono s1
  | scr l'=>
   cases x
   obtain ⟨p,xs,rfl,h1,h2⟩:=den_scr.mp d1
   refine ⟨p,rfl,.inl ⟨⟨xs,e7 z1.sub h1⟩,k _ S1 H1 z1 fun S' H' s1 s2=>⟨fun i d hd=>?_,xs,e7 (s1.trans s2) h1,Nat.le_of_eq h2.length.symm⟩⟩⟩
   obtain ⟨y,e1,e2⟩:=h2.get hd
   refine ⟨⟨xs,y,e7 (s1.trans s2) h1,e1⟩,fun x H'' hy=>⟨hy.1,?_⟩⟩
   have:=hy.2 xs (e7 (s1.trans s2) h1)
   rw [e1] at this
   cases this
   exact e2.mono s1
  | _=>cases x
def ifC {α:Type} (p:Prop) (a b:α):α:=@ite α p (Classical.propDecidable p) a b
theorem ip {α:Type} {p:Prop} {a b:α} (h:p):ifC p a b = a:=by unfold ifC;exact if_pos h
theorem ko {α:Type} {p:Prop} {a x:α} (h:ifC p (some a) none = some x):p /\ a = x:=by
 unfold ifC at h
 by_cases c:p
 ·rw [if_pos c] at h;exact ⟨c,Option.some.inj h⟩
 ·rw [if_neg c] at h;cases h
theorem Jv {tl:TE} {e:XE} (h:SPk K tl e):SIP K (I0 K tl) (xIt e):=fun ρ σ S H R l r x k=>by
 unfold xIt at x
 cases q:e ρ with
 | none=>rw [q] at x;cases x
 | some d=>
  rw [q] at x
  dsimp only [Option.bind] at x
  refine h ρ σ S H _ d r q fun v S1 H1 z1 d1=>?_
  rcases d1 with d1 | ⟨l',p,xs,rfl,rfl,hx,dx⟩
  ·cases d with
   | lst l'=>
    cases x
    obtain ⟨p,xs,rfl,h1,h2⟩:=den_lst.mp d1
    refine ⟨p,rfl,.inl ⟨⟨xs,.inl (dq z1.sub h1)⟩,k _ S1 H1 z1 fun S' H' z2=>⟨fun i d hd=>?_,xs,.inl (dq (z2.sh.trans z2.sub) h1),Nat.le_of_eq h2.length.symm⟩⟩⟩
    obtain ⟨y,e1,e2⟩:=h2.get hd
    refine ⟨⟨xs,y,.inl (dq (z2.sh.trans z2.sub) h1),e1⟩,fun x H'' hy=>⟨hy.1,?_⟩⟩
    have:=hy.2 xs (.inl (dq (z2.sh.trans z2.sub) h1))
    rw [e1] at this
    cases this
    exact e2.mono z2.sh
   | tup l'=>
    cases x
    obtain ⟨p,xs,rfl,h1,h2⟩:=iG d1
    refine ⟨p,rfl,.inr ⟨⟨xs,ba z1.sub h1⟩,k _ S1 H1 z1 fun S' H' z2=>⟨fun i d hd=>?_,xs,ba (z2.sh.trans z2.sub) h1,Nat.le_of_eq h2.length.symm⟩⟩⟩
    obtain ⟨y,e1,e2⟩:=h2.get hd
    refine ⟨⟨xs,y,ba (z2.sh.trans z2.sub) h1,e1⟩,fun x H'' hy=>⟨hy.1,?_⟩⟩
    have:=hy.2 xs (ba (z2.sh.trans z2.sub) h1)
    rw [e1] at this
    cases this
    exact e2.mono z2.sh
   | mtp l'=>
    cases x
    obtain ⟨p,xs,rfl,h1,h2⟩:=den_mtp.mp d1
    refine ⟨p,rfl,.inr ⟨⟨xs,ba z1.sub h1⟩,k _ S1 H1 z1 fun S' H' z2=>⟨fun i d hd=>?_,xs,ba (z2.sh.trans z2.sub) h1,Nat.le_of_eq h2.length.symm⟩⟩⟩
    obtain ⟨y,e1,e2⟩:=h2.get hd
    refine ⟨⟨xs,y,ba (z2.sh.trans z2.sub) h1,e1⟩,fun x H'' hy=>⟨hy.1,?_⟩⟩
    have:=hy.2 xs (ba (z2.sh.trans z2.sub) h1)
    rw [e1] at this
    cases this
    exact e2.mono z2.sh
   | scr l'=>
    cases x
    obtain ⟨p,xs,rfl,h1,h2⟩:=den_scr.mp d1
    refine ⟨p,rfl,.inl ⟨⟨xs,e7 z1.sub h1⟩,k _ S1 H1 z1 fun S' H' z2=>⟨fun i d hd=>?_,xs,e7 (z2.sh.trans z2.sub) h1,Nat.le_of_eq h2.length.symm⟩⟩⟩
    obtain ⟨y,e1,e2⟩:=h2.get hd
    refine ⟨⟨xs,y,e7 (z2.sh.trans z2.sub) h1,e1⟩,fun x H'' hy=>⟨hy.1,?_⟩⟩
    have:=hy.2 xs (e7 (z2.sh.trans z2.sub) h1)
    rw [e1] at this
    cases this
    exact e2.mono z2.sh
   | _=>cases x
  ·cases x
   refine ⟨p,rfl,.inl ⟨⟨xs,SqL.of hx⟩,k _ S1 H1 z1 fun S' H' z2=>?_⟩⟩
   have hx2:H' p = some (.lst xs):=z2.same z1.sub _ _ hx
   refine ⟨fun i d hd=>?_,xs,SqL.of hx2,Nat.le_of_eq dx.length.symm⟩
   obtain ⟨y,e1,e2⟩:=dx.get hd
   refine ⟨⟨xs,y,SqL.of hx2,e1⟩,fun x H'' hy=>⟨hy.1,?_⟩⟩
   have:=hy.2 xs (SqL.of hx2)
   rw [e1] at this
   cases this
   exact e2.mono z2.sh
def cH (lo:Int):Nat -> List D
 | 0=>[]
 | n + 1=>.int lo :: cH (lo + 1) n
theorem wJ:∀ (n:Nat) (lo:Int) (i:Nat) (d:D),(cH lo n)[i]? = some d -> i < n /\ d = .int (lo + i)
 | 0,_,_,_,h=>by simp [cH] at h
 | n + 1,lo,0,d,h=>by simp [cH] at h;exact ⟨Nat.succ_pos _,by rw [<- h];simp⟩
 | n + 1,lo,i + 1,d,h=>by
  obtain ⟨h1,h2⟩:=wJ n (lo + 1) i d (by simpa [cH] using h)
  exact ⟨Nat.succ_lt_succ h1,by rw [h2];congr 1;lia⟩
theorem wI:∀ (n:Nat) (lo:Int),(cH lo n).length = n
 | 0,_=>rfl
 | n + 1,lo=>by rw [cH,List.length_cons,wI n]
theorem wp (lo:Int) (n:Nat):Walks K (Itr lo n) S (cH lo n):=fun S' H' _ _=>⟨fun i d h=>by
 obtain ⟨h1,rfl⟩:=wJ n lo i d h
 exact ⟨h1,fun x H'' y=>⟨y.1,den_int.mpr y.2⟩⟩,by rw [wI];exact Nat.le_refl _⟩
def xF:List D -> Option (List D)
 | [.int j]=>ifC (j < 1000000 /\ -1000000 < j) (some (cH 0 j.toNat)) none
 | [.int i,.int j]=>ifC (j < 4000000000000000000 /\ -4000000000000000000 < i /\ i < 4000000000000000000 /\ -4000000000000000000 < j) (some (cH i (j - i).toNat)) none
 | _=>none
@[simp] def o5 (a:XA):XA:=fun ρ=>(a ρ).bind xF
theorem Jn {ta:TE} {a:XE} (h:SPk K ta a):SI K (Hl (jg ta sM)) (o5 (af a ap)):=fun ρ σ S H R l r x k=>by
 unfold o5 at x
 cases q:af a ap ρ with
 | none=>rw [q] at x;cases x
 | some ds=>
  rw [q] at x
  obtain ⟨d,e,qa,qb,rfl⟩:=km q
  cases qb
  cases d with
  | int j=>
   have x':ifC (j < 1000000 /\ -1000000 < j) (some (cH 0 j.toNat)) none = some l:=x
   obtain ⟨hj,rfl⟩:=ko x'
   refine h ρ σ S H _ _ r qa fun v S1 H1 z1 d1=>?_
   refine ⟨j,by rw [d1.int],?_,?_,k _ S1 H1 z1 (wp 0 _)⟩
   ·have:(2:Int) ^ 62 = 4611686018427387904:=by decide
    lia
   ·have:(2:Int) ^ 62 = 4611686018427387904:=by decide
    lia
  | _=>cases x
theorem HK {ta tb:TE} {a b:XE} (h:SPk K ta a) (hb:SPk K tb b):SI K (HH (jg ta (jg tb sM))) (o5 (af a (af b ap))):=fun ρ σ S H R l r x k=>by
 unfold o5 at x
 cases q:af a (af b ap) ρ with
 | none=>rw [q] at x;cases x
 | some ds=>
  rw [q] at x
  obtain ⟨d,e,qa,qb,rfl⟩:=km q
  obtain ⟨d2,e2,qa2,qb2,rfl⟩:=km qb
  cases qb2
  cases d with
  | int i=>
   cases d2 with
   | int j=>
    have x':ifC (j < 4000000000000000000 /\ -4000000000000000000 < i /\ i < 4000000000000000000 /\ -4000000000000000000 < j) (some (cH i (j - i).toNat)) none = some l:=x
    obtain ⟨hj,rfl⟩:=ko x'
    refine h ρ σ S H _ _ r qa fun v S1 H1 z1 d1=>?_
    refine hb ρ σ S1 H1 _ _ (r.ext z1) qa2 fun w S2 H2 z2 d2=>?_
    have:(2:Int) ^ 62 = 4611686018427387904:=by decide
    exact ⟨i,j,by rw [d1.int,d2.int],by lia,k _ S2 H2 (z1.trans z2) (wp i _)⟩
   | _=>cases x
  | _=>cases x
def Fp:Nat -> Nat -> List D
 | _,0=>[]
 | k,n + 1=>.int (2 * k) :: Fp (k + 1) n
def Kg:List D -> Option (List D)
 | [.int a,.int j,.int b]=>ifC (a = 0 /\ b = 2 /\ 0 <= j /\ j < 1000000) (some (Fp 0 ((j + 1) / 2).toNat)) none
 | _=>none
@[simp] def M9 (a:XA):XA:=fun ρ=>(a ρ).bind Kg
def hV (g:XG) (m:XS):List D -> Env -> Option Out
 | [],ρ=>some (.nx ρ)
 | d :: l,ρ=>(g d ρ).bind fun ρ1=>match m ρ1 with
  | some (.nx ρ2)=>hV g m l ρ2
  | some (.ct ρ2)=>hV g m l ρ2
  | some (.bk ρ2)=>some (.nx ρ2)
  | some (.rt d)=>some (.rt d)
  | some (.ro d)=>some (.ro d)
  | none=>none
@[simp] def i7 (e:XA) (g:XG) (m:XS):XS:=fun ρ=>(e ρ).bind fun l=>hV g m l ρ
theorem Af {l:List D} {i:Nat} {d:D} (h:l[i]? = some d):l.drop i = d :: l.drop (i + 1):=by
 obtain ⟨h1,rfl⟩:=List.getElem?_eq_some_iff.mp h
 exact List.drop_eq_getElem_cons h1
theorem Lk {wi:TI} {g:TG} {tb:TS} {e:XA} {x:XG} {m:XS} (hi:SI K wi e) (hg:SG K g x) (hb:SS K tb m):SS K (K9 wi g tb) (i7 e x m):=fun A Λ ρ σ S H E o r y k=>by
 unfold i7 at y
 cases q:e ρ with
 | none=>rw [q] at y;cases y
 | some l=>
  rw [q] at y
  dsimp only [Option.bind] at y
  refine hi ρ σ S H _ l r.toRl q fun J S1 H1 z1 wk=>?_
  have r1:=r.ext z1
  refine ⟨fun i n σ' H'=>n = l.length - i /\ i <= l.length /\ ∃ ρ' S',RlA K A Λ ρ' σ' S' H' /\ Same S1 S' /\ hV x m (l.drop i) ρ' = some o,⟨_,rfl,Nat.zero_le _,ρ,S1,r1,Same.refl _,y⟩,?_⟩
  rintro i n σ2 H2 ⟨rfl,hil,ρ2,S2,r2,s2,y2⟩
  obtain ⟨w1,w2⟩:=wk S2 H2 s2 r2.sub
  cases qd:l[i]? with
  | none=>
   have:l.length = i:=by have:=List.getElem?_eq_none_iff.mp qd;lia
   subst this
   rw [List.drop_of_length_le (Nat.le_refl _)] at y2
   cases y2
   exact .inl ⟨w2,k σ2 S2 H2 r2 (z1.sh.trans s2)⟩
  | some d=>
   obtain ⟨g1,g2⟩:=w1 i d qd
   have hlt:=(List.getElem?_eq_some_iff.mp qd).1
   rw [Af qd] at y2
   unfold hV at y2
   cases qx:x d ρ2 with
   | none=>rw [qx] at y2;cases y2
   | some ρ3=>
    rw [qx] at y2
    dsimp only [Option.bind] at y2
    refine .inr ⟨g1,fun σ' H'=>∃ ρ' S',RlA K A Λ ρ' σ' S' H' /\ Same S1 S' /\ hV x m (l.drop (i + 1)) ρ' = some o,fun σ' H' ⟨ρ',S',a1,a2,a3⟩=>⟨_,by lia,rfl,hlt,ρ',S',a1,a2,a3⟩,fun xv H3 hy=>?_⟩
    obtain ⟨rfl,dx⟩:=g2 xv H3 hy
    refine hg A Λ ρ2 σ2 S2 H3 xv d _ ρ3 r2 dx qx fun σ3 r3=>?_
    cases qm:m ρ3 with
    | none=>rw [qm] at y2;cases y2
    | some om=>
     rw [qm] at y2
     refine hb A Λ ρ3 σ3 S2 H3 _ om r3 qm ?_
     cases om with
     | nx ρ4=>exact fun σ4 S4 H4 r4 s4=>⟨ρ4,S4,r4,s2.trans s4,y2⟩
     | ct ρ4=>exact fun σ4 S4 H4 r4 s4=>⟨ρ4,S4,r4,s2.trans s4,y2⟩
     | bk ρ4=>cases y2;exact fun σ4 S4 H4 r4 s4=>k σ4 S4 H4 r4 ((z1.sh.trans s2).trans s4)
     | rt d4=>cases y2;exact fun v S4 H4 s4=>k v S4 H4 ((z1.sh.trans s2).trans s4)
     | ro d4=>cases y2;exact fun v fp S4 H4 s4=>k v fp S4 H4 ((z1.sh.trans s2).trans s4)
def cE (c:XT) (m:XS):Nat -> Env -> Option Out
 | 0,_=>none
 | n + 1,ρ=>(c ρ).bind fun b=>if b = true then (match m ρ with
  | some (.nx ρ2)=>cE c m n ρ2
  | some (.ct ρ2)=>cE c m n ρ2
  | some (.bk ρ2)=>some (.nx ρ2)
  | some (.rt d)=>some (.rt d)
  | some (.ro d)=>some (.ro d)
  | none=>none) else some (.nx ρ)
theorem mB (c:XT) (m:XS):∀ (n:Nat) (ρ:Env) (o:Out),cE c m n ρ = some o -> cE c m (n + 1) ρ = some o
 | 0,_,_,h=>by cases h
 | n + 1,ρ,o,h=>by
  unfold cE at h ⊢
  cases qc:c ρ with
  | none=>rw [qc] at h;cases h
  | some b=>
   rw [qc] at h
   dsimp only [Option.bind] at h ⊢
   cases b with
   | false=>exact h
   | true=>
    rw [if_pos rfl] at h ⊢
    cases qm:m ρ with
    | none=>rw [qm] at h;cases h
    | some om=>
     rw [qm] at h
     cases om with
     | nx ρ2=>exact mB c m n ρ2 o h
     | ct ρ2=>exact mB c m n ρ2 o h
     | bk ρ2=>exact h
     | rt d=>exact h
     | ro d=>exact h
theorem nX (c:XT) (m:XS) (n:Nat) (ρ:Env) (o:Out) (h:cE c m n ρ = some o):∀ k,cE c m (n + k) ρ = some o
 | 0=>h
 | k + 1=>mB c m (n + k) ρ o (nX c m n ρ o h k)
def pN (c:XT) (m:XS):XS:=fun ρ=>by
 classical
 exact if h:∃ o n,cE c m n ρ = some o then some h.choose else none
def fw (c:XT) (m:XS):XS:=fun ρ=>(cE c m 64 ρ).or (pN c m ρ)
theorem vn {c:XT} {m:XS} {ρ:Env} {o o':Out} {n k:Nat} (h:cE c m n ρ = some o) (h':cE c m k ρ = some o'):o' = o:=by
 have h3:=nX c m n ρ o h k
 have h4:=nX c m k ρ _ h' n
 rw [Nat.add_comm k n,h3] at h4
 exact (Option.some.inj h4).symm
theorem wB {c:XT} {m:XS} {n:Nat} {ρ:Env} {o:Out} (h:cE c m n ρ = some o):fw c m ρ = some o:=by
 unfold fw
 cases q:cE c m 64 ρ with
 | some o'=>exact congrArg some (vn h q)
 | none=>
  have hx:∃ o n,cE c m n ρ = some o:=⟨o,n,h⟩
  show pN c m ρ = some o
  unfold pN
  rw [dif_pos hx]
  obtain ⟨n2,h2⟩:=hx.choose_spec
  exact congrArg some (vn h h2)
theorem xf {c:XT} {m:XS} {ρ:Env} {o:Out} (h:fw c m ρ = some o):∃ n,cE c m n ρ = some o:=by
 unfold fw at h
 cases q:cE c m 64 ρ with
 | some o'=>rw [q] at h;exact ⟨64,q.trans h⟩
 | none=>
  rw [q] at h
  have h:pN c m ρ = some o:=h
  unfold pN at h
  split at h
  ·rename_i hx
   cases h
   exact hx.choose_spec
  ·cases h
theorem AD {c:XT} {m:XS} {ρ:Env} (h:c ρ = some false):fw c m ρ = some (.nx ρ):=wB (n:=1) (by unfold cE;rw [h];rfl)
theorem Aa {c:XT} {m:XS} {ρ ρ2:Env} {o:Out} (h:c ρ = some true) (hm:m ρ = some (.nx ρ2)) (k:fw c m ρ2 = some o):fw c m ρ = some o:=by
 obtain ⟨n,hn⟩:=xf k
 exact wB (n:=n + 1) (by unfold cE;rw [h,hm];exact hn)
theorem Hc {tc:TT} {tb:TS} {c:XT} {m:XS} (hc:ST K tc c) (hb:SS K tb m):SS K (E5 tc tb) (fw c m):=fun A Λ ρ σ S H E o r y k=>by
 obtain ⟨n,hn⟩:=xf y
 refine ⟨fun n σ' H'=>∃ ρ' S',RlA K A Λ ρ' σ' S' H' /\ Same S S' /\ cE c m n ρ' = some o,⟨n,ρ,S,r,Same.refl _,hn⟩,?_⟩
 rintro n σ1 H1 ⟨ρ1,S1,r1,s1,h1⟩
 cases n with
 | zero=>cases h1
 | succ n=>
  unfold cE at h1
  cases qc:c ρ1 with
  | none=>rw [qc] at h1;cases h1
  | some b=>
   rw [qc] at h1
   dsimp only [Option.bind] at h1
   refine hc ρ1 σ1 S1 H1 _ b r1.toRl qc fun S2 H2 z2=>?_
   have r2:=r1.ext z2
   cases b with
   | false=>
    rw [if_neg (by decide)] at h1
    cases h1
    exact Dz (k σ1 S2 H2 r2 (s1.trans z2.sh))
   | true=>
    rw [if_pos rfl] at h1
    refine DY ⟨fun σ' H'=>∃ ρ' S',RlA K A Λ ρ' σ' S' H' /\ Same S S' /\ cE c m n ρ' = some o,fun σ' H' a=>⟨n,Nat.lt_succ_self _,a⟩,?_⟩
    cases qm:m ρ1 with
    | none=>rw [qm] at h1;cases h1
    | some om=>
     rw [qm] at h1
     refine hb A Λ ρ1 σ1 S2 H2 _ om r2 qm ?_
     cases om with
     | nx ρ4=>exact fun σ4 S4 H4 r4 s4=>⟨ρ4,S4,r4,(s1.trans z2.sh).trans s4,h1⟩
     | ct ρ4=>exact fun σ4 S4 H4 r4 s4=>⟨ρ4,S4,r4,(s1.trans z2.sh).trans s4,h1⟩
     | bk ρ4=>cases h1;exact fun σ4 S4 H4 r4 s4=>k σ4 S4 H4 r4 ((s1.trans z2.sh).trans s4)
     | rt d4=>cases h1;exact fun v S4 H4 s4=>k v S4 H4 ((s1.trans z2.sh).trans s4)
     | ro d4=>cases h1;exact fun v fp S4 H4 s4=>k v fp S4 H4 ((s1.trans z2.sh).trans s4)
@[simp] def yK (js:List (Option Nat)) (ρ:Env):Env:=js.map fun o=>match o with | none=>.un | some j=>match ρ[j]? with | some (.sh d)=>.sh d | _=>.un
def b7 (g:XG) (c:XT) (e:XE) (ρ0:Env):List D -> Option (List D)
 | []=>some []
 | d :: l=>(g d ρ0).bind fun ρ1=>(c ρ1).bind fun b=>if b = true then (e ρ1).bind fun y=>(b7 g c e ρ0 l).map fun r=>y :: r else b7 g c e ρ0 l
@[simp] def dQ (js:List (Option Nat)) (w:XA) (g:XG) (c:XT) (e:XE):XA:=fun ρ=>(w ρ).bind fun l=>if l.length <= LIM then b7 g c e (yK js ρ) l else none
@[simp] def dW:XT:=fun _=>some true
theorem KT:ST K Hu dW:=fun ρ σ S H Q b r x k=>by cases x;exact k S H (Ext.refl r.sub)
theorem pZ {js:List (Option Nat)} {ρ:Env} {i:Nat} {s:Sl} (h:(yK js ρ)[i]? = some s):s = .un \/ ∃ d j,s = .sh d /\ js[i]? = some (some j) /\ ρ[j]? = some (.sh d):=by
 unfold yK at h
 rw [List.getElem?_map] at h
 cases q:js[i]? with
 | none=>rw [q] at h;cases h
 | some o=>
  rw [q] at h
  cases o with
  | none=>cases h;exact .inl rfl
  | some j=>
   simp only [Option.map_some] at h
   cases q2:ρ[j]? with
   | none=>rw [q2] at h;cases h;exact .inl rfl
   | some s2=>
    rw [q2] at h
    cases s2 with
    | un=>cases h;exact .inl rfl
    | lo=>cases h;exact .inl rfl
    | ow l=>cases h;exact .inl rfl
    | sh d=>cases h;exact .inr ⟨d,j,rfl,rfl,q2⟩
def ny (S H:Hp):Hp:=fun b=>match S b with | none=>H b | some _=>none
theorem xj {S H:Hp}:Same (ny S H) H:=fun b o h=>by
 unfold ny at h
 cases q:S b with
 | none=>rw [q] at h;exact h
 | some _=>rw [q] at h;cases h
theorem wN {S H:Hp} (b:Addr):S b = none \/ ny S H b = none:=by
 unfold ny
 cases q:S b with
 | none=>exact .inl rfl
 | some _=>exact .inr rfl
theorem zn {S H:Hp} {b:Addr} {o:HO} (h:H b = some o) (n:S b = none):ny S H b = some o:=by
 unfold ny
 rw [n]
 exact h
theorem Je {ρ:Env} {σ:St} (r:Rl K ρ σ S H) (js:List (Option Nat)):RlA K (ny S H) (fun _=>none) (yK js ρ) (inn js σ) S H:=by
 refine ⟨fun _=>[],?_⟩
 exact {
  len:=by unfold yK inn;rw [List.length_map,List.length_map]
  sub:=r.sub
  sh:=fun i d h=>by
   rcases pZ h with e | ⟨d',j,e,h1,h2⟩
   ·cases e
   ·cases e
    obtain ⟨v,k1,k2⟩:=r.sh j d h2
    refine ⟨v,?_,k2⟩
    unfold inn
    rw [List.getElem?_map,h1]
    show some ((σ[j]?).join) = some (some v)
    rw [k1]
    rfl
  ow:=fun i o h=>by
   rcases pZ h with e | ⟨d',j,e,h1,h2⟩
   ·cases e
   ·cases e
  dj:=fun i j o o' _ h=>by
   rcases pZ h with e | ⟨d',j,e,h1,h2⟩
   ·cases e
   ·cases e
  lo:=fun i h=>by
   rcases pZ h with e | ⟨d',j,e,h1,h2⟩
   ·cases e
   ·cases e
  asub:=xj
  adis:=wN }
theorem JE {js:List (Option Nat)} {wi:TI} {g:TG} {tt:TIf} {te:TE} {w:XA} {x:XG} {c:XT} {e:XE} (hi:SIP K wi w) (hg:SG K g x) (hc:ST K tt c) (he:SE K te e):SF K (CD js wi g tt te) (dQ js w x c e):=fun ρ σ S H Q l r y k=>by
 unfold dQ at y
 cases q:w ρ with
 | none=>rw [q] at y;cases y
 | some ds=>
  rw [q] at y
  dsimp only [Option.bind] at y
  split at y
  ·rename_i hlim
   refine hi ρ σ S H _ ds r q fun J S1 H1 z1 wk D hD=>?_
   have r1:=r.ext z1
   have hD0:H D = none:=(z1.same r.sub).free hD
   -- the word: what is told so far,what is still to be told
   refine ⟨fun i n H'=>n = ds.length - i /\ i <= ds.length /\ ∃ S' done ys rest,Ext S1 H1 S' H' /\ Same S1 S' /\ H' D = some (.lst ys) /\ S' D = none /\ Dens K S' done ys /\ done.length <= i /\ b7 x c e (yK js ρ) (ds.drop i) = some rest /\ l = done ++ rest,
    ⟨_,rfl,Nat.zero_le _,S1,[],[],l,Ext.own z1.sub hD,Same.refl _,a8,z1.sub.free hD,.nil,Nat.zero_le _,y,rfl⟩,?_⟩
   rintro i n H2 ⟨rfl,hil,S2,done,ys,rest,z2,s2,hy,hSD,dy,hdl,y2,rfl⟩
   obtain ⟨w1,w2⟩:=wk S2 H2 z2
   cases qd:ds[i]? with
   | none=>
    have:ds.length = i:=by have:=List.getElem?_eq_none_iff.mp qd;lia
    subst this
    rw [List.drop_of_length_le (Nat.le_refl _)] at y2
    cases y2
    rw [List.append_nil] at k
    exact .inl ⟨w2,k D ys S2 H2 (z1.trans z2) hD0 hSD hy dy⟩
   | some d=>
    obtain ⟨g1,g2⟩:=w1 i d qd
    have hlt:=(List.getElem?_eq_some_iff.mp qd).1
    rw [Af qd] at y2
    unfold b7 at y2
    cases qx:x d (yK js ρ) with
    | none=>rw [qx] at y2;cases y2
    | some ρ3=>
     rw [qx] at y2
     dsimp only [Option.bind] at y2
     refine .inr ⟨g1,fun xv H3 hyl=>?_⟩
     obtain ⟨rfl,dx⟩:=g2 xv H3 hyl
     have ri:=Je (r1.ext z2) js
     refine hg _ _ _ _ S2 H3 xv d _ ρ3 ri dx qx fun σ3 r3=>?_
     cases qc:c ρ3 with
     | none=>rw [qc] at y2;cases y2
     | some b=>
      rw [qc] at y2
      dsimp only at y2
      refine hc ρ3 σ3 S2 H3 _ b r3.toRl qc fun S4 H4 z4=>?_
      obtain ⟨al1,al2⟩:=z4.al D _ hy hSD
      cases b with
      | false=>
       rw [if_neg (by decide)] at y2
       exact Dz ⟨_,by lia,rfl,hlt,S4,done,ys,rest,z2.trans z4,s2.trans z4.sh,al1,al2,dy.mono z4.sh,by lia,y2,rfl⟩
      | true=>
       rw [if_pos rfl] at y2
       cases qe:e ρ3 with
       | none=>rw [qe] at y2;cases y2
       | some dv=>
        rw [qe] at y2
        dsimp only at y2
        cases qr:b7 x c e (yK js ρ) (ds.drop (i + 1)) with
        | none=>rw [qr] at y2;cases y2
        | some rest2=>
         rw [qr] at y2
         cases y2
         refine DY (he ρ3 σ3 S4 H4 _ dv (r3.toRl.ext z4) qe fun v S5 H5 z5 d5=>?_)
         obtain ⟨b1,b2⟩:=z5.al D _ al1 al2
         refine ⟨ys,b1,?_,_,by lia,rfl,hlt,S5,done ++ [dv],ys ++ [v],rest2,?_,(s2.trans z4.sh).trans z5.sh,a8,b2,((dy.mono z4.sh).mono z5.sh).append (.cons d5 .nil),by rw [List.length_append,List.length_singleton];lia,qr,by rw [List.append_assoc];rfl⟩
         ·rw [<- dy.length]
          exact Nat.lt_of_lt_of_le (Nat.lt_of_le_of_lt hdl hlt) (Nat.le_trans hlim (Nat.le_of_lt kQ))
         ·have z6:=(z2.trans z4).trans z5
          exact ⟨z6.sh,fun b u hb=>by rw [a7 fun z=>by subst z;rw [b2] at hb;cases hb];exact z6.sub b u hb,fun b o hb hn=>by
           obtain ⟨c1,c2⟩:=z6.al b o hb hn
           exact ⟨by rw [a7 fun z=>by subst z;rw [hD] at hb;cases hb];exact c1,c2⟩⟩
  ·cases y
@[simp] def MU (i:Nat) (g:XG) (m:XS):XS:=fun ρ=>match ρ[i]? with
 | some (.ow (.lst os))=>(match shs os with
  | some l=>(match hV g m l (ρ.set i .lo) with
   | some (.nx ρ')=>(match ρ'[i]? with | some .lo=>some (.nx (ρ'.set i (.ow (.lst os)))) | _=>none)
   | some (.rt d)=>some (.rt d)
   | _=>none)
  | none=>none)
 | _=>none
def fnO (n:Nat) (x:XS) (ds:List D):Option O:=match x (ds.map .sh ++ List.replicate (n - ds.length) .un) with
 | some (.rt d)=>some (.sh d)
 | some (.ro o)=>some o
 | some (.nx _)=>some (.sh .non)
 | _=>none
theorem EN {N:List Str} {ds:List D} {vs:List V} (s:Same S H) (h:Dens K S ds vs):RlA K (ny S H) (fun _=>none) (ds.map .sh ++ List.replicate (N.length - ds.length) .un) (L2.bd N vs) S H:=by
 have hl:=h.length
 have key:∀ (i:Nat) t,(ds.map Sl.sh ++ List.replicate (N.length - ds.length) .un)[i]? = some t -> t = .un \/ ∃ d v,t = .sh d /\ (L2.bd N vs)[i]? = some (some v) /\ Den K S d v:=fun i t ht=>by
  by_cases hi:i < ds.length
  ·rw [List.getElem?_append_left (by rw [List.length_map];exact hi),List.getElem?_map] at ht
   cases q:ds[i]? with
   | none=>rw [q] at ht;cases ht
   | some d=>
    rw [q] at ht
    cases ht
    obtain ⟨v,e1,e2⟩:=h.get q
    refine .inr ⟨d,v,rfl,?_,e2⟩
    unfold L2.bd
    rw [List.getElem?_append_left (by rw [List.length_map];lia),List.getElem?_map,e1]
    rfl
  ·rw [List.getElem?_append_right (by rw [List.length_map];lia),List.getElem?_replicate] at ht
   split at ht
   ·cases ht;exact .inl rfl
   ·cases ht
 refine ⟨fun _=>[],?_⟩
 exact {
  len:=by unfold L2.bd;rw [List.length_append,List.length_append,List.length_map,List.length_map,List.length_replicate,List.length_replicate,hl]
  sub:=s
  sh:=fun i d hi=>by
   rcases key i _ hi with e | ⟨d',v,e,h1,h2⟩
   ·cases e
   ·cases e;exact ⟨v,h1,h2⟩
  ow:=fun i o hi=>by
   rcases key i _ hi with e | ⟨d',v,e,h1,h2⟩
   ·cases e
   ·cases e
  dj:=fun i j o o' _ hi=>by
   rcases key i _ hi with e | ⟨d',v,e,h1,h2⟩
   ·cases e
   ·cases e
  lo:=fun i hi=>by
   rcases key i _ hi with e | ⟨d',v,e,h1,h2⟩
   ·cases e
   ·cases e
  asub:=xj
  adis:=wN }
theorem KH {t:TS} {x:XS} {N:List Str} {n k:Nat} {vs:List V} {H:Hp} {Q:VK} {E:XK} (hs:SS K t x) (hN:N.length = n) (h:c7 K k (fnO n x) vs H Q E) :
  t { nx:=fun _ H'=>Q .non H',rt:=Q } (L2.bd N vs) H:=by
 obtain ⟨_,S,ds,d,s,dd,y,q⟩:=h
 subst hN
 unfold fnO at y
 have r:=EN (N:=N) s dd
 have ex:∀ {S' H':Hp},Same S S' -> Same S' H' -> Same (ny S H) H' -> (∀ b,S' b = none \/ ny S H b = none) -> Ext S H S' H':=fun s1 s2 s3 s4=>⟨s1,s2,fun b o hb hn=>by
  have ha:=zn hb hn
  refine ⟨s3 b o ha,?_⟩
  rcases s4 b with z | z
  ·exact z
  ·rw [ha] at z;cases z⟩
 cases qx:x (ds.map .sh ++ List.replicate (N.length - ds.length) .un) with
 | none=>rw [qx] at y;cases y
 | some o=>
  rw [qx] at y
  refine hs _ _ _ _ S H _ o r qx ?_
  cases o with
  | rt d'=>
   cases y
   exact fun v S' H' s1 s2 s3 s4 dv=>q v [] S' H' (ex s1 s2 s3 s4) (own_sh.mpr ⟨rfl,dv⟩) .nil fun b hb=>by cases hb
  | ro o'=>
   cases y
   refine fun v fp S' H' s1 s2 s3 s4 ow nd n=>q v fp S' H' (ex s1 s2 s3 s4) ow nd fun b hb=>⟨?_,(n b hb).1⟩
   cases qb:H b with
   | none=>rfl
   | some u=>
    have:=zn qb (s1.free (n b hb).1)
    rw [(n b hb).2] at this;cases this
  | nx ρ'=>
   cases y
   exact fun σ' S' H' r' s1=>q .non [] S' H' (ex s1 r'.sub r'.asub r'.adis) (own_sh.mpr ⟨rfl,den_non.mpr rfl⟩) .nil fun b hb=>by cases hb
  | bk ρ'=>cases y
  | ct ρ'=>cases y
end
def dI (f:Int -> Int -> Option D):D -> D -> Option D
 | .int i,.int j=>f i j
 | _,_=>none
def mS:D -> D -> Option D:=dI fun i j=>ifC ((-18446744073709551616 < i /\ i < 18446744073709551616) \/ (-18446744073709551616 < j /\ j < 18446744073709551616)) (some (.int (i * j))) none
def yL:D -> D -> Option D:=dI fun i j=>ifC (0 < j /\ j < 1073741824) (some (.int (i / j))) none
def fV:D -> D -> Option D:=dI fun i j=>ifC (0 < j) (some (.int (i % j))) none
def vd:D -> D -> Option D:=dI fun i j=>ifC (0 <= j /\ j <= 1000000 /\ i.natAbs < 18446744073709551616) (some (.int (i ^ j.toNat))) none
def kq:D -> D -> Option D:=dI fun i j=>some (.int (i - j))
def dLt:D -> D -> Option D:=dI fun i j=>some (.bl (decide (i < j)))
def dLe:D -> D -> Option D:=dI fun i j=>some (.bl (decide (i <= j)))
def dGt:D -> D -> Option D:=dI fun i j=>some (.bl (decide (j < i)))
def dGe:D -> D -> Option D:=dI fun i j=>some (.bl (decide (j <= i)))
def fc:D -> Option D
 | .int i=>some (.int (-i))
 | _=>none
section
variable {K:W.Frag}
theorem r_i {C:Int -> Int -> Prop} {g:Int -> Int -> V} {f:Int -> Int -> Option D} (h:∀ i j d,f i j = some d -> C i j /\ qL d = some (g i j)):SR2 K (rI C g) (dI f):=fun S H x y d e z Q s dx dy q k=>by
 cases d <;> cases e <;> try cases q
 rename_i i j
 obtain ⟨h1,h2⟩:=h i j z q
 exact ⟨i,j,dx.int,dy.int,h1,k _ S H (Ext.refl s) (pB h2)⟩
theorem FK {g:Int -> Int -> V} {f:Int -> Int -> Option D} (h:∀ i j d,f i j = some d -> qL d = some (g i j)):SR2 K (rI0 g) (dI f):=fun S H x y d e z Q s dx dy q k=>by
 cases d <;> cases e <;> try cases q
 rename_i i j
 exact ⟨i,j,dx.int,dy.int,k _ S H (Ext.refl s) (pB (h i j z q))⟩
theorem K6:SR2 K (rI CMul fun i j=>.int (i * j)) mS:=r_i fun i j d h=>by
 obtain ⟨c,rfl⟩:=ko h
 refine ⟨?_,rfl⟩
 unfold CMul
 have:(2:Int) ^ 64 = 18446744073709551616:=by decide
 rw [this]
 exact c
theorem J8:SR2 K (rI J5 fun i j=>.int (i / j)) yL:=r_i fun i j d h=>by
 obtain ⟨c,rfl⟩:=ko h
 exact ⟨c,rfl⟩
theorem KE:SR2 K (rI (fun _ j=>0 < j) fun i j=>.int (i % j)) fV:=r_i fun i j d h=>by
 obtain ⟨c,rfl⟩:=ko h
 exact ⟨c,rfl⟩
theorem Kw:SR2 K (rI Ju fun i j=>.int (i ^ j.toNat)) vd:=r_i fun i j d h=>by
 obtain ⟨c,rfl⟩:=ko h
 refine ⟨?_,rfl⟩
 unfold Ju
 have:(2:Nat) ^ 64 = 18446744073709551616:=by decide
 rw [this]
 exact c
theorem Lh:SR2 K (rI0 fun i j=>.int (i - j)) kq:=FK fun i j d h=>by cases h;rfl
theorem JD:SR2 K (rI0 fun i j=>.bl (decide (i < j))) dLt:=FK fun i j d h=>by cases h;rfl
theorem LH:SR2 K (rI0 fun i j=>.bl (decide (i <= j))) dLe:=FK fun i j d h=>by cases h;rfl
theorem Mg:SR2 K (rI0 fun i j=>.bl (decide (j < i))) dGt:=FK fun i j d h=>by cases h;rfl
theorem Av:SR1 K (rU fun i=>.int (-i)) fc:=fun S H x d g Q s dx q k=>by
 cases d <;> try cases q
 rename_i i
 exact ⟨i,dx.int,k _ S H (Ext.refl s) (den_int.mpr rfl)⟩
end
def HD:R2:=fun x y H Q=>∃ l b xs zs,x = .ref l /\ y = .ref b /\ Rd H l (.lst xs) /\ Rd H b (.lst zs) /\ xs.length + zs.length <= sizeLine /\ ∀ p,H p = none -> Q (.ref p) (upd H p (.lst (xs ++ zs)))
def Hs (K:W.Frag):R2:=fun x y H Q=>∃ a b xs ys,x = .ref a /\ y = .ref b /\ SqT K H a xs /\ SqT K H b ys /\ xs.length + ys.length <= sizeLine /\
 (ys = [] -> Q (.ref a) H) /\ (xs = [] -> Q (.ref b) H) /\ ∀ p,H p = none -> Q (.ref p) (upd H p (.tup (xs ++ ys)))
def HE:R2:=fun x y H Q=>∃ i j,x = .str i /\ y = .str j /\ i.length + j.length <= sizeLine /\ Q (.str (i ++ j)) H
def HG (K:W.Frag):R2:=fun x y H Q=>(∃ i j,x = .int i /\ y = .int j /\ Q (.int (i + j)) H) \/ HD x y H Q \/ Hs K x y H Q \/ HE x y H Q
def bK:D -> D -> Option D
 | .int i,.int j=>some (.int (i + j))
 | .lst a,.lst b=>if a.length + b.length <= LIM then some (.lst (a ++ b)) else none
 | .tup a,.tup b=>if a.length + b.length <= LIM then some (.tup (a ++ b)) else none
 | .str a,.str b=>if a.length + b.length <= LIM then some (.str (a ++ b)) else none
 | _,_=>none
section
variable {K:W.Frag}
theorem Dens.nil_iff {S:Hp} {ds:List D} {xs:List V} (h:Dens K S ds xs):xs = [] ↔ ds = []:=by
 have:=h.length
 cases ds <;> cases xs <;> simp_all
theorem ug {n:Nat} (h:n <= LIM):n <= sizeLine:=Nat.le_of_lt (Nat.lt_of_le_of_lt h kQ)
theorem Hx:SR2 K (HG K) bK:=fun S H x y d e z Q s dx dy q k=>by
 cases d <;> cases e <;> try (cases q;done)
 ·rename_i i j
  cases q
  exact .inl ⟨i,j,dx.int,dy.int,k _ S H (Ext.refl s) (den_int.mpr rfl)⟩
 ·rename_i i j
  have q':(if i.length + j.length <= LIM then some (D.str (i ++ j)) else none) = some z:=q
  split at q'
  ·rename_i hl
   cases q'
   exact .inr (.inr (.inr ⟨i,j,dx.str,dy.str,ug hl,k _ S H (Ext.refl s) (den_str.mpr rfl)⟩))
  ·cases q'
 ·rename_i a b
  have q':(if a.length + b.length <= LIM then some (D.lst (a ++ b)) else none) = some z:=q
  split at q'
  ·rename_i hl
   cases q'
   obtain ⟨p,xs,rfl,h1,h2⟩:=dx.lst s
   obtain ⟨p',ys,rfl,h3,h4⟩:=dy.lst s
   refine .inr (.inl ⟨p,p',xs,ys,rfl,rfl,h1,h3,by rw [<- h2.length,<- h4.length];exact ug hl,fun q hq=>?_⟩)
   have z:=Ext.new (o:=.lst (xs ++ ys)) s hq
   exact k _ _ _ z (den_lst.mpr ⟨q,_,rfl,.inl a8,(h2.append h4).mono z.sh⟩)
  ·cases q'
 ·rename_i a b
  have q':(if a.length + b.length <= LIM then some (D.tup (a ++ b)) else none) = some z:=q
  split at q'
  ·rename_i hl
   cases q'
   obtain ⟨p,xs,e1,h1,h2⟩:=dx.tup s
   obtain ⟨p',ys,e2,h3,h4⟩:=dy.tup s
   have dx':Den K S (.tup a) x:=dx.elim id fun ⟨_,_,_,e,_⟩=>by cases e
   have dy':Den K S (.tup b) y:=dy.elim id fun ⟨_,_,_,e,_⟩=>by cases e
   subst e1 e2
   refine .inr (.inr (.inl ⟨p,p',xs,ys,rfl,rfl,h1,h3,by rw [<- h2.length,<- h4.length];exact ug hl,fun e=>?_,fun e=>?_,fun q hq=>?_⟩))
   ·have:=h4.nil_iff.mp e
    subst this
    exact k _ S H (Ext.refl s) (by rw [List.append_nil];exact dx')
   ·have:=h2.nil_iff.mp e
    subst this
    exact k _ S H (Ext.refl s) (by rw [List.nil_append];exact dy')
   ·have z:=Ext.new (o:=.tup (xs ++ ys)) s hq
    exact k _ _ _ z (den_tup.mpr ⟨q,_,rfl,TpA.of a8,(h2.append h4).mono z.sh⟩)
  ·cases q'
end
mutual
def eqD:D -> D -> Bool
 | .non,.non=>true
 | .bl a,.bl b=>a == b
 | .bl a,.int j=>(if a then 1 else 0) == j
 | .int i,.bl b=>i == (if b then 1 else 0)
 | .int i,.int j=>i == j
 | .str x,.str y=>x == y
 | .lst a,.lst b=>eqDs a b
 | .tup a,.tup b=>eqDs a b
 | _,_=>false
def eqDs:List D -> List D -> Bool
 | [],[]=>true
 | x :: xs,y :: ys=>eqD x y && eqDs xs ys
 | _,_=>false
end
mutual
def okD:Nat -> D -> Bool
 | _,.non=>true
 | _,.bl _=>true
 | _,.int _=>true
 | _,.str x=>PyData.strOk x
 | n + 1,.lst l=>okDs n l
 | n + 1,.tup l=>okDs n l
 | _,_=>false
def okDs:Nat -> List D -> Bool
 | _,[]=>true
 | n,d :: l=>okD n d && okDs n l
end
def Jg (K:W.Frag) (neg:Bool):R2:=fun x y H Q=>∃ S d e,Same S H /\ DenP K S H d x /\ DenP K S H e y /\ okD 50 d = true /\ okD 50 e = true /\ Q (.bl (if neg then !eqD d e else eqD d e)) H
def dEq (neg:Bool) (d e:D):Option D:=if okD 50 d = true /\ okD 50 e = true then some (.bl (if neg then !eqD d e else eqD d e)) else none
section
variable {K:W.Frag}
theorem K8 (neg:Bool):SR2 K (Jg K neg) (dEq neg):=fun S H x y d e z Q s dx dy q k=>by
 unfold dEq at q
 split at q
 ·rename_i c
  cases q
  exact ⟨S,d,e,s,dx,dy,c.1,c.2,k _ S H (Ext.refl s) (den_bl.mpr rfl)⟩
 ·cases q
end
def ui:D -> Bool
 | .non=>true | _=>false
def L6 (neg:Bool) (d e:D):Option D:=match e with | .non=>some (.bl (if neg then !ui d else ui d)) | _=>none
section
variable {K:W.Frag}
end
def dIx:D -> D -> Option D
 | .lst l,.int i=>atI l i
 | .tup l,.int i=>atI l i
 | .scr l,.int i=>atI l i
 | .str x,.int i=>if x.length <= LIM then (atI x.cps.toList i).map fun c=>.str ⟨#[c]⟩ else none
 | _,_=>none
section
variable {K:W.Frag}
theorem vf {S:Hp} {ds:List D} {xs:List V} {i:Int} {d:D} (h:Dens K S ds xs) (e:atI ds i = some d):∃ v,atI xs i = some v /\ Den K S d v:=by
 unfold atI at e ⊢
 rw [<- h.length]
 cases q:ixN ds.length i with
 | none=>rw [q] at e;cases e
 | some j=>
  rw [q] at e
  exact h.get e
theorem Mc:SR2 K (rIx K) dIx:=fun S H x y d e z Q s dx dy q k=>by
 cases d <;> cases e <;> try (cases q;done)
 ·rename_i x' i
  have q':(if x'.length <= LIM then (atI x'.cps.toList i).map fun c=>D.str ⟨#[c]⟩ else none) = some z:=q
  split at q'
  ·rename_i hl
   cases qc:atI x'.cps.toList i with
   | none=>rw [qc] at q';cases q'
   | some c=>
    rw [qc] at q'
    cases q'
    exact .inr (.inr ⟨x',i,c,dx.str,dy.int,ug hl,qc,k _ S H (Ext.refl s) (den_str.mpr rfl)⟩)
  ·cases q'
 ·rename_i l i
  obtain ⟨p,xs,rfl,h1,h2⟩:=dx.lst s
  obtain ⟨v,h3,h4⟩:=vf h2 q
  exact .inl ⟨p,xs,i,v,rfl,dy.int,.inl h1,h3,k v S H (Ext.refl s) h4⟩
 ·rename_i l i
  obtain ⟨p,xs,rfl,h1,h2⟩:=dx.tup s
  obtain ⟨v,h3,h4⟩:=vf h2 q
  exact .inr (.inl ⟨p,xs,i,v,rfl,dy.int,h1,h3,k v S H (Ext.refl s) h4⟩)
 ·rename_i l i
  obtain ⟨p,xs,rfl,h1,h2⟩:=dx.scr s
  obtain ⟨v,h3,h4⟩:=vf h2 q
  exact .inl ⟨p,xs,i,v,rfl,dy.int,h1,h3,k v S H (Ext.refl s) h4⟩
end
def jO {α:Type} (xs:List α) (lo hi:Option Int):List α:=(xs.drop (HT.sIx xs.length 0 lo)).take (HT.sIx xs.length xs.length hi - HT.sIx xs.length 0 lo)
def KP (K:W.Frag):V -> Option Int -> Option Int -> Hp -> VK -> Prop:=fun x lo hi H Q=>Kd K x lo hi H Q \/
 ∃ a xs,x = .ref a /\ SqT K H a xs /\ (oo xs lo hi = xs -> Q (.ref a) H) /\ ∀ p,H p = none -> Q (.ref p) (upd H p (.tup (oo xs lo hi)))
abbrev XO:=Env -> Option (Option Int)
def SO (K:W.Frag) (t:TO) (o:XO):Prop:=∀ ρ σ S H (Q:Option Int -> Hp -> Prop) i,Rl K ρ σ S H -> o ρ = some i -> (∀ S' H',Ext S H S' H' -> Q i H') -> t σ H Q
@[simp] def xT:XO:=fun _=>some none
@[simp] def wW (a:XE):XO:=fun ρ=>(a ρ).bind fun d=>match d with | .int i=>some (some i) | _=>none
section
variable {K:W.Frag}
theorem FX:SO K Cf xT:=fun ρ σ S H Q i r x k=>by cases x;exact k S H (Ext.refl r.sub)
theorem JL {ta:TE} {a:XE} (h:SPk K ta a):SO K (Hw ta) (wW a):=fun ρ σ S H Q i r x k=>by
 unfold wW at x
 cases q:a ρ with
 | none=>rw [q] at x;cases x
 | some d=>
  rw [q] at x
  dsimp only [Option.bind] at x
  cases d <;> try (cases x;done)
  rename_i j
  cases x
  exact h ρ σ S H _ _ r q fun v S1 H1 z1 d1=>⟨j,d1.int,k S1 H1 z1⟩
theorem o7 {S:Hp} {ds:List D} {xs:List V} (h:Dens K S ds xs) (lo hi:Option Int):Dens K S (jO ds lo hi) (oo xs lo hi):=by
 unfold jO oo
 rw [h.length]
 exact (h.drop _).take _
def dSl (d:D) (lo hi:Option Int):Option D:=match d with
 | .lst l=>some (.lst (jO l lo hi))
 | .tup l=>some (.tup (jO l lo hi))
 | .scr l=>some (.lst (jO l lo hi))
 | _=>none
@[simp] def xSl (a:XE) (lo hi:XO):XE:=fun ρ=>(a ρ).bind fun d=>(lo ρ).bind fun l=>(hi ρ).bind fun h=>dSl d l h
theorem Mf {te:TE} {tl th:TO} {a:XE} {lo hi:XO} (ha:SPk K te a) (hl:SO K tl lo) (hh:SO K th hi):SE K (tSl (KP K) te tl th) (xSl a lo hi):=fun ρ σ S H Q g r x k=>by
 unfold xSl at x
 cases q:a ρ with
 | none=>rw [q] at x;cases x
 | some d=>
  rw [q] at x
  dsimp only [Option.bind] at x
  cases ql:lo ρ with
  | none=>rw [ql] at x;cases x
  | some l=>
   rw [ql] at x
   dsimp only at x
   cases qh:hi ρ with
   | none=>rw [qh] at x;cases x
   | some h=>
    rw [qh] at x
    dsimp only at x
    refine ha ρ σ S H _ d r q fun v S1 H1 z1 d1=>?_
    have r1:=r.ext z1
    refine hl ρ σ S1 H1 _ l r1 ql fun S2 H2 z2=>?_
    have r2:=r1.ext z2
    refine hh ρ σ S2 H2 _ h r2 qh fun S3 H3 z3=>?_
    have z23:=z2.trans z3
    have d3:=d1.mono z23 r1.sub
    have s3:=(r2.ext z3).sub
    have z:=z1.trans z23
    cases d <;> try (cases x;done)
    ·cases x
     obtain ⟨p,xs,rfl,h1,h2⟩:=d3.lst s3
     refine .inl ⟨p,xs,rfl,.inl h1,fun p' hp=>?_⟩
     have z4:=Ext.new (o:=.lst (oo xs l h)) s3 hp
     exact k _ _ _ (z.trans z4) (den_lst.mpr ⟨p',_,rfl,.inl a8,(o7 h2 l h).mono z4.sh⟩)
    ·rename_i ds
     cases x
     have d3':Den K S3 (.tup ds) v:=d3.elim id fun ⟨_,_,_,e,_⟩=>by cases e
     obtain ⟨p,xs,e,h1,h2⟩:=d3.tup s3
     subst e
     refine .inr ⟨p,xs,rfl,h1,fun e=>k _ S3 H3 z ?_,fun p' hp=>?_⟩
     ·obtain ⟨p2,xs2,e2,h3,h4⟩:=den_tup.mp d3'
      cases e2
      have c:=o7 h2 l h
      rw [e] at c
      refine den_tup.mpr ⟨p,xs2,rfl,h3,?_⟩
      have hlen:=c.length
      have:jO ds l h = ds:=by
       have hl2:(jO ds l h).length = ds.length:=by rw [c.length,h2.length]
       unfold jO at hl2 ⊢
       rw [List.length_take,List.length_drop] at hl2
       have a0:HT.sIx ds.length 0 l = 0 \/ ds.length = 0:=by lia
       rcases a0 with a0 | a0
       ·rw [a0,List.drop_zero] at *
        exact List.take_of_length_le (by lia)
       ·have:ds = []:=List.length_eq_zero_iff.mp a0
        subst this
        simp
      rw [this]
      exact h4
     ·have z4:=Ext.new (o:=.tup (oo xs l h)) s3 hp
      exact k _ _ _ (z.trans z4) (den_tup.mpr ⟨p',_,rfl,TpA.of a8,(o7 h2 l h).mono z4.sh⟩)
    ·cases x
     obtain ⟨p,xs,rfl,h1,h2⟩:=d3.scr s3
     refine .inl ⟨p,xs,rfl,h1,fun p' hp=>?_⟩
     have z4:=Ext.new (o:=.lst (oo xs l h)) s3 hp
     exact k _ _ _ (z.trans z4) (den_lst.mpr ⟨p',_,rfl,.inl a8,(o7 h2 l h).mono z4.sh⟩)
def HB (K:W.Frag):List V -> Hp -> VK -> Prop:=fun xs H Q=>∃ x n,xs = [x] /\ JT K x H n /\ Q (.int n) H
def pd:List D -> Option D
 | [.lst l]=>some (.int l.length)
 | [.tup l]=>some (.int l.length)
 | [.scr l]=>some (.int l.length)
 | [.str x]=>if x.length <= LIM then some (.int x.length) else none
 | _=>none
theorem iV {S H:Hp} {d:D} {vs:List V} (h:DensP K S H [d] vs):∃ v,vs = [v] /\ DenP K S H d v:=by
 cases h with
 | cons a b=>cases b;exact ⟨_,rfl,a⟩
theorem EC {S H:Hp} {d e:D} {vs:List V} (h:DensP K S H [d,e] vs):∃ v w,vs = [v,w] /\ DenP K S H d v /\ DenP K S H e w:=by
 cases h with
 | cons a b=>cases b with
  | cons c b=>cases b;exact ⟨_,_,rfl,a,c⟩
theorem KQ:SRB K (HB K) pd:=fun S H vs ds g Q s d q k=>by
 unfold pd at q
 split at q
 ·rename_i l
  cases q
  obtain ⟨v,rfl,d1⟩:=iV d
  obtain ⟨p,xs,rfl,h1,h2⟩:=d1.lst s
  exact ⟨_,xs.length,rfl,.inl ⟨xs,.inl h1,rfl⟩,k _ S H (Ext.refl s) (den_int.mpr (by rw [h2.length]))⟩
 ·rename_i l
  cases q
  obtain ⟨v,rfl,d1⟩:=iV d
  obtain ⟨p,xs,rfl,h1,h2⟩:=d1.tup s
  exact ⟨_,xs.length,rfl,.inr ⟨xs,h1,rfl⟩,k _ S H (Ext.refl s) (den_int.mpr (by rw [h2.length]))⟩
 ·rename_i l
  cases q
  obtain ⟨v,rfl,d1⟩:=iV d
  obtain ⟨p,xs,rfl,h1,h2⟩:=d1.scr s
  exact ⟨_,xs.length,rfl,.inl ⟨xs,h1,rfl⟩,k _ S H (Ext.refl s) (den_int.mpr (by rw [h2.length]))⟩
 ·rename_i x
  split at q
  ·rename_i hl
   cases q
   obtain ⟨v,rfl,d1⟩:=iV d
   exact ⟨_,x.length,rfl,by rw [d1.str];exact ⟨ug hl,rfl⟩,k _ S H (Ext.refl s) (den_int.mpr rfl)⟩
  ·cases q
 ·cases q
def eV:List D -> Option D
 | [.lst l]=>some (.tup l)
 | [.tup l]=>some (.tup l)
 | [.scr l]=>some (.tup l)
 | _=>none
theorem G0:SRB K (Jx K) eV:=fun S H vs ds g Q s d q k=>by
 unfold eV at q
 split at q
 ·rename_i l
  cases q
  obtain ⟨v,rfl,d1⟩:=iV d
  obtain ⟨p,xs,rfl,h1,h2⟩:=d1.lst s
  refine ⟨p,xs,rfl,.inl ⟨.inl h1,fun q hq=>?_⟩⟩
  have z:=Ext.new (o:=.tup xs) s hq
  exact k _ _ _ z (den_tup.mpr ⟨q,_,rfl,TpA.of a8,h2.mono z.sh⟩)
 ·rename_i l
  cases q
  obtain ⟨v,rfl,d1⟩:=iV d
  have d':Den K S (.tup l) v:=d1.elim id fun ⟨_,_,_,e,_⟩=>by cases e
  obtain ⟨p,xs,rfl,h1,h2⟩:=d1.tup s
  exact ⟨p,xs,rfl,.inr ⟨h1,k _ S H (Ext.refl s) d'⟩⟩
 ·rename_i l
  cases q
  obtain ⟨v,rfl,d1⟩:=iV d
  obtain ⟨p,xs,rfl,h1,h2⟩:=d1.scr s
  refine ⟨p,xs,rfl,.inl ⟨h1,fun q hq=>?_⟩⟩
  have z:=Ext.new (o:=.tup xs) s hq
  exact k _ _ _ z (den_tup.mpr ⟨q,_,rfl,TpA.of a8,h2.mono z.sh⟩)
 ·cases q
def EJ:List D -> Option (List D)
 | [.lst l]=>some l
 | [.tup l]=>some l
 | [.scr l]=>some l
 | _=>none
def wK:List D -> Option D
 | [.int i,.int j]=>some (.int (if j > i then j else i))
 | _=>none
def wo:List D -> Option D
 | [.int i,.int j]=>some (.int (if j < i then j else i))
 | _=>none
theorem HV:SRB K KS wK:=fun S H vs ds g Q s d q k=>by
 unfold wK at q
 split at q
 ·rename_i i j
  cases q
  obtain ⟨v,w,rfl,d1,d2⟩:=EC d
  exact ⟨i,j,by rw [d1.int,d2.int],k _ S H (Ext.refl s) (den_int.mpr rfl)⟩
 ·cases q
theorem I9:SRB K Li wo:=fun S H vs ds g Q s d q k=>by
 unfold wo at q
 split at q
 ·rename_i i j
  cases q
  obtain ⟨v,w,rfl,d1,d2⟩:=EC d
  exact ⟨i,j,by rw [d1.int,d2.int],k _ S H (Ext.refl s) (den_int.mpr rfl)⟩
 ·cases q
def bS:List D -> Option (List Int)
 | []=>some []
 | .int i :: l=>(bS l).map fun r=>i :: r
 | _=>none
theorem jX {S:Hp}:∀ {ds:List D} {xs:List V} {ns:List Int},Dens K S ds xs -> bS ds = some ns -> xs = ns.map V.int /\ ds = ns.map D.int
 | [],xs,ns,h,e=>by cases e;exact ⟨h.nil_of,rfl⟩
 | d :: ds,xs,ns,h,e=>by
  obtain ⟨y,ys,rfl,h1,h2⟩:=h.cons_of
  cases d <;> try (cases e;done)
  rename_i i
  have e':(bS ds).map (fun r=>i :: r) = some ns:=e
  cases q:bS ds with
  | none=>rw [q] at e';cases e'
  | some ms=>
   rw [q] at e'
   cases e'
   obtain ⟨k1,k2⟩:=jX h2 q
   rw [den_int.mp h1,k1]
   exact ⟨rfl,congrArg (D.int i :: ·) k2⟩
theorem jZ:∀ ns:List Int,bS (ns.map D.int) = some ns
 | []=>rfl
 | n :: ns=>by rw [List.map_cons,bS,jZ ns];rfl
def CJ:List D -> Option D
 | [.lst l]=>(bS l).map fun ns=>.int ns.sum
 | _=>none
theorem K7:SRB K (HF K) CJ:=fun S H vs ds g Q s d q k=>by
 unfold CJ at q
 split at q
 ·rename_i l
  cases qi:bS l with
  | none=>rw [qi] at q;cases q
  | some ns=>
   rw [qi] at q
   cases q
   obtain ⟨v,rfl,d1⟩:=iV d
   obtain ⟨p,xs,rfl,h1,h2⟩:=d1.lst s
   obtain ⟨e,_⟩:=jX h2 qi
   subst e
   exact ⟨p,ns,rfl,.inl h1,k _ S H (Ext.refl s) (den_int.mpr rfl)⟩
 ·cases q
def Lj:List D -> Option D
 | [.int i]=>some (.int i)
 | [.bl b]=>some (.int (if b then 1 else 0))
 | _=>none
@[simp] def M5 (a:XE):XA:=fun ρ=>(a ρ).bind fun d=>match d with | .lst l=>some l.reverse | _=>none
def tyD:D -> Option String
 | .non=>some "NoneType" | .bl _=>some "bool" | .int _=>some "int" | .str _=>some "str" | .lst _=>some "list" | .tup _=>some "tuple" | _=>none
def Mx (t T:String):Bool:=t == T || (t == "bool" && T == "int")
def L8:List String:=["bool", "int", "str", "list", "tuple"]
def Fm:List D -> Option D
 | [d,.ty T]=>if T ∈ L8 then (tyD d).map fun t=>.bl (Mx t T) else none
 | _=>none
end
def vB (k:List Int):D:=.tup (k.map D.int)
def Gs:D -> Option (List Int)
 | .tup l=>if l.isEmpty then none else bS l
 | _=>none
def keys:List D -> Option (List (List Int))
 | []=>some []
 | d :: l=>(Gs d).bind fun k=>(keys l).map fun r=>k :: r
theorem zQ:∀ a b:List Int,HT.cG a b = true -> HT.cG b a = false
 | [],[],h=>by cases h
 | [],_ :: _,_=>rfl
 | _ :: _,[],h=>by cases h
 | x :: a,y :: b,h=>by
  have h':(if x = y then HT.cG a b else decide (x < y)) = true:=h
  show (if y = x then HT.cG b a else decide (y < x)) = false
  by_cases e:x = y
  ·rw [if_pos e] at h';rw [if_pos e.symm];exact zQ a b h'
  ·rw [if_neg e] at h';rw [if_neg (fun z=>e z.symm)]
   have:=of_decide_eq_true h'
   exact decide_eq_false (by lia)
theorem wm:∀ a b:List Int,HT.cG a b = false -> HT.cG b a = false -> a = b
 | [],[],_,_=>rfl
 | [],_ :: _,h,_=>by cases h
 | _ :: _,[],_,h=>by cases h
 | x :: a,y :: b,h,k=>by
  have h':(if x = y then HT.cG a b else decide (x < y)) = false:=h
  have k':(if y = x then HT.cG b a else decide (y < x)) = false:=k
  by_cases e:x = y
  ·rw [if_pos e] at h';rw [if_pos e.symm] at k'
   rw [e,wm a b h' k']
  ·rw [if_neg e] at h';rw [if_neg (fun z=>e z.symm)] at k'
   have:=of_decide_eq_false h'
   have:=of_decide_eq_false k'
   lia
theorem wt:∀ a b c:List Int,HT.cG a b = false -> HT.cG b c = false -> HT.cG a c = false
 | [],[],_,_,k=>k
 | [],_ :: _,_,h,_=>by cases h
 | _ :: _,_,[],_,_=>rfl
 | _ :: _,[],_ :: _,_,k=>by cases k
 | x :: a,y :: b,z :: c,h,k=>by
  have h':(if x = y then HT.cG a b else decide (x < y)) = false:=h
  have k':(if y = z then HT.cG b c else decide (y < z)) = false:=k
  show (if x = z then HT.cG a c else decide (x < z)) = false
  by_cases e1:x = y
  ·rw [if_pos e1] at h'
   subst e1
   by_cases e2:x = z
   ·rw [if_pos e2] at k' ⊢;exact wt a b c h' k'
   ·rw [if_neg e2] at k' ⊢;exact k'
  ·rw [if_neg e1] at h'
   have g1:=of_decide_eq_false h'
   by_cases e2:y = z
   ·subst e2
    rw [if_neg e1];exact h'
   ·rw [if_neg e2] at k'
    have g2:=of_decide_eq_false k'
    rw [if_neg (by lia)]
    exact decide_eq_false (by lia)
def Dp (x:List Int):List (List Int) -> List (List Int)
 | []=>[x]
 | y :: l=>if HT.cG y x = true then y :: Dp x l else x :: y :: l
def ji (ks:List (List Int)):List (List Int):=ks.foldr Dp []
theorem xg (x:List Int) (l:List (List Int)):(Dp x l).Perm (x :: l):=by
 induction l with
 | nil=>exact .refl _
 | cons y l ih=>
  unfold Dp
  split
  ·exact (ih.cons y).trans (.swap x y l)
  ·exact .refl _
def rG (ns:List Int):List Int:=ns.mergeSort fun a b=>decide (a <= b)
theorem iT (ks:List (List Int)):(ji ks).Perm ks:=by
 induction ks with
 | nil=>exact .refl _
 | cons x l ih=>exact (xg x (ji l)).trans (ih.cons x)
theorem nT (ns:List Int):(rG ns).Perm ns:=List.mergeSort_perm _ _
theorem G6 (x:List Int) (l:List (List Int)) (h:l.Pairwise fun a b=>HT.cG b a = false):(Dp x l).Pairwise fun a b=>HT.cG b a = false:=by
 induction l with
 | nil=>exact .cons (fun _ z=>by cases z) .nil
 | cons y l ih=>
  have hy:∀ z,z ∈ l -> HT.cG z y = false:=fun z hz=>List.rel_of_pairwise_cons h hz
  unfold Dp
  cases q:HT.cG y x with
  | true=>
   refine .cons (fun z hz=>?_) (ih (List.Pairwise.of_cons h))
   rcases List.mem_cons.mp ((xg x l).mem_iff.mp hz) with rfl | hz
   ·exact zQ y _ q
   ·exact hy z hz
  | false=>
   refine .cons (fun z hz=>?_) h
   rcases List.mem_cons.mp hz with rfl | hz
   ·exact q
   ·exact wt z y x (hy z hz) q
theorem pk (ks:List (List Int)):(ji ks).Pairwise fun a b=>HT.cG b a = false:=by
 induction ks with
 | nil=>exact .nil
 | cons x l ih=>exact G6 x (ji l) ih
theorem Fa (ns:List Int):(rG ns).Pairwise (· <= ·):=by
 have h:=List.pairwise_mergeSort (le:=fun a b:Int=>decide (a <= b)) (fun a b c h k=>by
  have:=of_decide_eq_true h;have:=of_decide_eq_true k;exact decide_eq_true (by lia)) (fun a b=>by
  by_cases h:a <= b
  ·simp [h]
  ·simp [show b <= a by lia]) ns
 exact h.imp fun {a b} e=>of_decide_eq_true e
theorem AR {ks js:List (List Int)} (hp:js.Perm ks) (hw:js.Pairwise fun a b=>HT.cG b a = false):js = ji ks:=
 List.Perm.eq_of_pairwise (fun a b _ _ h k=>wm a b k h) hw (pk ks) (hp.trans (iT ks).symm)
theorem Bq {ns ms:List Int} (hp:ms.Perm ns) (hw:ms.Pairwise (· <= ·)):ms = rG ns:=
 List.Perm.eq_of_pairwise (fun a b _ _ h k=>by lia) hw (Fa ns) (hp.trans (nT ns).symm)
def EI (K:W.Frag):List V -> Hp -> VK -> Prop:=fun xs H Q=>∃ p,∃ yks:List (V × List Int),xs = [.ref p] /\ SqL K H p (yks.map (·.1)) /\ yks.length < 30000 /\ (∀ yk ∈ yks,∃ q,yk.1 = .ref q /\ SqT K H q (yk.2.map V.int) /\ yk.2 ≠ []) /\
 ∀ (zks:List (V × List Int)) l,zks.Perm yks -> zks.Pairwise (fun a b=>HT.cG b.2 a.2 = false) -> H l = none -> Q (.ref l) (upd H l (.lst (zks.map (·.1))))
def zY (K:W.Frag):List V -> Hp -> VK -> Prop:=fun xs H Q=>z8 K xs H Q \/ EI K xs H Q
def ic:List D -> Option (List D)
 | [.lst l]=>if l.length < 30000 then (match bS l with
  | some ns=>some ((rG ns).map D.int)
  | none=>(keys l).map fun ks=>(ji ks).map vB) else none
 | _=>none
section
variable {K:W.Frag}
theorem Gq {d:D} {k:List Int} (h:Gs d = some k):d = vB k /\ k ≠ []:=by
 cases d <;> try (cases h;done)
 rename_i l
 have h':(if l.isEmpty then none else bS l) = some k:=h
 split at h'
 ·cases h'
 ·rename_i hne
  have key:∀ (l:List D) (k:List Int),bS l = some k -> l = k.map D.int:=by
   intro l
   induction l with
   | nil=>intro k e;cases e;rfl
   | cons d l ih=>
    intro k e
    cases d <;> try (cases e;done)
    rename_i i
    have e':(bS l).map (fun r=>i :: r) = some k:=e
    cases q:bS l with
    | none=>rw [q] at e';cases e'
    | some m=>rw [q] at e';cases e';rw [ih m q];rfl
  have e:=key l k h'
  subst e
  exact ⟨rfl,fun z=>by subst z;exact hne rfl⟩
theorem Cd:∀ {l:List D} {ks:List (List Int)},keys l = some ks -> l = ks.map vB /\ ∀ k ∈ ks,k ≠ []
 | [],ks,h=>by cases h;exact ⟨rfl,fun _ h=>by cases h⟩
 | d :: l,ks,h=>by
  have h':((Gs d).bind fun k=>(keys l).map fun r=>k :: r) = some ks:=h
  cases q:Gs d with
  | none=>rw [q] at h';cases h'
  | some k=>
   rw [q] at h'
   dsimp only [Option.bind] at h'
   cases q2:keys l with
   | none=>rw [q2] at h';cases h'
   | some r=>
    rw [q2] at h'
    cases h'
    obtain ⟨a,b⟩:=Cd q2
    obtain ⟨c,d⟩:=Gq q
    refine ⟨by rw [List.map_cons,<- a,<- c],fun k hk=>?_⟩
    rcases List.mem_cons.mp hk with rfl | hk
    ·exact d
    ·exact b k hk
theorem vt:∀ {S:Hp} {k:List Int} {xs:List V},Dens K S (k.map D.int) xs -> xs = k.map V.int
 | S,[],xs,h=>h.nil_of
 | S,i :: k,xs,h=>by
  obtain ⟨y,ys,rfl,h1,h2⟩:=h.cons_of
  rw [den_int.mp h1,vt h2]
  rfl
theorem zB {S:Hp}:∀ {ks:List (List Int)} {xs:List V},Dens K S (ks.map vB) xs -> (xs.zip ks).map (·.1) = xs /\ (xs.zip ks).map (·.2) = ks /\ (xs.zip ks).length = ks.length /\ ∀ yk ∈ xs.zip ks,Den K S (vB yk.2) yk.1
 | [],xs,h=>by rw [h.nil_of];exact ⟨rfl,rfl,rfl,fun _ h=>by cases h⟩
 | k :: ks,xs,h=>by
  obtain ⟨y,ys,rfl,h1,h2⟩:=h.cons_of
  obtain ⟨a,b,c,d⟩:=zB h2
  refine ⟨by rw [List.zip_cons_cons,List.map_cons,a],by rw [List.zip_cons_cons,List.map_cons,b],by rw [List.zip_cons_cons,List.length_cons,c,List.length_cons],fun yk hm=>?_⟩
  rw [List.zip_cons_cons] at hm
  rcases List.mem_cons.mp hm with rfl | hm
  ·exact h1
  ·exact d yk hm
theorem nr {S:Hp}:∀ {zks:List (V × List Int)},(∀ yk ∈ zks,Den K S (vB yk.2) yk.1) -> Dens K S ((zks.map (·.2)).map vB) (zks.map (·.1))
 | [],_=>.nil
 | yk :: zks,h=>.cons (h yk List.mem_cons_self) (nr fun z hz=>h z (List.mem_cons_of_mem _ hz))
theorem FQ:SRF K (zY K) ic:=fun S H vs ds g Q s d q k=>by
 unfold ic at q
 split at q
 ·rename_i l
  split at q
  ·rename_i hl
   obtain ⟨v,rfl,d1⟩:=iV d
   obtain ⟨p,xs,rfl,h1,h2⟩:=d1.lst s
   cases qi:bS l with
   | some ns=>
    rw [qi] at q
    cases q
    obtain ⟨e1,e2⟩:=jX h2 qi
    subst e1 e2
    refine .inl ⟨p,ns,rfl,.inl h1,by rw [List.length_map] at hl;exact hl,fun ms a pm pw ha=>?_⟩
    rw [Bq pm pw]
    refine k a _ _ (Ext.own s ha) ha a8 ?_
    have key:∀ ns:List Int,Dens K S (ns.map D.int) (ns.map V.int):=by
     intro ns
     induction ns with
     | nil=>exact .nil
     | cons n ns ih=>exact .cons (den_int.mpr rfl) ih
    exact key _
   | none=>
    rw [qi] at q
    dsimp only at q
    cases qk:keys l with
    | none=>rw [qk] at q;cases q
    | some ks=>
     rw [qk] at q
     cases q
     obtain ⟨e1,e2⟩:=Cd qk
     subst e1
     obtain ⟨a,b,c,dd⟩:=zB h2
     refine .inr ⟨p,xs.zip ks,rfl,by rw [a];exact .inl h1,by rw [c];rw [List.length_map] at hl;exact hl,fun yk hm=>?_,fun zks l pm pw hl=>?_⟩
     ·obtain ⟨q,ys,e,g1,g2⟩:=iG (dd yk hm)
      have:=vt g2
      subst this
      refine ⟨q,e,ba s g1,e2 _ ?_⟩
      rw [<- b]
      exact List.mem_map.mpr ⟨yk,hm,rfl⟩
     ·have e:zks.map (·.2) = ji ks:=by
       refine AR ?_ ?_
       ·rw [<- b];exact pm.map _
       ·rw [List.pairwise_map];exact pw
      have dz:Dens K S ((zks.map (·.2)).map vB) (zks.map (·.1)):=nr fun yk hm=>dd yk (pm.mem_iff.mp hm)
      rw [e] at dz
      exact k l _ _ (Ext.own s hl) hl a8 dz
  ·cases q
 ·cases q
end
def wH:D -> D -> Option D:=dI fun i j=>some (.int (i + j))
section
variable {K:W.Frag}
theorem GO:SR2 K (ipI fun i j=>i + j) wH:=FK (g:=fun i j=>.int (i + j)) fun i j d h=>by cases h;rfl
end
theorem Jk {K:W.Frag} {ta:TE} {a:XE} (ha:SQ K ta a):ST K (LP K ta) (yf a):=fun ρ σ S H Q b r x k=>by
 unfold yf at x
 cases qa:a ρ with
 | none=>rw [qa] at x;cases x
 | some da=>
  rw [qa] at x
  exact ha ρ σ S H _ da r qa fun v S1 H1 z1 d1=>⟨b,Jz (Same.refl H1) (.inl d1) x,k S1 H1 z1⟩
theorem BC (g:XG) (m:XS) (d:D) (l:List D) (ρ:Env):hV g m (d :: l) ρ = (g d ρ).bind fun ρ1=>match m ρ1 with
  | some (.nx ρ2)=>hV g m l ρ2
  | some (.ct ρ2)=>hV g m l ρ2
  | some (.bk ρ2)=>some (.nx ρ2)
  | some (.rt d)=>some (.rt d)
  | some (.ro d)=>some (.ro d)
  | none=>none:=rfl
theorem v8 {α:Type} {g:XG} {m:XS} (enc:α -> D) (P:List α -> Env -> Prop) (R:D -> Prop) (B:Env -> Prop) (l:List α) (ρ0:Env) (h0:P [] ρ0)
  (step:∀ pre a post ρ,l = pre ++ a :: post -> P pre ρ -> ∃ ρ1 o,g (enc a) ρ = some ρ1 /\ m ρ1 = some o /\ (match o with | .nx ρ2=>P (pre ++ [a]) ρ2 | .ct ρ2=>P (pre ++ [a]) ρ2 | .bk ρ2=>B ρ2 | .rt d=>R d | .ro _=>False)) :
  ∃ o,hV g m (l.map enc) ρ0 = some o /\ (match o with | .nx ρ'=>P l ρ' \/ B ρ' | .rt d=>R d | _=>False):=by
 have key:∀ (post pre:List α) (ρ:Env),l = pre ++ post -> P pre ρ -> ∃ o,hV g m (post.map enc) ρ = some o /\ (match o with | .nx ρ'=>P l ρ' \/ B ρ' | .rt d=>R d | _=>False):=by
  intro post
  induction post with
  | nil=>
   intro pre ρ e p
   rw [List.append_nil] at e
   subst e
   exact ⟨_,rfl,.inl p⟩
  | cons a post ih=>
   intro pre ρ e p
   obtain ⟨ρ1,o,h1,h2,h3⟩:=step pre a post ρ e p
   rw [List.map_cons,BC,h1]
   dsimp only [Option.bind]
   rw [h2]
   cases o with
   | nx ρ2=>exact ih (pre ++ [a]) ρ2 (by rw [e,List.append_assoc];rfl) h3
   | ct ρ2=>exact ih (pre ++ [a]) ρ2 (by rw [e,List.append_assoc];rfl) h3
   | bk ρ2=>exact ⟨_,rfl,.inr h3⟩
   | rt d=>exact ⟨_,rfl,h3⟩
   | ro d=>exact h3.elim
 exact key l [] ρ0 rfl h0
theorem ci {α:Type} {g:XG} {m:XS} (enc:α -> D) (P:List α -> Env -> Prop) (l:List α) (ρ0:Env) (h0:P [] ρ0)
  (step:∀ pre a post ρ,l = pre ++ a :: post -> P pre ρ -> ∃ ρ1 ρ2,g (enc a) ρ = some ρ1 /\ (m ρ1 = some (.nx ρ2) \/ m ρ1 = some (.ct ρ2)) /\ P (pre ++ [a]) ρ2) :
  ∃ ρ',hV g m (l.map enc) ρ0 = some (.nx ρ') /\ P l ρ':=by
 obtain ⟨o,h1,h2⟩:=v8 (g:=g) (m:=m) enc P (fun _=>False) (fun _=>False) l ρ0 h0 fun pre a post ρ e p=>by
  obtain ⟨ρ1,ρ2,k1,k2,k3⟩:=step pre a post ρ e p
  rcases k2 with k2 | k2
  ·exact ⟨ρ1,_,k1,k2,k3⟩
  ·exact ⟨ρ1,_,k1,k2,k3⟩
 cases o with
 | nx ρ'=>exact ⟨ρ',h1,h2.elim id False.elim⟩
 | rt d=>exact h2.elim
 | ro d=>exact h2.elim
 | bk ρ'=>exact h2.elim
 | ct ρ'=>exact h2.elim
def fP (g:XG) (c:XT) (e:XE) (ρ0:Env) (d:D):Option (Option D):=(g d ρ0).bind fun ρ1=>(c ρ1).bind fun b=>if b = true then (e ρ1).map some else some none
theorem jm {α:Type} {g:XG} {c:XT} {e:XE} {ρ0:Env} (enc:α -> D) (f:α -> Option D):∀ (l:List α),(∀ a ∈ l,fP g c e ρ0 (enc a) = some (f a)) -> b7 g c e ρ0 (l.map enc) = some (l.filterMap f)
 | [],_=>rfl
 | a :: l,h=>by
  have ih:=jm (g:=g) (c:=c) (e:=e) (ρ0:=ρ0) enc f l fun b hb=>h b (List.mem_cons_of_mem _ hb)
  have h1:=h a List.mem_cons_self
  unfold fP at h1
  rw [List.map_cons,b7]
  cases q1:g (enc a) ρ0 with
  | none=>rw [q1] at h1;cases h1
  | some ρ1=>
   rw [q1] at h1
   dsimp only [Option.bind] at h1 ⊢
   cases q2:c ρ1 with
   | none=>rw [q2] at h1;cases h1
   | some b=>
    rw [q2] at h1
    dsimp only at h1 ⊢
    cases b with
    | false=>
     rw [if_neg (by decide)] at h1 ⊢
     rw [ih,List.filterMap_cons]
     have:f a = none:=(Option.some.inj h1).symm
     rw [this]
    | true=>
     rw [if_pos rfl] at h1 ⊢
     cases q3:e ρ1 with
     | none=>rw [q3] at h1;cases h1
     | some y=>
      rw [q3] at h1
      have:f a = some y:=(Option.some.inj h1).symm
      rw [ih,List.filterMap_cons,this]
      rfl
theorem bA {α:Type} {g:XG} {e:XE} {ρ0:Env} (enc:α -> D) (f:α -> D) (l:List α) (h:∀ a ∈ l,fP g dW e ρ0 (enc a) = some (some (f a))):b7 g dW e ρ0 (l.map enc) = some (l.map f):=by
 rw [jm enc (fun a=>some (f a)) l h]
 exact congrArg some (congrFun List.filterMap_eq_map' l)
theorem kK {c:XT} {m:XS} (P:Env -> Prop) (μ:Env -> Nat) (E:Env -> Prop) (step:∀ ρ,P ρ -> (c ρ = some false /\ E ρ) \/ (c ρ = some true /\ ∃ ρ2,m ρ = some (.nx ρ2) /\ P ρ2 /\ μ ρ2 < μ ρ)) (ρ0:Env) (h0:P ρ0):∃ ρ',fw c m ρ0 = some (.nx ρ') /\ E ρ':=by
 have key:∀ (n:Nat) (ρ:Env),μ ρ = n -> P ρ -> ∃ ρ',fw c m ρ = some (.nx ρ') /\ E ρ':=by
  intro n
  induction n using Nat.strongRecOn with
  | ind n ih=>
   intro ρ hn p
   rcases step ρ p with ⟨h1,h2⟩ | ⟨h1,ρ2,h2,h3,h4⟩
   ·exact ⟨ρ,AD h1,h2⟩
   ·obtain ⟨ρ',k1,k2⟩:=ih (μ ρ2) (by lia) ρ2 rfl h3
    exact ⟨ρ',Aa h1 h2 k1,k2⟩
 exact key _ ρ0 rfl h0
abbrev prD (p:Int × Int):D:=.tup [.int p.1,.int p.2]
abbrev dr (r:List (Int × Int)):D:=.tup (r.map prD)
abbrev Bd (r:List (Int × Int)):D:=.lst (r.map prD)
@[simp] theorem gR {α:Type} (l:List α) (x:α):atI (l ++ [x]) (-1) = some x:=by
 unfold atI ixN
 rw [if_neg (by decide),List.length_append,List.length_singleton,if_pos (by lia)]
 have:((-1:Int) + ((l.length + 1:Nat):Int)).toNat = l.length:=by lia
 dsimp only [Option.bind]
 rw [this]
 simp
theorem kE {α:Type} {l:List α} {j:Nat} {x:α} (h:l[j]? = some x):atI l (j:Int) = some x:=by
 have:=(List.getElem?_eq_some_iff.mp h).1
 unfold atI ixN
 rw [if_pos (by lia),if_pos (by lia)]
 dsimp only [Option.bind]
 rw [Int.toNat_natCast]
 exact h
@[simp] theorem wF (l:List O) (x:O) (f:O -> O):ud (l ++ [x]) (-1) f = l ++ [f x]:=by
 unfold ud ixN
 rw [if_neg (by decide),List.length_append,List.length_singleton,if_pos (by lia)]
 have:((-1:Int) + ((l.length + 1:Nat):Int)).toNat = l.length:=by lia
 dsimp only
 rw [this]
 simp
@[simp] theorem JO {α:Type} (l:List α) (a b:α):atI (l ++ [a,b]) (-1) = some b:=by
 have:=gR (l ++ [a]) b
 rw [List.append_assoc] at this
 exact this
@[simp] theorem Lu {α:Type} (a:α):atI [a] (-1) = some a:=gR [] a
@[simp] theorem Ir (l:List O) (a b:O) (f:O -> O):ud (l ++ [a,b]) (-1) f = l ++ [a,f b]:=by
 have:=wF (l ++ [a]) b f
 rw [List.append_assoc,List.append_assoc] at this
 exact this
@[simp] theorem La (a:O) (f:O -> O):ud [a] (-1) f = [f a]:=wF [] a f
@[simp] theorem KM (i:Int):qL (.int i) = some (.int i):=rfl
@[simp] theorem Lz (i:Bool):qL (.bl i) = some (.bl i):=rfl
@[simp] theorem KA (i:Str):qL (.str i) = some (.str i):=rfl
@[simp] theorem KO:qL .non = some .non:=rfl
@[simp] theorem Lv (a b:O) (f:O -> O):ud [a,b] 1 f = [a,f b]:=rfl
theorem mw {n:Nat}:ixN (n + 1) (-1) = some n:=by
 unfold ixN
 rw [if_neg (by decide),if_pos (by lia)]
 congr 1
 lia
section
variable (i j:Int) (a b:List D) (neg:Bool) (ρ:Env)
@[simp] theorem MH:kq (.int i) (.int j) = some (.int (i - j)):=rfl
@[simp] theorem MW:bK (.int i) (.int j) = some (.int (i + j)):=rfl
@[simp] theorem LO:wH (.int i) (.int j) = some (.int (i + j)):=rfl
@[simp] theorem NA:dLt (.int i) (.int j) = some (.bl (decide (i < j))):=rfl
@[simp] theorem Nf:dLe (.int i) (.int j) = some (.bl (decide (i <= j))):=rfl
@[simp] theorem Ny:dGt (.int i) (.int j) = some (.bl (decide (j < i))):=rfl
@[simp] theorem NG:dGe (.int i) (.int j) = some (.bl (decide (j <= i))):=rfl
@[simp] theorem MC:fc (.int i) = some (.int (-i)):=rfl
@[simp] theorem yh {i j:Int} (h:-18446744073709551616 < j /\ j < 18446744073709551616):mS (.int i) (.int j) = some (.int (i * j)):=ip (.inr h)
@[simp] theorem yw {i j:Int} (h:-18446744073709551616 < i /\ i < 18446744073709551616):mS (.int i) (.int j) = some (.int (i * j)):=ip (.inl h)
@[simp] theorem M2 {i j:Int} (h:0 < j /\ j < 1073741824):yL (.int i) (.int j) = some (.int (i / j)):=ip h
@[simp] theorem Fh {i j:Int} (h:0 < j):fV (.int i) (.int j) = some (.int (i % j)):=ip h
@[simp] theorem wu {i j:Int} (h:0 <= j /\ j <= 1000000 /\ i.natAbs < 18446744073709551616):vd (.int i) (.int j) = some (.int (i ^ j.toNat)):=ip h
theorem HQ:bK (.lst a) (.lst b) = if a.length + b.length <= LIM then some (.lst (a ++ b)) else none:=rfl
theorem F2:bK (.tup a) (.tup b) = if a.length + b.length <= LIM then some (.tup (a ++ b)) else none:=rfl
@[simp] theorem M7 (d:D):L6 neg d .non = some (.bl (if neg then !ui d else ui d)):=rfl
@[simp] theorem Kh:ui .non = true:=rfl
@[simp] theorem K4:ui (.int i) = false:=rfl
@[simp] theorem KL:ui (.tup a) = false:=rfl
@[simp] theorem MD:dIx (.lst a) (.int i) = atI a i:=rfl
@[simp] theorem M0:dIx (.tup a) (.int i) = atI a i:=rfl
@[simp] theorem MJ:dIx (.scr a) (.int i) = atI a i:=rfl
@[simp] theorem Mv:Al (.lst a) = some (!a.isEmpty):=rfl
@[simp] theorem L4:Al (.tup a) = some (!a.isEmpty):=rfl
@[simp] theorem LN:Al (.scr a) = some (!a.isEmpty):=rfl
@[simp] theorem LL (x:Bool):Al (.bl x) = some x:=rfl
@[simp] theorem L1:Al (.int i) = some (i != 0):=rfl
@[simp] theorem LK:Al .non = some false:=rfl
@[simp] theorem L5:pd [.lst a] = some (.int a.length):=rfl
@[simp] theorem Mo:pd [.tup a] = some (.int a.length):=rfl
@[simp] theorem LG:pd [.scr a] = some (.int a.length):=rfl
@[simp] theorem Ma:eV [.lst a] = some (.tup a):=rfl
@[simp] theorem LX:eV [.tup a] = some (.tup a):=rfl
@[simp] theorem LU:EJ [.lst a] = some a:=rfl
@[simp] theorem LR:EJ [.tup a] = some a:=rfl
@[simp] theorem LC:EJ [.scr a] = some a:=rfl
@[simp] theorem M1:wK [.int i,.int j] = some (.int (if j > i then j else i)):=rfl
@[simp] theorem MO:wo [.int i,.int j] = some (.int (if j < i then j else i)):=rfl
@[simp] theorem M6:Lj [.int i] = some (.int i):=rfl
@[simp] theorem LA (x:Bool):Lj [.bl x] = some (.int (if x then 1 else 0)):=rfl
@[simp] theorem Ms:yT (.lst a) = some a:=rfl
@[simp] theorem LM:yT (.tup a) = some a:=rfl
@[simp] theorem LF:yT (.scr a) = some a:=rfl
@[simp] theorem Nc (lo hi:Option Int):dSl (.lst a) lo hi = some (.lst (jO a lo hi)):=rfl
@[simp] theorem MX (lo hi:Option Int):dSl (.tup a) lo hi = some (.tup (jO a lo hi)):=rfl
@[simp] theorem Nb (lo hi:Option Int):dSl (.scr a) lo hi = some (.lst (jO a lo hi)):=rfl
@[simp] theorem NC (y:XGs):bn y (.tup a) ρ = y a ρ:=rfl
@[simp] theorem NJ (x:XG) (y:XGs) (d:D):ar x y (d :: a) ρ = (x d ρ).bind (y a):=rfl
@[simp] theorem Nu:bg [] ρ = some ρ:=rfl
@[simp] theorem Mh:Fm [.int i,.ty "int"] = some (.bl true):=rfl
@[simp] theorem LY:Fm [.int i,.ty "bool"] = some (.bl false):=rfl
@[simp] theorem MA:Fm [.tup a,.ty "tuple"] = some (.bl true):=rfl
@[simp] theorem L7:Fm [.lst a,.ty "list"] = some (.bl true):=rfl
@[simp] theorem Ls (x:Bool):Fm [.bl x,.ty "bool"] = some (.bl true):=rfl
theorem Kt {j:Int} (h:j < 1000000 /\ -1000000 < j):xF [.int j] = some (cH 0 j.toNat):=ip h
theorem HI {i j:Int} (h:j < 4000000000000000000 /\ -4000000000000000000 < i /\ i < 4000000000000000000 /\ -4000000000000000000 < j):xF [.int i,.int j] = some (cH i (j - i).toNat):=ip h
end
abbrev owl (l:List D):Sl:=.ow (.lst (l.map O.sh))
@[simp] theorem Lf (os:List O):Fi (.ow (.lst os)) = (shs os).map D.lst:=rfl
@[simp] theorem Ll:shs [] = some []:=rfl
@[simp] theorem zG (d:D) (l:List O):shs (.sh d :: l) = (shs l).map fun r=>d :: r:=rfl
@[simp] theorem Ka (l:List D):shs (l.map O.sh) = some l:=s9 l
@[simp] theorem EA {α:Type} (f:α -> D) (l:List α):shs (l.map (O.sh ∘ f)) = some (l.map f):=by rw [<- List.map_map];exact s9 _
@[simp] theorem Ko {α:Type} (f:α -> D) (l:List α):shs (l.map fun a=>O.sh (f a)) = some (l.map f):=EA f l
@[simp] theorem GC:∀ (a b:List O),shs (a ++ b) = (shs a).bind fun x=>(shs b).map fun y=>x ++ y
 | [],b=>by cases h:shs b <;> simp [h]
 | .sh d :: a,b=>by
  rw [List.cons_append,zG,zG,GC a b]
  cases shs a with
  | none=>rfl
  | some x=>cases shs b <;> rfl
 | .dic _ :: _,_=>rfl
 | .hd _ _ _ :: _,_=>rfl
 | .lst _ :: a,b=>rfl
 | .tup _ :: a,b=>rfl
@[simp] theorem K0 (o:O):eY o [] = some o:=by unfold eY;rfl
@[simp] theorem KF (l:List O) (k:Int) (r:List Int):eY (.lst l) (k :: r) = (atI l k).bind fun o=>eY o r:=rfl
@[simp] theorem Lg (l:List O) (k:Int) (r:List Int):eY (.tup l) (k :: r) = (atI l k).bind fun o=>eY o r:=rfl
@[simp] theorem K3 (o q:O):kI o [] q = q:=by unfold kI;rfl
@[simp] theorem Ke (l:List O) (k:Int) (r:List Int) (q:O):kI (.lst l) (k :: r) q = .lst (ud l k fun o=>kI o r q):=rfl
@[simp] theorem Ky (l:List O) (k:Int) (r:List Int) (q:O):kI (.tup l) (k :: r) q = .tup (ud l k fun o=>kI o r q):=rfl
@[simp] theorem MB (d:D):O.d (.sh d) = d:=by unfold O.d;rfl
@[simp] theorem Ln (l:List O):O.d (.lst l) = .lst (O.ds l):=by rw [O.d]
@[simp] theorem Lx (l:List O):O.d (.tup l) = .tup (O.ds l):=by rw [O.d]
@[simp] theorem KJ:O.ds [] = []:=by rw [O.ds]
@[simp] theorem C1 (o:O) (l:List O):O.ds (o :: l) = o.d :: O.ds l:=by rw [O.ds]
@[simp] theorem Eb:∀ (a b:List O),O.ds (a ++ b) = O.ds a ++ O.ds b
 | [],b=>by simp
 | o :: a,b=>by simp [Eb a b]
@[simp] theorem zp:∀ l:List D,O.ds (l.map O.sh) = l
 | []=>by simp
 | d :: l=>by simp [zp l]
@[simp] theorem JP {α:Type} (f:α -> D) (l:List α):O.ds (l.map (O.sh ∘ f)) = l.map f:=by rw [<- List.map_map];exact zp _
@[simp] theorem MG {α:Type} (a b:α):atI [a,b] 0 = some a:=rfl
@[simp] theorem Na {α:Type} (a b:α):atI [a,b] 1 = some b:=rfl
@[simp] theorem Nd {α:Type} (a b c:α):atI [a,b,c] 0 = some a:=rfl
@[simp] theorem ML {α:Type} (a b c:α):atI [a,b,c] 1 = some b:=rfl
@[simp] theorem MY {α:Type} (a b c:α):atI [a,b,c] 2 = some c:=rfl
theorem gz:LIM = 1000000:=by unfold LIM;rfl
@[simp] theorem Ni:(0:Nat) <= LIM:=Nat.zero_le _
@[simp] theorem No:(1:Nat) <= LIM:=by rw [gz];decide
@[simp] theorem NI:(2:Nat) <= LIM:=by rw [gz];decide
@[simp] theorem Nw:(3:Nat) <= LIM:=by rw [gz];decide
@[simp] theorem Nq:(4:Nat) <= LIM:=by rw [gz];decide
@[simp] theorem Nm:(5:Nat) <= LIM:=by rw [gz];decide
@[simp] theorem NH:(6:Nat) <= LIM:=by rw [gz];decide
@[simp] theorem Nn:(7:Nat) <= LIM:=by rw [gz];decide
@[simp] theorem NB:(8:Nat) <= LIM:=by rw [gz];decide
@[simp] theorem Nk:(9:Nat) <= LIM:=by rw [gz];decide
@[simp] theorem MZ:(10:Nat) <= LIM:=by rw [gz];decide
@[simp] theorem MT:(0:Nat) < LIM:=by rw [gz];decide
theorem JG (p q:Int × Int):eqD (prD p) (prD q) = decide (p = q):=by
 obtain ⟨a,b⟩:=p
 obtain ⟨c,d⟩:=q
 simp [prD,eqD,eqDs,Prod.ext_iff]
 by_cases h1:a = c <;> by_cases h2:b = d <;> simp [h1,h2]
theorem zz:∀ r t:List (Int × Int),eqDs (r.map prD) (t.map prD) = decide (r = t)
 | [],[]=>rfl
 | [],_ :: _=>by simp [eqDs]
 | _ :: _,[]=>by simp [eqDs]
 | p :: r,q :: t=>by
  rw [List.map_cons,List.map_cons,eqDs,JG,zz r t]
  by_cases h1:p = q <;> by_cases h2:r = t <;> simp [h1,h2]
theorem GJ (r t:List (Int × Int)):eqD (dr r) (dr t) = decide (r = t):=by
 unfold dr
 rw [eqD,zz]
theorem uJ (n:Nat):∀ r:List (Int × Int),okDs (n + 1) (r.map prD) = true
 | []=>by simp [okDs]
 | p :: r=>by rw [List.map_cons,okDs,uJ n r];simp [prD,okD,okDs]
theorem Ca (r:List (Int × Int)):okD 50 (dr r) = true:=by
 unfold dr
 rw [okD]
 exact uJ 48 r
theorem GP (neg:Bool) (r t:List (Int × Int)):dEq neg (dr r) (dr t) = some (.bl (if neg then !decide (r = t) else decide (r = t))):=by
 unfold dEq
 rw [if_pos ⟨Ca r,Ca t⟩,GJ]
@[simp] theorem Ly (neg:Bool) (i j:Int):dEq neg (.int i) (.int j) = some (.bl (if neg then !decide (i = j) else decide (i = j))):=by
 unfold dEq
 rw [if_pos ⟨by simp [okD],by simp [okD]⟩]
 have:eqD (.int i) (.int j) = decide (i = j):=by simp [eqD];by_cases h:i = j <;> simp [h]
 rw [this]
@[simp] theorem Mb (neg:Bool) (i j:Bool):dEq neg (.bl i) (.bl j) = some (.bl (if neg then !decide (i = j) else decide (i = j))):=by
 unfold dEq
 rw [if_pos ⟨by simp [okD],by simp [okD]⟩]
 have:eqD (.bl i) (.bl j) = decide (i = j):=by simp [eqD];by_cases h:i = j <;> simp [h]
 rw [this]
theorem wY {K:W.Frag} {S:Hp}:∀ ns:List Int,Dens K S (ns.map D.int) (ns.map V.int)
 | []=>.nil
 | n :: ns=>.cons (den_int.mpr rfl) (wY ns)
theorem D2 {K:W.Frag} {H:Hp} {a:Addr} {ns:List Int} {m:List D -> Option O} {E:XK} (hS:SqL K H a (ns.map V.int)) (h:(m [.scr (ns.map D.int)]).map O.d = some (.bl true)):c7 K 1 m [.ref a] H (fun v _=>v = .bl true) E:=by
 cases q:m [.scr (ns.map D.int)] with
 | none=>rw [q] at h;cases h
 | some o=>
  rw [q] at h
  have e:o.d = .bl true:=Option.some.inj h
  exact ⟨rfl,H,[.scr (ns.map D.int)],o,Same.refl _,.cons (den_scr.mpr ⟨a,_,rfl,hS,wY ns⟩) .nil,q,fun v fp S' H' z ow _ _=>by
   have dv:=ow.denH z.sub
   rw [e] at dv
   exact den_bl.mp dv⟩
end M
namespace L2
open PySem PySem.Spec PyProof.Rows
theorem oi:bootBuiltins "len" = some (.builtin "len"):=by decide +kernel
theorem mO:bootBuiltins "sorted" = some (.builtin "sorted"):=by decide +kernel
theorem yB:bootBuiltins "max" = some (.builtin "max"):=by decide +kernel
theorem uw:bootBuiltins "min" = some (.builtin "min"):=by decide +kernel
theorem JF:bootBuiltins "sum" = some (.builtin "sum"):=by decide +kernel
theorem du:bootBuiltins "tuple" = some (.type "tuple"):=by decide +kernel
section
variable {X:Cx}
theorem As:∀ a b:List Int,Srt.iY a b = HT.cG a b
 | [],[]=>rfl
 | [],_ :: _=>rfl
 | _ :: _,[]=>rfl
 | x :: xs,y :: ys=>by
  rw [HT.BH,<- As xs ys]
  rfl
end
end L2
namespace Rev
open PySem
section
variable {prog:Program} {w:World} {A:Around} {s:Shared} {R:Result -> Shared -> Prop} {I:Addr} {fp wr:List Addr} {G:Array GenState -> Array GenState -> Prop} {n:Nat} {P:Nat -> Value -> Prop} {St:Nat -> Shared -> Prop}
end
section
variable {prog:Program} {w:World} {A:Around} {E:Value -> Shared -> Prop} {s:Shared} {I:Addr} {fp wr:List Addr} {G:Array GenState -> Array GenState -> Prop} {n:Nat} {P:Nat -> Value -> Prop} {St:Nat -> Shared -> Prop}
end
end Rev
namespace L2
open PySem PySem.Spec PyProof.Rows
theorem yM:bootBuiltins "reversed" = some (.type "reversed"):=by decide +kernel
section
variable {X:Cx} {tg:Expr}
theorem bF {l:Expr} {tl:TE} (hl:PE X l tl):PI X tg l (I0 X.K tl):=by
 intro pins s σ H R I h
 refine thn (hl pins s σ H _ I h) fun v s1 h1=>?_
 obtain ⟨x,H1,I1,r1,a,e,q⟩:=h1
 subst e
 cases r1
 rcases q with ⟨⟨xs,hq⟩,q⟩ | ⟨⟨xs,hq⟩,q⟩
 ·obtain ⟨its,rv,p,hz⟩:=I1.list hq
  refine wpAny_pyIter_list p.isList ⟨s1.heap.objs.size,[s1.heap.objs.size],_,_,H1,rfl,I1.kept (t':=s1.toks) fun b o e=>Heap.get?_push_of_some _ e,CP a _,⟨_,Heap.get?_push_size _ rfl,rfl,rfl⟩,fun b hb=>?_,q⟩
  rw [List.mem_singleton.mp hb]
  exact I1.fpOk (Nat.le_refl _) I1.fresh
 ·obtain ⟨its,rv,p,hz⟩:=I1.tuple hq
  refine wpAny_pyIter_tuple (show s1.heap.IsTuple a its.toArray from p) ⟨s1.heap.objs.size,[s1.heap.objs.size],_,_,H1,rfl,I1.kept (t':=s1.toks) fun b o e=>Heap.get?_push_of_some _ e,Bn a _,⟨_,Heap.get?_push_size _ rfl,rfl,rfl⟩,fun b hb=>?_,q⟩
  rw [List.mem_singleton.mp hb]
  exact I1.fpOk (Nat.le_refl _) I1.fresh
end
section
variable {X:Cx} {tg:Expr}
theorem wf:∀ {vs:List Value} {ns:List Int},IntsAre vs ns -> Vals (ns.map V.int) vs
 | _,_,.nil=>.nil
 | _,_,.cons n t h=>.cons ⟨t,rfl⟩ (wf h)
theorem call_sortedI:CallR X (.builtin "sorted") (z8 X.K):=by
 intro pins s σ H xs us Q I r h
 obtain ⟨p,ns,rfl,hS,h64,k⟩:=h
 obtain ⟨u,rfl,ru⟩:=r.one
 cases ru
 obtain ⟨its,rv,pl,hz⟩:=I.list hS
 have hI:IntsAre its ns:=i6 rv
 have hl:its.length = ns.length:=by have:=rv.length;rw [List.length_map] at this;exact this.symm
 refine Srt.yr pl.isList hI (by rw [sizeLine_eq];lia) fun out ms ho perm pw=>?_
 obtain ⟨e,at1⟩:=sortedAll_at s.heap its out
 have fresh:s.heap.objs.size <= s.heap.objs.size + 1:=Nat.le_succ _
 refine ⟨.ref (s.heap.objs.size + 1),upd H (s.heap.objs.size + 1) (.lst (ms.map V.int)),I.laid (t':=s.toks) (fun b o hb=>sortedAll_old hb) fresh ?_,rfl,k ms _ perm pw (I.hok.fresh fresh)⟩
 exact ⟨by rw [List.length_map,perm.length_eq,sizeLine_eq];lia,out.toList,e,wf ho,by simpa using at1⟩
theorem DG (hc:X.calm = true):CallR X (.builtin "sum") (HF X.K):=by
 intro pins s σ H xs us Q I r h
 obtain ⟨p,ns,rfl,hS,q⟩:=h
 obtain ⟨u,rfl,ru⟩:=r.one
 cases ru
 obtain ⟨its,rv,pl,hz⟩:=I.list hS
 have hI:IntsAre its ns:=i6 rv
 obtain ⟨ys,e⟩:=hI.allInts.items
 have hl:=pl.isList
 have en:ns = ys.toList.map (·.1):=by
  rw [<- nums_intItems,<- e]
  simpa using hI.numsOf.symm
 rw [e] at hl
 refine sum_intListG (I.ok.hd hc) hl fun h' tk t' hk=>⟨.int ns.sum,H,I.kept hk,⟨t',?_⟩,q⟩
 rw [preSum_eq,List.take_of_length_le (by simp),en]
end
end L2
namespace HT
open PySem PySem.Spec PyProof.Rows
section
variable {prog:Program} {w:World} {A:Around} {E:Value -> Shared -> Prop} {s:Shared}
theorem mZ {t sl:Addr} {items:Array Value} {vl vu:Value} {lo hi:Option Int} {Q:Value -> Shared -> Prop} (ht:IsTup s.heap t items) (hs:s.heap.IsSliceOf sl vl vu .none) (pl:IsPart vl lo) (pu:IsPart vu hi)
  (hw:sIx items.size 0 lo = 0 /\ sIx items.size items.size hi = items.size) (h:Q (.ref t) s):wpAny (model prog w) A (getItem (.ref t) (.ref sl)) Q E s:=by
 obtain ⟨os,hos,hcs,hds⟩:=id hs
 have hTs:s.TypeIs (.ref sl) "slice" := ⟨os,hos,hcs⟩
 unfold getItem
 try with_reducible refine wpAny_holding ?_
 first | refine wpAny_bind (wpAny_pure ?_) | skip
 refine wpAny_bind (wpAny_sequenceKey ht.typeIs (by decide) ?_)
 refine wpAny_bind (wpAny_callSpecial?_slot (name:=Str.ofString "__getitem__") ht.typeIs PyProof.Rows.slot_tuple_getitem
  (wpAny_call_entry PyProof.Rows.slot_tuple_getitem ht.typeIs entry_tuple_getitem ?_ (args_tuple_getitem _ _)))
 show wpAny _ _ (Builtin.Tuple.tupleItemsOf (.ref t) >>= _) _ _ s
 refine wpAny_bind (tupleItemsOf_ ht ?_)
 refine wpAny_bind (wpAny_typeOf hTs ?_)
 rw [if_pos (by decide)]
 refine wpAny_bind (ki hs pl pu ?_)
 have hyes:((((sIx items.size 0 lo:Nat):Int) == 0 && (1:Int) == 1 && (sIx items.size items.size hi - sIx items.size 0 lo) == items.size) = true):=by
  rw [hw.1,hw.2]
  simp
 show wpAny _ _ (if (((sIx items.size 0 lo:Nat):Int) == 0 && (1:Int) == 1 && (sIx items.size items.size hi - sIx items.size 0 lo) == items.size) = true then _ else _) _ _ s
 rw [if_pos hyes]
 refine wpAny_bind (m:=Builtin.Tuple.tupleIsExact _) (wpAny_bind (wpAny_typeOf ht.typeIs (wpAny_pure ?_)))
 rw [if_pos (by decide)]
 exact wpAny_bind (wpAny_rule (wpAny_pure ⟨_,rfl,wpAny_pure h⟩))
end
end HT
namespace L2
open PySem PySem.Spec PyProof.Rows M
theorem Inv.rdl {X:Cx} {pins:List (Addr × Obj)} {σ:St} {H:Hp} {s:Shared} {l:Addr} {xs:List V} (I:Inv X pins σ H s) (h:Rd H l (.lst xs)):xs.length <= sizeLine /\ ∃ (its:List Value) (n:Nat),Vals xs its /\ xs.length = its.length /\ s.heap.get? l = some { cls:=.type "list",data:=.seq its.toArray n }:=by
 obtain ⟨h1,its,n,r,e⟩:=(show ObjOk X.prog X.w H s.heap l (.lst xs) from h.ok I.hok)
 exact ⟨h1,its,n,r,r.length,e⟩
section
variable {X:Cx}
theorem op_catM:OpR X (binaryOp .Add) HD:=by
 intro pins s σ H x y v u Q I rx ry h
 obtain ⟨l,b,xs,zs,rfl,rfl,hH,hB,hz,q⟩:=h
 cases rx
 cases ry
 obtain ⟨z,its,n,r,hl,e⟩:=I.rdl hH
 obtain ⟨z2,its2,n2,r2,hl2,e2⟩:=I.rdl hB
 refine PySem.P.add_list e e2 ?_ (by rw [List.size_toArray,List.size_toArray];lia)
 have ea:its.toArray ++ its2.toArray = (its ++ its2).toArray:=by simp
 rw [ea]
 exact ⟨.ref _,_,I.lnew (t':=s.toks) (r.append r2) (by rw [List.length_append];lia),rfl,q _ I.fresh⟩
theorem op_tupM:OpR X (binaryOp .Add) (Hs X.K):=by
 intro pins s σ H x y v u Q I rx ry h
 obtain ⟨a,b,xs,ys,rfl,rfl,ha,hb,hz,q1,q2,q⟩:=h
 cases rx
 cases ry
 obtain ⟨its,r1,p1,_⟩:=I.tuple ha
 obtain ⟨its2,r2,p2,_⟩:=I.tuple hb
 have hz2:its.length + its2.length <= sizeLine:=by rw [<- r1.length,<- r2.length];exact hz
 by_cases hv:its = []
 ·have hx:xs = []:=r1.nil_iff.mp hv
  obtain ⟨⟨cls,dd,data,sl⟩,ho,hc,n,hd⟩:=id p1
  obtain ⟨⟨cls2,dd2,data2,sl2⟩,ho2,hc2,n2,hd2⟩:=id p2
  simp only at hc hd hc2 hd2;subst hc hd hc2 hd2
  exact concat_meets ⟨_,ho,rfl⟩ ⟨_,ho2,rfl⟩ noFill_tuple_add seq_tuple_add PySem.F.slot_tuple_add PySem.F.entry_tuple_add (PySem.F.args_tuple_add_2 (.ref a) (.ref b)) (tuple_addW0 a b its.toArray its2.toArray n n2 dd dd2 sl sl2 (by simp [hv])) ⟨ho,ho2,⟨.ref b,H,I,rfl,q2 hx⟩⟩
 ·refine HT.GL p1 p2 hv (fun z=>⟨.ref a,H,I,rfl,q1 (r2.nil_iff.mp z)⟩) (fun z=>?_) hz2
  refine ⟨.ref s.heap.objs.size,_,I.laid (t':=s.toks) (o:=.tup (xs ++ ys)) (fun b ob e=>Heap.get?_push_of_some _ e) (Nat.le_refl _) ?_,rfl,q _ (I.hok.fresh (Nat.le_refl _))⟩
  exact ⟨by rw [List.length_append];exact hz,_,r1.append r2,IsTup.new _ _⟩
theorem Gz:OpR X (binaryOp .Add) HE:=Bc
theorem aY:OpR X (binaryOp .Add) (HG X.K):=op_add.or (op_catM.or (op_tupM.or Gz))
mutual
def pyD:D -> PyData
 | .non=>.none
 | .bl b=>.bool b
 | .int i=>.int i
 | .str x=>.str x
 | .lst l=>.list (pyDs l)
 | .tup l=>.tuple (pyDs l)
 | _=>.none
def pyDs:List D -> List PyData
 | []=>[]
 | d :: l=>pyD d :: pyDs l
end
mutual
theorem vi:∀ (n:Nat) (d:D),okD n d = true -> (pyD d).canLay0 = true /\ (pyD d).depth <= n
 | _,.non,_=>by simp [pyD,PyData.canLay0,PyData.depth]
 | _,.bl _,_=>by simp [pyD,PyData.canLay0,PyData.depth]
 | _,.int _,_=>by simp [pyD,PyData.canLay0,PyData.depth]
 | n,.str x,h=>by
  have h':PyData.strOk x = true:=by cases n <;> simpa [okD] using h
  simp [pyD,PyData.canLay0,PyData.depth,h']
 | 0,.lst l,h=>by simp [okD] at h
 | n + 1,.lst l,h=>by
  obtain ⟨a,b⟩:=xr n l (by simpa [okD] using h)
  simp only [pyD,PyData.canLay0,PyData.depth]
  exact ⟨a,by lia⟩
 | 0,.tup l,h=>by simp [okD] at h
 | n + 1,.tup l,h=>by
  obtain ⟨a,b⟩:=xr n l (by simpa [okD] using h)
  simp only [pyD,PyData.canLay0,PyData.depth]
  exact ⟨a,by lia⟩
 | n,.ty _,h=>by cases n <;> simp [okD] at h
 | n,.scr _,h=>by cases n <;> simp [okD] at h
 | n,.ins _ _ _,h=>by cases n <;> simp [okD] at h
theorem xr:∀ (n:Nat) (l:List D),okDs n l = true -> PyData.canLayAll0 (pyDs l) = true /\ PyData.depthAll (pyDs l) <= n
 | _,[],_=>by simp [pyDs,PyData.canLayAll0,PyData.depthAll]
 | n,d :: l,h=>by
  rw [okDs,Bool.and_eq_true] at h
  obtain ⟨a,b⟩:=vi n d h.1
  obtain ⟨c,e⟩:=xr n l h.2
  simp only [pyDs,PyData.canLayAll0,PyData.depthAll,a,c]
  exact ⟨rfl,by lia⟩
end
mutual
theorem A7:∀ (n m:Nat) (d e:D),okD n d = true -> okD m e = true -> PyData.eqv (pyD d) (pyD e) = eqD d e
 | n,m,.non,e,_,he=>by cases e <;> first | (simp [pyD,PyData.eqv,eqD];done) | (cases m <;> simp [okD] at he)
 | n,m,.bl _,e,_,he=>by cases e <;> first | (simp [pyD,PyData.eqv,eqD];done) | (cases m <;> simp [okD] at he)
 | n,m,.int _,e,_,he=>by cases e <;> first | (simp [pyD,PyData.eqv,eqD];done) | (cases m <;> simp [okD] at he)
 | n,m,.str _,e,_,he=>by cases e <;> first | (simp [pyD,PyData.eqv,eqD];done) | (cases m <;> simp [okD] at he)
 | 0,m,.lst _,e,hd,he=>by simp [okD] at hd
 | n + 1,m,.lst l,e,hd,he=>by
  cases e with
  | lst l'=>
   cases m with
   | zero=>simp [okD] at he
   | succ m=>
    simp only [pyD,PyData.eqv,eqD]
    exact eqvs_is n m l l' (by simpa [okD] using hd) (by simpa [okD] using he)
  | _=>first | (simp [pyD,PyData.eqv,eqD];done) | (cases m <;> simp [okD] at he)
 | 0,m,.tup _,e,hd,he=>by simp [okD] at hd
 | n + 1,m,.tup l,e,hd,he=>by
  cases e with
  | tup l'=>
   cases m with
   | zero=>simp [okD] at he
   | succ m=>
    simp only [pyD,PyData.eqv,eqD]
    exact eqvs_is n m l l' (by simpa [okD] using hd) (by simpa [okD] using he)
  | _=>first | (simp [pyD,PyData.eqv,eqD];done) | (cases m <;> simp [okD] at he)
 | n,_,.ty _,_,h,_=>by cases n <;> simp [okD] at h
 | n,_,.scr _,_,h,_=>by cases n <;> simp [okD] at h
 | n,_,.ins _ _ _,_,h,_=>by cases n <;> simp [okD] at h
theorem eqvs_is:∀ (n m:Nat) (l l':List D),okDs n l = true -> okDs m l' = true -> PyData.eqvAll (pyDs l) (pyDs l') = eqDs l l'
 | _,_,[],[],_,_=>by simp [pyDs,PyData.eqvAll,eqDs]
 | _,_,[],_ :: _,_,_=>by simp [pyDs,PyData.eqvAll,eqDs]
 | _,_,_ :: _,[],_,_=>by simp [pyDs,PyData.eqvAll,eqDs]
 | n,m,d :: l,e :: l',hd,he=>by
  rw [okDs,Bool.and_eq_true] at hd he
  rw [pyDs,pyDs,PyData.eqvAll,eqDs,A7 n m d e hd.1 he.1,eqvs_is n m l l' hd.2 he.2]
end
mutual
theorem jY {pins:List (Addr × Obj)} {σ:St} {H:Hp} {s:Shared} (I:Inv X pins σ H s):∀ (n:Nat) {d:D} {x:V} {v:Value},okD n d = true -> Den X.K H d x -> RelV x v -> ∃ as,Reads s.heap v (pyD d) as
 | _,.non,x,v,_,dx,r=>by rw [den_non.mp dx] at r;cases r;exact ⟨_,.none⟩
 | _,.bl b,x,v,_,dx,r=>by rw [den_bl.mp dx] at r;cases r;exact ⟨_,.bool b⟩
 | _,.int i,x,v,_,dx,r=>by rw [den_int.mp dx] at r;obtain ⟨t,rfl⟩:=r;exact ⟨_,.int i t⟩
 | _,.str y,x,v,_,dx,r=>by rw [den_str.mp dx] at r;obtain ⟨t,rfl⟩:=r;exact ⟨_,.str y t⟩
 | 0,.lst _,x,v,h,dx,r=>by simp [okD] at h
 | n + 1,.lst l,x,v,h,dx,r=>by
  obtain ⟨p,xs,rfl,hp,ds⟩:=den_lst.mp dx
  cases r
  obtain ⟨_,its,k,rv,_,e⟩:=I.rdl hp
  obtain ⟨as,ra⟩:=dens_reads I n (by simpa [okD] using h) ds rv
  exact ⟨_,.list e rfl rfl (by simpa using ra)⟩
 | 0,.tup _,x,v,h,dx,r=>by simp [okD] at h
 | n + 1,.tup l,x,v,h,dx,r=>by
  obtain ⟨p,xs,rfl,hp,ds⟩:=iG dx
  cases r
  obtain ⟨its,rv,⟨o,e,c,k,d⟩,_⟩:=I.tuple hp
  obtain ⟨as,ra⟩:=dens_reads I n (by simpa [okD] using h) ds rv
  exact ⟨_,.tuple e c d (by simpa using ra)⟩
 | n,.ty _,_,_,h,_,_=>by cases n <;> simp [okD] at h
 | n,.scr _,_,_,h,_,_=>by cases n <;> simp [okD] at h
 | n,.ins _ _ _,_,_,h,_,_=>by cases n <;> simp [okD] at h
theorem dens_reads {pins:List (Addr × Obj)} {σ:St} {H:Hp} {s:Shared} (I:Inv X pins σ H s):∀ (n:Nat) {ds:List D} {xs:List V} {vs:List Value},okDs n ds = true -> Dens X.K H ds xs -> Vals xs vs -> ∃ as,ReadsAll s.heap vs (pyDs ds) as
 | _,[],xs,vs,_,d,r=>by
  rw [d.nil_of] at r
  cases r
  exact ⟨_,.nil⟩
 | n,d :: ds,xs,vs,h,dd,r=>by
  rw [okDs,Bool.and_eq_true] at h
  obtain ⟨y,ys,rfl,a,b⟩:=dd.cons_of
  cases r with
  | cons r rr=>
   obtain ⟨as,ra⟩:=jY I n h.1 a r
   obtain ⟨bs,rb⟩:=dens_reads I n h.2 b rr
   exact ⟨_,.cons ra rb⟩
end
theorem jb (hu:X.A.units + 64 < cLine):OpR X (compareOp .Eq) (Jg X.K false):=by
 intro pins s σ H x y v u Q I rx ry h
 obtain ⟨S,d,e,sm,dx,dy,cd,ce,q⟩:=h
 obtain ⟨as,ra⟩:=jY I 50 cd (t8 sm dx) rx
 obtain ⟨bs,rb⟩:=jY I 50 ce (t8 sm dy) ry
 obtain ⟨a1,a2⟩:=vi 50 d cd
 obtain ⟨b1,b2⟩:=vi 50 e ce
 have hm:=Nat.min_le_left (pyD d).depth (pyD e).depth
 refine SeqAt.compareEq_reads ra rb a1 b1 (by lia) ⟨.bl _,H,I,rfl,?_⟩
 rw [A7 50 50 d e cd ce]
 exact q
theorem lQ (hu:X.A.units + 64 < cLine):OpR X (compareOp .NotEq) (Jg X.K true):=by
 intro pins s σ H x y v u Q I rx ry h
 obtain ⟨S,d,e,sm,dx,dy,cd,ce,q⟩:=h
 obtain ⟨as,ra⟩:=jY I 50 cd (t8 sm dx) rx
 obtain ⟨bs,rb⟩:=jY I 50 ce (t8 sm dy) ry
 obtain ⟨a1,a2⟩:=vi 50 d cd
 obtain ⟨b1,b2⟩:=vi 50 e ce
 have hm:=Nat.min_le_left (pyD d).depth (pyD e).depth
 refine SeqAt.compareNe_reads ra rb a1 b1 (by lia) ⟨.bl _,H,I,rfl,?_⟩
 rw [A7 50 50 d e cd ce]
 exact q
theorem gx:CallR X (.builtin "len") (HB X.K):=Fx
theorem BO:MtM X "list.extend" rExtM:=by
 intro pins s σ H x vs v us Q I rx rv h
 obtain ⟨l,b,xs,zs,rfl,rfl,hH,hB,hz,q⟩:=h
 cases rx
 obtain ⟨u,rfl,ru⟩:=rv.one
 cases ru
 obtain ⟨z,its,n,r,hl,e⟩:=I.lstM hH
 obtain ⟨z2,its2,n2,r2,hl2,e2⟩:=I.rdl hB
 have hsz:its.toArray.size + its2.toArray.size <= sizeLine:=by rw [List.size_toArray,List.size_toArray];lia
 have hlong:¬ (!its.toArray.isEmpty && Builtin.List.listTooLong (its.toArray.size + its2.toArray.size)) = true:=by
  rw [FP hsz,Bool.and_false]
  exact Bool.false_ne_true
 refine call_meets F.slot_list_extend ⟨_,e,rfl⟩ F.entry_list_extend (F.args_list_extend_2 _ _)
  (AutoSeq1.list_extend_list_list_0 l its.toArray n b its2.toArray n2 hlong (by rw [List.size_toArray];lia) (by lia)) ⟨e,e2,?_⟩
 refine ⟨.non,_,I.lset (its':=its ++ its2) hH e (by simp) (r.append r2) ?_,rfl,q⟩
 rw [List.length_append]
 lia
theorem Ia:SlR X (KP X.K):=by
 refine SlR.or G4 ?_
 intro pins s σ H x v vl vu lo hi sl Q I rx hs pl pu h
 obtain ⟨a,xs,rfl,hx,q1,q2⟩:=h
 cases rx
 by_cases hw:HT.sIx xs.length 0 lo = 0 /\ HT.sIx xs.length xs.length hi = xs.length
 ·obtain ⟨its,r,ht,hz⟩:=I.tuple hx
  have hlen:its.toArray.size = xs.length:=by rw [List.size_toArray];exact r.length.symm
  have hcut:oo xs lo hi = xs:=by
   unfold oo
   rw [hw.1,hw.2,List.drop_zero,Nat.sub_zero,List.take_of_length_le (Nat.le_refl _)]
  refine ⟨"tuple",_,PyProof.Rows.slot_tuple_getitem.lookup,ht.typeIs,?_⟩
  exact HT.mZ ht hs pl pu (by rw [hlen];exact hw) ⟨.ref a,H,I,rfl,q1 hcut⟩
 ·exact Iy pins s σ H (.ref a) (.ref a) vl vu lo hi sl Q I rfl hs pl pu ⟨a,xs,rfl,hx,hw,q2⟩
theorem AX:CallR X (.builtin "sorted") (EI X.K):=by
 intro pins s σ H xs us Q I r h
 obtain ⟨p,yks,rfl,hS,h64,hk,k⟩:=h
 obtain ⟨u,rfl,ru⟩:=r.one
 cases ru
 obtain ⟨its,rv,pl,hz⟩:=I.list hS
 have hl:yks.length = its.length:=by rw [<- rv.length,List.length_map]
 have atI:∀ i,i < its.length -> ∃ yk,yks[i]? = some yk /\ yks.getD i (.non,[]) = yk /\ RelV yk.1 (its.getD i Value.none):=fun i hi=>by
  have ey:yks[i]? = some yks[i]:=List.getElem?_eq_getElem (by lia)
  have ex:(yks.map (·.1))[i]? = some yks[i].1:=by rw [List.getElem?_map,ey];rfl
  obtain ⟨v,ev,rl⟩:=rv.get ex
  exact ⟨_,ey,by rw [List.getD_eq_getElem?_getD,ey];rfl,by rw [List.getD_eq_getElem?_getD,ev];exact rl⟩
 have tup:∀ i,i < its.length -> Srt.KB s.heap (its.getD i Value.none) (yks.getD i (.non,[])).2 /\ (yks.getD i (.non,[])).2 ≠ []:=fun i hi=>by
  obtain ⟨yk,e1,e2,rl⟩:=atI i hi
  obtain ⟨q,e3,e4,e5⟩:=hk _ (List.mem_of_getElem? e1)
  rw [e2]
  refine ⟨?_,e5⟩
  rw [e3] at rl
  have rl':its.getD i Value.none = Value.ref q:=rl
  obtain ⟨js,rj,⟨o,ho,hc,n,hd⟩,_⟩:=I.tuple e4
  refine ⟨q,o,js.toArray,n,rl',ho,hc,hd,?_⟩
  simpa using i6 rj
 refine Srt.wx (Srt.Ez fun i=>(yks.getD i (.non,[])).2) pl.isList (by rw [sizeLine_eq];lia) (Srt.Be tup) fun q hq ha=>?_
 obtain ⟨pv,pw⟩:=Srt.Bh (vs:=its) (d:=Value.none) hq ha
 rw [<- hl] at hq ha
 obtain ⟨py,wy⟩:=Srt.Bh (vs:=yks) (d:=((V.non,[]):V × List Int)) hq ha
 obtain ⟨e,at1⟩:=sortedAll_at s.heap its (Srt.kW its q)
 have hv:Vals ((q.toList.map fun i=>yks.getD i (.non,[])).map (·.1)) (q.toList.map fun i=>its.getD i Value.none):=by
  have hb:∀ i ∈ q.toList,i < its.length:=fun i hi=>by
   have:i < yks.length:=by simpa using (Array.perm_iff_toList_perm.mp hq).mem_iff.mp hi
   lia
  revert hb
  generalize q.toList = L
  induction L with
  | nil=>exact fun _=>.nil
  | cons i L ih=>
   intro hb
   refine .cons ?_ (ih fun j hj=>hb j (List.mem_cons_of_mem _ hj))
   obtain ⟨yk,_,e2,rl⟩:=atI i (hb i List.mem_cons_self)
   dsimp only
   rw [e2]
   exact rl
 have fresh:s.heap.objs.size <= s.heap.objs.size + 1:=Nat.le_succ _
 refine ⟨.ref (s.heap.objs.size + 1),upd H (s.heap.objs.size + 1) (.lst ((q.toList.map fun i=>yks.getD i (.non,[])).map (·.1))),I.laid (t':=s.toks) (fun b o hb=>sortedAll_old hb) fresh ?_,rfl,?_⟩
 ·refine ⟨by rw [List.length_map,py.length_eq,sizeLine_eq];lia,_,e,hv,at1⟩
 ·refine k _ _ py (wy _ fun i j _ _ h=>?_) (I.hok.fresh fresh)
  rw [<- As]
  exact h
theorem hZ:CallR X (.builtin "sorted") (zY X.K):=call_sortedI.or AX
end
end L2
namespace M
def Ki (a:List Int) (k:Int):List Int:=if a.any (· == k) then a else a ++ [k]
def My (ns:List Int):List Int:=ns.foldl Ki []
end M
namespace L2
open PySem
section
variable {X:Cx}
end
end L2
namespace M
open PySem L2
section
variable {K:W.Frag}
def tG (K:W.Frag) (d:D):TE:=fun _ H Q=>∀ v,(∀ S,Den K S d v) -> Q v H
theorem s_g {d:D}:SE K (tG K d) (xC d):=fun ρ σ S H Q e r x k v hv=>by
 cases x
 exact k v S H (Ext.refl r.sub) (hv S)
end
end M
namespace L2
open PySem M
theorem yV {X:_} {x:Str} {v:V} {u:Value} {pos:Pos} {K:W.Frag} {d:D} (hg:Gl X x) (hm:X.mg x = some u) (r:RelV v u) (hD:∀ S,Den K S d v) (hd:(x == ("__debug__" : Str)) = false:=by decide):PE X (.Name x pos) (tG K d):=
 fun a b c H Q I h=>BS hg hm r hd a b c H Q I (h v hD)
end L2
namespace M
open PySem L2
theorem pH {K:W.Frag} {a:Addr} {o:Obj} {its:Array Value} {n:Nat} {xs:List V} {l:List D} (h:K.lookup a = some o) (hc:o.cls = .type "tuple") (hd:o.data = .seq its n) (hs:its.size <= sizeLine) (hv:Vals xs its.toList) (hD:∀ S,Dens K S l xs) (S:Hp):Den K S (.tup l) (.ref a):=
 den_tup.mpr ⟨a,xs,rfl,(show SqT K S a xs from .inr ⟨o,its,n,h,hc,hd,hs,hv⟩),hD S⟩
@[simp] def Lq (a:XE):XE:=fun ρ=>(a ρ).bind fun d=>match d with | .lst l=>(bS l).bind fun ns=>if ns.length < 4000 then some (.int ((My ns).length:Nat)) else none | _=>none
end M
namespace L2
open PySem
def rh (K:W.Frag) (Ns:List Str) (P:Addr -> Prop):Prop:=∀ N ∈ Ns,∀ C,W.nsIn K mainGlobals N = some (some (.ref C)) -> P C
def Lc (K:W.Frag) (Ns:List Str) (H:Hp) (x:V) (a:Addr) (C dx:Addr) (fs:List (Str × V)):Prop:=x = .ref a /\ (∃ N ∈ Ns,W.nsIn K mainGlobals N = some (some (.ref C))) /\ H a = some (.ins C dx fs)
def Hy (K:W.Frag) (Ns:List Str) (ta:TE) (f:Str):TE:=fun σ H Q=>ta σ H fun x H1=>∃ a C dx fs v,Lc K Ns H1 x a C dx fs /\ fs.lookup f = some v /\ Q v H1
def AU (K:W.Frag) (Ns:List Str) (m:Str) (sp:Sp) (ta:TE) (t:TA):TE:=fun σ H Q=>ta σ H fun x H1=>∃ a C dx fs,Lc K Ns H1 x a C dx fs /\ fs.lookup m = none /\ t σ H1 fun vs H2=>sp (x :: vs) H2 Q E0
def EG (K:W.Frag) (N:Str) (sp:Sp) (t:TA):TE:=fun σ H Q=>∀ C,W.nsIn K mainGlobals N = some (some (.ref C)) -> Hk C sp [] E0 t σ H Q
section
variable {X:Cx} {o e:Expr} {es:List Expr} {f m:Str} {pos apos p:Pos} {ta:TE} {t:TA} {Ns:List Str} {k:Nat} {g C:Addr} {fd:FuncData} {ps:List Str} {sp:Sp}
theorem sX (hc:rh X.K Ns fun C=>Cls X.K C /\ NoAttr X.K C f) (he:PE X e ta) (hb:attributeBase e f X.env (eval e X.env) = eval e X.env):PE X (.Attribute e f pos) (Hy X.K Ns ta f):=by
 intro pins s σ H Q I h
 refine He hb (thn (he pins s σ H _ I h) fun u s1 hpt9=>?_)
 obtain ⟨x,H1,I1,rx,a,C,dx,fs,v,⟨ex,⟨N,hN,hC⟩,ea⟩,l,q⟩:=hpt9
 subst ex
 have eu:u = Value.ref a:=rx
 subst eu
 obtain ⟨c,n⟩:=hc N hN C hC
 exact A3 I1 ea c n l fun u' s2 I2 ru=>⟨v,H1,I2,ru,q⟩
theorem jn {pl:Sem Bool} (hc:rh X.K Ns fun C=>Cls X.K C /\ Meth X.K C m g) (F:FnOk X.prog X.w X.K X.mg X.base CX0 k g fd ps sp) (hr:Room k X.A) (hb:Binds X.K fd ps []) (hx:kB CX0 X E0) (he:PE X o ta) (ha:PA X (e :: es) t)
  (hst:starEach (e :: es) X.env = (false,eval e X.env) :: starEach es X.env:=by rfl) (hpl:(backTo pos (starEach es X.env)).any (·.1) = false:=by rfl)
  (ht:eval (.Call (.Attribute o m apos) (e :: es) [] pos) X.env = (do
   let ov ← eval o X.env
   standAt apos.atName
   let (f,first) ← holding [ov] (getMethod ov m pl)
   callWith pos f first (backTo pos (starEach (e :: es) X.env)) (backToKw pos (keywordEach [] X.env))):=by rfl) :
  PE X (.Call (.Attribute o m apos) (e :: es) [] pos) (AU X.K Ns m sp ta t):=by
 intro pins s σ H Q I h
 refine W.methodCall_KW (pl:=pl) (thn (he pins s σ H _ I h) fun u s1 hpt9=>?_) ht
 obtain ⟨x,H1,I1,rx,a,C,dx,fs,⟨ex,⟨N,hN,hC⟩,ea⟩,l,q⟩:=hpt9
 subst ex
 have eu:u = Value.ref a:=rx
 subst eu
 obtain ⟨c,hm⟩:=hc N hN C hC
 refine vk I1 ea c hm l ?_
 refine W.callWith_K (first:=[.ref a]) (h₀:=X.base) I.ok.mod.kin hm.kp (thn (ha pos pins s1 σ H1 _ I1 q) fun us s2 ⟨vs,H2,I2,r,q2⟩=>⟨I2.kIn,?_⟩) hst hpl
 exact yp (us:=.ref a :: us) (vs:=.ref a :: vs) (dvs:=[]) F hr hb .nil hx I2 (.cons rfl r) (by rw [List.append_nil];exact q2)
theorem rm {pl:Sem Bool} (hc:rh X.K Ns fun C=>Cls X.K C /\ Meth X.K C m g) (F:FnOk X.prog X.w X.K X.mg X.base CX0 k g fd ps sp) (hr:Room k X.A) (hb:Binds X.K fd ps []) (hx:kB CX0 X E0) (he:PE X o ta)
  (ht:eval (.Call (.Attribute o m apos) [] [] pos) X.env = (do
   let ov ← eval o X.env
   standAt apos.atName
   let (f,first) ← holding [ov] (getMethod ov m pl)
   callWith pos f first (backTo pos (starEach [] X.env)) (backToKw pos (keywordEach [] X.env))):=by rfl) :
  PE X (.Call (.Attribute o m apos) [] [] pos) (AU X.K Ns m sp ta sM):=by
 intro pins s σ H Q I h
 refine W.methodCall_KW (pl:=pl) (thn (he pins s σ H _ I h) fun u s1 hpt9=>?_) ht
 obtain ⟨x,H1,I1,rx,a,C,dx,fs,⟨ex,⟨N,hN,hC⟩,ea⟩,l,q⟩:=hpt9
 subst ex
 have eu:u = Value.ref a:=rx
 subst eu
 obtain ⟨c,hm⟩:=hc N hN C hC
 refine vk I1 ea c hm l ?_
 exact W.callWith_K0 (first:=[.ref a]) I1.kIn hm.kp (yp (us:=[.ref a]) (vs:=[.ref a]) (dvs:=[]) F hr hb .nil hx I1 (.cons rfl .nil) q)
structure ClsFn (K:W.Frag) (C:Addr) (m:Str) (f:Addr):Prop where
 sp:W.specialIn K (.ref C) "__getattribute__" = some (some (.builtin "type.__getattribute__"))
 rd:W.readsIn K C (.type "type") = true
 fn:W.findCls K (.ref C) (.type "type") m = some (.val (.ref f))
 kp:W.keepIn K (.ref f) = true
theorem kL {pl:Sem Bool} {B:Str} (cf:ClsFn X.K C m g) (gB:Gl X B) (hm:X.mg B = some (.ref C)) (F:FnOk X.prog X.w X.K X.mg X.base CX0 k g fd ps sp) (hr:Room k X.A) (hb:Binds X.K fd ps []) (hx:kB CX0 X E0) (ha:PA X (e :: es) t) (hdb:(B == ("__debug__" : Str)) = false:=by decide)
  (hst:starEach (e :: es) X.env = (false,eval e X.env) :: starEach es X.env:=by rfl) (hpl:(backTo pos (starEach es X.env)).any (·.1) = false:=by rfl)
  (ht:eval (.Call (.Attribute (.Name B p) m apos) (e :: es) [] pos) X.env = (do
   let ov ← eval (.Name B p) X.env
   standAt apos.atName
   let (f,first) ← holding [ov] (getMethod ov m pl)
   callWith pos f first (backTo pos (starEach (e :: es) X.env)) (backToKw pos (keywordEach [] X.env))):=by rfl) :
  PE X (.Call (.Attribute (.Name B p) m apos) (e :: es) [] pos) (rN sp [] E0 t):=by
 intro pins s σ H Q I h
 refine W.methodCall_KW (pl:=pl) (thn (BS (v:=.ref C) gB hm rfl hdb pins s σ H (fun x H1=>x = .ref C /\ H1 = H) I ⟨rfl,rfl⟩) fun u s1 hpt9=>?_) ht
 obtain ⟨x,H1,I1,rx,ex,eH⟩:=hpt9
 subst ex
 subst eH
 have eu:u = Value.ref C:=rx
 subst eu
 refine W.method_cls I1.kIn cf.sp (W.cls_value I1.kIn cf.rd cf.fn rfl ?_)
 refine W.callWith_K (first:=[]) (h₀:=X.base) I.ok.mod.kin cf.kp (thn (ha pos pins _ σ H1 _ (I1.tok _) h) fun us s2 ⟨vs,H2,I2,r,q2⟩=>⟨I2.kIn,?_⟩) hst hpl
 exact yp F hr hb .nil hx I2 r q2
theorem j7 {N:Str} (hN:W.nsIn X.K mainGlobals N = some (some (.ref C))) (M:Mk X.K C g) (F:FnOk X.prog X.w X.K X.mg X.base CX0 k g fd ps sp) (hr:Room (k + 1) X.A) (hg:Gl X N) (hm:X.mg N = some (.ref C)) (hb:Binds X.K fd ps []) (hx:kB CX0 X E0)
  (ha:PA X (e :: es) t) (hdb:(N == ("__debug__" : Str)) = false:=by decide) (he:starEach (e :: es) X.env = (false,eval e X.env) :: starEach es X.env:=by rfl) (hpl:(backTo pos (starEach es X.env)).any (·.1) = false:=by rfl) :
  PE X (.Call (.Name N p) (e :: es) [] pos) (EG X.K N sp t):=fun a b c d q I h=>Hg M F hr hg hm hb .nil hx ha hdb he hpl a b c d q I (h C hN)
end
end L2
namespace M
open PySem L2
section
variable {K:W.Frag} {S S' H H':Hp}
def vT:List Str -> List D -> Str -> Option D
 | n :: ns,d :: l,f=>if f = n then some d else vT ns l f
 | _,_,_=>none
theorem EX:∀ {fs:List (Str × V)} {l:List D} {f:Str} {d:D},Dens K S l (fs.map (·.2)) -> vT (fs.map (·.1)) l f = some d -> ∃ v,fs.lookup f = some v /\ Den K S d v
 | [],l,f,d,h,e=>by
  cases l <;> simp [vT] at e
 | (n,v) :: fs,l,f,d,h,e=>by
  cases l with
  | nil=>simp [vT] at e
  | cons a l=>
   obtain ⟨y,ys,e1,h1,h2⟩:=h.cons_of
   rw [List.map_cons] at e1
   cases e1
   rw [List.map_cons,vT] at e
   by_cases hf:f = n
   ·rw [if_pos hf] at e
    cases e
    exact ⟨v,by simp [List.lookup,hf],h1⟩
   ·rw [if_neg hf] at e
    obtain ⟨w,q1,q2⟩:=EX h2 e
    have hb:(f == n) = false:=by simpa using hf
    exact ⟨w,by simp [List.lookup,hb,q1],q2⟩
theorem Ek:∀ {fs:List (Str × V)} {f:Str},(fs.map (·.1)).contains f = false -> fs.lookup f = none
 | [],_,_=>rfl
 | (n,v) :: fs,f,h=>by
  simp at h
  have hb:(f == n) = false:=by simpa using h.1
  rw [List.lookup,hb]
  exact Ek (by simpa using h.2)
@[simp] def mH (Ns:List Str) (f:Str) (e:XE):XE:=fun ρ=>(e ρ).bind fun d=>match d with | .ins N ns l=>if Ns.contains N then vT ns l f else none | _=>none
theorem FM {Ns:List Str} {f:Str} {ta:TE} {e:XE} (h:SE K ta e):SE K (Hy K Ns ta f) (mH Ns f e):=fun ρ σ S H Q d r x k=>by
 unfold mH at x
 cases q:e ρ with
 | none=>rw [q] at x;cases x
 | some d0=>
  rw [q] at x
  dsimp only [Option.bind] at x
  cases d0 <;> try (cases x;done)
  rename_i N ns l
  dsimp only at x
  split at x
  ·rename_i hc
   refine h ρ σ S H _ _ r q fun v S1 H1 z1 d1=>?_
   obtain ⟨p,C,dx,fs,rfl,hC,h1,h2,h3⟩:=den_ins.mp d1
   subst h2
   obtain ⟨w,w1,w2⟩:=EX h3 x
   exact ⟨p,C,dx,fs,w,⟨rfl,⟨N,by simpa using hc,hC⟩,z1.sub _ _ h1⟩,w1,k w S1 H1 z1 w2⟩
  ·cases x
@[simp] def fR (Ns:List Str) (m:Str) (g:List D -> Option D) (e:XE) (a:XA):XE:=fun ρ=>(e ρ).bind fun d=>match d with | .ins N ns l=>if Ns.contains N && !ns.contains m then (a ρ).bind fun ds=>g (.ins N ns l :: ds) else none | _=>none
theorem HN {Ns:List Str} {m:Str} {n:Nat} {g:List D -> Option O} {ta:TE} {t:TA} {e:XE} {a:XA} (h:SE K ta e) (ha:SA K t a) (hn:∀ ρ ds,a ρ = some ds -> ds.length = n):SE K (AU K Ns m (c7 K (n + 1) g) ta t) (fR Ns m (fun ds=>(g ds).map O.d) e a):=fun ρ σ S H Q d r x k=>by
 unfold fR at x
 cases q:e ρ with
 | none=>rw [q] at x;cases x
 | some d0=>
  rw [q] at x
  dsimp only [Option.bind] at x
  cases d0 <;> try (cases x;done)
  rename_i N ns l
  dsimp only at x
  split at x
  ·rename_i hc
   rw [Bool.and_eq_true] at hc
   cases qa:a ρ with
   | none=>rw [qa] at x;cases x
   | some ds=>
    rw [qa] at x
    dsimp only at x
    cases qg:g (.ins N ns l :: ds) with
    | none=>rw [qg] at x;cases x
    | some o=>
     rw [qg] at x
     cases x
     refine h ρ σ S H _ _ r q fun v S1 H1 z1 d1=>?_
     obtain ⟨p,C,dx,fs,rfl,hC,h1,h2,h3⟩:=den_ins.mp d1
     refine ⟨p,C,dx,fs,⟨rfl,⟨N,by simpa using hc.1,hC⟩,z1.sub _ _ h1⟩,Ek (by rw [h2];simpa using hc.2),?_⟩
     refine ha ρ σ S1 H1 _ ds (r.ext z1) qa fun vs S2 H2 z2 d2=>?_
     have dd:Dens K S2 (.ins N ns l :: ds) (.ref p :: vs):=.cons (d1.mono z2.sh) d2
     refine ⟨by rw [List.length_cons,<- d2.length,hn ρ ds qa],S2,_,o,z2.sub,dd,qg,fun v fp S3 H3 z3 ow nd fr=>?_⟩
     exact k v _ H3 ((z1.trans z2).trans (zd z3 fr)) (ow.den (mP fun b hb=>(fr b hb).2) fun b hb=>tD hb)
  ·cases x
def k9 (K:W.Frag) (Ns:List Str) (f:Str) (n:Nat) (mi:List D -> Option D):Sp:=fun vs H Q _=>vs.length = n + 1 /\ ∃ x rest C dx S ds d,vs = .ref x :: rest /\ H x = some (.ins C dx []) /\ (∃ N ∈ Ns,W.nsIn K mainGlobals N = some (some (.ref C))) /\ S x = none /\ Same S H /\ Dens K S ds rest /\ mi ds = some d /\
 ∀ S' H' v,Ext S H S' H' -> Den K S' d v -> Q .non (upd H' x (.ins C dx [(f,v)]))
def Ef:List D -> Option D
 | [d]=>some d
 | _=>none
theorem EM {Ns:List Str} {f:Str} {vs:List V} {H:Hp} {Q:VK} {E:XK} (hc:rh K Ns fun C=>Cls K C /\ NoAttr K C f) {N:List Str} (h:k9 K Ns f 1 Ef vs H Q E):Kq K (sw 0) (sw 1) f { nx:=fun _ H'=>Q .non H',rt:=Q } (L2.bd N vs) H:=by
 obtain ⟨_,x,rest,C,dx,S,ds,d,rfl,hx,⟨M,hM,hC⟩,nS,sub,dd,e,k⟩:=h
 match ds,e with
 | [d'],e=>
  cases e
  obtain ⟨v,ys,rfl,dv,dn⟩:=dd.cons_of
  cases dn.nil_of
  obtain ⟨c,n⟩:=hc M hM C hC
  exact ⟨v,rfl,.ref x,rfl,x,C,dx,[],rfl,hx,c,n,by decide,k S H v (Ext.refl sub) dv⟩
theorem BP {x:Addr} {ds:List D} {vs:List V} (s:Same S H) (h:Dens K S ds vs):Rl K (.lo :: ds.map .sh) (some (.ref x) :: vs.map some) S H:=by
 have hl:=h.length
 refine ⟨fun _=>none,fun i=>if i = 0 then some x else none,fun _=>[],?_⟩
 have ge:∀ (i:Nat) t,(Sl.lo :: ds.map Sl.sh)[i]? = some t -> (i = 0 /\ t = .lo) \/ ∃ d v,t = .sh d /\ (some (V.ref x) :: vs.map some)[i]? = some (some v) /\ Den K S d v:=fun i t ht=>by
  cases i with
  | zero=>cases ht;exact .inl ⟨rfl,rfl⟩
  | succ i=>
   rw [List.getElem?_cons_succ,List.getElem?_map] at ht
   cases q:ds[i]? with
   | none=>rw [q] at ht;cases ht
   | some d=>
    rw [q] at ht
    cases ht
    obtain ⟨v,e1,e2⟩:=h.get q
    refine .inr ⟨d,v,rfl,?_,e2⟩
    rw [List.getElem?_cons_succ,List.getElem?_map,e1]
    rfl
 exact {
  len:=by rw [List.length_cons,List.length_cons,List.length_map,List.length_map,hl]
  sub:=s
  sh:=fun i d hi=>by
   rcases ge i _ hi with ⟨_,e⟩ | ⟨d',v,e,h1,h2⟩
   ·cases e
   ·cases e;exact ⟨v,h1,h2⟩
  ow:=fun i o hi=>by
   rcases ge i _ hi with ⟨_,e⟩ | ⟨d',v,e,h1,h2⟩
   ·cases e
   ·cases e
  dj:=fun i j o o' _ hi _=>by
   rcases ge i _ hi with ⟨_,e⟩ | ⟨d',v,e,h1,h2⟩
   ·cases e
   ·cases e
  lo:=fun i hi=>by
   rcases ge i _ hi with ⟨rfl,e⟩ | ⟨d',v,e,h1,h2⟩
   ·exact ⟨x,rfl,rfl⟩
   ·cases e
  asub:=fun b o e=>by cases e
  adis:=fun b=>.inr rfl }
def zS (xt:XT) (xe:XE) (ds:List D):Option D:=if xt (.lo :: ds.map .sh) = some false then xe (.lo :: ds.map .sh) else none
def KG (xe:XE) (ds:List D):Option D:=xe (.lo :: ds.map .sh)
theorem Ag {Ns:List Str} {f:Str} {te:TE} {xe:XE} {x:Addr} {rest:List V} {C dx:Addr} {ds:List D} {d:D} {S H:Hp} {Dd:_} {Q:VK} (he:SE K te xe) (sub:Same S H) (dd:Dens K S ds rest) (hx:H x = some (.ins C dx [])) (hc:∃ N ∈ Ns,W.nsIn K mainGlobals N = some (some (.ref C))) (nS:S x = none)
  (e:xe (.lo :: ds.map .sh) = some d) (hD:Dd = ({ nx:=fun _ H'=>Q .non H',rt:=Q }:_)) (k:∀ S' H' v,Ext S H S' H' -> Den K S' d v -> Q .non (upd H' x (.ins C dx [(f,v)]))) :
  wl (rN (k9 K Ns f 1 Ef) [] E0 (jg (sw 0) (jg te sM))) Dd (some (.ref x) :: rest.map some) H:=by
 subst hD
 refine ⟨.ref x,rfl,he _ _ S H _ d (BP sub dd) e fun v S1 H1 z1 d1=>?_⟩
 refine ⟨rfl,x,[v],C,dx,S1,[d],d,rfl,(z1.al x _ hx nS).1,hc,(z1.al x _ hx nS).2,z1.sub,.cons d1 .nil,rfl,fun S2 H2 w z2 d2=>k S2 H2 w (z1.trans z2) d2⟩
theorem uR {Ns:List Str} {f:Str} {n:Nat} {tt:TT} {xt:XT} {te:TE} {xe:XE} {N:List Str} {vs:List V} {H:Hp} {Q:VK} {E:XK} (ht:ST K tt xt) (he:SE K te xe) (hN:N.length = n + 1) (h:k9 K Ns f n (zS xt xe) vs H Q E) :
  Iw (HL tt Fl Fd) (wl (rN (k9 K Ns f 1 Ef) [] E0 (jg (sw 0) (jg te sM)))) { nx:=fun _ H'=>Q .non H',rt:=Q } (L2.bd N vs) H:=by
 obtain ⟨hl,x,rest,C,dx,S,ds,d,rfl,hx,hc,nS,sub,dd,e,k⟩:=h
 have es:L2.bd N (.ref x :: rest) = some (.ref x) :: rest.map some:=by
  unfold L2.bd
  rw [hl,hN,Nat.sub_self]
  simp
 unfold zS at e
 split at e
 ·rename_i q
  rw [es]
  refine ht _ _ S H _ false (BP sub dd) q fun S1 H1 z1=>?_
  rw [if_neg Bool.false_ne_true]
  exact Ag he z1.sub (dd.mono z1.sh) (z1.al x _ hx nS).1 hc (z1.al x _ hx nS).2 e rfl fun S2 H2 w z2 d2=>k S2 H2 w (z1.trans z2) d2
 ·cases e
theorem CZ {Ns:List Str} {f:Str} {n:Nat} {te:TE} {xe:XE} {N:List Str} {vs:List V} {H:Hp} {Q:VK} {E:XK} (he:SE K te xe) (hN:N.length = n + 1) (h:k9 K Ns f n (KG xe) vs H Q E) :
  wl (rN (k9 K Ns f 1 Ef) [] E0 (jg (sw 0) (jg te sM))) { nx:=fun _ H'=>Q .non H',rt:=Q } (L2.bd N vs) H:=by
 obtain ⟨hl,x,rest,C,dx,S,ds,d,rfl,hx,hc,nS,sub,dd,e,k⟩:=h
 have es:L2.bd N (.ref x :: rest) = some (.ref x) :: rest.map some:=by
  unfold L2.bd
  rw [hl,hN,Nat.sub_self]
  simp
 rw [es]
 exact Ag he sub dd hx hc nS e rfl k
@[simp] def nt (N f:Str) (mi:List D -> Option D) (a:XA):XE:=fun ρ=>((a ρ).bind mi).map fun d=>.ins N [f] [d]
theorem Jr {Ns:List Str} {N f:Str} {n:Nat} {mi:List D -> Option D} {t:TA} {a:XA} (hN:N ∈ Ns) (h:SA K t a) (hn:∀ ρ ds,a ρ = some ds -> ds.length = n):SE K (EG K N (k9 K Ns f n mi) t) (nt N f mi a):=fun ρ σ S H Q d r x k C hC=>by
 unfold nt at x
 cases q:a ρ with
 | none=>rw [q] at x;cases x
 | some ds=>
  rw [q] at x
  dsimp only [Option.bind] at x
  cases q2:mi ds with
  | none=>rw [q2] at x;cases x
  | some d0=>
   rw [q2] at x
   cases x
   refine h ρ σ S H _ ds r q fun vs S1 H1 z1 d1=>?_
   intro x dx nx ndx nex
   have s0:Same S1 (upd (upd H1 dx (.own x)) x (.ins C dx [])):=fun b o e=>by
    have e':=z1.sub b o e
    rw [a7 (bh e' nx),a7 (bh e' ndx)]
    exact e'
   have nS:S1 x = none:=z1.sub.free nx
   refine ⟨by rw [List.append_nil,List.length_cons,<- d1.length,hn ρ ds q],x,vs,C,dx,S1,ds,d0,by rw [List.append_nil],a8,⟨N,hN,hC⟩,nS,s0,d1,q2,fun S2 H2 v z2 d2=>⟨rfl,?_⟩⟩
   have hx2:=z2.al x _ a8 nS
   have z3:Ext S1 H1 (upd S2 x (.ins C dx [(f,v)])) (upd H2 x (.ins C dx [(f,v)])):={
    sh:=fun b o e=>by
     rw [a7 (bh (z1.sub b o e) nx)]
     exact z2.sh b o e
    sub:=fun b o e=>by
     by_cases hb:b = x
     ·subst hb;rw [a8] at e ⊢;exact e
     ·rw [a7 hb] at e ⊢;exact z2.sub b o e
    al:=fun b o e ne=>by
     have hb:=bh e nx
     rw [a7 hb,a7 hb]
     exact z2.al b o (by rw [a7 hb,a7 (bh e ndx)];exact e) ne }
   refine k (.ref x) _ _ (z1.trans z3) (den_ins.mpr ⟨x,C,dx,[(f,v)],rfl,hC,a8,rfl,?_⟩)
   refine .cons (d2.mono fun b o e=>?_) .nil
   rw [a7 (bh e hx2.2)]
   exact e
end
end M
namespace M
def j8:List Int -> Int
 | []=>0
 | [a]=>a
 | a :: l=>min a (j8 l)
def lL:List Int -> Int
 | []=>0
 | [a]=>a
 | a :: l=>max a (lL l)
theorem w6 (a b:Int) (l:List Int):j8 (a :: b :: l) = min a (j8 (b :: l)):=rfl
theorem C3 (a b:Int) (l:List Int):lL (a :: b :: l) = max a (lL (b :: l)):=rfl
theorem xi:∀ (a:Int) (l:List Int),j8 (a :: l) ∈ a :: l /\ ∀ b ∈ a :: l,j8 (a :: l) <= b
 | a,[]=>⟨List.mem_cons_self,fun b hb=>by rw [List.mem_singleton] at hb;subst hb;exact Int.le_refl _⟩
 | a,c :: l=>by
  obtain ⟨h1,h2⟩:=xi c l
  rw [w6]
  refine ⟨?_,fun b hb=>?_⟩
  ·rcases Int.le_total a (j8 (c :: l)) with h | h
   ·rw [Int.min_eq_left h];exact List.mem_cons_self
   ·rw [Int.min_eq_right h];exact List.mem_cons_of_mem _ h1
  ·rcases List.mem_cons.mp hb with rfl | hb
   ·exact Int.min_le_left _ _
   ·exact Int.le_trans (Int.min_le_right _ _) (h2 b hb)
theorem wa:∀ (a:Int) (l:List Int),lL (a :: l) ∈ a :: l /\ ∀ b ∈ a :: l,b <= lL (a :: l)
 | a,[]=>⟨List.mem_cons_self,fun b hb=>by rw [List.mem_singleton] at hb;subst hb;exact Int.le_refl _⟩
 | a,c :: l=>by
  obtain ⟨h1,h2⟩:=wa c l
  rw [C3]
  refine ⟨?_,fun b hb=>?_⟩
  ·rcases Int.le_total a (lL (c :: l)) with h | h
   ·rw [Int.max_eq_right h];exact List.mem_cons_of_mem _ h1
   ·rw [Int.max_eq_left h];exact List.mem_cons_self
  ·rcases List.mem_cons.mp hb with rfl | hb
   ·exact Int.le_max_left _ _
   ·exact Int.le_trans (h2 b hb) (Int.le_max_right _ _)
theorem xm {ns:List Int} {m:Int} (h1:m ∈ ns) (h2:∀ a,a ∈ ns -> m <= a):j8 ns = m:=by
 cases ns with
 | nil=>cases h1
 | cons a l=>
  obtain ⟨k1,k2⟩:=xi a l
  exact Int.le_antisymm (k2 m h1) (h2 _ k1)
theorem C5 {ns:List Int} {m:Int} (h1:m ∈ ns) (h2:∀ a,a ∈ ns -> a <= m):lL ns = m:=by
 cases ns with
 | nil=>cases h1
 | cons a l=>
  obtain ⟨k1,k2⟩:=wa a l
  exact Int.le_antisymm (h2 _ k1) (k2 m h1)
end M
namespace L2
open PySem PySem.Spec PyProof.Rows
section
variable {prog:Program} {w:World} {A:Around} {E:Value -> Shared -> Prop} {s:Shared}
theorem zb {l:Addr} {vs:List Value} {ns:List Int} {Q:Value -> Shared -> Prop} (hh:A.handled = none) (hl:s.heap.IsList l vs.toArray) (hi:IntsAre vs ns) (hne:0 < ns.length)
  (h:∀ (h':Heap) (t:Tok) (tk:Nat),(∀ b o,s.heap.get? b = some o -> h'.get? b = some o) -> Q (.int (M.j8 ns) t) { s with heap:=h',toks:=tk }):wpAny (model prog w) A (call (.builtin "min") [.ref l]) Q E s:=by
 obtain ⟨xs,e⟩:=hi.allInts.items
 have hns:ns = xs.toList.map (·.1):=by rw [<- hi.numsOf,<- nums_intItems,<- e]
 have hsz:0 < xs.size:=by have h3:=hne;rw [hns,List.length_map,Array.length_toList] at h3;exact h3
 rw [e] at hl;refine min_intList hh hl hsz fun v h' tk hv hk=>?_
 obtain ⟨t,rfl⟩:=intItems_at hv;obtain ⟨h1,h2⟩:=argBest_lt (numAt xs) (xs.size - 1)
 have em:M.j8 ns = numAt xs (argBest (fun i j=>decide (numAt xs i < numAt xs j)) (xs.size - 1)):=by
  refine M.xm ?_ fun a ha=>?_
  ·rw [hns,numAt_eq];exact getD_mem (by rw [List.length_map,Array.length_toList];lia)
  ·rw [hns] at ha;obtain ⟨j,hj,rfl⟩:=mem_getD ha;rw [List.length_map,Array.length_toList] at hj;rw [<- numAt_eq];exact h2 j (by lia)
 rw [<- em];exact h h' t tk hk
theorem yR {l:Addr} {vs:List Value} {ns:List Int} {Q:Value -> Shared -> Prop} (hh:A.handled = none) (hl:s.heap.IsList l vs.toArray) (hi:IntsAre vs ns) (hne:0 < ns.length)
  (h:∀ (h':Heap) (t:Tok) (tk:Nat),(∀ b o,s.heap.get? b = some o -> h'.get? b = some o) -> Q (.int (M.lL ns) t) { s with heap:=h',toks:=tk }):wpAny (model prog w) A (call (.builtin "max") [.ref l]) Q E s:=by
 obtain ⟨xs,e⟩:=hi.allInts.items
 have hns:ns = xs.toList.map (·.1):=by rw [<- hi.numsOf,<- nums_intItems,<- e]
 have hsz:0 < xs.size:=by have h3:=hne;rw [hns,List.length_map,Array.length_toList] at h3;exact h3
 rw [e] at hl;refine max_intList hh hl hsz fun v h' tk hv hk=>?_
 obtain ⟨t,rfl⟩:=intItems_at hv;obtain ⟨h1,h2⟩:=argBest_gt (numAt xs) (xs.size - 1)
 have em:M.lL ns = numAt xs (argBest (fun i j=>decide (numAt xs i > numAt xs j)) (xs.size - 1)):=by
  refine M.C5 ?_ fun a ha=>?_
  ·rw [hns,numAt_eq];exact getD_mem (by rw [List.length_map,Array.length_toList];lia)
  ·rw [hns] at ha;obtain ⟨j,hj,rfl⟩:=mem_getD ha;rw [List.length_map,Array.length_toList] at hj;rw [<- numAt_eq];exact h2 j (by lia)
 rw [<- em];exact h h' t tk hk
theorem DC (a b c d:Value):argsOk "min" ⟨[a,b,c,d],[]⟩:=by unfold argsOk;kernel_rfl
theorem Dl {a b c d:Value} {Q:Value -> Shared -> Prop}
  (h:wpAny (model prog w) A.in1 (pyIter (.ref s.heap.objs.size)) (fun it s₂=>∃ I fp wr n P St bt,it = .ref I /\ Walks prog w A.in1 I fp wr n P St /\ St 0 s₂.heap /\ (∀ b ∈ fp,b < s₂.heap.objs.size) /\ 0 < n /\ CmpOf prog w A.in1 .Lt P bt /\ ∀ v h' tk,P (argBest bt (n - 1)) v -> (∀ b o,b ∉ wr -> s₂.heap.get? b = some o -> h'.get? b = some o) -> Q v { s₂ with heap:=h',toks:=tk }) E { s with heap:=s.heap.push { cls:=.type "tuple",data:=.seq #[a,b,c,d] } }) :
  wpAny (model prog w) A (call (.builtin "min") [a,b,c,d]) Q E s:=by
 have hname:(toString "min" ++ toString ".loop" : String) = "min.loop" := by decide
 refine call_function_tree F.kind_min F.plain_min F.entry_min (DC _ _ _ _) ?_;show wpAny _ A.in1 (Builtin.Builtins.bindParams "min" ["key", "default"] 0 ⟨[],[]⟩ >>= _) _ _ s
 refine wpAny_bind (wpAny_of_eq (show Builtin.Builtins.bindParams "min" ["key", "default"] 0 ⟨[],[]⟩ = pure [none,none] from rfl) ?_);show wpAny _ A.in1 (newTuple [a,b,c,d] >>= _) _ _ s
 refine wpAny_bind (wpAny_newObj_type ?_);refine wpAny_bind (wpAny_mono h (fun it s₂ h₂=>?_) fun _ _ e=>e);obtain ⟨I,fp,wr,n,P,St,bt,rfl,W,hst,hfp,hn,hcmp,hQ⟩:=h₂
 refine wpAny_bind (wpAny_newObj_type ?_);have hSf:s₂.heap.objs.size ∉ fp:=fun hm=>Nat.lt_irrefl _ (hfp _ hm)
 rw [hname];refine wpAny_pure ⟨plainId_quiet F.plain_min_loop _,codeAny_min_loop_first W bt hcmp s₂.heap.objs.size hSf hn (W.frame _ _ _ hst fun b _ o e=>Heap.get?_push_of_some _ e) (Heap.get?_push_size _ rfl) fun v h' tk hP hk=>?_⟩
 exact hQ v h' tk hP fun b o hbw e=>hk b o hbw (Nat.ne_of_lt (Heap.lt_size e)) (Heap.get?_push_of_some _ e)
theorem zw {a b c d:Int} {t u x y:Tok} {Q:Value -> Shared -> Prop} (hh:A.handled = none) (h:∀ (h':Heap) (z:Tok) (tk:Nat),(∀ b o,s.heap.get? b = some o -> h'.get? b = some o) -> Q (.int (M.j8 [a,b,c,d]) z) { s with heap:=h',toks:=tk }) :
  wpAny (model prog w) A (call (.builtin "min") [.int a t,.int b u,.int c x,.int d y]) Q E s:=by
 have hT:(s.heap.push { cls:=.type "tuple",data:=.seq #[.int a t,.int b u,.int c x,.int d y] }).IsTuple s.heap.objs.size (intItems #[(a,t),(b,u),(c,x),(d,y)]):=⟨_,Heap.get?_push_size _ rfl,rfl,0,by simp [intItems]⟩
 refine Dl (wpAny_pyIter_tuple hT ?_);have hsz:(s.heap.push { cls:=.type "tuple",data:=.seq #[.int a t,.int b u,.int c x,.int d y] }).objs.size = s.heap.objs.size + 1:=Heap.size_push ..
 refine ⟨_,[_,s.heap.objs.size],[_],_,_,_,_,rfl,Walks.tuple (A:=A.in1) hh _ s.heap.objs.size (by rw [hsz];exact Nat.ne_of_lt (Nat.lt_succ_self _)) (intItems #[(a,t),(b,u),(c,x),(d,y)]),⟨⟨_,Heap.get?_push_size _ rfl,rfl,rfl⟩,hT.push _⟩,fun e hd=>?_,by simp [intItems],CmpOf.ints_lt (numAt #[(a,t),(b,u),(c,x),(d,y)]) (fun _ _=>intItems_at),fun v h' tk hP hk=>?_⟩
 ·show e < ((s.heap.push _).push _).objs.size
  rw [Heap.size_push,hsz];rcases List.mem_cons.mp hd with rfl | hd
  ·rw [hsz];exact Nat.lt_succ_self _
  ·rcases List.mem_cons.mp hd with rfl | hd
   ·exact Nat.lt_succ_of_lt (Nat.lt_succ_self _)
   ·cases hd
 ·have hold:∀ z o,s.heap.get? z = some o -> h'.get? z = some o:=fun z o e=>by
   refine hk z o (fun hm=>?_) (Heap.get?_push_of_some _ (Heap.get?_push_of_some _ e));rcases List.mem_cons.mp hm with e1 | hm
   ·have:=Heap.lt_size e;rw [e1,hsz] at this;exact Nat.lt_irrefl _ (Nat.lt_of_succ_lt this)
   ·cases hm
  have hP':(intItems #[(a,t),(b,u),(c,x),(d,y)])[argBest (fun i j=>decide (numAt #[(a,t),(b,u),(c,x),(d,y)] i < numAt #[(a,t),(b,u),(c,x),(d,y)] j)) 3]? = some v:=by
   have hsz2:(intItems #[(a,t),(b,u),(c,x),(d,y)]).size - 1 = 3:=by simp [intItems]
   rw [<- hsz2];exact hP
  obtain ⟨z,rfl⟩:=intItems_at hP';obtain ⟨h1,h2⟩:=argBest_lt (numAt #[(a,t),(b,u),(c,x),(d,y)]) 3
  have em:M.j8 [a,b,c,d] = numAt #[(a,t),(b,u),(c,x),(d,y)] (argBest (fun i j=>decide (numAt #[(a,t),(b,u),(c,x),(d,y)] i < numAt #[(a,t),(b,u),(c,x),(d,y)] j)) 3):=by
   have k0:=h2 0 (by lia);have k1:=h2 1 (by lia);have k2:=h2 2 (by lia);have k3:=h2 3 (by lia)
   generalize hg:argBest (fun i j=>decide (numAt #[(a,t),(b,u),(c,x),(d,y)] i < numAt #[(a,t),(b,u),(c,x),(d,y)] j)) 3 = g at h1 k0 k1 k2 k3 ⊢
   refine M.xm ?_ fun e he=>?_
   ·rcases (show g = 0 \/ g = 1 \/ g = 2 \/ g = 3 by lia) with rfl | rfl | rfl | rfl <;> simp [numAt]
   ·simp only [List.mem_cons,List.not_mem_nil,or_false] at he
    rcases he with rfl | rfl | rfl | rfl
    ·exact k0
    ·exact k1
    ·exact k2
    ·exact k3
  rw [<- em];exact h h' z tk hold
end
def FR (K:W.Frag):List V -> Hp -> VK -> Prop:=fun xs H Q=>∃ p,∃ ns:List Int,xs = [.ref p] /\ SqL K H p (ns.map V.int) /\ 0 < ns.length /\ Q (.int (M.j8 ns)) H
def E7 (K:W.Frag):List V -> Hp -> VK -> Prop:=fun xs H Q=>∃ p,∃ ns:List Int,xs = [.ref p] /\ SqL K H p (ns.map V.int) /\ 0 < ns.length /\ Q (.int (M.lL ns)) H
def HC:List V -> Hp -> VK -> Prop:=fun xs H Q=>∃ a b c d,xs = [.int a,.int b,.int c,.int d] /\ Q (.int (M.j8 [a,b,c,d])) H
section
variable {X:Cx}
theorem AM (hc:X.calm = true):CallR X (.builtin "min") (FR X.K):=by
 intro pins s σ H xs us Q I r h
 obtain ⟨p,ns,rfl,hS,hne,q⟩:=h
 obtain ⟨u,rfl,ru⟩:=r.one
 cases ru
 obtain ⟨its,rv,pl,hz⟩:=I.list hS
 exact zb (I.ok.hd hc) pl.isList (i6 rv) hne fun h' t tk k=>⟨.int (M.j8 ns),H,I.kept k,⟨t,rfl⟩,q⟩
theorem BJ (hc:X.calm = true):CallR X (.builtin "max") (E7 X.K):=by
 intro pins s σ H xs us Q I r h
 obtain ⟨p,ns,rfl,hS,hne,q⟩:=h
 obtain ⟨u,rfl,ru⟩:=r.one
 cases ru
 obtain ⟨its,rv,pl,hz⟩:=I.list hS
 exact yR (I.ok.hd hc) pl.isList (i6 rv) hne fun h' t tk k=>⟨.int (M.lL ns),H,I.kept k,⟨t,rfl⟩,q⟩
theorem Db (hc:X.calm = true):CallR X (.builtin "min") HC:=by
 intro pins s σ H xs us Q I r h
 obtain ⟨a,b,c,d,rfl,q⟩:=h
 cases r with
 | cons r1 r=>cases r with
  | cons r2 r=>cases r with
   | cons r3 r=>cases r with
    | cons r4 r=>
     cases r
     obtain ⟨t,rfl⟩:=r1
     obtain ⟨t2,rfl⟩:=r2
     obtain ⟨t3,rfl⟩:=r3
     obtain ⟨t4,rfl⟩:=r4
     exact zw (I.ok.hd hc) fun h' t tk k=>⟨.int (M.j8 [a,b,c,d]),H,I.kept k,⟨t,rfl⟩,q⟩
end
end L2
namespace M
open PySem L2
def zt:List D -> Option D
 | [.lst l]=>(bS l).bind fun ns=>if 0 < ns.length then some (.int (j8 ns)) else none
 | _=>none
def Ax:List D -> Option D
 | [.lst l]=>(bS l).bind fun ns=>if 0 < ns.length then some (.int (lL ns)) else none
 | _=>none
def BQ:List D -> Option D
 | [.int a,.int b,.int c,.int d]=>some (.int (j8 [a,b,c,d]))
 | _=>none
section
variable {K:W.Frag}
theorem IY:SRB K (FR K) zt:=fun S H vs ds g Q s d q k=>by
 unfold zt at q
 split at q
 ·rename_i l
  cases qi:bS l with
  | none=>rw [qi] at q;cases q
  | some ns=>
   rw [qi] at q
   dsimp only [Option.bind] at q
   split at q
   ·rename_i hne
    cases q
    obtain ⟨v,rfl,d1⟩:=iV d
    obtain ⟨p,xs,rfl,h1,h2⟩:=d1.lst s
    obtain ⟨e,_⟩:=jX h2 qi
    subst e
    exact ⟨p,ns,rfl,.inl h1,hne,k _ S H (Ext.refl s) (den_int.mpr rfl)⟩
   ·cases q
 ·cases q
theorem HZ:SRB K (E7 K) Ax:=fun S H vs ds g Q s d q k=>by
 unfold Ax at q
 split at q
 ·rename_i l
  cases qi:bS l with
  | none=>rw [qi] at q;cases q
  | some ns=>
   rw [qi] at q
   dsimp only [Option.bind] at q
   split at q
   ·rename_i hne
    cases q
    obtain ⟨v,rfl,d1⟩:=iV d
    obtain ⟨p,xs,rfl,h1,h2⟩:=d1.lst s
    obtain ⟨e,_⟩:=jX h2 qi
    subst e
    exact ⟨p,ns,rfl,.inl h1,hne,k _ S H (Ext.refl s) (den_int.mpr rfl)⟩
   ·cases q
 ·cases q
theorem Gm {S H:Hp} {a b c d:D} {vs:List V} (h:DensP K S H [a,b,c,d] vs):∃ v w x y,vs = [v,w,x,y] /\ DenP K S H a v /\ DenP K S H b w /\ DenP K S H c x /\ DenP K S H d y:=by
 cases h with
 | cons h1 h=>cases h with
  | cons h2 h=>cases h with
   | cons h3 h=>cases h with
    | cons h4 h=>cases h;exact ⟨_,_,_,_,rfl,h1,h2,h3,h4⟩
theorem IQ:SRB K HC BQ:=fun S H vs ds g Q s d q k=>by
 unfold BQ at q
 split at q
 ·rename_i a b c e
  cases q
  obtain ⟨v,w,x,y,rfl,d1,d2,d3,d4⟩:=Gm d
  exact ⟨a,b,c,e,by rw [d1.int,d2.int,d3.int,d4.int],k _ S H (Ext.refl s) (den_int.mpr rfl)⟩
 ·cases q
end
end M
namespace L2
open PySem
theorem fL {XN:List Str} {sc scope:Scope} {N:List Str} {js:List (Option Nat)} (h1:scope.kind = .function:=by rfl) (h2:∀ y ∈ scope.names,y.2 ≠ .cell:=by decide +kernel) (h3:∀ y ∈ scope.names,y.2 = .free -> sc.names.lookup y.1 = some .cell \/ sc.names.lookup y.1 = some .free:=by decide +kernel)
  (h4:∀ y ∈ scope.names,y.2 = .local -> scope.names.lookup y.1 = some .local:=by decide +kernel) (h5:js.length = N.length:=by rfl) (h6:((N.zip js).all fun p=>match p.2 with | none=>true | some j=>decide (XN[j]? = some p.1) && decide (scope.names.lookup p.1 = some .free)) = true:=by decide +kernel):CmpOk XN sc scope N js:=⟨h1,h2,h3,h4,h5,h6⟩
end L2
namespace M
open PySem L2
@[simp] def LD (m:List D -> Option D) (e:D) (a:XA):XE:=fun ρ=>(a ρ).bind fun ds=>m (ds ++ [e])
section
variable {K:W.Frag}
end
end M
namespace L2
open PySem
section
variable {P:Program} {w:World} {K:W.Frag} {mg:Str -> Option Value} {base:Heap}
end
end L2
namespace L2
open PySem PySem.Spec PyProof.Rows
structure CmpOkC (XN:List Str) (sc scope:Scope) (N:List Str) (js:List (Option Nat)) (t:Str):Prop where
 kind:scope.kind = .function
 free:∀ y ∈ scope.names,y.2 = .free -> sc.names.lookup y.1 = some .cell \/ sc.names.lookup y.1 = some .free
 loc:∀ y ∈ scope.names,y.2 = .local -> scope.names.lookup y.1 = some .local
 len:js.length = N.length
 ix:((N.zip js).all fun p=>match p.2 with | none=>true | some j=>decide (XN[j]? = some p.1) && decide (scope.names.lookup p.1 = some .free)) = true
 cell1:∀ y ∈ scope.names,y.2 = .cell -> y.1 = t
 tl:scope.names.lookup t = some .cell
 laid:∀ n acc,cellsFrom n scope.names acc = (t,n) :: acc
 pushed:∀ h,pushCells h scope.names = h.push { cls:=.type "cell",data:=.cell none }
theorem HR {XN:List Str} {sc scope:Scope} {N:List Str} {js:List (Option Nat)} {t:Str} (h1:scope.kind = .function:=by rfl) (h3:∀ y ∈ scope.names,y.2 = .free -> sc.names.lookup y.1 = some .cell \/ sc.names.lookup y.1 = some .free:=by decide +kernel)
  (h4:∀ y ∈ scope.names,y.2 = .local -> scope.names.lookup y.1 = some .local:=by decide +kernel) (h5:js.length = N.length:=by rfl) (h6:((N.zip js).all fun p=>match p.2 with | none=>true | some j=>decide (XN[j]? = some p.1) && decide (scope.names.lookup p.1 = some .free)) = true:=by decide +kernel)
  (h7:∀ y ∈ scope.names,y.2 = .cell -> y.1 = t:=by decide +kernel) (h8:scope.names.lookup t = some .cell:=by decide +kernel) (h9:∀ n acc,cellsFrom n scope.names acc = (t,n) :: acc:=by intro n acc;rfl) (h10:∀ h,pushCells h scope.names = h.push { cls:=.type "cell",data:=.cell none }:=by intro h;rfl):CmpOkC XN sc scope N js t:=⟨h1,h3,h4,h5,h6,h7,h8,h9,h10⟩
def cxD (t:Str) (X:Cx) (N:List Str) (scope:Scope) (z:CxZ):Cx:={ cxC X N scope z with fn:=fun y=>y == t }
theorem lY {env:Env}:∀ {names:List (Str × NameKind)} {x:Str} {j:NameKind},(j = .cell \/ j = .free) ->
  (names.map fun (n,k)=>if (k == NameKind.free && env.scope.kind == .function && env.kindOf n == some .cell) then (n,NameKind.cell) else (n,k)).lookup x = some j -> (x,NameKind.free) ∈ names \/ (x,NameKind.cell) ∈ names
 | [],_,_,_,h=>by simp at h
 | (n,k) :: r,x,j,hj,h=>by
  have ih:=@lY env r x j hj
  rw [List.map_cons] at h
  dsimp only at h
  cases q:x == n with
  | true=>
   have e:x = n:=by simpa using q
   subst e
   split at h
   ·rename_i g
    have:k = .free:=by simp only [Bool.and_eq_true,beq_iff_eq] at g;exact g.1.1
    subst this
    exact .inl List.mem_cons_self
   ·rw [List.lookup_cons,q] at h
    cases h
    rcases hj with z | z
    ·rw [z];exact .inr List.mem_cons_self
    ·rw [z];exact .inl List.mem_cons_self
  | false=>
   have h':(r.map fun (n,k)=>if (k == NameKind.free && env.scope.kind == .function && env.kindOf n == some .cell) then (n,NameKind.cell) else (n,k)).lookup x = some j:=by
    split at h
    ·rw [List.lookup_cons,q] at h;exact h
    ·rw [List.lookup_cons,q] at h;exact h
   exact (ih h').imp (List.mem_cons_of_mem _) (List.mem_cons_of_mem _)
section
variable {X:Cx} {pins:List (Addr × Obj)} {σ:St} {H:Hp} {s:Shared} {XN N:List Str} {sc scope:Scope} {js:List (Option Nat)}
theorem GQ {M:Model} {A:Around} {E:Value -> Shared -> Prop} {t:Str} {cl:List (Str × Addr)} {globals:Addr} {qual:Str} {env:Env} {Q:Env -> Shared -> Prop} (ck:CmpOkC XN sc scope N js t)
  (h:Q { scope:=scope,locals:=s.heap.objs.size,globals:=globals,cells:=(t,s.heap.objs.size + 1) :: cl,qual:=qual,func:=none,code:=env.code,frame:=env.frame,builtins:=env.builtins } { s with heap:=(s.heap.push { cls:=.type "dict",data:=.dict #[] }).push { cls:=.type "cell",data:=.cell none } }):wpAny M A (newFunctionEnv scope globals cl [] qual none .none (some env)) Q E s:=by
 simp only [newFunctionEnv,Option.isSome_some,if_true]
 refine wpAny_bind (wpAny_alloc ?_)
 refine wpAny_bind (wpAny_layCells _ (fun name kind cells=>by cases hkc:kind == NameKind.cell <;> simp [hkc]) _ _ _ _ ?_)
 rw [ck.pushed,ck.laid,show ({ s with heap:=s.heap.push { cls:=.type "dict",data:=.dict #[] } }:Shared).heap.objs.size = s.heap.objs.size + 1 from Heap.size_push ..]
 exact wpAny_pure h
theorem Df {t:Str} {h1:Heap} {tk:Nat} {fp:List Addr} (ck:CmpOkC XN sc scope N js t) (hXN:X.N = XN) (hsc:X.env.scope = sc) (I:Inv X pins σ H s) (hf:∀ b ∈ fp,pU X pins H b)
  (hfo:∀ b ∈ fp,b < s.heap.objs.size) (hh:h1 = (s.heap.push { cls:=.type "dict",data:=.dict #[] }).push { cls:=.type "cell",data:=.cell none }) :
  Inv (cxD t X N scope ⟨(t,s.heap.objs.size + 1) :: gC X.env scope.names [],s.heap.objs.size,s,H,fp,pins⟩) [] (inn js σ) H { s with heap:=h1,toks:=tk }:=by
 subst hXN hsc
 have hk:∀ b o,s.heap.get? b = some o -> h1.get? b = some o:=fun b o e=>by rw [hh];exact Heap.get?_push_of_some _ (Heap.get?_push_of_some _ e)
 have hn:h1.Ns s.heap.objs.size (fun _=>none):=by rw [hh];exact (Heap.Ns.new s.heap (.type "dict")).keeps fun b o e=>Heap.get?_push_of_some _ e
 have hcell:h1.get? (s.heap.objs.size + 1) = some { cls:=.type "cell",data:=.cell none }:=by
  rw [hh,<- Heap.size_push s.heap { cls:=.type "dict",data:=.dict #[] }]
  exact Heap.get?_push_size _ rfl
 have look:∀ n c,((t,s.heap.objs.size + 1) :: gC X.env scope.names []).lookup n = some c -> (n = t /\ c = s.heap.objs.size + 1) \/ (n ≠ t /\ (gC X.env scope.names []).lookup n = some c):=fun n c h=>by
  rw [List.lookup_cons] at h
  cases q:n == t with
  | true=>rw [q] at h;cases h;exact .inl ⟨by simpa using q,rfl⟩
  | false=>rw [q] at h;exact .inr ⟨fun e=>by rw [e] at q;simp at q,h⟩
 have sub:∀ n c,(gC X.env scope.names []).lookup n = some c -> X.env.cells.lookup n = some c:=uc fun n c h=>by simp at h
 have clt:∀ n c,(gC X.env scope.names []).lookup n = some c -> c < s.heap.objs.size:=fun n c h=>by
  obtain ⟨v,q⟩:=I.cell n c (sub n c h)
  exact q.lt
 have has:∀ x,(x,NameKind.free) ∈ scope.names -> ∃ c,(gC X.env scope.names []).lookup x = some c:=fun x hx=>
  uZ (.inl ⟨hx,I.ok.has x (ck.free _ hx rfl)⟩)
 refine ⟨⟨I.ok.mod,ck.kind,I.ok.glob,I.ok.blt,Nat.le_refl _,fun x y c h1 h2=>?inj,fun x hx=>?has,fun x c hx hl=>?cab,I.ok.hd,I.ok.frames,.inl rfl,fun b hb=>?exf,I.bs,?bsz,fun b o e hb=>?noex,fun b hb=>?exfs,I.stack,I.stkFree⟩,
  rfl,I.bare,Un.kept hk,⟨_,hn,fun i x v h1 h2 h3=>?loc⟩,fun x c h=>?cell,I.hok.fresh (Nat.le_refl _),fun x c h=>?freeC,fun p hp=>?pin,I.hok.kept hk,?len⟩
 case inj=>
  rcases look x c h1 with ⟨e1,e2⟩ | ⟨e1,e2⟩ <;> rcases look y c h2 with ⟨e3,e4⟩ | ⟨e3,e4⟩
  ·rw [e1,e3]
  ·have z:c < s.heap.objs.size:=clt y c e4
   rw [e2] at z
   exact absurd z (Nat.not_lt.mpr (Nat.le_succ _))
  ·have z:c < s.heap.objs.size:=clt x c e2
   rw [e4] at z
   exact absurd z (Nat.not_lt.mpr (Nat.le_succ _))
  ·exact I.ok.inj x y c (sub x c e2) (sub y c e4)
 case freeC=>
  rcases look x c h with ⟨e1,e2⟩ | ⟨e1,e2⟩
  ·rw [e2];exact I.hok.fresh (Nat.le_succ _)
  ·exact I.freeC x c (sub x c e2)
 case has=>
  have hb:(x,NameKind.free) ∈ scope.names \/ (x,NameKind.cell) ∈ scope.names:=by
   rcases hx with hx | hx
   ·exact lY (.inl rfl) hx
   ·exact lY (.inr rfl) hx
  by_cases e:x = t
  ·exact ⟨s.heap.objs.size + 1,by subst e;show List.lookup x ((x,_) :: _) = _;rw [List.lookup_cons,beq_self_eq_true]⟩
  ·rcases hb with hb | hb
   ·obtain ⟨c,hc⟩:=has x hb
    refine ⟨c,?_⟩
    show List.lookup x ((t,_) :: _) = _
    rw [List.lookup_cons,show (x == t) = false by simpa using e]
    exact hc
   ·exact absurd (ck.cell1 _ hb rfl) e
 case cab=>
  have e:x = t:=by
   have hx':(x == t) = true:=hx
   simpa using hx'
  rcases look x c hl with ⟨_,e2⟩ | ⟨e1,_⟩
  ·rw [e2];exact Nat.le_succ _
  ·exact absurd e e1
 case exf=>
  obtain ⟨f0,f1,f2,f3,f4,f5⟩:=hf b hb
  refine ⟨Nat.ne_of_lt (hfo b hb),fun x c e=>?_⟩
  rcases look x c e with ⟨_,e2⟩ | ⟨_,e2⟩
  ·intro z
   have w:=hfo b hb
   rw [<- z,e2] at w
   exact absurd w (Nat.not_lt.mpr (Nat.le_succ _))
  ·exact f4 x c (sub x c e2)
 case bsz=>exact Nat.le_trans I.ok.bsz I.sz
 case noex=>
  obtain ⟨f0,f1,f2,f3,f4,f5⟩:=hf b hb
  rcases f3 with f3 | f3
  ·exact I.ok.noex b o e f3
  ·exact absurd (Nat.lt_of_lt_of_le (Heap.lt_size e) (Nat.le_trans I.ok.bsz f3)) (Nat.lt_irrefl _)
 case exfs=>
  obtain ⟨f0,f1,f2,f3,f4,f5⟩:=hf b hb
  intro z
  rcases List.mem_cons.mp (I.stkSub b z) with e | e
  ·exact f1 e
  ·exact f2 e
 case loc=>
  have hl:N.length = js.length:=ck.len.symm
  have hi:i < js.length:=by
   have:=(List.getElem?_eq_some_iff.mp h1).1
   have e:(cxD t X N scope ⟨(t,s.heap.objs.size + 1) :: gC X.env scope.names [],s.heap.objs.size,s,H,fp,pins⟩).N = N:=rfl
   rw [e] at this
   lia
  have hN:N[i]? = some x:=h1
  have hj:js[i]? = some js[i]:=List.getElem?_eq_getElem hi
  unfold inn at h2
  rw [List.getElem?_map,hj] at h2
  cases q:js[i] with
  | none=>rw [q] at h2;cases h2
  | some j=>
   rw [q] at h2 hj
   have h2':(σ[j]?).join = some v:=Option.some.inj h2
   have hσ:σ[j]? = some (some v):=by
    cases e:σ[j]? with
    | none=>rw [e] at h2';cases h2'
    | some o=>rw [e] at h2';exact congrArg some h2'
   have hm:(x,some j) ∈ N.zip js:=by
    refine List.mem_of_getElem? (i:=i) ?_
    rw [List.getElem?_zip_eq_some]
    exact ⟨hN,hj⟩
   have hc:=List.all_eq_true.mp ck.ix _ hm
   simp only [Bool.and_eq_true,decide_eq_true_eq] at hc
   obtain ⟨c1,c2⟩:=hc
   have hfr:(x,NameKind.free) ∈ scope.names:=PySem.mem_of_lookup c2
   have hvis:X.env.scope.names.lookup x = some .cell \/ X.env.scope.names.lookup x = some .free:=ck.free _ hfr rfl
   obtain ⟨m0,hn0,hl0⟩:=I.loc
   obtain ⟨u,r,l⟩:=hl0 j x v c1 hσ (hvis.elim (fun z=>.inr (.inl z)) fun z=>.inr (.inr z))
   refine ⟨u,r,.inr ⟨?_,?_⟩⟩
   ·exact nQ c2
   ·rcases l with ⟨k1,_⟩ | ⟨_,c,k1,k2⟩
    ·have k1':X.env.scope.names.lookup x = some .local:=k1
     rcases hvis with z | z
     ·rw [z] at k1';cases k1'
     ·rw [z] at k1';cases k1'
    ·obtain ⟨c',hc'⟩:=has x hfr
     have e:=sub x c' hc'
     rw [k1] at e
     cases e
     obtain ⟨oc,ho,hd⟩:=k2
     refine ⟨c,?_,oc,hk _ _ ho,hd⟩
     have ne:x ≠ t:=fun e=>by rw [e,ck.tl] at c2;cases c2
     show List.lookup x ((t,_) :: _) = _
     rw [List.lookup_cons,show (x == t) = false by simpa using ne]
     exact hc'
 case cell=>
  rcases look x c h with ⟨e1,e2⟩ | ⟨e1,e2⟩
  ·exact ⟨none,_,by rw [e2];exact hcell,rfl⟩
  ·obtain ⟨v,oc,ho,hd⟩:=I.cell x c (sub x c e2)
   exact ⟨v,oc,hk _ _ ho,hd⟩
 case pin=>
  have hp':p ∈ X.pn ++ pins:=by simpa [cxD,cxC] using hp
  obtain ⟨p1,p2,p3,p4,p5⟩:=I.pin p hp'
  refine ⟨hk _ _ p1,p2,Nat.ne_of_lt (Heap.lt_size p1),fun z=>?_,p5⟩
  rcases List.mem_cons.mp (I.stkSub _ z) with e | e
  ·exact p3 e
  ·exact p4 e
 case len=>
  show (inn js σ).length = N.length
  unfold inn
  rw [List.length_map]
  exact ck.len
variable {tg iter elt:Expr} {ifs:List Expr} {pos:Pos} {wi:TI} {g:TG} {tt:TIf} {te:TE}
theorem AK {t:Str} {E:Value -> Shared -> Prop} {R:Result -> Shared -> Prop} {it D:Addr} {fp:List Addr} {tn:Nat -> Heap -> Prop} {J:It} {z:CxZ} {W:Nat -> Nat -> Hp -> Prop} {n:Nat}
  (hc:X.calm = true) (T:Turn X.prog X.w X.K tg J fp it tn) (hz:∀ b ∈ fp,∀ H',H' b = none -> pU (cxD t X N scope z) [] H' b)
  (hg:PG (cxD t X N scope z) tg g) (hs:vJ js g) (ht:PIf (cxD t X N scope z) ifs tt) (he:PE (cxD t X N scope z) elt te)
  (turn:∀ i m H,W i m H -> (J.stop i H /\ ∀ s',Inv (cxD t X N scope z) [] (inn js σ) H s' -> R (.ok .next) s') \/ (J.go i H /\ ∀ x H',J.yld i H x H' -> g x (inn js σ) H' fun σ2 H2=>tt σ2 H2 fun b H3=>
   if b = true then te σ2 H3 fun y H4=>∃ ys,H4 D = some (.lst ys) /\ ys.length < sizeLine /\ ∃ m',m' < m /\ W (i + 1) m' (upd H4 D (.lst (ys ++ [y]))) else ∃ m',m' < m /\ W (i + 1) m' H3))
  {s1:Shared} {H1:Hp} (I1:Inv (cxD t X N scope z) [] (inn js σ) H1 s1) (t1:tn 0 s1.heap) (f1:∀ b ∈ fp,H1 b = none) (w1:W 0 n H1) :
  codeAny (model X.prog X.w) X.A (.compLoop (.ListComp elt [⟨tg,iter,ifs,0⟩] scope pos) 0 (.ref it) (.ref D) (compEnvC scope z.cl z.C X.env)) R s1:=by
 refine codeAny_loop (c:=.compLoop (.ListComp elt [⟨tg,iter,ifs,0⟩] scope pos) 0 (.ref it) (.ref D) (compEnvC scope z.cl z.C X.env)) rfl
  (fun k s'=>∃ i H',Inv (cxD t X N scope z) [] (inn js σ) H' s' /\ tn i s'.heap /\ (∀ b ∈ fp,H' b = none) /\ W i k H') ?_ n ⟨0,H1,I1,t1,f1,w1⟩
 rintro k s2 ⟨i,H2,I2,t2,f2,w2⟩
 show wpAny (model X.prog X.w) X.A ((compTurn (.ListComp elt [⟨tg,iter,ifs,0⟩] scope pos) 0 (.ref it) (.ref D) (compEnvC scope z.cl z.C X.env)).onRaise fun x=>do noteFrame x (compEnvC scope z.cl z.C X.env);theTreesLotGoes x) _ _ s2
 refine wpAny_noted ?_
 rw [compTurn_list]
 refine wpAny_bind (wpAny_standAt ?_)
 rcases turn i k H2 w2 with ⟨stop,fin⟩ | ⟨go,step⟩
 ·refine wpAny_bind (thn (T.done (cxD t X N scope z) rfl rfl rfl hc i [] s2 (inn js σ) H2 _ I2 (fun b hb=>hz b hb H2 (f2 b hb)) t2 stop) fun r s3 h3=>?_)
  obtain ⟨rfl,I3⟩:=h3
  exact wpAny_pure (fin s3 I3)
 ·refine wpAny_bind (thn (T.item (cxD t X N scope z) rfl rfl rfl hc i [] s2 (inn js σ) H2 _ I2 (fun b hb=>hz b hb H2 (f2 b hb)) t2 go) fun r s3 h3=>?_)
  obtain ⟨u,rfl,h3⟩:=h3
  refine wpAny_bind (thn h3 fun _ s4 h4=>?_)
  obtain ⟨x,H4,I4,r4,y4,t4,f4⟩:=h4
  have P4:=I4.pinned (fun b hb=>hz b hb H4 (f4 b hb)) (T.obj _ _ t4)
  have ff:∀ {e:Value} {s':Shared},(cxD t X N scope z).xe e s' -> False:=fun h=>h
  refine wpAny_bind (wpAny_mono (hg _ s4 (inn js σ) H4 x u _ P4 r4 (hs σ x (inn js σ) H4 _ (Lev.refl _) (step x H4 y4))) (fun _ s5 h5=>?_) fun _ _ h=>(ff h).elim)
  obtain ⟨σ5,H5,I5,lev,q5⟩:=h5
  refine wpAny_bind (wpAny_mono (ht _ s5 σ5 H5 _ I5 q5) (fun ok s6 h6=>?_) fun _ _ h=>(ff h).elim)
  obtain ⟨H6,I6,q6⟩:=h6
  have again:∀ {s7:Shared} {H7:Hp},Inv (cxD t X N scope z) ([] ++ qC fp s4.heap) σ5 H7 s7 -> (∃ m',m' < k /\ W (i + 1) m' H7) -> ∃ m,m < k /\ ∃ i H',Inv (cxD t X N scope z) [] (inn js σ) H' s7 /\ tn i s7.heap /\ (∀ b ∈ fp,H' b = none) /\ W i m H':=fun {s7 H7} I7 h7=>by
   obtain ⟨m',hm,w7⟩:=h7
   refine ⟨m',hm,i + 1,H7,(I7.unpinned).weak lev.1 lev.2,T.keep _ _ _ t4 fun b hb o e=>(I7.pin (b,o) (List.mem_append_right _ (List.mem_append_right _ (gw hb e)))).1,fun b hb=>?_,w7⟩
   obtain ⟨o,e,d⟩:=T.obj _ _ t4 b hb
   exact (I7.pin (b,o) (List.mem_append_right _ (List.mem_append_right _ (gw hb e)))).2.1
  cases ok with
  | false=>
   rw [if_neg (by decide)] at q6
   exact wpAny_pure ⟨rfl,again I6 q6⟩
  | true=>
   rw [if_pos rfl] at q6
   refine wpAny_bind (wpAny_bind (wpAny_mono (he _ s6 σ5 H6 _ I6 q6) (fun y s7 h7=>?_) fun _ _ h=>(ff h).elim))
   obtain ⟨vy,H7,I7,r7,ys,hD,hl,q7⟩:=h7
   refine wpAny_bind (wpAny_mono (cW (X:=cxD t X N scope z) _ s7 σ5 H7 (.ref D) [vy] (.ref D) [y] (fun _ H'=>∃ m',m' < k /\ W (i + 1) m' H') I7 rfl (.cons r7 .nil) ⟨D,ys,vy,rfl,rfl,hD,hl,q7⟩) (fun _ s8 h8=>?_) fun _ _ h=>(ff h).elim)
   obtain ⟨_,H8,I8,_,q8⟩:=h8
   exact wpAny_pure (wpAny_pure ⟨rfl,again I8 q8⟩)
theorem yZ {t:Str} {E:Value -> Shared -> Prop} {RR:Value -> Addr -> Result -> Shared -> Prop} {Q:VK} {itv:Value} {s2:Shared} (ck:CmpOkC XN sc scope N js t) (hXN:X.N = XN) (hsc:X.env.scope = sc) (hc:X.calm = true)
  (hg:∀ z,PG (cxD t X N scope z) tg g) (hs:vJ js g) (ht:∀ z,PIf (cxD t X N scope z) ifs tt) (he:∀ z,PE (cxD t X N scope z) elt te)
  (h2:PIE X pins σ tg (fun J H1=>∀ D,H1 D = none -> ∃ W:Nat -> Nat -> Hp -> Prop,(∃ m,W 0 m (upd H1 D (.lst []))) /\ ∀ i m H,W i m H ->
   (J.stop i H /\ Q (.ref D) H) \/ (J.go i H /\ ∀ x H',J.yld i H x H' -> g x (inn js σ) H' fun σ2 H2=>tt σ2 H2 fun b H3=>
    if b = true then te σ2 H3 fun y H4=>∃ ys,H4 D = some (.lst ys) /\ ys.length < sizeLine /\ ∃ m',m' < m /\ W (i + 1) m' (upd H4 D (.lst (ys ++ [y]))) else ∃ m',m' < m /\ W (i + 1) m' H3)) itv s2)
  (hRR:∀ D C s' H' m o,Inv X (pins ++ [(C,o)]) σ H' s' -> s'.heap.Ns C m -> (X.s₀.heap.objs.size <= C /\ C ≠ X.env.locals /\ (∀ x c,X.env.cells.lookup x = some c -> c ≠ C) /\ ∀ p ∈ X.pn ++ pins,p.1 ≠ C) -> H' C = none -> Q (.ref D) H' -> RR (.ref D) C (.ok .next) s') :
  wpAny (model X.prog X.w) X.A (newList []) (fun acc s₃=>wpAny (model X.prog X.w) X.A (newFunctionEnv scope X.env.globals (gC X.env scope.names []) [] X.env.qual none .none (some X.env)) (fun cenv s₄=>
   codeAny (model X.prog X.w) X.A (.compStart (.ListComp elt [⟨tg,iter,ifs,0⟩] scope pos) 0 itv acc { cenv with scope:=relabel scope X.env }) (RR acc cenv.locals) s₄) E s₃) E s2:=by
 obtain ⟨it,fp,tn,J,H2,rfl,I2,T,t2,f2,q2⟩:=h2
 have fo:∀ b ∈ fp,b < s2.heap.objs.size:=fun b hb=>by
  obtain ⟨o,e,_⟩:=T.obj _ _ t2 b hb
  exact Heap.lt_size e
 have hD:H2 s2.heap.objs.size = none:=I2.fresh
 obtain ⟨W,⟨n,w0⟩,turn⟩:=q2 _ hD
 refine wpAny_newObj_type (GQ ck ?_)
 generalize hh1:((s2.heap.push { cls:=.type "list",data:=.seq ([]:List Value).toArray }).push { cls:=.type "dict",data:=.dict #[] }).push { cls:=.type "cell",data:=.cell none } = h1
 have I3:Inv X pins σ (upd H2 s2.heap.objs.size (.lst [])) { s2 with heap:=s2.heap.push { cls:=.type "list",data:=.seq ([]:List Value).toArray },toks:=s2.toks }:=I2.lnew (its:=[]) .nil (Nat.zero_le _)
 have f3:∀ b ∈ fp,pU X pins (upd H2 s2.heap.objs.size (.lst [])) b:=fun b hb=>by
  obtain ⟨g0,g1⟩:=f2 b hb
  exact ⟨by rw [a7 (Nat.ne_of_lt (fo b hb))];exact g0,g1⟩
 have sz:(s2.heap.push { cls:=.type "list",data:=.seq ([]:List Value).toArray }).objs.size = s2.heap.objs.size + 1:=Heap.size_push _ _
 have kept:∀ b o,(s2.heap.push { cls:=.type "list",data:=.seq ([]:List Value).toArray }).get? b = some o -> h1.get? b = some o:=fun b o e=>by
  rw [<- hh1];exact Heap.get?_push_of_some _ (Heap.get?_push_of_some _ e)
 have I4:=Df (tk:=s2.toks) ck hXN hsc I3 f3 (fun b hb=>by show b < (s2.heap.push _).objs.size;rw [sz];exact Nat.lt_succ_of_lt (fo b hb)) hh1.symm
 have t4:tn 0 h1:=T.keep _ _ _ t2 fun b hb o e=>kept b o (Heap.get?_push_of_some _ e)
 have fz:∀ b ∈ fp,∀ H',H' b = none -> pU (cxD t X N scope ⟨(t,(s2.heap.push { cls:=.type "list",data:=.seq ([]:List Value).toArray }).objs.size + 1) :: gC X.env scope.names [],(s2.heap.push { cls:=.type "list",data:=.seq ([]:List Value).toArray }).objs.size,{ s2 with heap:=s2.heap.push { cls:=.type "list",data:=.seq ([]:List Value).toArray },toks:=s2.toks },upd H2 s2.heap.objs.size (.lst []),fp,pins⟩) [] H' b:=fun b hb H' hn=>by
  obtain ⟨g0,g1,g2,g3,g4,g5⟩:=f3 b hb
  refine ⟨hn,(I4.ok.exf b hb).1,I4.ok.exfs b hb,.inl hb,(I4.ok.exf b hb).2,fun p hp=>?_⟩
  exact g5 p (by simpa [cxD,cxC] using hp)
 have loop:=AK (X:=X) (t:=t) (σ:=σ) (N:=N) (scope:=scope) (js:=js) (iter:=iter) (pos:=pos) (E:=E) (R:=RR (.ref s2.heap.objs.size) (s2.heap.push { cls:=.type "list",data:=.seq ([]:List Value).toArray }).objs.size) (D:=s2.heap.objs.size) (W:=W) (n:=n)
  hc T fz (hg _) hs (ht _) (he _) (fun i m H w=>(turn i m H w).imp (fun a=>⟨a.1,fun s' Y=>?_⟩) id) I4 t4 (fun b hb=>(f3 b hb).1) w0
 ·exact codeAny_compStart_list loop (T.self _ 0 _ _ _ t4 loop)
 ·have bb:=Y.base
  have J0:Inv X pins σ H s':=I3.call' Y.os bb Y.hok Y.bare fun b hb=>by
   obtain ⟨g0,g1,g2,g3,g4,g5⟩:=f3 b hb
   exact ⟨g3,g1,g4,g5⟩
  obtain ⟨mC,nC,_⟩:=Y.loc
  obtain ⟨oC,eC,dC⟩:∃ o,s'.heap.get? (s2.heap.push { cls:=.type "list",data:=.seq ([]:List Value).toArray }).objs.size = some o /\ ∀ v,o.data ≠ .cell v:=by
   obtain ⟨o,es,ep,ho,hd,_⟩:=nC
   exact ⟨o,ho,fun v z=>by rw [hd] at z;cases z⟩
  have lC:X.s₀.heap.objs.size <= (s2.heap.push { cls:=.type "list",data:=.seq ([]:List Value).toArray }).objs.size:=I3.sz
  have cC:(s2.heap.push { cls:=.type "list",data:=.seq ([]:List Value).toArray }).objs.size ≠ X.env.locals:=Nat.ne_of_gt I3.lt
  have kC:∀ x c,X.env.cells.lookup x = some c -> c ≠ (s2.heap.push { cls:=.type "list",data:=.seq ([]:List Value).toArray }).objs.size:=fun x c e=>by
   obtain ⟨v,q⟩:=I3.cell x c e
   exact Nat.ne_of_lt q.lt
  have pC:∀ p ∈ X.pn ++ pins,p.1 ≠ (s2.heap.push { cls:=.type "list",data:=.seq ([]:List Value).toArray }).objs.size:=fun p hp=>Nat.ne_of_lt (Heap.lt_size (I3.pin p hp).1)
  have J1:Inv X (pins ++ [((s2.heap.push { cls:=.type "list",data:=.seq ([]:List Value).toArray }).objs.size,oC)]) σ H s':=J0.pins_of fun p hp=>by
   rcases List.mem_append.mp hp with hp | hp
   ·exact J0.pin p (List.mem_append_right _ hp)
   ·rw [List.mem_singleton.mp hp]
    exact ⟨eC,Y.free,cC,I3.nofs (Nat.le_refl _),dC⟩
  exact hRR _ _ s' H mC oC J1 nC ⟨lC,cC,kC,pC⟩ Y.free a.2
theorem Fn {t:Str} (ck:CmpOkC XN sc scope N js t) (hi:PI X tg iter wi) (hg:∀ z,PG (cxD t X N scope z) tg g) (hs:vJ js g) (ht:∀ z,PIf (cxD t X N scope z) ifs tt) (he:∀ z,PE (cxD t X N scope z) elt te)
  (hXN:X.N = XN:=by rfl) (hsc:X.env.scope = sc:=by rfl) (hc:X.calm = true:=by rfl) (hf:∀ x,foldedSetIterable iter X.env x = pure x:=by intro _;rfl) :
  PE X (.ListComp elt [⟨tg,iter,ifs,0⟩] scope pos) (CD js wi g tt te):=by
 intro pins s σ H Q I h
 rw [eval_ListComp]
 have hcl:closureFor scope X.env = pure (gC X.env scope.names []):=nW fun y hy hk=>I.ok.has y.1 (by
  have:=ck.free y hy hk
  rw [<- hsc] at this
  exact this)
 refine wpAny_comprehension_free (use:=none) rfl hf hcl ck.kind ck.loc (thn (hi pins s σ H _ I h) fun v s1 h1=>thn h1 fun itv s2 h2=>?_)
 refine yZ (RR:=fun acc C=>compPost (model X.prog X.w) X.A X.xe none (EP X pins σ Q) acc C) ck hXN hsc hc hg hs ht he h2 ?_
 intro D C s' H' m o J nC hC fC q
 refine ⟨m,nC,fun h' sb=>⟨.ref D,H',?_,rfl,q⟩⟩
 have J0:Inv X pins σ H' s':=J.unpinned
 exact J0.turned (t':=s'.toks) (it:=C) (fun b o hb e=>sb.extBut b o hb e) fC hC.2.1 (.inr hC.1) hC.2.2.1 hC.2.2.2
end
end L2
namespace RevT
open PySem PySem.Calls PyProof.Rows
theorem slot_next:Slot "reversed" "__next__" "reversed.__next__" := .of (owner := "reversed") (n := "__next__") (by rw [typeLookup_type,builtinLookup_eq_fast];kernel_rfl) (by decide +kernel) (by decide +kernel) (by decide +kernel) (by first | exact .inl (by decide +kernel) | exact .inr (by decide +kernel)) (by rw [isSubtype_type];kernel_rfl)
theorem uu:entryFor table "reversed.__next__" = some Builtin.«reversed.__next__»:=entryFor_of_tree (by kernel_rfl)
theorem wb (a:Value):argsOk "reversed.__next__" ⟨[a],[]⟩:=by unfold argsOk;kernel_rfl
theorem vZ:Slot "reversed" "__iter__" "reversed.__iter__" := .of (owner := "reversed") (n := "__iter__") (by rw [typeLookup_type,builtinLookup_eq_fast];kernel_rfl) (by decide +kernel) (by decide +kernel) (by decide +kernel) (by first | exact .inl (by decide +kernel) | exact .inr (by decide +kernel)) (by rw [isSubtype_type];kernel_rfl)
theorem Da (a:Value):argsOk "reversed.__iter__" ⟨[a],[]⟩:=by unfold argsOk;kernel_rfl
theorem BE:entryFor table "reversed.__iter__" = some Builtin.«dict_keyiterator.__iter__»:=entryFor_alias (id' := "dict_keyiterator.__iter__") (by kernel_rfl) (by first | rfl | decide +kernel | (unfold String.splitOn;simp +decide [String.splitOnAux])) (by decide +kernel) (by kernel_rfl)
theorem Jy:typeLookup (.type "tuple") "__reversed__" = pure none:=by rw [typeLookup_type,builtinLookup_eq_fast];kernel_rfl
theorem BU:typeLookup (.type "tuple") "__getitem__" = pure (some (.builtin "tuple.__getitem__")):=by rw [typeLookup_type,builtinLookup_eq_fast];kernel_rfl
theorem GI:isSubtype (.type "tuple") (.type "dict") = pure false:=by rw [isSubtype_type];kernel_rfl
theorem sub_self:isSubtype (.type "reversed") (.type "reversed") = pure true:=by rw [isSubtype_type];kernel_rfl
def uP (t:Addr) (i:Int):Obj:={ cls:=.type "reversed",data:=.fields #[.ref t,rawInt i] }
def IsRev (h:Heap) (a t:Addr) (i:Int):Prop:=∃ o,h.get? a = some o /\ o.cls = .type "reversed" /\ o.data = .fields #[.ref t,rawInt i]
section
variable {prog:Program} {w:World} {A:Around} {E:Value -> Shared -> Prop} {s:Shared}
theorem IsRev.typeIs {a t:Addr} {i:Int} (x:IsRev s.heap a t i):s.TypeIs (.ref a) "reversed" := let ⟨o,ho,hc,_⟩:=x;⟨o,ho,hc⟩
theorem CL {it t:Addr} {i:Nat} {items:Array Value} {x:Value} {Q:Option Value -> Shared -> Prop} (hit:IsRev s.heap it t (i:Int)) (ht:IsTup s.heap t items) (hx:items[i]? = some x) (hi:(i:Int) < 2 ^ 62)
  (hQ:∀ h' tk,IsRev h' it t ((i:Int) - 1) -> Heap.SameBut it s.heap h' -> Q (some x) { s with heap:=h',toks:=tk }):wpAny (model prog w) A (pyNext (.ref it)) Q E s:=by
 obtain ⟨o,ho,hc,hd⟩:=id hit
 unfold pyNext
 refine wpAny_bind (wpAny_attempt (wpAny_callSpecial?_slot (name:=Str.ofString "__next__") hit.typeIs slot_next (wpAny_call_entry slot_next hit.typeIs uu ?_ (wb _))))
 unfold Builtin.«reversed.__next__»
 refine wpAny_bind (wpAny_of_eq (a:=(Value.ref it,[])) rfl ?_)
 try dsimp only
 refine wpAny_bind (wpAny_field ho hd (x:=.ref t) rfl ?_)
 refine wpAny_bind (wpAny_field ho hd (x:=rawInt (i:Int)) rfl ?_)
 show wpAny _ _ (if (i:Int) < 0 then _ else _) _ _ s
 rw [if_neg (by lia)]
 refine wpAny_bind (wpAny_specialOf ht.typeIs BU ?_)
 rw [if_neg (show ¬ ((some (Value.builtin "tuple.__getitem__")).isNone = true) from Bool.false_ne_true)]
 refine wpAny_bind (wpAny_mkInt ?_)
 have p63:(2:Int) ^ 63 = 9223372036854775808:=by decide
 have p62:(2:Int) ^ 62 = 4611686018427387904:=by decide
 have hsz:=(Array.getElem?_eq_some_iff.mp hx).1
 have hix:seqIndex? (i:Int) items.size = some i:=by
  unfold seqIndex?
  simp
  lia
 refine wpAny_bind (wpAny_attempt (getItem_tuple (s:={ s with toks:=s.toks + 1 }) (j:=i) ht (by lia) (by lia) hix hx ?_))
 dsimp only
 refine wpAny_bind (wpAny_field (s:={ s with toks:=s.toks + 1 }) ho hd (x:=rawInt (i:Int)) rfl ?_)
 show wpAny _ _ (setField (.ref it) 1 (rawInt ((i:Int) - 1)) >>= _) _ _ _
 refine wpAny_bind (wpAny_setField (s:={ s with toks:=s.toks + 1 }) ho hd (by simp) ?_)
 refine wpAny_pure ⟨x,rfl,wpAny_pure (hQ _ _ ?_ (Heap.SameBut.update ..))⟩
 exact ⟨_,Heap.get?_update_self _ ho (Obj.isFreed_of_fields (Obj.data_mapFields hd _)),(Obj.cls_mapFields ..).trans hc,by rw [Obj.data_mapFields hd];simp⟩
theorem F6 {it t:Addr} {Q:Option Value -> Shared -> Prop} (hh:A.handled = none) (hit:IsRev s.heap it t (-1)) (hQ:∀ h',Heap.ExtBut it s.heap h' -> Q none { s with heap:=h' }):wpAny (model prog w) A (pyNext (.ref it)) Q E s:=by
 obtain ⟨o,ho,hc,hd⟩:=id hit
 unfold pyNext
 refine wpAny_bind (wpAny_attempt (wpAny_callSpecial?_slot (name:=Str.ofString "__next__") hit.typeIs slot_next (wpAny_call_entry slot_next hit.typeIs uu ?_ (wb _))))
 unfold Builtin.«reversed.__next__»
 refine wpAny_bind (wpAny_of_eq (a:=(Value.ref it,[])) rfl ?_)
 try dsimp only
 refine wpAny_bind (wpAny_field ho hd (x:=.ref t) rfl ?_)
 refine wpAny_bind (wpAny_field ho hd (x:=rawInt (-1)) rfl ?_)
 show wpAny _ _ (if (-1:Int) < 0 then _ else _) _ _ s
 rw [if_pos (by decide)]
 refine wpAny_bind (wpAny_rule ?_)
 refine wpAny_bind ?_
 refine wpAny_bind (wpAny_setField ho hd (by simp) ?_)
 have ho':=Heap.get?_update_self (h:=s.heap) (Obj.mapFields (·.setIfInBounds 1 (rawInt (-1)))) ho (Obj.isFreed_of_fields (Obj.data_mapFields hd _))
 have hd':=Obj.data_mapFields hd (·.setIfInBounds 1 (rawInt (-1)))
 refine wpAny_setField (s:={ s with heap:=s.heap.update it (Obj.mapFields (·.setIfInBounds 1 (rawInt (-1)))) }) ho' hd' (by simp) ?_
 first
 | show wpAny _ _ (newExc (.type "StopIteration") [] >>= _) _ _ _
 | (refine wpAny_bind ?_;show wpAny _ _ (newExc (.type "StopIteration") [] >>= _) _ _ _)
 refine wpAny_bind ?_
 simp only [newExc,newTuple]
 refine wpAny_bind (wpAny_newObj_type ?_ (by size_fits))
 refine wpAny_bind (m:=firstArgMember _ _) (wpAny_of_eq (a:=Value.none) (by first | rfl | (simp only [firstArgMember];rfl)) ?_)
 refine wpAny_newObj_type ?_ (by size_fits)
 simp only [raiseNew]
 refine wpAny_bind (wpAny_handled ?_)
 first | rw [show A.in1.handled = none from hh] | rw [hh]
 refine wpAny_bind (wpAny_pure (wpAny_throw ?_))
 refine wpAny_bind (wpAny_isInstance (T := "StopIteration") (b:=true) ⟨_,Heap.get?_push_size _ rfl,rfl⟩ isSubtype_stop ?_)
 exact wpAny_pure (hQ _ ((((Heap.SameBut.update ..).trans (Heap.SameBut.update ..)).extBut.push _).push _))
theorem wX {it t:Addr} {i:Int} {Q:Value -> Shared -> Prop} (hit:IsRev s.heap it t i) (h:Q (.ref it) s):wpAny (model prog w) A (pyIter (.ref it)) Q E s:=by
 refine wpAny_pyIter_slot hit.typeIs vZ (wpAny_call_entry vZ hit.typeIs BE ?_ (Da _))
 show wpAny _ _ (ret (.ref it)) _ _ s
 exact wpAny_pure ⟨_,rfl, "reversed",_,hit.typeIs,slot_next.lookup,h⟩
end
theorem Cp:mroOf (.type "reversed") = pure [.type "reversed",.type "object"]:=by rw [mroOf_type];kernel_rfl
theorem Fg:typeLookup (.type "reversed") "__new__" = pure (some (.builtin "reversed.__new__")):=by rw [typeLookup_type,builtinLookup_eq_fast];kernel_rfl
theorem Di:Slot "reversed" "__init__" "object.__init__" := .of (owner := "object") (n := "__init__") (by rw [typeLookup_type,builtinLookup_eq_fast];kernel_rfl) (by decide +kernel) (by decide +kernel) (by decide +kernel) (by first | exact .inl (by decide +kernel) | exact .inr (by decide +kernel)) (by rw [isSubtype_type];kernel_rfl)
theorem Bp:TypeCalled "reversed" "reversed.__new__" "object.__init__" := ⟨by decide +kernel,by decide +kernel,⟨_,_,Cp⟩,madeBy_type Cp Fg (by decide +kernel),by decide +kernel,by rw [isSubtype_type];kernel_rfl,Di⟩
theorem yD (a:Value):checkTypeCall "reversed" ⟨[a],[]⟩ = pure ():=by kernel_rfl
theorem zr (a:Value):checkBuiltinCall "reversed.__new__" ⟨[.type "reversed",a],[]⟩ = pure ():=by kernel_rfl
theorem DE:entryFor table "reversed.__new__" = some Builtin.«reversed.__new__»:=entryFor_of_tree (by kernel_rfl)
theorem yi (a:Value):Builtin.SmallTypes.newClass "reversed" ⟨[.type "reversed",a],[]⟩ = pure (.type "reversed",[a]):=by
 unfold Builtin.SmallTypes.newClass
 simp only [isType,sub_self,pure_bind,Bool.not_true,Bool.false_eq_true,if_false]
theorem CM (t:Addr) (items:Array Value) (hz:(items.size:Int) < 2 ^ 63):Meets (Builtin.«reversed.__new__» ⟨[.type "reversed",.ref t],[]⟩) (fun _ R s=>IsTup s.heap t items /\ R (.ok (.ret (.ref s.heap.objs.size))) { s with heap:=s.heap.push (uP t ((items.size:Int) - 1)),toks:=s.toks + 1 + 1 }):=
 .of_wp fun prog w A R s h=>by
  obtain ⟨ht,h⟩:=h
  unfold Builtin.«reversed.__new__»
  refine wpAny_bind (wpAny_of_eq (yi _) ?_)
  try dsimp only
  refine wpAny_bind (wpAny_of_eq (a:=()) (by first | rfl | kernel_rfl) ?_)
  refine wpAny_bind (wpAny_of_eq (a:=()) (by first | rfl | kernel_rfl) ?_)
  try dsimp only
  refine wpAny_bind (wpAny_specialOf ht.typeIs Jy ?_)
  try dsimp only
  refine wpAny_bind (wpAny_bind (wpAny_isInstance (T := "tuple") (b:=false) ht.typeIs GI ?_))
  rw [if_neg Bool.false_ne_true]
  refine wpAny_bind (wpAny_specialOf ht.typeIs BU ?_)
  refine (show wpAny _ _ (pure true) _ _ _ from wpAny_pure ?_)
  show wpAny _ _ (if (!true) = true then _ else _) _ _ _
  rw [if_neg (by decide)]
  refine wpAny_bind (len_tuple ht hz ?_)
  show wpAny _ _ (Builtin.SmallTypes.newRecord (.type "reversed") [.ref t,rawInt ((items.size:Int) - 1)] >>= _) _ _ _
  refine wpAny_bind (wpAny_newObj_type (data:=.fields #[.ref t,rawInt ((items.size:Int) - 1)]) ?_ (by size_fits))
  exact wpAny_pure ⟨_,rfl,h⟩
theorem D8 {prog:Program} {w:World} {A:Around} {E:Value -> Shared -> Prop} {s:Shared} {t:Addr} {items:Array Value} {Q:Value -> Shared -> Prop} (ht:IsTup s.heap t items) (hz:(items.size:Int) < 2 ^ 63)
  (h:Q (.ref s.heap.objs.size) { s with heap:=s.heap.push (uP t ((items.size:Int) - 1)),toks:=s.toks + 1 + 1 }):wpAny (model prog w) A (call (.type "reversed") [.ref t]) Q E s:=
 callType_new Bp (by decide) (yD _) (zr _) (fun obj=>F.args_object_init_2 obj _) DE (CM t items hz) ⟨ht,⟨_,Heap.get?_push_size _ rfl,rfl⟩,h⟩
end RevT
namespace L2
open PySem PySem.Spec PyProof.Rows
def Itv (K:W.Frag) (a:Addr) (xs:List V):It:=
 ⟨fun i H=>SqT K H a xs /\ ∃ x,xs.reverse[i]? = some x,fun i H x H'=>H' = H /\ xs.reverse[i]? = some x,fun i H=>SqT K H a xs /\ xs.length = i⟩
def Kp (K:W.Frag) (ta:TA):TI:=fun σ H R=>ta σ H fun vs H1=>∃ a xs,vs = [.ref a] /\ SqT K H1 a xs /\ R (Itv K a xs) H1
section
variable {X:Cx} {tg:Expr}
theorem EB {P:Program} {w:World} {K:W.Frag} (a it:Addr) (xs:List V):Turn P w K tg (Itv K a xs) [it] it (fun i h=>RevT.IsRev h it a ((xs.length:Int) - 1 - (i:Nat))) where
 mem:=by simp
 obj:=fun i h st b hb=>by
  rw [List.mem_singleton.mp hb]
  obtain ⟨o,e,c,d⟩:=st
  exact ⟨o,e,fun v z=>by rw [d] at z;cases z⟩
 keep:=fun i h h' st k=>by
  obtain ⟨o,e,r⟩:=st
  exact ⟨o,k it (by simp) _ e,r⟩
 item:=by
  intro X hP hw hK hc i pins s σ H E I hf st hg
  subst hP hw hK
  obtain ⟨hq,x,hx⟩:=hg
  obtain ⟨its,rv,p,hz⟩:=I.tuple hq
  have hi:i < xs.length:=by have:=(List.getElem?_eq_some_iff.mp hx).1;simpa using this
  have hx':xs[xs.length - 1 - i]? = some x:=by rw [List.getElem?_reverse hi] at hx;exact hx
  obtain ⟨u,hu,ru⟩:=rv.get hx'
  obtain ⟨f0,f1,f2,f3,f4,f5⟩:=hf it (by simp)
  have e:(xs.length:Int) - 1 - (i:Nat) = ((xs.length - 1 - i:Nat):Int):=by lia
  have hn:(sizeLine:Nat) < 2 ^ 60:=by rw [sizeLine_eq];decide
  have p62:(2:Int) ^ 62 = 4611686018427387904:=by decide
  rw [e] at st
  refine RevT.CL st p (x:=u) (by simpa using hu) (by lia) fun h' tk st' sb=>?_
  have I1:Inv X pins σ H { s with heap:=h',toks:=tk }:=I.turned (fun b o hb e=>(sb.2 b hb).trans e) f0 f1 f3 f4 f5
  have st2:RevT.IsRev h' it a ((xs.length:Int) - 1 - ((i + 1:Nat):Int)):=by
   have e2:(xs.length:Int) - 1 - ((i + 1:Nat):Int) = ((xs.length - 1 - i:Nat):Int) - 1:=by lia
   rw [e2];exact st'
  obtain ⟨o,e,c,d⟩:=id st'
  exact ⟨u,rfl,B0 (s:={ s with heap:=h',toks:=tk }) e c d (by decide) ⟨x,H,I1,ru,⟨rfl,hx⟩,st2,fun b hb=>(hf b hb).1⟩⟩
 done:=by
  intro X hP hw hK hc i pins s σ H E I hf st hg
  subst hP hw hK
  obtain ⟨hq,hx⟩:=hg
  obtain ⟨f0,f1,f2,f3,f4,f5⟩:=hf it (by simp)
  have e:(xs.length:Int) - 1 - (i:Nat) = -1:=by lia
  rw [e] at st
  exact RevT.F6 (I.ok.hd hc) st fun h' eb=>⟨rfl,I.turned (t':=s.toks) (fun b o hb e=>eb b o hb e) f0 f1 f3 f4 f5⟩
 self:=fun _ _ _ _ _ st h=>RevT.wX st h
theorem JN {a:Expr} {ta:TA} {p pos:Pos} (hg:Gl X "reversed") (hm:X.mg "reversed" = none) (ha:PA X [a] ta) (hs:starEach [a] X.env = [(false,eval a X.env)]:=by rfl):PI X tg (.Call (.Name "reversed" p) [a] [] pos) (Kp X.K ta):=by
 intro pins s σ H R I h
 refine Call_ (uk I hg hm yM (PyProof.Rows.callWith_type1 (thn (ha pos pins s σ H _ I h) fun us s1 h1=>?_) hs rfl))
 obtain ⟨vs,H1,I1,r1,t,xs,rfl,hq,q⟩:=h1
 obtain ⟨u,rfl,rx⟩:=Fv r1
 cases rx
 obtain ⟨its,rv,p,hz⟩:=I1.tuple hq
 have hlen:=rv.length
 have hn:=nK
 refine RevT.D8 p (by simp only [List.size_toArray] <;> lia) ?_
 have I2:Inv X pins σ H1 { s1 with heap:=s1.heap.push (RevT.uP t ((its.toArray.size:Int) - 1)),toks:=s1.toks + 1 + 1 }:=I1.kept fun b o e=>Heap.get?_push_of_some _ e
 have st:RevT.IsRev (s1.heap.push (RevT.uP t ((its.toArray.size:Int) - 1))) s1.heap.objs.size t ((xs.length:Int) - 1 - ((0:Nat):Int)):=by
  refine ⟨_,Heap.get?_push_size _ rfl,rfl,?_⟩
  have e:(xs.length:Int) - 1 - ((0:Nat):Int) = (its.toArray.size:Int) - 1:=by simp [hlen]
  rw [e];rfl
 refine RevT.wX (s:={ s1 with heap:=s1.heap.push (RevT.uP t ((its.toArray.size:Int) - 1)),toks:=s1.toks + 1 + 1 }) st ?_
 refine ⟨s1.heap.objs.size,[s1.heap.objs.size],_,_,H1,rfl,I2,EB t _ xs,st,fun b hb=>?_,q⟩
 rw [List.mem_singleton.mp hb]
 exact I1.fpOk (Nat.le_refl _) I1.fresh
end
end L2
namespace M
open PySem L2
section
variable {K:W.Frag} {S S' H H':Hp}
def JR:List D -> Option (List D)
 | [.tup l]=>some l.reverse | _=>none
@[simp] def wn (a:XA):XA:=fun ρ=>(a ρ).bind JR
theorem KZ {t:TA} {a:XA} (h:SAP K t a):SI K (Kp K t) (wn a):=fun ρ σ S H R l r x k=>by
 unfold wn at x
 cases q:a ρ with
 | none=>rw [q] at x;cases x
 | some ds=>
  rw [q] at x
  dsimp only [Option.bind] at x
  unfold JR at x
  split at x
  ·rename_i l'
   cases x
   refine h ρ σ S H _ _ r q fun vs S1 H1 z1 d1=>?_
   cases d1 with
   | cons a1 d1=>
    cases d1
    rcases a1 with a1 | ⟨l2,_,_,e,_⟩
    ·obtain ⟨p,xs,rfl,h1,h2⟩:=iG a1
     refine ⟨p,xs,rfl,ba z1.sub h1,k _ S1 H1 z1 fun S' H' s1 s2=>⟨fun i d hd=>?_,ba (s1.trans s2) h1,by rw [List.length_reverse];exact h2.length.symm⟩⟩
     have hi:i < l'.length:=by have:=(List.getElem?_eq_some_iff.mp hd).1;simpa using this
     rw [List.getElem?_reverse hi] at hd
     obtain ⟨y,e1,e2⟩:=h2.get hd
     have hl:=h2.length
     have e3:xs.reverse[i]? = some y:=by rw [List.getElem?_reverse (by lia)];rw [<- e1];congr 2;lia
     refine ⟨⟨ba (s1.trans s2) h1,y,e3⟩,fun x H'' hy=>⟨hy.1,?_⟩⟩
     have:=hy.2
     rw [e3] at this
     cases this
     exact e2.mono s1
    ·cases e
  ·cases x
end
end M
namespace L2
open PySem
section
variable {X:Cx} {e:Expr} {pos p p':Pos} {ta:TE} {T:Addr} {N:Str} {ans:List (Str × Bool)}
end
end L2
namespace M
open PySem L2
section
variable {K:W.Frag} {S S' H H':Hp}
@[simp] def MQ (ans:List (Str × Bool)) (e:XE):XE:=fun ρ=>(e ρ).bind fun d=>match d with | .ins N _ _=>(ans.lookup N).map .bl | _=>none
end
end M
namespace L2
open PySem PySem.Spec PyProof.Rows Builtin Builtin.ObjectAttr Builtin.Getset_descriptor
section
variable {prog:Program} {w:World} {A:Around} {E:Value -> Shared -> Prop} {s:Shared} {K:W.Frag} {C a:Addr}
end
end L2
namespace L2
open PySem PySem.Spec PyProof.Rows
section
variable {H H':Hp} {B h0 h h':Heap} {fs:List Addr}
end
section
variable {X:Cx} {pins:List (Addr × Obj)} {σ:St} {H:Hp} {s:Shared} {E:XK} {B:Heap} {e:Addr} {cls a0:Value}
end
section
variable {P:Program} {w:World} {K:W.Frag} {mg:Str -> Option Value} {base:Heap} {N:List Str} {qual:Str} {scope:Scope} {f:Addr} {cdv:Value} {A:Around} {outer:List Env} {s:Shared} {H:Hp} {E:XK}
end
section
variable {X:Cx} {E:XK} {x:Str} {e:Expr} {te:TE} {np cpos pos:Pos}
end
section
variable {X:Cx} {pins:List (Addr × Obj)} {σ:St} {H H':Hp} {s s':Shared} {e:Addr}
end
section
variable {X:Cx} {body suite:List Stmt} {b0:Stmt} {x n:Str} {i:Nat} {L:List Str} {tb:XK -> TS} {ts:TS} {np hp pos:Pos}
end
section
variable {X:Cx} {e:Expr} {pos p p':Pos} {i:Nat} {N:Str} {ans:List (Str × Bool)} {vv:V} {u:Value}
end
end L2
namespace M
open PySem L2
section
variable {K:W.Frag} {S S' H H':Hp}
inductive RO where
 | rz (N:Str) | nx (ρ:Env)
abbrev XR:=Env -> Option RO
variable {E:XK}
@[simp] def LZ:XR:=fun ρ=>some (.nx ρ)
@[simp] def Lp (N:Str):XR:=fun _=>some (.rz N)
@[simp] def Nv (c:XT) (m n:XR):XR:=fun ρ=>(c ρ).bind fun b=>if b = true then m ρ else n ρ
@[simp] def MP (m n:XR):XR:=fun ρ=>(m ρ).bind fun o=>match o with | .nx ρ'=>n ρ' | .rz N=>some (.rz N)
@[simp] def L3 (m:XR):XR:=fun ρ=>(m ρ).bind fun o=>match o with | .nx _=>none | .rz N=>some (.rz N)
@[simp] def xrE (m:Env -> Option Str):XR:=fun ρ=>(m ρ).map .rz
@[simp] def Mn (m:List D -> Option Str) (a:XA):Env -> Option Str:=fun ρ=>(a ρ).bind m
def Hv (N:Str):List (List (Str × Bool)) -> Option (List Bool)
 | []=>some []
 | a :: l=>(a.lookup N).bind fun b=>(Hv N l).map fun bs=>b :: bs
def Hq (i:Nat) (N:Str):List (Nat × List (List (Str × Bool))) -> Env -> Option Env
 | [],ρ=>some ρ
 | p :: l,ρ=>if p.1 = i then none else (Hv N p.2).bind fun bs=>if bs.length <= 1000 then Hq i N l (ρ.set p.1 (.sh (.lst (bs.map .bl)))) else none
@[simp] def Np (L:List Str) (i:Nat) (m:XR) (l:List (Nat × List (List (Str × Bool)))):XS:=fun ρ=>if i < ρ.length then (m ρ).bind fun o=>match o with
 | .rz N=>if L.contains N then (Hq i N l (ρ.map fun _=>.un)).map fun ρ'=>.nx (ρ'.set i .un) else none
 | .nx ρ'=>some (.nx ρ') else none
end
end M
namespace L2
open PySem PySem.Spec PyProof.Rows
section
variable {X:Cx} {tg:Expr}
end
end L2
namespace M
open PySem L2
section
variable {K:W.Frag} {S S' H H':Hp}
def Mi:List D -> Option (List D)
 | [.int i,.int j]=>some (cH i (j - i).toNat)
 | _=>none
@[simp] def M8 (a:XA):XA:=fun ρ=>(a ρ).bind Mi
end
end M
namespace L2
open PySem PySem.Spec PyProof.Rows
section
variable {X:Cx} {tg:Expr}
end
end L2
namespace M
open PySem L2
section
variable {K:W.Frag} {S S' H H':Hp}
def HW (x:Str):List D:=x.cps.toList.map fun c=>D.str ⟨#[c]⟩
def sgD:D -> Option (List D)
 | .str x=>some (HW x)
 | _=>none
@[simp] def ND (e:XE):XA:=fun ρ=>(e ρ).bind sgD
def Mj (d:D) (lo hi:Option Int):Option D:=match d with
 | .str x=>if x.length <= LIM then some (.str (Txt.slice x lo hi)) else none
 | _=>none
@[simp] def Nz (a:XE) (lo hi:XO):XE:=fun ρ=>(a ρ).bind fun d=>(lo ρ).bind fun l=>(hi ρ).bind fun h=>Mj d l h
end
end M
namespace L2
open PySem
end L2
namespace L2
open PySem PySem.Spec PyProof.Rows
section
variable {X:Cx}
inductive PJ (X:Cx):List Expr -> List TE -> Prop
 | nil:PJ X [] []
 | cons {e:Expr} {t:TE} {es:List Expr} {ts:List TE}:PE X e t -> PJ X es ts -> PJ X (e :: es) (t :: ts)
end
end L2
namespace M
open PySem L2
section
variable {K:W.Frag} {S S' H H':Hp}
def fvD:D -> Option D
 | .int i=>if i.natAbs.log2 < 1920 then some (.str (toString i)) else none
 | .str y=>if y.length <= LIM then some (.str y) else none
 | _=>none
@[simp] def xFv (e:XE):XE:=fun ρ=>(e ρ).bind fvD
inductive SJ (K:W.Frag):List TE -> List XE -> Prop
 | nil:SJ K [] []
 | cons {t:TE} {a:XE} {ts:List TE} {as:List XE}:SPk K t a -> SJ K ts as -> SJ K (t :: ts) (a :: as)
end
end M
namespace L2
open PySem PySem.Spec PyProof.Rows
section
variable {M:Model} {A:Around} {Ex:Value -> Shared -> Prop} {s:Shared}
end
section
variable {P:Program} {w:World} {K:W.Frag} {mg:Str -> Option Value} {base:Heap} {N:List Str} {qual:Str} {scope:Scope} {f:Addr} {cdv:Value} {A:Around} {outer:List Env} {s:Shared} {H:Hp} {E:XK}
end
section
variable {X:Cx} {pins:List (Addr × Obj)} {σ:St} {H:Hp} {s:Shared} {XN N:List Str} {sc scope:Scope} {js:List (Option Nat)}
variable {tg iter elt:Expr} {ifs:List Expr} {pos:Pos} {wi:TI} {g:TG} {tt:TIf} {te:TE} {E:XK}
end
def Kx (K:W.Frag) (n:Nat) (t:TGs):TG:=fun v σ H Q=>∃ a xs,v = .ref a /\ SqL K H a xs /\ xs.length = n /\ t xs σ H Q
theorem IW {X:Cx} {pos:Pos} {es:List Expr} {k:Nat} {t:TGs} {n:Nat} (hc:X.calm = true) (h:PGs X es t)
  (hn:(assignEach es X.env).length = n:=by rfl) (hst:(assignEach es X.env).findIdx? (·.1) = none:=by rfl):PG X (.Tuple es k pos) (Kx X.K n t):=by
 intro pins s σ H v u Q I r hw
 obtain ⟨a,xs,e1,hq,hl,hw⟩:=hw
 subst e1
 cases r
 obtain ⟨its,rv,ht,hz⟩:=I.list hq
 rw [assign_Tuple]
 refine wpAny_bind (wpAny_standAt ?_)
 unfold unpack
 rw [hst,hn,<- hl,rv.length,show its.length = its.toArray.size by simp]
 refine wpAny_bind (wpAny_holding (W.kun_itemsOf (I.ok.hd hc) ht.isList fun h' hx=>?_))
 have I1:Inv X pins σ H { s with heap:=h' }:=I.kept (t':=s.toks) fun b o e=>hx b o (Nat.ne_of_lt (Heap.lt_size e)) e
 exact h pins _ σ H xs _ Q I1 (by simpa using rv) hw
section
variable {X:Cx}
end
end L2
namespace M
open PySem L2
section
variable {K:W.Frag} {S S' H H':Hp} {E:XK}
@[simp] def Nt (m:XS):XR:=fun ρ=>match m ρ with | some (.nx ρ')=>some (.nx ρ') | _=>none
@[simp] def Nl (n:Env -> Option Str) (m:XS):XR:=fun ρ=>match n ρ with | some N=>some (.rz N) | none=>(match m ρ with | some (.nx ρ')=>some (.nx ρ') | _=>none)
@[simp] def Mz (m:Env -> Option Str):Env -> Option Str:=m
@[simp] def L9 (e:XE) (m:Env -> Option Str):Env -> Option Str:=fun ρ=>(e ρ).bind fun _=>m ρ
@[simp] def Nr (n:Env -> Option Str) (e:XE) (m:Env -> Option Str):Env -> Option Str:=fun ρ=>match n ρ with | some N=>some N | none=>(e ρ).bind fun _=>m ρ
@[simp] def MS (i:Nat) (m:Env -> Option Str):Env -> Option Str:=fun ρ=>match ρ[i]? with | some (.ow (.lst _))=>m ρ | _=>none
def Ew (g:XG) (c:XT) (e:XE) (n:Env -> Option Str) (ρ0:Env):List D -> Option Str
 | []=>none
 | d :: l=>(g d ρ0).bind fun ρ1=>(c ρ1).bind fun b=>if b = true then (match n ρ1 with | some N=>some N | none=>(e ρ1).bind fun _=>Ew g c e n ρ0 l) else Ew g c e n ρ0 l
@[simp] def Mq (js:List (Option Nat)) (w:XA) (g:XG) (c:XT) (e:XE) (n:Env -> Option Str):Env -> Option Str:=fun ρ=>(w ρ).bind fun l=>if l.length <= LIM then Ew g c e n (yK js ρ) l else none
def Ht (g:XG) (m:XR):List D -> Env -> Option RO
 | [],ρ=>some (.nx ρ)
 | d :: l,ρ=>(g d ρ).bind fun ρ1=>(m ρ1).bind fun o=>match o with | .nx ρ2=>Ht g m l ρ2 | .rz N=>some (.rz N)
@[simp] def MK (e:XA) (g:XG) (m:XR):XR:=fun ρ=>(e ρ).bind fun l=>Ht g m l ρ
def EF (y:XGs):XG:=fun d ρ=>match d with | .lst l=>y l ρ | _=>none
theorem KU {gs:TGs} {y:XGs} {n:Nat} (hs:SGs K gs y) (hl:Aq y n):SG K (Kx K n gs) (EF y):=fun A Λ ρ σ S H v d Q ρ' r dv e k=>by
 cases d with
 | lst l=>
  obtain ⟨p,xs,rfl,h1,h2⟩:=den_lst.mp dv
  exact ⟨p,xs,rfl,.inl (dq r.sub h1),by rw [<- h2.length];exact hl l ρ ρ' e,hs A Λ ρ σ S H xs l Q ρ' r h2 e k⟩
 | _=>cases e
end
end M
namespace L2
open PySem
structure Ak (CX:CXT) (n:Nat) (x:Str) (ps:List Str) (sp:W.Frag -> Sp) (P:Program) (w:World) (K:W.Frag) (mg:Str -> Option Value) (base:Heap) (f:Addr) (fd:FuncData):Prop where
 G:FnOk P w K mg base CX n f fd ps (sp K)
 m:mg x = some (.ref f)
 k:W.keepIn K (.ref f) = true
 b:Binds K fd ps []
structure Am (n:Nat) (x:Str) (Ns:List Str) (ps:List Str) (sp:W.Frag -> Sp) (P:Program) (w:World) (K:W.Frag) (mg:Str -> Option Value) (base:Heap) (f:Addr) (fd:FuncData):Prop where
 G:FnOk P w K mg base CX0 n f fd ps (sp K)
 b:Binds K fd ps []
 cm:rh K Ns fun C=>Cls K C /\ Meth K C x f
structure Ac (CX:CXT) (n:Nat) (x:Str) (ps:List Str) (sp:W.Frag -> Sp) (P:Program) (w:World) (K:W.Frag) (mg:Str -> Option Value) (base:Heap) (c f:Addr) (fd:FuncData):Prop where
 G:FnOk P w K mg base CX n f fd ps (sp K)
 b:Binds K fd ps []
 n:W.nsIn K mainGlobals x = some (some (.ref c))
 M:Mk K c f
 g:mg x = some (.ref c)
structure Ab (n:Nat) (x:Str) (ps:List Str) (sp:W.Frag -> Sp) (P:Program) (w:World) (K:W.Frag) (mg:Str -> Option Value) (base:Heap) (c f:Addr) (fd:FuncData):Prop where
 G:FnOk P w K mg base CX0 n f fd ps (sp K)
 b:Binds K fd ps []
 cf:ClsFn K c "__init__" f
 g:mg x = some (.ref c)
theorem usS {us:List Value} {n:Nat} (h:us.length = n + 1):∃ a v,us = a :: v /\ v.length = n:=by
 cases us with
 | nil=>cases h
 | cons a v=>exact ⟨a,v,rfl,Nat.succ.inj h⟩
theorem us1 {us:List Value} (h:us.length = 1):∃ a0,us = [a0]:=by
 obtain ⟨a0,v0,rfl,h0⟩:=usS h
 cases v0 with
 | nil=>exact ⟨a0,rfl⟩
 | cons a v=>cases h0
theorem us2 {us:List Value} (h:us.length = 2):∃ a0 a1,us = [a0,a1]:=by
 obtain ⟨a0,v0,rfl,h0⟩:=usS h
 obtain ⟨a1,v1,rfl,h1⟩:=usS h0
 cases v1 with
 | nil=>exact ⟨a0,a1,rfl⟩
 | cons a v=>cases h1
theorem us3 {us:List Value} (h:us.length = 3):∃ a0 a1 a2,us = [a0,a1,a2]:=by
 obtain ⟨a0,v0,rfl,h0⟩:=usS h
 obtain ⟨a1,v1,rfl,h1⟩:=usS h0
 obtain ⟨a2,v2,rfl,h2⟩:=usS h1
 cases v2 with
 | nil=>exact ⟨a0,a1,a2,rfl⟩
 | cons a v=>cases h2
theorem us5 {us:List Value} (h:us.length = 5):∃ a0 a1 a2 a3 a4,us = [a0,a1,a2,a3,a4]:=by
 obtain ⟨a0,v0,rfl,h0⟩:=usS h
 obtain ⟨a1,v1,rfl,h1⟩:=usS h0
 obtain ⟨a2,v2,rfl,h2⟩:=usS h1
 obtain ⟨a3,v3,rfl,h3⟩:=usS h2
 obtain ⟨a4,v4,rfl,h4⟩:=usS h3
 cases v4 with
 | nil=>exact ⟨a0,a1,a2,a3,a4,rfl⟩
 | cons a v=>cases h4
theorem pY {K:W.Frag} {P:Addr -> Prop}:rh K [] P:=fun _ h=>by cases h
theorem bz {K:W.Frag} {P:Addr -> Prop} {N:Str} {Ns:List Str} {c:Addr} (h:W.nsIn K mainGlobals N = some (some (.ref c))) (p:P c) (r:rh K Ns P):rh K (N :: Ns) P:=fun M hM C hC=>by
 rcases List.mem_cons.mp hM with rfl | hM
 ·rw [h] at hC
  cases hC
  exact p
 ·exact r M hM C hC
end L2
namespace L2
open PySem PySem.Spec PyProof.Rows M
section
variable {X:Cx}
end
end L2
namespace M
open PySem L2
section
variable {K:W.Frag}
end
end M
namespace L2
open PySem PySem.Spec PyProof.Rows
section
variable {X:Cx} {tg:Expr}
end
end L2
namespace M
open PySem L2
section
variable {K:W.Frag} {S H:Hp}
def IM (a c:Int) (n:Nat):List D:=(List.range n).map fun i:Nat=>D.int (a + (i:Int) * c)
def Ks:List D -> Option (List D)
 | [.int a,.int j,.int c]=>ifC (c ≠ 0 /\ (-1000000 < c /\ c < 1000000) /\ Builtin.Range.small a j c = true) (some (IM a c (Builtin.Range.rangeSize a j c).toNat)) none
 | _=>none
@[simp] def M4 (a:XA):XA:=fun ρ=>(a ρ).bind Ks
end
end M
namespace L2
open PySem PySem.Spec PyProof.Rows
section
variable {X:Cx}
end
end L2
namespace M
open PySem L2
section
variable {K:W.Frag}
def KN:D -> Option (List D)
 | .int j=>ifC (0 <= j /\ j < 1000000) (some ((List.range j.toNat).map fun i:Nat=>D.int (i:Int))) none
 | _=>none
@[simp] def Mp (a:XE):XA:=fun ρ=>(a ρ).bind KN
end
end M
namespace L2
open PySem PySem.Spec PyProof.Rows
section
variable {X:Cx} {pins:List (Addr × Obj)} {σ:List (Option V)} {H H':Hp} {s:Shared} {h':Heap}
end
section
variable {X:Cx}
end
end L2
namespace M
open PySem L2
section
variable {K:W.Frag} {S S' H H':Hp}
def enL (k:Nat):List D -> List D
 | []=>[]
 | d :: l=>.tup [.int (k:Int),d] :: enL (k + 1) l
@[simp] def Ng (a:XE):XA:=fun ρ=>(a ρ).bind fun d=>match d with | .lst l=>some (enL 0 l) | _=>none
end
end M
namespace L2
open PySem PySem.Spec PyProof.Rows M
section
variable {X:Cx}
end
end L2
namespace M
open PySem L2
section
variable {K:W.Frag}
end
section
variable {K:W.Frag} {S S' H H':Hp}
@[simp] def NF (i:Nat) (p:XP):XA:=fun ρ=>match ρ[i]? with
 | some (.ow o)=>(p ρ).bind fun is=>match eY o is with | some (.lst l)=>shs l | _=>none
 | _=>none
end
end M
namespace TL
open PySem PyProof.Rows
section
variable {prog:Program} {w:World} {A:Around} {E:Value -> Shared -> Prop} {s:Shared}
end
end TL
namespace L2
open PySem PySem.Spec PyProof.Rows
section
variable {X:Cx}
end
end L2
namespace M
open PySem L2
section
variable {K:W.Frag}
end
end M
namespace L2
open PySem PySem.Spec PyProof.Rows
section
variable {X:Cx}
end
end L2
namespace M
open PySem L2
section
variable {K:W.Frag}
end
end M
namespace TL
open PySem PyProof.Rows
section
variable {prog:Program} {w:World} {A:Around} {R:Result -> Shared -> Prop} {I:Addr} {fp wr:List Addr} {n:Nat} {P:Nat -> Value -> Prop} {St:Nat -> Heap -> Prop} {h0:Heap}
end
section
variable {prog:Program} {w:World} {A:Around} {E:Value -> Shared -> Prop} {s:Shared}
end
end TL
namespace L2
open PySem PySem.Spec PyProof.Rows
section
variable {X:Cx}
end
end L2
namespace M
open PySem L2
section
variable {K:W.Frag}
end
section
variable {K:W.Frag} {S S' H H':Hp}
end
section
variable {K:W.Frag}
@[simp] def Mm (f g:D -> D -> Option D) (a b c:XE):XE:=fun ρ=>(a ρ).bind fun x=>(b ρ).bind fun y=>(f x y).bind fun z=>match z with
 | .bl true=>(c ρ).bind fun w=>g y w
 | .bl false=>some (.bl false)
 | _=>none
end
end M
namespace L2
open PySem PySem.Spec PyProof.Rows
section
variable {X:Cx} {tg:Expr}
end
end L2
namespace M
open PySem L2
section
variable {K:W.Frag} {S S' H H':Hp}
def Km:List D -> Option (List D)
 | [.lst l]=>some l.reverse | _=>none
@[simp] def MN (a:XA):XA:=fun ρ=>(a ρ).bind Km
end
end M
namespace Rw
abbrev R:=List (Int × Int)
def Mem (r:R) (x:Int):Prop:=∃ p ∈ r,p.1 <= x /\ x <= p.2
def Ok (r:R):Prop:=∀ p ∈ r,p.1 <= p.2
def bw (r:R):Prop:=Ok r /\ r.Pairwise fun p q=>p.2 + 2 <= q.1
theorem br (x:Int):¬ Mem [] x:=by rintro ⟨p,h,_⟩;cases h
theorem mem_cons (p:Int × Int) (r:R) (x:Int):Mem (p :: r) x ↔ (p.1 <= x /\ x <= p.2) \/ Mem r x:=by
 constructor
 ·rintro ⟨q,h,e⟩
  rcases List.mem_cons.mp h with rfl | h
  ·exact .inl e
  ·exact .inr ⟨q,h,e⟩
 ·rintro (e | ⟨q,h,e⟩)
  ·exact ⟨p,List.mem_cons_self,e⟩
  ·exact ⟨q,List.mem_cons_of_mem _ h,e⟩
theorem mem_append (r t:R) (x:Int):Mem (r ++ t) x ↔ Mem r x \/ Mem t x:=by
 constructor
 ·rintro ⟨q,h,e⟩
  rcases List.mem_append.mp h with h | h
  ·exact .inl ⟨q,h,e⟩
  ·exact .inr ⟨q,h,e⟩
 ·rintro (⟨q,h,e⟩ | ⟨q,h,e⟩)
  ·exact ⟨q,List.mem_append_left _ h,e⟩
  ·exact ⟨q,List.mem_append_right _ h,e⟩
theorem FD {r t:R} (h:r.Perm t) (x:Int):Mem r x ↔ Mem t x:=
 ⟨fun ⟨q,m,e⟩=>⟨q,h.mem_iff.mp m,e⟩,fun ⟨q,m,e⟩=>⟨q,h.mem_iff.mpr m,e⟩⟩
theorem mem_filter (r:R) (x:Int):Mem (r.filter fun p=>decide (p.1 <= p.2)) x ↔ Mem r x:=by
 constructor
 ·rintro ⟨q,m,e⟩
  exact ⟨q,(List.mem_filter.mp m).1,e⟩
 ·rintro ⟨q,m,e⟩
  exact ⟨q,List.mem_filter.mpr ⟨m,by simp;lia⟩,e⟩
theorem gA:bw []:=⟨fun _ h=>(by cases h),.nil⟩
theorem canon_cons {p:Int × Int} {r:R}:bw (p :: r) ↔ p.1 <= p.2 /\ (∀ q ∈ r,p.2 + 2 <= q.1) /\ bw r:=by
 constructor
 ·rintro ⟨h1,h2⟩
  have h3:=List.pairwise_cons.mp h2
  exact ⟨h1 p List.mem_cons_self,h3.1,fun q hq=>h1 q (List.mem_cons_of_mem _ hq),h3.2⟩
 ·rintro ⟨h1,h2,h3,h4⟩
  refine ⟨fun q hq=>?_,List.pairwise_cons.mpr ⟨h2,h4⟩⟩
  rcases List.mem_cons.mp hq with rfl | hq
  ·exact h1
  ·exact h3 q hq
theorem d7 {p:Int × Int} {r:R} (c:bw (p :: r)) {x:Int} (h:Mem r x):p.2 + 2 <= x:=by
 obtain ⟨q,m,e,_⟩:=h
 have:=(canon_cons.mp c).2.1 q m
 lia
theorem xh {p:Int × Int} {r:R} (c:bw (p :: r)) {x:Int} (h:Mem (p :: r) x):p.1 <= x:=by
 rcases (mem_cons p r x).mp h with h | h
 ·exact h.1
 ·have:=d7 c h
  have:=(canon_cons.mp c).1
  lia
theorem F8:∀ {r t:R},bw r -> bw t -> (∀ x,Mem r x ↔ Mem t x) -> r = t
 | [],[],_,_,_=>rfl
 | [],q :: t,_,ct,h=>by
  have:=(h q.1).mpr ((mem_cons ..).mpr (.inl ⟨Int.le_refl _,(canon_cons.mp ct).1⟩))
  exact (br _ this).elim
 | p :: r,[],cr,_,h=>by
  have:=(h p.1).mp ((mem_cons ..).mpr (.inl ⟨Int.le_refl _,(canon_cons.mp cr).1⟩))
  exact (br _ this).elim
 | p :: r,q :: t,cr,ct,h=>by
  have hp:=(canon_cons.mp cr).1
  have hq:=(canon_cons.mp ct).1
  have a1:q.1 <= p.1:=xh ct ((h p.1).mp ((mem_cons ..).mpr (.inl ⟨Int.le_refl _,hp⟩)))
  have a2:p.1 <= q.1:=xh cr ((h q.1).mpr ((mem_cons ..).mpr (.inl ⟨Int.le_refl _,hq⟩)))
  have e1:p.1 = q.1:=by lia
  have n1:¬ Mem (p :: r) (p.2 + 1):=fun m=>by
   rcases (mem_cons ..).mp m with m | m
   ·lia
   ·have:=d7 cr m;lia
  have n2:¬ Mem (q :: t) (q.2 + 1):=fun m=>by
   rcases (mem_cons ..).mp m with m | m
   ·lia
   ·have:=d7 ct m;lia
  have e2:p.2 = q.2:=by
   by_cases l1:p.2 < q.2
   ·exact (n1 ((h _).mpr ((mem_cons ..).mpr (.inl ⟨by lia,by lia⟩)))).elim
   ·by_cases l2:q.2 < p.2
    ·exact (n2 ((h _).mp ((mem_cons ..).mpr (.inl ⟨by lia,by lia⟩)))).elim
    ·lia
  have e:p = q:=by
   obtain ⟨a,b⟩:=p
   obtain ⟨c,d⟩:=q
   simp only at e1 e2
   rw [e1,e2]
  subst e
  have ih:r = t:=F8 (canon_cons.mp cr).2.2 (canon_cons.mp ct).2.2 fun x=>by
   constructor
   ·intro m
    rcases (mem_cons ..).mp ((h x).mp ((mem_cons ..).mpr (.inr m))) with k | k
    ·have:=d7 cr m;lia
    ·exact k
   ·intro m
    rcases (mem_cons ..).mp ((h x).mpr ((mem_cons ..).mpr (.inr m))) with k | k
    ·have:=d7 ct m;lia
    ·exact k
  rw [ih]
def step (acc:R) (p:Int × Int):R:=
 match acc.getLast? with
 | none=>[p]
 | some q=>if p.1 <= q.2 + 1 then acc.dropLast ++ [(q.1,if p.2 > q.2 then p.2 else q.2)] else acc ++ [p]
def nI (l:R):R:=l.foldl step []
theorem t9 (p:Int × Int):step [] p = [p]:=rfl
theorem iA (t:R) (q p:Int × Int):step (t ++ [q]) p = if p.1 <= q.2 + 1 then t ++ [(q.1,if p.2 > q.2 then p.2 else q.2)] else t ++ [q] ++ [p]:=by
 unfold step
 simp
theorem canon_snoc {t:R} {q:Int × Int}:bw (t ++ [q]) ↔ bw t /\ q.1 <= q.2 /\ ∀ p ∈ t,p.2 + 2 <= q.1:=by
 constructor
 ·rintro ⟨h1,h2⟩
  have h3:=List.pairwise_append.mp h2
  exact ⟨⟨fun p hp=>h1 p (List.mem_append_left _ hp),h3.1⟩,h1 q (List.mem_append_right _ List.mem_cons_self),fun p hp=>h3.2.2 p hp q List.mem_cons_self⟩
 ·rintro ⟨⟨h1,h2⟩,h3,h4⟩
  refine ⟨fun p hp=>?_,List.pairwise_append.mpr ⟨h2,.cons (fun _ h=>(by cases h)) .nil,fun p hp x hx=>?_⟩⟩
  ·rcases List.mem_append.mp hp with hp | hp
   ·exact h1 p hp
   ·rw [List.mem_singleton.mp hp];exact h3
  ·rw [List.mem_singleton.mp hx];exact h4 p hp
theorem Ce {acc:R} {p:Int × Int} (c:bw acc) (hp:p.1 <= p.2) (lo:∀ q ∈ acc,q.1 <= p.1) :
  bw (step acc p) /\ (∀ x,Mem (step acc p) x ↔ Mem acc x \/ (p.1 <= x /\ x <= p.2)) /\ (∀ q ∈ step acc p,q.1 <= p.1):=by
 rcases List.eq_nil_or_concat acc with rfl | ⟨t,q,rfl⟩
 ·rw [t9]
  refine ⟨canon_cons.mpr ⟨hp,fun _ h=>(by cases h),gA⟩,fun x=>?_,fun q hq=>?_⟩
  ·rw [mem_cons]
   constructor
   ·rintro (h | h)
    ·exact .inr h
    ·exact .inl h
   ·rintro (h | h)
    ·exact .inr h
    ·exact .inl h
  ·rw [List.mem_singleton.mp hq];exact Int.le_refl _
 ·rw [List.concat_eq_append] at *
  obtain ⟨ct,hq,ht⟩:=canon_snoc.mp c
  have lq:q.1 <= p.1:=lo q (List.mem_append_right _ List.mem_cons_self)
  rw [iA]
  by_cases h:p.1 <= q.2 + 1
  ·rw [if_pos h]
   have m:∀ z,(if p.2 > q.2 then p.2 else q.2) = z -> q.2 <= z /\ p.2 <= z /\ (z = p.2 \/ z = q.2):=fun z e=>by
    split at e <;> lia
   obtain ⟨m1,m2,m3⟩:=m _ rfl
   generalize (if p.2 > q.2 then p.2 else q.2) = z at *
   refine ⟨canon_snoc.mpr ⟨ct,by dsimp only;lia,ht⟩,fun x=>?_,fun s hs=>?_⟩
   ·rw [mem_append,mem_append,mem_cons,mem_cons]
    dsimp only
    constructor
    ·rintro (k | k | k)
     ·exact .inl (.inl k)
     ·by_cases hx:x <= q.2
      ·exact .inl (.inr (.inl ⟨k.1,hx⟩))
      ·right;lia
     ·exact (br _ k).elim
    ·rintro ((k | k | k) | k)
     ·exact .inl k
     ·right;left;lia
     ·exact (br _ k).elim
     ·right;left;lia
   ·rcases List.mem_append.mp hs with hs | hs
    ·exact lo s (List.mem_append_left _ hs)
    ·rw [List.mem_singleton.mp hs];exact lq
  ·rw [if_neg h]
   refine ⟨canon_snoc.mpr ⟨c,hp,fun s hs=>?_⟩,fun x=>?_,fun s hs=>?_⟩
   ·rcases List.mem_append.mp hs with hs | hs
    ·have:=ht s hs;lia
    ·rw [List.mem_singleton.mp hs];lia
   ·rw [mem_append,mem_cons]
    constructor
    ·rintro (k | k | k)
     ·exact .inl k
     ·exact .inr k
     ·exact (br _ k).elim
    ·rintro (k | k)
     ·exact .inl k
     ·exact .inr (.inl k)
   ·rcases List.mem_append.mp hs with hs | hs
    ·exact lo s hs
    ·rw [List.mem_singleton.mp hs];exact Int.le_refl _
theorem B6:∀ (l:R) (acc:R),bw acc -> Ok l -> l.Pairwise (fun p q=>p.1 <= q.1) -> (∀ q ∈ acc,∀ p ∈ l,q.1 <= p.1) ->
  bw (l.foldl step acc) /\ ∀ x,Mem (l.foldl step acc) x ↔ Mem acc x \/ Mem l x
 | [],acc,c,_,_,_=>⟨c,fun x=>⟨fun h=>.inl h,fun h=>h.elim id fun k=>(br _ k).elim⟩⟩
 | p :: l,acc,c,o,w,lo=>by
  obtain ⟨w1,w2⟩:=List.pairwise_cons.mp w
  obtain ⟨c1,m1,l1⟩:=Ce c (o p List.mem_cons_self) fun q hq=>lo q hq p List.mem_cons_self
  obtain ⟨c2,m2⟩:=B6 l (step acc p) c1 (fun q hq=>o q (List.mem_cons_of_mem _ hq)) w2 fun q hq s hs=>by
   have:=l1 q hq
   have:=w1 s hs
   lia
  refine ⟨c2,fun x=>?_⟩
  show Mem (l.foldl step (step acc p)) x ↔ _
  rw [m2,m1,mem_cons,or_assoc]
def Hn (ps r:R):Prop:=bw r /\ ∀ x,Mem r x ↔ Mem ps x
theorem Fu {l ps:R} (o:Ok l) (w:l.Pairwise fun p q=>p.1 <= q.1) (h:∀ x,Mem l x ↔ Mem ps x):Hn ps (nI l):=by
 obtain ⟨c,m⟩:=B6 l [] gA o w fun _ h=>(by cases h)
 exact ⟨c,fun x=>by
  show Mem (l.foldl step []) x ↔ _
  rw [m x,<- h x]
  exact ⟨fun k=>k.elim (fun z=>(br _ z).elim) id,.inr⟩⟩
def nG (r:R) (lo hi:Int):R:=r.map fun p=>(p.1 + lo,p.2 + hi)
theorem Dk (r:R) (lo hi x:Int):Mem (nG r lo hi) x ↔ ∃ p ∈ r,p.1 + lo <= x /\ x <= p.2 + hi:=by
 constructor
 ·rintro ⟨q,m,e⟩
  obtain ⟨p,hp,rfl⟩:=List.mem_map.mp m
  exact ⟨p,hp,e⟩
 ·rintro ⟨p,hp,e⟩
  exact ⟨_,List.mem_map.mpr ⟨p,hp,rfl⟩,e⟩
theorem E8 {r:R} (o:Ok r) {lo hi:Int} (hl:lo <= hi):Ok (nG r lo hi):=fun q m=>by
 obtain ⟨p,hp,rfl⟩:=List.mem_map.mp m
 have:=o p hp
 dsimp only
 lia
end Rw
namespace Rw
def ez:R -> R -> R
 | [],_=>[]
 | _ :: _,[]=>[]
 | p :: s,q :: t=>(if max p.1 q.1 <= min p.2 q.2 then [(max p.1 q.1,min p.2 q.2)] else []) ++ (if p.2 < q.2 then ez s (q :: t) else ez (p :: s) t)
termination_by s t=>s.length + t.length
theorem d6 (s:R):ez s [] = []:=by cases s <;> simp [ez]
theorem eX (t:R):ez [] t = []:=by simp [ez]
theorem Cv:∀ (n:Nat) (s t:R),s.length + t.length = n -> ∀ r ∈ ez s t,(∃ p ∈ s,p.1 <= r.1 /\ r.2 <= p.2) /\ (∃ q ∈ t,q.1 <= r.1 /\ r.2 <= q.2) /\ r.1 <= r.2:=by
 intro n
 induction n using Nat.strongRecOn with
 | ind n ih=>
  intro s t hn r hr
  match s,t with
  | [],t=>rw [eX] at hr;cases hr
  | p :: s,[]=>rw [d6] at hr;cases hr
  | p :: s,q :: t=>
   rw [ez] at hr
   rcases List.mem_append.mp hr with hr | hr
   ·split at hr
    ·rename_i h
     rw [List.mem_singleton.mp hr]
     refine ⟨⟨p,List.mem_cons_self,?_,?_⟩,⟨q,List.mem_cons_self,?_,?_⟩,h⟩ <;> dsimp only <;> lia
    ·cases hr
   ·split at hr
    ·obtain ⟨⟨p',h1,h2⟩,h3⟩:=ih (s.length + (q :: t).length) (by simp at hn ⊢;lia) s (q :: t) rfl r hr
     exact ⟨⟨p',List.mem_cons_of_mem _ h1,h2⟩,h3⟩
    ·obtain ⟨h1,⟨q',h2,h3⟩,h4⟩:=ih ((p :: s).length + t.length) (by simp at hn ⊢;lia) (p :: s) t rfl r hr
     exact ⟨h1,⟨q',List.mem_cons_of_mem _ h2,h3⟩,h4⟩
theorem Ed:∀ (n:Nat) (s t:R),s.length + t.length = n -> bw s -> bw t -> ∀ x,Mem (ez s t) x ↔ Mem s x /\ Mem t x:=by
 intro n
 induction n using Nat.strongRecOn with
 | ind n ih=>
  intro s t hn cs ct x
  match s,t with
  | [],t=>rw [eX];exact ⟨fun h=>(br _ h).elim,fun h=>(br _ h.1).elim⟩
  | p :: s,[]=>rw [d6];exact ⟨fun h=>(br _ h).elim,fun h=>(br _ h.2).elim⟩
  | p :: s,q :: t=>
   have hp:=(canon_cons.mp cs).1
   have hq:=(canon_cons.mp ct).1
   have cs':=(canon_cons.mp cs).2.2
   have ct':=(canon_cons.mp ct).2.2
   have first:Mem (if max p.1 q.1 <= min p.2 q.2 then [(max p.1 q.1,min p.2 q.2)] else []) x ↔ (p.1 <= x /\ x <= p.2) /\ (q.1 <= x /\ x <= q.2):=by
    split
    ·rw [mem_cons]
     constructor
     ·rintro (h | h)
      ·dsimp only at h;lia
      ·exact (br _ h).elim
     ·intro h
      left
      dsimp only
      lia
    ·constructor
     ·intro h;exact (br _ h).elim
     ·intro h;lia
   rw [ez,mem_append,first]
   split
   ·rename_i hlt
    rw [ih (s.length + (q :: t).length) (by simp at hn ⊢;lia) s (q :: t) rfl cs' ct x,mem_cons p s,mem_cons q t]
    constructor
    ·rintro (h | ⟨h1,h2⟩)
     ·exact ⟨.inl h.1,.inl h.2⟩
     ·exact ⟨.inr h1,h2⟩
    ·rintro ⟨h1 | h1,h2 | h2⟩
     ·exact .inl ⟨h1,h2⟩
     ·have:=d7 ct h2;lia
     ·exact .inr ⟨h1,.inl h2⟩
     ·exact .inr ⟨h1,.inr h2⟩
   ·rename_i hge
    rw [ih ((p :: s).length + t.length) (by simp at hn ⊢;lia) (p :: s) t rfl cs ct' x,mem_cons p s,mem_cons q t]
    constructor
    ·rintro (h | ⟨h1,h2⟩)
     ·exact ⟨.inl h.1,.inl h.2⟩
     ·exact ⟨h1,.inr h2⟩
    ·rintro ⟨h1 | h1,h2 | h2⟩
     ·exact .inl ⟨h1,h2⟩
     ·exact .inr ⟨.inl h1,h2⟩
     ·have:=d7 cs h1;lia
     ·exact .inr ⟨.inr h1,h2⟩
theorem A1:∀ (n:Nat) (s t:R),s.length + t.length = n -> bw s -> bw t -> bw (ez s t):=by
 intro n
 induction n using Nat.strongRecOn with
 | ind n ih=>
  intro s t hn cs ct
  match s,t with
  | [],t=>rw [eX];exact gA
  | p :: s,[]=>rw [d6];exact gA
  | p :: s,q :: t=>
   have cs':=(canon_cons.mp cs).2.2
   have ct':=(canon_cons.mp ct).2.2
   rw [ez]
   have rest:bw (if p.2 < q.2 then ez s (q :: t) else ez (p :: s) t) /\ ∀ r ∈ (if p.2 < q.2 then ez s (q :: t) else ez (p :: s) t),min p.2 q.2 + 2 <= r.1:=by
    split
    ·rename_i hlt
     refine ⟨ih (s.length + (q :: t).length) (by simp at hn ⊢;lia) s (q :: t) rfl cs' ct,fun r hr=>?_⟩
     obtain ⟨⟨p',h1,h2,_⟩,_⟩:=Cv _ s (q :: t) rfl r hr
     have:=(canon_cons.mp cs).2.1 p' h1
     lia
    ·rename_i hge
     refine ⟨ih ((p :: s).length + t.length) (by simp at hn ⊢;lia) (p :: s) t rfl cs ct',fun r hr=>?_⟩
     obtain ⟨_,⟨q',h1,h2,_⟩,_⟩:=Cv _ (p :: s) t rfl r hr
     have:=(canon_cons.mp ct).2.1 q' h1
     lia
   split
   ·rename_i h
    exact canon_cons.mpr ⟨h,rest.2,rest.1⟩
   ·rw [List.nil_append];exact rest.1
theorem zC:∀ (n:Nat) (s t:R),s.length + t.length = n -> (ez s t).length <= s.length + t.length:=by
 intro n
 induction n using Nat.strongRecOn with
 | ind n ih=>
  intro s t hn
  match s,t with
  | [],t=>rw [eX];simp
  | p :: s,[]=>rw [d6];simp
  | p :: s,q :: t=>
   rw [ez,List.length_append]
   have h1:(if max p.1 q.1 <= min p.2 q.2 then [(max p.1 q.1,min p.2 q.2)] else []).length <= 1:=by split <;> simp
   have h2:(if p.2 < q.2 then ez s (q :: t) else ez (p :: s) t).length + 1 <= (p :: s).length + (q :: t).length:=by
    split
    ·have:=ih (s.length + (q :: t).length) (by simp at hn ⊢;lia) s (q :: t) rfl
     simp at this ⊢;lia
    ·have:=ih ((p :: s).length + t.length) (by simp at hn ⊢;lia) (p :: s) t rfl
     simp at this ⊢;lia
   lia
def HM:List Int -> R
 | a :: b :: t=>(a,b - 1) :: HM t
 | _=>[]
def IT (r t u:R):Prop:=bw u /\ ∀ x,Mem u x ↔ (Mem r x /\ Mem t x)
def bL (P:Int -> Prop) (L:Int):Nat -> Int
 | 0=>0
 | n + 1=>bL P L n + (by classical exact if P (L + n) then 1 else 0)
end Rw
namespace P
open PySem L2 M
abbrev NS:List Str:=["Box", "Cross", "Shape", "Sum"]
def pe:XS:=lA 6 xPv (xSh (a9 (af (aq 7) (af (a9 (af (a9 (af (xOp kq (xC (.int 0)) (xOp mS (ah 2) (ah 1))) (af (xOp mS (ah 4) (ah 1)) ap))) ap)) ap))))
def vw:XS:=aS (bq (aq 0) (EF (ar (ai 2) (ar (ai 3) (ar (ai 4) (ar (ai 5) bg)))))) (aS (lI (my ap) 6) (aS (i7 (o5 (af (xOp kq (xC (.int 0)) (xOp mS (ah 3) (ah 1))) (af (xOp bK (xOp mS (ah 5) (ah 1)) (xC (.int 1))) ap))) (ai 7) (pe)) (bU (xCB eV (af (ah 6) ap)))))
def Ch:List D -> Option O:=fnO 8 vw
def FL:List D -> Option D:=fun ds=>(Ch ds).map O.d
def i4:XS:=aS (xIf (xB (xOp dLt (ah 1) (xCB pd (af (ah 0) ap)))) (bU (xOp dIx (ah 0) (ah 1))) hW) (bU (xC (.int 0)))
def jG:List D -> Option O:=fnO 2 i4
def aH:List D -> Option D:=fun ds=>(jG ds).map O.d
def c9:XS:=xIf (xOr (xB (xOp (dEq false) (xCB pd (af (ah 1) ap)) (xC (.int 0)))) (xB (xOp (dEq true) (xOp dIx (xOp dIx (ah 1) (xUn fc (xC (.int 1)))) (xC (.int 0))) (ah 2)))) (lA 1 xPv (xSh (a9 (af (aq 2) (af (a9 (af (a9 (af (aq 3) (af (aq 3) ap))) ap)) ap))))) (xIf (xB (xOp dGt (ah 3) (xOp bK (xOp dIx (xOp dIx (xOp dIx (xOp dIx (ah 1) (xUn fc (xC (.int 1)))) (xC (.int 1))) (xUn fc (xC (.int 1)))) (xC (.int 1))) (xC (.int 1))))) (wU 1 xPv (xUn fc (xC (.int 1))) (a9 (af (aq 2) (af (xOp bK (xOp dIx (xOp dIx (ah 1) (xUn fc (xC (.int 1)))) (xC (.int 1))) (a9 (af (a9 (af (aq 3) (af (aq 3) ap))) ap))) ap)))) (wU 1 xPv (xUn fc (xC (.int 1))) (a9 (af (aq 2) (af (xOp bK (xSl (xOp dIx (xOp dIx (ah 1) (xUn fc (xC (.int 1)))) (xC (.int 1))) xT (wW (xUn fc (xC (.int 1))))) (a9 (af (a9 (af (xOp dIx (xOp dIx (xOp dIx (xOp dIx (ah 1) (xUn fc (xC (.int 1)))) (xC (.int 1))) (xUn fc (xC (.int 1)))) (xC (.int 0))) (af (aq 3) ap))) ap))) ap)))))
def kn:XS:=aS (lI (my ap) 1) (aS (i7 (xIt (xL (DP ic (af (xL (dQ [none,none] (xIt (ah 0)) (bn (ar (ai 0) (ar (ai 1) bg))) dW (a9 (af (aq 1) (af (aq 0) ap))))) ap)))) (bn (ar (ai 2) (ar (ai 3) bg))) (c9)) (bU (xCB eV (af (ah 1) ap))))
def uz:List D -> Option O:=fnO 4 kn
def mN:List D -> Option D:=fun ds=>(uz ds).map O.d
def kg:XS:=aS (xIf (xB (xOp dLt (ah 0) (xC (.int 0)))) (bU (xOp kq (xC (.int 0)) (xOp fV (xOp kq (xC (.int 0)) (ah 0)) (ah 1)))) hW) (bU (xOp fV (ah 0) (ah 1)))
def kt:List D -> Option O:=fnO 2 kg
def fI:List D -> Option D:=fun ds=>(kt ds).map O.d
def pI:XS:=aS (xIf (xB (xOp (dEq false) (ah 0) (a9 ap))) (bU (xC .non)) hW) (aS (bq (xCB zt (af (xL (dQ [none,none] (xIt (ah 0)) (bn (ar (ai 0) (ar (ai 1) bg))) dW (xOp dIx (xOp dIx (ah 1) (xC (.int 0))) (xC (.int 0))))) ap)) (ai 1)) (aS (bq (xCB Ax (af (xL (dQ [none,none] (xIt (ah 0)) (bn (ar (ai 0) (ar (ai 1) bg))) dW (xOp dIx (xOp dIx (ah 1) (xUn fc (xC (.int 1)))) (xC (.int 1))))) ap)) (ai 2)) (bU (a9 (af (aq 1) (af (xOp dIx (xOp dIx (ah 0) (xC (.int 0))) (xC (.int 0))) (af (aq 2) (af (xOp dIx (xOp dIx (ah 0) (xUn fc (xC (.int 1)))) (xC (.int 0))) ap))))))))
def qy:List D -> Option O:=fnO 3 pI
def uF:List D -> Option D:=fun ds=>(qy ds).map O.d
def dB:XT:=xB (xOp dLt (ah 2) (ah 3))
def dD:XS:=aS (bq (xOp yL (xOp bK (ah 2) (ah 3)) (xC (.int 2))) (ai 4)) (xIf (xB (xOp dLe (xOp dIx (xOp dIx (ah 0) (ah 4)) (xC (.int 0))) (ah 1))) (bq (xOp bK (ah 4) (xC (.int 1))) (ai 2)) (bq (aq 4) (ai 3)))
def gO:XS:=aS (bq (xC (.int 0)) (ai 2)) (aS (bq (xCB pd (af (ah 0) ap)) (ai 3)) (aS (fw (dB) (dD)) (bU (aq 2))))
def iM:List D -> Option O:=fnO 5 gO
def eW:List D -> Option D:=fun ds=>(iM ds).map O.d
def gf:XS:=aS (bq (xL (dQ [none] (xIt (ah 0)) (ai 0) (xB (xOp (dEq false) (xCB pd (af (ah 0) ap)) (xC (.int 1)))) (xOp dIx (ah 0) (xC (.int 0))))) (ai 1)) (aS (bq (xCB eV (af (xL (dQ [none,some 1] (o5 (af (xC (.int 4)) ap)) (ai 0) dW (xCB CJ (af (xL (dQ [none,some 0] (xIt (ah 1)) (ai 0) dW (xOp dIx (ah 0) (ah 1)))) ap)))) ap)) (ai 2)) (bU (xOp bK (a9 (af (a9 (af (aq 2) ap)) ap)) (xCB eV (af (xL (dQ [none] (xIt (ah 0)) (ai 0) (xB (xOp dGt (xCB pd (af (ah 0) ap)) (xC (.int 1)))) (aq 0))) ap)))))
def gZ:List D -> Option O:=fnO 3 gf
def f7:List D -> Option D:=fun ds=>(gZ ds).map O.d
def cU:XT:=xG (xB (xOp dLt (ah 3) (xCB pd (af (ah 0) ap)))) (xB (xOp dLt (ah 4) (xCB pd (af (ah 1) ap))))
def bZ:XS:=aS (bq (xCB wK (af (xOp dIx (xOp dIx (ah 0) (ah 3)) (xC (.int 0))) (af (xOp dIx (xOp dIx (ah 1) (ah 4)) (xC (.int 0))) ap))) (ai 5)) (aS (bq (xCB wo (af (xOp dIx (xOp dIx (ah 0) (ah 3)) (xC (.int 1))) (af (xOp dIx (xOp dIx (ah 1) (ah 4)) (xC (.int 1))) ap))) (ai 6)) (aS (xIf (xB (xOp dLe (ah 5) (ah 6))) (lA 2 xPv (xSh (a9 (af (aq 5) (af (aq 6) ap))))) hW) (xIf (xB (xOp dLt (xOp dIx (xOp dIx (ah 0) (ah 3)) (xC (.int 1))) (xOp dIx (xOp dIx (ah 1) (ah 4)) (xC (.int 1))))) (C4 3 (xC (.int 1)) wH) (C4 4 (xC (.int 1)) wH))))
def iq:XS:=aS (lI (my ap) 2) (aS (bq (xC (.int 0)) (ai 3)) (aS (bq (xC (.int 0)) (ai 4)) (aS (fw (cU) (bZ)) (bU (xCB eV (af (ah 2) ap))))))
def jQ:List D -> Option O:=fnO 7 iq
def im:List D -> Option D:=fun ds=>(jQ ds).map O.d
def jA:XS:=bU (xCB eV (af (xL (dQ [none,none,some 1] (xIt (ah 0)) (bn (ar (ai 0) (ar (ai 1) bg))) dW (a9 (af (xOp bK (ah 0) (ah 2)) (af (xOp bK (ah 1) (ah 2)) ap))))) ap))
def kH:List D -> Option O:=fnO 2 jA
def jz:List D -> Option D:=fun ds=>(kH ds).map O.d
def fD:XS:=xIf (xG (yf (ah 1)) (xB (xOp dLe (ah 2) (xOp bK (xOp dIx (xOp dIx (ah 1) (xUn fc (xC (.int 1)))) (xC (.int 1))) (xC (.int 1)))))) (wU 1 xPv (xUn fc (xC (.int 1))) (a9 (af (xOp dIx (xOp dIx (ah 1) (xUn fc (xC (.int 1)))) (xC (.int 0))) (af (xCB wK (af (xOp dIx (xOp dIx (ah 1) (xUn fc (xC (.int 1)))) (xC (.int 1))) (af (ah 3) ap))) ap)))) (lA 1 xPv (xSh (a9 (af (aq 2) (af (aq 3) ap)))))
def pE:XS:=aS (lI (my ap) 1) (aS (i7 (xIt (xL (DP ic (af (xL (dQ [none,none] (xIt (ah 0)) (bn (ar (ai 0) (ar (ai 1) bg))) (xB (xOp dLe (ah 0) (ah 1))) (a9 (af (aq 0) (af (aq 1) ap))))) ap)))) (bn (ar (ai 2) (ar (ai 3) bg))) (fD)) (bU (xCB eV (af (ah 1) ap))))
def qu:List D -> Option O:=fnO 4 pE
def mE:List D -> Option D:=fun ds=>(qu ds).map O.d
def dL:XS:=bU (xCB eV (af (xL (dQ [none,none] (xIt (ah 0)) (bn (ar (ai 0) (ar (ai 1) bg))) (xB (xOp (dEq true) (ah 1) (a9 ap))) (a9 (af (aq 0) (af (aq 1) ap))))) ap))
def fv:List D -> Option O:=fnO 1 dL
def bO:List D -> Option D:=fun ds=>(fv ds).map O.d
def eL:XS:=B4 1 xPv (xL (dQ [none,none,some 2] (xIt (ah 3)) (bn (ar (ai 0) (ar (ai 1) bg))) dW (a9 (af (aq 2) (af (aq 0) (af (aq 1) ap))))))
def gt:XS:=aS (lI (my ap) 1) (aS (i7 (xIt (aq 0)) (bn (ar (ai 2) (ar (ai 3) bg))) (eL)) (FG 1))
def fj:List D -> Option O:=fnO 4 gt
def b5:List D -> Option D:=fun ds=>(fj ds).map O.d
def xJ:List D -> Option D:=zS (xB (xOp dLt (xCB BQ (af (ah 1) (af (ah 2) (af (ah 3) (af (ah 4) ap))))) (xC (.int 0)))) (a9 (af (a9 (af (a9 (af (xUn fc (ah 1)) (af (xUn fc (ah 2)) (af (aq 3) (af (aq 4) ap))))) ap)) ap))
def pD:List D -> Option D:=zS (xB (xOp dLt (ah 1) (xC (.int 0)))) (a9 (af (a9 (af (a9 (af (xUn fc (ah 1)) (af (xC (.int 0)) (af (aq 1) (af (xC (.int 0)) ap))))) (af (a9 (af (xC (.int 0)) (af (xUn fc (ah 1)) (af (xC (.int 0)) (af (aq 1) ap))))) ap))) ap))
def u7:List D -> Option D:=KG (aG f7 (af (xOp bK (mH NS "parts" (aq 1)) (mH NS "parts" (aq 2))) ap))
def eM:XS:=aS (bq (aG aH (af (aq 0) (af (xOp bK (xC (.int 7)) (ah 3)) ap))) (ai 4)) (aS (bq (aG fI (af (aq 4) (af (xOp dIx (xL (my (af (xC (.int 7)) (af (xOp vd (xC (.int 10)) (xC (.int 57))) ap)))) (xOp fV (xOp yL (aG aH (af (aq 0) (af (xC (.int 0)) ap))) (xC (.int 128))) (xC (.int 2)))) ap))) (ai 5)) (lA 1 xPv (xSh (a9 (af (xOp bK (ah 2) (ah 3)) (af (a9 (af (a9 (af (aq 5) (af (xOp bK (ah 5) (xOp fV (xOp yL (xOp fV (xOp mS (ah 4) (xC (.int 48271))) (xC (.int 2147483647))) (xC (.int 37))) (xOp dIx (xL (my (af (xC (.int 9)) (af (xOp vd (xC (.int 10)) (xC (.int 52))) ap)))) (xOp fV (ah 4) (xC (.int 2)))))) ap))) ap)) ap))))))
def iJ:XS:=aS (lI (my ap) 1) (aS (bq (aG fI (af (aG aH (af (aq 0) (af (xC (.int 6)) ap))) (af (xOp dIx (xL (my (af (xC (.int 9)) (af (xOp vd (xC (.int 10)) (xC (.int 57))) ap)))) (xOp fV (xOp yL (aG aH (af (aq 0) (af (xC (.int 0)) ap))) (xC (.int 64))) (xC (.int 2)))) ap))) (ai 2)) (aS (i7 (o5 (af (xOp bK (xC (.int 1)) (xOp fV (xOp yL (aG aH (af (aq 0) (af (xC (.int 0)) ap))) (xC (.int 3))) (xC (.int 3)))) ap)) (ai 3) (eM)) (bU (xCB eV (af (ah 1) ap)))))
def si:List D -> Option O:=fnO 6 iJ
def tI:List D -> Option D:=fun ds=>(si ds).map O.d
def ft:XS:=bU (xSl (ah 0) (wW (xCB wK (af (xC (.int 0)) (af (xOp kq (aG eW (af (aq 0) (af (aq 1) ap))) (xC (.int 1))) ap)))) (wW (aG eW (af (aq 0) (af (aq 2) ap)))))
def gE:List D -> Option O:=fnO 3 ft
def bC:List D -> Option D:=fun ds=>(gE ds).map O.d
def bT:XS:=xIf (xG (yf (ah 1)) (xB (xOp (dEq false) (xOp dIx (ah 1) (xUn fc (xC (.int 1)))) (a9 (af (aq 2) (af (xOp dIx (xOp dIx (ah 1) (xUn fc (xC (.int 1)))) (xC (.int 1))) (af (aq 3) (af (xOp kq (ah 4) (xC (.int 1))) ap)))))))) (wU 1 xPv (xUn fc (xC (.int 1))) (a9 (af (aq 2) (af (xOp dIx (xOp dIx (ah 1) (xUn fc (xC (.int 1)))) (xC (.int 1))) (af (aq 3) (af (aq 4) ap)))))) (lA 1 xPv (xSh (a9 (af (aq 2) (af (aq 4) (af (aq 3) (af (aq 4) ap)))))))
def jv:XS:=aS (lI (my ap) 1) (aS (i7 (xIt (xL (DP ic (af (xL (dQ [none,none,none] (xIt (aG b5 (af (aq 0) ap))) (bn (ar (ai 0) (ar (ai 1) (ar (ai 2) bg)))) dW (a9 (af (aq 1) (af (aq 2) (af (aq 0) ap)))))) ap)))) (bn (ar (ai 2) (ar (ai 3) (ar (ai 4) bg)))) (bT)) (bU (xCB eV (af (ah 1) ap))))
def kO:List D -> Option O:=fnO 5 jv
def mf:List D -> Option D:=fun ds=>(kO ds).map O.d
def tz:XS:=bU (xCB eV (af (xL (dQ [none,none,some 2,some 1] (xIt (ah 0)) (bn (ar (ai 0) (ar (ai 1) bg))) dW (a9 (af (xOp bK (ah 0) (ah 2)) (af (aG jz (af (aq 1) (af (aq 3) ap))) ap))))) ap))
def tM:List D -> Option O:=fnO 3 tz
def tp:List D -> Option D:=fun ds=>(tM ds).map O.d
def bW:XS:=aS (xIf (xOr (BB (yf (Cs 1))) (xB (xOp (dEq true) (xFl (xOp dIx (xOp dIx (Cs 1) (xUn fc (xC (.int 1)))) (xC (.int 0)))) (ah 2)))) (lA 1 xPv (EW (xu (xSh (aq 2)) (xu (FE E3) E3)))) hW) (lA 1 (xPi (xPi xPv (xUn fc (xC (.int 1)))) (xC (.int 1))) (xSh (a9 (af (aq 3) (af (aq 4) ap)))))
def il:XS:=aS (lI (my ap) 1) (aS (i7 (xIt (xL (DP ic (af (xL (dQ [none,none,none] (xIt (ah 0)) (bn (ar (ai 0) (ar (ai 1) (ar (ai 2) bg)))) (xB (xOp dLe (ah 1) (ah 2))) (a9 (af (aq 0) (af (aq 1) (af (aq 2) ap)))))) ap)))) (bn (ar (ai 2) (ar (ai 3) (ar (ai 4) bg)))) (bW)) (GY 1 (bU (xCB eV (af (xL (dQ [none,none] (xIt (aq 1)) (bn (ar (ai 0) (ar (ai 1) bg))) dW (a9 (af (aq 0) (af (aG mE (af (aq 1) ap)) ap))))) ap)))))
def jJ:List D -> Option O:=fnO 5 il
def fZ:List D -> Option D:=fun ds=>(jJ ds).map O.d
def kh:XS:=aS (bq (aG eW (af (aq 0) (af (aq 1) ap))) (ai 2)) (aS (xIf (xG (xB (xOp dGt (ah 2) (xC (.int 0)))) (xB (xOp (dEq false) (xOp dIx (xOp dIx (ah 0) (xOp kq (ah 2) (xC (.int 1)))) (xC (.int 0))) (ah 1)))) (bU (xOp dIx (xOp dIx (ah 0) (xOp kq (ah 2) (xC (.int 1)))) (xC (.int 1)))) hW) (bU (a9 ap)))
def jV:List D -> Option O:=fnO 3 kh
def j5:List D -> Option D:=fun ds=>(jV ds).map O.d
def ik:XS:=bU (aG mE (af (xL (dQ [none,none,some 1,some 2] (xIt (ah 0)) (bn (ar (ai 0) (ar (ai 1) bg))) dW (a9 (af (xOp kq (ah 0) (ah 2)) (af (xOp kq (ah 1) (ah 3)) ap))))) ap))
def jM:List D -> Option O:=fnO 3 ik
def ii:List D -> Option D:=fun ds=>(jM ds).map O.d
def kj:List D -> Option D:=zS (xB (xOp (dEq false) (ah 1) (a9 ap))) (a9 (af (aG mf (af (aq 1) ap)) ap))
def pW:XS:=bU (aG bO (af (xL (dQ [none,none,some 1] (xIt (ah 0)) (bn (ar (ai 0) (ar (ai 1) bg))) dW (a9 (af (aq 0) (af (aG im (af (aq 1) (af (aG j5 (af (aq 2) (af (aq 0) ap))) ap))) ap))))) ap))
def qR:List D -> Option O:=fnO 2 pW
def pT:List D -> Option D:=fun ds=>(qR ds).map O.d
def xo:XS:=bU (aG fZ (af (xOp bK (aG b5 (af (aq 0) ap)) (aG b5 (af (aq 1) ap))) ap))
def yE:List D -> Option O:=fnO 2 xo
def AO:List D -> Option D:=fun ds=>(yE ds).map O.d
def mL:XS:=aS (bq (aG bC (af (aq 0) (af (xOp bK (xOp dIx (ah 1) (xC (.int 1))) (xOp dIx (ah 2) (xC (.int 1)))) (af (xOp bK (xOp dIx (ah 1) (xC (.int 3))) (xOp dIx (ah 2) (xC (.int 3)))) ap)))) (ai 3)) (bU (aG bO (af (xL (dQ [none,none,some 1,some 2] (xIt (ah 3)) (bn (ar (ai 0) (ar (ai 1) bg))) dW (a9 (af (aq 0) (af (aG bC (af (aq 1) (af (xOp bK (xOp dIx (ah 2) (xC (.int 0))) (xOp dIx (ah 3) (xC (.int 0)))) (af (xOp bK (xOp dIx (ah 2) (xC (.int 2))) (xOp dIx (ah 3) (xC (.int 2)))) ap)))) ap))))) ap)))
def nM:List D -> Option O:=fnO 4 mL
def rD:List D -> Option D:=fun ds=>(nM ds).map O.d
def dt:XT:=xB (xOp dLt (ah 2) (ah 1))
def fe:XS:=aS (bq (xCB wo (af (xOp bK (ah 2) (xC (.int 1))) (af (xOp kq (ah 1) (ah 2)) ap))) (ai 3)) (aS (bq (aG pT (af (aq 0) (af (aG tp (af (aq 0) (af (xC (.int 0)) (af (xUn fc (ah 3)) ap)))) ap))) (ai 0)) (C4 2 (ah 3) wH))
def gP:XS:=aS (bq (xC (.int 0)) (ai 2)) (aS (fw (dt) (fe)) (bU (aq 0)))
def jc:List D -> Option O:=fnO 4 gP
def gN:List D -> Option D:=fun ds=>(jc ds).map O.d
def dE:XT:=xB (xOp dLt (ah 2) (ah 1))
def fh:XS:=aS (bq (xCB wo (af (xOp bK (ah 2) (xC (.int 1))) (af (xOp kq (ah 1) (ah 2)) ap))) (ai 3)) (aS (bq (aG AO (af (aq 0) (af (aG tp (af (aq 0) (af (xC (.int 0)) (af (aq 3) ap)))) ap))) (ai 0)) (C4 2 (ah 3) wH))
def gL:XS:=aS (bq (xC (.int 0)) (ai 2)) (aS (fw (dE) (fh)) (bU (aq 0)))
def jk:List D -> Option O:=fnO 4 gL
def gK:List D -> Option D:=fun ds=>(jk ds).map O.d
def lG:XS:=bq (nt "Sum" "parts" u7 (af (aq 2) (af (aq 0) ap))) (ai 2)
def uB:XS:=aS (bq (nt "Shape" "parts" kj (af (xC (.tup [.tup [.int (0),.tup [.tup [.int (0),.int (0)]]]])) ap)) (ai 2)) (aS (i7 (o5 (af (ah 1) ap)) (ai 3) (lG)) (bU (aq 2)))
def Ct:List D -> Option O:=fnO 4 uB
def jL:List D -> Option D:=fun ds=>(Ct ds).map O.d
def bV:XS:=aS (bq (xL (dQ [none,none,none,some 1] (xIt (aG b5 (af (aq 0) ap))) (bn (ar (ai 0) (ar (ai 1) (ar (ai 2) bg)))) dW (a9 (af (xOp bK (ah 0) (xOp dIx (ah 3) (xC (.int 1)))) (af (xOp bK (ah 1) (xOp dIx (ah 3) (xC (.int 0)))) (af (xOp bK (ah 2) (xOp dIx (ah 3) (xC (.int 2)))) ap)))))) (ai 2)) (aS (xIf (xB (xOp (dEq false) (xOp dIx (ah 1) (xC (.int 1))) (xOp dIx (ah 1) (xC (.int 3))))) (bU (aq 2)) hW) (bU (aG b5 (af (aG gK (af (aG fZ (af (aq 2) ap)) (af (xOp kq (xOp dIx (ah 1) (xC (.int 3))) (xOp dIx (ah 1) (xC (.int 1)))) ap))) ap))))
def cM:List D -> Option O:=fnO 3 bV
def dh:List D -> Option D:=fun ds=>(cM ds).map O.d
def dg:XS:=aS (bq (aG bO (af (xL (dQ [none,none,some 1] (xIt (ah 0)) (bn (ar (ai 0) (ar (ai 1) bg))) dW (a9 (af (xOp kq (ah 0) (xOp dIx (ah 2) (xC (.int 1)))) (af (aG ii (af (aq 1) (af (xOp dIx (ah 2) (xC (.int 0))) (af (xOp dIx (ah 2) (xC (.int 2))) ap)))) ap))))) ap)) (ai 2)) (bU (aG gN (af (aq 2) (af (xOp kq (xOp dIx (ah 1) (xC (.int 3))) (xOp dIx (ah 1) (xC (.int 1)))) ap))))
def eP:List D -> Option O:=fnO 3 dg
def dc:List D -> Option D:=fun ds=>(eP ds).map O.d
def cK:XS:=B4 2 xPv (aG dh (af (aq 0) (af (aq 3) ap)))
def dN:XS:=aS (lI (my ap) 2) (aS (i7 (xIt (aq 1)) (ai 3) (cK)) (GY 2 (bU (aG fZ (af (aq 2) ap)))))
def fF:List D -> Option O:=fnO 4 dN
def fQ:List D -> Option D:=fun ds=>(fF ds).map O.d
def bB:XS:=aS (xIf (xB (xOp (dEq false) (ah 2) (a9 ap))) (bU (a9 ap)) hW) (bq (aG pT (af (aq 2) (af (aG dc (af (aG rD (af (aq 0) (af (aG uF (af (aq 2) ap)) (af (aq 3) ap)))) (af (aq 3) ap))) ap))) (ai 2))
def cz:XS:=aS (bq (aG dc (af (aq 0) (af (xOp dIx (ah 1) (xUn fc (xC (.int 1)))) ap))) (ai 2)) (aS (i7 (xIt (xSl (ah 1) xT (wW (xUn fc (xC (.int 1)))))) (ai 3) (bB)) (bU (aq 2)))
def df:List D -> Option O:=fnO 4 cz
def dM:List D -> Option D:=fun ds=>(df ds).map O.d
def cS:XS:=bq (aG fQ (af (aq 1) (af (aq 2) ap))) (ai 1)
def eA:XS:=aS (i7 (wn (af (mH NS "parts" (aq 0)) ap)) (ai 2) (cS)) (bU (aq 1))
def kY:List D -> Option O:=fnO 3 eA
def bi:List D -> Option D:=fun ds=>(kY ds).map O.d
def cY:XS:=bq (aG dM (af (aq 1) (af (aq 2) ap))) (ai 1)
def dX:XS:=aS (i7 (xIt (mH NS "parts" (aq 0))) (ai 2) (cY)) (bU (aq 1))
def lp:List D -> Option O:=fnO 3 dX
def bJ:List D -> Option D:=fun ds=>(lp ds).map O.d
def gm:XS:=bU (fR NS "greater" bi (aq 0) (af (xC (.tup [.tup [.int (0),.tup [.tup [.int (0),.int (0)]]]])) ap))
def m9:List D -> Option O:=fnO 1 gm
def eI:List D -> Option D:=fun ds=>(m9 ds).map O.d
def fb:XS:=aS (bq (fR NS "greater" bi (aq 0) (af (aq 4) ap)) (ai 4)) (bq (fR NS "smaller" bJ (aq 0) (af (aq 5) ap)) (ai 5))
def gT:XS:=aS (bq (aG jL (af (aq 0) (af (aq 2) ap))) (ai 3)) (aS (bq (aq 1) (ai 4)) (aS (bq (aq 1) (ai 5)) (aS (i7 (o5 (af (ah 2) ap)) (ai 6) (fb)) (bU (xc (xOp (dEq false) (fR NS "greater" bi (aq 3) (af (aq 1) ap)) (ah 4)) (xOp (dEq false) (fR NS "smaller" bJ (aq 3) (af (aq 1) ap)) (ah 5)))))))
def o3:List D -> Option O:=fnO 7 gT
def gS:List D -> Option D:=fun ds=>(o3 ds).map O.d
def zJ:XS:=aS (bq (aG aH (af (aq 0) (af (xC (.int 0)) ap))) (ai 1)) (aS (bq (xOp fV (aG aH (af (aq 0) (af (xC (.int 1)) ap))) (xC (.int 21))) (ai 2)) (aS (xIf (xB (xOp (dEq false) (xOp fV (xOp yL (aG aH (af (aq 0) (af (xC (.int 1)) ap))) (xC (.int 21))) (xC (.int 8))) (xC (.int 1)))) (bq (xC (.int 40)) (ai 2)) hW) (aS (bq (xOp dIx (xL (my (af (xC (.int 3)) (af (xOp vd (xC (.int 10)) (xC (.int 50))) ap)))) (xOp fV (ah 1) (xC (.int 2)))) (ai 3)) (aS (lI (my (af (xOp fV (aG aH (af (aq 0) (af (xC (.int 2)) ap))) (ah 3)) (af (xOp fV (aG aH (af (aq 0) (af (xC (.int 3)) ap))) (xC (.int 3))) (af (xOp fV (aG aH (af (aq 0) (af (xC (.int 4)) ap))) (ah 3)) ap)))) 4) (aS (lA 4 xPv (xSh (xOp fV (aG aH (af (aq 0) (af (xC (.int 5)) ap))) (xC (.int 3))))) (aS (bq (nt "Box" "parts" xJ (af (xOp dIx (ah 4) (xC (.int 0))) (af (xOp dIx (ah 4) (xC (.int 1))) (af (xOp dIx (ah 4) (xC (.int 2))) (af (xOp dIx (ah 4) (xC (.int 3))) ap))))) (ai 5)) (aS (bq (aG fI (af (aG aH (af (aq 0) (af (xC (.int 2)) ap))) (af (aq 3) ap))) (ai 6)) (aS (bq (aG fI (af (aG aH (af (aq 0) (af (xC (.int 3)) ap))) (af (aq 3) ap))) (ai 7)) (aS (bq (xOp bK (xC (.int 1)) (xOp fV (aG aH (af (aq 0) (af (xC (.int 4)) ap))) (ah 3))) (ai 8)) (aS (bq (aG fI (af (aG aH (af (aq 0) (af (xC (.int 5)) ap))) (af (aq 3) ap))) (ai 9)) (aS (bq (nt "Shape" "parts" kj (af (aG mN (af (xL (my (af (a9 (af (aq 6) (af (aq 7) ap))) (af (a9 (af (xOp bK (ah 6) (ah 8)) (af (xOp bK (ah 7) (ah 9)) ap))) ap)))) ap)) ap)) (ai 10)) (aS (GY 4 (xIf (xG (xB (xOp dLt (ah 2) (xC (.int 21)))) (xB (xOp (dEq true) (fR NS "cells" eI (aG jL (af (aq 5) (af (aq 2) ap))) ap) (aG FL (af (aq 4) (af (aq 2) ap)))))) (bU (xC (.bl false))) hW)) (aS (bq (aG mN (af (xL (dQ [none,some 2,some 6,some 8,some 7,some 9] (o5 (af (xOp bK (ah 2) (xC (.int 1))) ap)) (ai 0) dW (a9 (af (xOp bK (xOp mS (ah 1) (ah 2)) (xOp mS (ah 0) (ah 3))) (af (xOp bK (xOp mS (ah 1) (ah 4)) (xOp mS (ah 0) (ah 5))) ap))))) ap)) (ai 11)) (aS (xIf (xOr (xB (xOp (dEq true) (fR NS "cells" eI (aG jL (af (aq 10) (af (aq 2) ap))) ap) (ah 11))) (xB (xOp (dEq true) (fR NS "cells" eI (aG jL (af (aq 5) (af (xC (.int 0)) ap))) ap) (a9 (af (a9 (af (xC (.int 0)) (af (a9 (af (a9 (af (xC (.int 0)) (af (xC (.int 0)) ap))) ap)) ap))) ap))))) (bU (xC (.bl false))) hW) (aS (bq (aG tI (af (aq 0) ap)) (ai 12)) (aS (xIf (xOr (xB (xOp (dEq true) (fR NS "greater" bi (aG jL (af (aq 10) (af (xC (.int 0)) ap))) (af (aq 12) ap)) (ah 12))) (xB (xOp (dEq true) (fR NS "smaller" bJ (aG jL (af (aq 5) (af (xC (.int 0)) ap))) (af (aq 12) ap)) (ah 12)))) (bU (xC (.bl false))) hW) (aS (bq (nt "Cross" "parts" pD (af (xOp bK (xC (.int 1)) (xOp fV (aG aH (af (aq 0) (af (xC (.int 10)) ap))) (xC (.int 2)))) ap)) (ai 13)) (aS (xIf (xOr (BB (yf (aG gS (af (aq 5) (af (aq 12) (af (xOp fV (ah 2) (xC (.int 6))) ap)))))) (BB (yf (aG gS (af (aq 10) (af (aq 12) (af (xOp fV (ah 2) (xC (.int 6))) ap))))))) (bU (xC (.bl false))) hW) (aS (bq (nt "Sum" "parts" u7 (af (aq 13) (af (aq 10) ap))) (ai 14)) (bU (xc (aG gS (af (aq 13) (af (aq 12) (af (xOp fV (ah 2) (xC (.int 5))) ap)))) (aG gS (af (aq 14) (af (aq 12) (af (xOp fV (ah 2) (xC (.int 4))) ap)))))))))))))))))))))))))
def FN:List D -> Option O:=fnO 15 zJ
def JX:List D -> Option D:=fun ds=>(FN ds).map O.d
local macro_rules | `(tactic| and_intros)=>`(tactic| repeat' first | (with_reducible first | exact KQ | exact HV | exact HZ | exact I9 | exact IY | exact FQ | exact K7 | exact G0 | exact IC _ | exact JV | exact Ik | exact K1 _ | exact Hx | exact J8 | exact K8 _ | exact Mg | exact GO | exact Mc | exact LH | exact JD | exact KE | exact K6 | exact Av | exact Kw | exact Lh | exact IX | exact FX | exact HP _ | exact rY _ | exact iL _ | exact Iq _ | exact KT | exact gX | exact Em | exact Ji | apply SE.t | apply SF.e | apply SF.t | apply SQ.fl | apply STr.e | apply IJ | apply KU | apply Kb | apply KZ | apply Jn | apply HK | apply Kl | apply Jv | apply Gy | apply Me | apply Kv | apply Jf | apply Iu | apply KK | apply II | apply J7 | apply Kk | apply K5 | apply JE | apply Ig | apply FM | apply Lk | apply Ld | apply Mt | apply KI | apply Jj | apply K2 | apply Fj | apply J9 | apply LS | apply JL | apply Kz | apply Kn | apply IH | apply Mf | apply xz | apply Jk | apply nz | apply Jt | apply FV | apply Hc | apply bH | apply oO | apply GZ | apply SE.p | apply SPk.q | apply SI.p) | exact s_c rfl | exact s_g | apply uh | exact fun _ _ h=>xY h | refine' Bz (E:=E0) ?_ ?_ | refine' HN (Ns:=NS) ?_ ?_ ?_ | refine' Jr (Ns:=NS) ?_ ?_ ?_ | exact List.Mem.head _ | exact List.Mem.tail _ (List.Mem.head _) | decide +kernel)
abbrev kl (K:W.Frag):Sp:=k9 K NS "parts" 1 Ef
abbrev BM (K:W.Frag):Sp:=c7 K 2 Ch
def GD (K:W.Frag):{ t:TS // SS K t vw }:=⟨_,by delta vw pe;and_intros⟩
abbrev sk (K:W.Frag):Sp:=c7 K 2 jG
def yX (K:W.Frag):{ t:TS // SS K t i4 }:=⟨_,by delta i4;and_intros⟩
abbrev uY (K:W.Frag):Sp:=c7 K 1 uz
def BK (K:W.Frag):{ t:TS // SS K t kn }:=⟨_,by delta kn c9;and_intros⟩
abbrev uG (K:W.Frag):Sp:=c7 K 2 kt
def AF (K:W.Frag):{ t:TS // SS K t kg }:=⟨_,by delta kg;and_intros⟩
abbrev wR (K:W.Frag):Sp:=c7 K 1 qy
def DH (K:W.Frag):{ t:TS // SS K t pI }:=⟨_,by delta pI;and_intros⟩
abbrev l8 (K:W.Frag):Sp:=c7 K 2 iM
def uC (K:W.Frag):{ t:TS // SS K t gO }:=⟨_,by delta gO dD dB;and_intros⟩
abbrev kT (K:W.Frag):Sp:=c7 K 1 gZ
def sI (K:W.Frag):{ t:TS // SS K t gf }:=⟨_,by delta gf;and_intros⟩
abbrev nc (K:W.Frag):Sp:=c7 K 2 jQ
def vG (K:W.Frag):{ t:TS // SS K t iq }:=⟨_,by delta iq bZ cU;and_intros⟩
abbrev oS (K:W.Frag):Sp:=c7 K 2 kH
def xx (K:W.Frag):{ t:TS // SS K t jA }:=⟨_,by delta jA;and_intros⟩
abbrev w9 (K:W.Frag):Sp:=c7 K 1 qu
def C8 (K:W.Frag):{ t:TS // SS K t pE }:=⟨_,by delta pE fD;and_intros⟩
abbrev iK (K:W.Frag):Sp:=c7 K 1 fv
def n5 (K:W.Frag):{ t:TS // SS K t dL }:=⟨_,by delta dL;and_intros⟩
abbrev ln (K:W.Frag):Sp:=c7 K 1 fj
def sv (K:W.Frag):{ t:TS // SS K t gt }:=⟨_,by delta gt eL;and_intros⟩
abbrev kX (K:W.Frag):Sp:=k9 K NS "parts" 4 xJ
abbrev jy (K:W.Frag):Sp:=k9 K NS "parts" 1 pD
abbrev ld (K:W.Frag):Sp:=k9 K NS "parts" 2 u7
abbrev rH (K:W.Frag):Sp:=c7 K 1 si
def zc (K:W.Frag):{ t:TS // SS K t iJ }:=⟨_,by delta iJ eM;and_intros⟩
abbrev kr (K:W.Frag):Sp:=c7 K 3 gE
def qq (K:W.Frag):{ t:TS // SS K t ft }:=⟨_,by delta ft;and_intros⟩
abbrev pA (K:W.Frag):Sp:=c7 K 1 kO
def yu (K:W.Frag):{ t:TS // SS K t jv }:=⟨_,by delta jv bT;and_intros⟩
abbrev AA (K:W.Frag):Sp:=c7 K 3 tM
def Eh (K:W.Frag):{ t:TS // SS K t tz }:=⟨_,by delta tz;and_intros⟩
abbrev nj (K:W.Frag):Sp:=c7 K 1 jJ
def vR (K:W.Frag):{ t:TS // SS K t il }:=⟨_,by delta il bW;and_intros⟩
abbrev wO (K:W.Frag):Sp:=c7 K 2 jV
def DW (K:W.Frag):{ t:TS // SS K t kh }:=⟨_,by delta kh;and_intros⟩
abbrev nD (K:W.Frag):Sp:=c7 K 3 jM
def vC (K:W.Frag):{ t:TS // SS K t ik }:=⟨_,by delta ik;and_intros⟩
abbrev jw (K:W.Frag):Sp:=k9 K NS "parts" 1 kj
abbrev wv (K:W.Frag):Sp:=c7 K 2 qR
def Dw (K:W.Frag):{ t:TS // SS K t pW }:=⟨_,by delta pW;and_intros⟩
abbrev Cl (K:W.Frag):Sp:=c7 K 2 yE
def GF (K:W.Frag):{ t:TS // SS K t xo }:=⟨_,by delta xo;and_intros⟩
abbrev vg (K:W.Frag):Sp:=c7 K 3 nM
def Br (K:W.Frag):{ t:TS // SS K t mL }:=⟨_,by delta mL;and_intros⟩
abbrev l9 (K:W.Frag):Sp:=c7 K 2 jc
def ux (K:W.Frag):{ t:TS // SS K t gP }:=⟨_,by delta gP fe dt;and_intros⟩
abbrev mD (K:W.Frag):Sp:=c7 K 2 jk
def u2 (K:W.Frag):{ t:TS // SS K t gL }:=⟨_,by delta gL fh dE;and_intros⟩
abbrev BV (K:W.Frag):Sp:=c7 K 2 Ct
def GG (K:W.Frag):{ t:TS // SS K t uB }:=⟨_,by delta uB lG;and_intros⟩
abbrev g9 (K:W.Frag):Sp:=c7 K 2 cM
def mU (K:W.Frag):{ t:TS // SS K t bV }:=⟨_,by delta bV;and_intros⟩
abbrev hJ (K:W.Frag):Sp:=c7 K 2 eP
def mV (K:W.Frag):{ t:TS // SS K t dg }:=⟨_,by delta dg;and_intros⟩
abbrev ja (K:W.Frag):Sp:=c7 K 2 fF
def oA (K:W.Frag):{ t:TS // SS K t dN }:=⟨_,by delta dN cK;and_intros⟩
abbrev iR (K:W.Frag):Sp:=c7 K 2 df
def ox (K:W.Frag):{ t:TS // SS K t cz }:=⟨_,by delta cz bB;and_intros⟩
abbrev lc (K:W.Frag):Sp:=c7 K 2 kY
def sG (K:W.Frag):{ t:TS // SS K t eA }:=⟨_,by delta eA cS;and_intros⟩
abbrev lg (K:W.Frag):Sp:=c7 K 2 lp
def sC (K:W.Frag):{ t:TS // SS K t dX }:=⟨_,by delta dX cY;and_intros⟩
abbrev nA (K:W.Frag):Sp:=c7 K 1 m9
def vL (K:W.Frag):{ t:TS // SS K t gm }:=⟨_,by delta gm;and_intros⟩
abbrev pR (K:W.Frag):Sp:=c7 K 3 o3
def yx (K:W.Frag):{ t:TS // SS K t gT }:=⟨_,by delta gT fb;and_intros⟩
abbrev xM (K:W.Frag):Sp:=c7 K 1 FN
def Jm (K:W.Frag):{ t:TS // SS K t zJ }:=⟨_,by delta zJ;and_intros⟩
end P
namespace P
open PySem L2 M Rw
def ua (p:Int × Int):List Int:=[p.1,p.2]
theorem Ai:∀ r:R,keys (r.map prD) = some (r.map ua)
 | []=>rfl
 | p :: r=>by
  rw [List.map_cons,keys,Ai r]
  rfl
theorem Eg:∀ {r:R},r ≠ [] -> bS (r.map prD) = none
 | [],h=>absurd rfl h
 | p :: r,_=>rfl
def Cw:List Int -> Int × Int
 | [a,b]=>(a,b)
 | _=>(0,0)
def ll (ps:R):R:=(ji (ps.map ua)).map Cw
theorem nU (ps:R):(ll ps).map ua = ji (ps.map ua):=by
 unfold ll
 rw [List.map_map]
 have h:∀ k ∈ ji (ps.map ua),(ua ∘ Cw) k = k:=fun k hk=>by
  have:=(iT _).mem_iff.mp hk
  obtain ⟨p,_,rfl⟩:=List.mem_map.mp this
  rfl
 rw [List.map_congr_left h,List.map_id']
theorem gF (ps:R):(ll ps).Perm ps:=by
 have h:=(iT (ps.map ua)).map Cw
 rw [List.map_map] at h
 have e:(Cw ∘ ua) = id:=rfl
 rw [e,List.map_id] at h
 exact h
theorem Fb (ps:R):(ll ps).Pairwise fun p q=>p.1 <= q.1:=by
 have h:=pk (ps.map ua)
 rw [<- nU,List.pairwise_map] at h
 refine h.imp fun {p q} e=>?_
 have e':(if q.1 = p.1 then HT.cG [q.2] [p.2] else decide (q.1 < p.1)) = false:=e
 by_cases hq:q.1 = p.1
 ·lia
 ·rw [if_neg hq] at e'
  have:=of_decide_eq_false e'
  lia
theorem rR (ps:R) (h:ps.length < 30000):ic [Bd ps] = some ((ll ps).map prD):=by
 show (if (ps.map prD).length < 30000 then _ else _) = _
 rw [if_pos (by rw [List.length_map];exact h)]
 by_cases e:ps = []
 ·subst e
  have e0:ll [] = []:=List.length_eq_zero_iff.mp (by rw [(gF []).length_eq];rfl)
  have e1:rG [] = []:=List.length_eq_zero_iff.mp (by rw [(nT []).length_eq];rfl)
  show some ((rG []).map D.int) = _
  rw [e0,e1]
  rfl
 ·rw [Eg e]
  dsimp only
  rw [Ai]
  have:(ll ps).map prD = (ji (ps.map ua)).map vB:=by
   rw [<- nU,List.map_map]
   rfl
  rw [this]
  rfl
def qW (p:Int × Int):Bool:=decide (p.1 <= p.2)
def lP (ps:R):R:=nI (ll (ps.filter qW))
theorem fO (ps:R):Hn ps (lP ps):=by
 refine Fu ?_ (Fb _) fun x=>?_
 ·intro p hp
  have:=(gF _).mem_iff.mp hp
  simpa [qW] using (List.mem_filter.mp this).2
 ·rw [FD (gF _)]
  exact mem_filter ps x
theorem zR (acc:R) (p:Int × Int):(step acc p).length <= acc.length + 1:=by
 rcases List.eq_nil_or_concat acc with rfl | ⟨t,q,rfl⟩
 ·simp [Rw.step]
 ·rw [List.concat_eq_append,iA]
  split <;> simp
theorem qD:∀ (l acc:R),(l.foldl step acc).length <= acc.length + l.length
 | [],acc=>by simp
 | p :: l,acc=>by
  have h1:=qD l (step acc p)
  have h2:=zR acc p
  rw [List.foldl_cons,List.length_cons]
  lia
theorem wT (ps:R):(lP ps).length <= ps.length:=by
 have h1:=qD (ll (ps.filter qW)) []
 have h2:=(gF (ps.filter qW)).length_eq
 have h3:=List.length_filter_le qW ps
 unfold lP nI
 simp only [List.length_nil] at h1
 lia
theorem aW {n:Nat} (h:n <= 100000):n <= LIM:=Nat.le_trans h (by rw [gz];decide)
theorem ie {n:Nat} (h:n <= 100000):n < LIM:=Nat.lt_of_le_of_lt h (by rw [gz];decide)
theorem En (a b:Int):D.tup [.int a,.int b] = prD (a,b):=rfl
theorem v9:∀ ps:R,ps.filterMap (fun p=>if p.1 <= p.2 then some (prD p) else none) = (ps.filter qW).map prD
 | []=>rfl
 | p :: t=>by
  rw [List.filterMap_cons,List.filter_cons,v9 t]
  by_cases h:p.1 <= p.2
  ·simp [qW,h]
  ·simp [qW,h]
theorem CQ (ps:R):b7 (bn (ar (ai 0) (ar (ai 1) bg))) (xB (xOp dLe (ah 0) (ah 1))) (a9 (af (aq 0) (af (aq 1) ap))) [.un,.un] (ps.map prD) = some ((ps.filter qW).map prD):=by
 rw [jm prD (fun p=>if p.1 <= p.2 then some (prD p) else none) ps,v9]
 intro p _
 by_cases h:p.1 <= p.2 <;> simp [fP,h]
theorem Bx (pre:R) (p:Int × Int):nI (pre ++ [p]) = step (nI pre) p:=by
 unfold nI
 rw [List.foldl_append]
 rfl
theorem Fw (pre:R):(nI pre).length <= pre.length:=by
 have:=qD pre []
 unfold nI
 simpa using this
theorem iz {α:Type} {l:List α} {i:Nat} {x:α} (h:l[i]? = some x):l.drop i = x :: l.drop (i + 1):=by
 obtain ⟨h1,rfl⟩:=List.getElem?_eq_some_iff.mp h
 exact List.drop_eq_getElem_cons h1
theorem Hj {r:R} {i:Nat} {p:Int × Int} (h:r[i]? = some p):atI (r.map prD) (i:Int) = some (prD p):=kE (by rw [List.getElem?_map,h];rfl)
theorem DQ (p q:Int × Int) (s t:R):ez (p :: s) (q :: t) = (if max p.1 q.1 <= min p.2 q.2 then [(max p.1 q.1,min p.2 q.2)] else []) ++ (if p.2 < q.2 then ez s (q :: t) else ez (p :: s) t):=by rw [ez]
theorem mx (a b:Int):(if b > a then b else a) = max a b:=by split <;> lia
theorem mn (a b:Int):(if b < a then b else a) = min a b:=by split <;> lia
theorem rn {r t:R} (cr:bw r) (ct:bw t):IT r t (ez r t):=⟨A1 _ r t rfl cr ct,fun x=>Ed _ r t rfl cr ct x⟩
theorem CG {α β:Type} (f:α -> β) (xs:List α) (lo hi:Option Int):jO (xs.map f) lo hi = (jO xs lo hi).map f:=by
 unfold jO
 rw [List.length_map,<- List.map_drop,<- List.map_take]
theorem bf {m n:XS} {ρ ρ':M.Env} (h:m ρ = some (.nx ρ')):aS m n ρ = n ρ':=by unfold aS;rw [h]
theorem pQ {n:Nat} {x:XS} {ds:List D} {d:D} (h:x (ds.map .sh ++ List.replicate (n - ds.length) .un) = some (.rt d)):(fnO n x ds).map O.d = some d:=by unfold fnO;rw [h];simp
theorem Cm {n d:Nat} {v:Int} (h:0 <= v):HT.sIx n d (some v) = min v.toNat n:=by
 show (if v < 0 then _ else _) = _
 rw [if_neg (by lia)]
theorem yY (s0:Sl) (acc:R) (a b:Int) (h:acc.length <= 30000):fD [s0,owl (acc.map prD),.sh (.int a),.sh (.int b)] = some (.nx [s0,owl ((step acc (a,b)).map prD),.sh (.int a),.sh (.int b)]):=by
 rcases List.eq_nil_or_concat acc with rfl | ⟨t,q,rfl⟩
 ·simp [fD,Rw.step,prD]
 ·rw [List.concat_eq_append] at *
  rw [iA]
  have hl:t.length + 1 <= 30000:=by simpa using h
  have hlim:t.length + 1 < LIM:=ie (by lia)
  have at1:atI (t.map prD ++ [prD q]) (-1) = some (prD q):=gR _ _
  by_cases hc:a <= q.2 + 1
  ·simp [fD,at1,hc,mw,En]
  ·simp [fD,at1,hc,hlim,En]
theorem rT (ps:R) (h:ps.length < 30000):mE [Bd ps] = some (dr (lP ps)):=by
 have hf:=List.length_filter_le qW ps
 have hs:=(gF (ps.filter qW)).length_eq
 have key:∃ ρ',hV (bn (ar (ai 2) (ar (ai 3) bg))) fD ((ll (ps.filter qW)).map prD) [.sh (Bd ps),.ow (.lst []),.un,.un] = some (.nx ρ') /\ ∃ va vb,ρ' = [.sh (Bd ps),owl ((lP ps).map prD),va,vb]:=by
  refine ci prD (fun pre ρ=>∃ va vb,ρ = [.sh (Bd ps),owl ((nI pre).map prD),va,vb]) _ _ ⟨_,_,rfl⟩ ?_
  rintro pre p post _ e ⟨va,vb,rfl⟩
  have hp:pre.length <= 30000:=by
   have:=congrArg List.length e
   rw [List.length_append] at this
   lia
  refine ⟨_,_,rfl,.inl (yY _ (nI pre) p.1 p.2 (by have:=Fw pre;lia)),.sh (.int p.1),.sh (.int p.2),by rw [Bx]⟩
 obtain ⟨ρ',k1,va,vb,rfl⟩:=key
 have hc:=CQ ps
 have hb:=rR (ps.filter qW) (by lia)
 have hl:ps.length <= LIM:=aW (by lia)
 simp [mE,qu,fnO,pE,hl,hc,hb,k1]
abbrev Tri:=Int × Int × Int
abbrev c8 (t:Tri):D:=.tup [.int t.1,.int t.2.1,.int t.2.2]
abbrev Pic:=List (Int × R)
abbrev pyD (q:Int × R):D:=.tup [.int q.1,dr q.2]
abbrev av (p:Pic):D:=.tup (p.map pyD)
def jp (ts:List Tri) (x y:Int):Prop:=∃ t ∈ ts,t.1 = y /\ t.2.1 <= x /\ x <= t.2.2
def aP (p:Pic) (x y:Int):Prop:=∃ q ∈ p,q.1 = y /\ Mem q.2 x
def aA (p:Pic):Prop:=(∀ q ∈ p,bw q.2 /\ q.2 ≠ []) /\ p.Pairwise fun a b=>a.1 < b.1
theorem cP (x y:Int):¬ aP [] x y:=by rintro ⟨_,h,_⟩;cases h
theorem bx (q:Int × R) (p:Pic) (x y:Int):aP (q :: p) x y ↔ (q.1 = y /\ Mem q.2 x) \/ aP p x y:=by
 constructor
 ·rintro ⟨s,h,e⟩
  rcases List.mem_cons.mp h with rfl | h
  ·exact .inl e
  ·exact .inr ⟨s,h,e⟩
 ·rintro (e | ⟨s,h,e⟩)
  ·exact ⟨q,List.mem_cons_self,e⟩
  ·exact ⟨s,List.mem_cons_of_mem _ h,e⟩
theorem fH (p q:Pic) (x y:Int):aP (p ++ q) x y ↔ aP p x y \/ aP q x y:=by
 constructor
 ·rintro ⟨s,h,e⟩
  rcases List.mem_append.mp h with h | h
  ·exact .inl ⟨s,h,e⟩
  ·exact .inr ⟨s,h,e⟩
 ·rintro (⟨s,h,e⟩ | ⟨s,h,e⟩)
  ·exact ⟨s,List.mem_append_left _ h,e⟩
  ·exact ⟨s,List.mem_append_right _ h,e⟩
theorem qA (t:Tri) (ts:List Tri) (x y:Int):jp (t :: ts) x y ↔ (t.1 = y /\ t.2.1 <= x /\ x <= t.2.2) \/ jp ts x y:=by
 constructor
 ·rintro ⟨s,h,e⟩
  rcases List.mem_cons.mp h with rfl | h
  ·exact .inl e
  ·exact .inr ⟨s,h,e⟩
 ·rintro (e | ⟨s,h,e⟩)
  ·exact ⟨t,List.mem_cons_self,e⟩
  ·exact ⟨s,List.mem_cons_of_mem _ h,e⟩
theorem fJ (a b:List Tri) (x y:Int):jp (a ++ b) x y ↔ jp a x y \/ jp b x y:=by
 constructor
 ·rintro ⟨s,h,e⟩
  rcases List.mem_append.mp h with h | h
  ·exact .inl ⟨s,h,e⟩
  ·exact .inr ⟨s,h,e⟩
 ·rintro (⟨s,h,e⟩ | ⟨s,h,e⟩)
  ·exact ⟨s,List.mem_append_left _ h,e⟩
  ·exact ⟨s,List.mem_append_right _ h,e⟩
theorem Dt {a b:List Tri} (h:a.Perm b) (x y:Int):jp a x y ↔ jp b x y:=
 ⟨fun ⟨q,m,e⟩=>⟨q,h.mem_iff.mp m,e⟩,fun ⟨q,m,e⟩=>⟨q,h.mem_iff.mpr m,e⟩⟩
theorem kv:aA []:=⟨fun _ h=>(by cases h),.nil⟩
theorem pcanon_cons {q:Int × R} {p:Pic}:aA (q :: p) ↔ (bw q.2 /\ q.2 ≠ []) /\ (∀ s ∈ p,q.1 < s.1) /\ aA p:=by
 constructor
 ·rintro ⟨h1,h2⟩
  have h3:=List.pairwise_cons.mp h2
  exact ⟨h1 q List.mem_cons_self,h3.1,fun s hs=>h1 s (List.mem_cons_of_mem _ hs),h3.2⟩
 ·rintro ⟨h1,h2,h3,h4⟩
  refine ⟨fun s hs=>?_,List.pairwise_cons.mpr ⟨h2,h4⟩⟩
  rcases List.mem_cons.mp hs with rfl | hs
  ·exact h1
  ·exact h3 s hs
theorem ju {r:R} (c:bw r) (h:r ≠ []):∃ x,Mem r x:=by
 cases r with
 | nil=>exact absurd rfl h
 | cons p r=>exact ⟨p.1,(mem_cons ..).mpr (.inl ⟨Int.le_refl _,(canon_cons.mp c).1⟩)⟩
theorem jC:∀ {p q:Pic},aA p -> aA q -> (∀ x y,aP p x y ↔ aP q x y) -> p = q
 | [],[],_,_,_=>rfl
 | [],b :: q,_,cq,h=>by
  obtain ⟨⟨c1,c2⟩,_⟩:=pcanon_cons.mp cq
  obtain ⟨x,hx⟩:=ju c1 c2
  exact (cP _ _ ((h x b.1).mpr ((bx ..).mpr (.inl ⟨rfl,hx⟩)))).elim
 | a :: p,[],cp,_,h=>by
  obtain ⟨⟨c1,c2⟩,_⟩:=pcanon_cons.mp cp
  obtain ⟨x,hx⟩:=ju c1 c2
  exact (cP _ _ ((h x a.1).mp ((bx ..).mpr (.inl ⟨rfl,hx⟩)))).elim
 | a :: p,b :: q,cp,cq,h=>by
  obtain ⟨⟨ca,na⟩,la,cp'⟩:=pcanon_cons.mp cp
  obtain ⟨⟨cb,nb⟩,lb,cq'⟩:=pcanon_cons.mp cq
  obtain ⟨xa,ha⟩:=ju ca na
  obtain ⟨xb,hb⟩:=ju cb nb
  have ey:a.1 = b.1:=by
   have h1:b.1 <= a.1:=by
    rcases (bx ..).mp ((h xa a.1).mp ((bx ..).mpr (.inl ⟨rfl,ha⟩))) with ⟨e,_⟩ | ⟨s,hs,e,_⟩
    ·lia
    ·have:=lb s hs;lia
   have h2:a.1 <= b.1:=by
    rcases (bx ..).mp ((h xb b.1).mpr ((bx ..).mpr (.inl ⟨rfl,hb⟩))) with ⟨e,_⟩ | ⟨s,hs,e,_⟩
    ·lia
    ·have:=la s hs;lia
   lia
  have er:a.2 = b.2:=F8 ca cb fun x=>by
   have hx:=h x a.1
   rw [bx,bx] at hx
   have n1:¬ aP p x a.1:=by rintro ⟨s,hs,e,_⟩;have:=la s hs;lia
   have n2:¬ aP q x a.1:=by rintro ⟨s,hs,e,_⟩;have:=lb s hs;lia
   constructor
   ·intro hm
    rcases hx.mp (.inl ⟨rfl,hm⟩) with z | z
    ·exact z.2
    ·exact absurd z n2
   ·intro hm
    rcases hx.mpr (.inl ⟨ey.symm,hm⟩) with z | z
    ·exact z.2
    ·exact absurd z n1
  have eab:a = b:=by
   obtain ⟨a1,a2⟩:=a
   obtain ⟨b1,b2⟩:=b
   simp only at ey er
   rw [ey,er]
  subst eab
  have ih:p = q:=jC cp' cq' fun x y=>by
   have hx:=h x y
   rw [bx,bx] at hx
   constructor
   ·intro hm
    rcases hx.mp (.inr hm) with z | z
    ·obtain ⟨s,hs,e,_⟩:=hm;have:=la s hs;lia
    ·exact z
   ·intro hm
    rcases hx.mpr (.inr hm) with z | z
    ·obtain ⟨s,hs,e,_⟩:=hm;have:=lb s hs;lia
    ·exact z
  rw [ih]
def vz (t:Tri):List Int:=[t.1,t.2.1,t.2.2]
def yz:List Int -> Tri
 | [a,b,c]=>(a,b,c)
 | _=>(0,0,0)
theorem vY:∀ r:List Tri,keys (r.map c8) = some (r.map vz)
 | []=>rfl
 | p :: r=>by rw [List.map_cons,keys,vY r];rfl
theorem C6:∀ {r:List Tri},r ≠ [] -> bS (r.map c8) = none
 | [],h=>absurd rfl h
 | _ :: _,_=>rfl
def cT (ts:List Tri):List Tri:=(ji (ts.map vz)).map yz
theorem uQ (ts:List Tri):(cT ts).map vz = ji (ts.map vz):=by
 unfold cT
 rw [List.map_map]
 have h:∀ k ∈ ji (ts.map vz),(vz ∘ yz) k = k:=fun k hk=>by
  have:=(iT _).mem_iff.mp hk
  obtain ⟨p,_,rfl⟩:=List.mem_map.mp this
  rfl
 rw [List.map_congr_left h,List.map_id']
theorem eg (ts:List Tri):(cT ts).Perm ts:=by
 have h:=(iT (ts.map vz)).map yz
 rw [List.map_map] at h
 have e:(yz ∘ vz) = id:=rfl
 rw [e,List.map_id] at h
 exact h
theorem yO (ts:List Tri):(cT ts).Pairwise fun p q=>p.1 <= q.1:=by
 have h:=pk (ts.map vz)
 rw [<- uQ,List.pairwise_map] at h
 refine h.imp fun {p q} e=>?_
 have e':(if q.1 = p.1 then HT.cG [q.2.1,q.2.2] [p.2.1,p.2.2] else decide (q.1 < p.1)) = false:=e
 by_cases hq:q.1 = p.1
 ·lia
 ·rw [if_neg hq] at e'
  have:=of_decide_eq_false e'
  lia
theorem pM (ts:List Tri) (h:ts.length < 30000):ic [.lst (ts.map c8)] = some ((cT ts).map c8):=by
 show (if (ts.map c8).length < 30000 then _ else _) = _
 rw [if_pos (by rw [List.length_map];exact h)]
 by_cases e:ts = []
 ·subst e
  have e0:cT [] = []:=List.length_eq_zero_iff.mp (by rw [(eg []).length_eq];rfl)
  have e1:rG [] = []:=List.length_eq_zero_iff.mp (by rw [(nT []).length_eq];rfl)
  show some ((rG []).map D.int) = _
  rw [e0,e1]
  rfl
 ·rw [C6 e]
  dsimp only
  rw [vY]
  have:(cT ts).map c8 = (ji (ts.map vz)).map vB:=by
   rw [<- uQ,List.map_map]
   rfl
  rw [this]
  rfl
def bI (t:Tri):Bool:=decide (t.2.1 <= t.2.2)
theorem zZ (ts:List Tri) (x y:Int):jp (ts.filter bI) x y ↔ jp ts x y:=by
 constructor
 ·rintro ⟨q,m,e⟩
  exact ⟨q,(List.mem_filter.mp m).1,e⟩
 ·rintro ⟨q,m,e⟩
  exact ⟨q,List.mem_filter.mpr ⟨m,by simp [bI];lia⟩,e⟩
theorem tP:∀ ps:List Tri,ps.filterMap (fun p=>if p.2.1 <= p.2.2 then some (c8 p) else none) = (ps.filter bI).map c8
 | []=>rfl
 | p :: t=>by
  rw [List.filterMap_cons,List.filter_cons,tP t]
  by_cases h:p.2.1 <= p.2.2
  ·simp [bI,h]
  ·simp [bI,h]
theorem A2 (ps:List Tri):b7 (bn (ar (ai 0) (ar (ai 1) (ar (ai 2) bg)))) (xB (xOp dLe (ah 1) (ah 2))) (a9 (af (aq 0) (af (aq 1) (af (aq 2) ap)))) [.un,.un,.un] (ps.map c8) = some ((ps.filter bI).map c8):=by
 rw [jm c8 (fun p=>if p.2.1 <= p.2.2 then some (c8 p) else none) ps,tP]
 intro p _
 by_cases h:p.2.1 <= p.2.2 <;> simp [fP,h]
def lh (gs:Pic) (t:Tri):Pic:=match gs.getLast? with
 | none=>[(t.1,[t.2])]
 | some g=>if g.1 = t.1 then gs.dropLast ++ [(g.1,g.2 ++ [t.2])] else gs ++ [(t.1,[t.2])]
theorem Ds (t:Tri):lh [] t = [(t.1,[t.2])]:=rfl
theorem oq (gs:Pic) (g:Int × R) (t:Tri):lh (gs ++ [g]) t = if g.1 = t.1 then gs ++ [(g.1,g.2 ++ [t.2])] else gs ++ [g] ++ [(t.1,[t.2])]:=by
 unfold lh
 simp
def e9 (ts:List Tri):Pic:=ts.foldl lh []
theorem vh (pre:List Tri) (t:Tri):e9 (pre ++ [t]) = lh (e9 pre) t:=by
 unfold e9
 rw [List.foldl_append]
 rfl
structure GOk (gs:Pic) (ts:List Tri):Prop where
 ne:∀ g ∈ gs,g.2 ≠ [] /\ Ok g.2
 up:gs.Pairwise fun a b=>a.1 < b.1
 mem:∀ x y,aP gs x y ↔ jp ts x y
 le:∀ g ∈ gs,∃ t ∈ ts,g.1 = t.1
 len:(gs.map fun g=>g.2.length).sum = ts.length
theorem EH {gs:Pic} {ts:List Tri} {t:Tri} (o:GOk gs ts) (ht:t.2.1 <= t.2.2) (hb:∀ s ∈ ts,s.1 <= t.1):GOk (lh gs t) (ts ++ [t]):=by
 have tm:∀ x y,jp (ts ++ [t]) x y ↔ jp ts x y \/ (t.1 = y /\ t.2.1 <= x /\ x <= t.2.2):=fun x y=>by
  rw [fJ,qA]
  constructor
  ·rintro (h | h | ⟨_,h,_⟩)
   ·exact .inl h
   ·exact .inr h
   ·cases h
  ·rintro (h | h)
   ·exact .inl h
   ·exact .inr (.inl h)
 have okt:Ok [t.2]:=fun p hp=>by rw [List.mem_singleton.mp hp];exact ht
 rcases List.eq_nil_or_concat gs with rfl | ⟨gs0,g,rfl⟩
 ·rw [Ds]
  have e0:ts = []:=List.length_eq_zero_iff.mp (by have:=o.len;simpa using this.symm)
  subst e0
  refine ⟨fun g hg=>?_,List.pairwise_singleton _ _,fun x y=>?_,fun g hg=>⟨t,by simp,by rw [List.mem_singleton.mp hg]⟩,by simp⟩
  ·rw [List.mem_singleton.mp hg];exact ⟨by simp,okt⟩
  ·rw [tm,bx,mem_cons]
   constructor
   ·rintro (⟨h1,h2 | h2⟩ | h)
    ·exact .inr ⟨h1,h2⟩
    ·exact (br _ h2).elim
    ·exact (cP _ _ h).elim
   ·rintro (⟨_,h,_⟩ | h)
    ·cases h
    ·exact .inl ⟨h.1,.inl h.2⟩
 ·rw [List.concat_eq_append] at *
  have up:=List.pairwise_append.mp o.up
  rw [oq]
  have glast:g.1 <= t.1:=by
   obtain ⟨s,hs,e⟩:=o.le g (by simp)
   have:=hb s hs
   lia
  by_cases h:g.1 = t.1
  ·rw [if_pos h]
   refine ⟨fun q hq=>?_,?_,fun x y=>?_,fun q hq=>?_,?_⟩
   ·rcases List.mem_append.mp hq with hq | hq
    ·exact o.ne q (List.mem_append_left _ hq)
    ·rw [List.mem_singleton.mp hq]
     refine ⟨by simp,fun p hp=>?_⟩
     rcases List.mem_append.mp hp with hp | hp
     ·exact (o.ne g (by simp)).2 p hp
     ·exact okt p hp
   ·refine List.pairwise_append.mpr ⟨up.1,List.pairwise_singleton _ _,fun a ha b hb=>?_⟩
    rw [List.mem_singleton.mp hb]
    exact up.2.2 a ha g (by simp)
   ·rw [tm,<- o.mem,fH,fH,bx,bx]
    dsimp only
    rw [mem_append,mem_cons]
    have n0:=cP x y
    have n1:=br x
    constructor
    ·rintro (k | ⟨k1,k2 | k2 | k2⟩ | k)
     ·exact .inl (.inl k)
     ·exact .inl (.inr (.inl ⟨k1,k2⟩))
     ·exact .inr ⟨by lia,k2⟩
     ·exact absurd k2 n1
     ·exact absurd k n0
    ·rintro ((k | ⟨k1,k2⟩ | k) | ⟨k1,k2⟩)
     ·exact .inl k
     ·exact .inr (.inl ⟨k1,.inl k2⟩)
     ·exact absurd k n0
     ·exact .inr (.inl ⟨by lia,.inr (.inl k2)⟩)
   ·rcases List.mem_append.mp hq with hq | hq
    ·obtain ⟨s,hs,e⟩:=o.le q (List.mem_append_left _ hq)
     exact ⟨s,List.mem_append_left _ hs,e⟩
    ·rw [List.mem_singleton.mp hq]
     exact ⟨t,by simp,h⟩
   ·have:=o.len
    simp only [List.map_append,List.sum_append,List.map_cons,List.map_nil,List.sum_cons,List.sum_nil,List.length_append,List.length_cons,List.length_nil] at this ⊢
    lia
  ·rw [if_neg h]
   refine ⟨fun q hq=>?_,?_,fun x y=>?_,fun q hq=>?_,?_⟩
   ·rcases List.mem_append.mp hq with hq | hq
    ·exact o.ne q hq
    ·rw [List.mem_singleton.mp hq];exact ⟨by simp,okt⟩
   ·refine List.pairwise_append.mpr ⟨o.up,List.pairwise_singleton _ _,fun a ha b hb'=>?_⟩
    rw [List.mem_singleton.mp hb']
    rcases List.mem_append.mp ha with ha | ha
    ·have:=up.2.2 a ha g (by simp)
     dsimp only
     lia
    ·rw [List.mem_singleton.mp ha];dsimp only;lia
   ·rw [tm,<- o.mem,fH,bx]
    dsimp only
    rw [mem_cons]
    have n0:=cP x y
    have n1:=br x
    constructor
    ·rintro (k | ⟨k1,k2 | k2⟩ | k)
     ·exact .inl k
     ·exact .inr ⟨k1,k2⟩
     ·exact absurd k2 n1
     ·exact absurd k n0
    ·rintro (k | ⟨k1,k2⟩)
     ·exact .inl k
     ·exact .inr (.inl ⟨k1,.inl k2⟩)
   ·rcases List.mem_append.mp hq with hq | hq
    ·obtain ⟨s,hs,e⟩:=o.le q hq
     exact ⟨s,List.mem_append_left _ hs,e⟩
    ·rw [List.mem_singleton.mp hq]
     exact ⟨t,by simp,rfl⟩
   ·have:=o.len
    simp only [List.map_append,List.sum_append,List.map_cons,List.map_nil,List.sum_cons,List.sum_nil,List.length_append,List.length_cons,List.length_nil] at this ⊢
    lia
theorem zD:∀ (post pre:List Tri),(∀ t ∈ pre ++ post,t.2.1 <= t.2.2) -> (pre ++ post).Pairwise (fun p q=>p.1 <= q.1) -> GOk (e9 pre) pre -> GOk (e9 (pre ++ post)) (pre ++ post)
 | [],pre,_,_,o=>by rw [List.append_nil];exact o
 | t :: post,pre,h1,h2,o=>by
  have e:pre ++ t :: post = (pre ++ [t]) ++ post:=by simp
  rw [e] at h1 h2 ⊢
  refine zD post (pre ++ [t]) h1 h2 ?_
  rw [vh]
  have h3:=List.pairwise_append.mp h2
  have h4:=List.pairwise_append.mp h3.1
  exact EH o (h1 t (by simp)) fun s hs=>h4.2.2 s hs t (by simp)
theorem we {ts:List Tri} (h1:∀ t ∈ ts,t.2.1 <= t.2.2) (h2:ts.Pairwise fun p q=>p.1 <= q.1):GOk (e9 ts) ts:=
 zD ts [] h1 h2 ⟨fun _ h=>(by cases h),.nil,fun x y=>⟨fun h=>(cP _ _ h).elim,fun ⟨_,h,_⟩=>by cases h⟩,fun _ h=>(by cases h),rfl⟩
def gv (ts:List Tri):Pic:=(e9 (cT (ts.filter bI))).map fun g=>(g.1,lP g.2)
theorem mm (ts:List Tri):GOk (e9 (cT (ts.filter bI))) (cT (ts.filter bI)):=we (fun t ht=>by
 have:=(eg _).mem_iff.mp ht
 simpa [bI] using (List.mem_filter.mp this).2) (yO _)
theorem EV {ps:R} (h:ps ≠ []) (o:Ok ps):lP ps ≠ []:=fun e=>by
 cases ps with
 | nil=>exact h rfl
 | cons p ps=>
  have:=((fO (p :: ps)).2 p.1).mpr ((mem_cons ..).mpr (.inl ⟨Int.le_refl _,o p List.mem_cons_self⟩))
  rw [e] at this
  exact br _ this
theorem f9 (ts:List Tri):aA (gv ts) /\ ∀ x y,aP (gv ts) x y ↔ jp ts x y:=by
 have o:=mm ts
 refine ⟨⟨fun q hq=>?_,?_⟩,fun x y=>?_⟩
 ·obtain ⟨g,hg,rfl⟩:=List.mem_map.mp hq
  obtain ⟨h1,h2⟩:=o.ne g hg
  exact ⟨(fO g.2).1,EV h1 h2⟩
 ·unfold gv
  rw [List.pairwise_map]
  exact o.up
 ·rw [<- zZ ts,<- Dt (eg _),<- o.mem]
  constructor
  ·rintro ⟨q,hq,e,hm⟩
   obtain ⟨g,hg,rfl⟩:=List.mem_map.mp hq
   exact ⟨g,hg,e,((fO g.2).2 x).mp hm⟩
  ·rintro ⟨g,hg,e,hm⟩
   exact ⟨_,List.mem_map.mpr ⟨g,hg,rfl⟩,e,((fO g.2).2 x).mpr hm⟩
def ak (p:Pic):List Tri:=p.flatMap fun q=>q.2.map fun s=>(q.1,s)
theorem bu (q:Int × R) (p:Pic):ak (q :: p) = (q.2.map fun s=>(q.1,s)) ++ ak p:=rfl
theorem i8 (p:Pic) (x y:Int):jp (ak p) x y ↔ aP p x y:=by
 constructor
 ·rintro ⟨t,ht,e,h⟩
  obtain ⟨q,hq,hs⟩:=List.mem_flatMap.mp ht
  obtain ⟨s,hs2,rfl⟩:=List.mem_map.mp hs
  exact ⟨q,hq,e,s,hs2,h⟩
 ·rintro ⟨q,hq,e,s,hs,h⟩
  exact ⟨(q.1,s),List.mem_flatMap.mpr ⟨q,hq,List.mem_map.mpr ⟨s,hs,rfl⟩⟩,e,h⟩
theorem t6 {ts:List Tri} {p:Pic} (c:aA p) (h:∀ x y,jp ts x y ↔ aP p x y):gv ts = p:=
 jC (f9 ts).1 c fun x y=>((f9 ts).2 x y).trans (h x y)
mutual
theorem zh:∀ (n:Nat) (d:D),okD n d = true -> eqD d d = true
 | _,.non,_=>by simp [eqD]
 | _,.bl _,_=>by simp [eqD]
 | _,.int _,_=>by simp [eqD]
 | _,.str _,_=>by simp [eqD]
 | 0,.lst _,h=>by simp [okD] at h
 | n + 1,.lst l,h=>by rw [eqD];exact eqDs_refl n l (by simpa [okD] using h)
 | 0,.tup _,h=>by simp [okD] at h
 | n + 1,.tup l,h=>by rw [eqD];exact eqDs_refl n l (by simpa [okD] using h)
 | n,.ty _,h=>by cases n <;> simp [okD] at h
 | n,.scr _,h=>by cases n <;> simp [okD] at h
 | n,.ins _ _ _,h=>by cases n <;> simp [okD] at h
 | n,.dic _,h=>by cases n <;> simp [okD] at h
theorem eqDs_refl:∀ (n:Nat) (l:List D),okDs n l = true -> eqDs l l = true
 | _,[],_=>by simp [eqDs]
 | n,d :: l,h=>by
  rw [okDs,Bool.and_eq_true] at h
  rw [eqDs,zh n d h.1,eqDs_refl n l h.2]
  rfl
end
theorem y9 {α:Type} {n:Nat} {f:α -> D}:∀ (l:List α),(∀ a ∈ l,okD n (f a) = true) -> okDs n (l.map f) = true
 | [],_=>by simp [okDs]
 | a :: l,h=>by rw [List.map_cons,okDs,h a List.mem_cons_self,y9 l fun b hb=>h b (List.mem_cons_of_mem _ hb)];rfl
theorem zU {d:D} (neg:Bool) (h:okD 50 d = true):dEq neg d d = some (.bl (!neg)):=by
 unfold dEq
 rw [if_pos ⟨h,h⟩,zh 50 d h]
 cases neg <;> rfl
theorem tq (p:Pic):okD 50 (av p) = true:=by
 rw [okD]
 refine y9 p fun q _=>?_
 simp only [okD,okDs]
 rw [uJ 46 q.2]
 rfl
def grO (g:Int × R):O:=.tup [.sh (.int g.1),.lst (g.2.map (O.sh ∘ prD))]
def grD (g:Int × R):D:=.tup [.int g.1,Bd g.2]
theorem J2 (g:Int × R):(grO g).d = grD g:=by simp [grO,grD]
theorem HA:∀ gs:Pic,O.ds (gs.map grO) = gs.map grD
 | []=>by simp
 | g :: gs=>by rw [List.map_cons,C1,J2,HA gs];rfl
theorem Dc (gs:Pic) (t:Tri):(lh gs t).length <= gs.length + 1:=by
 rcases List.eq_nil_or_concat gs with rfl | ⟨gs0,g,rfl⟩
 ·simp [lh]
 ·rw [List.concat_eq_append,oq]
  split <;> simp
theorem wj:∀ ts:List Tri,(e9 ts).length <= ts.length:=by
 intro ts
 have key:∀ (l:List Tri) (gs:Pic),(l.foldl lh gs).length <= gs.length + l.length:=by
  intro l
  induction l with
  | nil=>intro gs;simp
  | cons t l ih=>
   intro gs
   have h1:=ih (lh gs t)
   have h2:=Dc gs t
   rw [List.foldl_cons,List.length_cons]
   lia
 have:=key ts []
 unfold e9
 simpa using this
theorem yI (s0:Sl) (gs:Pic) (t:Tri) (h:gs.length <= 30000) (hg:∀ g ∈ gs,g.2.length <= 30000):bW [s0,.ow (.lst (gs.map grO)),.sh (.int t.1),.sh (.int t.2.1),.sh (.int t.2.2)] = some (.nx [s0,.ow (.lst ((lh gs t).map grO)),.sh (.int t.1),.sh (.int t.2.1),.sh (.int t.2.2)]):=by
 rcases List.eq_nil_or_concat gs with rfl | ⟨gs0,g,rfl⟩
 ·simp [bW,lh,grO]
 ·rw [List.concat_eq_append] at *
  rw [oq]
  have hl:gs0.length + 1 <= 30000:=by simpa using h
  have hlim:gs0.length + 1 < LIM:=ie (by lia)
  have hg2:g.2.length < LIM:=ie (by have:=hg g (by simp);lia)
  by_cases hc:g.1 = t.1
  ·simp [bW,hc,hg2,grO]
  ·simp [bW,hc,hlim,grO]
theorem n4:∀ {l:List Nat} {n:Nat},n ∈ l -> n <= l.sum
 | [],_,h=>by cases h
 | m :: l,n,h=>by
  rw [List.sum_cons]
  rcases List.mem_cons.mp h with rfl | h
  ·lia
  ·have:=n4 h;lia
theorem g7 (ts:List Tri) (h:ts.length < 30000):fZ [.lst (ts.map c8)] = some (av (gv ts)):=by
 have hf:=List.length_filter_le bI ts
 have hs:=(eg (ts.filter bI)).length_eq
 have og:=mm ts
 have key:∃ ρ',hV (bn (ar (ai 2) (ar (ai 3) (ar (ai 4) bg)))) bW ((cT (ts.filter bI)).map c8) [.sh (.lst (ts.map c8)),.ow (.lst []),.un,.un,.un] = some (.nx ρ') /\ ∃ va vb vc,ρ' = [.sh (.lst (ts.map c8)),.ow (.lst ((e9 (cT (ts.filter bI))).map grO)),va,vb,vc]:=by
  refine ci c8 (fun pre ρ=>∃ va vb vc,ρ = [.sh (.lst (ts.map c8)),.ow (.lst ((e9 pre).map grO)),va,vb,vc]) _ _ ⟨_,_,_,rfl⟩ ?_
  rintro pre t post _ e ⟨va,vb,vc,rfl⟩
  have hp:pre.length <= 30000:=by
   have:=congrArg List.length e
   rw [List.length_append] at this
   lia
  have gl:=wj pre
  have gp:GOk (e9 pre) pre:=by
   refine we (fun s hs=>?_) ?_
   ·have:=(eg _).mem_iff.mp (show s ∈ cT (ts.filter bI) by rw [e];simp [hs])
    simpa [bI] using (List.mem_filter.mp this).2
   ·have:=yO (ts.filter bI)
    rw [e] at this
    exact (List.pairwise_append.mp this).1
  have gg:∀ g ∈ e9 pre,g.2.length <= 30000:=fun g hg=>by
   have h1:=gp.len
   have h2:g.2.length <= ((e9 pre).map fun g=>g.2.length).sum:=n4 (List.mem_map.mpr ⟨g,hg,rfl⟩)
   lia
  refine ⟨_,_,rfl,.inl (yI _ (e9 pre) t (by lia) gg),.sh (.int t.1),.sh (.int t.2.1),.sh (.int t.2.2),by rw [vh]⟩
 obtain ⟨ρ',k1,va,vb,vc,rfl⟩:=key
 have hc:=A2 ts
 have hb:=pM (ts.filter bI) (by lia)
 have hl:ts.length <= LIM:=aW (by lia)
 have gl:=wj (cT (ts.filter bI))
 have hl2:(e9 (cT (ts.filter bI))).length <= LIM:=aW (by lia)
 have c2:b7 (bn (ar (ai 0) (ar (ai 1) bg))) dW (a9 (af (aq 0) (af (aG mE (af (aq 1) ap)) ap))) [.un,.un] ((e9 (cT (ts.filter bI))).map grD) = some ((gv ts).map pyD):=by
  rw [bA grD (fun g=>pyD (g.1,lP g.2))]
  ·unfold gv
   rw [List.map_map]
   rfl
  ·intro g hg
   have h1:g.2.length < 30000:=by
    have h2:g.2.length <= ((e9 (cT (ts.filter bI))).map fun g=>g.2.length).sum:=n4 (List.mem_map.mpr ⟨g,hg,rfl⟩)
    have:=og.len
    lia
   have h3:=rT g.2 h1
   simp [fP,grD,h3]
 simp [fZ,jJ,fnO,il,hl,hc,hb,k1,frz,HA,hl2,c2]
theorem pf (p q:Pic):ak (p ++ q) = ak p ++ ak q:=by unfold ak;rw [List.flatMap_append]
theorem e8 {p:Pic} {q:Int × R} (h:q ∈ p):q.2.length <= (ak p).length:=by
 induction p with
 | nil=>cases h
 | cons s p ih=>
  rw [bu,List.length_append,List.length_map]
  rcases List.mem_cons.mp h with rfl | h
  ·lia
  ·have:=ih h;lia
theorem n9 (p:Pic) (h:(ak p).length <= 100000):fj [av p] = some (.lst ((ak p).map (O.sh ∘ c8))):=by
 obtain ⟨ρ',k1,v2,v3,rfl⟩:=ci (g:=bn (ar (ai 2) (ar (ai 3) bg))) (m:=eL) pyD (fun pre ρ=>∃ v2 v3,ρ = [.sh (av p),.ow (.lst ((ak pre).map (O.sh ∘ c8))),v2,v3]) p [.sh (av p),.ow (.lst []),.un,.un] ⟨_,_,rfl⟩ (by
  rintro pre q post _ e ⟨v2,v3,rfl⟩
  have hlen:(ak pre).length + q.2.length <= 100000:=by
   rw [e,pf,bu,List.length_append,List.length_append,List.length_map] at h
   lia
  have hl:(ak pre).length + q.2.length <= LIM:=aW hlen
  have hl2:q.2.length <= LIM:=aW (by lia)
  have hc:b7 (bn (ar (ai 0) (ar (ai 1) bg))) dW (a9 (af (aq 2) (af (aq 0) (af (aq 1) ap)))) [.un,.un,.sh (.int q.1)] (q.2.map prD) = some (q.2.map fun s=>c8 (q.1,s)):=bA prD _ q.2 fun s _=>by simp [fP]
  refine ⟨_,[.sh (av p),.ow (.lst ((ak (pre ++ [q])).map (O.sh ∘ c8))),.sh (.int q.1),.sh (dr q.2)],rfl,.inl ?_,_,_,rfl⟩
  have es:ak (pre ++ [q]) = ak pre ++ q.2.map fun s=>(q.1,s):=by rw [pf,bu];simp [ak]
  rw [es]
  simp [eL,hl,hl2,hc])
 simp [fj,fnO,gt,k1]
theorem cj (p:Pic) (h:(ak p).length <= 100000):b5 [av p] = some (.lst ((ak p).map c8)):=by
 unfold b5
 rw [n9 p h]
 simp
theorem gI {α:Type} (l:List α) (k:α -> Int) (enc:α -> D) (x:Int) (he:∀ a,dIx (enc a) (.int 0) = some (.int (k a))) (hl:l.length <= 100000) (pw:l.Pairwise fun a b=>k a < k b) :
  ∃ n:Nat,n <= l.length /\ eW [.tup (l.map enc),.int x] = some (.int n) /\ ∀ (i:Nat) a,l[i]? = some a -> (k a <= x ↔ i < n):=by
 have lt:∀ (i j:Nat) a b,l[i]? = some a -> l[j]? = some b -> i < j -> k a < k b:=fun i j a b hi hj hij=>by
  obtain ⟨h1,rfl⟩:=List.getElem?_eq_some_iff.mp hi
  obtain ⟨h2,rfl⟩:=List.getElem?_eq_some_iff.mp hj
  exact List.pairwise_iff_getElem.mp pw i j h1 h2 hij
 obtain ⟨ρ',k1,n,v3,v4,rfl,h1,h2⟩:=kK (c:=dB) (m:=dD)
  (fun ρ=>∃ (lo hi:Nat) (v4:Sl),ρ = [.sh (.tup (l.map enc)),.sh (.int x),.sh (.int lo),.sh (.int hi),v4] /\ lo <= hi /\ hi <= l.length /\ (∀ (i:Nat) a,l[i]? = some a -> i < lo -> k a <= x) /\ ∀ (i:Nat) a,l[i]? = some a -> hi <= i -> x < k a)
  (fun ρ=>match ρ with | [_,_,.sh (.int lo),.sh (.int hi),_]=>(hi - lo).toNat | _=>0)
  (fun ρ=>∃ (n:Nat) (v3 v4:Sl),ρ = [.sh (.tup (l.map enc)),.sh (.int x),.sh (.int n),v3,v4] /\ n <= l.length /\ ∀ (i:Nat) a,l[i]? = some a -> (k a <= x ↔ i < n))
  (by
   rintro _ ⟨lo,hi,v4,rfl,h1,h2,h3,h4⟩
   by_cases hc:lo < hi
   ·right
    have hc':(lo:Int) < hi:=by lia
    obtain ⟨a,ha⟩:∃ a,l[(lo + hi) / 2]? = some a:=⟨_,List.getElem?_eq_getElem (by lia)⟩
    have em:((lo:Int) + hi) / 2 = (((lo + hi) / 2:Nat):Int):=by lia
    have ea:atI (l.map enc) (((lo:Int) + hi) / 2) = some (enc a):=by rw [em];exact kE (by rw [List.getElem?_map,ha];rfl)
    refine ⟨by simp [dB,hc'],?_⟩
    by_cases ck:k a <= x
    ·refine ⟨[.sh (.tup (l.map enc)),.sh (.int x),.sh (.int (((lo + hi) / 2 + 1:Nat):Int)),.sh (.int hi),.sh (.int (((lo:Int) + hi) / 2))],?_,⟨(lo + hi) / 2 + 1,hi,_,rfl,by lia,h2,fun i b hb hi'=>?_,h4⟩,by dsimp only;lia⟩
     ·simp [dD,ea,he,ck]
     ·by_cases z:i = (lo + hi) / 2
      ·subst z;rw [ha] at hb;cases hb;exact ck
      ·have:=lt i _ b a hb ha (by lia);lia
    ·refine ⟨[.sh (.tup (l.map enc)),.sh (.int x),.sh (.int lo),.sh (.int (((lo + hi) / 2:Nat):Int)),.sh (.int (((lo:Int) + hi) / 2))],?_,⟨lo,(lo + hi) / 2,_,rfl,by lia,by lia,h3,fun i b hb hi'=>?_⟩,by dsimp only;lia⟩
     ·simp [dD,ea,he,ck]
     ·by_cases z:i = (lo + hi) / 2
      ·subst z;rw [ha] at hb;cases hb;lia
      ·have:=lt _ i a b ha hb (by lia);lia
   ·left
    have hc':¬ (lo:Int) < hi:=by lia
    have e:lo = hi:=by lia
    subst e
    refine ⟨by simp [dB],lo,_,_,rfl,h2,fun i a ha=>⟨fun hk=>?_,fun hi'=>h3 i a ha hi'⟩⟩
    by_cases z:i < lo
    ·exact z
    ·have:=h4 i a ha (by lia);lia)
  [.sh (.tup (l.map enc)),.sh (.int x),.sh (.int 0),.sh (.int l.length),.un]
  ⟨0,l.length,_,rfl,Nat.zero_le _,Nat.le_refl _,fun i a _ h=>absurd h (Nat.not_lt_zero _),fun i a ha h=>by have:=(List.getElem?_eq_some_iff.mp ha).1;lia⟩
 refine ⟨n,h1,?_,h2⟩
 simp [eW,iM,fnO,gO,k1]
def bQ (p:Pic) (y:Int):R:=match p.find? fun q=>decide (q.1 = y) with | some q=>q.2 | none=>[]
theorem lW {p:Pic} (c:aA p) {q:Int × R} (hq:q ∈ p):bQ p q.1 = q.2:=by
 unfold bQ
 cases e:p.find? fun s=>decide (s.1 = q.1) with
 | none=>
  have:=List.find?_eq_none.mp e q hq
  simp at this
 | some s=>
  have h1:=List.find?_some e
  have h2:=List.mem_of_find?_eq_some e
  have h3:s.1 = q.1:=of_decide_eq_true h1
  have:s = q:=by
   obtain ⟨i,hi⟩:=List.getElem?_of_mem h2
   obtain ⟨j,hj⟩:=List.getElem?_of_mem hq
   obtain ⟨li,ei⟩:=List.getElem?_eq_some_iff.mp hi
   obtain ⟨lj,ej⟩:=List.getElem?_eq_some_iff.mp hj
   have pw:=List.pairwise_iff_getElem.mp c.2
   by_cases z:i < j
   ·have:=pw i j li lj z;rw [ei,ej] at this;lia
   ·by_cases z2:j < i
    ·have:=pw j i lj li z2;rw [ei,ej] at this;lia
    ·have:i = j:=by lia
     subst this
     rw [hi] at hj;exact Option.some.inj hj
  rw [this]
theorem kF {p:Pic} {y:Int} (h:∀ q ∈ p,q.1 ≠ y):bQ p y = []:=by
 unfold bQ
 have:p.find? (fun q=>decide (q.1 = y)) = none:=List.find?_eq_none.mpr fun q hq=>by simpa using h q hq
 rw [this]
theorem jr {p:Pic} (c:aA p) (y:Int):bw (bQ p y):=by
 by_cases h:∃ q ∈ p,q.1 = y
 ·obtain ⟨q,hq,rfl⟩:=h
  rw [lW c hq];exact (c.1 q hq).1
 ·rw [kF fun q hq e=>h ⟨q,hq,e⟩];exact gA
theorem qO {p:Pic} (c:aA p) (x y:Int):Mem (bQ p y) x ↔ aP p x y:=by
 constructor
 ·intro h
  by_cases k:∃ q ∈ p,q.1 = y
  ·obtain ⟨q,hq,rfl⟩:=k
   rw [lW c hq] at h
   exact ⟨q,hq,rfl,h⟩
  ·rw [kF fun q hq e=>k ⟨q,hq,e⟩] at h
   exact (br _ h).elim
 ·rintro ⟨q,hq,rfl,h⟩
  rw [lW c hq];exact h
theorem zH (p:Pic) (y:Int) (c:aA p) (h:p.length <= 100000):j5 [av p,.int y] = some (dr (bQ p y)):=by
 obtain ⟨n,h1,h2,h3⟩:=gI p (·.1) pyD y (fun a=>by simp) h c.2
 by_cases hn:n = 0
 ·subst hn
  have e:bQ p y = []:=kF fun q hq e=>by
   obtain ⟨j,ej⟩:=List.getElem?_of_mem hq
   exact absurd ((h3 j q ej).mp (by lia)) (Nat.not_lt_zero _)
  simp at h2
  simp [j5,jV,fnO,kh,h2,e]
 ·obtain ⟨q,hq⟩:∃ q,p[n - 1]? = some q:=⟨_,List.getElem?_eq_getElem (by lia)⟩
  have en:(n:Int) - 1 = ((n - 1:Nat):Int):=by lia
  have ea:atI (p.map pyD) ((n:Int) - 1) = some (pyD q):=by rw [en];exact kE (by rw [List.getElem?_map,hq];rfl)
  have hn':(0:Int) < n:=by lia
  have hn2:0 < n:=by lia
  by_cases hy:q.1 = y
  ·have e:bQ p y = q.2:=by rw [<- hy];exact lW c (List.mem_of_getElem? hq)
   simp [j5,jV,fnO,kh,h2,hn,hn',hn2,ea,hy,e]
  ·have e:bQ p y = []:=kF fun s hs e=>by
    obtain ⟨j,ej⟩:=List.getElem?_of_mem hs
    have hj:=(h3 j s ej).mp (by lia)
    by_cases z:j = n - 1
    ·subst z;rw [hq] at ej;cases ej;exact hy e
    ·obtain ⟨l1,e1⟩:=List.getElem?_eq_some_iff.mp ej
     obtain ⟨l2,e2⟩:=List.getElem?_eq_some_iff.mp hq
     have:=List.pairwise_iff_getElem.mp c.2 j (n - 1) l1 l2 (by lia)
     rw [e1,e2] at this
     have:=(h3 _ _ hq).mpr (by lia)
     lia
   simp [j5,jV,fnO,kh,h2,hn,hn',hn2,ea,hy,e]
theorem sH (r t:R) (h:r.length + t.length <= 30000):im [dr r,dr t] = some (dr (ez r t)):=by
 have hlen:=zC _ r t rfl
 have key:∃ ρ',fw cU bZ [.sh (dr r),.sh (dr t),.ow (.lst []),.sh (.int 0),.sh (.int 0),.un,.un] = some (.nx ρ') /\ ∃ v3 v4 v5 v6,ρ' = [.sh (dr r),.sh (dr t),owl ((ez r t).map prD),v3,v4,v5,v6]:=by
  refine kK (fun ρ=>∃ (acc:R) (i j:Nat) (v5 v6:Sl),ρ = [.sh (dr r),.sh (dr t),owl (acc.map prD),.sh (.int i),.sh (.int j),v5,v6] /\ i <= r.length /\ j <= t.length /\ acc ++ ez (r.drop i) (t.drop j) = ez r t)
   (fun ρ=>match ρ with | [_,_,_,.sh (.int i),.sh (.int j),_,_]=>(r.length + t.length - i - j).toNat | _=>0) _ ?_ _ ⟨[],0,0,.un,.un,rfl,Nat.zero_le _,Nat.zero_le _,rfl⟩
  rintro _ ⟨acc,i,j,v5,v6,rfl,hi,hj,e⟩
  have hacc:acc.length <= 30000:=by
   have:=congrArg List.length e
   rw [List.length_append] at this
   lia
  have hlim:acc.length < LIM:=ie (by lia)
  cases qi:r[i]? with
  | none=>
   have hi':i = r.length:=by have:=List.getElem?_eq_none_iff.mp qi;lia
   subst hi'
   rw [List.drop_of_length_le (Nat.le_refl _),eX,List.append_nil] at e
   subst e
   exact .inl ⟨by simp [cU],_,_,_,_,rfl⟩
  | some p=>
   have hi':=(List.getElem?_eq_some_iff.mp qi).1
   have ei:(i:Int) < r.length:=by lia
   cases qj:t[j]? with
   | none=>
    have hj':j = t.length:=by have:=List.getElem?_eq_none_iff.mp qj;lia
    subst hj'
    rw [List.drop_of_length_le (Nat.le_refl _),d6,List.append_nil] at e
    subst e
    exact .inl ⟨by simp [cU,ei],_,_,_,_,rfl⟩
   | some q=>
    have hj':=(List.getElem?_eq_some_iff.mp qj).1
    have ej:(j:Int) < t.length:=by lia
    have a1:=Hj qi
    have a2:=Hj qj
    rw [iz qi,iz qj,DQ] at e
    refine .inr ⟨by simp [cU,ei,ej],?_⟩
    by_cases c1:max p.1 q.1 <= min p.2 q.2
    ·rw [if_pos c1] at e
     by_cases c2:p.2 < q.2
     ·rw [if_pos c2,<- iz qj] at e
      exact ⟨[.sh (dr r),.sh (dr t),owl ((acc ++ [(max p.1 q.1,min p.2 q.2)]).map prD),.sh (.int ((i + 1:Nat):Int)),.sh (.int j),.sh (.int (max p.1 q.1)),.sh (.int (min p.2 q.2))],by simp [bZ,a1,a2,mx,mn,c1,c2,hlim],⟨_,i + 1,j,_,_,rfl,hi',hj,by rw [List.append_assoc];exact e⟩,by dsimp only;lia⟩
     ·rw [if_neg c2,<- iz qi] at e
      exact ⟨[.sh (dr r),.sh (dr t),owl ((acc ++ [(max p.1 q.1,min p.2 q.2)]).map prD),.sh (.int i),.sh (.int ((j + 1:Nat):Int)),.sh (.int (max p.1 q.1)),.sh (.int (min p.2 q.2))],by simp [bZ,a1,a2,mx,mn,c1,c2,hlim],⟨_,i,j + 1,_,_,rfl,hi,hj',by rw [List.append_assoc];exact e⟩,by dsimp only;lia⟩
    ·rw [if_neg c1,List.nil_append] at e
     by_cases c2:p.2 < q.2
     ·rw [if_pos c2,<- iz qj] at e
      exact ⟨[.sh (dr r),.sh (dr t),owl (acc.map prD),.sh (.int ((i + 1:Nat):Int)),.sh (.int j),.sh (.int (max p.1 q.1)),.sh (.int (min p.2 q.2))],by simp [bZ,a1,a2,mx,mn,c1,c2,hlim],⟨_,i + 1,j,_,_,rfl,hi',hj,e⟩,by dsimp only;lia⟩
     ·rw [if_neg c2,<- iz qi] at e
      exact ⟨[.sh (dr r),.sh (dr t),owl (acc.map prD),.sh (.int i),.sh (.int ((j + 1:Nat):Int)),.sh (.int (max p.1 q.1)),.sh (.int (min p.2 q.2))],by simp [bZ,a1,a2,mx,mn,c1,c2,hlim],⟨_,i,j + 1,_,_,rfl,hi,hj',e⟩,by dsimp only;lia⟩
 obtain ⟨ρ',k1,v3,v4,v5,v6,rfl⟩:=key
 simp [im,jQ,fnO,iq,k1]
def ir (q:Int × R):Bool:=!decide (q.2 = [])
theorem xK:∀ l:Pic,l.filterMap (fun q=>if q.2 = [] then none else some (pyD q)) = (l.filter ir).map pyD
 | []=>rfl
 | q :: l=>by
  by_cases h:q.2 = []
  ·simp [h,ir,<- xK l]
  ·simp [h,ir,<- xK l]
theorem d9 (l:Pic) (h:l.length <= 30000):bO [.lst (l.map pyD)] = some (av (l.filter ir)):=by
 have hl:l.length <= LIM:=aW (by lia)
 have hf:=List.length_filter_le ir l
 have hl2:(l.filter ir).length <= LIM:=aW (by lia)
 have hc:b7 (bn (ar (ai 0) (ar (ai 1) bg))) (xB (xOp (dEq true) (ah 1) (a9 ap))) (a9 (af (aq 0) (af (aq 1) ap))) [.un,.un] (l.map pyD) = some ((l.filter ir).map pyD):=by
  rw [jm pyD (fun q=>if q.2 = [] then none else some (pyD q)) l,xK]
  intro q _
  have d:dEq true (dr q.2) (.tup []) = some (.bl (!decide (q.2 = []))):=GP true q.2 []
  by_cases hq:q.2 = []
  ·simp [hq] at d
   simp [fP,hq,d]
  ·simp [hq] at d
   simp [fP,hq,d]
 simp [bO,fv,fnO,dL,hl,hc,hl2]
def wG (f:R -> R -> R) (p q:Pic):Pic:=(p.map fun s=>(s.1,f s.2 (bQ q s.1))).filter ir
def cmP (p q:Pic):Pic:=wG ez p q
theorem yS {f:R -> R -> R} {p q:Pic} (cp:aA p) (h:∀ s ∈ p,bw (f s.2 (bQ q s.1))):aA (wG f p q):=by
 refine ⟨fun s hs=>?_,?_⟩
 ·obtain ⟨h1,h2⟩:=List.mem_filter.mp hs
  obtain ⟨z,hz,rfl⟩:=List.mem_map.mp h1
  exact ⟨h z hz,by simpa [ir] using h2⟩
 ·refine List.Pairwise.filter _ ?_
  rw [List.pairwise_map]
  exact cp.2
theorem Dg {f:R -> R -> R} {p q:Pic} (x y:Int):aP (wG f p q) x y ↔ ∃ s ∈ p,s.1 = y /\ Mem (f s.2 (bQ q s.1)) x:=by
 constructor
 ·rintro ⟨s,hs,h1,h2⟩
  obtain ⟨z,hz,rfl⟩:=List.mem_map.mp (List.mem_filter.mp hs).1
  exact ⟨z,hz,h1,h2⟩
 ·rintro ⟨z,hz,h1,h2⟩
  refine ⟨(z.1,f z.2 (bQ q z.1)),List.mem_filter.mpr ⟨List.mem_map.mpr ⟨z,hz,rfl⟩,?_⟩,h1,h2⟩
  unfold ir
  rw [Bool.not_eq_true',decide_eq_false_iff_not]
  intro e
  dsimp only at e
  rw [e] at h2
  exact br _ h2
theorem wA {p q:Pic} (cp:aA p) (cq:aA q):aA (cmP p q):=yS cp fun s hs=>(rn (cp.1 s hs).1 (jr cq _)).1
theorem Cc {p q:Pic} (cp:aA p) (cq:aA q) (x y:Int):aP (cmP p q) x y ↔ aP p x y /\ aP q x y:=by
 unfold cmP
 rw [Dg]
 constructor
 ·rintro ⟨s,hs,rfl,h2⟩
  rw [(rn (cp.1 s hs).1 (jr cq _)).2,qO cq] at h2
  exact ⟨⟨s,hs,rfl,h2.1⟩,h2.2⟩
 ·rintro ⟨⟨s,hs,rfl,h1⟩,h2⟩
  exact ⟨s,hs,rfl,by rw [(rn (cp.1 s hs).1 (jr cq _)).2,qO cq];exact ⟨h1,h2⟩⟩
theorem vO {p:Pic} (y:Int):(bQ p y).length <= (ak p).length:=by
 unfold bQ
 cases h:p.find? fun q=>decide (q.1 = y) with
 | none=>exact Nat.zero_le _
 | some q=>exact e8 (List.mem_of_find?_eq_some h)
theorem rP {p q:Pic} (cq:aA q) (h1:p.length <= 30000) (h2:q.length <= 30000) (h:(ak p).length + (ak q).length <= 30000):pT [av p,av q] = some (av (cmP p q)):=by
 have hl:p.length <= LIM:=aW (by lia)
 have hc:b7 (bn (ar (ai 0) (ar (ai 1) bg))) dW (a9 (af (aq 0) (af (aG im (af (aq 1) (af (aG j5 (af (aq 2) (af (aq 0) ap))) ap))) ap))) [.un,.un,.sh (av q)] (p.map pyD) = some ((p.map fun s=>(s.1,ez s.2 (bQ q s.1))).map pyD):=by
  rw [List.map_map]
  exact bA pyD (fun s=>pyD (s.1,ez s.2 (bQ q s.1))) p fun s hs=>by
   have a1:=zH q s.1 cq (by lia)
   have a2:=sH s.2 (bQ q s.1) (by have:=e8 hs;have:=vO (p:=q) s.1;lia)
   simp [fP,a1,a2]
 have hm:=d9 (p.map fun s=>(s.1,ez s.2 (bQ q s.1))) (by rw [List.length_map];exact h1)
 rw [List.map_map] at hm hc
 simp [pT,qR,fnO,pW,hl,hc,hm,cmP,wG]
theorem f8:∀ p:Pic,ak (p.filter ir) = ak p
 | []=>rfl
 | q :: p=>by
  rw [List.filter_cons]
  by_cases h:q.2 = []
  ·have:ir q = false:=by simp [ir,h]
   rw [this,bu,h]
   exact f8 p
  ·have:ir q = true:=by simp [ir,h]
   rw [this,if_pos rfl,bu,bu,f8 p]
theorem uU (r:R) (by':Int) (h:r.length <= 30000):jz [dr r,.int by'] = some (dr (nG r by' by')):=by
 have hl:r.length <= LIM:=aW (by lia)
 have hc:b7 (bn (ar (ai 0) (ar (ai 1) bg))) dW (a9 (af (xOp bK (ah 0) (ah 2)) (af (xOp bK (ah 1) (ah 2)) ap))) [.un,.un,.sh (.int by')] (r.map prD) = some (r.map fun p=>prD (p.1 + by',p.2 + by')):=bA prD _ r fun p _=>by simp [fP]
 simp [jz,kH,fnO,jA,hl,hc,nG]
def mvP (p:Pic) (dx dy:Int):Pic:=p.map fun q=>(q.1 + dy,nG q.2 dx dx)
theorem tT (p:Pic) (dx dy:Int) (h:p.length <= 30000) (hr:∀ q ∈ p,q.2.length <= 30000):tp [av p,.int dx,.int dy] = some (av (mvP p dx dy)):=by
 have hl:p.length <= LIM:=aW (by lia)
 have hc:b7 (bn (ar (ai 0) (ar (ai 1) bg))) dW (a9 (af (xOp bK (ah 0) (ah 2)) (af (aG jz (af (aq 1) (af (aq 3) ap))) ap))) [.un,.un,.sh (.int dy),.sh (.int dx)] (p.map pyD) = some (p.map fun q=>pyD (q.1 + dy,nG q.2 dx dx)):=bA pyD _ p fun q hq=>by
  have:=uU q.2 dx (hr q hq)
  simp [fP,this]
 simp [tp,tM,fnO,tz,hl,hc,mvP]
theorem zX {r:R} (c:bw r) (d:Int):bw (nG r d d):=by
 refine ⟨E8 c.1 (Int.le_refl _),?_⟩
 unfold nG
 rw [List.pairwise_map]
 exact c.2.imp fun {p q} h=>by dsimp only;lia
theorem Ei (r:R) (d x:Int):Mem (nG r d d) x ↔ Mem r (x - d):=by
 rw [Dk]
 constructor
 ·rintro ⟨p,hp,h1,h2⟩;exact ⟨p,hp,by lia,by lia⟩
 ·rintro ⟨p,hp,h1,h2⟩;exact ⟨p,hp,by lia,by lia⟩
theorem C9 {p:Pic} (c:aA p) (dx dy:Int):aA (mvP p dx dy):=by
 refine ⟨fun q hq=>?_,?_⟩
 ·obtain ⟨s,hs,rfl⟩:=List.mem_map.mp hq
  obtain ⟨h1,h2⟩:=c.1 s hs
  refine ⟨zX h1 dx,fun e=>h2 ?_⟩
  exact List.map_eq_nil_iff.mp e
 ·unfold mvP
  rw [List.pairwise_map]
  exact c.2.imp fun {a b} h=>by dsimp only;lia
theorem CH (p:Pic) (dx dy x y:Int):aP (mvP p dx dy) x y ↔ aP p (x - dx) (y - dy):=by
 constructor
 ·rintro ⟨q,hq,h1,h2⟩
  obtain ⟨s,hs,rfl⟩:=List.mem_map.mp hq
  dsimp only at h1 h2
  exact ⟨s,hs,by lia,(Ei _ _ _).mp h2⟩
 ·rintro ⟨s,hs,h1,h2⟩
  exact ⟨_,List.mem_map.mpr ⟨s,hs,rfl⟩,by dsimp only;lia,(Ei _ _ _).mpr h2⟩
abbrev Blk:=Int × Int × Int × Int
abbrev b8 (b:Blk):D:=.tup [.int b.1,.int b.2.1,.int b.2.2.1,.int b.2.2.2]
def jq (b:Blk) (dx dy:Int):Prop:=b.1 <= dx /\ dx <= b.2.2.1 /\ b.2.1 <= dy /\ dy <= b.2.2.2
def BOk (b:Blk):Prop:=b.1 <= b.2.2.1 /\ b.2.1 <= b.2.2.2
theorem EE (p:Pic) (dx dy:Int):(ak (mvP p dx dy)).length = (ak p).length:=by
 unfold mvP ak
 rw [List.length_flatMap,List.length_flatMap,List.map_map]
 congr 1
 apply List.map_congr_left
 intro q _
 simp [nG]
theorem kd (ts:List Tri):(ak (gv ts)).length <= ts.length:=by
 have o:=mm ts
 have h1:∀ gs:Pic,(ak (gs.map fun g=>(g.1,lP g.2))).length <= (gs.map fun g=>g.2.length).sum:=by
  intro gs
  induction gs with
  | nil=>simp [ak]
  | cons g gs ih=>
   have:=wT g.2
   rw [List.map_cons,bu,List.length_append,List.length_map,List.map_cons,List.sum_cons]
   dsimp only
   lia
 have h2:=h1 (e9 (cT (ts.filter bI)))
 have h3:=o.len
 have h4:=(eg (ts.filter bI)).length_eq
 have h5:=List.length_filter_le bI ts
 have h6:ak (gv ts) = ak ((e9 (cT (ts.filter bI))).map fun g=>(g.1,lP g.2)):=rfl
 rw [h6]
 lia
theorem yj {p:Pic} (c:aA p):p.length <= (ak p).length:=by
 induction p with
 | nil=>exact Nat.le_refl _
 | cons q p ih=>
  obtain ⟨⟨_,h1⟩,_,h2⟩:=pcanon_cons.mp c
  have:=ih h2
  have:=List.length_pos_iff.mpr h1
  rw [bu,List.length_append,List.length_map,List.length_cons]
  lia
theorem xD {p:Pic} (c:aA p):∀ t ∈ ak p,t.2.1 <= t.2.2:=by
 intro t ht
 obtain ⟨q,hq,h⟩:=List.mem_flatMap.mp ht
 obtain ⟨s,hs,rfl⟩:=List.mem_map.mp h
 exact (c.1 q hq).1.1 s hs
def joP (p q:Pic):Pic:=gv (ak p ++ ak q)
theorem DF (p q:Pic):aA (joP p q):=(f9 _).1
theorem GS (p q:Pic) (x y:Int):aP (joP p q) x y ↔ aP p x y \/ aP q x y:=by
 unfold joP
 rw [(f9 _).2,fJ,i8,i8]
theorem CO (p q:Pic) (h:(ak p).length + (ak q).length < 30000):AO [av p,av q] = some (av (joP p q)):=by
 have h1:=cj p (by lia)
 have h2:=cj q (by lia)
 have hl:(ak p).length + (ak q).length <= LIM:=aW (by lia)
 have hm:=g7 (ak p ++ ak q) (by rw [List.length_append];exact h)
 rw [List.map_append] at hm
 simp [AO,yE,fnO,xo,h1,h2,HQ,hl,hm,joP]
theorem Il (p q:Pic):(ak (joP p q)).length <= (ak p).length + (ak q).length:=by
 have:=kd (ak p ++ ak q)
 rwa [List.length_append] at this
theorem qM (p:Pic) (c:aA p) (n:Nat) (hs:(2 * n + 1) * (ak p).length <= 10000):∃ q:Pic,gK [av p,.int (n:Int)] = some (av q) /\ aA q /\ (ak q).length <= (2 * n + 1) * (ak p).length /\ ∀ x y,aP q x y ↔ ∃ j:Int,0 <= j /\ j <= n /\ aP p x (y - j):=by
 obtain ⟨ρ',k1,q,v2,v3,rfl,a1,a3,a4⟩:=kK (c:=dE) (m:=fh)
  (fun ρ=>∃ (q:Pic) (k:Nat) (v3:Sl),ρ = [.sh (av q),.sh (.int (n:Int)),.sh (.int (k:Int)),v3] /\ k <= n /\ aA q /\ ((ak q).length <= (k + 1) * (ak p).length \/ (k = n /\ (ak q).length <= (2 * n + 1) * (ak p).length)) /\ ∀ x y,aP q x y ↔ ∃ j:Int,0 <= j /\ j <= k /\ aP p x (y - j))
  (fun ρ=>match ρ with | [_,.sh (.int n),.sh (.int k),_]=>(n - k).toNat | _=>0)
  (fun ρ=>∃ (q:Pic) (v2 v3:Sl),ρ = [.sh (av q),.sh (.int (n:Int)),v2,v3] /\ aA q /\ (ak q).length <= (2 * n + 1) * (ak p).length /\ ∀ x y,aP q x y ↔ ∃ j:Int,0 <= j /\ j <= n /\ aP p x (y - j))
  (by
   rintro _ ⟨q,k,v3,rfl,hk,c',hsz,hm⟩
   by_cases hc:k < n
   ·right
    have hc':(k:Int) < n:=by lia
    refine ⟨by simp [dE,hc'],?_⟩
    have hsz':(ak q).length <= (k + 1) * (ak p).length:=hsz.elim id fun h=>by lia
    generalize hst:(if (n:Int) - k < (k:Int) + 1 then (n:Int) - k else (k:Int) + 1) = st
    have hst1:1 <= st /\ st <= k + 1 /\ st <= n - k /\ (st = k + 1 \/ st = n - k):=by rw [<- hst];split <;> lia
    have e1:(k + 1) * (ak p).length <= (2 * n + 1) * (ak p).length:=Nat.mul_le_mul_right _ (by lia)
    have lq:(ak q).length <= 10000:=by lia
    have rq:=yj c'
    have mv:=tT q 0 st (by lia) fun z hz=>by have:=e8 hz;lia
    have smv:=EE q 0 st
    have jo:=CO q (mvP q 0 st) (by lia)
    have sjo:=Il q (mvP q 0 st)
    have ek:(((k + st.toNat:Nat)):Int) = (k:Int) + st:=by lia
    refine ⟨[.sh (av (joP q (mvP q 0 st))),.sh (.int (n:Int)),.sh (.int ((k + st.toNat:Nat):Int)),.sh (.int st)],?_,⟨joP q (mvP q 0 st),k + st.toNat,_,rfl,by lia,DF _ _,?_,fun x y=>?_⟩,by dsimp only;lia⟩
    ·rw [ek]
     simp [fh,hst,mv,jo]
    ·rcases hst1.2.2.2 with e | e
     ·left
      have e2:(k + st.toNat + 1) * (ak p).length = (k + 1) * (ak p).length + (k + 1) * (ak p).length:=by
       rw [<- Nat.add_mul]
       congr 1
       lia
      lia
     ·right
      have e2:(k + 1) * (ak p).length + (k + 1) * (ak p).length <= (2 * n + 1) * (ak p).length:=by
       rw [<- Nat.add_mul]
       exact Nat.mul_le_mul_right _ (by lia)
      exact ⟨by lia,by lia⟩
    ·rw [GS,CH,hm,hm,show x - 0 = x by lia]
     constructor
     ·rintro (⟨j,j0,j1,g⟩ | ⟨j,j0,j1,g⟩)
      ·exact ⟨j,j0,by lia,g⟩
      ·exact ⟨st + j,by lia,by lia,by rwa [show y - (st + j) = y - st - j by lia]⟩
     ·rintro ⟨j,j0,j1,g⟩
      by_cases hj:j <= k
      ·exact .inl ⟨j,j0,hj,g⟩
      ·exact .inr ⟨j - st,by lia,by lia,by rwa [show y - st - (j - st) = y - j by lia]⟩
   ·left
    have ek:k = n:=by lia
    subst ek
    refine ⟨by simp [dE],q,_,_,rfl,c',?_,hm⟩
    rcases hsz with h | h
    ·have:(k + 1) * (ak p).length <= (2 * k + 1) * (ak p).length:=Nat.mul_le_mul_right _ (by lia)
     lia
    ·exact h.2)
  [.sh (av p),.sh (.int (n:Int)),.sh (.int 0),.un] ⟨p,0,.un,rfl,by lia,c,.inl (by lia),fun x y=>⟨fun h=>⟨0,by lia,by lia,by rwa [show y - 0 = y by lia]⟩,fun ⟨j,j0,j1,h⟩=>by rwa [show y - j = y by lia] at h⟩⟩
 exact ⟨q,by simp [gK,jk,fnO,gL,k1],a1,a3,a4⟩
def fM (b:Blk) (t:Tri):Tri:=(t.1 + b.2.1,t.2.1 + b.1,t.2.2 + b.2.2.1)
theorem u1 {p:Pic} (c:aA p) {b:Blk} (hb:b.1 <= b.2.2.1) (x y:Int):jp ((ak p).map (fM b)) x y ↔ ∃ dx,b.1 <= dx /\ dx <= b.2.2.1 /\ aP p (x - dx) (y - b.2.1):=by
 constructor
 ·rintro ⟨_,ht0,h1,h2,h3⟩
  obtain ⟨t,ht,rfl⟩:=List.mem_map.mp ht0
  have ok:=xD c t ht
  simp only [fM] at h1 h2 h3
  refine ⟨max b.1 (x - t.2.2),by lia,by lia,?_⟩
  exact (i8 _ _ _).mp ⟨t,ht,by lia,by lia,by lia⟩
 ·rintro ⟨dx,d1,d2,h⟩
  obtain ⟨t,ht,h1,h2,h3⟩:=(i8 _ _ _).mpr h
  exact ⟨_,List.mem_map.mpr ⟨t,ht,rfl⟩,by simp only [fM];lia,by simp only [fM];lia,by simp only [fM];lia⟩
def GrB (p:Pic) (b:Blk) (x y:Int):Prop:=∃ dx dy,jq b dx dy /\ aP p (x - dx) (y - dy)
theorem lr (p:Pic) (c:aA p) (b:Blk) (hb:BOk b) (n:Nat) (hn:b.2.2.2 - b.2.1 = n) (hs:(2 * n + 1) * (ak p).length <= 10000):∃ ts:List Tri,dh [av p,b8 b] = some (.lst (ts.map c8)) /\ (∀ t ∈ ts,t.2.1 <= t.2.2) /\ ts.length <= (2 * n + 1) * (ak p).length /\ ∀ x y,jp ts x y ↔ GrB p b x y:=by
 have e1:(ak p).length <= (2 * n + 1) * (ak p).length:=Nat.le_mul_of_pos_left _ (by lia)
 have hl:(ak p).length <= LIM:=aW (by lia)
 have h1:=cj p (by lia)
 have hc:b7 (bn (ar (ai 0) (ar (ai 1) (ar (ai 2) bg)))) dW (a9 (af (xOp bK (ah 0) (xOp dIx (ah 3) (xC (.int 1)))) (af (xOp bK (ah 1) (xOp dIx (ah 3) (xC (.int 0)))) (af (xOp bK (ah 2) (xOp dIx (ah 3) (xC (.int 2)))) ap)))) [.un,.un,.un,.sh (b8 b)] ((ak p).map c8) = some (((ak p).map (fM b)).map c8):=by
  rw [List.map_map]
  exact bA c8 (c8 ∘ fM b) (ak p) fun q hq=>by simp [fP,atI,ixN,fM]
 have hw:∀ t ∈ (ak p).map (fM b),t.2.1 <= t.2.2:=by
  intro t ht
  obtain ⟨s,hs,rfl⟩:=List.mem_map.mp ht
  have:=xD c s hs
  have:=hb.1
  simp only [fM]
  lia
 by_cases h0:b.2.1 = b.2.2.2
 ·refine ⟨(ak p).map (fM b),?_,hw,by rw [List.length_map];exact e1,fun x y=>?_⟩
  ·generalize ((ak p).map (fM b)).map c8 = zs at hc
   simp [dh,cM,fnO,bV,h1,hl,hc,atI,ixN,h0]
  ·rw [u1 c hb.1]
   constructor
   ·rintro ⟨dx,d1,d2,h⟩
    exact ⟨dx,b.2.1,⟨d1,d2,by lia,by lia⟩,h⟩
   ·rintro ⟨dx,dy,⟨d1,d2,d3,d4⟩,h⟩
    refine ⟨dx,d1,d2,?_⟩
    rwa [show b.2.1 = dy by lia]
 ·have lw:(ak (gv ((ak p).map (fM b)))).length <= (ak p).length:=by
   have:=kd ((ak p).map (fM b))
   rwa [List.length_map] at this
  have e2:(2 * n + 1) * (ak (gv ((ak p).map (fM b)))).length <= (2 * n + 1) * (ak p).length:=Nat.mul_le_mul_left _ lw
  obtain ⟨q,a1,a2,a3,a4⟩:=qM (gv ((ak p).map (fM b))) (f9 _).1 n (by lia)
  have hp:=g7 ((ak p).map (fM b)) (by rw [List.length_map];lia)
  have h2:=cj q (by lia)
  have a1':gK [av (gv ((ak p).map (fM b))),.int (b.2.2.2 - b.2.1)] = some (av q):=by rw [hn];exact a1
  refine ⟨ak q,?_,xD a2,by lia,fun x y=>?_⟩
  ·generalize gv ((ak p).map (fM b)) = w at hp a1'
   generalize ((ak p).map (fM b)).map c8 = zs at hc hp
   simp [dh,cM,fnO,bV,h1,hl,hc,atI,ixN,h0,hp,a1',h2]
  ·rw [i8,a4]
   constructor
   ·rintro ⟨j,j0,j1,h⟩
    rw [(f9 _).2,u1 c hb.1] at h
    obtain ⟨dx,d1,d2,h⟩:=h
    exact ⟨dx,b.2.1 + j,⟨d1,d2,by lia,by lia⟩,by rwa [show y - (b.2.1 + j) = y - j - b.2.1 by lia]⟩
   ·rintro ⟨dx,dy,⟨d1,d2,d3,d4⟩,h⟩
    refine ⟨dy - b.2.1,by lia,by lia,?_⟩
    rw [(f9 _).2,u1 c hb.1]
    exact ⟨dx,d1,d2,by rwa [show y - (dy - b.2.1) - b.2.1 = y - dy by lia]⟩
def c6 (b:Blk):Nat:=2 * (b.2.2.2 - b.2.1).toNat + 1
def highs (bs:List Blk):Nat:=(bs.map c6).sum
def GrP (p:Pic) (bs:List Blk) (x y:Int):Prop:=∃ b ∈ bs,GrB p b x y
theorem cu (as bs:List Blk):highs (as ++ bs) = highs as + highs bs:=by unfold highs;rw [List.map_append,List.sum_append]
theorem mo (p:Pic) (c:aA p) (bs:List Blk) (hb:∀ b ∈ bs,BOk b) (hs:highs bs * (ak p).length <= 10000):∃ q:Pic,fQ [av p,.tup (bs.map b8)] = some (av q) /\ aA q /\ (ak q).length <= highs bs * (ak p).length /\ ∀ x y,aP q x y ↔ GrP p bs x y:=by
 obtain ⟨ρ',k1,ts,v3,rfl,b1,b2⟩:=ci (g:=ai 3) (m:=cK) b8 (fun pre ρ=>∃ (ts:List Tri) (v3:Sl),ρ = [.sh (av p),.sh (.tup (bs.map b8)),.ow (.lst (ts.map (O.sh ∘ c8))),v3] /\ ts.length <= highs pre * (ak p).length /\ ∀ x y,jp ts x y ↔ GrP p pre x y) bs [.sh (av p),.sh (.tup (bs.map b8)),.ow (.lst []),.un] ⟨[],_,rfl,by simp [highs],fun x y=>⟨fun ⟨_,h,_⟩=>(by cases h),fun ⟨_,h,_⟩=>(by cases h)⟩⟩ (by
  rintro pre b post _ e ⟨ts,v3,rfl,l1,l2⟩
  have hbb:=hb b (by rw [e];simp)
  have hh:highs pre + c6 b <= highs bs:=by
   rw [e,cu]
   have:highs (b :: post) = c6 b + highs post:=rfl
   lia
  have hh2:(highs pre + c6 b) * (ak p).length <= highs bs * (ak p).length:=Nat.mul_le_mul_right _ hh
  rw [Nat.add_mul] at hh2
  obtain ⟨us,c1,c2,c3,c4⟩:=lr p c b hbb (b.2.2.2 - b.2.1).toNat (by have:=hbb.2;lia) (by show c6 b * _ <= _;lia)
  have c3':us.length <= c6 b * (ak p).length:=c3
  have hl:ts.length + us.length <= LIM:=aW (by lia)
  refine ⟨_,[.sh (av p),.sh (.tup (bs.map b8)),.ow (.lst ((ts ++ us).map (O.sh ∘ c8))),.sh (b8 b)],rfl,.inl ?_,ts ++ us,_,rfl,?_,fun x y=>?_⟩
  ·simp [cK,c1,hl]
  ·rw [List.length_append,cu,Nat.add_mul]
   have:highs [b] = c6 b:=by simp [highs]
   rw [this]
   lia
  ·rw [fJ,l2,c4]
   unfold GrP
   simp only [List.mem_append,List.mem_singleton]
   constructor
   ·rintro (⟨z,hz,h⟩ | h)
    ·exact ⟨z,.inl hz,h⟩
    ·exact ⟨b,.inr rfl,h⟩
   ·rintro ⟨z,hz | rfl,h⟩
    ·exact .inl ⟨z,hz,h⟩
    ·exact .inr h)
 have hp:=g7 ts (by lia)
 have hl:=kd ts
 refine ⟨gv ts,?_,(f9 _).1,by lia,fun x y=>by rw [(f9 _).2,b2]⟩
 simp [fQ,fF,fnO,dN,k1,hp,frz]
def vx (acc:List Blk) (t:Tri):List Blk:=match acc.getLast? with
 | some l=>if l.1 = t.1 /\ l.2.2.1 = t.2.1 /\ l.2.2.2 = t.2.2 - 1 then acc.dropLast ++ [(t.1,l.2.1,t.2.1,t.2.2)] else acc ++ [(t.1,t.2.2,t.2.1,t.2.2)]
 | none=>[(t.1,t.2.2,t.2.1,t.2.2)]
theorem DI (t:Tri):vx [] t = [(t.1,t.2.2,t.2.1,t.2.2)]:=rfl
theorem tS (acc:List Blk) (l:Blk) (t:Tri):vx (acc ++ [l]) t = if l.1 = t.1 /\ l.2.2.1 = t.2.1 /\ l.2.2.2 = t.2.2 - 1 then acc ++ [(t.1,l.2.1,t.2.1,t.2.2)] else acc ++ [l] ++ [(t.1,t.2.2,t.2.1,t.2.2)]:=by
 unfold vx
 rw [List.getLast?_append]
 simp
def qX (ts:List Tri):List Blk:=ts.foldl vx []
theorem w8 (pre:List Tri) (t:Tri):qX (pre ++ [t]) = vx (qX pre) t:=by unfold qX;rw [List.foldl_append];rfl
theorem GR (b c:Blk):dEq false (b8 b) (b8 c) = some (.bl (decide (b = c))):=by
 have h:∀ b:Blk,okD 50 (b8 b) = true:=fun b=>by simp [okD,okDs]
 unfold dEq
 rw [if_pos ⟨h b,h c⟩]
 obtain ⟨b1,b2,b3,b4⟩:=b
 obtain ⟨c1,c2,c3,c4⟩:=c
 simp [eqD,eqDs,Prod.ext_iff]
 by_cases h1:b1 = c1 <;> by_cases h2:b2 = c2 <;> by_cases h3:b3 = c3 <;> by_cases h4:b4 = c4 <;> simp [h1,h2,h3,h4]
theorem Jw (l:Blk) (a b y:Int):l = (a,l.2.1,b,y) ↔ l.1 = a /\ l.2.2.1 = b /\ l.2.2.2 = y:=by
 obtain ⟨b1,b2,b3,b4⟩:=l
 simp [Prod.ext_iff]
theorem zK (s0:Sl) (acc:List Blk) (t:Tri) (h:acc.length <= 30000):bT [s0,owl (acc.map b8),.sh (.int t.1),.sh (.int t.2.1),.sh (.int t.2.2)] = some (.nx [s0,owl ((vx acc t).map b8),.sh (.int t.1),.sh (.int t.2.1),.sh (.int t.2.2)]):=by
 rcases List.eq_nil_or_concat acc with rfl | ⟨r,l,rfl⟩
 ·simp [bT,DI]
 ·rw [List.concat_eq_append] at *
  rw [tS]
  have hl:r.length + 1 <= 30000:=by simpa using h
  have hlim:r.length + 1 < LIM:=ie (by lia)
  have at1:atI (r.map b8 ++ [b8 l]) (-1) = some (b8 l):=gR _ _
  have ix1:atI [D.int l.1,.int l.2.1,.int l.2.2.1,.int l.2.2.2] 1 = some (.int l.2.1):=by simp [atI,ixN]
  have de:=GR l (t.1,l.2.1,t.2.1,t.2.2 - 1)
  have ee:=Jw l t.1 t.2.1 (t.2.2 - 1)
  by_cases hc:l.1 = t.1 /\ l.2.2.1 = t.2.1 /\ l.2.2.2 = t.2.2 - 1
  ·rw [if_pos hc]
   rw [decide_eq_true (ee.mpr hc)] at de
   simp [bT,at1,ix1,de,mw]
  ·rw [if_neg hc]
   rw [decide_eq_false fun z=>hc (ee.mp z)] at de
   simp [bT,at1,ix1,de,hlim]
structure BsOk (bs:List Blk) (ts:List Tri):Prop where
 ok:∀ b ∈ bs,BOk b
 mem:∀ x y,(∃ b ∈ bs,jq b x y) ↔ ∃ t ∈ ts,t.1 <= x /\ x <= t.2.1 /\ y = t.2.2
 len:highs bs + bs.length = 2 * ts.length
theorem qB (bs:List Blk) (b:Blk) (x y:Int):(∃ c ∈ bs ++ [b],jq c x y) ↔ (∃ c ∈ bs,jq c x y) \/ jq b x y:=by
 constructor
 ·rintro ⟨c,hc,h⟩
  rcases List.mem_append.mp hc with hc | hc
  ·exact .inl ⟨c,hc,h⟩
  ·rw [List.mem_singleton] at hc;subst hc;exact .inr h
 ·rintro (⟨c,hc,h⟩ | h)
  ·exact ⟨c,List.mem_append_left _ hc,h⟩
  ·exact ⟨b,List.mem_append_right _ (List.mem_singleton.mpr rfl),h⟩
theorem zl (ts:List Tri) (t:Tri) (x y:Int):(∃ s ∈ ts ++ [t],s.1 <= x /\ x <= s.2.1 /\ y = s.2.2) ↔ (∃ s ∈ ts,s.1 <= x /\ x <= s.2.1 /\ y = s.2.2) \/ (t.1 <= x /\ x <= t.2.1 /\ y = t.2.2):=by
 constructor
 ·rintro ⟨c,hc,h⟩
  rcases List.mem_append.mp hc with hc | hc
  ·exact .inl ⟨c,hc,h⟩
  ·rw [List.mem_singleton] at hc;subst hc;exact .inr h
 ·rintro (⟨c,hc,h⟩ | h)
  ·exact ⟨c,List.mem_append_left _ hc,h⟩
  ·exact ⟨t,List.mem_append_right _ (List.mem_singleton.mpr rfl),h⟩
theorem gJ (b:Blk):highs [b] = c6 b:=by simp [highs]
theorem Ff {bs:List Blk} {ts:List Tri} {t:Tri} (o:BsOk bs ts) (ht:t.1 <= t.2.1):BsOk (vx bs t) (ts ++ [t]):=by
 have new:∀ x y,jq (t.1,t.2.2,t.2.1,t.2.2) x y ↔ t.1 <= x /\ x <= t.2.1 /\ y = t.2.2:=fun x y=>by
  unfold jq
  dsimp only
  constructor
  ·rintro ⟨h1,h2,h3,h4⟩;exact ⟨h1,h2,by lia⟩
  ·rintro ⟨h1,h2,h3⟩;exact ⟨h1,h2,by lia,by lia⟩
 have hn:c6 (t.1,t.2.2,t.2.1,t.2.2) = 1:=by simp [c6]
 have app:BsOk (bs ++ [(t.1,t.2.2,t.2.1,t.2.2)]) (ts ++ [t]):=by
  refine ⟨fun b hb=>?_,fun x y=>by rw [qB,zl,o.mem,new],?_⟩
  ·rcases List.mem_append.mp hb with hb | hb
   ·exact o.ok b hb
   ·rw [List.mem_singleton] at hb;subst hb;exact ⟨ht,Int.le_refl _⟩
  ·have:=o.len
   rw [cu,gJ,hn,List.length_append,List.length_append,List.length_singleton,List.length_singleton]
   lia
 rcases List.eq_nil_or_concat bs with rfl | ⟨r,l,rfl⟩
 ·exact app
 ·rw [List.concat_eq_append] at *
  rw [tS]
  by_cases hc:l.1 = t.1 /\ l.2.2.1 = t.2.1 /\ l.2.2.2 = t.2.2 - 1
  ·rw [if_pos hc]
   have lo:=o.ok l (by simp)
   refine ⟨fun b hb=>?_,fun x y=>?_,?_⟩
   ·rcases List.mem_append.mp hb with hb | hb
    ·exact o.ok b (List.mem_append_left _ hb)
    ·rw [List.mem_singleton] at hb;subst hb
     have:=lo.2
     exact ⟨ht,by dsimp only;lia⟩
   ·rw [zl,<- o.mem,qB,qB,or_assoc]
    refine or_congr Iff.rfl ?_
    have:=lo.2
    unfold jq
    dsimp only
    constructor
    ·rintro ⟨h1,h2,h3,h4⟩
     by_cases e:y = t.2.2
     ·exact .inr ⟨h1,h2,e⟩
     ·exact .inl ⟨by lia,by lia,h3,by lia⟩
    ·rintro (⟨h1,h2,h3,h4⟩ | ⟨h1,h2,h3⟩)
     ·exact ⟨by lia,by lia,h3,by lia⟩
     ·exact ⟨h1,h2,by lia,by lia⟩
   ·have h1:=o.len
    have h2:=lo.2
    have h3:c6 (t.1,l.2.1,t.2.1,t.2.2) = c6 l + 2:=by unfold c6;dsimp only;lia
    rw [cu,gJ,List.length_append,List.length_singleton] at h1
    rw [cu,gJ,h3,List.length_append,List.length_append,List.length_singleton,List.length_singleton]
    lia
  ·rw [if_neg hc]
   exact app
theorem B7:∀ (post pre:List Tri),(∀ t ∈ pre ++ post,t.1 <= t.2.1) -> BsOk (qX pre) pre -> BsOk (qX (pre ++ post)) (pre ++ post)
 | [],pre,_,o=>by rw [List.append_nil];exact o
 | t :: post,pre,h,o=>by
  have e:pre ++ t :: post = (pre ++ [t]) ++ post:=by simp
  rw [e] at h ⊢
  refine B7 post (pre ++ [t]) h ?_
  rw [w8]
  exact Ff o (h t (by simp))
theorem zA {ts:List Tri} (h:∀ t ∈ ts,t.1 <= t.2.1):BsOk (qX ts) ts:=by
 have:=B7 ts [] (by simpa using h) ⟨fun _ h=>(by cases h),fun x y=>⟨fun ⟨_,h,_⟩=>(by cases h),fun ⟨_,h,_⟩=>(by cases h)⟩,rfl⟩
 simpa using this
def fm (p:Pic):List Blk:=qX (cT ((ak p).map fun t=>(t.2.1,t.2.2,t.1)))
theorem mt (p:Pic) (c:aA p) (h:(ak p).length < 30000):mf [av p] = some (.tup ((fm p).map b8)) /\ (∀ b ∈ fm p,BOk b) /\ highs (fm p) <= 2 * (ak p).length /\ ∀ x y,(∃ b ∈ fm p,jq b x y) ↔ aP p x y:=by
 have hperm:=eg ((ak p).map fun t=>(t.2.1,t.2.2,t.1))
 have hlen:(cT ((ak p).map fun t=>(t.2.1,t.2.2,t.1))).length = (ak p).length:=by rw [hperm.length_eq,List.length_map]
 have hok:∀ t ∈ cT ((ak p).map fun t=>(t.2.1,t.2.2,t.1)),t.1 <= t.2.1:=by
  intro t ht
  obtain ⟨s,hs,rfl⟩:=List.mem_map.mp (hperm.mem_iff.mp ht)
  exact xD c s hs
 have o:=zA hok
 have ol:=o.len
 refine ⟨?_,o.ok,by have:=o.len;show highs (qX _) <= _;lia,fun x y=>?_⟩
 ·obtain ⟨ρ',k1,v2,v3,v4,rfl⟩:=ci (g:=bn (ar (ai 2) (ar (ai 3) (ar (ai 4) bg)))) (m:=bT) c8 (fun pre ρ=>∃ v2 v3 v4,ρ = [.sh (av p),owl ((qX pre).map b8),v2,v3,v4]) (cT ((ak p).map fun t=>(t.2.1,t.2.2,t.1))) [.sh (av p),.ow (.lst []),.un,.un,.un] ⟨_,_,_,rfl⟩ (by
   rintro pre t post _ e ⟨v2,v3,v4,rfl⟩
   have hp:pre.length <= (ak p).length:=by
    rw [<- hlen,e,List.length_append];lia
   have opre:=zA (ts:=pre) fun t ht=>hok t (by rw [e];exact List.mem_append_left _ ht)
   have:=opre.len
   have h1:(qX pre).length <= highs (qX pre):=by
    have:∀ bs:List Blk,bs.length <= highs bs:=by
     intro bs
     induction bs with
     | nil=>exact Nat.zero_le _
     | cons b bs ih=>
      have e2:highs (b :: bs) = c6 b + highs bs:=rfl
      rw [e2,List.length_cons]
      unfold c6
      lia
    exact this _
   refine ⟨_,_,rfl,.inl (zK _ (qX pre) t (by lia)),.sh (.int t.1),.sh (.int t.2.1),.sh (.int t.2.2),by rw [w8]⟩)
  have h1:=cj p (by lia)
  have hl:(ak p).length <= LIM:=aW (by lia)
  have hc:b7 (bn (ar (ai 0) (ar (ai 1) (ar (ai 2) bg)))) dW (a9 (af (aq 1) (af (aq 2) (af (aq 0) ap)))) [.un,.un,.un] ((ak p).map c8) = some (((ak p).map fun t=>(t.2.1,t.2.2,t.1)).map c8):=by
   rw [List.map_map]
   exact bA c8 (c8 ∘ fun t=>(t.2.1,t.2.2,t.1)) (ak p) fun q hq=>by simp [fP]
  have hb:=pM ((ak p).map fun t=>(t.2.1,t.2.2,t.1)) (by rw [List.length_map];exact h)
  have k2:hV (bn (ar (ai 2) (ar (ai 3) (ar (ai 4) bg)))) bT ((cT ((ak p).map fun t=>(t.2.1,t.2.2,t.1))).map c8) [.sh (av p),.ow (.lst []),.un,.un,.un] = some (.nx [.sh (av p),owl ((fm p).map b8),v2,v3,v4]):=k1
  generalize fm p = bs at k2
  generalize (cT ((ak p).map fun t=>(t.2.1,t.2.2,t.1))).map c8 = zs at k2 hb
  generalize ((ak p).map fun t=>(t.2.1,t.2.2,t.1)).map c8 = ws at hb hc
  simp [mf,kO,fnO,jv,h1,hl,hc,hb,k2]
 ·unfold fm
  rw [o.mem,<- i8]
  constructor
  ·rintro ⟨t,ht,h1,h2,h3⟩
   obtain ⟨s,hs,rfl⟩:=List.mem_map.mp (hperm.mem_iff.mp ht)
   exact ⟨s,hs,h3.symm,h1,h2⟩
  ·rintro ⟨s,hs,h1,h2,h3⟩
   exact ⟨_,hperm.mem_iff.mpr (List.mem_map.mpr ⟨s,hs,rfl⟩),h2,h3,h1.symm⟩
abbrev gq (bs:List Blk):D:=.tup (bs.map b8)
abbrev bX (ps:List (List Blk)):D:=.tup (ps.map gq)
abbrev az (N:Str) (ps:List (List Blk)):D:=.ins N ["parts"] [bX ps]
def vU (bs:List Blk) (x y:Int):Prop:=∃ b ∈ bs,jq b x y
def Off:List (List Blk) -> Int -> Int -> Prop
 | [],x,y=>x = 0 /\ y = 0
 | bs :: r,x,y=>∃ u v,vU bs u v /\ Off r (x - u) (y - v)
def FOk (ps:List (List Blk)):Prop:=∀ bs ∈ ps,bs ≠ [] /\ ∀ b ∈ bs,BOk b
theorem Hb (p:Pic) (bs:List Blk) (x y:Int):GrP p bs x y ↔ ∃ u v,vU bs u v /\ aP p (x - u) (y - v):=by
 constructor
 ·rintro ⟨b,hb,dx,dy,h1,h2⟩
  exact ⟨dx,dy,⟨b,hb,h1⟩,h2⟩
 ·rintro ⟨dx,dy,⟨b,hb,h1⟩,h2⟩
  exact ⟨b,hb,dx,dy,h1,h2⟩
def mX:Pic:=[(0,[(0,0)])]
theorem zW (x y:Int):aP mX x y ↔ x = 0 /\ y = 0:=by
 constructor
 ·rintro ⟨q,hq,h1,s,hs,h2,h3⟩
  rw [mX,List.mem_singleton] at hq
  subst hq
  rw [List.mem_singleton] at hs
  subst hs
  dsimp only at h1 h2 h3
  lia
 ·rintro ⟨rfl,rfl⟩
  exact ⟨_,List.mem_singleton.mpr rfl,rfl,_,List.mem_singleton.mpr rfl,Int.le_refl _,Int.le_refl _⟩
theorem vp:aA mX:=by
 refine ⟨fun q hq=>?_,List.pairwise_singleton _ _⟩
 rw [mX,List.mem_singleton] at hq
 subst hq
 exact ⟨⟨fun s hs=>by rw [List.mem_singleton] at hs;subst hs;exact Int.le_refl _,List.pairwise_singleton _ _⟩,by simp⟩
def shr (r:R) (lo hi:Int):R:=lP (r.map fun p=>(p.1 - lo,p.2 - hi))
theorem sD (r:R) (lo hi:Int) (h:r.length <= 1000):ii [dr r,.int lo,.int hi] = some (dr (shr r lo hi)):=by
 have hl:r.length <= LIM:=aW (by lia)
 have hc:b7 (bn (ar (ai 0) (ar (ai 1) bg))) dW (a9 (af (xOp kq (ah 0) (ah 2)) (af (xOp kq (ah 1) (ah 3)) ap))) [.un,.un,.sh (.int lo),.sh (.int hi)] (r.map prD) = some (r.map fun p=>prD (p.1 - lo,p.2 - hi)):=bA prD _ r fun p _=>by simp [fP]
 have hm:=rT (r.map fun p=>(p.1 - lo,p.2 - hi)) (by rw [List.length_map];lia)
 rw [Bd,List.map_map] at hm
 have e:(prD ∘ fun p:Int × Int=>(p.1 - lo,p.2 - hi)) = fun p=>prD (p.1 - lo,p.2 - hi):=rfl
 rw [e] at hm
 try simp at hm
 try simp at hc
 simp [ii,jM,fnO,ik,hl,hc,hm,shr]
theorem BN (r:R) (lo hi x:Int):Mem (shr r lo hi) x ↔ ∃ p ∈ r,p.1 <= x + lo /\ x + hi <= p.2:=by
 unfold shr
 rw [(fO _).2 x]
 constructor
 ·rintro ⟨q,hq,h1,h2⟩
  obtain ⟨p,hp,rfl⟩:=List.mem_map.mp hq
  dsimp only at h1 h2
  exact ⟨p,hp,by lia,by lia⟩
 ·rintro ⟨p,hp,h1,h2⟩
  exact ⟨_,List.mem_map.mpr ⟨p,hp,rfl⟩,by dsimp only;lia,by dsimp only;lia⟩
theorem CK (r:R) (lo hi:Int):bw (shr r lo hi):=(fO _).1
theorem Gj (r:R) (lo hi:Int):(shr r lo hi).length <= r.length:=by
 have:=wT (r.map fun p=>(p.1 - lo,p.2 - hi))
 rw [List.length_map] at this
 exact this
def Ix (P:Int -> Int -> Prop) (b:Blk) (x y:Int):Prop:=∀ dx dy,jq b dx dy -> P (x + dx) (y + dy)
theorem mR {r:R} (c:bw r) {i j:Nat} {p q:Int × Int} (hi:r[i]? = some p) (hj:r[j]? = some q) (hij:i < j):p.2 + 2 <= q.1:=by
 obtain ⟨h1,rfl⟩:=List.getElem?_eq_some_iff.mp hi
 obtain ⟨h2,rfl⟩:=List.getElem?_eq_some_iff.mp hj
 exact List.pairwise_iff_getElem.mp c.2 i j h1 h2 hij
theorem Ay {r:R} (c:bw r) {u v:Int} (h:u <= v) (hm:∀ z,u <= z -> z <= v -> Mem r z):∃ s ∈ r,s.1 <= u /\ v <= s.2:=by
 obtain ⟨s,hs,h1,h2⟩:=hm u (Int.le_refl _) h
 refine ⟨s,hs,h1,?_⟩
 by_cases hv:v <= s.2
 ·exact hv
 ·obtain ⟨t,ht,k1,k2⟩:=hm (s.2 + 1) (by lia) (by lia)
  obtain ⟨i,hi⟩:=List.getElem?_of_mem hs
  obtain ⟨j,hj⟩:=List.getElem?_of_mem ht
  rcases Nat.lt_trichotomy i j with hij | hij | hij
  ·have:=mR c hi hj hij
   lia
  ·subst hij
   rw [hi] at hj
   cases hj
   lia
  ·have:=mR c hj hi hij
   have:=c.1 s hs
   lia
def JU (p:Pic) (u v y:Int):Prop:=∃ q ∈ p,q.1 = y /\ ∃ s ∈ q.2,s.1 <= u /\ v <= s.2
theorem ES {p:Pic} (c:aA p) {u v y:Int} (h:u <= v):JU p u v y ↔ ∀ z,u <= z -> z <= v -> aP p z y:=by
 constructor
 ·rintro ⟨q,hq,e,s,hs,h1,h2⟩ z k1 k2
  exact ⟨q,hq,e,s,hs,by lia,by lia⟩
 ·intro hm
  have hr:=jr c y
  obtain ⟨s,hs,h1,h2⟩:=Ay hr h fun z k1 k2=>(qO c z y).mpr (hm z k1 k2)
  obtain ⟨q,hq,e,_⟩:=hm u (Int.le_refl _) h
  refine ⟨q,hq,e,s,?_,h1,h2⟩
  rw [<- e,lW c hq] at hs
  exact hs
def vA (p:Pic) (b:Blk):Pic:=(p.map fun q=>(q.1 - b.2.1,shr q.2 b.1 b.2.2.1)).filter ir
theorem Bg {p:Pic} (c:aA p) (b:Blk):aA (vA p b):=by
 refine ⟨fun q hq=>?_,?_⟩
 ·obtain ⟨h1,h2⟩:=List.mem_filter.mp hq
  obtain ⟨z,hz,rfl⟩:=List.mem_map.mp h1
  exact ⟨CK _ _ _,by simpa [ir] using h2⟩
 ·refine List.Pairwise.filter _ ?_
  rw [List.pairwise_map]
  exact c.2.imp fun {s t} h=>by dsimp only;lia
theorem Ae {p:Pic} (c:aA p) {b:Blk} (hb:b.1 <= b.2.2.1) (x y:Int):aP (vA p b) x y ↔ ∀ dx,b.1 <= dx -> dx <= b.2.2.1 -> aP p (x + dx) (y + b.2.1):=by
 have h1:aP (vA p b) x y ↔ JU p (x + b.1) (x + b.2.2.1) (y + b.2.1):=by
  constructor
  ·rintro ⟨q,hq,e,hm⟩
   obtain ⟨z,hz,rfl⟩:=List.mem_map.mp (List.mem_filter.mp hq).1
   dsimp only at e hm
   obtain ⟨s,hs,k1,k2⟩:=(BN _ _ _ _).mp hm
   exact ⟨z,hz,by lia,s,hs,k1,k2⟩
  ·rintro ⟨z,hz,e,s,hs,k1,k2⟩
   have hm:Mem (shr z.2 b.1 b.2.2.1) x:=(BN _ _ _ _).mpr ⟨s,hs,k1,k2⟩
   refine ⟨(z.1 - b.2.1,shr z.2 b.1 b.2.2.1),List.mem_filter.mpr ⟨List.mem_map.mpr ⟨z,hz,rfl⟩,?_⟩,by dsimp only;lia,hm⟩
   unfold ir
   rw [Bool.not_eq_true',decide_eq_false_iff_not]
   intro e'
   dsimp only at e'
   rw [e'] at hm
   exact br _ hm
 rw [h1,ES c (by lia)]
 constructor
 ·intro h dx k1 k2
  exact h (x + dx) (by lia) (by lia)
 ·intro h z k1 k2
  have:=h (z - x) (by lia) (by lia)
  rwa [show x + (z - x) = z by lia] at this
theorem ku {f:Int × R -> Int × R}:∀ p:Pic,(∀ q ∈ p,(f q).2.length <= q.2.length) -> (ak (p.map f)).length <= (ak p).length
 | [],_=>Nat.le_refl _
 | q :: p,h=>by
  have h1:=ku p fun s hs=>h s (List.mem_cons_of_mem _ hs)
  have h2:=h q List.mem_cons_self
  rw [List.map_cons,bu,bu,List.length_append,List.length_append,List.length_map,List.length_map]
  lia
theorem FF (p:Pic) (b:Blk):(vA p b).length <= p.length /\ (ak (vA p b)).length <= (ak p).length:=by
 unfold vA
 rw [f8]
 refine ⟨?_,ku p fun q _=>Gj _ _ _⟩
 have:=List.length_filter_le ir (p.map fun q=>(q.1 - b.2.1,shr q.2 b.1 b.2.2.1))
 rwa [List.length_map] at this
theorem za:∀ (q p:Pic),p.Pairwise (fun s t=>s.1 < t.1) -> (p.map fun s=>(bQ q s.1).length).sum <= (ak q).length
 | [],p,_=>by
  have:∀ p:Pic,(p.map fun s=>(bQ [] s.1).length).sum = 0:=by
   intro p
   induction p with
   | nil=>rfl
   | cons s p ih=>rw [List.map_cons,List.sum_cons,ih];rfl
  rw [this]
  exact Nat.zero_le _
 | t :: q,p,hp=>by
  have ih:=za q p hp
  have key:∀ p:Pic,p.Pairwise (fun s t=>s.1 < t.1) -> (p.map fun s=>(bQ (t :: q) s.1).length).sum <= t.2.length + (p.map fun s=>(bQ q s.1).length).sum /\ ((∀ s ∈ p,t.1 ≠ s.1) -> (p.map fun s=>(bQ (t :: q) s.1).length).sum <= (p.map fun s=>(bQ q s.1).length).sum):=by
   intro p
   induction p with
   | nil=>intro _;simp
   | cons s p ihp=>
    intro hp
    obtain ⟨k1,k2⟩:=List.pairwise_cons.mp hp
    obtain ⟨i1,i2⟩:=ihp k2
    have er:bQ (t :: q) s.1 = if t.1 = s.1 then t.2 else bQ q s.1:=by
     unfold bQ
     rw [List.find?_cons]
     by_cases h:t.1 = s.1 <;> simp [h]
    simp only [List.map_cons,List.sum_cons,er]
    by_cases h:t.1 = s.1
    ·rw [if_pos h]
     refine ⟨?_,fun hn=>absurd h (hn s List.mem_cons_self)⟩
     have:=i2 fun z hz e=>by have:=k1 z hz;lia
     lia
    ·rw [if_neg h]
     refine ⟨by lia,fun hn=>?_⟩
     have:=i2 fun z hz=>hn z (List.mem_cons_of_mem _ hz)
     lia
  have:=(key p hp).1
  rw [bu,List.length_append,List.length_map]
  lia
theorem FY {p q:Pic} (cp:aA p):(ak (cmP p q)).length <= (ak p).length + (ak q).length:=by
 have h1:=za q p cp.2
 have key:∀ p:Pic,(ak (p.map fun s=>(s.1,ez s.2 (bQ q s.1)))).length <= (ak p).length + (p.map fun s=>(bQ q s.1).length).sum:=by
  intro p
  induction p with
  | nil=>simp [ak]
  | cons s p ih=>
   have:=zC _ s.2 (bQ q s.1) rfl
   rw [List.map_cons,bu,bu,List.length_append,List.length_append,List.length_map,List.length_map,List.map_cons,List.sum_cons]
   dsimp only
   lia
 unfold cmP wG
 rw [f8]
 have:=key p
 lia
theorem Cb (p q:Pic):(cmP p q).length <= p.length:=by
 unfold cmP wG
 have:=List.length_filter_le ir (p.map fun s=>(s.1,ez s.2 (bQ q s.1)))
 rwa [List.length_map] at this
theorem qP (p:Pic) (c:aA p) (n:Nat) (hp:p.length <= 10000) (hs:(2 * n + 1) * (ak p).length <= 10000):∃ q:Pic,gN [av p,.int (n:Int)] = some (av q) /\ aA q /\ q.length <= p.length /\ (ak q).length <= (2 * n + 1) * (ak p).length /\ ∀ x y,aP q x y ↔ ∀ j:Int,0 <= j -> j <= n -> aP p x (y + j):=by
 obtain ⟨ρ',k1,q,v2,v3,rfl,a1,a2,a3,a4⟩:=kK (c:=dt) (m:=fe)
  (fun ρ=>∃ (q:Pic) (k:Nat) (v3:Sl),ρ = [.sh (av q),.sh (.int (n:Int)),.sh (.int (k:Int)),v3] /\ k <= n /\ aA q /\ q.length <= p.length /\ ((ak q).length <= (k + 1) * (ak p).length \/ (k = n /\ (ak q).length <= (2 * n + 1) * (ak p).length)) /\ (k = 0 -> (ak q).length <= (ak p).length) /\ ∀ x y,aP q x y ↔ ∀ j:Int,0 <= j -> j <= k -> aP p x (y + j))
  (fun ρ=>match ρ with | [_,.sh (.int n),.sh (.int k),_]=>(n - k).toNat | _=>0)
  (fun ρ=>∃ (q:Pic) (v2 v3:Sl),ρ = [.sh (av q),.sh (.int (n:Int)),v2,v3] /\ aA q /\ q.length <= p.length /\ (ak q).length <= (2 * n + 1) * (ak p).length /\ ∀ x y,aP q x y ↔ ∀ j:Int,0 <= j -> j <= n -> aP p x (y + j))
  (by
   rintro _ ⟨q,k,v3,rfl,hk,c',hl,hsz,h0,hm⟩
   by_cases hc:k < n
   ·right
    have hc':(k:Int) < n:=by lia
    refine ⟨by simp [dt,hc'],?_⟩
    have hsz':(ak q).length <= (k + 1) * (ak p).length:=hsz.elim id fun h=>by lia
    generalize hst:(if (n:Int) - k < (k:Int) + 1 then (n:Int) - k else (k:Int) + 1) = st
    have hst1:1 <= st /\ st <= k + 1 /\ st <= n - k /\ (st = k + 1 \/ st = n - k):=by rw [<- hst];split <;> lia
    have e1:(k + 1) * (ak p).length <= (2 * n + 1) * (ak p).length:=Nat.mul_le_mul_right _ (by lia)
    have lq:(ak q).length <= 10000:=by lia
    have mv:=tT q 0 (-st) (by lia) fun z hz=>by have:=e8 hz;lia
    have cmv:=C9 c' 0 (-st)
    have lmv:(mvP q 0 (-st)).length = q.length:=by unfold mvP;rw [List.length_map]
    have smv:=EE q 0 (-st)
    have cm:=rP (p:=q) (q:=mvP q 0 (-st)) cmv (by lia) (by lia) (by lia)
    have scm:=FY (p:=q) (q:=mvP q 0 (-st)) c'
    have rcm:=Cb q (mvP q 0 (-st))
    have ek:(((k + st.toNat:Nat)):Int) = (k:Int) + st:=by lia
    refine ⟨[.sh (av (cmP q (mvP q 0 (-st)))),.sh (.int (n:Int)),.sh (.int ((k + st.toNat:Nat):Int)),.sh (.int st)],?_,⟨cmP q (mvP q 0 (-st)),k + st.toNat,_,rfl,by lia,wA c' cmv,by lia,?_,fun z=>by lia,fun x y=>?_⟩,by dsimp only;lia⟩
    ·rw [ek]
     simp [fe,hst,mv,cm]
    ·rcases hst1.2.2.2 with e | e
     ·left
      have e2:(k + st.toNat + 1) * (ak p).length = (k + 1) * (ak p).length + (k + 1) * (ak p).length:=by
       rw [<- Nat.add_mul]
       congr 1
       lia
      lia
     ·right
      have e2:(k + 1) * (ak p).length + (k + 1) * (ak p).length <= (2 * n + 1) * (ak p).length:=by
       rw [<- Nat.add_mul]
       exact Nat.mul_le_mul_right _ (by lia)
      exact ⟨by lia,by lia⟩
    ·rw [Cc c' cmv,CH,hm,hm,show x - 0 = x by lia,show y - -st = y + st by lia]
     constructor
     ·rintro ⟨g1,g2⟩ j j0 j1
      by_cases hj:j <= k
      ·exact g1 j j0 hj
      ·have:=g2 (j - st) (by lia) (by lia)
       rwa [show y + st + (j - st) = y + j by lia] at this
     ·intro g
      refine ⟨fun j j0 j1=>g j j0 (by lia),fun j j0 j1=>?_⟩
      have:=g (st + j) (by lia) (by lia)
      rwa [show y + (st + j) = y + st + j by lia] at this
   ·left
    have ek:k = n:=by lia
    subst ek
    refine ⟨by simp [dt],q,_,_,rfl,c',hl,?_,hm⟩
    rcases hsz with h | h
    ·have:(k + 1) * (ak p).length <= (2 * k + 1) * (ak p).length:=Nat.mul_le_mul_right _ (by lia)
     lia
    ·exact h.2)
  [.sh (av p),.sh (.int (n:Int)),.sh (.int 0),.un] ⟨p,0,.un,rfl,by lia,c,Nat.le_refl _,.inl (by lia),fun _=>Nat.le_refl _,fun x y=>⟨fun h j j0 j1=>by rwa [show y + j = y by lia],fun h=>by have:=h 0 (by lia) (by lia);rwa [show y + 0 = y by lia] at this⟩⟩
 exact ⟨q,by simp [gN,jc,fnO,gP,k1],a1,a2,a3,a4⟩
theorem gu (p:Pic) (c:aA p) (b:Blk) (hb:BOk b) (n:Nat) (hn:b.2.2.2 - b.2.1 = n) (hp:p.length <= 1000) (hs:(2 * n + 1) * (ak p).length <= 10000) (hr:∀ q ∈ p,q.2.length <= 1000):∃ q:Pic,dc [av p,b8 b] = some (av q) /\ aA q /\ q.length <= p.length /\ (ak q).length <= (2 * n + 1) * (ak p).length /\ ∀ x y,aP q x y ↔ Ix (aP p) b x y:=by
 have hl:p.length <= LIM:=aW (by lia)
 have hc:b7 (bn (ar (ai 0) (ar (ai 1) bg))) dW (a9 (af (xOp kq (ah 0) (xOp dIx (ah 2) (xC (.int 1)))) (af (aG ii (af (aq 1) (af (xOp dIx (ah 2) (xC (.int 0))) (af (xOp dIx (ah 2) (xC (.int 2))) ap)))) ap))) [.un,.un,.sh (b8 b)] (p.map pyD) = some ((p.map fun q=>(q.1 - b.2.1,shr q.2 b.1 b.2.2.1)).map pyD):=by
  rw [List.map_map]
  exact bA pyD (fun q=>pyD (q.1 - b.2.1,shr q.2 b.1 b.2.2.1)) p fun q hq=>by
   have a:=sD q.2 b.1 b.2.2.1 (hr q hq)
   simp [fP,a,atI,ixN]
 have hm:=d9 (p.map fun q=>(q.1 - b.2.1,shr q.2 b.1 b.2.2.1)) (by rw [List.length_map];lia)
 have hnl:=FF p b
 have e1:(2 * n + 1) * (ak (vA p b)).length <= (2 * n + 1) * (ak p).length:=Nat.mul_le_mul_left _ hnl.2
 obtain ⟨q,a1,a2,a3,a4,a5⟩:=qP (vA p b) (Bg c b) n (by lia) (by lia)
 refine ⟨q,?_,a2,by lia,by lia,fun x y=>?_⟩
 ·have a1':gN [av (vA p b),.int (b.2.2.2 - b.2.1)] = some (av q):=by rw [hn];exact a1
  have hm':bO [.lst ((p.map fun q=>(q.1 - b.2.1,shr q.2 b.1 b.2.2.1)).map pyD)] = some (av (vA p b)):=hm
  generalize (p.map fun q=>(q.1 - b.2.1,shr q.2 b.1 b.2.2.1)).map pyD = zs at hc hm'
  simp [dc,eP,fnO,dg,hl,hc,hm',a1',atI,ixN]
 ·rw [a5]
  constructor
  ·intro h dx dy hd
   have h1:=(Ae c hb.1 x (y + (dy - b.2.1))).mp (h (dy - b.2.1) (by have:=hd.2.2.1;lia) (by have:=hd.2.2.2;lia)) dx hd.1 hd.2.1
   rwa [show y + (dy - b.2.1) + b.2.1 = y + dy by lia] at h1
  ·intro h j j0 j1
   rw [Ae c hb.1]
   intro dx d0 d1
   have:=h dx (j + b.2.1) ⟨d0,d1,by lia,by lia⟩
   rwa [show y + (j + b.2.1) = y + j + b.2.1 by lia] at this
theorem uX {α:Type} (l:List α) (k:α -> Int) (enc:α -> D) (f g:Int) (he:∀ a,dIx (enc a) (.int 0) = some (.int (k a))) (hl:l.length <= 100000) (pw:l.Pairwise fun a b=>k a < k b) :
  ∃ l':List α,bC [.tup (l.map enc),.int f,.int g] = some (.tup (l'.map enc)) /\ l'.Sublist l /\ ∀ a ∈ l,k a <= g -> (∀ b ∈ l,k a < k b -> f < k b) -> a ∈ l':=by
 obtain ⟨n1,a1,b1,c1⟩:=gI l k enc f he hl pw
 obtain ⟨n2,a2,b2,c2⟩:=gI l k enc g he hl pw
 refine ⟨jO l (some ((n1 - 1:Nat):Int)) (some (n2:Int)),?_,?_,fun a ha hg hb=>?_⟩
 ·have e1:(if ((n1:Int) - 1) > 0 then (n1:Int) - 1 else 0) = ((n1 - 1:Nat):Int):=by split <;> lia
  have e1':(if 1 < n1 then (n1:Int) - 1 else 0) = ((n1 - 1:Nat):Int):=by split <;> lia
  have e1'':(if (1:Int) < (n1:Int) then (n1:Int) - 1 else 0) = ((n1 - 1:Nat):Int):=by split <;> lia
  simp [bC,gE,fnO,ft,b1,b2,CG,e1,e1',e1'',dSl]
 ·unfold jO
  exact (List.take_sublist _ _).trans (List.drop_sublist _ _)
 ·obtain ⟨i,hi⟩:=List.getElem?_of_mem ha
  have hil:=(List.getElem?_eq_some_iff.mp hi).1
  have h2:=(c2 i a hi).mp hg
  have h1:n1 - 1 <= i:=by
   by_cases h:n1 - 1 <= i
   ·exact h
   ·exfalso
    obtain ⟨b,hb'⟩:∃ b,l[i + 1]? = some b:=⟨_,List.getElem?_eq_getElem (show i + 1 < l.length by lia)⟩
    have h3:=(c1 (i + 1) b hb').mpr (by lia)
    obtain ⟨l1,e1⟩:=List.getElem?_eq_some_iff.mp hi
    obtain ⟨l2,e2⟩:=List.getElem?_eq_some_iff.mp hb'
    have h4:=List.pairwise_iff_getElem.mp pw i (i + 1) l1 l2 (by lia)
    rw [e1,e2] at h4
    have:=hb b (List.mem_of_getElem? hb') h4
    lia
  unfold jO
  rw [Cm (by lia),Cm (by lia),Int.toNat_natCast,Int.toNat_natCast,Nat.min_eq_left (by lia:n1 - 1 <= l.length),Nat.min_eq_left a2]
  refine List.mem_of_getElem? (i:=i - (n1 - 1)) ?_
  rw [List.getElem?_take_of_lt (by lia),List.getElem?_drop,show n1 - 1 + (i - (n1 - 1)) = i by lia]
  exact hi
theorem E2 {r:R} (c:bw r) (h:r.length <= 100000) (f g:Int):∃ r':R,bC [dr r,.int f,.int g] = some (dr r') /\ r'.Sublist r /\ ∀ x,f <= x -> x <= g -> Mem r x -> Mem r' x:=by
 have pw:r.Pairwise fun a b=>a.1 < b.1:=by
  refine List.Pairwise.imp_of_mem ?_ c.2
  intro p q hp _ h
  have:=c.1 p hp
  lia
 obtain ⟨r',h1,h2,h3⟩:=uX r (·.1) prD f g (fun a=>by simp) h pw
 refine ⟨r',h1,h2,fun x hf hg ⟨q,hq,k1,k2⟩=>⟨q,h3 q hq (by lia) fun b hb hlt=>?_,k1,k2⟩⟩
 obtain ⟨i,hi⟩:=List.getElem?_of_mem hq
 obtain ⟨j,hj⟩:=List.getElem?_of_mem hb
 rcases Nat.lt_trichotomy i j with hij | hij | hij
 ·have:=mR c hi hj hij
  lia
 ·subst hij
  rw [hi] at hj
  cases hj
  lia
 ·have:=mR c hj hi hij
  have:=c.1 b hb
  have:=c.1 q hq
  lia
theorem Dh {r r':R} (c:bw r) (s:r'.Sublist r):bw r':=⟨fun q hq=>c.1 q (s.subset hq),c.2.sublist s⟩
theorem Cr:∀ (l:List Int),∀ x ∈ l,j8 l <= x
 | [],_,h=>by cases h
 | [a],x,h=>by rw [List.mem_singleton.mp h];exact Int.le_refl _
 | a :: b :: l,x,h=>by
  rw [w6]
  rcases List.mem_cons.mp h with rfl | h
  ·lia
  ·have:=Cr (b :: l) x h
   lia
theorem Ck:∀ (l:List Int),∀ x ∈ l,x <= lL l
 | [],_,h=>by cases h
 | [a],x,h=>by rw [List.mem_singleton.mp h];exact Int.le_refl _
 | a :: b :: l,x,h=>by
  have e:lL (a :: b :: l) = max a (lL (b :: l)):=rfl
  rw [e]
  rcases List.mem_cons.mp h with rfl | h
  ·lia
  ·have:=Ck (b :: l) x h
   lia
def r8 (p:Pic):List Int:=p.map fun q=>(q.2.head?.getD (0,0)).1
def me (p:Pic):List Int:=p.map fun q=>(q.2.getLast?.getD (0,0)).2
theorem CN (p:Pic) (hn:∀ q ∈ p,q.2 ≠ []):b7 (bn (ar (ai 0) (ar (ai 1) bg))) dW (xOp dIx (xOp dIx (ah 1) (xC (.int 0))) (xC (.int 0))) [.un,.un] (p.map pyD) = some ((r8 p).map D.int):=by
 unfold r8
 rw [List.map_map]
 refine bA pyD _ p fun q hq=>?_
 obtain ⟨y,r⟩:=q
 cases r with
 | nil=>exact absurd rfl (hn _ hq)
 | cons a r=>
  have f0:atI (prD a :: r.map prD) 0 = some (prD a):=kE (j:=0) rfl
  have f1:atI [D.int a.1,D.int a.2] 0 = some (.int a.1):=kE (j:=0) rfl
  simp [fP,f0,f1]
theorem BI (p:Pic) (hn:∀ q ∈ p,q.2 ≠ []):b7 (bn (ar (ai 0) (ar (ai 1) bg))) dW (xOp dIx (xOp dIx (ah 1) (xUn fc (xC (.int 1)))) (xC (.int 1))) [.un,.un] (p.map pyD) = some ((me p).map D.int):=by
 unfold me
 rw [List.map_map]
 refine bA pyD _ p fun q hq=>?_
 obtain ⟨y,r⟩:=q
 rcases List.eq_nil_or_concat r with rfl | ⟨r0,a,rfl⟩
 ·exact absurd rfl (hn _ hq)
 ·have f0:atI ((r0 ++ [a]).map prD) (-1) = some (prD a):=by
   unfold atI
   rw [List.length_map,List.length_append,List.length_singleton,mw]
   simp
  have f1:atI [D.int a.1,D.int a.2] 1 = some (.int a.2):=kE (j:=1) rfl
  rw [List.map_append] at f0
  simp at f0
  simp [fP,f0,f1]
theorem AJ {r:R} (c:bw r) {q:Int × Int} (hq:q ∈ r):(r.head?.getD (0,0)).1 <= q.1:=by
 cases r with
 | nil=>cases hq
 | cons a r=>
  rcases List.mem_cons.mp hq with rfl | hq
  ·exact Int.le_refl _
  ·have:=(canon_cons.mp c).2.1 q hq
   have:=(canon_cons.mp c).1
   show a.1 <= q.1
   lia
theorem AC {r:R} (c:bw r) {q:Int × Int} (hq:q ∈ r):q.2 <= (r.getLast?.getD (0,0)).2:=by
 rcases List.eq_nil_or_concat r with rfl | ⟨r0,a,rfl⟩
 ·cases hq
 ·rw [List.concat_eq_append] at *
  have e:((r0 ++ [a]).getLast?.getD (0,0)) = a:=by simp
  rw [e]
  rcases List.mem_append.mp hq with hq | hq
  ·obtain ⟨_,h1,h2⟩:=canon_snoc.mp c
   have:=h2 q hq
   lia
  ·rw [List.mem_singleton.mp hq]
   exact Int.le_refl _
theorem y8 (p:Pic) (c:aA p) (hne:p ≠ []) (h:p.length <= 30000):∃ l t r b:Int,uF [av p] = some (.tup [.int l,.int t,.int r,.int b]) /\ ∀ x y,aP p x y -> l <= x /\ x <= r /\ t <= y /\ y <= b:=by
 have hn:∀ q ∈ p,q.2 ≠ []:=fun q hq=>(c.1 q hq).2
 have c1:=CN p hn
 have c2:=BI p hn
 have hl:p.length <= LIM:=aW (by lia)
 have hpos:0 < p.length:=List.length_pos_iff.mpr hne
 have l1:(r8 p).length = p.length:=by unfold r8;rw [List.length_map]
 have l2:(me p).length = p.length:=by unfold me;rw [List.length_map]
 have hml:zt [.lst ((r8 p).map D.int)] = some (.int (j8 (r8 p))):=by
  unfold zt
  simp only [jZ,Option.bind_some]
  rw [if_pos (by lia)]
 have hmh:Ax [.lst ((me p).map D.int)] = some (.int (lL (me p))):=by
  unfold Ax
  simp only [jZ,Option.bind_some]
  rw [if_pos (by lia)]
 obtain ⟨q0,h0⟩:∃ q,p[0]? = some q:=⟨_,List.getElem?_eq_getElem hpos⟩
 obtain ⟨q1,h1⟩:∃ q,p.getLast? = some q:=by
  cases e:p.getLast? with
  | none=>exact absurd (List.getLast?_eq_none_iff.mp e) hne
  | some q=>exact ⟨q,rfl⟩
 have f0:atI (p.map pyD) 0 = some (pyD q0):=kE (j:=0) (by rw [List.getElem?_map,h0];rfl)
 have f1:atI (p.map pyD) (-1) = some (pyD q1):=by
  obtain ⟨Y,rfl⟩:=List.getLast?_eq_some_iff.mp h1
  rw [List.map_append]
  exact gR _ _
 have g0:∀ (y:Int) (d:D),atI [D.int y,d] 0 = some (.int y):=fun y d=>kE (j:=0) rfl
 have d0:dEq false (av p) (.tup []) = some (.bl false):=by
  cases p with
  | nil=>exact absurd rfl hne
  | cons q p=>
   unfold dEq
   rw [if_pos ⟨tq _,by simp [okD,okDs]⟩]
   simp [eqD,eqDs]
 refine ⟨j8 (r8 p),q0.1,lL (me p),q1.1,?_,fun x y hm=>?_⟩
 ·generalize hP:p.map pyD = Pd at *
  have hPl:Pd.length <= LIM:=by rw [<- hP,List.length_map];exact hl
  simp [uF,qy,fnO,pI,hP,d0,c1,c2,hPl,hml,hmh,f0,f1,g0]
 ·obtain ⟨q,hq,rfl,s,hs,k1,k2⟩:=hm
  have cq:=(c.1 q hq).1
  have e1:=Cr (r8 p) _ (List.mem_map.mpr ⟨q,hq,rfl⟩)
  have e2:=Ck (me p) _ (List.mem_map.mpr ⟨q,hq,rfl⟩)
  have e3:=AJ cq hs
  have e4:=AC cq hs
  refine ⟨by lia,by lia,?_,?_⟩
  ·cases p with
   | nil=>exact absurd rfl hne
   | cons a p=>
    cases h0
    rcases List.mem_cons.mp hq with rfl | hq
    ·exact Int.le_refl _
    ·have:=(pcanon_cons.mp c).2.1 q hq
     lia
  ·obtain ⟨Y,rfl⟩:=List.getLast?_eq_some_iff.mp h1
   rcases List.mem_append.mp hq with hq | hq
   ·have:=(List.pairwise_append.mp c.2).2.2 q hq q1 (by simp)
    lia
   ·rw [List.mem_singleton.mp hq]
    exact Int.le_refl _
theorem Gf {l m:List Nat} (h:l.Sublist m):l.sum <= m.sum:=by
 induction h with
 | slnil=>exact Nat.le_refl _
 | cons a _ ih=>rw [List.sum_cons];lia
 | cons_cons a _ ih=>rw [List.sum_cons,List.sum_cons];lia
theorem zk (p:Pic) (c:aA p) (hr:∀ q ∈ p,q.2.length <= 1000) (f g:Int):∃ part:Int × R -> R,∀ q ∈ p,bC [dr q.2,.int f,.int g] = some (dr (part q)) /\ (part q).Sublist q.2 /\ ∀ x,f <= x -> x <= g -> Mem q.2 x -> Mem (part q) x:=by
 have h:∀ q:Int × R,∃ r:R,q ∈ p -> bC [dr q.2,.int f,.int g] = some (dr r) /\ r.Sublist q.2 /\ ∀ x,f <= x -> x <= g -> Mem q.2 x -> Mem r x:=fun q=>by
  by_cases hq:q ∈ p
  ·obtain ⟨r,h1⟩:=E2 (c.1 q hq).1 (by have:=hr q hq;lia) f g
   exact ⟨r,fun _=>h1⟩
  ·exact ⟨[],fun z=>absurd z hq⟩
 exact ⟨fun q=>(h q).choose,fun q hq=>(h q).choose_spec hq⟩
theorem ye (p:Pic) (c:aA p) (hp:p.length <= 1000) (hr:∀ q ∈ p,q.2.length <= 1000) (l t r b:Int) (k:Blk):∃ q:Pic,rD [av p,.tup [.int l,.int t,.int r,.int b],b8 k] = some (av q) /\ aA q /\ q.length <= p.length /\ (ak q).length <= (ak p).length /\ (∀ s ∈ q,s.2.length <= 1000) /\ (∀ x y,aP q x y -> aP p x y) /\
  ∀ x y,l + k.1 <= x -> x <= r + k.2.2.1 -> t + k.2.1 <= y -> y <= b + k.2.2.2 -> aP p x y -> aP q x y:=by
 obtain ⟨p',h1,h2,h3⟩:=uX p (·.1) pyD (t + k.2.1) (b + k.2.2.2) (fun a=>by simp) (by lia) c.2
 have c':aA p':=⟨fun q hq=>c.1 q (h2.subset hq),c.2.sublist h2⟩
 obtain ⟨part,hpart⟩:=zk p c hr (l + k.1) (r + k.2.2.1)
 have hl':p'.length <= p.length:=h2.length_le
 have hlim:p'.length <= LIM:=aW (by lia)
 have hc:b7 (bn (ar (ai 0) (ar (ai 1) bg))) dW (a9 (af (aq 0) (af (aG bC (af (aq 1) (af (xOp bK (xOp dIx (ah 2) (xC (.int 0))) (xOp dIx (ah 3) (xC (.int 0)))) (af (xOp bK (xOp dIx (ah 2) (xC (.int 2))) (xOp dIx (ah 3) (xC (.int 2)))) ap)))) ap))) [.un,.un,.sh (.tup [.int l,.int t,.int r,.int b]),.sh (b8 k)] (p'.map pyD) = some ((p'.map fun q=>(q.1,part q)).map pyD):=by
  rw [List.map_map]
  exact bA pyD (fun q=>pyD (q.1,part q)) p' fun q hq=>by
   have a:=(hpart q (h2.subset hq)).1
   simp [fP,a,atI,ixN]
 have hm:=d9 (p'.map fun q=>(q.1,part q)) (by rw [List.length_map];lia)
 have hsub:∀ q ∈ p',(part q).Sublist q.2:=fun q hq=>(hpart q (h2.subset hq)).2.1
 refine ⟨(p'.map fun q=>(q.1,part q)).filter ir,?_,⟨fun q hq=>?_,?_⟩,?_,?_,fun s hs=>?_,fun x y h=>?_,fun x y x0 x1 y0 y1 h=>?_⟩
 ·have a1:atI [D.int l,.int t,.int r,.int b] 1 = some (.int t):=rfl
  have a3:atI [D.int l,.int t,.int r,.int b] 3 = some (.int b):=rfl
  have b1:atI [D.int k.1,.int k.2.1,.int k.2.2.1,.int k.2.2.2] 1 = some (.int k.2.1):=rfl
  have b3:atI [D.int k.1,.int k.2.1,.int k.2.2.1,.int k.2.2.2] 3 = some (.int k.2.2.2):=rfl
  generalize hz:(p'.map fun q=>(q.1,part q)).map pyD = zs at hc hm
  generalize hz2:p'.map pyD = ps at h1 hc
  have hps:ps.length <= LIM:=by rw [<- hz2,List.length_map];exact hlim
  simp [rD,nM,fnO,mL,a1,a3,b1,b3,h1,hps,hc,hm,yT]
 ·obtain ⟨k1,k2⟩:=List.mem_filter.mp hq
  obtain ⟨z,hz,rfl⟩:=List.mem_map.mp k1
  exact ⟨Dh (c'.1 z hz).1 (hsub z hz),by simpa [ir] using k2⟩
 ·refine List.Pairwise.filter _ ?_
  rw [List.pairwise_map]
  exact c'.2
 ·have:=List.length_filter_le ir (p'.map fun q=>(q.1,part q))
  rw [List.length_map] at this
  lia
 ·rw [f8]
  have e1:=ku (f:=fun q=>(q.1,part q)) p' fun q hq=>(hsub q hq).length_le
  have e2:(ak p').length <= (ak p).length:=by
   unfold ak
   rw [List.length_flatMap,List.length_flatMap]
   exact Gf (h2.map _)
  lia
 ·obtain ⟨z,hz,rfl⟩:=List.mem_map.mp (List.mem_filter.mp hs).1
  have:=(hsub z hz).length_le
  have:=hr z (h2.subset hz)
  dsimp only
  lia
 ·obtain ⟨q,hq,e,s,hs,k1,k2⟩:=h
  obtain ⟨z,hz,rfl⟩:=List.mem_map.mp (List.mem_filter.mp hq).1
  exact ⟨z,h2.subset hz,e,s,(hsub z hz).subset hs,k1,k2⟩
 ·obtain ⟨q,hq,rfl,hmm⟩:=h
  have hq':q ∈ p':=h3 q hq y1 fun b' hb hlt=>by lia
  have hmem:=(hpart q hq).2.2 x x0 x1 hmm
  refine ⟨(q.1,part q),List.mem_filter.mpr ⟨List.mem_map.mpr ⟨q,hq',rfl⟩,?_⟩,rfl,hmem⟩
  unfold ir
  rw [Bool.not_eq_true',decide_eq_false_iff_not]
  intro e'
  dsimp only at e'
  rw [e'] at hmem
  exact br _ hmem
def D1 (p:Pic) (bs:List Blk) (x y:Int):Prop:=∀ b ∈ bs,Ix (aP p) b x y
theorem tL (p:Pic):dEq false (av p) (.tup []) = some (.bl (decide (p = []))):=by
 cases p with
 | nil=>rw [decide_eq_true rfl];exact zU false (d:=.tup []) (by simp [okD,okDs])
 | cons q p=>
  rw [decide_eq_false (by simp)]
  unfold dEq
  rw [if_pos ⟨tq _,by simp [okD,okDs]⟩]
  simp [eqD,eqDs]
theorem Gh {p:Pic} {x y:Int} (h:aP p x y):p ≠ []:=fun e=>by rw [e] at h;exact cP _ _ h
theorem Bw (p:Pic) (c:aA p) (hp:p.length <= 1000) (hr:∀ q ∈ p,q.2.length <= 1000) (s1 v3:Sl) (q:Pic) (cq:aA q) (hq:q.length <= p.length) (b:Blk) (hb:BOk b) (hs:(ak q).length + c6 b * (ak p).length <= 10000) (hne:q ≠ []) :
  ∃ q':Pic,bB [.sh (av p),s1,.sh (av q),.sh (b8 b)] = some (.nx [.sh (av p),s1,.sh (av q'),.sh (b8 b)]) /\ aA q' /\ q'.length <= p.length /\ (ak q').length <= (ak q).length + c6 b * (ak p).length /\ ∀ x y,aP q' x y ↔ aP q x y /\ Ix (aP p) b x y:=by
 obtain ⟨l,t,r,bt,h1,h2⟩:=y8 q cq hne (by lia)
 obtain ⟨z,z1,z2,z3,z4,z5,z6,z7⟩:=ye p c hp hr l t r bt b
 obtain ⟨n,hn⟩:∃ n:Nat,b.2.2.2 - b.2.1 = n:=⟨(b.2.2.2 - b.2.1).toNat,by have:=hb.2;lia⟩
 have eh:c6 b = 2 * n + 1:=by unfold c6;rw [hn];simp
 have e1:(2 * n + 1) * (ak z).length <= c6 b * (ak p).length:=by rw [eh];exact Nat.mul_le_mul_left _ z4
 obtain ⟨w,w1,w2,w3,w4,w5⟩:=gu z z2 b hb n hn (by lia) (by lia) z5
 have cm:=rP (p:=q) (q:=w) w2 (by lia) (by lia) (by lia)
 have d0:=tL q
 rw [decide_eq_false hne] at d0
 refine ⟨cmP q w,?_,wA cq w2,?_,?_,fun x y=>?_⟩
 ·simp [bB,d0,h1,z1,w1,cm]
 ·have:=Cb q w
  lia
 ·have:=FY (p:=q) (q:=w) cq
  lia
 ·rw [Cc cq w2,w5]
  constructor
  ·rintro ⟨g1,g2⟩
   exact ⟨g1,fun dx dy hd=>z6 _ _ (g2 dx dy hd)⟩
  ·rintro ⟨g1,g2⟩
   obtain ⟨x0,x1,y0,y1⟩:=h2 x y g1
   refine ⟨g1,fun dx dy hd=>z7 _ _ ?_ ?_ ?_ ?_ (g2 dx dy hd)⟩
   ·have:=hd.1;lia
   ·have:=hd.2.1;lia
   ·have:=hd.2.2.1;lia
   ·have:=hd.2.2.2;lia
theorem mG (p:Pic) (c:aA p) (bs:List Blk) (hne:bs ≠ []) (hb:∀ b ∈ bs,BOk b) (hp:p.length <= 1000) (hr:∀ q ∈ p,q.2.length <= 1000) (hl:bs.length <= 1000) (hs:highs bs * (ak p).length <= 10000) :
  ∃ q:Pic,dM [av p,.tup (bs.map b8)] = some (av q) /\ aA q /\ q.length <= p.length /\ (ak q).length <= highs bs * (ak p).length /\ ∀ x y,aP q x y ↔ D1 p bs x y:=by
 obtain ⟨cs,b0,rfl⟩:∃ cs b0,bs = cs ++ [b0]:=by
  rcases List.eq_nil_or_concat bs with h | ⟨cs,b0,h⟩
  ·exact absurd h hne
  ·exact ⟨cs,b0,by rw [h,List.concat_eq_append]⟩
 have hh:highs (cs ++ [b0]) = highs cs + c6 b0:=by rw [cu,gJ]
 rw [hh,Nat.add_mul] at hs
 obtain ⟨n,hn⟩:∃ n:Nat,b0.2.2.2 - b0.2.1 = n:=⟨(b0.2.2.2 - b0.2.1).toNat,by have:=(hb b0 (by simp)).2;lia⟩
 have eh:c6 b0 = 2 * n + 1:=by unfold c6;rw [hn];simp
 obtain ⟨q0,w1,w2,w3,w4,w5⟩:=gu p c b0 (hb b0 (by simp)) n hn hp (by rw [<- eh];lia) hr
 rw [<- eh] at w4
 have ec:jO ((cs ++ [b0]).map b8) none (some (-1)) = cs.map b8:=by
  rw [CG]
  congr 1
  unfold jO
  have e1:HT.sIx (cs ++ [b0]).length 0 none = 0:=rfl
  have e2:HT.sIx (cs ++ [b0]).length (cs ++ [b0]).length (some (-1)) = cs.length:=by
   rw [List.length_append,List.length_singleton]
   unfold HT.sIx
   simp
   lia
  rw [e1,e2]
  simp
 have at1:atI ((cs ++ [b0]).map b8) (-1) = some (b8 b0):=by rw [List.map_append];exact gR _ _
 obtain ⟨o,k1,k2⟩:=v8 (g:=ai 3) (m:=bB) b8 (fun pre ρ=>∃ (q:Pic) (v3:Sl),ρ = [.sh (av p),.sh (.tup ((cs ++ [b0]).map b8)),.sh (av q),v3] /\ aA q /\ q.length <= p.length /\ (ak q).length <= (highs pre + c6 b0) * (ak p).length /\ ∀ x y,aP q x y ↔ D1 p (pre ++ [b0]) x y)
  (fun d=>d = .tup [] /\ ∀ x y,¬ D1 p (cs ++ [b0]) x y) (fun _=>False) cs [.sh (av p),.sh (.tup ((cs ++ [b0]).map b8)),.sh (av q0),.un]
  ⟨q0,_,rfl,w2,w3,by have:highs [] = 0:=rfl;rw [this,Nat.zero_add];exact w4,fun x y=>by rw [w5];unfold D1;simp⟩ (by
  rintro pre b post _ e ⟨q,v3,rfl,cq,lq,sq,mq⟩
  have hbm:b ∈ cs:=by rw [e];simp
  have hpre:highs pre + c6 b <= highs cs:=by
   rw [e,cu]
   have:highs (b :: post) = c6 b + highs post:=rfl
   lia
  have hmul:(highs pre + c6 b0) * (ak p).length + c6 b * (ak p).length <= 10000:=by
   have:(highs pre + c6 b0) * (ak p).length + c6 b * (ak p).length = (highs pre + c6 b) * (ak p).length + c6 b0 * (ak p).length:=by
    rw [Nat.add_mul,Nat.add_mul]
    lia
   rw [this]
   have:=Nat.mul_le_mul_right (ak p).length hpre
   lia
  by_cases hq0:q = []
  ·subst hq0
   refine ⟨_,.rt (.tup []),rfl,?_,rfl,fun x y h=>?_⟩
   ·have d0:=tL []
    rw [decide_eq_true rfl] at d0
    simp [bB,d0]
   ·refine cP x y ((mq x y).mpr fun b' hb'=>h b' ?_)
    rw [e]
    rcases List.mem_append.mp hb' with h' | h'
    ·simp [h']
    ·simp [List.mem_singleton.mp h']
  ·obtain ⟨q',t1,t2,t3,t4,t5⟩:=Bw p c hp hr (.sh (.tup ((cs ++ [b0]).map b8))) (.sh (b8 b)) q cq lq b (hb b (List.mem_append_left _ hbm)) (by lia) hq0
   refine ⟨_,_,rfl,t1,q',_,rfl,t2,t3,?_,fun x y=>?_⟩
   ·rw [cu,gJ]
    have:(highs pre + c6 b + c6 b0) * (ak p).length = (highs pre + c6 b0) * (ak p).length + c6 b * (ak p).length:=by
     rw [Nat.add_mul,Nat.add_mul,Nat.add_mul]
     lia
    lia
   ·rw [t5,mq]
    unfold D1
    constructor
    ·rintro ⟨g1,g2⟩ b' hb'
     rcases List.mem_append.mp hb' with h' | h'
     ·rcases List.mem_append.mp h' with h' | h'
      ·exact g1 b' (List.mem_append_left _ h')
      ·rw [List.mem_singleton.mp h'];exact g2
     ·exact g1 b' (List.mem_append_right _ h')
    ·intro g
     refine ⟨fun b' hb'=>g b' ?_,g b (by simp)⟩
     rcases List.mem_append.mp hb' with h' | h'
     ·simp [h']
     ·simp [List.mem_singleton.mp h'])
 have hlim:(cs ++ [b0]).length <= LIM:=aW (by lia)
 cases o with
 | nx ρ'=>
  rcases k2 with ⟨q,v3,rfl,cq,lq,sq,mq⟩ | h
  ·refine ⟨q,?_,cq,lq,by rw [hh];exact sq,mq⟩
   generalize (cs ++ [b0]).map b8 = Bs at *
   simp [dM,df,fnO,cz,at1,w1,dSl,ec,yT,k1]
  ·exact h.elim
 | rt d=>
  obtain ⟨rfl,hno⟩:=k2
  refine ⟨[],?_,kv,Nat.zero_le _,Nat.zero_le _,fun x y=>⟨fun h=>(cP _ _ h).elim,fun h=>(hno x y h).elim⟩⟩
  generalize (cs ++ [b0]).map b8 = Bs at *
  simp [dM,df,fnO,cz,at1,w1,dSl,ec,yT,k1]
 | ct _=>exact k2.elim
 | bk _=>exact k2.elim
 | ro _=>exact k2.elim
theorem E6 (p:Pic) (bs:List Blk) (x y:Int):D1 p bs x y ↔ ∀ u v,vU bs u v -> aP p (x + u) (y + v):=by
 constructor
 ·rintro h u v ⟨b,hb,hm⟩
  exact h b hb u v hm
 ·intro h b hb u v hm
  exact h u v ⟨b,hb,hm⟩
def xy (p:Pic) (ps:List (List Blk)) (x y:Int):Prop:=∀ u v,Off ps u v -> aP p (x + u) (y + v)
theorem Az (ps:List (List Blk)) (bs:List Blk) (x y:Int):Off (ps ++ [bs]) x y ↔ ∃ u v,Off ps u v /\ vU bs (x - u) (y - v):=by
 induction ps generalizing x y with
 | nil=>
  constructor
  ·rintro ⟨u,v,h1,h2,h3⟩
   exact ⟨0,0,⟨rfl,rfl⟩,by rwa [show x - 0 = u by lia,show y - 0 = v by lia]⟩
  ·rintro ⟨u,v,⟨rfl,rfl⟩,h⟩
   exact ⟨x - 0,y - 0,h,by lia,by lia⟩
 | cons a ps ih=>
  constructor
  ·rintro ⟨u,v,h1,h2⟩
   obtain ⟨u',v',h3,h4⟩:=(ih _ _).mp h2
   exact ⟨u + u',v + v',⟨u,v,h1,by rwa [show u + u' - u = u' by lia,show v + v' - v = v' by lia]⟩,by rwa [show x - (u + u') = x - u - u' by lia,show y - (v + v') = y - v - v' by lia]⟩
  ·rintro ⟨u,v,⟨u',v',h1,h3⟩,h2⟩
   exact ⟨u',v',h1,(ih _ _).mpr ⟨u - u',v - v',h3,by rwa [show x - u' - (u - u') = x - u by lia,show y - v' - (v - v') = y - v by lia]⟩⟩
def xk (ps:List (List Blk)):Prop:=∀ bs ∈ ps,bs.length <= 1000
def Cov (n:Nat) (P:Int -> Int -> Prop):Prop:=∃ ts:List Tri,ts.length <= n /\ ∀ x y,jp ts x y ↔ P x y
theorem B3 {q:Pic} (c:aA q) {n:Nat} {P:Int -> Int -> Prop} (hP:∀ x y,aP q x y ↔ P x y) (h:Cov n P):(ak q).length <= n:=by
 obtain ⟨ts,hl,hm⟩:=h
 have e:gv ts = q:=t6 c fun x y=>(hm x y).trans (hP x y).symm
 have:=kd ts
 rw [e] at this
 lia
theorem ve (p:Pic):Cov (ak p).length (aP p):=⟨ak p,Nat.le_refl _,fun x y=>i8 p x y⟩
theorem Cov.mono {n m:Nat} {P:Int -> Int -> Prop} (h:Cov n P) (hm:n <= m):Cov m P:=let ⟨ts,a,b⟩:=h;⟨ts,Nat.le_trans a hm,b⟩
theorem Cov.congr {n:Nat} {P Q:Int -> Int -> Prop} (h:Cov n P) (e:∀ x y,P x y ↔ Q x y):Cov n Q:=let ⟨ts,a,b⟩:=h;⟨ts,a,fun x y=>(b x y).trans (e x y)⟩
def GrF (p:Pic) (ps:List (List Blk)) (x y:Int):Prop:=∃ u v,Off ps u v /\ aP p (x - u) (y - v)
theorem pj (N:Str) (hN:NS.contains N = true) (ps:List (List Blk)) (hf:FOk ps) (p:Pic) (c:aA p) (hs:∀ post bs pre,ps = post ++ bs :: pre -> ∃ n,Cov n (GrF p pre) /\ highs bs * n <= 10000) :
  ∃ q:Pic,bi [az N ps,av p] = some (av q) /\ aA q /\ ∀ x y,aP q x y ↔ GrF p ps x y:=by
 obtain ⟨ρ',k1,q,v2,rfl,b1,b3⟩:=ci (g:=ai 2) (m:=cS) gq (fun pre ρ=>∃ (q:Pic) (v2:Sl),ρ = [.sh (az N ps),.sh (av q),v2] /\ aA q /\ ∀ x y,aP q x y ↔ GrF p pre.reverse x y) ps.reverse [.sh (az N ps),.sh (av p),.un] ⟨p,_,rfl,c,fun x y=>⟨fun h=>⟨0,0,⟨rfl,rfl⟩,by simpa using h⟩,fun ⟨u,v,⟨hu,hv⟩,h⟩=>by subst hu hv;simpa using h⟩⟩ (by
  rintro pre bs post _ e ⟨q,v2,rfl,cq,l2⟩
  have e':ps = post.reverse ++ (bs :: pre.reverse):=by
   have:=congrArg List.reverse e
   rw [List.reverse_reverse] at this
   rw [this]
   simp
  have hbs:=hf bs (by rw [e'];simp)
  obtain ⟨n,hcov,hn⟩:=hs _ _ _ e'
  have hl:=B3 cq l2 hcov
  have hp3:highs bs * (ak q).length <= highs bs * n:=Nat.mul_le_mul_left _ hl
  obtain ⟨q',c1,c2,c3,c4⟩:=mo q cq bs hbs.2 (by lia)
  have er:(pre ++ [bs]).reverse = bs :: pre.reverse:=by simp
  refine ⟨_,[.sh (az N ps),.sh (av q'),.sh (gq bs)],rfl,.inl ?_,q',_,rfl,c2,fun x y=>?_⟩
  ·simp [cS,c1]
  ·rw [er,c4,Hb]
   constructor
   ·rintro ⟨u,v,h1,h2⟩
    obtain ⟨u',v',h3,h4⟩:=(l2 _ _).mp h2
    exact ⟨u + u',v + v',⟨u,v,h1,by rwa [show u + u' - u = u' by lia,show v + v' - v = v' by lia]⟩,by rwa [show x - (u + u') = x - u - u' by lia,show y - (v + v') = y - v - v' by lia]⟩
   ·rintro ⟨u,v,⟨u',v',h1,h3⟩,h2⟩
    exact ⟨u',v',h1,(l2 _ _).mpr ⟨u - u',v - v',h3,by rwa [show x - u' - (u - u') = x - u by lia,show y - v' - (v - v') = y - v by lia]⟩⟩)
 refine ⟨q,?_,b1,fun x y=>by rw [b3,List.reverse_reverse]⟩
 have ef:mH NS "parts" (aq 0) [.sh (az N ps),.sh (av p),.un] = some (bX ps):=by
  show (if NS.contains N then vT ["parts"] [bX ps] "parts" else none) = _
  rw [if_pos hN]
  rfl
 rw [List.map_reverse] at k1
 have er:wn (af (mH NS "parts" (aq 0)) ap) [.sh (az N ps),.sh (av p),.un] = some (ps.map gq).reverse:=by
  unfold wn af ap
  rw [ef]
  rfl
 have ex:eA [.sh (az N ps),.sh (av p),.un] = some (.rt (av q)):=by
  unfold eA
  have e1:i7 (wn (af (mH NS "parts" (aq 0)) ap)) (ai 2) cS [.sh (az N ps),.sh (av p),.un] = some (.nx [.sh (az N ps),.sh (av q),v2]):=by
   unfold i7
   rw [er]
   exact k1
  rw [bf e1]
  rfl
 exact pQ (n:=3) (ds:=[az N ps,av p]) ex
theorem xq (N:Str) (hN:NS.contains N = true) (ps:List (List Blk)) (hf:FOk ps) (hlo:xk ps) (p:Pic) (c:aA p) (hp:p.length <= 1000) (hs:∀ pre bs post,ps = pre ++ bs :: post -> ∃ n,Cov n (xy p pre) /\ n <= 1000 /\ highs bs * n <= 10000) :
  ∃ q:Pic,bJ [az N ps,av p] = some (av q) /\ aA q /\ q.length <= p.length /\ ∀ x y,aP q x y ↔ xy p ps x y:=by
 obtain ⟨ρ',k1,q,v2,rfl,b1,b0,b3⟩:=ci (g:=ai 2) (m:=cY) gq (fun pre ρ=>∃ (q:Pic) (v2:Sl),ρ = [.sh (az N ps),.sh (av q),v2] /\ aA q /\ q.length <= p.length /\ ∀ x y,aP q x y ↔ xy p pre x y) ps [.sh (az N ps),.sh (av p),.un] ⟨p,_,rfl,c,Nat.le_refl _,fun x y=>⟨fun h u v ⟨hu,hv⟩=>by subst hu hv;simpa using h,fun h=>by simpa using h 0 0 ⟨rfl,rfl⟩⟩⟩ (by
  rintro pre bs post _ e ⟨q,v2,rfl,cq,lq,l2⟩
  have hbs:=hf bs (by rw [e];simp)
  obtain ⟨n,hcov,hn1,hn⟩:=hs _ _ _ e
  have hl:=B3 cq l2 hcov
  have hp3:highs bs * (ak q).length <= highs bs * n:=Nat.mul_le_mul_left _ hl
  obtain ⟨q',c1,c2,c3,c4,c5⟩:=mG q cq bs hbs.1 hbs.2 (by lia) (fun z hz=>by have:=e8 hz;lia) (hlo bs (by rw [e];simp)) (by lia)
  refine ⟨_,[.sh (az N ps),.sh (av q'),.sh (gq bs)],rfl,.inl ?_,q',_,rfl,c2,by lia,fun x y=>?_⟩
  ·simp [cY,c1]
  ·rw [c5,E6]
   unfold xy
   constructor
   ·intro h u v ho
    obtain ⟨u',v',h1,h2⟩:=(Az pre bs u v).mp ho
    have:=(l2 _ _).mp (h _ _ h2) u' v' h1
    rwa [show x + (u - u') + u' = x + u by lia,show y + (v - v') + v' = y + v by lia] at this
   ·intro h u v hu
    rw [l2]
    intro u' v' h1
    have:=h (u + u') (v + v') ((Az pre bs _ _).mpr ⟨u',v',h1,by rwa [show u + u' - u' = u by lia,show v + v' - v' = v by lia]⟩)
    rwa [show x + (u + u') = x + u + u' by lia,show y + (v + v') = y + v + v' by lia] at this)
 refine ⟨q,?_,b1,b0,b3⟩
 have ef:mH NS "parts" (aq 0) [.sh (az N ps),.sh (av p),.un] = some (bX ps):=by
  show (if NS.contains N then vT ["parts"] [bX ps] "parts" else none) = _
  rw [if_pos hN]
  rfl
 have ex:dX [.sh (az N ps),.sh (av p),.un] = some (.rt (av q)):=by
  unfold dX
  have e1:i7 (xIt (mH NS "parts" (aq 0))) (ai 2) cY [.sh (az N ps),.sh (av p),.un] = some (.nx [.sh (az N ps),.sh (av q),v2]):=by
   unfold i7 xIt
   rw [ef]
   exact k1
  rw [bf e1]
  rfl
 exact pQ (n:=3) (ds:=[az N ps,av p]) ex
def nR (b c:Blk):Blk:=(b.1 + c.1,b.2.1 + c.2.1,b.2.2.1 + c.2.2.1,b.2.2.2 + c.2.2.2)
def aw (ps:List (List Blk)):List Blk:=ps.filterMap fun bs=>if bs.length = 1 then bs.head? else none
def eR (ss:List Blk):Blk:=ss.foldr nR (0,0,0,0)
def bL (ps:List (List Blk)):List (List Blk):=ps.filter fun bs=>decide (1 < bs.length)
def mF (ps:List (List Blk)):List (List Blk):=[eR (aw ps)] :: bL ps
theorem Au {b c:Blk} (hb:BOk b) (hc:BOk c) (x y:Int):jq (nR b c) x y ↔ ∃ u v,jq b u v /\ jq c (x - u) (y - v):=by
 obtain ⟨h1,h2⟩:=hb
 obtain ⟨h3,h4⟩:=hc
 unfold jq nR
 dsimp only
 constructor
 ·rintro ⟨k1,k2,k3,k4⟩
  exact ⟨max b.1 (x - c.2.2.1),max b.2.1 (y - c.2.2.2),⟨by lia,by lia,by lia,by lia⟩,by lia,by lia,by lia,by lia⟩
 ·rintro ⟨u,v,⟨a1,a2,a3,a4⟩,b1,b2,b3,b4⟩
  exact ⟨by lia,by lia,by lia,by lia⟩
theorem G7 {b c:Blk} (hb:BOk b) (hc:BOk c):BOk (nR b c):=by
 obtain ⟨h1,h2⟩:=hb
 obtain ⟨h3,h4⟩:=hc
 exact ⟨by unfold nR;dsimp only;lia,by unfold nR;dsimp only;lia⟩
theorem sY:∀ {ss:List Blk},(∀ b ∈ ss,BOk b) -> BOk (eR ss)
 | [],_=>⟨Int.le_refl _,Int.le_refl _⟩
 | b :: ss,h=>G7 (h b List.mem_cons_self) (sY fun c hc=>h c (List.mem_cons_of_mem _ hc))
theorem eZ (b:Blk) (x y:Int):vU [b] x y ↔ jq b x y:=by
 constructor
 ·rintro ⟨c,hc,h⟩
  rw [List.mem_singleton] at hc
  subst hc
  exact h
 ·intro h
  exact ⟨b,List.mem_singleton.mpr rfl,h⟩
theorem kA:∀ (a b:List (List Blk)) (x y:Int),Off (a ++ b) x y ↔ ∃ u v,Off a u v /\ Off b (x - u) (y - v)
 | [],b,x,y=>by
  constructor
  ·intro h
   exact ⟨0,0,⟨rfl,rfl⟩,by simpa using h⟩
  ·rintro ⟨u,v,⟨rfl,rfl⟩,h⟩
   simpa using h
 | bs :: a,b,x,y=>by
  constructor
  ·rintro ⟨u,v,h1,h2⟩
   obtain ⟨u',v',h3,h4⟩:=(kA a b _ _).mp h2
   exact ⟨u + u',v + v',⟨u,v,h1,by rwa [show u + u' - u = u' by lia,show v + v' - v = v' by lia]⟩,by rwa [show x - (u + u') = x - u - u' by lia,show y - (v + v') = y - v - v' by lia]⟩
  ·rintro ⟨u,v,⟨u',v',h1,h2⟩,h3⟩
   exact ⟨u',v',h1,(kA a b _ _).mpr ⟨u - u',v - v',h2,by rwa [show x - u' - (u - u') = x - u by lia,show y - v' - (v - v') = y - v by lia]⟩⟩
theorem Gc (a b:List Blk) (r:List (List Blk)) (x y:Int):Off (a :: b :: r) x y ↔ Off (b :: a :: r) x y:=by
 have key:∀ (a b:List Blk),Off (a :: b :: r) x y -> Off (b :: a :: r) x y:=by
  rintro a b ⟨u,v,h1,u',v',h2,h3⟩
  exact ⟨u',v',h2,u,v,h1,by rwa [show x - u' - u = x - u - u' by lia,show y - v' - v = y - v - v' by lia]⟩
 exact ⟨key a b,key b a⟩
theorem uO {r r':List (List Blk)} (bs:List Blk) (h:∀ x y,Off r x y ↔ Off r' x y) (x y:Int):Off (bs :: r) x y ↔ Off (bs :: r') x y:=by
 constructor
 ·rintro ⟨u,v,h1,h2⟩;exact ⟨u,v,h1,(h _ _).mp h2⟩
 ·rintro ⟨u,v,h1,h2⟩;exact ⟨u,v,h1,(h _ _).mpr h2⟩
theorem n6 {ps:List (List Blk)} (h:FOk ps):∀ b ∈ aw ps,BOk b:=by
 intro b hb
 obtain ⟨bs,h1,h2⟩:=List.mem_filterMap.mp hb
 split at h2
 ·exact (h bs h1).2 b (List.mem_of_mem_head? h2)
 ·cases h2
theorem BR:∀ {ps:List (List Blk)},FOk ps -> ∀ x y,Off (mF ps) x y ↔ Off ps x y
 | [],_,x,y=>by
  constructor
  ·rintro ⟨u,v,h1,h2,h3⟩
   have h4:=(eZ _ _ _).mp h1
   obtain ⟨k1,k2,k3,k4⟩:=h4
   simp only [aw,eR,List.filterMap_nil,List.foldr_nil] at k1 k2 k3 k4
   exact ⟨by lia,by lia⟩
  ·rintro ⟨rfl,rfl⟩
   exact ⟨0,0,(eZ _ _ _).mpr ⟨Int.le_refl _,Int.le_refl _,Int.le_refl _,Int.le_refl _⟩,rfl,rfl⟩
 | bs :: r,h,x,y=>by
  have hr:FOk r:=fun z hz=>h z (List.mem_cons_of_mem _ hz)
  have ih:=BR hr
  obtain ⟨hne,hb⟩:=h bs List.mem_cons_self
  by_cases h1:bs.length = 1
  ·obtain ⟨b,rfl⟩:=List.length_eq_one_iff.mp h1
   have e1:aw ([b] :: r) = b :: aw r:=by simp [aw]
   have e2:bL ([b] :: r) = bL r:=by simp [bL]
   have hbb:=hb b (List.mem_singleton.mpr rfl)
   have ht:=sY (n6 hr)
   have e3:mF ([b] :: r) = [nR b (eR (aw r))] :: bL r:=by unfold mF;rw [e1,e2];rfl
   rw [e3]
   constructor
   ·rintro ⟨u,v,k1,k2⟩
    obtain ⟨u',v',k3,k4⟩:=(Au hbb ht u v).mp ((eZ _ _ _).mp k1)
    refine ⟨u',v',(eZ _ _ _).mpr k3,(ih _ _).mp ⟨u - u',v - v',(eZ _ _ _).mpr k4,?_⟩⟩
    rwa [show x - u' - (u - u') = x - u by lia,show y - v' - (v - v') = y - v by lia]
   ·rintro ⟨u,v,k1,k2⟩
    obtain ⟨u',v',k3,k4⟩:=(ih _ _).mpr k2
    refine ⟨u + u',v + v',(eZ _ _ _).mpr ((Au hbb ht _ _).mpr ⟨u,v,(eZ _ _ _).mp k1,?_⟩),?_⟩
    ·rw [show u + u' - u = u' by lia,show v + v' - v = v' by lia]
     exact (eZ _ _ _).mp k3
    ·rwa [show x - (u + u') = x - u - u' by lia,show y - (v + v') = y - v - v' by lia]
  ·have hl:1 < bs.length:=by
    have:=List.length_pos_iff.mpr hne
    lia
   have e1:aw (bs :: r) = aw r:=by simp [aw,h1]
   have e2:bL (bs :: r) = bs :: bL r:=by simp [bL,hl]
   have e3:mF (bs :: r) = [eR (aw r)] :: bs :: bL r:=by unfold mF;rw [e1,e2]
   rw [e3,Gc]
   exact uO bs ih x y
theorem CF {ps:List (List Blk)} (h:FOk ps):FOk (mF ps):=by
 intro bs hbs
 rcases List.mem_cons.mp hbs with rfl | hbs
 ·exact ⟨by simp,fun b hb=>by rw [List.mem_singleton] at hb;subst hb;exact sY (n6 h)⟩
 ·exact h bs (List.mem_filter.mp hbs).1
theorem pb (ns:List Int):CJ [.lst (ns.map D.int)] = some (.int ns.sum):=by
 have:bS (ns.map D.int) = some ns:=by
  induction ns with
  | nil=>rfl
  | cons n ns ih=>simp [bS,ih]
 simp [CJ,this]
theorem Dm (ss:List Blk):eR ss = ((ss.map fun b=>b.1).sum,(ss.map fun b=>b.2.1).sum,(ss.map fun b=>b.2.2.1).sum,(ss.map fun b=>b.2.2.2).sum):=by
 induction ss with
 | nil=>rfl
 | cons b ss ih=>
  show nR b (eR ss) = _
  rw [ih]
  simp [nR]
theorem Cz:∀ ps:List (List Blk),ps.filterMap (fun bs=>if 1 < bs.length then some (gq bs) else none) = (bL ps).map gq
 | []=>rfl
 | bs :: r=>by
  have ih:=Cz r
  unfold bL at ih ⊢
  by_cases h:1 < bs.length <;> simp [h,ih]
theorem pO (ps:List (List Blk)) (hl:ps.length <= 1000):f7 [bX ps] = some (bX (mF ps)):=by
 have l1:ps.length <= LIM:=aW (by lia)
 have hs:(aw ps).length <= ps.length:=List.length_filterMap_le _ _
 have l2:(aw ps).length <= LIM:=aW (by lia)
 have l3:(bL ps).length <= ps.length:=List.length_filter_le _ _
 have l4:1 + (bL ps).length <= LIM:=aW (by lia)
 have l5:(bL ps).length + 1 <= LIM:=aW (by lia)
 have c1:b7 (ai 0) (xB (xOp (dEq false) (xCB pd (af (ah 0) ap)) (xC (.int 1)))) (xOp dIx (ah 0) (xC (.int 0))) [.un] (ps.map gq) = some ((aw ps).map b8):=by
  rw [jm gq (fun bs=>if bs.length = 1 then (bs.head?).map b8 else none) ps fun bs _=>by
   by_cases h:bs.length = 1
   ·obtain ⟨b,rfl⟩:=List.length_eq_one_iff.mp h
    simp [fP,atI,ixN]
   ·have h':¬ ((bs.length:Int) = 1):=by lia
    simp [fP,h,h']]
  congr 1
  unfold aw
  rw [List.map_filterMap]
  congr 1
  funext bs
  by_cases h:bs.length = 1 <;> simp [h]
 have c3:b7 (ai 0) (xB (xOp dGt (xCB pd (af (ah 0) ap)) (xC (.int 1)))) (aq 0) [.un] (ps.map gq) = some ((bL ps).map gq):=by
  rw [jm gq (fun bs=>if 1 < bs.length then some (gq bs) else none) ps fun bs _=>by
   by_cases h:1 < bs.length
   ·have h':(1:Int) < bs.length:=by lia
    simp [fP,h,h']
   ·have h':¬ ((1:Int) < bs.length):=by lia
    simp [fP,h,h']]
  exact congrArg some (Cz ps)
 have inner:∀ (k:Int) (f:Blk -> Int),(∀ b:Blk,atI [D.int b.1,.int b.2.1,.int b.2.2.1,.int b.2.2.2] k = some (.int (f b))) -> b7 (ai 0) dW (xOp dIx (ah 0) (ah 1)) [.un,.sh (.int k)] ((aw ps).map b8) = some (((aw ps).map f).map D.int):=by
  intro k f hf
  rw [List.map_map]
  exact bA b8 (D.int ∘ f) (aw ps) fun b _=>by
   have:=hf b
   simp [fP,this]
 have e4:cH 0 4 = ([0,1,2,3]:List Int).map D.int:=rfl
 have tog:=Dm (aw ps)
 have c2:b7 (ai 0) dW (xCB CJ (af (xL (dQ [none,some 0] (xIt (ah 1)) (ai 0) dW (xOp dIx (ah 0) (ah 1)))) ap)) [.un,.sh (.lst ((aw ps).map b8))] (cH 0 4) = some [.int (eR (aw ps)).1,.int (eR (aw ps)).2.1,.int (eR (aw ps)).2.2.1,.int (eR (aw ps)).2.2.2]:=by
  rw [e4,tog]
  dsimp only
  rw [bA D.int (fun k=>if k = 0 then .int ((aw ps).map fun b=>b.1).sum else if k = 1 then .int ((aw ps).map fun b=>b.2.1).sum else if k = 2 then .int ((aw ps).map fun b=>b.2.2.1).sum else .int ((aw ps).map fun b=>b.2.2.2).sum) [0,1,2,3] fun k hk=>by
   have i0:=inner 0 (fun b=>b.1) fun b=>rfl
   have i1:=inner 1 (fun b=>b.2.1) fun b=>rfl
   have i2:=inner 2 (fun b=>b.2.2.1) fun b=>rfl
   have i3:=inner 3 (fun b=>b.2.2.2) fun b=>rfl
   have s0:=pb ((aw ps).map fun b=>b.1)
   have s1:=pb ((aw ps).map fun b=>b.2.1)
   have s2:=pb ((aw ps).map fun b=>b.2.2.1)
   have s3:=pb ((aw ps).map fun b=>b.2.2.2)
   generalize ((aw ps).map fun b=>b.1).map D.int = z0 at i0 s0
   generalize ((aw ps).map fun b=>b.2.1).map D.int = z1 at i1 s1
   generalize ((aw ps).map fun b=>b.2.2.1).map D.int = z2 at i2 s2
   generalize ((aw ps).map fun b=>b.2.2.2).map D.int = z3 at i3 s3
   simp only [List.mem_cons,List.not_mem_nil,or_false] at hk
   rcases hk with rfl | rfl | rfl | rfl
   ·simp [fP,l2,i0,s0]
   ·simp [fP,l2,i1,s1]
   ·simp [fP,l2,i2,s2]
   ·simp [fP,l2,i3,s3]]
  rfl
 have es:bX (mF ps) = .tup ([.tup [b8 (eR (aw ps))]] ++ (bL ps).map gq):=rfl
 rw [es]
 have lm:((bL ps).map gq).length = (bL ps).length:=List.length_map ..
 generalize (bL ps).map gq = ms at c3 lm
 have l6:1 + ms.length <= LIM:=by lia
 have hr:xF [.int 4] = some (cH 0 4):=Kt (by decide)
 have lf:(cH 0 4).length <= LIM:=aW (by decide)
 have lt:4 <= LIM:=aW (by decide)
 have lo:1 <= LIM:=aW (by decide)
 generalize eR (aw ps) = tb at c2
 generalize cH 0 4 = four at c2 hr lf
 generalize (aw ps).map b8 = zs at c1 c2
 simp [f7,gZ,fnO,gf,c1,l1,hr,lf,c2,c3,F2,l6,lt,lo]
def gj:List (List Blk):=[[(0,0,0,0)]]
def a6 (ps:List (List Blk)):Nat -> List (List Blk)
 | 0=>gj
 | n + 1=>mF (a6 ps n ++ ps)
def b6:Nat -> Str
 | 0 => "Shape"
 | _ + 1 => "Sum"
theorem dY:∀ n,NS.contains (b6 n) = true
 | 0=>by first | rfl | decide +kernel
 | _ + 1=>by first | rfl | decide +kernel
theorem A8:FOk gj:=fun bs hb=>by
 have e:bs = [(0,0,0,0)]:=List.mem_singleton.mp hb
 subst e
 refine ⟨(fun z=>by cases z),fun b hb=>?_⟩
 have e:b = (0,0,0,0):=List.mem_singleton.mp hb
 subst e
 exact ⟨Int.le_refl _,Int.le_refl _⟩
theorem oz {ps qs:List (List Blk)} (hp:FOk ps) (hq:FOk qs):FOk (ps ++ qs):=fun z hz=>(List.mem_append.mp hz).elim (hp z) (hq z)
theorem ma {ps:List (List Blk)} (h:FOk ps):∀ n,FOk (a6 ps n)
 | 0=>A8
 | n + 1=>CF (oz (ma h n) h)
def uT (ps:List (List Blk)):Nat -> Int -> Int -> Prop
 | 0,x,y=>x = 0 /\ y = 0
 | n + 1,x,y=>∃ u v,uT ps n u v /\ Off ps (x - u) (y - v)
theorem lN (x y:Int):Off gj x y ↔ x = 0 /\ y = 0:=by
 constructor
 ·rintro ⟨u,v,⟨b,hb,h⟩,h1,h2⟩
  rw [List.mem_singleton.mp hb] at h
  unfold jq at h
  dsimp only at h
  lia
 ·rintro ⟨rfl,rfl⟩
  exact ⟨0,0,⟨(0,0,0,0),List.mem_singleton.mpr rfl,by unfold jq;dsimp only;lia⟩,by lia,by lia⟩
theorem dZ {ps:List (List Blk)} (h:FOk ps):∀ (n:Nat) (x y:Int),Off (a6 ps n) x y ↔ uT ps n x y
 | 0,x,y=>lN x y
 | n + 1,x,y=>by
  show Off (mF (a6 ps n ++ ps)) x y ↔ _
  rw [BR (oz (ma h n) h),kA]
  constructor
  ·rintro ⟨u,v,h1,h2⟩
   exact ⟨u,v,(dZ h n u v).mp h1,h2⟩
  ·rintro ⟨u,v,h1,h2⟩
   exact ⟨u,v,(dZ h n u v).mpr h1,h2⟩
def lu (ps:List (List Blk)):Nat -> List (List Blk)
 | 0=>[]
 | n + 1=>lu ps n ++ bL ps
theorem lB (a b:List (List Blk)):bL (a ++ b) = bL a ++ bL b:=by unfold bL;rw [List.filter_append]
theorem CT (a:List (List Blk)):bL (bL a) = bL a:=by unfold bL;rw [List.filter_filter];simp
theorem uv (ps:List (List Blk)):∀ n,bL (lu ps n) = lu ps n
 | 0=>rfl
 | n + 1=>by rw [lu,lB,uv ps n,CT]
theorem nw (b:Blk) (l:List (List Blk)):bL ([b] :: l) = bL l:=by unfold bL;rw [List.filter_cons_of_neg (by simp)]
theorem ub (ps:List (List Blk)):∀ n,∃ b,a6 ps n = [b] :: lu ps n
 | 0=>⟨(0,0,0,0),rfl⟩
 | n + 1=>by
  obtain ⟨b,e⟩:=ub ps n
  refine ⟨eR (aw (a6 ps n ++ ps)),?_⟩
  show [eR (aw (a6 ps n ++ ps))] :: bL (a6 ps n ++ ps) = _
  rw [lB,e,nw,uv]
  rfl
theorem GH (ps:List (List Blk)):(bL ps).length <= ps.length:=List.length_filter_le _ _
theorem B2 (ps:List (List Blk)):∀ n,(lu ps n).length <= n * ps.length
 | 0=>Nat.zero_le _
 | n + 1=>by
  rw [lu,List.length_append,Nat.succ_mul]
  have:=B2 ps n
  have:=GH ps
  lia
theorem DU (ps:List (List Blk)) (n:Nat):(a6 ps n).length <= 1 + n * ps.length:=by
 obtain ⟨b,e⟩:=ub ps n
 rw [e,List.length_cons]
 have:=B2 ps n
 lia
theorem rL (p:Pic) (c:aA p) (hp:p ≠ []) (h:(ak p).length < 30000):kj [av p] = some (bX [fm p]):=by
 have hb:=(mt p c h).1
 have de:dEq false (av p) (.tup []) = some (.bl false):=by
  unfold dEq
  rw [if_pos ⟨tq p,by simp [okD,okDs]⟩]
  cases p with
  | nil=>exact absurd rfl hp
  | cons q p=>simp [eqD,eqDs]
 simp [kj,zS,de,hb]
theorem AS:fm mX = [(0,0,0,0)]:=by
 have e:cT [((0,0,0):Tri)] = [(0,0,0)]:=List.perm_singleton.mp (eg _)
 show qX (cT [((0,0,0):Tri)]) = _
 rw [e]
 rfl
theorem tX:aA mX:=pcanon_cons.mpr ⟨⟨canon_cons.mpr ⟨Int.le_refl _,fun _ h=>(by cases h),gA⟩,fun z=>by cases z⟩,fun _ h=>(by cases h),kv⟩
theorem wg (N M:Str) (hN:NS.contains N = true) (hM:NS.contains M = true) (ps qs:List (List Blk)) (h:ps.length + qs.length <= 1000):u7 [az N ps,az M qs] = some (bX (mF (ps ++ qs))):=by
 have hl:(ps.map gq).length + (qs.map gq).length <= LIM:=aW (by rw [List.length_map,List.length_map];lia)
 have hm:=pO (ps ++ qs) (by rw [List.length_append];exact h)
 have e1:mH NS "parts" (aq 1) [.lo,.sh (az N ps),.sh (az M qs)] = some (bX ps):=by
  show (if NS.contains N then vT ["parts"] [bX ps] "parts" else none) = _
  rw [if_pos hN]
  rfl
 have e2:mH NS "parts" (aq 2) [.lo,.sh (az N ps),.sh (az M qs)] = some (bX qs):=by
  show (if NS.contains M then vT ["parts"] [bX qs] "parts" else none) = _
  rw [if_pos hM]
  rfl
 have e3:xOp bK (mH NS "parts" (aq 1)) (mH NS "parts" (aq 2)) [.lo,.sh (az N ps),.sh (az M qs)] = some (bX (ps ++ qs)):=by
  unfold xOp
  rw [e1,e2]
  show bK (bX ps) (bX qs) = _
  rw [F2,if_pos hl,<- List.map_append]
 show aG f7 (af (xOp bK (mH NS "parts" (aq 1)) (mH NS "parts" (aq 2))) ap) [.lo,.sh (az N ps),.sh (az M qs)] = _
 unfold aG af ap
 rw [e3]
 exact hm
theorem j6 (N:Str) (hN:NS.contains N = true) (ps:List (List Blk)) (n:Nat) (hn:n <= 60) (hl:ps.length <= 10):jL [az N ps,.int (n:Int)] = some (az (b6 n) (a6 ps n)):=by
 have hS:=rL mX tX (fun z=>by cases z) (by show 1 < 30000;decide)
 rw [AS] at hS
 have hS':kj [.tup [.tup [.int 0,.tup [.tup [.int 0,.int 0]]]]] = some (bX gj):=hS
 have hr:xF [D.int (n:Int)] = some ((List.range n).map fun i:Nat=>D.int (i:Int)):=by
  show ifC _ _ _ = _
  rw [ip (by lia)]
  show some (cH 0 n) = _
  congr 1
  have:∀ (m:Nat) (a:Nat),cH (a:Int) m = (List.range' a m).map fun i:Nat=>D.int (i:Int):=fun m=>by
   induction m with
   | zero=>intro a;rfl
   | succ m ih=>intro a;rw [cH,List.range'_succ,List.map_cons,show (a:Int) + 1 = ((a + 1:Nat):Int) by lia,ih]
  have h0:=this n 0
  rw [List.range_eq_range']
  exact h0
 obtain ⟨ρ',k1,v3,rfl⟩:=ci (g:=ai 3) (m:=lG) (fun i:Nat=>D.int (i:Int)) (fun pre ρ=>∃ v3:Sl,ρ = [.sh (az N ps),.sh (.int (n:Int)),.sh (az (b6 pre.length) (a6 ps pre.length)),v3]) (List.range n) [.sh (az N ps),.sh (.int (n:Int)),.sh (az "Shape" gj),.un] ⟨.un,rfl⟩ (by
  rintro pre k post _ e ⟨v3,rfl⟩
  have hpl:pre.length < n:=by
   have:=congrArg List.length e
   rw [List.length_range,List.length_append,List.length_cons] at this
   lia
  have hfl:=DU ps pre.length
  have hmm:pre.length * ps.length <= 60 * 10:=Nat.mul_le_mul (by lia) hl
  have hs:=wg (b6 pre.length) N (dY _) hN (a6 ps pre.length) ps (by lia)
  refine ⟨_,[.sh (az N ps),.sh (.int (n:Int)),.sh (az "Sum" (a6 ps (pre.length + 1))),.sh (.int (k:Int))],rfl,.inl ?_,_,by rw [List.length_append];rfl⟩
  have hs':u7 [az (b6 pre.length) (a6 ps pre.length),az N ps] = some (bX (a6 ps (pre.length + 1))):=hs
  generalize hA:az (b6 pre.length) (a6 ps pre.length) = FA at *
  generalize hB:az N ps = FB at *
  generalize hC:bX (a6 ps (pre.length + 1)) = FC at *
  simp [lG,hs']
  exact hC.symm)
 rw [List.length_range] at k1
 have hrun:uB [.sh (az N ps),.sh (.int (n:Int)),.un,.un] = some (.rt (az (b6 n) (a6 ps n))):=by
  unfold uB
  rw [bf (ρ':=[.sh (az N ps),.sh (.int (n:Int)),.sh (az "Shape" gj),.un]) (by
   generalize az N ps = FB at *
   simp [hS'])]
  have hfor:i7 (o5 (af (ah 1) ap)) (ai 3) lG [.sh (az N ps),.sh (.int (n:Int)),.sh (az "Shape" gj),.un] = some (.nx [.sh (az N ps),.sh (.int (n:Int)),.sh (az (b6 n) (a6 ps n)),v3]):=by
   have hi:o5 (af (ah 1) ap) [.sh (az N ps),.sh (.int (n:Int)),.sh (az "Shape" gj),.un] = some ((List.range n).map fun i:Nat=>D.int (i:Int)):=by
    show xF [D.int (n:Int)] = _
    exact hr
   unfold i7
   rw [hi]
   exact k1
  rw [bf hfor]
  rfl
 exact pQ (n:=4) (ds:=[az N ps,.int (n:Int)]) hrun
def GrS (P:Int -> Int -> Prop) (Q:Int -> Int -> Prop) (x y:Int):Prop:=∃ u v,Q u v /\ P (x - u) (y - v)
theorem xI {n k:Nat} {P Q:Int -> Int -> Prop} (hP:Cov n P) (hQ:Cov k Q):Cov (n * k) (GrS P Q):=by
 obtain ⟨ts,l1,m1⟩:=hP
 obtain ⟨us,l2,m2⟩:=hQ
 refine ⟨(ts.filter bI).flatMap fun t=>(us.filter bI).map fun u=>(t.1 + u.1,t.2.1 + u.2.1,t.2.2 + u.2.2),?_,fun x y=>?_⟩
 ·rw [List.length_flatMap]
  have h1:=List.length_filter_le bI ts
  have h2:=List.length_filter_le bI us
  have h3:((ts.filter bI).map fun t:Tri=>((us.filter bI).map fun u:Tri=>((t.1 + u.1,t.2.1 + u.2.1,t.2.2 + u.2.2):Tri)).length).sum = (ts.filter bI).length * (us.filter bI).length:=by
   generalize ts.filter bI = l
   induction l with
   | nil=>simp
   | cons a l ih=>rw [List.map_cons,List.sum_cons,ih,List.length_map,List.length_cons,Nat.succ_mul];lia
  rw [h3]
  exact Nat.mul_le_mul (by lia) (by lia)
 ·constructor
  ·rintro ⟨t,ht,e,h1,h2⟩
   obtain ⟨a,ha,h⟩:=List.mem_flatMap.mp ht
   obtain ⟨b,hb,rfl⟩:=List.mem_map.mp h
   obtain ⟨ha1,ha2⟩:=List.mem_filter.mp ha
   obtain ⟨hb1,hb2⟩:=List.mem_filter.mp hb
   have ga:=of_decide_eq_true ha2
   have gb:=of_decide_eq_true hb2
   dsimp only at e h1 h2
   refine ⟨max b.2.1 (x - a.2.2),b.1,(m2 _ _).mp ⟨b,hb1,rfl,by lia,by lia⟩,(m1 _ _).mp ⟨a,ha1,by lia,by lia,by lia⟩⟩
  ·rintro ⟨u,v,hq,hp⟩
   obtain ⟨b,hb,e1,b1,b2⟩:=(m2 _ _).mpr hq
   obtain ⟨a,ha,e2,a1,a2⟩:=(m1 _ _).mpr hp
   exact ⟨_,List.mem_flatMap.mpr ⟨a,List.mem_filter.mpr ⟨ha,decide_eq_true (by lia)⟩,List.mem_map.mpr ⟨b,List.mem_filter.mpr ⟨hb,decide_eq_true (by lia)⟩,rfl⟩⟩,by dsimp only;lia,by dsimp only;lia,by dsimp only;lia⟩
def WOk (bs:List Blk) (k:Nat):Prop:=highs bs <= 2 * k /\ 1 <= k /\ Cov k (vU bs)
def WsLe:List (List Blk) -> Nat -> Prop
 | [],n=>1 <= n
 | bs :: r,n=>∃ k m,WOk bs k /\ WsLe r m /\ k * m <= n
theorem WsLe.mono:∀ {ps:List (List Blk)} {n m:Nat},WsLe ps n -> n <= m -> WsLe ps m
 | [],_,_,h,k=>Nat.le_trans h k
 | _ :: _,_,_,⟨a,b,h1,h2,h3⟩,k=>⟨a,b,h1,h2,Nat.le_trans h3 k⟩
theorem WsLe.pos:∀ {ps:List (List Blk)} {n:Nat},WsLe ps n -> 1 <= n
 | [],_,h=>h
 | _ :: _,_,⟨_,_,h1,h2,h3⟩=>Nat.le_trans (Nat.mul_pos h1.2.1 h2.pos) h3
theorem WsLe.append:∀ {ps qs:List (List Blk)} {n m:Nat},WsLe ps n -> WsLe qs m -> WsLe (ps ++ qs) (n * m)
 | [],_,_,_,h,k=>k.mono (Nat.le_mul_of_pos_left _ h)
 | _ :: _,_,_,_,⟨a,b,h1,h2,h3⟩,k=>⟨a,b * _,h1,h2.append k,by rw [<- Nat.mul_assoc];exact Nat.mul_le_mul_right _ h3⟩
theorem WsLe.cov:∀ {ps:List (List Blk)} {n:Nat},WsLe ps n -> Cov n (Off ps)
 | [],n,h=>⟨[(0,0,0)],h,fun x y=>by
   rw [qA]
   show _ ↔ x = 0 /\ y = 0
   constructor
   ·rintro (⟨h1,h2,h3⟩ | ⟨_,h,_⟩)
    ·dsimp only at h1 h2 h3;lia
    ·cases h
   ·rintro ⟨rfl,rfl⟩;exact .inl ⟨rfl,Int.le_refl _,Int.le_refl _⟩⟩
 | bs :: r,n,hpt0=>by
  obtain ⟨a,b,h1,h2,h3⟩:=hpt0
  have:=xI h2.cov h1.2.2
  exact (this.mono (by rw [Nat.mul_comm];exact h3)).congr fun x y=>Iff.rfl
theorem WsLe.split:∀ {post pre:List (List Blk)} {bs:List Blk} {n:Nat},WsLe (post ++ bs :: pre) n -> ∃ m,WsLe pre m /\ highs bs * m <= 2 * n
 | [],pre,bs,n,⟨a,b,h1,h2,h3⟩=>⟨b,h2,by
   have:highs bs * b <= 2 * a * b:=Nat.mul_le_mul_right _ h1.1
   rw [Nat.mul_assoc] at this
   lia⟩
 | c :: post,pre,bs,n,hpt0=>by
  obtain ⟨a,b,h1,h2,h3⟩:=hpt0
  obtain ⟨m,k1,k2⟩:=WsLe.split (post:=post) h2
  refine ⟨m,k1,?_⟩
  have:b <= a * b:=Nat.le_mul_of_pos_left _ h1.2.1
  lia
theorem mK (N:Str) (hN:NS.contains N = true) (ps:List (List Blk)) (hf:FOk ps) (p:Pic) (c:aA p) {m n:Nat} (hc:Cov m (aP p)) (hw:WsLe ps n) (hs:m * n <= 5000) :
  ∃ q:Pic,bi [az N ps,av p] = some (av q) /\ aA q /\ ∀ x y,aP q x y ↔ GrF p ps x y:=
 pj N hN ps hf p c fun post bs pre e=>by
  rw [e] at hw
  obtain ⟨k,h1,h2⟩:=hw.split
  refine ⟨m * k,xI hc h1.cov,?_⟩
  have:highs bs * (m * k) = m * (highs bs * k):=by rw [<- Nat.mul_assoc,Nat.mul_comm (highs bs),Nat.mul_assoc]
  have h4:m * (highs bs * k) <= m * (2 * n):=Nat.mul_le_mul_left _ h2
  have h5:m * (2 * n) = 2 * (m * n):=by rw [<- Nat.mul_assoc,Nat.mul_comm m,Nat.mul_assoc]
  lia
def RC (P:Int -> Int -> Prop):Prop:=∀ y a b c,P a y -> P c y -> a <= b -> b <= c -> P b y
theorem JA {p:Pic} (h:RC (aP p)) (ps:List (List Blk)):RC (xy p ps):=fun y a b c ha hc h1 h2 u v ho=>h _ _ _ _ (ha u v ho) (hc u v ho) (by lia) (by lia)
theorem uy (P:Int -> Prop) (cv:∀ a b c,P a -> P c -> a <= b -> b <= c -> P b):∀ (n:Nat) (lo hi:Int),hi - lo < n -> (∀ x,P x -> lo <= x /\ x <= hi) -> ∃ a b:Int,∀ x,(a <= x /\ x <= b) ↔ P x
 | 0,lo,hi,h,hb=>⟨1,0,fun x=>⟨fun h=>by lia,fun h=>by have:=hb x h;lia⟩⟩
 | n + 1,lo,hi,h,hb=>by
  by_cases h1:P lo
  ·by_cases h2:P hi
   ·exact ⟨lo,hi,fun x=>⟨fun h=>cv lo x hi h1 h2 h.1 h.2,hb x⟩⟩
   ·refine uy P cv n lo (hi - 1) (by lia) fun x hx=>?_
    have:=hb x hx
    have:x ≠ hi:=fun e=>h2 (e ▸ hx)
    lia
  ·refine uy P cv n (lo + 1) hi (by lia) fun x hx=>?_
   have:=hb x hx
   have:x ≠ lo:=fun e=>h1 (e ▸ hx)
   lia
theorem CY (r:R):∃ lo hi:Int,∀ x,Mem r x -> lo <= x /\ x <= hi:=by
 induction r with
 | nil=>exact ⟨0,0,fun x h=>(br _ h).elim⟩
 | cons s r ih=>
  obtain ⟨lo,hi,h⟩:=ih
  refine ⟨min lo s.1,max hi s.2,fun x hx=>?_⟩
  rcases (mem_cons ..).mp hx with ⟨h1,h2⟩ | hx
  ·lia
  ·have:=h x hx;lia
theorem zf:∀ {ps:List (List Blk)},FOk ps -> ∃ u v,Off ps u v
 | [],_=>⟨0,0,rfl,rfl⟩
 | bs :: r,h=>by
  obtain ⟨u,v,k⟩:=zf (ps:=r) fun x hx=>h x (List.mem_cons_of_mem _ hx)
  obtain ⟨hne,hb⟩:=h bs List.mem_cons_self
  obtain ⟨b,r',rfl⟩:=List.exists_cons_of_ne_nil hne
  have ok:=hb b List.mem_cons_self
  exact ⟨b.1 + u,b.2.1 + v,b.1,b.2.1,⟨b,List.mem_cons_self,Int.le_refl _,ok.1,Int.le_refl _,ok.2⟩,by rwa [show b.1 + u - b.1 = u by lia,show b.2.1 + v - b.2.1 = v by lia]⟩
theorem BF (p:Pic):∃ lo hi:Int,∀ x y,aP p x y -> lo <= x /\ x <= hi:=by
 induction p with
 | nil=>exact ⟨0,0,fun x y h=>(cP _ _ h).elim⟩
 | cons q p ih=>
  obtain ⟨lo,hi,h⟩:=ih
  obtain ⟨lo',hi',h'⟩:=CY q.2
  refine ⟨min lo lo',max hi hi',fun x y hx=>?_⟩
  rcases (bx ..).mp hx with ⟨_,hx⟩ | hx
  ·have:=h' x hx;lia
  ·have:=h x y hx;lia
theorem Gu {p:Pic} (h:RC (aP p)) {ps:List (List Blk)} (hf:FOk ps):Cov p.length (xy p ps):=by
 obtain ⟨u,v,ho⟩:=zf hf
 obtain ⟨lo,hi,hb⟩:=BF p
 have key:∀ y,∃ ab:Int × Int,∀ x,(ab.1 <= x /\ x <= ab.2) ↔ xy p ps x y:=fun y=>by
  obtain ⟨a,b,k⟩:=uy (fun x=>xy p ps x y) (fun a b c ha hc h1 h2=>JA h ps _ _ _ _ ha hc h1 h2) ((hi - lo).toNat + 1) (lo - u) (hi - u) (by lia) fun x hx=>by
   have:=hb _ _ (hx u v ho)
   lia
  exact ⟨(a,b),k⟩
 refine ⟨p.map fun q=>(q.1 - v,(Classical.choose (key (q.1 - v))).1,(Classical.choose (key (q.1 - v))).2),by rw [List.length_map];exact Nat.le_refl _,fun x y=>?_⟩
 constructor
 ·rintro ⟨t,ht,e,h1,h2⟩
  obtain ⟨q,hq,rfl⟩:=List.mem_map.mp ht
  dsimp only at e h1 h2
  have:=(Classical.choose_spec (key (q.1 - v)) x).mp ⟨h1,h2⟩
  rwa [e] at this
 ·intro hx
  obtain ⟨q,hq,e,_⟩:=hx u v ho
  have e':q.1 - v = y:=by lia
  refine ⟨_,List.mem_map.mpr ⟨q,hq,rfl⟩,e',?_⟩
  dsimp only
  exact (Classical.choose_spec (key (q.1 - v)) x).mpr (by rw [e'];exact hx)
theorem qF (N:Str) (hN:NS.contains N = true) (ps:List (List Blk)) (hf:FOk ps) (hlo:xk ps) (p:Pic) (c:aA p) (hp:p.length <= 3) (hr:RC (aP p)) (hs:∀ bs ∈ ps,highs bs <= 3333) :
  ∃ q:Pic,bJ [az N ps,av p] = some (av q) /\ aA q /\ q.length <= p.length /\ ∀ x y,aP q x y ↔ xy p ps x y:=
 xq N hN ps hf hlo p c (by lia) fun pre bs post e=>⟨p.length,Gu hr fun x hx=>hf x (by rw [e];exact List.mem_append_left _ hx),by lia,by
  have h1:=hs bs (by rw [e];simp)
  have:=Nat.mul_le_mul h1 hp
  lia⟩
theorem xw (b:Bool) (p:Pic):dEq b (av p) (av p) = some (.bl (!b)):=by
 have:=zU b (tq p)
 cases b <;> exact this
theorem gQ {N:Str} (hN:NS.contains N = true) {ps:List (List Blk)} {m:Str} {f:List D -> Option D} {e:XE} {as:XA} {ρ:M.Env} {ds:List D} (hm:(["parts"]:List Str).contains m = false) (h0:e ρ = some (az N ps)) (ha:as ρ = some ds):fR NS m f e as ρ = f (az N ps :: ds):=by
 unfold fR
 rw [h0,ha]
 show (if NS.contains N && !(["parts"]:List Str).contains m then f (az N ps :: ds) else none) = _
 rw [hN,hm]
 rfl
theorem Jh (n:Nat) (hn:n <= 1000):xF [D.int (n:Int)] = some ((List.range n).map fun i:Nat=>D.int (i:Int)):=by
 show ifC _ _ _ = _
 rw [ip (by lia)]
 show some (cH 0 n) = _
 congr 1
 have:∀ (m:Nat) (a:Nat),cH (a:Int) m = (List.range' a m).map fun i:Nat=>D.int (i:Int):=fun m=>by
  induction m with
  | zero=>intro a;rfl
  | succ m ih=>intro a;rw [cH,List.range'_succ,List.map_cons,show (a:Int) + 1 = ((a + 1:Nat):Int) by lia,ih]
 have h0:=this n 0
 rw [List.range_eq_range']
 exact h0
def Ml (p:Pic) (ps:List (List Blk)) (n:Nat) (x y:Int):Prop:=∀ u v,uT ps n u v -> aP p (x + u) (y + v)
theorem EU (P:Int -> Int -> Prop) (ps:List (List Blk)) (n:Nat) (x y:Int):GrS (GrS P (uT ps n)) (Off ps) x y ↔ GrS P (uT ps (n + 1)) x y:=by
 constructor
 ·rintro ⟨u,v,h1,u',v',h2,h3⟩
  exact ⟨u' + u,v' + v,⟨u',v',h2,by rwa [show u' + u - u' = u by lia,show v' + v - v' = v by lia]⟩,by rwa [show x - (u' + u) = x - u - u' by lia,show y - (v' + v) = y - v - v' by lia]⟩
 ·rintro ⟨u,v,⟨u',v',h2,h1⟩,h3⟩
  exact ⟨u - u',v - v',h1,u',v',h2,by rwa [show x - (u - u') - u' = x - u by lia,show y - (v - v') - v' = y - v by lia]⟩
theorem WsLe.highs {ps:List (List Blk)} {n:Nat} (h:WsLe ps n):∀ bs ∈ ps,highs bs <= 2 * n:=fun bs hb=>by
 obtain ⟨post,pre,e⟩:=List.append_of_mem hb
 rw [e] at h
 obtain ⟨m,h1,h2⟩:=h.split
 have:=Nat.le_mul_of_pos_right (P.highs bs) h1.pos
 lia
theorem Bv {ps:List (List Blk)} (h:xk ps) (n:Nat):xk (a6 ps n):=fun bs hb=>by
 obtain ⟨b,e⟩:=ub ps n
 rw [e] at hb
 rcases List.mem_cons.mp hb with rfl | hb
 ·simp
 ·have:∀ n,bs ∈ lu ps n -> bs ∈ ps:=fun n=>by
   induction n with
   | zero=>intro h;cases h
   | succ n ih=>
    intro h
    rcases List.mem_append.mp h with h | h
    ·exact ih h
    ·exact (List.mem_filter.mp h).1
  exact h bs (this n hb)
structure RepOk (ps:List (List Blk)) (p:Pic) (n:Nat):Prop where
 ok:FOk ps
 few:ps.length <= 10
 lo:xk ps
 fold:∃ w,WsLe (a6 ps n) w /\ 3 * w <= 5000
 one:∃ w,WsLe ps w /\ 3 * w <= 5000 /\ ∀ k,k < n -> ∃ c,Cov c (GrS (aP p) (uT ps k)) /\ c * w <= 5000
theorem dR (N:Str) (hN:NS.contains N = true) (ps:List (List Blk)) (p:Pic) (c:aA p) (hl:(ak p).length <= 3) (hr:RC (aP p)) (n:Nat) (hn:n <= 20) (o:RepOk ps p n) :
  gS [az N ps,av p,.int (n:Int)] = some (.bl true):=by
 have hp:p.length <= 3:=by have:=yj c;lia
 have hF:=j6 N hN ps n (by lia) o.few
 obtain ⟨w1,hw1,hw2⟩:=o.fold
 obtain ⟨w,hw,hw3,hk⟩:=o.one
 have hr0:=Jh n (by lia)
 have hfn:=ma o.ok n
 obtain ⟨G,g1,g2,g3⟩:=mK (b6 n) (dY n) (a6 ps n) hfn p c (ve p) hw1 (by have:=Nat.mul_le_mul_right w1 hl;lia)
 obtain ⟨S,s1,s2,s3,s4⟩:=qF (b6 n) (dY n) (a6 ps n) hfn (Bv o.lo n) p c hp hr fun bs hb=>by have:=hw1.highs bs hb;lia
 obtain ⟨ρ',k1,q,z,v6,rfl,c1,c2,c3,c4,c5⟩:=ci (g:=ai 6) (m:=fb) (fun i:Nat=>D.int (i:Int)) (fun pre ρ=>∃ (q z:Pic) (v6:Sl),ρ = [.sh (az N ps),.sh (av p),.sh (.int (n:Int)),.sh (az (b6 n) (a6 ps n)),.sh (av q),.sh (av z),v6] /\ aA q /\ (∀ x y,aP q x y ↔ GrS (aP p) (uT ps pre.length) x y) /\ aA z /\ z.length <= 3 /\ ∀ x y,aP z x y ↔ Ml p ps pre.length x y) (List.range n) [.sh (az N ps),.sh (av p),.sh (.int (n:Int)),.sh (az (b6 n) (a6 ps n)),.sh (av p),.sh (av p),.un] ⟨p,p,.un,rfl,c,fun x y=>⟨fun h=>⟨0,0,⟨rfl,rfl⟩,by simpa using h⟩,fun ⟨u,v,⟨hu,hv⟩,h⟩=>by subst hu hv;simpa using h⟩,c,hp,fun x y=>⟨fun h u v ⟨hu,hv⟩=>by subst hu hv;simpa using h,fun h=>by simpa using h 0 0 ⟨rfl,rfl⟩⟩⟩ (by
  rintro pre k post _ e ⟨q,z,v6,rfl,c1,c2,c3,c4,c5⟩
  have hpl:pre.length < n:=by
   have:=congrArg List.length e
   rw [List.length_range,List.length_append,List.length_cons] at this
   lia
  obtain ⟨c,hc,hcw⟩:=hk _ hpl
  obtain ⟨q',d1,d2,d3⟩:=mK N hN ps o.ok q c1 (hc.congr fun x y=>(c2 x y).symm) hw hcw
  have hz:RC (aP z):=fun y a b d ha hd h1 h2=>(c5 _ _).mpr fun u v ho=>hr _ _ _ _ ((c5 _ _).mp ha u v ho) ((c5 _ _).mp hd u v ho) (by lia) (by lia)
  obtain ⟨z',f1,f2,f3,f4⟩:=qF N hN ps o.ok o.lo z c3 c4 hz fun bs hb=>by have:=hw.highs bs hb;lia
  refine ⟨[.sh (az N ps),.sh (av p),.sh (.int (n:Int)),.sh (az (b6 n) (a6 ps n)),.sh (av q),.sh (av z),.sh (.int (k:Int))],[.sh (az N ps),.sh (av p),.sh (.int (n:Int)),.sh (az (b6 n) (a6 ps n)),.sh (av q'),.sh (av z'),.sh (.int (k:Int))],rfl,.inl ?_,q',z',_,rfl,d2,fun x y=>?_,f2,by lia,fun x y=>?_⟩
  ·have e1:fR NS "greater" bi (aq 0) (af (aq 4) ap) [.sh (az N ps),.sh (av p),.sh (.int (n:Int)),.sh (az (b6 n) (a6 ps n)),.sh (av q),.sh (av z),.sh (.int (k:Int))] = some (av q'):=by
    rw [gQ hN (ps:=ps) (ds:=[av q]) (by decide) rfl rfl,d1]
   have e2:fR NS "smaller" bJ (aq 0) (af (aq 5) ap) [.sh (az N ps),.sh (av p),.sh (.int (n:Int)),.sh (az (b6 n) (a6 ps n)),.sh (av q'),.sh (av z),.sh (.int (k:Int))] = some (av z'):=by
    rw [gQ hN (ps:=ps) (ds:=[av z]) (by decide) rfl rfl,f1]
   unfold fb
   rw [bf (ρ':=[.sh (az N ps),.sh (av p),.sh (.int (n:Int)),.sh (az (b6 n) (a6 ps n)),.sh (av q'),.sh (av z),.sh (.int (k:Int))]) (by unfold bq;rw [e1];rfl)]
   unfold bq
   rw [e2]
   rfl
  ·rw [d3,List.length_append,List.length_singleton,<- EU]
   constructor
   ·rintro ⟨u,v,h1,h2⟩
    exact ⟨u,v,h1,(c2 _ _).mp h2⟩
   ·rintro ⟨u,v,h1,h2⟩
    exact ⟨u,v,h1,(c2 _ _).mpr h2⟩
  ·rw [f4,List.length_append,List.length_singleton]
   constructor
   ·rintro h u v ⟨u',v',h1,h2⟩
    have:=(c5 _ _).mp (h _ _ h2) u' v' h1
    rwa [show x + (u - u') + u' = x + u by lia,show y + (v - v') + v' = y + v by lia] at this
   ·intro h u v ho
    refine (c5 _ _).mpr fun u' v' h1=>?_
    have:=h (u' + u) (v' + v) ⟨u',v',h1,by rwa [show u' + u - u' = u by lia,show v' + v - v' = v by lia]⟩
    rwa [show x + (u' + u) = x + u + u' by lia,show y + (v' + v) = y + v + v' by lia] at this)
 rw [List.length_range] at c2 c5
 have eG:G = q:=jC g2 c1 fun x y=>by
  rw [g3,c2]
  constructor
  ·rintro ⟨u,v,h1,h2⟩
   exact ⟨u,v,(dZ o.ok n u v).mp h1,h2⟩
  ·rintro ⟨u,v,h1,h2⟩
   exact ⟨u,v,(dZ o.ok n u v).mpr h1,h2⟩
 have eS:S = z:=jC s2 c3 fun x y=>by
  rw [s4,c5]
  exact ⟨fun h u v ho=>h u v ((dZ o.ok n u v).mpr ho),fun h u v ho=>h u v ((dZ o.ok n u v).mp ho)⟩
 subst eG eS
 have ex:gT [.sh (az N ps),.sh (av p),.sh (.int (n:Int)),.un,.un,.un,.un] = some (.rt (.bl true)):=by
  unfold gT
  rw [bf (ρ':=[.sh (az N ps),.sh (av p),.sh (.int (n:Int)),.sh (az (b6 n) (a6 ps n)),.un,.un,.un]) (by
   unfold bq
   have:aG jL (af (aq 0) (af (aq 2) ap)) [.sh (az N ps),.sh (av p),.sh (.int (n:Int)),.un,.un,.un,.un] = some (az (b6 n) (a6 ps n)):=hF
   rw [this]
   rfl)]
  rw [bf (ρ':=[.sh (az N ps),.sh (av p),.sh (.int (n:Int)),.sh (az (b6 n) (a6 ps n)),.sh (av p),.un,.un]) rfl]
  rw [bf (ρ':=[.sh (az N ps),.sh (av p),.sh (.int (n:Int)),.sh (az (b6 n) (a6 ps n)),.sh (av p),.sh (av p),.un]) rfl]
  have hfor:i7 (o5 (af (ah 2) ap)) (ai 6) fb [.sh (az N ps),.sh (av p),.sh (.int (n:Int)),.sh (az (b6 n) (a6 ps n)),.sh (av p),.sh (av p),.un] = some (.nx [.sh (az N ps),.sh (av p),.sh (.int (n:Int)),.sh (az (b6 n) (a6 ps n)),.sh (av G),.sh (av S),v6]):=by
   have hi:o5 (af (ah 2) ap) [.sh (az N ps),.sh (av p),.sh (.int (n:Int)),.sh (az (b6 n) (a6 ps n)),.sh (av p),.sh (av p),.un] = some ((List.range n).map fun i:Nat=>D.int (i:Int)):=hr0
   unfold i7
   rw [hi]
   exact k1
  rw [bf hfor]
  have e1:fR NS "greater" bi (aq 3) (af (aq 1) ap) [.sh (az N ps),.sh (av p),.sh (.int (n:Int)),.sh (az (b6 n) (a6 ps n)),.sh (av G),.sh (av S),v6] = some (av G):=by
   rw [gQ (dY n) (ps:=a6 ps n) (ds:=[av p]) (by decide) rfl rfl,g1]
  have e2:fR NS "smaller" bJ (aq 3) (af (aq 1) ap) [.sh (az N ps),.sh (av p),.sh (.int (n:Int)),.sh (az (b6 n) (a6 ps n)),.sh (av G),.sh (av S),v6] = some (av S):=by
   rw [gQ (dY n) (ps:=a6 ps n) (ds:=[av p]) (by decide) rfl rfl,s1]
  have dG:=xw false G
  have dS:=xw false S
  unfold bU xc xOp
  rw [e1,e2]
  have v4:ah 4 [.sh (az N ps),.sh (av p),.sh (.int (n:Int)),.sh (az (b6 n) (a6 ps n)),.sh (av G),.sh (av S),v6] = some (av G):=rfl
  have v5:ah 5 [.sh (az N ps),.sh (av p),.sh (.int (n:Int)),.sh (az (b6 n) (a6 ps n)),.sh (av G),.sh (av S),v6] = some (av S):=rfl
  rw [v4,v5]
  generalize av G = a at *
  generalize av S = b at *
  simp [dG,dS]
 exact pQ (n:=7) (ds:=[az N ps,av p,.int (n:Int)]) ex
def nB (b:Blk) (n:Nat):Blk:=((n:Int) * b.1,(n:Int) * b.2.1,(n:Int) * b.2.2.1,(n:Int) * b.2.2.2)
theorem Gg (b:Blk) (n:Nat):nR (nB b n) b = nB b (n + 1):=by
 unfold nR nB
 simp only [Int.natCast_add,Int.add_mul,Int.natCast_one,Int.one_mul]
theorem ke (b:Blk):nR b (0,0,0,0) = b:=by unfold nR;simp
theorem qv {a b:Int} (n:Nat) (h:a <= b):(n:Int) * a <= n * b:=Int.mul_le_mul_of_nonneg_left h (by lia)
theorem JQ {b:Blk} (h:BOk b) (n:Nat):BOk (nB b n):=⟨qv n h.1,qv n h.2⟩
theorem rJ (ps:List (List Blk)):∀ n,aw (lu ps n) = []
 | 0=>rfl
 | n + 1=>by
  have h:=rJ ps n
  have h2:aw (bL ps) = []:=by
   unfold aw bL
   rw [List.filterMap_eq_nil_iff]
   intro bs hb
   have:=of_decide_eq_true (List.mem_filter.mp hb).2
   rw [if_neg (by lia)]
  unfold aw at h h2 ⊢
  rw [lu,List.filterMap_append,h,h2]
  rfl
theorem oY (ps:List (List Blk)):∀ n,a6 ps n = [nB (eR (aw ps)) n] :: lu ps n
 | 0=>by
  show [[(0,0,0,0)]] = _
  unfold nB
  simp [lu]
 | n + 1=>by
  show [eR (aw (a6 ps n ++ ps))] :: bL (a6 ps n ++ ps) = _
  rw [oY ps n,lB,nw,uv]
  have e:aw (([nB (eR (aw ps)) n] :: lu ps n) ++ ps) = nB (eR (aw ps)) n :: aw ps:=by
   have h:=rJ ps n
   unfold aw at h ⊢
   rw [List.filterMap_append,List.filterMap_cons,h]
   rfl
  rw [e]
  show [nR (nB (eR (aw ps)) n) (eR (aw ps))] :: _ = _
  rw [Gg]
  rfl
theorem kf {b:Blk} (h:BOk b) {H:Nat} (hH:b.2.2.2 - b.2.1 <= H):WOk [b] (H + 1):=by
 refine ⟨?_,by lia,(List.range (H + 1)).map fun i:Nat=>if b.2.1 + (i:Int) <= b.2.2.2 then (b.2.1 + (i:Int),b.1,b.2.2.1) else (0,1,0),by rw [List.length_map,List.length_range];exact Nat.le_refl _,fun x y=>?_⟩
 ·rw [gJ]
  unfold c6
  lia
 ·rw [eZ]
  constructor
  ·rintro ⟨t,ht,e,h1,h2⟩
   obtain ⟨i,hi,rfl⟩:=List.mem_map.mp ht
   by_cases c:b.2.1 + (i:Int) <= b.2.2.2
   ·rw [if_pos c] at e h1 h2
    dsimp only at e h1 h2
    exact ⟨h1,h2,by lia,by lia⟩
   ·rw [if_neg c] at h1 h2
    dsimp only at h1 h2;lia
  ·rintro ⟨h1,h2,h3,h4⟩
   refine ⟨_,List.mem_map.mpr ⟨(y - b.2.1).toNat,List.mem_range.mpr (by lia),rfl⟩,?_⟩
   rw [if_pos (by lia)]
   exact ⟨by dsimp only;lia,h1,h2⟩
theorem Ah {ps:List (List Blk)} {w:Nat} (h:WsLe (bL ps) w):∀ n,WsLe (lu ps n) (w ^ n)
 | 0=>Nat.le_refl 1
 | n + 1=>by rw [Nat.pow_succ];exact (Ah h n).append h
theorem qG {ps:List (List Blk)} (hf:FOk ps) {w H:Nat} (hH:(eR (aw ps)).2.2.2 - (eR (aw ps)).2.1 <= H) (h:WsLe (bL ps) w) (n:Nat):WsLe (a6 ps n) ((H * n + 1) * w ^ n):=by
 rw [oY]
 refine ⟨H * n + 1,w ^ n,kf (JQ (sY (n6 hf)) n) ?_,Ah h n,Nat.le_refl _⟩
 show (n:Int) * _ - (n:Int) * _ <= _
 rw [<- Int.mul_sub]
 have:=qv n hH
 rw [Int.natCast_mul,Int.mul_comm (H:Int)]
 exact this
theorem yo {ps:List (List Blk)} {p:Pic} (hp:(ak p).length <= 3) {n:Nat} (hf:FOk ps) (few:ps.length <= 10) (lo:xk ps) {w H w':Nat} (hH:(eR (aw ps)).2.2.2 - (eR (aw ps)).2.1 <= H) (h:WsLe (bL ps) w) (h':WsLe ps w')
  (h1:3 * ((H * n + 1) * w ^ n) <= 5000) (h2:3 * w' <= 5000) (h3:∀ k,k < n -> 3 * ((H * k + 1) * w ^ k) * w' <= 5000):RepOk ps p n where
 ok:=hf
 few:=few
 lo:=lo
 fold:=⟨_,qG hf hH h n,h1⟩
 one:=⟨w',h',h2,fun k hk=>⟨3 * ((H * k + 1) * w ^ k),(xI ((ve p).mono hp) (qG hf hH h k).cov).congr fun x y=>by
  constructor
  ·rintro ⟨u,v,a,b⟩
   exact ⟨u,v,(dZ hf k u v).mp a,b⟩
  ·rintro ⟨u,v,a,b⟩
   exact ⟨u,v,(dZ hf k u v).mpr a,b⟩,h3 k hk⟩⟩
theorem yG (bs:List Blk) (x y:Int):Off [bs] x y ↔ vU bs x y:=by
 constructor
 ·rintro ⟨u,v,h1,h2,h3⟩
  rwa [show x = u by lia,show y = v by lia]
 ·intro h
  exact ⟨x,y,h,by lia,by lia⟩
theorem kG {bs:List Blk} (h:bs ≠ []) (hb:∀ b ∈ bs,BOk b):FOk [bs]:=fun z hz=>by
 rw [List.mem_singleton] at hz
 subst hz
 exact ⟨h,hb⟩
theorem jf {bs:List Blk} {k:Nat} (h:WOk bs k):WsLe [bs] k:=⟨k,1,h,Nat.le_refl 1,by lia⟩
theorem B5 {b:Blk} (hb:BOk b) (h4:b.2.2.2 - b.2.1 <= 4) {p:Pic} (hp:(ak p).length <= 3) {n:Nat} (hn:n <= 5):RepOk [[b]] p n:=by
 have e:aw [[b]] = [b]:=rfl
 have e2:bL [[b]] = []:=rfl
 have et:eR (aw [[b]]) = b:=by rw [e];exact ke b
 refine yo (w:=1) (H:=4) (w':=5) hp (kG (by simp) fun c hc=>by rw [List.mem_singleton] at hc;subst hc;exact hb) (by simp) (fun bs hb=>by rw [List.mem_singleton] at hb;subst hb;simp) (by rw [et];exact h4) (by rw [e2];exact Nat.le_refl 1) (jf (kf hb h4)) ?_ (by lia) ?_
 ·rw [Nat.one_pow];lia
 ·intro k hk;rw [Nat.one_pow];lia
theorem zV {bs:List Blk} {w n:Nat} (hf:∀ b ∈ bs,BOk b) (h2:1 < bs.length) (hl:bs.length <= 1000) (hw:WOk bs w) {p:Pic} (hp:(ak p).length <= 3) (hn:3 * w ^ n <= 5000) (hn2:3 * w <= 5000) (hk:∀ k,k < n -> 3 * w ^ k * w <= 5000):RepOk [bs] p n:=by
 have hne:bs ≠ []:=fun e=>by rw [e] at h2;simp at h2
 have e:aw [bs] = []:=by unfold aw;simp;lia
 have e2:bL [bs] = [bs]:=by unfold bL;simp;lia
 have et:eR (aw [bs]) = (0,0,0,0):=by rw [e];rfl
 refine yo (w:=w) (H:=0) (w':=w) hp (kG hne hf) (by simp) (fun c hc=>by rw [List.mem_singleton] at hc;subst hc;exact hl) (by rw [et];exact Int.le_refl _) (by rw [e2];exact jf hw) (jf hw) ?_ hn2 ?_
 ·rw [Nat.zero_mul,Nat.zero_add,Nat.one_mul];exact hn
 ·intro k h;rw [Nat.zero_mul,Nat.zero_add,Nat.one_mul];exact hk k h
def bc (a:Int):List Blk:=[(-a,0,a,0),(0,-a,0,a)]
theorem zM {a:Int} (h:0 <= a):∀ b ∈ bc a,BOk b:=fun b hb=>by
 simp only [bc,List.mem_cons,List.not_mem_nil,or_false] at hb
 rcases hb with rfl | rfl <;> exact ⟨by dsimp only;lia,by dsimp only;lia⟩
theorem mM {a:Int} (h:1 <= a) (h2:a <= 2):WOk (bc a) 5:=by
 refine ⟨?_,by omega,[(0,-a,a),(1,0,0),(-1,0,0),(a,0,0),(-a,0,0)],Nat.le_refl 5,fun x y=>?_⟩
 ·show (2 * (0 - 0:Int).toNat + 1) + ((2 * (a - (-a)).toNat + 1) + 0) <= 10
  omega
 ·unfold jp vU bc jq
  simp only [List.mem_cons,List.not_mem_nil,or_false,exists_eq_or_imp,exists_eq_left]
  omega
structure Two (sP:Pic) (x0 y0 dx dy:Int):Prop where
 can:aA sP
 len:(ak sP).length <= 2
 mem:∀ u v,aP sP u v ↔ (u = x0 /\ v = y0) \/ (u = x0 + dx /\ v = y0 + dy)
theorem Two.ne {sP:Pic} {x0 y0 dx dy:Int} (o:Two sP x0 y0 dx dy):sP ≠ []:=Gh ((o.mem x0 y0).mpr (.inl ⟨rfl,rfl⟩))
theorem DB (bs:List Blk):bs.length <= highs bs:=by
 induction bs with
 | nil=>exact Nat.zero_le _
 | cons b bs ih=>
  have e:highs (b :: bs) = c6 b + highs bs:=rfl
  rw [e,List.length_cons]
  unfold c6
  lia
structure BTwo (bs:List Blk) (x0 y0 dx dy:Int):Prop where
 ok:∀ b ∈ bs,BOk b
 ne:bs ≠ []
 w:WOk bs 2
 mem:∀ u v,vU bs u v ↔ (u = x0 /\ v = y0) \/ (u = x0 + dx /\ v = y0 + dy)
theorem Two.b {sP:Pic} {x0 y0 dx dy:Int} (o:Two sP x0 y0 dx dy):BTwo (fm sP) x0 y0 dx dy:=by
 obtain ⟨_,h1,h2,h3⟩:=mt sP o.can (by have:=o.len;lia)
 have hm:∀ u v,vU (fm sP) u v ↔ aP sP u v:=h3
 refine ⟨h1,fun e=>?_,⟨by have:=o.len;lia,by lia,((ve sP).mono o.len).congr fun u v=>(hm u v).symm⟩,fun u v=>(hm u v).trans (o.mem u v)⟩
 obtain ⟨b,hb,_⟩:=(hm x0 y0).mpr ((o.mem x0 y0).mpr (.inl ⟨rfl,rfl⟩))
 rw [e] at hb
 cases hb
theorem BTwo.cases {bs:List Blk} {x0 y0 dx dy:Int} (o:BTwo bs x0 y0 dx dy):(∃ b,bs = [b] /\ BOk b /\ b.2.2.2 - b.2.1 <= 1) \/ (1 < bs.length /\ bs.length <= 4):=by
 have h1:=DB bs
 have h2:=o.w.1
 have h3:=List.length_pos_iff.mpr o.ne
 by_cases h:bs.length = 1
 ·obtain ⟨b,rfl⟩:=List.length_eq_one_iff.mp h
  have h4:highs [b] <= 4:=h2
  rw [gJ] at h4
  unfold c6 at h4
  exact .inl ⟨b,rfl,o.ok b (List.mem_singleton.mpr rfl),by lia⟩
 ·exact .inr ⟨by lia,by lia⟩
theorem sj {n:Nat} (h:n <= 5):n = 0 \/ n = 1 \/ n = 2 \/ n = 3 \/ n = 4 \/ n = 5:=by lia
theorem D3 {bs:List Blk} {x0 y0 dx dy:Int} (o:BTwo bs x0 y0 dx dy) {p:Pic} (hp:(ak p).length <= 3) {n:Nat} (hn:n <= 5):RepOk [bs] p n:=by
 rcases o.cases with ⟨b,rfl,h1,h2⟩ | ⟨h1,h2⟩
 ·exact B5 h1 (by lia) hp hn
 ·refine zV o.ok h1 (by lia) o.w hp ?_ (by lia) fun k hk=>?_
  ·rcases sj hn with rfl | rfl | rfl | rfl | rfl | rfl <;> decide
  ·rcases sj (Nat.le_of_lt (Nat.lt_of_lt_of_le hk hn)) with rfl | rfl | rfl | rfl | rfl | rfl <;> decide
theorem DT {a:Int} (h1:1 <= a) (h2:a <= 2) {p:Pic} (hp:(ak p).length <= 3) {n:Nat} (hn:n <= 4):RepOk [bc a] p n:=by
 refine zV (zM (by lia)) (show 1 < 2 by decide) (show 2 <= 1000 by decide) (mM h1 h2) hp ?_ (by lia) fun k hk=>?_
 ·rcases sj (show n <= 5 by lia) with rfl | rfl | rfl | rfl | rfl | rfl
  iterate 5 decide
  lia
 ·rcases sj (show k <= 5 by lia) with rfl | rfl | rfl | rfl | rfl | rfl
  iterate 4 decide
  all_goals lia
theorem G8 {a:Int} (h1:1 <= a) (h2:a <= 2) {bs:List Blk} {x0 y0 dx dy:Int} (o:BTwo bs x0 y0 dx dy) {p:Pic} (hp:(ak p).length <= 3) {n:Nat} (hn:n <= 3):RepOk (mF ([bc a] ++ [bs])) p n:=by
 have hf:FOk (mF ([bc a] ++ [bs])):=CF (oz (kG (by simp [bc]) (zM (by lia))) (kG o.ne o.ok))
 rcases o.cases with ⟨b,rfl,k1,k2⟩ | ⟨k1,k2⟩
 ·have e:mF ([bc a] ++ [[b]]) = [[b],bc a]:=by
   show [[nR b (0,0,0,0)],bc a] = _
   rw [ke]
  rw [e] at hf ⊢
  have et:eR (aw [[b],bc a]) = b:=ke b
  refine yo (w:=5) (H:=1) (w':=10) hp hf (by simp) (fun c hc=>?_) (by rw [et];exact k2) (jf (mM h1 h2)) ⟨2,5,kf k1 k2,jf (mM h1 h2),Nat.le_refl _⟩ ?_ (by lia) fun k hk=>?_
  ·simp only [List.mem_cons,List.not_mem_nil,or_false] at hc
   rcases hc with rfl | rfl
   ·show 1 <= 1000;decide
   ·show 2 <= 1000;decide
  ·rcases sj (show n <= 5 by lia) with rfl | rfl | rfl | rfl | rfl | rfl
   iterate 4 decide
   all_goals lia
  ·rcases sj (show k <= 5 by lia) with rfl | rfl | rfl | rfl | rfl | rfl
   iterate 3 decide
   all_goals lia
 ·have e:mF ([bc a] ++ [bs]) = [[(0,0,0,0)],bc a,bs]:=by
   have s1:aw [bc a,bs] = []:=by unfold aw bc;simp;lia
   have s2:bL [bc a,bs] = [bc a,bs]:=by unfold bL bc;simp;lia
   show [eR (aw [bc a,bs])] :: bL [bc a,bs] = _
   rw [s1,s2]
   rfl
  rw [e] at hf ⊢
  have et:eR (aw [[(0,0,0,0)],bc a,bs]) = (0,0,0,0):=by
   have s1:aw [[(0,0,0,0)],bc a,bs] = [(0,0,0,0)]:=by unfold aw bc;simp;lia
   rw [s1]
   rfl
  have em:bL [[(0,0,0,0)],bc a,bs] = [bc a,bs]:=by unfold bL bc;simp;lia
  have hw:WsLe [bc a,bs] 10:=⟨5,2,mM h1 h2,jf o.w,Nat.le_refl _⟩
  refine yo (w:=10) (H:=0) (w':=10) hp hf (by simp) (fun c hc=>?_) (by rw [et];exact Int.le_refl _) (by rw [em];exact hw) ⟨1,10,kf (H:=0) ⟨Int.le_refl _,Int.le_refl _⟩ (Int.le_refl _),hw,Nat.le_refl _⟩ ?_ (by lia) fun k hk=>?_
  ·simp only [List.mem_cons,List.not_mem_nil,or_false] at hc
   rcases hc with rfl | rfl | rfl
   ·show 1 <= 1000;decide
   ·show 2 <= 1000;decide
   ·lia
  ·rcases sj (show n <= 5 by lia) with rfl | rfl | rfl | rfl | rfl | rfl
   iterate 4 decide
   all_goals lia
  ·rcases sj (show k <= 5 by lia) with rfl | rfl | rfl | rfl | rfl | rfl
   iterate 3 decide
   all_goals lia
theorem vo {N:Str} (hN:NS.contains N = true) {ps:List (List Blk)} {q:Pic} (a1:bi [az N ps,av mX] = some (av q)):eI [az N ps] = some (av q):=by
 have ex:gm [.sh (az N ps)] = some (.rt (av q)):=by
  have em:fR NS "greater" bi (aq 0) (af (xC (.tup [.tup [.int 0,.tup [.tup [.int 0,.int 0]]]])) ap) [.sh (az N ps)] = some (av q):=by
   rw [gQ hN (ps:=ps) (ds:=[av mX]) (by decide) rfl rfl,a1]
  unfold gm bU
  rw [em]
  rfl
 exact pQ (n:=1) (ds:=[az N ps]) ex
theorem Ba (ps:List (List Blk)) (x y:Int):GrF mX ps x y ↔ Off ps x y:=by
 constructor
 ·rintro ⟨u,v,h1,h2⟩
  obtain ⟨h3,h4⟩:=(zW _ _).mp h2
  rwa [show x = u by lia,show y = v by lia]
 ·intro h
  exact ⟨x,y,h,(zW _ _).mpr ⟨by lia,by lia⟩⟩
def qU (ps:List (List Blk)) (n:Nat):Prop:=∃ q:Pic,eI [az (b6 n) (a6 ps n)] = some (av q) /\ aA q /\ ∀ x y,aP q x y ↔ uT ps n x y
theorem xP {ps:List (List Blk)} (hf:FOk ps) {n w:Nat} (hw:WsLe (a6 ps n) w) (h:w <= 5000):qU ps n:=by
 obtain ⟨q,a1,a2,a3⟩:=mK (b6 n) (dY n) (a6 ps n) (ma hf n) mX vp (ve mX) hw (by show 1 * w <= 5000;lia)
 exact ⟨q,vo (dY n) a1,a2,fun x y=>by rw [a3,Ba,dZ hf]⟩
theorem wS {b:Blk} (hb:BOk b) (h4:b.2.2.2 - b.2.1 <= 4) {n:Nat} (hn:n <= 40):qU [[b]] n:=by
 have hf:FOk [[b]]:=kG (by simp) fun c hc=>by rw [List.mem_singleton] at hc;subst hc;exact hb
 have et:eR (aw [[b]]) = b:=ke b
 exact xP hf (qG (w:=1) (H:=4) hf (by rw [et];exact h4) (Nat.le_refl 1) n) (by rw [Nat.one_pow];lia)
theorem lV {ps:List (List Blk)} {x0 y0 dx dy:Int} (h:∀ u v,Off ps u v ↔ (u = x0 /\ v = y0) \/ (u = x0 + dx /\ v = y0 + dy)):∀ (n:Nat) (x y:Int),uT ps n x y ↔ ∃ k:Nat,k <= n /\ x = (n:Int) * x0 + (k:Int) * dx /\ y = (n:Int) * y0 + (k:Int) * dy
 | 0,x,y=>by
  show x = 0 /\ y = 0 ↔ _
  constructor
  ·rintro ⟨rfl,rfl⟩
   exact ⟨0,Nat.le_refl _,by simp,by simp⟩
  ·rintro ⟨k,hk,rfl,rfl⟩
   rw [Nat.le_zero.mp hk]
   simp
 | n + 1,x,y=>by
  constructor
  ·rintro ⟨u,v,h1,h2⟩
   obtain ⟨k,hk,e1,e2⟩:=(lV h n u v).mp h1
   rcases (h _ _).mp h2 with ⟨e3,e4⟩ | ⟨e3,e4⟩
   ·refine ⟨k,by lia,?_,?_⟩ <;> rw [Int.natCast_add,Int.add_mul] <;> lia
   ·refine ⟨k + 1,by lia,?_,?_⟩ <;> rw [Int.natCast_add,Int.natCast_add,Int.add_mul,Int.add_mul] <;> lia
  ·rintro ⟨k,hk,e1,e2⟩
   rw [Int.natCast_add,Int.add_mul] at e1 e2
   by_cases hkn:k <= n
   ·exact ⟨_,_,(lV h n _ _).mpr ⟨k,hkn,rfl,rfl⟩,(h _ _).mpr (.inl ⟨by lia,by lia⟩)⟩
   ·have ek:k = n + 1:=by lia
    subst ek
    rw [Int.natCast_add,Int.add_mul] at e1 e2
    exact ⟨_,_,(lV h n _ _).mpr ⟨n,Nat.le_refl _,rfl,rfl⟩,(h _ _).mpr (.inr ⟨by lia,by lia⟩)⟩
theorem Cy {bs:List Blk} (h:1 < bs.length):∀ n,lu [bs] n = List.replicate n bs
 | 0=>rfl
 | n + 1=>by
  have e2:bL [bs] = [bs]:=by unfold bL;simp;lia
  rw [lu,Cy h n,e2,List.replicate_succ']
theorem yq (bs:List Blk):∀ (n:Nat) (x y:Int),Off (List.replicate n bs) x y ↔ uT [bs] n x y
 | 0,x,y=>Iff.rfl
 | n + 1,x,y=>by
  rw [List.replicate_succ',kA]
  constructor
  ·rintro ⟨u,v,h1,h2⟩
   exact ⟨u,v,(yq bs n u v).mp h1,h2⟩
  ·rintro ⟨u,v,h1,h2⟩
   exact ⟨u,v,(yq bs n u v).mpr h1,h2⟩
theorem DL {bs:List Blk} {x0 y0 dx dy:Int} (o:BTwo bs x0 y0 dx dy) {n:Nat} (hn:n <= 40):qU [bs] n:=by
 rcases o.cases with ⟨b,rfl,k1,k2⟩ | ⟨k1,k2⟩
 ·exact wS k1 (by lia) hn
 have hf:=kG o.ne o.ok
 have hm:∀ u v,Off [bs] u v ↔ (u = x0 /\ v = y0) \/ (u = x0 + dx /\ v = y0 + dy):=fun u v=>(yG bs u v).trans (o.mem u v)
 have hcov:∀ j,Cov (j + 1) (GrF mX (List.replicate j bs)):=fun j=>by
  refine ⟨(List.range (j + 1)).map fun k:Nat=>((j:Int) * y0 + (k:Int) * dy,(j:Int) * x0 + (k:Int) * dx,(j:Int) * x0 + (k:Int) * dx),by rw [List.length_map,List.length_range];exact Nat.le_refl _,fun x y=>?_⟩
  rw [Ba,yq,lV hm]
  constructor
  ·rintro ⟨t,ht,e,h1,h2⟩
   obtain ⟨k,hk,rfl⟩:=List.mem_map.mp ht
   have:=List.mem_range.mp hk
   dsimp only at e h1 h2
   exact ⟨k,by lia,by lia,by lia⟩
  ·rintro ⟨k,hk,rfl,rfl⟩
   exact ⟨_,List.mem_map.mpr ⟨k,List.mem_range.mpr (by lia),rfl⟩,rfl,Int.le_refl _,Int.le_refl _⟩
 have et:eR (aw [bs]) = (0,0,0,0):=by
  have e:aw [bs] = []:=by unfold aw;simp;lia
  rw [e];rfl
 have ef:a6 [bs] n = [(0,0,0,0)] :: List.replicate n bs:=by
  rw [oY,et,Cy k1]
  simp [nB]
 obtain ⟨q,a1,a2,a3⟩:=pj (b6 n) (dY n) (a6 [bs] n) (ma hf n) mX vp (by
  intro post cs pre e
  rw [ef] at e
  rcases post with _ | ⟨c,post⟩
  ·obtain ⟨e1,e2⟩:=List.cons.inj e
   subst e1 e2
   exact ⟨n + 1,hcov n,by show 1 * (n + 1) <= 10000;lia⟩
  ·obtain ⟨_,e2⟩:=List.cons.inj e
   replace e2:List.replicate n bs = post ++ cs :: pre:=e2
   have hl:=congrArg List.length e2
   rw [List.length_replicate,List.length_append,List.length_cons] at hl
   have hcs:cs = bs:=List.eq_of_mem_replicate (n:=n) (by rw [e2];simp)
   have hpre:pre = List.replicate pre.length bs:=List.eq_replicate_iff.mpr ⟨rfl,fun z hz=>List.eq_of_mem_replicate (n:=n) (by rw [e2];simp [hz])⟩
   refine ⟨pre.length + 1,by rw [hpre,List.length_replicate];exact hcov _,?_⟩
   rw [hcs]
   have h1:=o.w.1
   have:=Nat.mul_le_mul h1 (show pre.length + 1 <= 41 by lia)
   lia)
 exact ⟨q,vo (dY n) a1,a2,fun x y=>by rw [a3,Ba,dZ hf]⟩
def rQ (gs:Pic) (t:Tri):Pic:=match gs.getLast? with
 | some g=>if g.1 = t.1 then gs.dropLast ++ [(g.1,step g.2 t.2)] else gs ++ [(t.1,[t.2])]
 | none=>[(t.1,[t.2])]
theorem Dj (t:Tri):rQ [] t = [(t.1,[t.2])]:=rfl
theorem vq (gs:Pic) (g:Int × R) (t:Tri):rQ (gs ++ [g]) t = if g.1 = t.1 then gs ++ [(g.1,step g.2 t.2)] else gs ++ [g] ++ [(t.1,[t.2])]:=by
 unfold rQ
 simp
def pP (ts:List Tri):Pic:=ts.foldl rQ []
theorem wE (pre:List Tri) (t:Tri):pP (pre ++ [t]) = rQ (pP pre) t:=by unfold pP;rw [List.foldl_append];rfl
theorem GW (acc:R) (p:Int × Int):step acc p ≠ []:=by
 rcases List.eq_nil_or_concat acc with rfl | ⟨t,q,rfl⟩
 ·rw [t9];simp
 ·rw [List.concat_eq_append,iA]
  split <;> simp
theorem zo {acc:R} {p q:Int × Int} (h:q ∈ step acc p):q.1 = p.1 \/ ∃ q' ∈ acc,q'.1 = q.1:=by
 rcases List.eq_nil_or_concat acc with rfl | ⟨t,z,rfl⟩
 ·rw [t9,List.mem_singleton] at h
  subst h;exact .inl rfl
 ·rw [List.concat_eq_append] at h ⊢
  rw [iA] at h
  split at h
  ·rcases List.mem_append.mp h with h | h
   ·exact .inr ⟨q,List.mem_append_left _ h,rfl⟩
   ·rw [List.mem_singleton] at h
    subst h
    exact .inr ⟨z,by simp,rfl⟩
  ·rcases List.mem_append.mp h with h | h
   ·exact .inr ⟨q,h,rfl⟩
   ·rw [List.mem_singleton] at h
    subst h;exact .inl rfl
structure LOk (gs:Pic) (pre:List Tri):Prop where
 can:aA gs
 mem:∀ x y,aP gs x y ↔ jp pre x y
 fst:∀ g ∈ gs,∀ q ∈ g.2,∃ t ∈ pre,t.1 = g.1 /\ t.2.1 = q.1
 row:∀ g ∈ gs,∃ t ∈ pre,t.1 = g.1
 len:gs.length <= pre.length
 lens:∀ g ∈ gs,g.2.length <= pre.length
theorem t0 (t:Tri) (x y:Int):jp [t] x y ↔ t.1 = y /\ t.2.1 <= x /\ x <= t.2.2:=by
 rw [qA]
 constructor
 ·rintro (h | ⟨_,h,_⟩)
  ·exact h
  ·cases h
 ·exact .inl
theorem o6 (q:Int × R) (x y:Int):aP [q] x y ↔ q.1 = y /\ Mem q.2 x:=by
 rw [bx]
 constructor
 ·rintro (h | h)
  ·exact h
  ·exact (cP _ _ h).elim
 ·exact .inl
theorem sZ (p:Int × Int) (x:Int):Mem [p] x ↔ p.1 <= x /\ x <= p.2:=by
 rw [mem_cons]
 constructor
 ·rintro (h | h)
  ·exact h
  ·exact (br _ h).elim
 ·exact .inl
theorem qV {p:Int × Int} (h:p.1 <= p.2):bw [p]:=canon_cons.mpr ⟨h,fun _ h=>(by cases h),gA⟩
theorem Fz {gs:Pic} {pre:List Tri} {t:Tri} (o:LOk gs pre) (ht:t.2.1 <= t.2.2) (hb:∀ s ∈ pre,s.1 < t.1 \/ (s.1 = t.1 /\ s.2.1 <= t.2.1)):LOk (rQ gs t) (pre ++ [t]):=by
 have hle:∀ g ∈ gs,g.1 <= t.1:=fun g hg=>by
  obtain ⟨s,hs,e⟩:=o.row g hg
  have:=hb s hs
  lia
 rcases List.eq_nil_or_concat gs with rfl | ⟨gs0,g,rfl⟩
 ·rw [Dj]
  refine ⟨pcanon_cons.mpr ⟨⟨qV ht,by simp⟩,fun _ h=>(by cases h),kv⟩,fun x y=>?_,fun g hg q hq=>?_,fun g hg=>?_,by simp,fun g hg=>?_⟩
  ·rw [o6,fJ,<- o.mem,t0,sZ]
   exact ⟨.inr,fun h=>h.elim (fun h=>(cP _ _ h).elim) id⟩
  ·rw [List.mem_singleton] at hg
   subst hg
   rw [List.mem_singleton] at hq
   subst hq
   exact ⟨t,by simp,rfl,rfl⟩
  ·rw [List.mem_singleton] at hg
   subst hg
   exact ⟨t,by simp,rfl⟩
  ·rw [List.mem_singleton] at hg
   subst hg
   simp
 ·rw [List.concat_eq_append] at o hle ⊢
  rw [vq]
  have hg0:g ∈ gs0 ++ [g]:=by simp
  have cg:=o.can.1 g hg0
  have pw:=List.pairwise_append.mp o.can.2
  by_cases c:g.1 = t.1
  ·rw [if_pos c]
   have lo:∀ q ∈ g.2,q.1 <= t.2.1:=fun q hq=>by
    obtain ⟨s,hs,e1,e2⟩:=o.fst g hg0 q hq
    have:=hb s hs
    lia
   obtain ⟨s1,s2,s3⟩:=Ce cg.1 (p:=t.2) ht lo
   refine ⟨⟨fun q hq=>?_,?_⟩,fun x y=>?_,fun g' hg q hq=>?_,fun g' hg=>?_,?_,fun g' hg=>?_⟩
   ·rcases List.mem_append.mp hq with hq | hq
    ·exact o.can.1 q (List.mem_append_left _ hq)
    ·rw [List.mem_singleton] at hq
     subst hq
     exact ⟨s1,GW _ _⟩
   ·refine List.pairwise_append.mpr ⟨pw.1,List.pairwise_singleton _ _,fun a ha b hb=>?_⟩
    rw [List.mem_singleton] at hb
    subst hb
    exact pw.2.2 a ha g (by simp)
   ·have:=o.mem x y
    rw [fH,o6] at this
    rw [fH,o6,fJ,<- this,t0]
    dsimp only
    rw [s2 x]
    constructor
    ·rintro (h | ⟨h1,h2 | h2⟩)
     ·exact .inl (.inl h)
     ·exact .inl (.inr ⟨h1,h2⟩)
     ·exact .inr ⟨c.symm.trans h1,h2⟩
    ·rintro ((h | ⟨h1,h2⟩) | ⟨h1,h2⟩)
     ·exact .inl h
     ·exact .inr ⟨h1,.inl h2⟩
     ·exact .inr ⟨c.trans h1,.inr h2⟩
   ·rcases List.mem_append.mp hg with hg | hg
    ·obtain ⟨s,hs,e⟩:=o.fst g' (List.mem_append_left _ hg) q hq
     exact ⟨s,List.mem_append_left _ hs,e⟩
    ·rw [List.mem_singleton] at hg
     subst hg
     rcases zo hq with e | ⟨q',hq',e⟩
     ·exact ⟨t,by simp,c.symm,e.symm⟩
     ·obtain ⟨s,hs,e1,e2⟩:=o.fst g hg0 q' hq'
      exact ⟨s,List.mem_append_left _ hs,e1,e2.trans e⟩
   ·rcases List.mem_append.mp hg with hg | hg
    ·obtain ⟨s,hs,e⟩:=o.row g' (List.mem_append_left _ hg)
     exact ⟨s,List.mem_append_left _ hs,e⟩
    ·rw [List.mem_singleton] at hg
     subst hg
     exact ⟨t,by simp,c.symm⟩
   ·have:=o.len
    rw [List.length_append] at this ⊢
    rw [List.length_append]
    simp at this ⊢
    lia
   ·rw [List.length_append,List.length_singleton]
    rcases List.mem_append.mp hg with hg | hg
    ·have:=o.lens g' (List.mem_append_left _ hg)
     lia
    ·rw [List.mem_singleton] at hg
     subst hg
     have:=o.lens g hg0
     have:=zR g.2 t.2
     dsimp only
     lia
  ·rw [if_neg c]
   have hlt:∀ a ∈ gs0 ++ [g],a.1 < t.1:=fun a ha=>by
    have h1:=hle g hg0
    rcases List.mem_append.mp ha with ha | ha
    ·have:=pw.2.2 a ha g (by simp)
     lia
    ·rw [List.mem_singleton] at ha
     subst ha
     lia
   refine ⟨⟨fun q hq=>?_,?_⟩,fun x y=>?_,fun g' hg q hq=>?_,fun g' hg=>?_,?_,fun g' hg=>?_⟩
   ·rcases List.mem_append.mp hq with hq | hq
    ·exact o.can.1 q hq
    ·rw [List.mem_singleton] at hq
     subst hq
     exact ⟨qV ht,by simp⟩
   ·refine List.pairwise_append.mpr ⟨o.can.2,List.pairwise_singleton _ _,fun a ha b hb=>?_⟩
    rw [List.mem_singleton] at hb
    subst hb
    exact hlt a ha
   ·rw [fH,o.mem,o6,fJ,t0,sZ]
   ·rcases List.mem_append.mp hg with hg | hg
    ·obtain ⟨s,hs,e⟩:=o.fst g' hg q hq
     exact ⟨s,List.mem_append_left _ hs,e⟩
    ·rw [List.mem_singleton] at hg
     subst hg
     rw [List.mem_singleton] at hq
     subst hq
     exact ⟨t,by simp,rfl,rfl⟩
   ·rcases List.mem_append.mp hg with hg | hg
    ·obtain ⟨s,hs,e⟩:=o.row g' hg
     exact ⟨s,List.mem_append_left _ hs,e⟩
    ·rw [List.mem_singleton] at hg
     subst hg
     exact ⟨t,by simp,rfl⟩
   ·have:=o.len
    rw [List.length_append,List.length_append (bs:=[t])]
    simp at this ⊢
    lia
   ·rw [List.length_append,List.length_singleton]
    rcases List.mem_append.mp hg with hg | hg
    ·have:=o.lens g' hg
     lia
    ·rw [List.mem_singleton] at hg
     subst hg
     simp
theorem Ci:∀ (post pre:List Tri),(∀ t ∈ pre ++ post,t.2.1 <= t.2.2) -> (pre ++ post).Pairwise (fun p q=>p.1 < q.1 \/ (p.1 = q.1 /\ p.2.1 <= q.2.1)) -> LOk (pP pre) pre -> LOk (pP (pre ++ post)) (pre ++ post)
 | [],pre,_,_,o=>by rw [List.append_nil];exact o
 | t :: post,pre,h1,h2,o=>by
  have e:pre ++ t :: post = (pre ++ [t]) ++ post:=by simp
  rw [e] at h1 h2 ⊢
  refine Ci post (pre ++ [t]) h1 h2 ?_
  rw [wE]
  refine Fz o (h1 t (by simp)) fun s hs=>?_
  exact (List.pairwise_append.mp (List.pairwise_append.mp h2).1).2.2 s hs t (by simp)
theorem GA:LOk (pP []) []:=⟨kv,fun x y=>⟨fun h=>(cP _ _ h).elim,fun ⟨_,h,_⟩=>(by cases h)⟩,fun _ h=>(by cases h),fun _ h=>(by cases h),Nat.le_refl _,fun _ h=>(by cases h)⟩
theorem D4 (ps:R):(ll ps).Pairwise fun p q=>p.1 < q.1 \/ (p.1 = q.1 /\ p.2 <= q.2):=by
 have h:=pk (ps.map ua)
 rw [<- nU,List.pairwise_map] at h
 refine h.imp fun {p q} e=>?_
 have e':(if q.1 = p.1 then (if q.2 = p.2 then false else decide (q.2 < p.2)) else decide (q.1 < p.1)) = false:=e
 by_cases hq:q.1 = p.1
 ·rw [if_pos hq] at e'
  by_cases hr:q.2 = p.2
  ·exact .inr ⟨hq.symm,by lia⟩
  ·rw [if_neg hr] at e'
   have:=of_decide_eq_false e'
   exact .inr ⟨hq.symm,by lia⟩
 ·rw [if_neg hq] at e'
  have:=of_decide_eq_false e'
  exact .inl (by lia)
theorem Et (l:List D) (z:D):jO (l ++ [z]) none (some (-1)) = l:=by
 have h1:HT.sIx (l.length + 1) (l.length + 1) (some (-1)) = l.length:=by
  unfold HT.sIx
  simp
  try lia
 have h0:HT.sIx (l.length + 1) 0 none = 0:=rfl
 unfold jO
 rw [List.length_append,List.length_singleton,h0,h1]
 simp
theorem zu (s0:Sl) (gs:Pic) (c:Int × Int) (h:gs.length <= 1000) (hg:∀ g ∈ gs,g.2.length <= 1000 /\ g.2 ≠ []) (hm:∀ g ∈ gs,g.1 = c.1 -> ∀ q ∈ g.2,q.2 <= c.2):c9 [s0,owl (gs.map pyD),.sh (.int c.1),.sh (.int c.2)] = some (.nx [s0,owl ((rQ gs (c.1,c.2,c.2)).map pyD),.sh (.int c.1),.sh (.int c.2)]):=by
 have l1:1 <= LIM:=aW (by lia)
 have l2:2 <= LIM:=aW (by lia)
 rcases List.eq_nil_or_concat gs with rfl | ⟨gs0,g,rfl⟩
 ·simp [c9,rQ,l1,l2,prD]
 ·rw [List.concat_eq_append] at *
  rw [vq]
  have hl:gs0.length + 1 <= 1000:=by simpa using h
  have hlim:gs0.length + 1 < LIM:=ie (by lia)
  obtain ⟨hgl,hgn⟩:=hg g (by simp)
  have hmm:=hm g (by simp)
  have hg2:g.2.length + 1 <= LIM:=aW (by lia)
  have at1:atI (gs0.map pyD ++ [pyD g]) (-1) = some (pyD g):=gR _ _
  have hne:¬ (gs0.length:Int) + 1 = 0:=by lia
  obtain ⟨y,r⟩:=g
  dsimp only at hgl hgn hg2 at1 hmm ⊢
  rcases List.eq_nil_or_concat r with rfl | ⟨r0,q,rfl⟩
  ·exact absurd rfl hgn
  rw [List.concat_eq_append] at *
  rw [iA]
  have at2:atI (r0.map prD ++ [prD q]) (-1) = some (prD q):=gR _ _
  by_cases hc:y = c.1
  ·have hq:=hmm hc q (by simp)
   by_cases hx:c.2 <= q.2 + 1
   ·have hx':¬ q.2 + 1 < c.2:=by lia
    have hr0:r0.length + 1 <= LIM:=aW (by rw [List.length_append] at hgl;simp at hgl;lia)
    rw [if_pos hc,if_pos hx]
    have cl:=Et (r0.map prD) (prD q)
    simp [c9,at1,at2,hc,hx',hne,l1,l2,dSl,cl,mw,bK,hr0]
    lia
   ·have hx':q.2 + 1 < c.2:=by lia
    have hr0:r0.length + 1 + 1 <= LIM:=aW (by rw [List.length_append] at hgl;simp at hgl;lia)
    rw [if_pos hc,if_neg hx]
    simp [c9,at1,at2,hc,hx',hne,l1,l2,mw,bK,hr0]
  ·rw [if_neg hc]
   simp [c9,at1,hc,hlim,hne,l1,l2]
theorem kR (cs:R) (hl:cs.length <= 1000):∃ q:Pic,mN [.lst (cs.map prD)] = some (av q) /\ aA q /\ (∀ x y,aP q x y ↔ (x,y) ∈ cs) /\ (ak q).length <= cs.length:=by
 have l2:2 <= LIM:=aW (by lia)
 have hL:cs.length <= LIM:=aW (by lia)
 have c1:b7 (bn (ar (ai 0) (ar (ai 1) bg))) dW (a9 (af (aq 1) (af (aq 0) ap))) [.un,.un] (cs.map prD) = some ((cs.map fun c=>(c.2,c.1)).map prD):=by
  rw [List.map_map]
  exact bA prD _ cs fun c _=>by simp [fP,l2]
 have hb:=rR (cs.map fun c=>(c.2,c.1)) (by rw [List.length_map];lia)
 have hlex:=D4 (cs.map fun c=>(c.2,c.1))
 have hperm:=gF (cs.map fun c=>(c.2,c.1))
 generalize ll (cs.map fun c=>(c.2,c.1)) = sp at *
 have hsl:sp.length = cs.length:=by have:=hperm.length_eq;rw [List.length_map] at this;lia
 have hok:∀ pre post:R,sp = pre ++ post -> LOk (pP (pre.map fun c=>(c.1,c.2,c.2))) (pre.map fun c=>(c.1,c.2,c.2)):=fun pre post e=>by
  have h2:(pre.map fun c:Int × Int=>((c.1,c.2,c.2):Tri)).Pairwise fun p q=>p.1 < q.1 \/ (p.1 = q.1 /\ p.2.1 <= q.2.1):=by
   rw [List.pairwise_map]
   rw [e] at hlex
   exact (List.pairwise_append.mp hlex).1
  have:=Ci (pre.map fun c:Int × Int=>((c.1,c.2,c.2):Tri)) [] (fun t ht=>by
   rw [List.nil_append] at ht
   obtain ⟨c,_,rfl⟩:=List.mem_map.mp ht
   exact Int.le_refl _) (by rw [List.nil_append];exact h2) GA
  rw [List.nil_append] at this
  exact this
 obtain ⟨ρ',k1,v2,v3,rfl⟩:=ci (g:=bn (ar (ai 2) (ar (ai 3) bg))) (m:=c9) prD (fun pre ρ=>∃ v2 v3:Sl,ρ = [.sh (.lst (cs.map prD)),owl ((pP (pre.map fun c=>(c.1,c.2,c.2))).map pyD),v2,v3]) sp [.sh (.lst (cs.map prD)),.ow (.lst []),.un,.un] ⟨.un,.un,rfl⟩ fun pre c post ρ e hpt0=>by
  obtain ⟨v2,v3,hρ⟩:=hpt0
  subst hρ
  have o:=hok pre (c :: post) e
  have hpl:pre.length < sp.length:=by rw [e,List.length_append,List.length_cons];lia
  have hlen:=o.len
  rw [List.length_map] at hlen
  have ht:=zu (.sh (.lst (cs.map prD))) (pP (pre.map fun c=>(c.1,c.2,c.2))) c (by lia) (fun g hg=>⟨by have:=o.lens g hg;rw [List.length_map] at this;lia,(o.can.1 g hg).2⟩) fun g hg e1 q hq=>by
   obtain ⟨t,ht,e2,e3,e4⟩:=(o.mem q.2 g.1).mp ⟨g,hg,rfl,q,hq,(o.can.1 g hg).1.1 q hq,Int.le_refl _⟩
   obtain ⟨d,hd,rfl⟩:=List.mem_map.mp ht
   rw [e] at hlex
   have:=(List.pairwise_append.mp hlex).2.2 d hd c List.mem_cons_self
   dsimp only at e2 e3 e4
   lia
  refine ⟨_,_,rfl,.inl ht,.sh (.int c.1),.sh (.int c.2),?_⟩
  rw [List.map_append,List.map_cons,List.map_nil,wE]
 have o:=hok sp [] (by simp)
 have hm:∀ x y,aP (pP (sp.map fun c=>(c.1,c.2,c.2))) x y ↔ (x,y) ∈ cs:=fun x y=>by
  rw [o.mem x y]
  constructor
  ·rintro ⟨t,ht,e1,e2,e3⟩
   obtain ⟨c,hc,rfl⟩:=List.mem_map.mp ht
   obtain ⟨d,hd,e4⟩:=List.mem_map.mp (hperm.mem_iff.mp hc)
   subst e4
   dsimp only at e1 e2 e3
   have:d = (x,y):=by
    obtain ⟨a,b⟩:=d
    dsimp only at e1 e2 e3
    rw [e1,show a = x by lia]
   rw [<- this]
   exact hd
  ·intro h
   exact ⟨(y,x,x),List.mem_map.mpr ⟨(y,x),hperm.mem_iff.mpr (List.mem_map.mpr ⟨(x,y),h,rfl⟩),rfl⟩,rfl,Int.le_refl _,Int.le_refl _⟩
 have hE:gv (sp.map fun c=>(c.1,c.2,c.2)) = pP (sp.map fun c=>(c.1,c.2,c.2)):=t6 o.can fun x y=>(o.mem x y).symm
 refine ⟨pP (sp.map fun c=>(c.1,c.2,c.2)),?_,o.can,hm,?_⟩
 ·show _ = some (D.tup ((pP (sp.map fun c=>(c.1,c.2,c.2))).map pyD))
  clear hm hE o
  generalize (pP (sp.map fun c=>(c.1,c.2,c.2))).map pyD = G at *
  have hb':ic [.lst ((cs.map fun c=>(c.2,c.1)).map prD)] = some (sp.map prD):=hb
  generalize (cs.map fun c=>(c.2,c.1)).map prD = CC at *
  generalize sp.map prD = SP at *
  have hrun:kn [.sh (.lst (cs.map prD)),.un,.un,.un] = some (.rt (.tup G)):=by
   simp [kn,hL,c1,hb',yT,k1]
  exact pQ (n:=4) (ds:=[.lst (cs.map prD)]) hrun
 ·have:=kd (sp.map fun c=>(c.1,c.2,c.2))
  rw [hE,List.length_map] at this
  lia
theorem cV (ns:List Int) (k:Nat):∃ v:Int,aH [.scr (ns.map D.int),.int (k:Int)] = some (.int v):=by
 by_cases h:k < ns.length
 ·have h':(k:Int) < ns.length:=by lia
  have ac:atI (ns.map D.int) (k:Int) = some (.int ns[k]):=kE (by rw [List.getElem?_map,List.getElem?_eq_getElem h];rfl)
  exact ⟨ns[k],by simp [aH,jG,fnO,i4,h',ac]⟩
 ·have h':¬ (k:Int) < ns.length:=by lia
  exact ⟨0,by simp [aH,jG,fnO,i4,h']⟩
theorem mr (c m:Int) (h:0 < m):∃ v:Int,fI [.int c,.int m] = some (.int v):=by
 by_cases h0:c < 0
 ·exact ⟨_,by simp [fI,kt,fnO,kg,h0,h];rfl⟩
 ·exact ⟨_,by simp [fI,kt,fnO,kg,h0,h];rfl⟩
theorem xU (a b x:Int) (ha:0 < a) (hb:0 < b):∃ u:Int,0 < u /\ atI [D.int a,.int b] (x % 2) = some (.int u):=by
 have:x % 2 = 0 \/ x % 2 = 1:=by lia
 rcases this with e | e <;> rw [e]
 ·exact ⟨a,ha,rfl⟩
 ·exact ⟨b,hb,rfl⟩
abbrev BL (l u r d:Int):Blk:=(-l,-u,r,d)
theorem DM (l u r d:Int) (h1:0 <= l) (h2:0 <= u) (h3:0 <= r) (h4:0 <= d):xJ [.int l,.int u,.int r,.int d] = some (bX [[BL l u r d]]):=by
 have hm:∃ m:Int,BQ [.int l,.int u,.int r,.int d] = some (.int m) /\ 0 <= m:=by
  exact ⟨min l (min u (min r d)),rfl,Int.le_min.mpr ⟨h1,Int.le_min.mpr ⟨h2,Int.le_min.mpr ⟨h3,h4⟩⟩⟩⟩
 obtain ⟨m,hm,m0⟩:=hm
 have m1:¬ m < 0:=by lia
 simp [xJ,zS,hm,m1]
theorem yQ (a:Int) (h:0 <= a):pD [.int a] = some (bX [bc a]):=by
 have h':¬ a < 0:=by lia
 simp [pD,zS,h',bc]
theorem y6 {α:Type} (l:List α) (y:α -> Int) (s:α -> Int × Int) (hs:∀ a ∈ l,(s a).1 <= (s a).2) (pw:l.Pairwise fun a b=>y a < y b) :
  aA (l.map fun a=>(y a,[s a])) /\ (ak (l.map fun a=>(y a,[s a]))).length = l.length /\ ∀ x z,aP (l.map fun a=>(y a,[s a])) x z ↔ ∃ a ∈ l,y a = z /\ (s a).1 <= x /\ x <= (s a).2:=by
 refine ⟨⟨fun q hq=>?_,?_⟩,?_,fun x z=>?_⟩
 ·obtain ⟨a,ha,rfl⟩:=List.mem_map.mp hq
  exact ⟨qV (hs a ha),by simp⟩
 ·rw [List.pairwise_map]
  exact pw
 ·clear hs pw
  induction l with
  | nil=>rfl
  | cons a l ih=>rw [List.map_cons,bu,List.length_append,ih,List.length_map,List.length_cons,List.length_cons,List.length_nil];lia
 ·constructor
  ·rintro ⟨q,hq,e,h⟩
   obtain ⟨a,ha,rfl⟩:=List.mem_map.mp hq
   exact ⟨a,ha,e,(sZ _ _).mp h⟩
  ·rintro ⟨a,ha,e,h⟩
   exact ⟨_,List.mem_map.mpr ⟨a,ha,rfl⟩,e,(sZ _ _).mpr h⟩
theorem zm:∀ (n:Nat) (i:Int),∃ l:List Int,cH i n = l.map D.int /\ l.length = n /\ l.Pairwise (· < ·) /\ ∀ y,y ∈ l ↔ i <= y /\ y < i + n
 | 0,i=>⟨[],rfl,rfl,List.Pairwise.nil,fun y=>by simp⟩
 | n + 1,i=>by
  obtain ⟨l,h1,h2,h3,h4⟩:=zm n (i + 1)
  refine ⟨i :: l,by rw [cH,h1];rfl,by rw [List.length_cons,h2],List.pairwise_cons.mpr ⟨fun y hy=>by have:=(h4 y).mp hy;lia,h3⟩,fun y=>?_⟩
  rw [List.mem_cons,h4]
  lia
theorem xH (l u r d:Int) (h1:0 <= l) (h2:0 <= u /\ u <= 2) (h3:0 <= r) (h4:0 <= d /\ d <= 2) (n:Nat) (hn:n <= 20):∃ q:Pic,FL [.lst [.int l,.int u,.int r,.int d],.int (n:Int)] = some (av q) /\ aA q /\ ∀ x y,aP q x y ↔ jq (nB (BL l u r d) n) x y:=by
 have l1:1 <= LIM:=aW (by lia)
 have l2:2 <= LIM:=aW (by lia)
 have hun:0 <= u * n /\ u * n <= 40:=⟨Int.mul_nonneg h2.1 (by lia),by have:=Int.mul_le_mul h2.2 (show (n:Int) <= 20 by lia) (by lia) (by lia);lia⟩
 have hdn:0 <= d * n /\ d * n <= 40:=⟨Int.mul_nonneg h4.1 (by lia),by have:=Int.mul_le_mul h4.2 (show (n:Int) <= 20 by lia) (by lia) (by lia);lia⟩
 have hln:0 <= l * n:=Int.mul_nonneg h1 (by lia)
 have hrn:0 <= r * n:=Int.mul_nonneg h3 (by lia)
 obtain ⟨ys,e1,e2,e3,e4⟩:=zm ((d * n + 1) - (0 - u * n)).toNat (0 - u * n)
 have hr:xF [.int (0 - u * n),.int (d * n + 1)] = some (ys.map D.int):=by rw [HI (by lia),e1]
 obtain ⟨c1,c2,c3⟩:=y6 ys (fun y=>y) (fun _=>(0 - l * n,r * n)) (fun a _=>by dsimp only;lia) e3
 obtain ⟨ρ',k1,v7,rfl⟩:=ci (g:=ai 7) (m:=pe) D.int (fun pre ρ=>∃ v7:Sl,ρ = [.sh (.lst [.int l,.int u,.int r,.int d]),.sh (.int (n:Int)),.sh (.int l),.sh (.int u),.sh (.int r),.sh (.int d),owl ((pre.map fun y=>((y,[(0 - l * n,r * n)]):Int × R)).map pyD),v7]) ys [.sh (.lst [.int l,.int u,.int r,.int d]),.sh (.int (n:Int)),.sh (.int l),.sh (.int u),.sh (.int r),.sh (.int d),.ow (.lst []),.un] ⟨.un,rfl⟩ (by
  rintro pre y post _ e ⟨v7,rfl⟩
  have hpl:pre.length < LIM:=ie (by
   have:=congrArg List.length e
   rw [e2,List.length_append,List.length_cons] at this
   lia)
  refine ⟨_,[.sh (.lst [.int l,.int u,.int r,.int d]),.sh (.int (n:Int)),.sh (.int l),.sh (.int u),.sh (.int r),.sh (.int d),owl (((pre ++ [y]).map fun y=>((y,[(0 - l * n,r * n)]):Int × R)).map pyD),.sh (.int y)],rfl,.inl ?_,_,rfl⟩
  have m1:=yh (i:=l) (j:=(n:Int)) (by lia)
  have m2:=yh (i:=r) (j:=(n:Int)) (by lia)
  simp [pe,l1,l2,hpl,m1,m2])
 refine ⟨_,?_,c1,fun x y=>?_⟩
 ·show _ = some (D.tup ((ys.map fun y=>((y,[(0 - l * n,r * n)]):Int × R)).map pyD))
  generalize (ys.map fun y=>((y,[(0 - l * n,r * n)]):Int × R)).map pyD = G at *
  generalize ys.map D.int = Y at *
  have hrun:vw [.sh (.lst [.int l,.int u,.int r,.int d]),.sh (.int (n:Int)),.un,.un,.un,.un,.un,.un] = some (.rt (.tup G)):=by
   have m1:=yh (i:=u) (j:=(n:Int)) (by lia)
   have m2:=yh (i:=d) (j:=(n:Int)) (by lia)
   rw [Int.zero_sub] at hr
   simp [vw,EF,ar,bg,m1,m2,hr,k1]
  exact pQ (n:=8) (ds:=[.lst [.int l,.int u,.int r,.int d],.int (n:Int)]) hrun
 ·rw [c3]
  unfold jq nB BL
  dsimp only
  have a1:(n:Int) * -l = -(l * n):=by rw [Int.mul_neg,Int.mul_comm]
  have a2:(n:Int) * -u = -(u * n):=by rw [Int.mul_neg,Int.mul_comm]
  rw [a1,a2,Int.mul_comm (n:Int) r,Int.mul_comm (n:Int) d]
  constructor
  ·rintro ⟨z,hz,rfl,h5,h6⟩
   have:=(e4 z).mp hz
   lia
  ·rintro ⟨h5,h6,h7,h8⟩
   exact ⟨y,(e4 y).mpr (by lia),rfl,by lia,by lia⟩
theorem F9 (ns:List Int) (y:Int) (k:Nat) (P57 P52:Int) (h57:0 < P57) (h52:0 < P52) (p57:vd (.int 10) (.int 57) = some (.int P57)) (p52:vd (.int 10) (.int 52) = some (.int P52)):∃ (s:Int × Int) (c:Int),s.1 <= s.2 /\ ∀ (gs:List D) (v4 v5:Sl),gs.length < LIM -> eM [.sh (.scr (ns.map D.int)),owl gs,.sh (.int y),.sh (.int (k:Int)),v4,v5] = some (.nx [.sh (.scr (ns.map D.int)),owl (gs ++ [pyD (y + k,[s])]),.sh (.int y),.sh (.int (k:Int)),.sh (.int c),.sh (.int s.1)]):=by
 have l1:1 <= LIM:=aW (by lia)
 have l2:2 <= LIM:=aW (by lia)
 obtain ⟨c,hc⟩:∃ v:Int,aH [.scr (ns.map D.int),.int (7 + (k:Int))] = some (.int v):=by
  have:=cV ns (7 + k)
  rwa [Int.natCast_add] at this
 obtain ⟨f,hf⟩:∃ v:Int,aH [.scr (ns.map D.int),.int 0] = some (.int v):=cV ns 0
 obtain ⟨u,hu,eu⟩:=xU 7 P57 (f / 128) (by lia) h57
 obtain ⟨lo,hlo⟩:=mr c u hu
 obtain ⟨w,hw,ew⟩:=xU 9 P52 c (by lia) h52
 have hm:=Int.emod_nonneg (c * 48271 % 2147483647 / 37) (show w ≠ 0 by lia)
 refine ⟨(lo,lo + c * 48271 % 2147483647 / 37 % w),c,by dsimp only;lia,fun gs v4 v5 hg=>?_⟩
 simp [-wu,eM,hc,hf,p57,p52,eu,hlo,ew,hw,l1,l2,hg]
theorem re (ns:List Int):∃ q:Pic,tI [.scr (ns.map D.int)] = some (av q) /\ aA q /\ (ak q).length <= 3 /\ RC (aP q):=by
 obtain ⟨P57,hP57⟩:∃ P:Int,(10:Int) ^ (57:Int).toNat = P:=⟨_,rfl⟩
 have p57:vd (.int 10) (.int 57) = some (.int P57):=by rw [<- hP57];exact wu (by decide)
 have h57:0 < P57:=by rw [<- hP57];decide
 obtain ⟨P52,hP52⟩:∃ P:Int,(10:Int) ^ (52:Int).toNat = P:=⟨_,rfl⟩
 have p52:vd (.int 10) (.int 52) = some (.int P52):=by rw [<- hP52];exact wu (by decide)
 have h52:0 < P52:=by rw [<- hP52];decide
 clear hP57 hP52
 obtain ⟨f,hf⟩:∃ v:Int,aH [.scr (ns.map D.int),.int 0] = some (.int v):=cV ns 0
 obtain ⟨g,hg⟩:∃ v:Int,aH [.scr (ns.map D.int),.int 6] = some (.int v):=cV ns 6
 obtain ⟨u,hu,eu⟩:=xU 9 P57 (f / 64) (by lia) h57
 obtain ⟨y,hy⟩:=mr g u hu
 obtain ⟨m,hm,hm3⟩:∃ m:Nat,1 + f / 3 % 3 = (m:Int) /\ m <= 3:=⟨(1 + f / 3 % 3).toNat,by lia,by lia⟩
 have hr:=Jh m (by lia)
 obtain ⟨S,hS⟩:∃ S:Nat -> Int × Int,∀ k,∃ c:Int,(S k).1 <= (S k).2 /\ ∀ (gs:List D) (v4 v5:Sl),gs.length < LIM -> eM [.sh (.scr (ns.map D.int)),owl gs,.sh (.int y),.sh (.int (k:Int)),v4,v5] = some (.nx [.sh (.scr (ns.map D.int)),owl (gs ++ [pyD (y + k,[S k])]),.sh (.int y),.sh (.int (k:Int)),.sh (.int c),.sh (.int (S k).1)]):=⟨fun k=>(F9 ns y k P57 P52 h57 h52 p57 p52).choose,fun k=>(F9 ns y k P57 P52 h57 h52 p57 p52).choose_spec⟩
 obtain ⟨c1,c2,c3⟩:=y6 (List.range m) (fun k:Nat=>y + (k:Int)) S (fun a _=>(hS a).choose_spec.1) (List.pairwise_lt_range.imp fun {a b} h=>by lia)
 obtain ⟨ρ',k1,v3,v4,v5,rfl⟩:=ci (g:=ai 3) (m:=eM) (fun i:Nat=>D.int (i:Int)) (fun pre ρ=>∃ v3 v4 v5:Sl,ρ = [.sh (.scr (ns.map D.int)),owl ((pre.map fun k:Nat=>((y + (k:Int),[S k]):Int × R)).map pyD),.sh (.int y),v3,v4,v5]) (List.range m) [.sh (.scr (ns.map D.int)),.ow (.lst []),.sh (.int y),.un,.un,.un] ⟨.un,.un,.un,rfl⟩ (by
  rintro pre k post _ e ⟨v3,v4,v5,rfl⟩
  have hpl:((pre.map fun k:Nat=>((y + (k:Int),[S k]):Int × R)).map pyD).length < LIM:=ie (by
   have:=congrArg List.length e
   rw [List.length_range,List.length_append,List.length_cons] at this
   rw [List.length_map,List.length_map]
   lia)
  obtain ⟨c,_,ht⟩:=hS k
  refine ⟨_,_,rfl,.inl (ht _ v4 v5 hpl),.sh (.int (k:Int)),.sh (.int c),.sh (.int (S k).1),?_⟩
  rw [List.map_append,List.map_append]
  rfl)
 refine ⟨_,?_,c1,by rw [c2,List.length_range];exact hm3,fun z a b d ha hd h1 h2=>?_⟩
 ·show _ = some (D.tup (((List.range m).map fun k:Nat=>((y + (k:Int),[S k]):Int × R)).map pyD))
  clear c1 c2 c3 hS
  generalize ((List.range m).map fun k:Nat=>((y + (k:Int),[S k]):Int × R)).map pyD = G at *
  generalize (List.range m).map (fun i:Nat=>D.int (i:Int)) = Y at *
  have hrun:iJ [.sh (.scr (ns.map D.int)),.un,.un,.un,.un,.un] = some (.rt (.tup G)):=by
   simp [-wu,iJ,hf,hg,p57,eu,hy,hm,hr,k1]
  exact pQ (n:=6) (ds:=[.scr (ns.map D.int)]) hrun
 ·obtain ⟨i,hi,e1,e2,e3⟩:=(c3 _ _).mp ha
  obtain ⟨j,hj,f1,f2,f3⟩:=(c3 _ _).mp hd
  have:i = j:=by lia
  subst this
  exact (c3 _ _).mpr ⟨i,hi,e1,by lia,by lia⟩
theorem tU {e:XE} {d:D} {i:Nat} {ρ:M.Env} (h:e ρ = some d):bq e (ai i) ρ = some (.nx (ρ.set i (.sh d))):=by unfold bq;rw [h];rfl
theorem Cn {N:Str} {ps:List (List Blk)} {mi:List D -> Option D} {a:XA} {ρ:M.Env} {ds:List D} (ha:a ρ = some ds) (hi:mi ds = some (bX ps)):nt N "parts" mi a ρ = some (az N ps):=by
 unfold nt;rw [ha];show (mi ds).map _ = _;rw [hi];rfl
theorem BW {c:XT} {a:XS} {ρ:M.Env} (h:c ρ = some false):xIf c a hW ρ = some (.nx ρ):=by unfold xIf;rw [h];rfl
theorem Ej {a b:XT} {ρ:M.Env} (h:a ρ = some false) (k:b ρ = some false):xOr a b ρ = some false:=by unfold xOr;rw [h];exact k
theorem zg {a b:XE} {ρ:M.Env} {p:Pic} (h:a ρ = some (av p)) (k:b ρ = some (av p)):xB (xOp (dEq true) a b) ρ = some false:=by
 have e:xOp (dEq true) a b ρ = some (.bl false):=by unfold xOp;rw [h,k];exact xw true p
 unfold xB;rw [e];rfl
theorem Ga {a:XE} {ρ:M.Env} (h:a ρ = some (.bl true)):BB (yf a) ρ = some false:=by
 unfold BB yf;rw [h];rfl
theorem gh {f:List D -> Option D} {a:XA} {ρ:M.Env} {ds:List D} {d:D} (ha:a ρ = some ds) (h:f ds = some d):aG f a ρ = some d:=by unfold aG;rw [ha];exact h
theorem FU {b:Blk} (hb:BOk b) (n:Nat) (x y:Int):uT [[b]] n x y ↔ jq (nB b n) x y:=by
 have hf:FOk [[b]]:=kG (by simp) fun c hc=>by rw [List.mem_singleton] at hc;subst hc;exact hb
 have er:∀ n,lu [[b]] n = []:=fun n=>by
  induction n with
  | zero=>rfl
  | succ n ih=>rw [lu,ih];rfl
 have et:eR (aw [[b]]) = b:=ke b
 rw [<- dZ hf,oY,er,et,yG,eZ]
theorem nu {N:Str} (hN:NS.contains N = true) {p:Pic} (c:aA p) (h:(ak p).length <= 3):bi [az N gj,av p] = some (av p):=by
 have hw:WsLe gj 1:=jf (kf (H:=0) ⟨Int.le_refl _,Int.le_refl _⟩ (Int.le_refl _))
 obtain ⟨q,a1,a2,a3⟩:=mK N hN gj A8 p c (ve p) hw (by lia)
 have e:q = p:=jC a2 c fun x y=>by
  rw [a3]
  constructor
  ·rintro ⟨u,v,h1,h2⟩
   obtain ⟨h3,h4⟩:=(lN _ _).mp h1
   rwa [h3,h4,Int.sub_zero,Int.sub_zero] at h2
  ·intro h
   exact ⟨0,0,(lN _ _).mpr ⟨rfl,rfl⟩,by rwa [Int.sub_zero,Int.sub_zero]⟩
 rw [a1,e]
theorem vH {N:Str} (hN:NS.contains N = true) {p:Pic} (c:aA p) (h:(ak p).length <= 3) (hr:RC (aP p)):bJ [az N gj,av p] = some (av p):=by
 have hl:p.length <= 3:=by have:=yj c;lia
 obtain ⟨q,a1,a2,a3,a4⟩:=qF N hN gj A8 (fun bs hb=>by rw [List.mem_singleton.mp hb];show 1 <= 1000;decide) p c hl hr fun bs hb=>by rw [List.mem_singleton.mp hb];show 1 <= 3333;decide
 have e:q = p:=jC a2 c fun x y=>by
  rw [a4]
  constructor
  ·intro h
   have:=h 0 0 ((lN _ _).mpr ⟨rfl,rfl⟩)
   rwa [Int.add_zero,Int.add_zero] at this
  ·intro h u v ho
   obtain ⟨h3,h4⟩:=(lN _ _).mp ho
   rwa [h3,h4,Int.add_zero,Int.add_zero]
 rw [a1,e]
theorem Ft (ns:List Int) (h:ns.length <= 63):JX [.scr (ns.map D.int)] = some (.bl true):=by
 have l1:1 <= LIM:=aW (by lia)
 have l2:2 <= LIM:=aW (by lia)
 have l3:3 <= LIM:=aW (by lia)
 have l3':3 < LIM:=ie (by lia)
 obtain ⟨P50,hP50⟩:∃ P:Int,(10:Int) ^ (50:Int).toNat = P:=⟨_,rfl⟩
 have p50:vd (.int 10) (.int 50) = some (.int P50):=by rw [<- hP50];exact wu (by decide)
 have h50:0 < P50:=by rw [<- hP50];decide
 clear hP50
 obtain ⟨f,hf⟩:∃ v:Int,aH [.scr (ns.map D.int),.int 0] = some (.int v):=cV ns 0
 obtain ⟨c1,hc1⟩:∃ v:Int,aH [.scr (ns.map D.int),.int 1] = some (.int v):=cV ns 1
 obtain ⟨c2,hc2⟩:∃ v:Int,aH [.scr (ns.map D.int),.int 2] = some (.int v):=cV ns 2
 obtain ⟨c3,hc3⟩:∃ v:Int,aH [.scr (ns.map D.int),.int 3] = some (.int v):=cV ns 3
 obtain ⟨c4,hc4⟩:∃ v:Int,aH [.scr (ns.map D.int),.int 4] = some (.int v):=cV ns 4
 obtain ⟨c5,hc5⟩:∃ v:Int,aH [.scr (ns.map D.int),.int 5] = some (.int v):=cV ns 5
 obtain ⟨c10,hc10⟩:∃ v:Int,aH [.scr (ns.map D.int),.int 10] = some (.int v):=cV ns 10
 obtain ⟨u,hu,eu⟩:=xU 3 P50 f (by lia) h50
 obtain ⟨m,hm,hm40⟩:∃ m:Nat,(if c1 / 21 % 8 = 1 then 40 else c1 % 21) = (m:Int) /\ m <= 40:=⟨(if c1 / 21 % 8 = 1 then 40 else c1 % 21).toNat,by split <;> lia,by split <;> lia⟩
 obtain ⟨L,hL,hL0⟩:∃ L:Int,c2 % u = L /\ 0 <= L:=⟨_,rfl,Int.emod_nonneg _ (by lia)⟩
 obtain ⟨U,hU,hU0⟩:∃ U:Int,c3 % 3 = U /\ 0 <= U /\ U <= 2:=⟨_,rfl,by lia⟩
 obtain ⟨R,hR,hR0⟩:∃ R:Int,c4 % u = R /\ 0 <= R:=⟨_,rfl,Int.emod_nonneg _ (by lia)⟩
 obtain ⟨Dn,hD,hD0⟩:∃ D:Int,c5 % 3 = D /\ 0 <= D /\ D <= 2:=⟨_,rfl,by lia⟩
 obtain ⟨x,hx⟩:=mr c2 u hu
 obtain ⟨y,hy⟩:=mr c3 u hu
 obtain ⟨dy,hdy⟩:=mr c5 u hu
 obtain ⟨a,ha,ha1⟩:∃ a:Int,1 + c10 % 2 = a /\ 1 <= a /\ a <= 2:=⟨_,rfl,by lia⟩
 have iB:=DM L U R Dn hL0 hU0.1 hR0 hD0.1
 have hb:BOk (BL L U R Dn):=⟨by dsimp only;lia,by dsimp only;lia⟩
 have hb4:(BL L U R Dn).2.2.2 - (BL L U R Dn).2.1 <= 4:=by dsimp only;lia
 generalize hbb:BL L U R Dn = b at *
 -- the shape
 obtain ⟨sP,sh1,sh2,sh3,sh4⟩:=kR [(x,y),(x + (1 + R),y + dy)] (by show 2 <= 1000;decide)
 have two:Two sP x y (1 + R) dy:=⟨sh2,sh4,fun u v=>by rw [sh3];simp⟩
 have iS:=rL sP sh2 two.ne (by have:=two.len;lia)
 have bt:=two.b
 generalize fm sP = bs at *
 have iC:=yQ a (by lia)
 have iX:=wg "Cross" "Shape" (by decide) (by decide) [bc a] [bs] (by show 2 <= 1000;decide)
 -- the picture
 obtain ⟨p,pp1,pp2,pp3,pp4⟩:=re ns
 -- folds
 have fB:=j6 "Box" (by decide) [[b]] m (by lia) (by show 1 <= 10;decide)
 have fS:=j6 "Shape" (by decide) [bs] m (by lia) (by show 1 <= 10;decide)
 have fB0:jL [az "Box" [[b]],.int 0] = some (az "Shape" gj):=j6 "Box" (by decide) [[b]] 0 (by lia) (by show 1 <= 10;decide)
 have fS0:jL [az "Shape" [bs],.int 0] = some (az "Shape" gj):=j6 "Shape" (by decide) [bs] 0 (by lia) (by show 1 <= 10;decide)
 have hNS:NS.contains "Shape" = true:=by decide
 -- due
 have hr:xF [.int ((m:Int) + 1)] = some ((List.range (m + 1)).map fun i:Nat=>D.int (i:Int)):=by
  have:=Jh (m + 1) (by lia)
  rwa [Int.natCast_add] at this
 have hcomp:b7 (ai 0) dW (a9 (af (xOp bK (xOp mS (ah 1) (ah 2)) (xOp mS (ah 0) (ah 3))) (af (xOp bK (xOp mS (ah 1) (ah 4)) (xOp mS (ah 0) (ah 5))) ap))) [.un,.sh (.int (m:Int)),.sh (.int x),.sh (.int (1 + R)),.sh (.int y),.sh (.int dy)] ((List.range (m + 1)).map fun i:Nat=>D.int (i:Int)) = some (((List.range (m + 1)).map fun k:Nat=>((m:Int) * x + (k:Int) * (1 + R),(m:Int) * y + (k:Int) * dy)).map prD):=by
  rw [List.map_map]
  exact bA (fun i:Nat=>D.int (i:Int)) (prD ∘ fun k:Nat=>((m:Int) * x + (k:Int) * (1 + R),(m:Int) * y + (k:Int) * dy)) (List.range (m + 1)) fun k hk=>by
   have hk':=List.mem_range.mp hk
   have q1:=yw (i:=(m:Int)) (j:=x) (by lia)
   have q2:=yw (i:=(m:Int)) (j:=y) (by lia)
   have q3:=yw (i:=(k:Int)) (j:=1 + R) (by lia)
   have q4:=yw (i:=(k:Int)) (j:=dy) (by lia)
   simp [fP,l2,q1,q2,q3,q4]
 have hrl:((List.range (m + 1)).map fun i:Nat=>D.int (i:Int)).length <= LIM:=aW (by rw [List.length_map,List.length_range];lia)
 obtain ⟨due,du1,du2,du3,_⟩:=kR ((List.range (m + 1)).map fun k:Nat=>((m:Int) * x + (k:Int) * (1 + R),(m:Int) * y + (k:Int) * dy)) (by rw [List.length_map,List.length_range];lia)
 obtain ⟨Q,q1,q2,q3⟩:=DL bt hm40
 have eQ:Q = due:=jC q2 du2 fun u v=>by
  rw [q3,du3,lV (x0:=x) (y0:=y) (dx:=1 + R) (dy:=dy) fun u v=>(yG bs u v).trans (bt.mem u v)]
  constructor
  ·rintro ⟨k,hk,rfl,rfl⟩
   exact List.mem_map.mpr ⟨k,List.mem_range.mpr (by lia),rfl⟩
  ·intro hk
   obtain ⟨k,hk,e⟩:=List.mem_map.mp hk
   have:=List.mem_range.mp hk
   obtain ⟨e1,e2⟩:=Prod.mk.inj e
   exact ⟨k,by lia,e1.symm,e2.symm⟩
 subst eQ
 have o1:eI [az "Shape" gj] = some (av mX):=vo hNS (nu hNS tX (by show 1 <= 3;decide))
 have g0:=nu hNS pp2 pp3
 have s0:=vH hNS pp2 pp3 pp4
 obtain ⟨m6,hm6,k6⟩:∃ k:Nat,(m:Int) % 6 = (k:Int) /\ k <= 5:=⟨m % 6,by lia,by lia⟩
 obtain ⟨m5,hm5,k5⟩:∃ k:Nat,(m:Int) % 5 = (k:Int) /\ k <= 4:=⟨m % 5,by lia,by lia⟩
 obtain ⟨m4,hm4,k4⟩:∃ k:Nat,(m:Int) % 4 = (k:Int) /\ k <= 3:=⟨m % 4,by lia,by lia⟩
 have rB:=dR "Box" (by decide) [[b]] p pp2 pp3 pp4 m6 (by lia) (B5 hb hb4 pp3 k6)
 have rS:=dR "Shape" (by decide) [bs] p pp2 pp3 pp4 m6 (by lia) (D3 bt pp3 k6)
 have rC:=dR "Cross" (by decide) [bc a] p pp2 pp3 pp4 m5 (by lia) (DT ha1.1 ha1.2 pp3 k5)
 have rX:=dR "Sum" (by decide) (mF ([bc a] ++ [bs])) p pp2 pp3 pp4 m4 (by lia) (G8 ha1.1 ha1.2 bt pp3 k4)
 generalize hsc:D.scr (ns.map D.int) = sc at *
 generalize ((List.range (m + 1)).map fun k:Nat=>((m:Int) * x + (k:Int) * (1 + R),(m:Int) * y + (k:Int) * dy)).map prD = dl at *
 generalize ((List.range (m + 1)).map fun i:Nat=>D.int (i:Int)) = rl at *
 have ex:zJ [.sh sc,.un,.un,.un,.un,.un,.un,.un,.un,.un,.un,.un,.un,.un,.un] = some (.rt (.bl true)):=by
  unfold zJ
  rw [bf (ρ':=[.sh sc,.sh (.int f),.un,.un,.un,.un,.un,.un,.un,.un,.un,.un,.un,.un,.un]) (by simp [hf])]
  rw [bf (ρ':=[.sh sc,.sh (.int f),.sh (.int (c1 % 21)),.un,.un,.un,.un,.un,.un,.un,.un,.un,.un,.un,.un]) (by simp [hc1])]
  rw [bf (ρ':=[.sh sc,.sh (.int f),.sh (.int (m:Int)),.un,.un,.un,.un,.un,.un,.un,.un,.un,.un,.un,.un]) (by
   rw [<- hm]
   by_cases hz:c1 / 21 % 8 = 1
   ·simp [hc1,hz]
   ·simp [hc1,hz])]
  rw [bf (ρ':=[.sh sc,.sh (.int f),.sh (.int (m:Int)),.sh (.int u),.un,.un,.un,.un,.un,.un,.un,.un,.un,.un,.un]) (by simp [-wu,p50,eu,l2])]
  rw [bf (ρ':=[.sh sc,.sh (.int f),.sh (.int (m:Int)),.sh (.int u),owl [.int L,.int U,.int R],.un,.un,.un,.un,.un,.un,.un,.un,.un,.un]) (by simp [hc2,hc3,hc4,hu,hL,hU,hR,l3])]
  rw [bf (ρ':=[.sh sc,.sh (.int f),.sh (.int (m:Int)),.sh (.int u),owl [.int L,.int U,.int R,.int Dn],.un,.un,.un,.un,.un,.un,.un,.un,.un,.un]) (by simp [hc5,hD,l3'])]
  rw [bf (ρ':=[.sh sc,.sh (.int f),.sh (.int (m:Int)),.sh (.int u),owl [.int L,.int U,.int R,.int Dn],.sh (az "Box" [[b]]),.un,.un,.un,.un,.un,.un,.un,.un,.un]) (tU (Cn (ds:=[.int L,.int U,.int R,.int Dn]) rfl iB))]
  generalize hFB:az "Box" [[b]] = FB at *
  rw [bf (ρ':=[.sh sc,.sh (.int f),.sh (.int (m:Int)),.sh (.int u),owl [.int L,.int U,.int R,.int Dn],.sh FB,.sh (.int x),.un,.un,.un,.un,.un,.un,.un,.un]) (by simp [hc2,hx])]
  rw [bf (ρ':=[.sh sc,.sh (.int f),.sh (.int (m:Int)),.sh (.int u),owl [.int L,.int U,.int R,.int Dn],.sh FB,.sh (.int x),.sh (.int y),.un,.un,.un,.un,.un,.un,.un]) (by simp [hc3,hy])]
  rw [bf (ρ':=[.sh sc,.sh (.int f),.sh (.int (m:Int)),.sh (.int u),owl [.int L,.int U,.int R,.int Dn],.sh FB,.sh (.int x),.sh (.int y),.sh (.int (1 + R)),.un,.un,.un,.un,.un,.un]) (by simp [hc4,hu,hR])]
  rw [bf (ρ':=[.sh sc,.sh (.int f),.sh (.int (m:Int)),.sh (.int u),owl [.int L,.int U,.int R,.int Dn],.sh FB,.sh (.int x),.sh (.int y),.sh (.int (1 + R)),.sh (.int dy),.un,.un,.un,.un,.un]) (by simp [hc5,hdy])]
  rw [bf (ρ':=[.sh sc,.sh (.int f),.sh (.int (m:Int)),.sh (.int u),owl [.int L,.int U,.int R,.int Dn],.sh FB,.sh (.int x),.sh (.int y),.sh (.int (1 + R)),.sh (.int dy),.sh (az "Shape" [bs]),.un,.un,.un,.un]) (tU (Cn (ds:=[av sP]) (by
   have sh1':mN [.lst [.tup [.int x,.int y],.tup [.int (x + (1 + R)),.int (y + dy)]]] = some (av sP):=sh1
   generalize av sP = z at *
   simp [l2,sh1']) iS))]
  generalize hFS:az "Shape" [bs] = FS at *
  -- box
  rw [bf (ρ':=[.sh sc,.sh (.int f),.sh (.int (m:Int)),.sh (.int u),.sh (.lst [.int L,.int U,.int R,.int Dn]),.sh FB,.sh (.int x),.sh (.int y),.sh (.int (1 + R)),.sh (.int dy),.sh FS,.un,.un,.un,.un]) (by
   show xIf _ _ hW [.sh sc,.sh (.int f),.sh (.int (m:Int)),.sh (.int u),.sh (.lst [.int L,.int U,.int R,.int Dn]),.sh FB,.sh (.int x),.sh (.int y),.sh (.int (1 + R)),.sh (.int dy),.sh FS,.un,.un,.un,.un] = _
   refine BW ?_
   by_cases h21:m < 21
   ·obtain ⟨B,b1,b2,b3⟩:=wS hb hb4 (n:=m) (by lia)
    obtain ⟨B',e1,e2,e3⟩:=xH L U R Dn hL0 hU0 hR0 hD0 m (by lia)
    have eB:B = B':=jC b2 e2 fun x y=>by rw [b3,e3,FU hb,hbb]
    subst eB
    have hlt:xB (xOp dLt (ah 2) (xC (.int 21))) [.sh sc,.sh (.int f),.sh (.int (m:Int)),.sh (.int u),.sh (.lst [.int L,.int U,.int R,.int Dn]),.sh FB,.sh (.int x),.sh (.int y),.sh (.int (1 + R)),.sh (.int dy),.sh FS,.un,.un,.un,.un] = some true:=by
     have:(m:Int) < 21:=by lia
     simp [this]
    unfold xG
    rw [hlt]
    show xB _ _ = _
    refine zg (p:=B) ?_ ?_
    ·rw [gQ (dY m) (ps:=a6 [[b]] m) (ds:=[]) (by decide) (gh (ds:=[FB,.int (m:Int)]) rfl fB) rfl,b1]
    ·exact gh (ds:=[.lst [.int L,.int U,.int R,.int Dn],.int (m:Int)]) rfl e1
   ·have:¬ (m:Int) < 21:=by lia
    have hlt:xB (xOp dLt (ah 2) (xC (.int 21))) [.sh sc,.sh (.int f),.sh (.int (m:Int)),.sh (.int u),.sh (.lst [.int L,.int U,.int R,.int Dn]),.sh FB,.sh (.int x),.sh (.int y),.sh (.int (1 + R)),.sh (.int dy),.sh FS,.un,.un,.un,.un] = some false:=by
     simp [this]
    unfold xG
    rw [hlt]
    rfl)]
  rw [bf (ρ':=[.sh sc,.sh (.int f),.sh (.int (m:Int)),.sh (.int u),.sh (.lst [.int L,.int U,.int R,.int Dn]),.sh FB,.sh (.int x),.sh (.int y),.sh (.int (1 + R)),.sh (.int dy),.sh FS,.sh (av Q),.un,.un,.un]) (by
   generalize av Q = z at *
   simp [hr,hrl,hcomp,du1])]
  rw [bf (ρ':=[.sh sc,.sh (.int f),.sh (.int (m:Int)),.sh (.int u),.sh (.lst [.int L,.int U,.int R,.int Dn]),.sh FB,.sh (.int x),.sh (.int y),.sh (.int (1 + R)),.sh (.int dy),.sh FS,.sh (av Q),.un,.un,.un]) (by
   refine BW (Ej (zg (p:=Q) ?_ rfl) (zg (p:=mX) ?_ (by show _ = some (D.tup [.tup [.int 0,.tup [.tup [.int 0,.int 0]]]]);simp [l1,l2])))
   ·rw [gQ (dY m) (ps:=a6 [bs] m) (ds:=[]) (by decide) (gh (ds:=[FS,.int (m:Int)]) rfl fS) rfl,q1]
   ·rw [gQ hNS (ps:=gj) (ds:=[]) (by decide) (gh (ds:=[FB,.int 0]) rfl fB0) rfl,o1])]
  rw [bf (ρ':=[.sh sc,.sh (.int f),.sh (.int (m:Int)),.sh (.int u),.sh (.lst [.int L,.int U,.int R,.int Dn]),.sh FB,.sh (.int x),.sh (.int y),.sh (.int (1 + R)),.sh (.int dy),.sh FS,.sh (av Q),.sh (av p),.un,.un]) (tU (gh (ds:=[sc]) rfl pp1))]
  rw [bf (ρ':=[.sh sc,.sh (.int f),.sh (.int (m:Int)),.sh (.int u),.sh (.lst [.int L,.int U,.int R,.int Dn]),.sh FB,.sh (.int x),.sh (.int y),.sh (.int (1 + R)),.sh (.int dy),.sh FS,.sh (av Q),.sh (av p),.un,.un]) (by
   refine BW (Ej (zg (p:=p) ?_ rfl) (zg (p:=p) ?_ rfl))
   ·rw [gQ hNS (ps:=gj) (ds:=[av p]) (by decide) (gh (ds:=[FS,.int 0]) rfl fS0) rfl,g0]
   ·rw [gQ hNS (ps:=gj) (ds:=[av p]) (by decide) (gh (ds:=[FB,.int 0]) rfl fB0) rfl,s0])]
  rw [bf (ρ':=[.sh sc,.sh (.int f),.sh (.int (m:Int)),.sh (.int u),.sh (.lst [.int L,.int U,.int R,.int Dn]),.sh FB,.sh (.int x),.sh (.int y),.sh (.int (1 + R)),.sh (.int dy),.sh FS,.sh (av Q),.sh (av p),.sh (az "Cross" [bc a]),.un]) (tU (Cn (ds:=[.int a]) (by simp [hc10,ha]) iC))]
  have v6:∀ ρ:M.Env,ah 2 ρ = some (.int (m:Int)) -> xOp fV (ah 2) (xC (.int 6)) ρ = some (.int (m6:Int)):=fun ρ e=>by
   unfold xOp;rw [e];show fV (.int (m:Int)) (.int 6) = _;rw [Fh (by decide),hm6]
  have v5:∀ ρ:M.Env,ah 2 ρ = some (.int (m:Int)) -> xOp fV (ah 2) (xC (.int 5)) ρ = some (.int (m5:Int)):=fun ρ e=>by
   unfold xOp;rw [e];show fV (.int (m:Int)) (.int 5) = _;rw [Fh (by decide),hm5]
  have v4:∀ ρ:M.Env,ah 2 ρ = some (.int (m:Int)) -> xOp fV (ah 2) (xC (.int 4)) ρ = some (.int (m4:Int)):=fun ρ e=>by
   unfold xOp;rw [e];show fV (.int (m:Int)) (.int 4) = _;rw [Fh (by decide),hm4]
  have args:∀ (i:Nat) (e:XE) (ρ:M.Env) (F k:D),aq i ρ = some F -> aq 12 ρ = some (av p) -> e ρ = some k -> af (aq i) (af (aq 12) (af e ap)) ρ = some [F,av p,k]:=fun i e ρ F k e1 e2 e3=>by
   unfold af ap;rw [e1,e2,e3];rfl
  rw [bf (ρ':=[.sh sc,.sh (.int f),.sh (.int (m:Int)),.sh (.int u),.sh (.lst [.int L,.int U,.int R,.int Dn]),.sh FB,.sh (.int x),.sh (.int y),.sh (.int (1 + R)),.sh (.int dy),.sh FS,.sh (av Q),.sh (av p),.sh (az "Cross" [bc a]),.un]) (BW (Ej (Ga (gh (args _ _ _ _ _ rfl rfl (v6 _ rfl)) rB)) (Ga (gh (args _ _ _ _ _ rfl rfl (v6 _ rfl)) rS))))]
  rw [bf (ρ':=[.sh sc,.sh (.int f),.sh (.int (m:Int)),.sh (.int u),.sh (.lst [.int L,.int U,.int R,.int Dn]),.sh FB,.sh (.int x),.sh (.int y),.sh (.int (1 + R)),.sh (.int dy),.sh FS,.sh (av Q),.sh (av p),.sh (az "Cross" [bc a]),.sh (az "Sum" (mF ([bc a] ++ [bs])))]) (tU (Cn (ds:=[az "Cross" [bc a],FS]) rfl iX))]
  unfold bU xc
  rw [gh (args _ _ _ _ _ rfl rfl (v5 _ rfl)) rC,gh (args _ _ _ _ _ rfl rfl (v4 _ rfl)) rX]
  rfl
 exact pQ (n:=15) (ds:=[sc]) ex
end P
namespace L2
open PySem PySem.Spec PyProof.Rows M
section
variable {X:Cx} {a b e:Expr} {es:List Expr} {ta tb te:TE} {t:TA} {p pos pos':Pos} {x:Str}
theorem pgn (i:Nat) (hN:X.N.Nodup) (hi:X.N[i]? = some x:=by rfl) (hx:Loc X.env.scope x:=by exact .inl rfl) (hf:X.fn x = true \/ X.env.scope.names.lookup x = some .local:=by first | exact .inl rfl | exact .inr rfl | assumption):PG X (.Name x pos) (jW i):=oH hN hi hx hf
theorem pgc {N:List Str} {scope:Scope} {z:CxZ} (i:Nat) (hN:N.Nodup:=by decide +kernel) (hi:(cxC X N scope z).N[i]? = some x:=by rfl) (hx:Loc (cxC X N scope z).env.scope x:=by exact .inl rfl) (hf:(cxC X N scope z).fn x = true \/ (cxC X N scope z).env.scope.names.lookup x = some .local:=by first | exact .inl rfl | exact .inr rfl | assumption):PG (cxC X N scope z) (.Name x pos) (jW i):=oH hN hi hx hf
theorem pst (i:Nat) (hN:X.N.Nodup) (he:PE X e te) (hi:X.N[i]? = some x:=by rfl) (hx:Loc X.env.scope x:=by exact .inl rfl) (hs:swapsWith e (some (.Name x pos')) pos.line X.env = pure false:=by rfl) (hf:X.fn x = true \/ X.env.scope.names.lookup x = some .local:=by first | exact .inl rfl | exact .inr rfl | assumption) :
  PS X (.Assign [.Name x pos'] e pos) (zN te (jW i)):=l7 hN hi hx he hs hf
theorem pix (ha:PE X a ta) (hb:PE X b tb) (hs:Cq b:=by exact fun _ _=>rfl):PE X (.Subscript a b pos) (tOp (rIx X.K) ta tb):=JS Im ha hb hs
theorem ptc {op:CmpOp} {r:R2} (ho:OpR X (compareOp op) r) (ha:PE X a ta) (hb:PE X b tb) (hm:behindInMarks op b = false:=by exact qz _):PT X (.Compare a [op] [b] pos) (F1 (tOp r ta tb)):=tw ho ha hb hm
theorem pcl {n k:Nat} {ps:List Str} {sp:Sp} {f:Addr} {fd:FuncData} (F:FnOk X.prog X.w X.K X.mg X.base CX0 n f fd ps sp) (hr:Room k X.A) (hm:X.mg x = some (.ref f)) (hk:W.keepIn X.K (.ref f) = true) (hb:Binds X.K fd ps []) (ha:PA X (e :: es) t) (hn:n <= k:=by decide) (hg:Gl X x:=by rfl) (hdb:(x == ("__debug__" : Str)) = false:=by decide)
  (he:starEach (e :: es) X.env = (false,eval e X.env) :: starEach es X.env:=by rfl) (hpl:(backTo pos (starEach es X.env)).any (·.1) = false:=by rfl):PE X (.Call (.Name x p) (e :: es) [] pos) (rN sp [] E0 t):=xZ F (hr.mono hn) hg hm hk hb .nil eo ha hdb he hpl
end
theorem Fun.okk {P:Program} {w:World} {K:W.Frag} {mg:Str -> Option Value} {base:Heap} {x qual:Str} {st:Stmt} {f:Addr} {fd:FuncData} {N ps:List Str} {k n j:Nat} {y:XS} {t:TS} (F:Fun K x qual st f fd) (hs:SS K t y) (hN:N.length = n) (hj:ps.length = j) (S:FnScope N ps (aK st))
  (hb:N.Nodup -> ∀ (cdv:Value) (A:Around) (outer:List PySem.Env) (s:Shared) (H:Hp) (E:XK),Room k (A.deeper (envOfC qual (aK st) s.heap.objs.size f cdv)) ->
   ∃ t',PSs (AW CX0 P w K mg base N qual (aK st) f cdv A outer s H E).nox (mJ st) t' /\ t' = t):FnOk P w K mg base CX0 (k + 1) f fd ps (c7 K j (fnO n y)):=by
 refine F.ok S (fun vs H Q E h=>h.1.trans hj.symm) fun cdv A outer s H vs Q E hr h=>?_
 obtain ⟨t',h1,rfl⟩:=hb S.nd cdv A outer s H E hr
 exact ⟨_,h1,M.KH hs hN h⟩
end L2
namespace Lw
open PySem PySem.W L2 M P
set_option autoImplicit true
def top (i : Nat) : Stmt := PySem.Challenge.pw_shapethin_k61_forms_many_times.main.body.getD i (.Pass ⟨0, 0, 0, 0⟩)
abbrev uD:Stmt:=top 5
abbrev nk:Stmt:=top 6
abbrev pJ:Stmt:=top 7
abbrev mh:Stmt:=top 8
abbrev kJ:Stmt:=top 9
abbrev ig:Stmt:=top 11
abbrev iH:Stmt:=top 12
abbrev zE:Stmt:=top 13
abbrev gc:Stmt:=top 14
abbrev FO:Stmt:=top 15
abbrev uW:Stmt:=top 16
abbrev oI:Stmt:=top 17
abbrev xO:Stmt:=top 18
abbrev lS:Stmt:=top 21
abbrev d8:Stmt:=top 22
abbrev nl:Stmt:=top 23
abbrev nq:Stmt:=top 24
abbrev fE:Stmt:=top 25
abbrev jx:Stmt:=top 26
abbrev fy:Stmt:=top 27
abbrev jE:Stmt:=top 28
abbrev rp:Stmt:=top 29
abbrev k7:Stmt:=top 30
abbrev Ey:Stmt:=top 37
abbrev tW:Stmt:=top 39
abbrev wc:Stmt:=top 40
abbrev ET:Stmt:=top 41
abbrev p7:Stmt:=top 42
abbrev uM:Stmt:=top 43
abbrev sr:Stmt:=top 44
abbrev F0:Stmt:=top 45
abbrev gY:Stmt:=jI (top 31) 0
abbrev oX:Stmt:=jI (top 31) 1
abbrev mI:Stmt:=jI (top 31) 2
abbrev lD:Stmt:=jI (top 31) 3
abbrev je:Stmt:=jI (top 32) 0
abbrev gG:Stmt:=jI (top 33) 0
abbrev gD:Stmt:=jI (top 34) 0
abbrev iP:Stmt:=jI (top 35) 0
structure Txt (K:Frag) (mg:Str -> Option Value):Prop where
 len:mg "len" = none
 max:mg "max" = none
 min:mg "min" = none
 range:mg "range" = none
 reversed:mg "reversed" = none
 sorted:mg "sorted" = none
 sum:mg "sum" = none
 tuple:mg "tuple" = none
 ONE_CELL:∃ (u:Value) (v:V),mg "ONE_CELL" = some u /\ RelV v u /\ ∀ S,Den K S (.tup [.tup [.int (0),.tup [.tup [.int (0),.int (0)]]]]) v
 cN:rh K NS fun C=>Cls K C /\ NoAttr K C "parts"
section
variable {P:Program} {w:World} {K:Frag} {mg:Str -> Option Value} {base:Heap}
local macro_rules | `(tactic| ac_rfl)=>`(tactic| exact ⟨rfl,rfl,rfl,by decide +kernel,rfl,by decide +kernel,by decide +kernel⟩)
theorem rE:FnScope ["self", "parts"] ["self", "parts"] (aK gY):=⟨rfl,rfl,rfl,by decide +kernel,rfl,by decide +kernel,by decide +kernel⟩
theorem sV:FnScope ["self", "left", "up", "right", "down"] ["self", "left", "up", "right", "down"] (aK je):=⟨rfl,rfl,rfl,by decide +kernel,rfl,by decide +kernel,by decide +kernel⟩
theorem pG:FnScope ["self", "arm"] ["self", "arm"] (aK gG):=⟨rfl,rfl,rfl,by decide +kernel,rfl,by decide +kernel,by decide +kernel⟩
theorem sR:FnScope ["self", "one", "other"] ["self", "one", "other"] (aK iP):=⟨rfl,rfl,rfl,by decide +kernel,rfl,by decide +kernel,by decide +kernel⟩
theorem pK:FnScope ["self", "picture"] ["self", "picture"] (aK gD):=⟨rfl,rfl,rfl,by decide +kernel,rfl,by decide +kernel,by decide +kernel⟩
theorem p6 (F:Fun K "__init__" "Form.__init__" gY f fd) (T:Txt K mg):FnOk P w K mg base CX0 1 f fd ["self", "parts"] (kl K):=by
 refine F.ok rE (fun vs H Q E h=>h.1) (fun cdv A outer s H vs Q E hr h=>?_)
 exact ⟨_,au (Jo (pv 0) (pv 1) rfl),EM T.cN h⟩
abbrev pz:=Ab 1 "Form" ["self", "parts"] kl
theorem GN (F:Fun K "_law_box" "_law_box" ET f fd) (T:Txt K mg):FnOk P w K mg base CX0 1 f fd ["_law_sides", "_law_many"] (BM K):=F.okk (N:=["_law_sides", "_law_many", "_law_left", "_law_up", "_law_right", "_law_down", "_law_rows", "_law_y"]) (GD K).2 rfl rfl (by ac_rfl) fun nd _ _ _ _ _ _ hr=>⟨_,ao (vj (pv 0) (IW rfl (aC (pgn 2 nd) (aC (pgn 3 nd) (aC (pgn 4 nd) (aC (pgn 5 nd) bE)))))) (ao (pst 6 nd (eT ag)) (ao (gy PassesOwn.never rfl (DV (by rfl) T.range (ad (aF fx aj (aF kM (pv 3) (pv 1))) (ad (aF aY (aF kM (pv 5) (pv 1)) aj) ag))) (pgn 7 nd) (au (di (mj PySem.F.plainAttrs_list PySem.F.slot_list_append PySem.F.type_list_append cW (pv 6) (ad (aI (ad (pv 7) (ad (aI (ad (aI (ad (aF fx aj (aF kM (pv 2) (pv 1))) (ad (aF kM (pv 4) (pv 1)) ag))) ag)) ag))) ag))))) (au (aR (b9 bj (by rfl) T.tuple du (ad (pv 6) ag)))))),rfl⟩
abbrev ED:=Ak CX0 1 "_law_box" ["_law_sides", "_law_many"] BM
theorem zi (F:Fun K "_law_cell_at" "_law_cell_at" tW f fd) (T:Txt K mg):FnOk P w K mg base CX0 1 f fd ["_law_script", "_law_k"] (sk K):=F.okk (N:=["_law_script", "_law_k"]) (yX K).2 rfl rfl (by ac_rfl) fun nd _ _ _ _ _ _ hr=>⟨_,ao (eN (ptc lJ (pv 1) (bo gx (by rfl) T.len oi (ad (pv 0) ag))) (au (aR (pix (pv 0) (pv 1)))) cO) (au (aR aj)),rfl⟩
abbrev nN:=Ak CX0 1 "_law_cell_at" ["_law_script", "_law_k"] sk
theorem AI (F:Fun K "_law_points" "_law_points" p7 f fd) (T:Txt K mg):FnOk P w K mg base CX0 1 f fd ["_law_cells"] (uY K):=F.okk (N:=["_law_cells", "_law_rows", "_law_y", "_law_x"]) (BK K).2 rfl rfl (by ac_rfl) fun nd _ _ _ _ _ _ hr=>⟨_,ao (pst 1 nd (eT ag)) (ao (gy PassesOwn.never rfl (bF (bo hZ (by rfl) T.sorted mO (ad (bR (show CmpOk ["_law_cells", "_law_rows", "_law_y", "_law_x"] (aK p7) _ ["_law_x", "_law_y"] [none,none] from fL) (bF (pv 0)) (fun _=>cF rfl (aC (pgc 0) (aC (pgc 1) bE))) (eU (aL aN (aL aN cJ aD) aD)) (fun _=>cI) (fun _=>aI (ad (pv 1) (ad (pv 0) ag)))) ag))) (cF rfl (aC (pgn 2 nd) (aC (pgn 3 nd) bE))) (au (eN (PW.pt (Aj (ptc (jb hr.units) (bo gx (by rfl) T.len oi (ad (pv 1) ag)) aj) (tJ (ptc (lQ hr.units) (pix (pix (pv 1) (cA bv aj)) aj) (pv 2))))) (au (di (mj PySem.F.plainAttrs_list PySem.F.slot_list_append PySem.F.type_list_append cW (pv 1) (ad (aI (ad (pv 2) (ad (aI (ad (aI (ad (pv 3) (ad (pv 3) ag))) ag)) ag))) ag)))) (au (eN (ptc EZ (pv 3) (aF aY (pix (pix (pix (pix (pv 1) (cA bv aj)) aj) (cA bv aj)) aj) aj)) (au (vj (aI (ad (pv 2) (ad (aF aY (pix (pix (pv 1) (cA bv aj)) aj) (aI (ad (aI (ad (pv 3) (ad (pv 3) ag))) ag))) ag))) (ya (pv 1) (cA bv aj) oP))) (au (vj (aI (ad (pv 2) (ad (aF aY (uI Ia (pix (pix (pv 1) (cA bv aj)) aj) (Co) (tj (cA bv aj))) (aI (ad (aI (ad (pix (pix (pix (pix (pv 1) (cA bv aj)) aj) (cA bv aj)) aj) (ad (pv 3) ag))) ag))) ag))) (ya (pv 1) (cA bv aj) oP)))))))) (au (aR (b9 bj (by rfl) T.tuple du (ad (pv 1) ag))))),rfl⟩
abbrev xl:=Ak CX0 1 "_law_points" ["_law_cells"] uY
theorem A9 (F:Fun K "_law_signed" "_law_signed" wc f fd) (T:Txt K mg):FnOk P w K mg base CX0 1 f fd ["_law_cell", "_law_most"] (uG K):=F.okk (N:=["_law_cell", "_law_most"]) (AF K).2 rfl rfl (by ac_rfl) fun nd _ _ _ _ _ _ hr=>⟨_,ao (eN (ptc lJ (pv 0) aj) (au (aR (aF fx aj (aF cD (aF fx aj (pv 0)) (pv 1))))) cO) (au (aR (aF cD (pv 0) (pv 1)))),rfl⟩
abbrev qw:=Ak CX0 1 "_law_signed" ["_law_cell", "_law_most"] uG
theorem C2 (F:Fun K "box_of" "box_of" oI f fd) (T:Txt K mg):FnOk P w K mg base CX0 1 f fd ["picture"] (wR K):=F.okk (N:=["picture", "left", "right"]) (DH K).2 rfl rfl (by ac_rfl) fun nd _ _ _ _ _ _ hr=>⟨_,ao (eN (ptc (jb hr.units) (pv 0) (aI ag)) (au (aR (Ih))) cO) (ao (pst 1 nd (bo (AM rfl) (by rfl) T.min uw (ad (bR (show CmpOk ["picture", "left", "right"] (aK oI) _ ["y", "row"] [none,none] from fL) (bF (pv 0)) (fun _=>cF rfl (aC (pgc 0) (aC (pgc 1) bE))) (eU (aL aN (aL aN cJ aD) aD)) (fun _=>cI) (fun _=>pix (pix (pv 1) aj) aj)) ag))) (ao (pst 2 nd (bo (BJ rfl) (by rfl) T.max yB (ad (bR (show CmpOk ["picture", "left", "right"] (aK oI) _ ["y", "row"] [none,none] from fL) (bF (pv 0)) (fun _=>cF rfl (aC (pgc 0) (aC (pgc 1) bE))) (eU (aL aN (aL aN cJ aD) aD)) (fun _=>cI) (fun _=>pix (pix (pv 1) (cA bv aj)) aj)) ag))) (au (aR (aI (ad (pv 1) (ad (pix (pix (pv 0) aj) aj) (ad (pv 2) (ad (pix (pix (pv 0) (cA bv aj)) aj) ag))))))))),rfl⟩
abbrev zq:=Ak CX0 1 "box_of" ["picture"] wR
theorem tF (F:Fun K "count_up_to" "count_up_to" nk f fd) (T:Txt K mg):FnOk P w K mg base CX0 1 f fd ["pairs", "number"] (l8 K):=F.okk (N:=["pairs", "number", "low", "high", "middle"]) (uC K).2 rfl rfl (by ac_rfl) fun nd _ _ _ _ _ _ hr=>⟨_,ao (pst 2 nd aj) (ao (pst 3 nd (bo gx (by rfl) T.len oi (ad (pv 0) ag))) (ao (pL PassesOwn.never (ptc lJ (pv 2) (pv 3)) (ao (pst 4 nd (aF mQ (aF aY (pv 2) (pv 3)) aj)) (au (eN (ptc zI (pix (pix (pv 0) (pv 4)) aj) (pv 1)) (au (pst 2 nd (aF aY (pv 4) aj))) (au (pst 3 nd (pv 4))))))) (au (aR (pv 2))))),rfl⟩
abbrev jR:=Ak CX0 1 "count_up_to" ["pairs", "number"] l8
theorem sU (F:Fun K "parts_of_sum" "parts_of_sum" d8 f fd) (T:Txt K mg):FnOk P w K mg base CX0 1 f fd ["parts"] (kT K):=F.okk (N:=["parts", "single", "together"]) (sI K).2 rfl rfl (by ac_rfl) fun nd _ _ _ _ _ _ hr=>⟨_,ao (l7 (i:=1) nd rfl (.inr rfl) (bR (show CmpOk ["parts", "single", "together"] (aK d8) _ ["blocks"] [none] from fL) (bF (pv 0)) (fun _=>pgc 0) aN (fun _=>pS (ptc (jb hr.units) (bo gx (by rfl) T.len oi (ad (pv 0) ag)) aj)) (fun _=>pix (pv 0) aj))) (ao (pst 2 nd (b9 bj (by rfl) T.tuple du (ad (Fn (show CmpOkC ["parts", "single", "together"] (aK d8) _ ["side", "single"] [none,some 1] "side" from HR) (j9 (by rfl) T.range (ad aj ag)) (fun _=>oH (i:=0) (show List.Nodup (["side", "single"]:List Str) from by decide +kernel) rfl (.inr rfl)) aN (fun _=>cI) (fun _=>bo (DG rfl) (by rfl) T.sum JF (ad (bR (show CmpOk ["side", "single"] ({ kind:=.function,names:=[(".0",.local),("side",.cell),("sum",.globalImplicit),("single",.cell)],isGenerator:=false,isCoroutine:=false }:Scope) _ ["block", "side"] [none,some 0] from fL) (bF (pv 1)) (fun _=>pgc 0) aN (fun _=>cI) (fun _=>pix (pv 0) (pv 1))) ag))) ag))) (au (aR (aF aY (aI (ad (aI (ad (pv 2) ag)) ag)) (b9 bj (by rfl) T.tuple du (ad (bR (show CmpOk ["parts", "single", "together"] (aK d8) _ ["blocks"] [none] from fL) (bF (pv 0)) (fun _=>pgc 0) aN (fun _=>pS (ptc EZ (bo gx (by rfl) T.len oi (ad (pv 0) ag)) aj)) (fun _=>pv 0)) ag)))))),rfl⟩
abbrev lK:=Ak CX0 1 "parts_of_sum" ["parts"] kT
theorem vD (F:Fun K "row_common" "row_common" pJ f fd) (T:Txt K mg):FnOk P w K mg base CX0 1 f fd ["one", "other"] (nc K):=F.okk (N:=["one", "other", "shared", "here", "there", "a", "b"]) (vG K).2 rfl rfl (by ac_rfl) fun nd _ _ _ _ _ _ hr=>⟨_,ao (pst 2 nd (eT ag)) (ao (pst 3 nd aj) (ao (pst 4 nd aj) (ao (pL PassesOwn.never (PW.pt (tY (ptc lJ (pv 3) (bo gx (by rfl) T.len oi (ad (pv 0) ag))) (pr (ptc lJ (pv 4) (bo gx (by rfl) T.len oi (ad (pv 1) ag)))))) (ao (pst 5 nd (bo (qZ rfl) (by rfl) T.max yB (ad (pix (pix (pv 0) (pv 3)) aj) (ad (pix (pix (pv 1) (pv 4)) aj) ag)))) (ao (pst 6 nd (bo (qf rfl) (by rfl) T.min uw (ad (pix (pix (pv 0) (pv 3)) aj) (ad (pix (pix (pv 1) (pv 4)) aj) ag)))) (ao (eN (ptc zI (pv 5) (pv 6)) (au (di (mj PySem.F.plainAttrs_list PySem.F.slot_list_append PySem.F.type_list_append cW (pv 2) (ad (aI (ad (pv 5) (ad (pv 6) ag))) ag)))) cO) (au (eN (ptc lJ (pix (pix (pv 0) (pv 3)) aj) (pix (pix (pv 1) (pv 4)) aj)) (au (ym (i:=3) nd rfl (.inl rfl) aj yy)) (au (ym (i:=4) nd rfl (.inl rfl) aj yy)))))))) (au (aR (b9 bj (by rfl) T.tuple du (ad (pv 2) ag))))))),rfl⟩
abbrev pV:=Ak CX0 1 "row_common" ["one", "other"] nc
theorem yt (F:Fun K "row_moved" "row_moved" mh f fd) (T:Txt K mg):FnOk P w K mg base CX0 1 f fd ["row", "by"] (oS K):=F.okk (N:=["row", "by"]) (xx K).2 rfl rfl (by ac_rfl) fun nd _ _ _ _ _ _ hr=>⟨_,au (aR (b9 bj (by rfl) T.tuple du (ad (bR (show CmpOk ["row", "by"] (aK mh) _ ["a", "b", "by"] [none,none,some 1] from fL) (bF (pv 0)) (fun _=>cF rfl (aC (pgc 0) (aC (pgc 1) bE))) (eU (aL aN (aL aN cJ aD) aD)) (fun _=>cI) (fun _=>aI (ad (aF aY (pv 0) (pv 2)) (ad (aF aY (pv 1) (pv 2)) ag)))) ag))),rfl⟩
abbrev sd:=Ak CX0 1 "row_moved" ["row", "by"] oS
theorem CV (F:Fun K "row_of" "row_of" uD f fd) (T:Txt K mg):FnOk P w K mg base CX0 1 f fd ["pairs"] (w9 K):=F.okk (N:=["pairs", "stretches", "a", "b"]) (C8 K).2 rfl rfl (by ac_rfl) fun nd _ _ _ _ _ _ hr=>⟨_,ao (pst 1 nd (eT ag)) (ao (gy PassesOwn.never rfl (bF (bo hZ (by rfl) T.sorted mO (ad (bR (show CmpOk ["pairs", "stretches", "a", "b"] (aK uD) _ ["a", "b"] [none,none] from fL) (bF (pv 0)) (fun _=>cF rfl (aC (pgc 0) (aC (pgc 1) bE))) (eU (aL aN (aL aN cJ aD) aD)) (fun _=>pS (ptc zI (pv 0) (pv 1))) (fun _=>aI (ad (pv 0) (ad (pv 1) ag)))) ag))) (cF rfl (aC (pgn 2 nd) (aC (pgn 3 nd) bE))) (au (eN (PW.pt (tY (lz (pv 1) (fun _=>rfl)) (pr (ptc zI (pv 2) (aF aY (pix (pix (pv 1) (cA bv aj)) aj) aj))))) (au (vj (aI (ad (pix (pix (pv 1) (cA bv aj)) aj) (ad (bo (qZ rfl) (by rfl) T.max yB (ad (pix (pix (pv 1) (cA bv aj)) aj) (ad (pv 3) ag))) ag))) (ya (pv 1) (cA bv aj) oP))) (au (di (mj PySem.F.plainAttrs_list PySem.F.slot_list_append PySem.F.type_list_append cW (pv 1) (ad (aI (ad (pv 2) (ad (pv 3) ag))) ag))))))) (au (aR (b9 bj (by rfl) T.tuple du (ad (pv 1) ag))))),rfl⟩
abbrev t7:=Ak CX0 1 "row_of" ["pairs"] w9
theorem nL (F:Fun K "rows_with_cells" "rows_with_cells" gc f fd) (T:Txt K mg):FnOk P w K mg base CX0 1 f fd ["rows"] (iK K):=F.okk (N:=["rows"]) (n5 K).2 rfl rfl (by ac_rfl) fun nd _ _ _ _ _ _ hr=>⟨_,au (aR (b9 bj (by rfl) T.tuple du (ad (bR (show CmpOk ["rows"] (aK gc) _ ["y", "row"] [none,none] from fL) (bF (pv 0)) (fun _=>cF rfl (aC (pgc 0) (aC (pgc 1) bE))) (eU (aL aN (aL aN cJ aD) aD)) (fun _=>pS (ptc (lQ hr.units) (pv 1) (aI ag))) (fun _=>aI (ad (pv 0) (ad (pv 1) ag)))) ag))),rfl⟩
abbrev dU:=Ak CX0 1 "rows_with_cells" ["rows"] iK
theorem sJ (F:Fun K "stretches_of" "stretches_of" iH f fd) (T:Txt K mg):FnOk P w K mg base CX0 1 f fd ["picture"] (ln K):=F.okk (N:=["picture", "stretches", "y", "row"]) (sv K).2 rfl rfl (by ac_rfl) fun nd _ _ _ _ _ _ hr=>⟨_,ao (pst 1 nd (eT ag)) (ao (gy PassesOwn.never rfl (bF (pv 0)) (cF rfl (aC (oH (i:=2) nd rfl (.inr rfl)) (aC (pgn 3 nd) bE))) (au (di (mj PySem.F.plainAttrs_list PySem.F.slot_list_extend PySem.F.type_list_extend BO (pv 1) (ad (bR (show CmpOk ["picture", "stretches", "y", "row"] (aK iH) _ ["a", "b", "y"] [none,none,some 2] from fL) (bF (pv 3)) (fun _=>cF rfl (aC (pgc 0) (aC (pgc 1) bE))) (eU (aL aN (aL aN cJ aD) aD)) (fun _=>cI) (fun _=>aI (ad (pv 2) (ad (pv 0) (ad (pv 1) ag))))) ag))))) (au (aR (pv 1)))),rfl⟩
abbrev fT:=Ak CX0 1 "stretches_of" ["picture"] ln
theorem sT (F:Fun K "__init__" "Box.__init__" je f fd) (T:Txt K mg) (AB_Form:pz P w K mg base c_Form f_Form___init__ cQ):FnOk P w K mg base CX0 2 f fd ["self", "left", "up", "right", "down"] (kX K):=by
 refine F.ok sV (fun vs H Q E h=>h.1) (fun cdv A outer s H vs Q E hr h=>?_)
 exact ⟨_,ao (eN (tw lJ (bo (Db rfl) (by rfl) T.min uw (ad (pv 1) (ad (pv 2) (ad (pv 3) (ad (pv 4) ag))))) aj (qz _)) rA cO) (au (di (kL AB_Form.cf (by rfl) AB_Form.g AB_Form.G (hr.mono (by decide)) AB_Form.b eo (ad (pv 0) (ad (aI (ad (aI (ad (aI (ad (cA bv (pv 1)) (ad (cA bv (pv 2)) (ad (pv 3) (ad (pv 4) ag))))) ag)) ag)) ag))))),uR (xz (SE.p (Fj JD ((Kk IQ (oO (iL 1) (oO (iL 2) (oO (iL 3) (oO (iL 4) Em))))).p) ((s_c rfl).p)))) (nz (bH (nz (bH (nz (bH (FV Av (iL 1)) (bH (FV Av (iL 2)) (bH (rY 3) (bH (rY 4) gX))))) gX)) gX)) rfl h⟩
abbrev Hz:=Ac CX0 2 "Box" ["self", "left", "up", "right", "down"] kX
theorem pF (F:Fun K "__init__" "Cross.__init__" gG f fd) (T:Txt K mg) (AB_Form:pz P w K mg base c_Form f_Form___init__ cQ):FnOk P w K mg base CX0 2 f fd ["self", "arm"] (jy K):=by
 refine F.ok pG (fun vs H Q E h=>h.1) (fun cdv A outer s H vs Q E hr h=>?_)
 exact ⟨_,ao (eN (tw lJ (pv 1) aj (qz _)) rA cO) (au (di (kL AB_Form.cf (by rfl) AB_Form.g AB_Form.G (hr.mono (by decide)) AB_Form.b eo (ad (pv 0) (ad (aI (ad (aI (ad (aI (ad (cA bv (pv 1)) (ad aj (ad (pv 1) (ad aj ag))))) (ad (aI (ad aj (ad (cA bv (pv 1)) (ad aj (ad (pv 1) ag))))) ag))) ag)) ag))))),uR (xz (SE.p (Fj JD (iL 1) ((s_c rfl).p)))) (nz (bH (nz (bH (nz (bH (FV Av (iL 1)) (bH (s_c rfl) (bH (rY 1) (bH (s_c rfl) gX))))) (bH (nz (bH (s_c rfl) (bH (FV Av (iL 1)) (bH (s_c rfl) (bH (rY 1) gX))))) gX))) gX)) rfl h⟩
abbrev BX:=Ac CX0 2 "Cross" ["self", "arm"] jy
theorem su (F:Fun K "__init__" "Sum.__init__" iP f fd) (T:Txt K mg) (cR:lK P w K mg base mz k8) (AB_Form:pz P w K mg base c_Form f_Form___init__ cQ):FnOk P w K mg base CX0 2 f fd ["self", "one", "other"] (ld K):=by
 refine F.ok sR (fun vs H Q E h=>h.1) (fun cdv A outer s H vs Q E hr h=>?_)
 exact ⟨_,au (di (kL AB_Form.cf (by rfl) AB_Form.g AB_Form.G (hr.mono (by decide)) AB_Form.b eo (ad (pv 0) (ad (xZ cR.G (hr.mono (by decide)) (by rfl) cR.m cR.k cR.b .nil eo (ad (aF aY (sX T.cN (pv 1) rfl) (sX T.cN (pv 2) rfl)) ag)) ag)))),CZ (Bz (E:=E0) (bH (Fj Hx ((FM (rY 1)).p) ((FM (rY 2)).p)) gX) (uh (fun _ _ h=>xY h))) rfl h⟩
abbrev EO:=Ac CX0 2 "Sum" ["self", "one", "other"] ld
theorem Aw (F:Fun K "_law_picture" "_law_picture" uM f fd) (T:Txt K mg) (aV:qw P w K mg base q9 nZ) (am:nN P w K mg base n8 lH):FnOk P w K mg base CX0 2 f fd ["_law_script"] (rH K):=F.okk (N:=["_law_script", "_law_rows", "_law_y", "_law_k", "_law_cell", "_law_low"]) (zc K).2 rfl rfl (by ac_rfl) fun nd _ _ _ _ _ _ hr=>⟨_,ao (pst 1 nd (eT ag)) (ao (pst 2 nd (pcl aV.G hr aV.m aV.k aV.b (ad (pcl am.G hr am.m am.k am.b (ad (pv 0) (ad aj ag))) (ad (pix (eT (ad aj (ad (aF yA aj aj) ag))) (aF cD (aF mQ (pcl am.G hr am.m am.k am.b (ad (pv 0) (ad aj ag))) aj) aj)) ag)))) (ao (gy PassesOwn.never rfl (j9 (by rfl) T.range (ad (aF aY aj (aF cD (aF mQ (pcl am.G hr am.m am.k am.b (ad (pv 0) (ad aj ag))) aj) aj)) ag)) (pgn 3 nd) (ao (pst 4 nd (pcl am.G hr am.m am.k am.b (ad (pv 0) (ad (aF aY aj (pv 3)) ag)))) (ao (pst 5 nd (pcl aV.G hr aV.m aV.k aV.b (ad (pv 4) (ad (pix (eT (ad aj (ad (aF yA aj aj) ag))) (aF cD (aF mQ (pcl am.G hr am.m am.k am.b (ad (pv 0) (ad aj ag))) aj) aj)) ag)))) (au (di (mj PySem.F.plainAttrs_list PySem.F.slot_list_append PySem.F.type_list_append cW (pv 1) (ad (aI (ad (aF aY (pv 2) (pv 3)) (ad (aI (ad (aI (ad (pv 5) (ad (aF aY (pv 5) (aF cD (aF mQ (aF cD (aF kM (pv 4) aj) aj) aj) (pix (eT (ad aj (ad (aF yA aj aj) ag))) (aF cD (pv 4) aj)))) ag))) ag)) ag))) ag))))))) (au (aR (b9 bj (by rfl) T.tuple du (ad (pv 1) ag)))))),rfl⟩
abbrev uK:=Ak CX0 2 "_law_picture" ["_law_script"] rH
theorem p8 (F:Fun K "begun_between" "begun_between" k7 f fd) (T:Txt K mg) (aQ:jR P w K mg base jN jh):FnOk P w K mg base CX0 2 f fd ["pairs", "first", "last"] (kr K):=F.okk (N:=["pairs", "first", "last"]) (qq K).2 rfl rfl (by ac_rfl) fun nd _ _ _ _ _ _ hr=>⟨_,au (aR (uI Ia (pv 0) (tj (bo (qZ rfl) (by rfl) T.max yB (ad aj (ad (aF fx (pcl aQ.G hr aQ.m aQ.k aQ.b (ad (pv 0) (ad (pv 1) ag))) aj) ag)))) (tj (pcl aQ.G hr aQ.m aQ.k aQ.b (ad (pv 0) (ad (pv 2) ag)))))),rfl⟩
abbrev kU:=Ak CX0 2 "begun_between" ["pairs", "first", "last"] kr
theorem xR (F:Fun K "blocks_of" "blocks_of" lS f fd) (T:Txt K mg) (aB:fT P w K mg base gr fk):FnOk P w K mg base CX0 2 f fd ["picture"] (pA K):=F.okk (N:=["picture", "blocks", "a", "b", "y"]) (yu K).2 rfl rfl (by ac_rfl) fun nd _ _ _ _ _ _ hr=>⟨_,ao (pst 1 nd (eT ag)) (ao (gy PassesOwn.never rfl (bF (bo hZ (by rfl) T.sorted mO (ad (bR (show CmpOk ["picture", "blocks", "a", "b", "y"] (aK lS) _ ["y", "a", "b"] [none,none,none] from fL) (bF (pcl aB.G hr aB.m aB.k aB.b (ad (pv 0) ag))) (fun _=>cF rfl (aC (pgc 0) (aC (pgc 1) (aC (pgc 2) bE)))) (eU (aL aN (aL aN (aL aN cJ aD) aD) aD)) (fun _=>cI) (fun _=>aI (ad (pv 1) (ad (pv 2) (ad (pv 0) ag))))) ag))) (cF rfl (aC (pgn 2 nd) (aC (pgn 3 nd) (aC (pgn 4 nd) bE)))) (au (eN (PW.pt (tY (lz (pv 1) (fun _=>rfl)) (pr (ptc (jb hr.units) (pix (pv 1) (cA bv aj)) (aI (ad (pv 2) (ad (pix (pix (pv 1) (cA bv aj)) aj) (ad (pv 3) (ad (aF fx (pv 4) aj) ag))))))))) (au (vj (aI (ad (pv 2) (ad (pix (pix (pv 1) (cA bv aj)) aj) (ad (pv 3) (ad (pv 4) ag))))) (ya (pv 1) (cA bv aj) oP))) (au (di (mj PySem.F.plainAttrs_list PySem.F.slot_list_append PySem.F.type_list_append cW (pv 1) (ad (aI (ad (pv 2) (ad (pv 4) (ad (pv 3) (ad (pv 4) ag))))) ag))))))) (au (aR (b9 bj (by rfl) T.tuple du (ad (pv 1) ag))))),rfl⟩
abbrev rK:=Ak CX0 2 "blocks_of" ["picture"] pA
theorem F7 (F:Fun K "moved" "moved" xO f fd) (T:Txt K mg) (fK:sd P w K mg base sn oG):FnOk P w K mg base CX0 2 f fd ["picture", "dx", "dy"] (AA K):=F.okk (N:=["picture", "dx", "dy"]) (Eh K).2 rfl rfl (by ac_rfl) fun nd _ _ _ _ _ _ hr=>⟨_,au (aR (b9 bj (by rfl) T.tuple du (ad (bR (show CmpOk ["picture", "dx", "dy"] (aK xO) _ ["y", "row", "dy", "dx"] [none,none,some 2,some 1] from fL) (bF (pv 0)) (fun _=>cF rfl (aC (pgc 0) (aC (pgc 1) bE))) (eU (aL aN (aL aN cJ aD) aD)) (fun _=>cI) (fun _=>aI (ad (aF aY (pv 0) (pv 2)) (ad (pcl fK.G hr fK.m fK.k fK.b (ad (pv 1) (ad (pv 3) ag))) ag)))) ag))),rfl⟩
abbrev yC:=Ak CX0 2 "moved" ["picture", "dx", "dy"] AA
theorem vF (F:Fun K "picture_of" "picture_of" ig f fd) (T:Txt K mg) (dA:t7 P w K mg base vm qS):FnOk P w K mg base CX0 2 f fd ["stretches"] (nj K):=F.okk (N:=["stretches", "pairs_by_row", "y", "a", "b"]) (vR K).2 rfl rfl (by ac_rfl) fun nd _ _ _ _ _ _ hr=>⟨_,ao (pst 1 nd (eT ag)) (ao (gy PassesOwn.never rfl (bF (bo hZ (by rfl) T.sorted mO (ad (bR (show CmpOk ["stretches", "pairs_by_row", "y", "a", "b"] (aK ig) _ ["y", "a", "b"] [none,none,none] from fL) (bF (pv 0)) (fun _=>cF rfl (aC (pgc 0) (aC (pgc 1) (aC (pgc 2) bE)))) (eU (aL aN (aL aN (aL aN cJ aD) aD) aD)) (fun _=>pS (ptc zI (pv 1) (pv 2))) (fun _=>aI (ad (pv 0) (ad (pv 1) (ad (pv 2) ag))))) ag))) (cF rfl (aC (pgn 2 nd) (aC (pgn 3 nd) (aC (pgn 4 nd) bE)))) (ao (eN (PW.pt (Aj (A0 (lz (pv 1) (fun _=>rfl))) (tJ (ptc (lQ hr.units) (pix (pix (pv 1) (cA bv aj)) aj) (pv 2))))) (au (di (mj PySem.F.plainAttrs_list PySem.F.slot_list_append PySem.F.type_list_append cW (pv 1) (ad (aI (ad (pv 2) (ad (eT ag) ag))) ag)))) cO) (au (di (mj PySem.F.plainAttrs_list PySem.F.slot_list_append PySem.F.type_list_append cW (pix (pix (pv 1) (cA bv aj)) aj) (ad (aI (ad (pv 3) (ad (pv 4) ag))) ag)))))) (au (aR (b9 bj (by rfl) T.tuple du (ad (bR (show CmpOk ["stretches", "pairs_by_row", "y", "a", "b"] (aK ig) _ ["y", "pairs"] [none,none] from fL) (bF (pv 1)) (fun _=>cF rfl (aC (pgc 0) (aC (pgc 1) bE))) (eU (aL aN (aL aN cJ aD) aD)) (fun _=>cI) (fun _=>aI (ad (pv 0) (ad (pcl dA.G hr dA.m dA.k dA.b (ad (pv 1) ag)) ag)))) ag))))),rfl⟩
abbrev ij:=Ak CX0 2 "picture_of" ["stretches"] nj
theorem CI (F:Fun K "row_at" "row_at" zE f fd) (T:Txt K mg) (aQ:jR P w K mg base jN jh):FnOk P w K mg base CX0 2 f fd ["picture", "y"] (wO K):=F.okk (N:=["picture", "y", "begun"]) (DW K).2 rfl rfl (by ac_rfl) fun nd _ _ _ _ _ _ hr=>⟨_,ao (pst 2 nd (pcl aQ.G hr aQ.m aQ.k aQ.b (ad (pv 0) (ad (pv 1) ag)))) (ao (eN (PW.pt (tY (ptc EZ (pv 2) aj) (pr (ptc (jb hr.units) (pix (pix (pv 0) (aF fx (pv 2) aj)) aj) (pv 1))))) (au (aR (pix (pix (pv 0) (aF fx (pv 2) aj)) aj))) cO) (au (aR (aI ag)))),rfl⟩
abbrev zF:=Ak CX0 2 "row_at" ["picture", "y"] wO
theorem vM (F:Fun K "row_shrunk" "row_shrunk" kJ f fd) (T:Txt K mg) (dA:t7 P w K mg base vm qS):FnOk P w K mg base CX0 2 f fd ["row", "low", "high"] (nD K):=F.okk (N:=["row", "low", "high"]) (vC K).2 rfl rfl (by ac_rfl) fun nd _ _ _ _ _ _ hr=>⟨_,au (aR (pcl dA.G hr dA.m dA.k dA.b (ad (bR (show CmpOk ["row", "low", "high"] (aK kJ) _ ["a", "b", "low", "high"] [none,none,some 1,some 2] from fL) (bF (pv 0)) (fun _=>cF rfl (aC (pgc 0) (aC (pgc 1) bE))) (eU (aL aN (aL aN cJ aD) aD)) (fun _=>cI) (fun _=>aI (ad (aF fx (pv 0) (pv 2)) (ad (aF fx (pv 1) (pv 3)) ag)))) ag))),rfl⟩
abbrev oK:=Ak CX0 2 "row_shrunk" ["row", "low", "high"] nD
theorem oU (F:Fun K "__init__" "Shape.__init__" gD f fd) (T:Txt K mg) (fN:rK P w K mg base r9 pp) (AB_Form:pz P w K mg base c_Form f_Form___init__ cQ):FnOk P w K mg base CX0 3 f fd ["self", "picture"] (jw K):=by
 refine F.ok pK (fun vs H Q E h=>h.1) (fun cdv A outer s H vs Q E hr h=>?_)
 exact ⟨_,ao (eN (tw (jb hr.units) (pv 1) (aI ag) (qz _)) rA cO) (au (di (kL AB_Form.cf (by rfl) AB_Form.g AB_Form.G (hr.mono (by decide)) AB_Form.b eo (ad (pv 0) (ad (aI (ad (xZ fN.G (hr.mono (by decide)) (by rfl) fN.m fN.k fN.b .nil eo (ad (pv 1) ag)) ag)) ag))))),uR (xz (SE.p (Fj (K8 false) (iL 1) ((nz gX).p)))) (nz (bH (Bz (E:=E0) (bH (rY 1) gX) (uh (fun _ _ h=>xY h))) gX)) rfl h⟩
abbrev xn:=Ac CX0 3 "Shape" ["self", "picture"] jw
theorem De (F:Fun K "common" "common" uW f fd) (T:Txt K mg) (aE:dU P w K mg base dP dm) (eJ:pV P w K mg base pq m8) (kc:zF P w K mg base y7 wq):FnOk P w K mg base CX0 3 f fd ["one", "other"] (wv K):=F.okk (N:=["one", "other"]) (Dw K).2 rfl rfl (by ac_rfl) fun nd _ _ _ _ _ _ hr=>⟨_,au (aR (pcl aE.G hr aE.m aE.k aE.b (ad (bR (show CmpOk ["one", "other"] (aK uW) _ ["y", "row", "other"] [none,none,some 1] from fL) (bF (pv 0)) (fun _=>cF rfl (aC (pgc 0) (aC (pgc 1) bE))) (eU (aL aN (aL aN cJ aD) aD)) (fun _=>cI) (fun _=>aI (ad (pv 0) (ad (pcl eJ.G hr eJ.m eJ.k eJ.b (ad (pv 1) (ad (pcl kc.G hr kc.m kc.k kc.b (ad (pv 2) (ad (pv 0) ag))) ag))) ag)))) ag))),rfl⟩
abbrev u6:=Ak CX0 3 "common" ["one", "other"] wv
theorem Gr (F:Fun K "join" "join" FO f fd) (T:Txt K mg) (aO:ij P w K mg base iu gM) (aB:fT P w K mg base gr fk):FnOk P w K mg base CX0 3 f fd ["one", "other"] (Cl K):=F.okk (N:=["one", "other"]) (GF K).2 rfl rfl (by ac_rfl) fun nd _ _ _ _ _ _ hr=>⟨_,au (aR (pcl aO.G hr aO.m aO.k aO.b (ad (aF aY (pcl aB.G hr aB.m aB.k aB.b (ad (pv 0) ag)) (pcl aB.G hr aB.m aB.k aB.b (ad (pv 1) ag))) ag))),rfl⟩
abbrev Fo:=Ak CX0 3 "join" ["one", "other"] Cl
theorem Bu (F:Fun K "reached" "reached" rp f fd) (T:Txt K mg) (bm:kU P w K mg base kZ jU) (aE:dU P w K mg base dP dm):FnOk P w K mg base CX0 3 f fd ["picture", "box", "block"] (vg K):=F.okk (N:=["picture", "box", "block", "rows"]) (Br K).2 rfl rfl (by ac_rfl) fun nd _ _ _ _ _ _ hr=>⟨_,ao (pst 3 nd (pcl bm.G hr bm.m bm.k bm.b (ad (pv 0) (ad (aF aY (pix (pv 1) aj) (pix (pv 2) aj)) (ad (aF aY (pix (pv 1) aj) (pix (pv 2) aj)) ag))))) (au (aR (pcl aE.G hr aE.m aE.k aE.b (ad (bR (show CmpOk ["picture", "box", "block", "rows"] (aK rp) _ ["y", "row", "box", "block"] [none,none,some 1,some 2] from fL) (bF (pv 3)) (fun _=>cF rfl (aC (pgc 0) (aC (pgc 1) bE))) (eU (aL aN (aL aN cJ aD) aD)) (fun _=>cI) (fun _=>aI (ad (pv 0) (ad (pcl bm.G hr bm.m bm.k bm.b (ad (pv 1) (ad (aF aY (pix (pv 2) aj) (pix (pv 3) aj)) (ad (aF aY (pix (pv 2) aj) (pix (pv 3) aj)) ag)))) ag)))) ag)))),rfl⟩
abbrev wD:=Ak CX0 3 "reached" ["picture", "box", "block"] vg
theorem tR (F:Fun K "shrunk_down" "shrunk_down" nq f fd) (T:Txt K mg) (dw:u6 P w K mg base u3 rk) (fi:yC P w K mg base yv uV):FnOk P w K mg base CX0 4 f fd ["picture", "by"] (l9 K):=F.okk (N:=["picture", "by", "done", "step"]) (ux K).2 rfl rfl (by ac_rfl) fun nd _ _ _ _ _ _ hr=>⟨_,ao (pst 2 nd aj) (ao (pL PassesOwn.never (ptc lJ (pv 2) (pv 1)) (ao (pst 3 nd (bo (qf rfl) (by rfl) T.min uw (ad (aF aY (pv 2) aj) (ad (aF fx (pv 1) (pv 2)) ag)))) (ao (pst 0 nd (pcl dw.G hr dw.m dw.k dw.b (ad (pv 0) (ad (pcl fi.G hr fi.m fi.k fi.b (ad (pv 0) (ad aj (ad (cA bv (pv 3)) ag)))) ag)))) (au (ym (i:=2) nd rfl (.inl rfl) (pv 3) yy))))) (au (aR (pv 0)))),rfl⟩
abbrev m7:=Ak CX0 4 "shrunk_down" ["picture", "by"] l9
theorem tE (F:Fun K "spread_down" "spread_down" nl f fd) (T:Txt K mg) (qI:Fo P w K mg base Eu BZ) (fi:yC P w K mg base yv uV):FnOk P w K mg base CX0 4 f fd ["picture", "by"] (mD K):=F.okk (N:=["picture", "by", "done", "step"]) (u2 K).2 rfl rfl (by ac_rfl) fun nd _ _ _ _ _ _ hr=>⟨_,ao (pst 2 nd aj) (ao (pL PassesOwn.never (ptc lJ (pv 2) (pv 1)) (ao (pst 3 nd (bo (qf rfl) (by rfl) T.min uw (ad (aF aY (pv 2) aj) (ad (aF fx (pv 1) (pv 2)) ag)))) (ao (pst 0 nd (pcl qI.G hr qI.m qI.k qI.b (ad (pv 0) (ad (pcl fi.G hr fi.m fi.k fi.b (ad (pv 0) (ad aj (ad (pv 3) ag)))) ag)))) (au (ym (i:=2) nd rfl (.inl rfl) (pv 3) yy))))) (au (aR (pv 0)))),rfl⟩
abbrev ni:=Ak CX0 4 "spread_down" ["picture", "by"] mD
theorem Gk (F:Fun K "fold" "fold" Ey f fd) (T:Txt K mg) (A_Shape:xn P w K mg base c_Shape cZ f6) (A_Sum:EO P w K mg base c_Sum eD g8):FnOk P w K mg base CX0 5 f fd ["form", "many"] (BV K):=F.okk (N:=["form", "many", "folded", "again"]) (GG K).2 rfl rfl (by ac_rfl) fun nd _ _ _ _ _ _ hr=>⟨_,ao (pst 2 nd (j7 A_Shape.n A_Shape.M A_Shape.G (hr.mono (by decide)) (by rfl) A_Shape.g A_Shape.b eo (ad (yV (by rfl) T.ONE_CELL.choose_spec.choose_spec.1 T.ONE_CELL.choose_spec.choose_spec.2.1 T.ONE_CELL.choose_spec.choose_spec.2.2) ag))) (ao (gy PassesOwn.never rfl (j9 (by rfl) T.range (ad (pv 1) ag)) (pgn 3 nd) (au (pst 2 nd (j7 A_Sum.n A_Sum.M A_Sum.G (hr.mono (by decide)) (by rfl) A_Sum.g A_Sum.b eo (ad (pv 2) (ad (pv 0) ag)))))) (au (aR (pv 2)))),rfl⟩
abbrev AQ:=Ak CX0 5 "fold" ["form", "many"] BV
theorem mT (F:Fun K "greater_by_block" "greater_by_block" fE f fd) (T:Txt K mg) (aB:fT P w K mg base gr fk) (dH:ni P w K mg base nH lZ) (aO:ij P w K mg base iu gM):FnOk P w K mg base CX0 5 f fd ["picture", "block"] (g9 K):=F.okk (N:=["picture", "block", "wide"]) (mU K).2 rfl rfl (by ac_rfl) fun nd _ _ _ _ _ _ hr=>⟨_,ao (GB (i:=2) (hN:=nd) (hi0:=rfl) (hx:=Or.inl rfl) (ck:=(show CmpOk ["picture", "block", "wide"] (aK fE) _ ["y", "a", "b", "block"] [none,none,none,some 1] from fL)) (hi:=bF (pcl aB.G hr aB.m aB.k aB.b (ad (pv 0) ag))) (hg:=fun _=>cF rfl (aC (pgc 0) (aC (pgc 1) (aC (pgc 2) bE)))) (hs:=eU (aL aN (aL aN (aL aN cJ aD) aD) aD)) (ht:=fun _=>cI) (he:=fun _=>aI (ad (aF aY (pv 0) (pix (pv 3) aj)) (ad (aF aY (pv 1) (pix (pv 3) aj)) (ad (aF aY (pv 2) (pix (pv 3) aj)) ag))))) (ao (eN (ptc (jb hr.units) (pix (pv 1) aj) (pix (pv 1) aj)) (au (aR (pv 2))) cO) (au (aR (pcl aB.G hr aB.m aB.k aB.b (ad (pcl dH.G hr dH.m dH.k dH.b (ad (pcl aO.G hr aO.m aO.k aO.b (ad (pv 2) ag)) (ad (aF fx (pix (pv 1) aj) (pix (pv 1) aj)) ag))) ag))))),rfl⟩
abbrev iU:=Ak CX0 5 "greater_by_block" ["picture", "block"] g9
theorem mY (F:Fun K "smaller_by_block" "smaller_by_block" fy f fd) (T:Txt K mg) (aE:dU P w K mg base dP dm) (eE:oK P w K mg base pi nh) (dJ:m7 P w K mg base nF lF):FnOk P w K mg base CX0 5 f fd ["picture", "block"] (hJ K):=F.okk (N:=["picture", "block", "narrow"]) (mV K).2 rfl rfl (by ac_rfl) fun nd _ _ _ _ _ _ hr=>⟨_,ao (pst 2 nd (pcl aE.G hr aE.m aE.k aE.b (ad (bR (show CmpOk ["picture", "block", "narrow"] (aK fy) _ ["y", "row", "block"] [none,none,some 1] from fL) (bF (pv 0)) (fun _=>cF rfl (aC (pgc 0) (aC (pgc 1) bE))) (eU (aL aN (aL aN cJ aD) aD)) (fun _=>cI) (fun _=>aI (ad (aF fx (pv 0) (pix (pv 2) aj)) (ad (pcl eE.G hr eE.m eE.k eE.b (ad (pv 1) (ad (pix (pv 2) aj) (ad (pix (pv 2) aj) ag)))) ag)))) ag))) (au (aR (pcl dJ.G hr dJ.m dJ.k dJ.b (ad (pv 2) (ad (aF fx (pix (pv 1) aj) (pix (pv 1) aj)) ag))))),rfl⟩
abbrev jj:=Ak CX0 5 "smaller_by_block" ["picture", "block"] hJ
theorem nP (F:Fun K "greater_by_part" "greater_by_part" jx f fd) (T:Txt K mg) (bG:iU P w K mg base iZ hG) (aO:ij P w K mg base iu gM):FnOk P w K mg base CX0 6 f fd ["picture", "blocks"] (ja K):=F.okk (N:=["picture", "blocks", "stretches", "block"]) (oA K).2 rfl rfl (by ac_rfl) fun nd _ _ _ _ _ _ hr=>⟨_,ao (pst 2 nd (eT ag)) (ao (gy PassesOwn.never rfl (bF (pv 1)) (pgn 3 nd) (au (di (mj PySem.F.plainAttrs_list PySem.F.slot_list_extend PySem.F.type_list_extend BO (pv 2) (ad (pcl bG.G hr bG.m bG.k bG.b (ad (pv 0) (ad (pv 3) ag))) ag))))) (au (aR (pcl aO.G hr aO.m aO.k aO.b (ad (pv 2) ag))))),rfl⟩
abbrev jD:=Ak CX0 6 "greater_by_part" ["picture", "blocks"] ja
theorem oh (F:Fun K "smaller_by_part" "smaller_by_part" jE f fd) (T:Txt K mg) (aU:jj P w K mg base i9 hX) (dw:u6 P w K mg base u3 rk) (iy:wD P w K mg base ww ue) (kb:zq P w K mg base Ao wC):FnOk P w K mg base CX0 6 f fd ["picture", "blocks"] (iR K):=F.okk (N:=["picture", "blocks", "kept", "block"]) (ox K).2 rfl rfl (by ac_rfl) fun nd _ _ _ _ _ _ hr=>⟨_,ao (pst 2 nd (pcl aU.G hr aU.m aU.k aU.b (ad (pv 0) (ad (pix (pv 1) (cA bv aj)) ag)))) (ao (gy PassesOwn.never rfl (bF (uI Ia (pv 1) (Co) (tj (cA bv aj)))) (pgn 3 nd) (ao (eN (ptc (jb hr.units) (pv 2) (aI ag)) (au (aR (aI ag))) cO) (au (pst 2 nd (pcl dw.G hr dw.m dw.k dw.b (ad (pv 2) (ad (pcl aU.G hr aU.m aU.k aU.b (ad (pcl iy.G hr iy.m iy.k iy.b (ad (pv 0) (ad (pcl kb.G hr kb.m kb.k kb.b (ad (pv 2) ag)) (ad (pv 3) ag)))) (ad (pv 3) ag))) ag))))))) (au (aR (pv 2)))),rfl⟩
abbrev jH:=Ak CX0 6 "smaller_by_part" ["picture", "blocks"] iR
theorem sF (F:Fun K "greater" "Form.greater" mI f fd) (T:Txt K mg) (bN:jD P w K mg base jt iQ):FnOk P w K mg base CX0 7 f fd ["self", "picture"] (lc K):=F.okk (N:=["self", "picture", "blocks"]) (sG K).2 rfl rfl (by ac_rfl) fun nd _ _ _ _ _ _ hr=>⟨_,ao (gy PassesOwn.never rfl (JN (by rfl) T.reversed (ad (sX T.cN (pv 0) rfl) ag)) (pgn 2 nd) (au (pst 1 nd (pcl bN.G hr bN.m bN.k bN.b (ad (pv 1) (ad (pv 2) ag)))))) (au (aR (pv 1))),rfl⟩
abbrev fU:=Am 7 "greater" NS ["self", "picture"] lc
theorem sL (F:Fun K "smaller" "Form.smaller" lD f fd) (T:Txt K mg) (bM:jH P w K mg base jB iI):FnOk P w K mg base CX0 7 f fd ["self", "picture"] (lg K):=F.okk (N:=["self", "picture", "blocks"]) (sC K).2 rfl rfl (by ac_rfl) fun nd _ _ _ _ _ _ hr=>⟨_,ao (gy PassesOwn.never rfl (bF (sX T.cN (pv 0) rfl)) (pgn 2 nd) (au (pst 1 nd (pcl bM.G hr bM.m bM.k bM.b (ad (pv 1) (ad (pv 2) ag)))))) (au (aR (pv 1))),rfl⟩
abbrev jl:=Am 7 "smaller" NS ["self", "picture"] lg
theorem vX (F:Fun K "cells" "Form.cells" oX f fd) (T:Txt K mg) (aJ:fU P w K mg base f_Form_greater fg):FnOk P w K mg base CX0 8 f fd ["self"] (nA K):=F.okk (N:=["self"]) (vL K).2 rfl rfl (by ac_rfl) fun nd _ _ _ _ _ _ hr=>⟨_,au (aR (jn aJ.cm aJ.G (hr.mono (by decide)) aJ.b eo (pv 0) (ad (yV (by rfl) T.ONE_CELL.choose_spec.choose_spec.1 T.ONE_CELL.choose_spec.choose_spec.2.1 T.ONE_CELL.choose_spec.choose_spec.2.2) ag))),rfl⟩
abbrev o9:=Am 8 "cells" NS ["self"] nA
theorem xN (F:Fun K "_law_repeated" "_law_repeated" sr f fd) (T:Txt K mg) (bD:AQ P w K mg base Bj xQ) (aJ:fU P w K mg base f_Form_greater fg) (aZ:jl P w K mg base f_Form_smaller gU):FnOk P w K mg base CX0 8 f fd ["_law_form", "_law_picture_here", "_law_many"] (pR K):=F.okk (N:=["_law_form", "_law_picture_here", "_law_many", "_law_often", "_law_greater", "_law_smaller", "_law_k"]) (yx K).2 rfl rfl (by ac_rfl) fun nd _ _ _ _ _ _ hr=>⟨_,ao (pst 3 nd (pcl bD.G hr bD.m bD.k bD.b (ad (pv 0) (ad (pv 2) ag)))) (ao (pst 4 nd (pv 1)) (ao (pst 5 nd (pv 1)) (ao (gy PassesOwn.never rfl (j9 (by rfl) T.range (ad (pv 2) ag)) (pgn 6 nd) (ao (pst 4 nd (jn aJ.cm aJ.G (hr.mono (by decide)) aJ.b eo (pv 0) (ad (pv 4) ag))) (au (pst 5 nd (jn aZ.cm aZ.G (hr.mono (by decide)) aZ.b eo (pv 0) (ad (pv 5) ag)))))) (au (aR (Gd (B8 (jb hr.units) (jn aJ.cm aJ.G (hr.mono (by decide)) aJ.b eo (pv 3) (ad (pv 1) ag)) (pv 4) (qz _)) (Gb (B8 (jb hr.units) (jn aZ.cm aZ.G (hr.mono (by decide)) aZ.b eo (pv 3) (ad (pv 1) ag)) (pv 5) (qz _))))))))),rfl⟩
abbrev rM:=Ak CX0 8 "_law_repeated" ["_law_form", "_law_picture_here", "_law_many"] pR
theorem Iv (F:Fun K "law" "law" F0 f fd) (T:Txt K mg) (am:nN P w K mg base n8 lH) (aV:qw P w K mg base q9 nZ) (dF:xl P w K mg base wM uj) (bD:AQ P w K mg base Bj xQ) (qQ:ED P w K mg base Fq B1) (gH:uK P w K mg base uN rZ) (aX:rM P w K mg base rV oZ) (bp:o9 P w K mg base f_Form_cells nv) (aJ:fU P w K mg base f_Form_greater fg) (aZ:jl P w K mg base f_Form_smaller gU) (A_Box:Hz P w K mg base c_Box fY kS) (A_Shape:xn P w K mg base c_Shape cZ f6) (A_Cross:BX P w K mg base c_Cross eF jF) (A_Sum:EO P w K mg base c_Sum eD g8):FnOk P w K mg base CX0 9 f fd ["_law_script"] (xM K):=F.okk (N:=["_law_script", "_law_first", "_law_many", "_law_far", "_law_sides", "_law_box_here", "_law_x", "_law_y", "_law_dx", "_law_dy", "_law_shape", "_law_due", "_law_picture_here", "_law_cross", "_law_both"]) (Jm K).2 rfl rfl (by ac_rfl) fun nd _ _ _ _ _ _ hr=>⟨_,ao (pst 1 nd (pcl am.G hr am.m am.k am.b (ad (pv 0) (ad aj ag)))) (ao (l7 (i:=2) nd rfl (.inr rfl) (aF cD (pcl am.G hr am.m am.k am.b (ad (pv 0) (ad aj ag))) aj)) (ao (eN (ptc (jb hr.units) (aF cD (aF mQ (pcl am.G hr am.m am.k am.b (ad (pv 0) (ad aj ag))) aj) aj) aj) (au (l7 (i:=2) nd rfl (.inr rfl) aj)) cO) (ao (pst 3 nd (pix (eT (ad aj (ad (aF yA aj aj) ag))) (aF cD (pv 1) aj))) (ao (pst 4 nd (eT (ad (aF cD (pcl am.G hr am.m am.k am.b (ad (pv 0) (ad aj ag))) (pv 3)) (ad (aF cD (pcl am.G hr am.m am.k am.b (ad (pv 0) (ad aj ag))) aj) (ad (aF cD (pcl am.G hr am.m am.k am.b (ad (pv 0) (ad aj ag))) (pv 3)) ag))))) (ao (di (mj PySem.F.plainAttrs_list PySem.F.slot_list_append PySem.F.type_list_append cW (pv 4) (ad (aF cD (pcl am.G hr am.m am.k am.b (ad (pv 0) (ad aj ag))) aj) ag))) (ao (pst 5 nd (j7 A_Box.n A_Box.M A_Box.G (hr.mono (by decide)) (by rfl) A_Box.g A_Box.b eo (ad (pix (pv 4) aj) (ad (pix (pv 4) aj) (ad (pix (pv 4) aj) (ad (pix (pv 4) aj) ag)))))) (ao (l7 (i:=6) nd rfl (.inr rfl) (pcl aV.G hr aV.m aV.k aV.b (ad (pcl am.G hr am.m am.k am.b (ad (pv 0) (ad aj ag))) (ad (pv 3) ag)))) (ao (l7 (i:=7) nd rfl (.inr rfl) (pcl aV.G hr aV.m aV.k aV.b (ad (pcl am.G hr am.m am.k am.b (ad (pv 0) (ad aj ag))) (ad (pv 3) ag)))) (ao (l7 (i:=8) nd rfl (.inr rfl) (aF aY aj (aF cD (pcl am.G hr am.m am.k am.b (ad (pv 0) (ad aj ag))) (pv 3)))) (ao (l7 (i:=9) nd rfl (.inr rfl) (pcl aV.G hr aV.m aV.k aV.b (ad (pcl am.G hr am.m am.k am.b (ad (pv 0) (ad aj ag))) (ad (pv 3) ag)))) (ao (pst 10 nd (j7 A_Shape.n A_Shape.M A_Shape.G (hr.mono (by decide)) (by rfl) A_Shape.g A_Shape.b eo (ad (pcl dF.G hr dF.m dF.k dF.b (ad (eT (ad (aI (ad (pv 6) (ad (pv 7) ag))) (ad (aI (ad (aF aY (pv 6) (pv 8)) (ad (aF aY (pv 7) (pv 9)) ag))) ag))) ag)) ag))) (ao (eN (PW.pt (tY (ptc lJ (pv 2) aj) (pr (ptc (lQ hr.units) (rm bp.cm bp.G (hr.mono (by decide)) bp.b eo (pcl bD.G hr bD.m bD.k bD.b (ad (pv 5) (ad (pv 2) ag)))) (pcl qQ.G hr qQ.m qQ.k qQ.b (ad (pv 4) (ad (pv 2) ag))))))) (au (aR Cg)) cO) (ao (pst 11 nd (pcl dF.G hr dF.m dF.k dF.b (ad (bR (show CmpOk ["_law_script", "_law_first", "_law_many", "_law_far", "_law_sides", "_law_box_here", "_law_x", "_law_y", "_law_dx", "_law_dy", "_law_shape", "_law_due", "_law_picture_here", "_law_cross", "_law_both"] (aK F0) _ ["_law_k", "_law_many", "_law_x", "_law_dx", "_law_y", "_law_dy"] [none,some 2,some 6,some 8,some 7,some 9] from fL) (j9 (by rfl) T.range (ad (aF aY (pv 2) aj) ag)) (fun _=>pgc 0) aN (fun _=>cI) (fun _=>aI (ad (aF aY (aF kM (pv 1) (pv 2)) (aF kM (pv 0) (pv 3))) (ad (aF aY (aF kM (pv 1) (pv 4)) (aF kM (pv 0) (pv 5))) ag)))) ag))) (ao (eN (PW.pt (Aj (ptc (lQ hr.units) (rm bp.cm bp.G (hr.mono (by decide)) bp.b eo (pcl bD.G hr bD.m bD.k bD.b (ad (pv 10) (ad (pv 2) ag)))) (pv 11)) (tJ (ptc (lQ hr.units) (rm bp.cm bp.G (hr.mono (by decide)) bp.b eo (pcl bD.G hr bD.m bD.k bD.b (ad (pv 5) (ad aj ag)))) (aI (ad (aI (ad aj (ad (aI (ad (aI (ad aj (ad aj ag))) ag)) ag))) ag)))))) (au (aR Cg)) cO) (ao (pst 12 nd (pcl gH.G hr gH.m gH.k gH.b (ad (pv 0) ag))) (ao (eN (PW.pt (Aj (ptc (lQ hr.units) (jn aJ.cm aJ.G (hr.mono (by decide)) aJ.b eo (pcl bD.G hr bD.m bD.k bD.b (ad (pv 10) (ad aj ag))) (ad (pv 12) ag)) (pv 12)) (tJ (ptc (lQ hr.units) (jn aZ.cm aZ.G (hr.mono (by decide)) aZ.b eo (pcl bD.G hr bD.m bD.k bD.b (ad (pv 5) (ad aj ag))) (ad (pv 12) ag)) (pv 12))))) (au (aR Cg)) cO) (ao (pst 13 nd (j7 A_Cross.n A_Cross.M A_Cross.G (hr.mono (by decide)) (by rfl) A_Cross.g A_Cross.b eo (ad (aF aY aj (aF cD (pcl am.G hr am.m am.k am.b (ad (pv 0) (ad aj ag))) aj)) ag))) (ao (eN (PW.pt (Aj (A0 (lz (pcl aX.G hr aX.m aX.k aX.b (ad (pv 5) (ad (pv 12) (ad (aF cD (pv 2) aj) ag)))) (fun _=>rfl))) (tJ (A0 (lz (pcl aX.G hr aX.m aX.k aX.b (ad (pv 10) (ad (pv 12) (ad (aF cD (pv 2) aj) ag)))) (fun _=>rfl)))))) (au (aR Cg)) cO) (ao (pst 14 nd (j7 A_Sum.n A_Sum.M A_Sum.G (hr.mono (by decide)) (by rfl) A_Sum.g A_Sum.b eo (ad (pv 13) (ad (pv 10) ag)))) (au (aR (Gd (pcl aX.G hr aX.m aX.k aX.b (ad (pv 13) (ad (pv 12) (ad (aF cD (pv 2) aj) ag)))) (Gb (pcl aX.G hr aX.m aX.k aX.b (ad (pv 14) (ad (pv 12) (ad (aF cD (pv 2) aj) ag))))))))))))))))))))))))))),rfl⟩
end
theorem Ja {l:OpenLaw} {w:World} {K:Frag} {h:Heap} {mg:Str -> Option Value} {fa:Addr} (X:K.In h) (G:h.Ns mainGlobals mg) (hfa:mg "law" = some (.ref fa))
  {g_ONE_CELL_0:Addr} {od_ONE_CELL_0:Option Addr} {n_ONE_CELL_0:Nat} {sl_ONE_CELL_0:Array (Option Value)}
  {g_ONE_CELL_1:Addr} {od_ONE_CELL_1:Option Addr} {n_ONE_CELL_1:Nat} {sl_ONE_CELL_1:Array (Option Value)}
  {t_ONE_CELL_1_0:Tok}
  {g_ONE_CELL_2:Addr} {od_ONE_CELL_2:Option Addr} {n_ONE_CELL_2:Nat} {sl_ONE_CELL_2:Array (Option Value)}
  {g_ONE_CELL_3:Addr} {od_ONE_CELL_3:Option Addr} {n_ONE_CELL_3:Nat} {sl_ONE_CELL_3:Array (Option Value)}
  {t_ONE_CELL_3_0:Tok}
  {t_ONE_CELL_3_1:Tok}
  (n_Box:nsIn K mainGlobals "Box" = some (some (.ref c_Box)))
  (n_Cross:nsIn K mainGlobals "Cross" = some (some (.ref c_Cross)))
  (n_Shape:nsIn K mainGlobals "Shape" = some (some (.ref c_Shape)))
  (n_Sum:nsIn K mainGlobals "Sum" = some (some (.ref c_Sum)))
  (n_Form:nsIn K mainGlobals "Form" = some (some (.ref c_Form)))
  (FH:nsIn K mainGlobals "row_of" = some (some (.ref vm)))
  (vK:nsIn K mainGlobals "count_up_to" = some (some (.ref jN)))
  (yg:nsIn K mainGlobals "row_common" = some (some (.ref pq)))
  (ze:nsIn K mainGlobals "row_moved" = some (some (.ref sn)))
  (yH:nsIn K mainGlobals "row_shrunk" = some (some (.ref pi)))
  (yd:nsIn K mainGlobals "picture_of" = some (some (.ref iu)))
  (uS:nsIn K mainGlobals "stretches_of" = some (some (.ref gr)))
  (Fy:nsIn K mainGlobals "row_at" = some (some (.ref y7)))
  (o4:nsIn K mainGlobals "rows_with_cells" = some (some (.ref dP)))
  (IR:nsIn K mainGlobals "join" = some (some (.ref Eu)))
  (Fc:nsIn K mainGlobals "common" = some (some (.ref u3)))
  (Fs:nsIn K mainGlobals "box_of" = some (some (.ref Ao)))
  (GM:nsIn K mainGlobals "moved" = some (some (.ref yv)))
  (yW:nsIn K mainGlobals "blocks_of" = some (some (.ref r9)))
  (tO:nsIn K mainGlobals "parts_of_sum" = some (some (.ref mz)))
  (vP:nsIn K mainGlobals "spread_down" = some (some (.ref nH)))
  (vS:nsIn K mainGlobals "shrunk_down" = some (some (.ref nF)))
  (oe:nsIn K mainGlobals "greater_by_block" = some (some (.ref iZ)))
  (oM:nsIn K mainGlobals "greater_by_part" = some (some (.ref jt)))
  (oy:nsIn K mainGlobals "smaller_by_block" = some (some (.ref i9)))
  (oQ:nsIn K mainGlobals "smaller_by_part" = some (some (.ref jB)))
  (DZ:nsIn K mainGlobals "reached" = some (some (.ref ww)))
  (sN:nsIn K mainGlobals "begun_between" = some (some (.ref kZ)))
  (JM:nsIn K mainGlobals "fold" = some (some (.ref Bj)))
  (AE:nsIn K mainGlobals "_law_cell_at" = some (some (.ref n8)))
  (DN:nsIn K mainGlobals "_law_signed" = some (some (.ref q9)))
  (IU:nsIn K mainGlobals "_law_box" = some (some (.ref Fq)))
  (C0:nsIn K mainGlobals "_law_points" = some (some (.ref wM)))
  (Bm:nsIn K mainGlobals "_law_picture" = some (some (.ref uN)))
  (z9:nsIn K mainGlobals "_law_repeated" = some (some (.ref rV)))
  (Kr:nsIn K mainGlobals "law" = some (some (.ref Lb)))
  (D5:findIn K (.ref c_Form) "__init__" = some (some (.ref f_Form___init__)))
  (D6:isFn K (.ref f_Form___init__) = true)
  (Ha:findIn K (.ref c_Box) "cells" = some (some (.ref f_Form_cells)))
  (iw:isFn K (.ref f_Form_cells) = true)
  (EY:findIn K (.ref c_Box) "greater" = some (some (.ref f_Form_greater)))
  (gi:isFn K (.ref f_Form_greater) = true)
  (D7:findIn K (.ref c_Box) "smaller" = some (some (.ref f_Form_smaller)))
  (gn:isFn K (.ref f_Form_smaller) = true)
  (tQ:findIn K (.ref c_Box) "__init__" = some (some (.ref fY)))
  (ut:isFn K (.ref fY) = true)
  (qN:findIn K (.ref c_Cross) "__init__" = some (some (.ref eF)))
  (rc:isFn K (.ref eF) = true)
  (p9:findIn K (.ref c_Shape) "__init__" = some (some (.ref cZ)))
  (rg:isFn K (.ref cZ) = true)
  (tK:findIn K (.ref c_Sum) "__init__" = some (some (.ref eD)))
  (ul:isFn K (.ref eD) = true)
  (u0:Fun K "row_of" "row_of" uD vm qS)
  (jS:Fun K "count_up_to" "count_up_to" nk jN jh)
  (kP:Fun K "row_common" "row_common" pJ pq m8)
  (md:Fun K "row_moved" "row_moved" mh sn oG)
  (kD:Fun K "row_shrunk" "row_shrunk" kJ pi nh)
  (kx:Fun K "picture_of" "picture_of" ig iu gM)
  (iW:Fun K "stretches_of" "stretches_of" iH gr fk)
  (tZ:Fun K "row_at" "row_at" zE y7 wq)
  (gd:Fun K "rows_with_cells" "rows_with_cells" gc dP dm)
  (AZ:Fun K "join" "join" FO Eu BZ)
  (u9:Fun K "common" "common" uW u3 rk)
  (uA:Fun K "box_of" "box_of" oI Ao wC)
  (xS:Fun K "moved" "moved" xO yv uV)
  (lR:Fun K "blocks_of" "blocks_of" lS r9 pp)
  (iE:Fun K "parts_of_sum" "parts_of_sum" d8 mz k8)
  (jK:Fun K "spread_down" "spread_down" nl nH lZ)
  (jP:Fun K "shrunk_down" "shrunk_down" nq nF lF)
  (fA:Fun K "greater_by_block" "greater_by_block" fE iZ hG)
  (gk:Fun K "greater_by_part" "greater_by_part" jx jt iQ)
  (fG:Fun K "smaller_by_block" "smaller_by_block" fy i9 hX)
  (fX:Fun K "smaller_by_part" "smaller_by_part" jE jB iI)
  (p0:Fun K "reached" "reached" rp ww ue)
  (g6:Fun K "begun_between" "begun_between" k7 kZ jU)
  (AN:Fun K "fold" "fold" Ey Bj xQ)
  (oj:Fun K "_law_cell_at" "_law_cell_at" tW n8 lH)
  (qJ:Fun K "_law_signed" "_law_signed" wc q9 nZ)
  (Bk:Fun K "_law_box" "_law_box" ET Fq B1)
  (qK:Fun K "_law_points" "_law_points" p7 wM uj)
  (oB:Fun K "_law_picture" "_law_picture" uM uN rZ)
  (lX:Fun K "_law_repeated" "_law_repeated" sr rV oZ)
  (Hr:Fun K "law" "law" F0 Lb Iz)
  (gW:Fun K "__init__" "Form.__init__" gY f_Form___init__ cQ)
  (eK:Fun K "cells" "Form.cells" oX f_Form_cells nv)
  (cX:Fun K "greater" "Form.greater" mI f_Form_greater fg)
  (c0:Fun K "smaller" "Form.smaller" lD f_Form_smaller gU)
  (lU:Fun K "__init__" "Box.__init__" je fY kS)
  (jT:Fun K "__init__" "Cross.__init__" gG eF jF)
  (ka:Fun K "__init__" "Shape.__init__" gD cZ f6)
  (lM:Fun K "__init__" "Sum.__init__" iP eD g8)
  (pg_Box:plainGet K c_Box Str.empty = true)
  (hd_Box:hasDictIn K c_Box = true)
  (po_Box:plainOver K c_Box = true)
  (sa_Box:findIn K (.ref c_Box) "__setattr__" = some (some (.builtin "object.__setattr__")))
  (mk_Box:makesIn K c_Box = true)
  (kc_Box:keepIn K (.ref c_Box) = true)
  (np_Box:findIn K (.ref c_Box) "parts" = some none)
  (mm_Box_cells:findIn K (.ref c_Box) "cells" = some (some (.ref f_Form_cells)))
  (mm_Box_greater:findIn K (.ref c_Box) "greater" = some (some (.ref f_Form_greater)))
  (mm_Box_smaller:findIn K (.ref c_Box) "smaller" = some (some (.ref f_Form_smaller)))
  (pg_Cross:plainGet K c_Cross Str.empty = true)
  (hd_Cross:hasDictIn K c_Cross = true)
  (po_Cross:plainOver K c_Cross = true)
  (sa_Cross:findIn K (.ref c_Cross) "__setattr__" = some (some (.builtin "object.__setattr__")))
  (mk_Cross:makesIn K c_Cross = true)
  (kc_Cross:keepIn K (.ref c_Cross) = true)
  (np_Cross:findIn K (.ref c_Cross) "parts" = some none)
  (mm_Cross_cells:findIn K (.ref c_Cross) "cells" = some (some (.ref f_Form_cells)))
  (mm_Cross_greater:findIn K (.ref c_Cross) "greater" = some (some (.ref f_Form_greater)))
  (mm_Cross_smaller:findIn K (.ref c_Cross) "smaller" = some (some (.ref f_Form_smaller)))
  (pg_Shape:plainGet K c_Shape Str.empty = true)
  (hd_Shape:hasDictIn K c_Shape = true)
  (po_Shape:plainOver K c_Shape = true)
  (sa_Shape:findIn K (.ref c_Shape) "__setattr__" = some (some (.builtin "object.__setattr__")))
  (mk_Shape:makesIn K c_Shape = true)
  (kc_Shape:keepIn K (.ref c_Shape) = true)
  (np_Shape:findIn K (.ref c_Shape) "parts" = some none)
  (mm_Shape_cells:findIn K (.ref c_Shape) "cells" = some (some (.ref f_Form_cells)))
  (mm_Shape_greater:findIn K (.ref c_Shape) "greater" = some (some (.ref f_Form_greater)))
  (mm_Shape_smaller:findIn K (.ref c_Shape) "smaller" = some (some (.ref f_Form_smaller)))
  (pg_Sum:plainGet K c_Sum Str.empty = true)
  (hd_Sum:hasDictIn K c_Sum = true)
  (po_Sum:plainOver K c_Sum = true)
  (sa_Sum:findIn K (.ref c_Sum) "__setattr__" = some (some (.builtin "object.__setattr__")))
  (mk_Sum:makesIn K c_Sum = true)
  (kc_Sum:keepIn K (.ref c_Sum) = true)
  (np_Sum:findIn K (.ref c_Sum) "parts" = some none)
  (mm_Sum_cells:findIn K (.ref c_Sum) "cells" = some (some (.ref f_Form_cells)))
  (mm_Sum_greater:findIn K (.ref c_Sum) "greater" = some (some (.ref f_Form_greater)))
  (mm_Sum_smaller:findIn K (.ref c_Sum) "smaller" = some (some (.ref f_Form_smaller)))
  (bs_Form:specialIn K (.ref c_Form) "__getattribute__" = some (some (.builtin "type.__getattribute__")))
  (br_Form:readsIn K c_Form (.type "type") = true)
  (bf_Form:findCls K (.ref c_Form) (.type "type") "__init__" = some (.val (.ref f_Form___init__)))
  (z_len:nsIn K mainGlobals "len" = some none)
  (z_max:nsIn K mainGlobals "max" = some none)
  (z_min:nsIn K mainGlobals "min" = some none)
  (z_range:nsIn K mainGlobals "range" = some none)
  (z_reversed:nsIn K mainGlobals "reversed" = some none)
  (z_sorted:nsIn K mainGlobals "sorted" = some none)
  (z_sum:nsIn K mainGlobals "sum" = some none)
  (z_tuple:nsIn K mainGlobals "tuple" = some none)
  (y_ONE_CELL:nsIn K mainGlobals "ONE_CELL" = some (some (.ref g_ONE_CELL_0)))
  (v_ONE_CELL_0:K.lookup g_ONE_CELL_0 = some ⟨.type "tuple",od_ONE_CELL_0,.seq #[.ref g_ONE_CELL_1] n_ONE_CELL_0,sl_ONE_CELL_0⟩)
  (v_ONE_CELL_1:K.lookup g_ONE_CELL_1 = some ⟨.type "tuple",od_ONE_CELL_1,.seq #[.int (0) t_ONE_CELL_1_0,.ref g_ONE_CELL_2] n_ONE_CELL_1,sl_ONE_CELL_1⟩)
  (v_ONE_CELL_2:K.lookup g_ONE_CELL_2 = some ⟨.type "tuple",od_ONE_CELL_2,.seq #[.ref g_ONE_CELL_3] n_ONE_CELL_2,sl_ONE_CELL_2⟩)
  (v_ONE_CELL_3:K.lookup g_ONE_CELL_3 = some ⟨.type "tuple",od_ONE_CELL_3,.seq #[.int (0) t_ONE_CELL_3_0,.int (0) t_ONE_CELL_3_1] n_ONE_CELL_3,sl_ONE_CELL_3⟩)
  : ∃ fd:FuncData,(∀ (s:Shared) (v:Value),BindsTo s fd ⟨[v],[]⟩ [("_law_script",v)]) /\ ∀ base:Heap,K.In base -> base.Ns mainGlobals mg -> FnOk l.prog w K mg base CX0 9 fa fd ["_law_script"] (xM K):=by
 have e:=hfa.symm.trans (mg_of X G Kr)
 cases e
 have cN:rh K NS fun C=>Cls K C /\ NoAttr K C "parts" := bz n_Box ⟨⟨pg_Box,hd_Box,po_Box,sa_Box⟩,np_Box⟩ (bz n_Cross ⟨⟨pg_Cross,hd_Cross,po_Cross,sa_Cross⟩,np_Cross⟩ (bz n_Shape ⟨⟨pg_Shape,hd_Shape,po_Shape,sa_Shape⟩,np_Shape⟩ (bz n_Sum ⟨⟨pg_Sum,hd_Sum,po_Sum,sa_Sum⟩,np_Sum⟩ (pY))))
 have vW:rh K NS fun C=>Cls K C /\ Meth K C "cells" f_Form_cells:=bz n_Box ⟨⟨pg_Box,hd_Box,po_Box,sa_Box⟩,⟨mm_Box_cells,iw,eK.kp⟩⟩ (bz n_Cross ⟨⟨pg_Cross,hd_Cross,po_Cross,sa_Cross⟩,⟨mm_Cross_cells,iw,eK.kp⟩⟩ (bz n_Shape ⟨⟨pg_Shape,hd_Shape,po_Shape,sa_Shape⟩,⟨mm_Shape_cells,iw,eK.kp⟩⟩ (bz n_Sum ⟨⟨pg_Sum,hd_Sum,po_Sum,sa_Sum⟩,⟨mm_Sum_cells,iw,eK.kp⟩⟩ (pY))))
 have sS:rh K NS fun C=>Cls K C /\ Meth K C "greater" f_Form_greater:=bz n_Box ⟨⟨pg_Box,hd_Box,po_Box,sa_Box⟩,⟨mm_Box_greater,gi,cX.kp⟩⟩ (bz n_Cross ⟨⟨pg_Cross,hd_Cross,po_Cross,sa_Cross⟩,⟨mm_Cross_greater,gi,cX.kp⟩⟩ (bz n_Shape ⟨⟨pg_Shape,hd_Shape,po_Shape,sa_Shape⟩,⟨mm_Shape_greater,gi,cX.kp⟩⟩ (bz n_Sum ⟨⟨pg_Sum,hd_Sum,po_Sum,sa_Sum⟩,⟨mm_Sum_greater,gi,cX.kp⟩⟩ (pY))))
 have sQ:rh K NS fun C=>Cls K C /\ Meth K C "smaller" f_Form_smaller:=bz n_Box ⟨⟨pg_Box,hd_Box,po_Box,sa_Box⟩,⟨mm_Box_smaller,gn,c0.kp⟩⟩ (bz n_Cross ⟨⟨pg_Cross,hd_Cross,po_Cross,sa_Cross⟩,⟨mm_Cross_smaller,gn,c0.kp⟩⟩ (bz n_Shape ⟨⟨pg_Shape,hd_Shape,po_Shape,sa_Shape⟩,⟨mm_Shape_smaller,gn,c0.kp⟩⟩ (bz n_Sum ⟨⟨pg_Sum,hd_Sum,po_Sum,sa_Sum⟩,⟨mm_Sum_smaller,gn,c0.kp⟩⟩ (pY))))
 have T:Txt K mg:=⟨mg_none_of X G z_len,mg_none_of X G z_max,mg_none_of X G z_min,mg_none_of X G z_range,mg_none_of X G z_reversed,mg_none_of X G z_sorted,mg_none_of X G z_sum,mg_none_of X G z_tuple,⟨_,.ref _,mg_of X G y_ONE_CELL,rfl,fun S=>pH (xs:=[.ref g_ONE_CELL_1]) v_ONE_CELL_0 rfl rfl (Nat.le_trans (show 1 <= 1000 by decide) (by rw [sizeLine_eq];decide)) (.cons rfl (.nil)) (fun S=>Dens.cons (pH (xs:=[.int (0),.ref g_ONE_CELL_2]) v_ONE_CELL_1 rfl rfl (Nat.le_trans (show 2 <= 1000 by decide) (by rw [sizeLine_eq];decide)) (.cons ⟨_,rfl⟩ (.cons rfl (.nil))) (fun S=>Dens.cons (den_int.mpr rfl) (Dens.cons (pH (xs:=[.ref g_ONE_CELL_3]) v_ONE_CELL_2 rfl rfl (Nat.le_trans (show 1 <= 1000 by decide) (by rw [sizeLine_eq];decide)) (.cons rfl (.nil)) (fun S=>Dens.cons (pH (xs:=[.int (0),.int (0)]) v_ONE_CELL_3 rfl rfl (Nat.le_trans (show 2 <= 1000 by decide) (by rw [sizeLine_eq];decide)) (.cons ⟨_,rfl⟩ (.cons ⟨_,rfl⟩ (.nil))) (fun S=>Dens.cons (den_int.mpr rfl) (Dens.cons (den_int.mpr rfl) (Dens.nil))) S) (Dens.nil)) S) (Dens.nil))) S) (Dens.nil)) S⟩,cN⟩
 have M_Box:Mk K c_Box fY:=⟨mk_Box,tQ,ut,kc_Box⟩
 have M_Cross:Mk K c_Cross eF:=⟨mk_Cross,qN,rc,kc_Cross⟩
 have M_Shape:Mk K c_Shape cZ:=⟨mk_Shape,p9,rg,kc_Shape⟩
 have M_Sum:Mk K c_Sum eD:=⟨mk_Sum,tK,ul,kc_Sum⟩
 have cf_Form:ClsFn K c_Form "__init__" f_Form___init__:=⟨bs_Form,br_Form,bf_Form,gW.kp⟩
 obtain ⟨_,_,_,_,_,_,_,_,_,hfd,_⟩:=Hr.ex
 refine ⟨Iz,fun s v=>.of_eq (by rw [hfd];rfl),fun base _ _=>?_⟩
 have sO:Binds K cQ ["self", "parts"] []:=gW.binds fun _ _ _ _ _ _ us hl=>by obtain ⟨_,_,rfl⟩:=us2 hl;rfl
 have AB_Form:pz l.prog w K mg base _ _ _:=⟨p6 gW T,sO,cf_Form,mg_of X G n_Form⟩
 have IA:Binds K B1 ["_law_sides", "_law_many"] []:=Bk.binds fun _ _ _ _ _ _ us hl=>by obtain ⟨_,_,rfl⟩:=us2 hl;rfl
 have qQ:ED l.prog w K mg base _ _:=⟨GN Bk T,mg_of X G IU,Bk.kp,IA⟩
 have AG:Binds K lH ["_law_script", "_law_k"] []:=oj.binds fun _ _ _ _ _ _ us hl=>by obtain ⟨_,_,rfl⟩:=us2 hl;rfl
 have am:nN l.prog w K mg base _ _:=⟨zi oj T,mg_of X G AE,oj.kp,AG⟩
 have CS:Binds K uj ["_law_cells"] []:=qK.binds fun _ _ _ _ _ _ us hl=>by obtain ⟨_,rfl⟩:=us1 hl;rfl
 have dF:xl l.prog w K mg base _ _:=⟨AI qK T,mg_of X G C0,qK.kp,CS⟩
 have Dy:Binds K nZ ["_law_cell", "_law_most"] []:=qJ.binds fun _ _ _ _ _ _ us hl=>by obtain ⟨_,_,rfl⟩:=us2 hl;rfl
 have aV:qw l.prog w K mg base _ _:=⟨A9 qJ T,mg_of X G DN,qJ.kp,Dy⟩
 have E9:Binds K wC ["picture"] []:=uA.binds fun _ _ _ _ _ _ us hl=>by obtain ⟨_,rfl⟩:=us1 hl;rfl
 have kb:zq l.prog w K mg base _ _:=⟨C2 uA T,mg_of X G Fs,uA.kp,E9⟩
 have vN:Binds K jh ["pairs", "number"] []:=jS.binds fun _ _ _ _ _ _ us hl=>by obtain ⟨_,_,rfl⟩:=us2 hl;rfl
 have aQ:jR l.prog w K mg base _ _:=⟨tF jS T,mg_of X G vK,jS.kp,vN⟩
 have uq:Binds K k8 ["parts"] []:=iE.binds fun _ _ _ _ _ _ us hl=>by obtain ⟨_,rfl⟩:=us1 hl;rfl
 have cR:lK l.prog w K mg base _ _:=⟨sU iE T,mg_of X G tO,iE.kp,uq⟩
 have xE:Binds K m8 ["one", "other"] []:=kP.binds fun _ _ _ _ _ _ us hl=>by obtain ⟨_,_,rfl⟩:=us2 hl;rfl
 have eJ:pV l.prog w K mg base _ _:=⟨vD kP T,mg_of X G yg,kP.kp,xE⟩
 have zT:Binds K oG ["row", "by"] []:=md.binds fun _ _ _ _ _ _ us hl=>by obtain ⟨_,_,rfl⟩:=us2 hl;rfl
 have fK:sd l.prog w K mg base _ _:=⟨yt md T,mg_of X G ze,md.kp,zT⟩
 have EK:Binds K qS ["pairs"] []:=u0.binds fun _ _ _ _ _ _ us hl=>by obtain ⟨_,rfl⟩:=us1 hl;rfl
 have dA:t7 l.prog w K mg base _ _:=⟨CV u0 T,mg_of X G FH,u0.kp,EK⟩
 have oJ:Binds K dm ["rows"] []:=gd.binds fun _ _ _ _ _ _ us hl=>by obtain ⟨_,rfl⟩:=us1 hl;rfl
 have aE:dU l.prog w K mg base _ _:=⟨nL gd T,mg_of X G o4,gd.kp,oJ⟩
 have uE:Binds K fk ["picture"] []:=iW.binds fun _ _ _ _ _ _ us hl=>by obtain ⟨_,rfl⟩:=us1 hl;rfl
 have aB:fT l.prog w K mg base _ _:=⟨sJ iW T,mg_of X G uS,iW.kp,uE⟩
 have tN:Binds K kS ["self", "left", "up", "right", "down"] []:=lU.binds fun _ _ _ _ _ _ us hl=>by obtain ⟨_,_,_,_,_,rfl⟩:=us5 hl;rfl
 have A_Box:Hz l.prog w K mg base _ _ _:=⟨sT lU T AB_Form,tN,n_Box,M_Box,mg_of X G n_Box⟩
 have qE:Binds K jF ["self", "arm"] []:=jT.binds fun _ _ _ _ _ _ us hl=>by obtain ⟨_,_,rfl⟩:=us2 hl;rfl
 have A_Cross:BX l.prog w K mg base _ _ _:=⟨pF jT T AB_Form,qE,n_Cross,M_Cross,mg_of X G n_Cross⟩
 have u5:Binds K g8 ["self", "one", "other"] []:=lM.binds fun _ _ _ _ _ _ us hl=>by obtain ⟨_,_,_,rfl⟩:=us3 hl;rfl
 have A_Sum:EO l.prog w K mg base _ _ _:=⟨su lM T cR AB_Form,u5,n_Sum,M_Sum,mg_of X G n_Sum⟩
 have A4:Binds K rZ ["_law_script"] []:=oB.binds fun _ _ _ _ _ _ us hl=>by obtain ⟨_,rfl⟩:=us1 hl;rfl
 have gH:uK l.prog w K mg base _ _:=⟨Aw oB T aV am,mg_of X G Bm,oB.kp,A4⟩
 have sK:Binds K jU ["pairs", "first", "last"] []:=g6.binds fun _ _ _ _ _ _ us hl=>by obtain ⟨_,_,_,rfl⟩:=us3 hl;rfl
 have bm:kU l.prog w K mg base _ _:=⟨p8 g6 T aQ,mg_of X G sN,g6.kp,sK⟩
 have Ad:Binds K pp ["picture"] []:=lR.binds fun _ _ _ _ _ _ us hl=>by obtain ⟨_,rfl⟩:=us1 hl;rfl
 have fN:rK l.prog w K mg base _ _:=⟨xR lR T aB,mg_of X G yW,lR.kp,Ad⟩
 have Gw:Binds K uV ["picture", "dx", "dy"] []:=xS.binds fun _ _ _ _ _ _ us hl=>by obtain ⟨_,_,_,rfl⟩:=us3 hl;rfl
 have fi:yC l.prog w K mg base _ _:=⟨F7 xS T fK,mg_of X G GM,xS.kp,Gw⟩
 have xV:Binds K gM ["stretches"] []:=kx.binds fun _ _ _ _ _ _ us hl=>by obtain ⟨_,rfl⟩:=us1 hl;rfl
 have aO:ij l.prog w K mg base _ _:=⟨vF kx T dA,mg_of X G yd,kx.kp,xV⟩
 have Fk:Binds K wq ["picture", "y"] []:=tZ.binds fun _ _ _ _ _ _ us hl=>by obtain ⟨_,_,rfl⟩:=us2 hl;rfl
 have kc:zF l.prog w K mg base _ _:=⟨CI tZ T aQ,mg_of X G Fy,tZ.kp,Fk⟩
 have yJ:Binds K nh ["row", "low", "high"] []:=kD.binds fun _ _ _ _ _ _ us hl=>by obtain ⟨_,_,_,rfl⟩:=us3 hl;rfl
 have eE:oK l.prog w K mg base _ _:=⟨vM kD T dA,mg_of X G yH,kD.kp,yJ⟩
 have qt:Binds K f6 ["self", "picture"] []:=ka.binds fun _ _ _ _ _ _ us hl=>by obtain ⟨_,_,rfl⟩:=us2 hl;rfl
 have A_Shape:xn l.prog w K mg base _ _ _:=⟨oU ka T fN AB_Form,qt,n_Shape,M_Shape,mg_of X G n_Shape⟩
 have El:Binds K rk ["one", "other"] []:=u9.binds fun _ _ _ _ _ _ us hl=>by obtain ⟨_,_,rfl⟩:=us2 hl;rfl
 have dw:u6 l.prog w K mg base _ _:=⟨De u9 T aE eJ kc,mg_of X G Fc,u9.kp,El⟩
 have Jl:Binds K BZ ["one", "other"] []:=AZ.binds fun _ _ _ _ _ _ us hl=>by obtain ⟨_,_,rfl⟩:=us2 hl;rfl
 have qI:Fo l.prog w K mg base _ _:=⟨Gr AZ T aO aB,mg_of X G IR,AZ.kp,Jl⟩
 have DK:Binds K ue ["picture", "box", "block"] []:=p0.binds fun _ _ _ _ _ _ us hl=>by obtain ⟨_,_,_,rfl⟩:=us3 hl;rfl
 have iy:wD l.prog w K mg base _ _:=⟨Bu p0 T bm aE,mg_of X G DZ,p0.kp,DK⟩
 have vE:Binds K lF ["picture", "by"] []:=jP.binds fun _ _ _ _ _ _ us hl=>by obtain ⟨_,_,rfl⟩:=us2 hl;rfl
 have dJ:m7 l.prog w K mg base _ _:=⟨tR jP T dw fi,mg_of X G vS,jP.kp,vE⟩
 have vV:Binds K lZ ["picture", "by"] []:=jK.binds fun _ _ _ _ _ _ us hl=>by obtain ⟨_,_,rfl⟩:=us2 hl;rfl
 have dH:ni l.prog w K mg base _ _:=⟨tE jK T qI fi,mg_of X G vP,jK.kp,vV⟩
 have IL:Binds K xQ ["form", "many"] []:=AN.binds fun _ _ _ _ _ _ us hl=>by obtain ⟨_,_,rfl⟩:=us2 hl;rfl
 have bD:AQ l.prog w K mg base _ _:=⟨Gk AN T A_Shape A_Sum,mg_of X G JM,AN.kp,IL⟩
 have nV:Binds K hG ["picture", "block"] []:=fA.binds fun _ _ _ _ _ _ us hl=>by obtain ⟨_,_,rfl⟩:=us2 hl;rfl
 have bG:iU l.prog w K mg base _ _:=⟨mT fA T aB dH aO,mg_of X G oe,fA.kp,nV⟩
 have oE:Binds K hX ["picture", "block"] []:=fG.binds fun _ _ _ _ _ _ us hl=>by obtain ⟨_,_,rfl⟩:=us2 hl;rfl
 have aU:jj l.prog w K mg base _ _:=⟨mY fG T aE eE dJ,mg_of X G oy,fG.kp,oE⟩
 have oV:Binds K iQ ["picture", "blocks"] []:=gk.binds fun _ _ _ _ _ _ us hl=>by obtain ⟨_,_,rfl⟩:=us2 hl;rfl
 have bN:jD l.prog w K mg base _ _:=⟨nP gk T bG aO,mg_of X G oM,gk.kp,oV⟩
 have ph:Binds K iI ["picture", "blocks"] []:=fX.binds fun _ _ _ _ _ _ us hl=>by obtain ⟨_,_,rfl⟩:=us2 hl;rfl
 have bM:jH l.prog w K mg base _ _:=⟨oh fX T aU dw iy kb,mg_of X G oQ,fX.kp,ph⟩
 have ur:Binds K fg ["self", "picture"] []:=cX.binds fun _ _ _ _ _ _ us hl=>by obtain ⟨_,_,rfl⟩:=us2 hl;rfl
 have aJ:fU l.prog w K mg base _ _:=⟨sF cX T bN,ur,sS⟩
 have u4:Binds K gU ["self", "picture"] []:=c0.binds fun _ _ _ _ _ _ us hl=>by obtain ⟨_,_,rfl⟩:=us2 hl;rfl
 have aZ:jl l.prog w K mg base _ _:=⟨sL c0 T bM,u4,sQ⟩
 have xp:Binds K nv ["self"] []:=eK.binds fun _ _ _ _ _ _ us hl=>by obtain ⟨_,rfl⟩:=us1 hl;rfl
 have bp:o9 l.prog w K mg base _ _:=⟨vX eK T aJ,xp,vW⟩
 have zO:Binds K oZ ["_law_form", "_law_picture_here", "_law_many"] []:=lX.binds fun _ _ _ _ _ _ us hl=>by obtain ⟨_,_,_,rfl⟩:=us3 hl;rfl
 have aX:rM l.prog w K mg base _ _:=⟨xN lX T bD aJ aZ,mg_of X G z9,lX.kp,zO⟩
 exact Iv Hr T am aV dF bD qQ gH aX bp aJ aZ A_Box A_Shape A_Cross A_Sum
theorem Mr {l:OpenLaw} {q:Program} {loose:List Str} {XP:(Str -> Option Value) -> Heap -> Prop} {YP:World -> Heap -> Prop} {d:DefRec} {K:Params -> Frag} (hn:l.most = some 63) (hdf:d.params.defaults = [])
  (hY:∀ (w:World) (h:Heap),YP w h -> (K w.params).In h)
  (F:∀ (w:World) (mg:Str -> Option Value) (fa:Addr) (h:Heap),(K w.params).In h -> h.Ns mainGlobals mg -> mg d.name = some (.ref fa) ->
   ∃ fd:FuncData,(∀ (s:Shared) (u:Value),BindsTo s fd ⟨[u],[]⟩ [("_law_script",u)]) /\ ∀ base:Heap,(K w.params).In base -> base.Ns mainGlobals mg -> FnOk l.prog w (K w.params) mg base CX0 9 fa fd ["_law_script"] (xM (K w.params))) :
  WalkO q loose XP YP l.row.toRowW d [] (fun f vs=>PySem.call f vs):=
 L2.GE (n:=63) (k:=9) (x := "_law_script") (CX:=fun _=>CX0) (sp:=fun w=>xM (K w.params)) hn (by decide) hdf ⟨rfl,by decide,by decide⟩ hY F (fun _ H a ns hl _ hS=>M.D2 hS (Ft ns hl)) fun _ _ _ _ _ z=>z
end Lw
open PySem PySem.W PyProof.Rows
set_option maxRecDepth 100000 in
set_option maxHeartbeats 0 in
theorem PySem.Challenge.cw_shapethin_k61_forms_many_times_holds : PySem.Challenge.rw_shapethin_k61_forms_many_times.Holds := by
 w_on;refine holds_law Hd.e2 fun said=>?_
 refine holds_open (q:=Hd.q) (XP:=XL Hd.q []) (YP:=Hook.says Hd.H) (N:=100000) Hd.e1 (Hook.of Hd.H) (Hook.keeps Hd.H) (fun s e=>xl_of s (Bool.and_eq_true_iff.mp e).1) XL.keeps (by rfl) (by rfl) (by rfl) (fun s e=>recFacts_of (Bool.and_eq_true_iff.mp e).2) (by rfl) (by assumption) (by decide +kernel) ⟨rfl,rfl,rfl,rfl,rfl,by decide +kernel⟩ ?hw ?hc
 case hw=>w_witness2
 refine Lw.Mr (l := PySem.Challenge.rw_shapethin_k61_forms_many_times) rfl rfl (fun w h Y => kIn_of Y) ?F
 case F=>
  intro w mg fa h KX G hmg
  refine' Lw.Ja KX G hmg ?x0 ?x1 ?x2 ?x3 ?x4 ?x5 ?x6 ?x7 ?x8 ?x9 ?x10 ?x11 ?x12 ?x13 ?x14 ?x15 ?x16 ?x17 ?x18 ?x19 ?x20 ?x21 ?x22 ?x23 ?x24 ?x25 ?x26 ?x27 ?x28 ?x29 ?x30 ?x31 ?x32 ?x33 ?x34 ?x35 ?x36 ?x37 ?x38 ?x39 ?x40 ?x41 ?x42 ?x43 ?x44 ?x45 ?x46 ?x47 ?x48 ?x49 ?x50 ?x51 ?x52 ?x53 ?x54 ?x55 ?x56 ?x57 ?x58 ?x59 ?x60 ?x61 ?x62 ?x63 ?x64 ?x65 ?x66 ?x67 ?x68 ?x69 ?x70 ?x71 ?x72 ?x73 ?x74 ?x75 ?x76 ?x77 ?x78 ?x79 ?x80 ?x81 ?x82 ?x83 ?x84 ?x85 ?x86 ?x87 ?x88 ?x89 ?x90 ?x91 ?x92 ?x93 ?x94 ?x95 ?x96 ?x97 ?x98 ?x99 ?x100 ?x101 ?x102 ?x103 ?x104 ?x105 ?x106 ?x107 ?x108 ?x109 ?x110 ?x111 ?x112 ?x113 ?x114 ?x115 ?x116 ?x117 ?x118 ?x119 ?x120 ?x121 ?x122 ?x123 ?x124 ?x125 ?x126 ?x127 ?x128 ?x129 ?x130 ?x131 ?x132 ?x133 ?x134 ?x135 ?x136 ?x137 ?x138 ?x139 ?x140 ?x141 ?x142 ?x143 ?x144 ?x145 ?x146
  case x0 | x1 | x2 | x3 | x4 | x5 | x6 | x7 | x8 | x9 | x10 | x11 | x12 | x13 | x14 | x15 | x16 | x17 | x18 | x19 | x20 | x21 | x22 | x23 | x24 | x25 | x26 | x27 | x28 | x29 | x30 | x31 | x32 | x33 | x34 | x35 | x36 | x37 | x38 | x39 | x40 | x41 | x42 | x43 | x44 | x45 | x46 | x47 | x48 | x49 | x50 | x51=>k_is
  case x52 | x53 | x54 | x55 | x56 | x57 | x58 | x59 | x60 | x61 | x62 | x63 | x64 | x65 | x66 | x67 | x68 | x69 | x70 | x71 | x72 | x73 | x74 | x75 | x76 | x77 | x78 | x79 | x80 | x81 | x82 | x83 | x84 | x85 | x86 | x87 | x88 | x89 | x90=>exact L2.IB (by k_is) (by k_is) (by k_is)
  case x91 | x92 | x93 | x94 | x95 | x96 | x97 | x98 | x99 | x100 | x101 | x102 | x103 | x104 | x105 | x106 | x107 | x108 | x109 | x110 | x111 | x112 | x113 | x114 | x115 | x116 | x117 | x118 | x119 | x120 | x121 | x122 | x123 | x124 | x125 | x126 | x127 | x128 | x129 | x130 | x131 | x132 | x133 | x134 | x135 | x136 | x137 | x138 | x139 | x140 | x141 | x142 | x143 | x144 | x145 | x146=>k_is

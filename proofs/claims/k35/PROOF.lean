import PyProof.Rows.All
import Wide.All
import OpenK.AllK
import Wide.FinOn
import Lean
import PyProof.EqAt
import PyProof.EqKinds
import PyProof.TupleCall
import PySem.Challenge.RW_shapethin_k35_opened_and_closed
set_option genSizeOf false
set_option bootstrap.genMatcherCode false
set_option compiler.extract_closed false
set_option linter.all false
set_option maxHeartbeats 4000000
set_option maxRecDepth 100000
namespace Hd
open PySem PySem.W PySem.Calls PyProof.Rows
noncomputable def Fz (stp:SharedT -> Thread -> Option (SharedT × Thread)) (ok:Thread -> Bool):Nat -> SharedT -> Thread -> Option SharedT
 | 0,_,_=>none
 | n + 1,s,t=>match through t with
  | true=>some s
  | false=>match ok t with
   | false=>none
   | true=>match stp s t with
    | some (s',t')=>Fz stp ok n s' t'
    | none=>none
theorem vN {tb:String -> Option Builtin}   {n₀:Nat}  : ∀ (n:Nat) (s:SharedT) (t:Thread) (r:SharedT),Fz (stepT (denote tb) p w) (stepOk n₀ ann) n s t = some r -> topRun tb p w n₀ ann n s.abs t = some r.abs
 | 0,_,_,_,h=>by cases h
 | n + 1,s,t,r,h=>by
  unfold Fz at h
  unfold topRun
  cases ht:through t with
  | true=>rw [ht] at h;cases h;rfl
  | false=>
   rw [ht] at h
   cases hk:stepOk n₀ ann t with
   | false=>rw [hk] at h;cases h
   | true=>
    rw [hk] at h
    cases hs:stepT (denote tb) p w s t with
    | none=>rw [hs] at h;cases h
    | some x=>
     obtain ⟨s',t'⟩:=x
     rw [hs] at h
     rw [stepT_spec hs]
     exact vN n s' t' r h
noncomputable def FX:List Obj -> Nat -> BT -> BT
 | [],_,t=>t
 | o :: l,n,t=>FX l (n + 1) (t.ins n o)
noncomputable def T0 (P:Params):BT:=FX (boot_heap P).objs.toList 0 .nil
theorem KE (P:Params):absHeap (T0 P) 11 (boot_heap P).life = boot_heap P:=by kernel_rfl
theorem sz (P:Params):((boot_heap P).isNs mainGlobals,(boot_heap P).objs.size,(boot_heap P).nsMap mainGlobals "__annotations__") = (true,11,some (.ref 6)):=by kernel_rfl
noncomputable def S0 (w:World) (os:OsState):SharedT:=⟨T0 w.params,11,(boot_heap w.params).life,Array.mk [],boot_drawn,boot_toks,os⟩
theorem GJ    {α:Type} {Yf:Shared -> α} {Ya:World -> α} {N M:Nat} {g0:Bool}
  (open_:∀ w:World,(fencedOpening treeTable p w N).map (fun s=>(s.heap,s.gens,s.drawn,s.toks)) = some (boot_heap w.params,Array.mk [],boot_drawn,boot_toks)) (le:Nat.ble M N = true)
  (big:∀ w:World,(fun os=>(Fz (stepT (denote treeTable) p w) (stepOk 11 (some (.ref 6))) M (S0 w os) (topStub p)).map fun r=>((staticsOk (importedModules p.main.body) (boot_heap w.params) r.abs.heap && namesBound p r.abs.heap && gensDone r.abs && laidKept (boot_heap w.params) r.abs.heap),
    openSeen q loose (importedModules p.main.body) Xt g0 r.abs,Yf r.abs)) = fun _=>some (true,openGood q loose,Ya w)):LeftO p q loose Xt Yf Ya N g0:=fun w=>by
 obtain ⟨⟨h,gs,d,k,os⟩,e,e'⟩:=Option.map_eq_some_iff.mp (open_ w)
 obtain ⟨rfl,rfl,rfl,rfl⟩:h = boot_heap w.params /\ gs = Array.mk [] /\ d = boot_drawn /\ k = boot_toks:=by simpa using e'
 obtain ⟨z1,z2,z3⟩:_ /\ _ /\ _:=by simpa only [Prod.mk.injEq] using sz w.params
 obtain ⟨r,hr,hb⟩:=Option.map_eq_some_iff.mp (congrFun (big w) os)
 obtain ⟨l1,l2,l3⟩:_ /\ _ /\ _:=by simpa only [Prod.mk.injEq] using hb
 have ha:(S0 w os).abs = ⟨boot_heap w.params,Array.mk [],boot_drawn,boot_toks,os⟩:=by
  unfold S0 SharedT.abs
  dsimp only
  rw [KE]
 have t:=topRun_mono (N - M) _ _ _ _ (vN _ _ _ _ hr)
 rw [show M + (N - M) = N by have:=Nat.le_of_ble_eq_true le;lia,ha] at t
 have t2:topFrom treeTable p w N ⟨boot_heap w.params,Array.mk [],boot_drawn,boot_toks,os⟩ = some r.abs:=by
  unfold topFrom
  dsimp only
  rw [z1,z2,z3,t]
  show (match staticsOk (importedModules p.main.body) (boot_heap w.params) r.abs.heap && namesBound p r.abs.heap && gensDone r.abs && laidKept (boot_heap w.params) r.abs.heap with | true=>_ | false=>_) = _
  rw [l1]
 unfold openEnds
 rw [e]
 show (topFrom treeTable p w N _).map _ = _
 rw [t2]
 exact congrArg some (Prod.ext l2 l3)
theorem GK    {α:Type} {Yf:Shared -> α} {Ya:World -> α} {g0:Bool}
  (open_:∀ w:World,(fencedOpening treeTable p w 100000).map (fun s=>(s.heap,s.gens,s.drawn,s.toks)) = some (boot_heap w.params,Array.mk [],boot_drawn,boot_toks))
  (big:∀ w:World,(fun os=>(Fz (Fast.tw10156331382660048174 (Fast.tw11892475500146522536 Fast.tw14364793385576792824) p w) (Fast.tw6613529449190102663 11 (some (.ref 6))) 100000 (S0 w os) (topStub p)).map fun r=>((staticsOk (Fast.tw5923862056798008813 p.main.body) (boot_heap w.params) r.abs.heap && namesBound p r.abs.heap && gensDone r.abs && laidKept (boot_heap w.params) r.abs.heap),
    Fast.tw4187177175401517315 q loose (Fast.tw5923862056798008813 p.main.body) Xt g0 r.abs,Yf r.abs)) = fun _=>some (true,openGood q loose,Ya w)):LeftO p q loose Xt Yf Ya 100000 g0:=by
 rw [<- Fast.te10156331382660048174,<- Fast.te11892475500146522536,<- Fast.te14364793385576792824,<- Fast.te6613529449190102663,<- Fast.te5923862056798008813,<- Fast.te4187177175401517315] at big
 exact GJ open_ rfl big
theorem Hh  (h:Fast.tw9446332074065402090 l = true):l.wellSaid = true:=by
 rw [Fast.te9446332074065402090]
 exact h
end Hd
set_option Elab.async false
section
open PySem PySem.W PyProof.Rows
noncomputable def Hd.q : Program := view PySem.Challenge.pw_shapethin_k35_opened_and_closed [0, 2, 3, 5, 6, 7, 8, 9, 11, 12, 13, 14, 15, 16, 17, 18, 20, 21, 22, 23, 24, 25, 26, 27, 28, 29, 30, 31, 32, 33, 34, 36, 37, 38, 39, 40, 41, 42, 43]
local macro_rules | `(tactic| o_head $_)=>`(tactic| assumption)
set_option maxHeartbeats 0 in
theorem Hd.e0 : PySem.Challenge.rw_shapethin_k35_opened_and_closed.row.Holds -> PySem.Challenge.rw_shapethin_k35_opened_and_closed.row.Holds := by intro h; w_on; k_head
noncomputable def Hd.as:List Addr:=(Hd.e0.heap_1 { strHash:=fun _=>0,shareClass:=fun _=>0,mergeTok:=id,idOf:=fun _=>0,idOfShared:=fun _ _=>0,followText:=fun _=>true,idOfImm:=fun _=>0 }).map (·.1)
theorem Hd.ae (P:Params):Hd.as = (Hd.e0.heap_1 P).map (·.1):=by kernel_rfl
noncomputable abbrev Hd.H:Hook:=kHook Hd.e0.heap_1 Hd.as Hd.ae
set_option maxHeartbeats 0 in
theorem Hd.e1 : LeftO PySem.Challenge.rw_shapethin_k35_opened_and_closed.row.prog Hd.q [] (fun s => xlAt Hd.q [] s && recOk (RowW.records (OpenRow.toRowW (OpenLaw.row PySem.Challenge.rw_shapethin_k35_opened_and_closed))) s) (Hook.obs Hd.H) (Hook.val Hd.H) 100000 := Hd.GK (boot_open (by rfl) rfl (fun s => rfl)) (by intro w; kernel_rfl)
set_option maxHeartbeats 0 in
theorem Hd.e2 : PySem.Challenge.rw_shapethin_k35_opened_and_closed.wellSaid = true := Hd.Hh (by kernel_rfl)
end
set_option Elab.async false
set_option linter.all false
set_option maxRecDepth 100000
namespace L2
open PySem PySem.Spec PyProof.Rows
noncomputable abbrev Key:=Sum Int Str
noncomputable def vw:Key -> Value -> Bool
 | .inl k,v=>Value.isInt k v
 | .inr x,v=>Value.isStrOf x v
noncomputable def ME (w:World):Key -> Int
 | .inl k=>hashInt k
 | .inr x=>hashStr w x
theorem bM:∀ {k:Key} {v:Value},vw k v = true -> (∃ i t,k = Sum.inl i /\ v = Value.int i t) \/ (∃ x t,k = Sum.inr x /\ v = Value.str x t)
 | .inl i,v,h=>by
  obtain ⟨t,e⟩:=Value.isInt_shape (k:=i) (v:=v) h
  exact .inl ⟨i,t,rfl,e⟩
 | .inr x,v,h=>by
  obtain ⟨t,e⟩:=Value.isStrOf_shape (x:=x) (v:=v) h
  exact .inr ⟨x,t,rfl,e⟩
theorem CG (i:Int) (t:Tok):vw (.inl i) (.int i t) = true:=by simp [vw,Value.isInt]
theorem CH (x:Str) (t:Tok):vw (.inr x) (.str x t) = true:=by simp [vw,Value.isStrOf]
theorem Jb (a b:Int):decide ((Sum.inl a:Key) = Sum.inl b) = (a == b):=by
 by_cases e:a = b
 ·subst e;simp
 ·have h:¬ (Sum.inl a:Key) = Sum.inl b:=fun q=>e (Sum.inl.inj q)
  rw [decide_eq_false h]
  exact (beq_eq_false_iff_ne.mpr e).symm
theorem Je (a b:Str):decide ((Sum.inr a:Key) = Sum.inr b) = decide (a = b):=by
 by_cases e:a = b
 ·subst e;simp
 ·have h:¬ (Sum.inr a:Key) = Sum.inr b:=fun q=>e (Sum.inr.inj q)
  rw [decide_eq_false h,decide_eq_false e]
theorem Jc (a:Int) (b:Str):decide ((Sum.inl a:Key) = Sum.inr b) = false:=decide_eq_false (fun q=>nomatch q)
theorem Jd (a:Str) (b:Int):decide ((Sum.inr a:Key) = Sum.inl b) = false:=decide_eq_false (fun q=>nomatch q)
noncomputable def cF (prog:Program) (w:World):PySem.KeyKind prog w Key where
 is:=vw
 hash:=ME w
 inj:=fun v a b ha hb=>by
  rcases bM ha with ⟨i,t,rfl,rfl⟩ | ⟨x,t,rfl,rfl⟩
  ·rcases bM hb with ⟨j,u,rfl,e⟩ | ⟨y,u,rfl,e⟩
   ·injection e with e1 _;rw [e1]
   ·exact nomatch e
  ·rcases bM hb with ⟨j,u,rfl,e⟩ | ⟨y,u,rfl,e⟩
   ·exact nomatch e
   ·injection e with e1 _;rw [e1]
 byValue:=fun k v h=>by
  rcases bM h with ⟨i,t,rfl,rfl⟩ | ⟨x,t,rfl,rfl⟩ <;> rfl
 pyHash:=fun hv h=>by
  rcases bM hv with ⟨i,t,rfl,rfl⟩ | ⟨x,t,rfl,rfl⟩
  ·exact wpAny_pyHash_int h
  ·exact wpAny_pyHash_str h
 eqBool:=fun hu hv h=>by
  rcases bM hu with ⟨i,t,rfl,rfl⟩ | ⟨x,t,rfl,rfl⟩
  ·rcases bM hv with ⟨j,u,rfl,rfl⟩ | ⟨y,u,rfl,rfl⟩
   ·rw [Jb] at h;exact wpAny_eqBool_int h
   ·rw [Jc] at h;exact SeqAt.EqAt.int_str i t y u _ _ _ _ h
  ·rcases bM hv with ⟨j,u,rfl,rfl⟩ | ⟨y,u,rfl,rfl⟩
   ·rw [Jd] at h;exact SeqAt.EqAt.str_int x t j u _ _ _ _ h
   ·rw [Je] at h;exact wpAny_eqBool_str h
 «strs»:=fun k x t v h=>by
  rcases bM h with ⟨i,u,rfl,e⟩ | ⟨y,u,rfl,e⟩
  ·exact nomatch e
  ·injection e with e1 _
   subst e1
   cases v <;> rfl
theorem yu (prog:Program) (w:World) (i:Int) (t:Tok):(cF prog w).is (.inl i) (.int i t) = true:=CG i t
theorem yv (prog:Program) (w:World) (x:Str) (t:Tok):(cF prog w).is (.inr x) (.str x t) = true:=CH x t
inductive V where
 | non | bl (b:Bool) | int (i:Int) | str (x:Str) | byt (b:Array UInt8) | flt (b:UInt64) | ref (a:Addr) | ty (n:String)
 deriving DecidableEq
noncomputable def RelV:V -> Value -> Prop
 | .non,u=>u = Value.none
 | .bl b,u=>u = Value.bool b
 | .int i,u=>∃ t,u = Value.int i t
 | .str x,u=>∃ t,u = Value.str x t
 | .byt b,u=>∃ t,u = Value.bytes b t
 | .flt b,u=>∃ t,u = Value.float b t
 | .ref a,u=>u = Value.ref a
 | .ty n,u=>u = Value.type n
noncomputable abbrev Vals:List V -> List Value -> Prop:=Paired RelV
theorem Vals.length {xs:List V} {us:List Value} (r:Vals xs us):xs.length = us.length:=Paired.length r
theorem Vals.get:∀ {xs:List V} {us:List Value} {i:Nat} {x:V},Vals xs us -> xs[i]? = some x -> ∃ u,us[i]? = some u /\ RelV x u
 | _,_,_,_,.nil,e=>by simp at e
 | _,_,0,_,.cons r _,e=>by simp at e;subst e;exact ⟨_,rfl,r⟩
 | _,_,i + 1,x,.cons _ t,e=>by
  obtain ⟨u,h1,h2⟩:=Vals.get (i:=i) (x:=x) t (by simpa using e)
  exact ⟨u,by simpa using h1,h2⟩
theorem Vals.set {x:V} {u:Value} (r:RelV x u):∀ {xs:List V} {us:List Value} (i:Nat),Vals xs us -> Vals (xs.set i x) (us.set i u)
 | _,_,_,.nil=>.nil
 | _,_,0,.cons _ t=>.cons r t
 | _,_,i + 1,.cons q t=>.cons q (Vals.set r i t)
theorem Vals.append:∀ {xs ys:List V} {us ws:List Value},Vals xs us -> Vals ys ws -> Vals (xs ++ ys) (us ++ ws)
 | _,_,_,_,.nil,s=>s
 | _,_,_,_,.cons r t,s=>.cons r (Vals.append t s)
theorem Vals.take:∀ {xs:List V} {us:List Value} (n:Nat),Vals xs us -> Vals (xs.take n) (us.take n)
 | _,_,0,_=>.nil
 | _,_,_ + 1,.nil=>.nil
 | _,_,n + 1,.cons r t=>.cons r (Vals.take n t)
theorem Vals.drop:∀ {xs:List V} {us:List Value} (n:Nat),Vals xs us -> Vals (xs.drop n) (us.drop n)
 | _,_,0,r=>r
 | _,_,_ + 1,.nil=>.nil
 | _,_,n + 1,.cons _ t=>Vals.drop n t
noncomputable def RelO:Option V -> Option Value -> Prop
 | some v,some u=>RelV v u
 | none,none=>True
 | _,_=>False
noncomputable def KV {κ:Type}:List (κ × V) -> List (κ × Value) -> Prop:=Paired fun (p:κ × V) (q:κ × Value)=>p.1 = q.1 /\ RelV p.2 q.2
noncomputable def kV:Key -> V
 | .inl i=>.int i
 | .inr x=>.str x
inductive HO where
  | lst (xs:List V)
  | tup (xs:List V)
  | dK (kvs:List (Key × V)) | dT (kvs:List (List Key × V))
  | set (S:Int -> Bool) (n:Nat)
  | ins (C dx:Addr) (fs:List (Str × V))
  | own (x:Addr)
  | xd (fs:List (Str × V))
  | met (f x:Addr)
  | rng (lo hi:Int)
  | frz (o:Obj) (u:HO)
  | tbl (ps:Array Value)
  | ext (φ:Heap -> Prop)
noncomputable abbrev Hp:=Addr -> Option HO
noncomputable def upd (H:Hp) (a:Addr) (o:HO):Hp:=fun b=>if b = a then some o else H b
theorem aB:upd H a o a = some o:=by unfold upd;rw [if_pos rfl]
theorem aF  {a b:Addr}  (h:b ≠ a):upd H a o b = H b:=by unfold upd;rw [if_neg h]
theorem BL:upd (upd H a o) a u = upd H a u:=by
 funext b;unfold upd;split <;> rfl
theorem HQ {H:Hp} {a b:Addr} {o u:HO} (h:H a = some o) (h':H b = some u) (d:o ≠ u):a ≠ b:=by
 intro e;subst e;rw [h] at h';exact d (Option.some.inj h')
theorem aL {H:Hp} {a b:Addr} {o:HO} (h:H a = some o) (h':H b = none):a ≠ b:=by
 intro e;subst e;rw [h] at h';cases h'
section
variable (P:Program) (w:World)
def TupN (h:Heap) (a:Addr) (xs:Array Value):Prop:=∃ o,h.get? a = some o /\ o.cls = .type "tuple" /\ ∃ n,o.data = .seq xs n /\ o.dict = none
theorem TupN.tup {h:Heap} {a:Addr} {xs:Array Value} (x:TupN h a xs):IsTup h a xs:=let ⟨o,h1,h2,n,h3,_⟩:=x;⟨o,h1,h2,n,h3⟩
theorem TupN.new (h:Heap) (xs:Array Value):TupN (h.push { cls:=.type "tuple",data:=.seq xs }) h.objs.size xs:=⟨_,Heap.get?_push_size _ rfl,rfl,_,rfl,rfl⟩
noncomputable def ObjOk (H:Hp) (h:Heap) (a:Addr):HO -> Prop
 | .lst xs=>xs.length <= sizeLine /\ ∃ (its:List Value) (n:Nat),Vals xs its /\ h.get? a = some { cls:=.type "list",data:=.seq its.toArray n }
 | .tup xs=>xs.length <= sizeLine /\ ∃ its:List Value,Vals xs its /\ TupN h a its.toArray
 | .dK kvs=>kvs.length <= sizeLine /\ (a == sysModules) = false /\ ∃ vs,KV kvs vs /\ h.DictOf (cF P w) a vs
 | .dT kvs=>kvs.length <= sizeLine /\ (a == sysModules) = false /\ ∃ xs:List (List Key × Addr × Value),
   Paired (fun (p:List Key × V) (q:List Key × Addr × Value)=>p.1 = q.1 /\ H q.2.1 = some (.tup (p.1.map kV)) /\ RelV p.2 q.2.2) kvs xs /\
   ∃ o es ep,h.get? a = some o /\ o.ExactDict /\ o.data = .dict es ep /\ es.toList = xs.map (entryOfKey (tupleKind (cF P w))) /\ (xs.map (·.1)).Nodup
 | .set S n=>h.SetOf (intKind P w) a S n
 | .ins C dx fs=>H dx = some (.own a) /\ fs.length <= 1000 /\ dx ≠ a /\ h.get? a = some (W.instObj C dx) /\
   ∃ mA,h.Ns1 dx mA /\ (∀ f,RelO (fs.lookup f) (mA f)) /\ PySem.Within mA (fs.map (·.1))
 | .own _=>∃ o,h.get? a = some o
 | .xd fs=>∃ mA,h.Ns1 a mA /\ ∀ f,RelO (fs.lookup f) (mA f)
 | .rng lo hi=>∃ t u v,h.get? a = some { cls:=.type "range",data:=.fields #[.int lo t,.int hi u,.int 1 v] }
 | .frz o u=>h.get? a = some o /\ ObjOk H h a u
 | .tbl ps=>h.get? a = some { cls:=.none,data:=.fields ps }
 | .met f x=>h.get? a = some (W.methodObj (.ref f) (.ref x))
 | .ext φ=>φ h /\ (∃ o,h.get? a = some o) /\ ∀ h1 h2:Heap,φ h1 -> (∀ o,h1.get? a = some o -> h2.get? a = some o) -> φ h2
def HOk (H:Hp) (h:Heap):Prop:=∀ a o,H a = some o -> ObjOk P w H h a o
end
section
variable {P:Program} {w:World} {H H':Hp} {h h':Heap} {a:Addr} {o:HO}
theorem ObjOk.lt (x:ObjOk P w H h a o):a < h.objs.size:=by
 cases o with
 | lst xs=>obtain ⟨_,_,_,_,e⟩:=x;exact Heap.lt_size e
 | tup xs=>obtain ⟨_,_,_,p⟩:=x;exact p.tup.lt
 | dK kvs=>obtain ⟨_,_,_,_,o,_,_,e,_⟩:=x;exact Heap.lt_size e
 | dT kvs=>obtain ⟨_,_,_,_,o,_,_,e,_⟩:=x;exact Heap.lt_size e
 | set S n=>obtain ⟨o,_,_,_,e,_⟩:=x;exact Heap.lt_size e
 | ins C dx fs=>obtain ⟨_,_,_,e,_⟩:=x;exact Heap.lt_size e
 | own y=>obtain ⟨_,e⟩:=x;exact Heap.lt_size e
 | xd fs=>obtain ⟨_,⟨_,_,_,e,_⟩,_⟩:=x;exact Heap.lt_size e
 | rng lo hi=>obtain ⟨_,_,_,e⟩:=x;exact Heap.lt_size e
 | frz ob u=>obtain ⟨e,_⟩:=x;exact Heap.lt_size e
 | tbl ps=>exact Heap.lt_size (show h.get? a = some _ from x)
 | met f y=>exact Heap.lt_size (show h.get? a = some _ from x)
 | ext φ=>obtain ⟨_,⟨_,e⟩,_⟩:=x;exact Heap.lt_size e
theorem Paired.mapP {α β:Type} {F G:α -> β -> Prop}:∀ {l₁:List α} {l₂:List β},Paired F l₁ l₂ -> (∀ a b,F a b -> G a b) -> Paired G l₁ l₂
 | _,_,.nil,_=>.nil
 | _,_,.cons r t,f=>.cons (f _ _ r) (Paired.mapP t f)
theorem ObjOk.stay (x:ObjOk P w H h a o) (k:∀ b u,(b = a \/ H b = some (.own a)) -> h.get? b = some u -> h'.get? b = some u)
  (ho:∀ b,H b = some (.own a) -> H' b = some (.own a)) (ht:∀ b xs,H b = some (.tup xs) -> H' b = some (.tup xs)):ObjOk P w H' h' a o:=by
 induction o with
 | lst xs=>obtain ⟨z,its,n,r,e⟩:=x;exact ⟨z,its,n,r,k _ _ (.inl rfl) e⟩
 | tup xs=>obtain ⟨z,its,r,ob,e,c⟩:=x;exact ⟨z,its,r,ob,k _ _ (.inl rfl) e,c⟩
 | dK kvs=>obtain ⟨z,y,vs,r,ob,es,ep,e,c⟩:=x;exact ⟨z,y,vs,r,ob,es,ep,k _ _ (.inl rfl) e,c⟩
 | dT kvs=>
  obtain ⟨z,y,xs,r,ob,es,ep,e,c⟩:=x
  exact ⟨z,y,xs,Paired.mapP r fun p q z=>⟨z.1,ht _ _ z.2.1,z.2.2⟩,ob,es,ep,k _ _ (.inl rfl) e,c⟩
 | set S n=>obtain ⟨ob,es,ep,t,e,c⟩:=x;exact ⟨ob,es,ep,t,k _ _ (.inl rfl) e,c⟩
 | ins C dx fs=>
  obtain ⟨d,z,ne,e,mA,⟨od,es,ep,e2,c⟩,r⟩:=x
  exact ⟨ho _ d,z,ne,k _ _ (.inl rfl) e,mA,⟨od,es,ep,k _ _ (.inr d) e2,c⟩,r⟩
 | own y=>obtain ⟨ob,e⟩:=x;exact ⟨ob,k _ _ (.inl rfl) e⟩
 | xd fs=>obtain ⟨mA,⟨od,es,ep,e,c⟩,r⟩:=x;exact ⟨mA,⟨od,es,ep,k _ _ (.inl rfl) e,c⟩,r⟩
 | rng lo hi=>obtain ⟨t,u,v,e⟩:=x;exact ⟨t,u,v,k _ _ (.inl rfl) e⟩
 | frz ob u ih=>obtain ⟨e,q⟩:=x;exact ⟨k _ _ (.inl rfl) e,ih q⟩
 | tbl ps=>
  have e:h.get? a = some { cls:=.none,data:=.fields ps }:=x
  show h'.get? a = some { cls:=.none,data:=.fields ps }
  exact k a _ (.inl rfl) e
 | met f y=>
  have e:h.get? a = some (W.methodObj (.ref f) (.ref y)):=x
  show h'.get? a = some (W.methodObj (.ref f) (.ref y))
  exact k a _ (.inl rfl) e
 | ext φ=>obtain ⟨p,⟨o,e⟩,st⟩:=x;exact ⟨st _ _ p fun o q=>k _ _ (.inl rfl) q,⟨o,k _ _ (.inl rfl) e⟩,st⟩
theorem HOk.lt (x:HOk P w H h) (e:H a = some o):a < h.objs.size:=(x a o e).lt
theorem HOk.fresh (x:HOk P w H h) (e:h.objs.size <= a):H a = none:=by
 cases q:H a with
 | none=>rfl
 | some u=>exact absurd (Nat.lt_of_lt_of_le (x.lt q) e) (Nat.lt_irrefl _)
theorem HOk.kept (x:HOk P w H h) (k:∀ b u,h.get? b = some u -> h'.get? b = some u):HOk P w H h':=fun a o e=>
 (x a o e).stay (fun b u _ q=>k b u q) (fun _ q=>q) fun _ _ q=>q
theorem HOk.laid (x:HOk P w H h) (k:∀ b u,h.get? b = some u -> h'.get? b = some u) (hp:h.objs.size <= a) (new:ObjOk P w (upd H a o) h' a o):HOk P w (upd H a o) h':=fun b u e=>by
 have hn:=x.fresh hp
 by_cases hb:b = a
 ·subst hb;rw [aB] at e;cases e;exact new
 ·rw [aF hb] at e
  exact (x b u e).stay (fun c v _ q=>k c v q) (fun c q=>by rw [aF (aL q hn)];exact q) fun c xs q=>by rw [aF (aL q hn)];exact q
end
def Rd (H:Hp) (a:Addr) (u:HO):Prop:=H a = some u \/ ∃ o,H a = some (.frz o u)
theorem Rd.ok {P:Program} {w:World} {H:Hp} {h:Heap} {a:Addr} {u:HO} (r:Rd H a u) (x:HOk P w H h):ObjOk P w H h a u:=by
 rcases r with r | ⟨o,r⟩
 ·exact x a u r
 ·obtain ⟨_,q⟩:=x a _ r
  exact q
noncomputable def Mut:Option HO -> Prop
 | some (.lst _)=>True
 | some (.dK _)=>True
 | some (.dT _)=>True
 | some (.set _ _)=>True
 | some (.ins _ _ _)=>True
 | some (.ext _)=>True
 | _=>False
section
variable {P:Program} {w:World} {H:Hp} {h h':Heap} {x e:Addr} {o':HO}
theorem HOk.write (ok:HOk P w H h) (mu:Mut (H x)) (he:e = x \/ H e = some (.own x)) (k:∀ b u,b ≠ e -> h.get? b = some u -> h'.get? b = some u) (heo:∃ u,h'.get? e = some u)
  (new:ObjOk P w (upd H x o') h' x o'):HOk P w (upd H x o') h':=fun b u q=>by
 have nown:∀ c y,H c = some (.own y) -> c ≠ x:=fun c y r z=>by subst z;rw [r] at mu;exact mu
 have ntup:∀ c xs,H c = some (.tup xs) -> c ≠ x:=fun c xs r z=>by subst z;rw [r] at mu;exact mu
 by_cases hb:b = x
 ·subst hb;rw [aB] at q;cases q;exact new
 ·rw [aF hb] at q
  by_cases hbe:b = e
  ·have q':H b = some (.own x):=by
    rcases he with z | z
    ·exact absurd (hbe.trans z) hb
    ·rw [hbe];exact z
   rw [q] at q';cases q'
   obtain ⟨v,hv⟩:=heo
   exact ⟨v,by rw [hbe];exact hv⟩
  ·refine (ok b u q).stay (fun c v hc r=>k c v ?_ r) (fun c r=>by rw [aF (nown c b r)];exact r) fun c xs r=>by rw [aF (ntup c xs r)];exact r
   rcases hc with rfl | hc
   ·exact hbe
   ·rintro rfl
    rcases he with z | z
    ·exact nown c b hc z
    ·rw [hc] at z;cases z;exact hb rfl
end
structure Un (fs ex:List Addr) (H H':Hp) (h h':Heap):Prop where
 keep:∀ b o,h.get? b = some o -> H b = none -> b ∉ fs -> b ∉ ex -> h'.get? b = some o
 slot:∀ b o,h.get? b = some o -> H b = none -> b ∈ fs -> b ∉ ex -> ∃ sl,h'.get? b = some { o with slots:=sl }
 free:∀ b o,h.get? b = some o -> H b = none -> b ∉ ex -> H' b = none
 there:∀ b o,h.get? b = some o -> b ∉ ex -> ∃ o',h'.get? b = some o'
 tups:∀ b xs,H b = some (.tup xs) -> H' b = some (.tup xs)
 frzs:∀ b o u,H b = some (.frz o u) -> H' b = some (.frz o u)
 tbls:∀ b ps,H b = some (.tbl ps) -> ∃ more,H' b = some (.tbl (ps ++ more))
section
variable {fs fs' ex ex':List Addr} {H H1 H2:Hp} {h h1 h2 h':Heap} {a x e:Addr} {o:HO}
theorem Un.any (u:Un fs ex H H1 h h1)  {ob:Obj} (q:h.get? b = some ob) (n:H b = none) (hx:b ∉ ex):∃ sl,h1.get? b = some { ob with slots:=sl }:=by
 by_cases hb:b ∈ fs
 ·exact u.slot b ob q n hb hx
 ·exact ⟨ob.slots,u.keep b ob q n hb hx⟩
theorem Un.trans (a:Un fs ex H H1 h h1) (b:Un fs ex H1 H2 h1 h2):Un fs ex H H2 h h2 where
 keep:=fun c ob q n hc hx=>b.keep c ob (a.keep c ob q n hc hx) (a.free c ob q n hx) hc hx
 slot:=fun c ob q n hc hx=>by
  obtain ⟨sl,e1⟩:=a.slot c ob q n hc hx
  obtain ⟨sl',e2⟩:=b.slot c _ e1 (a.free c ob q n hx) hc hx
  exact ⟨sl',e2⟩
 free:=fun c ob q n hx=>by
  obtain ⟨o',e1⟩:=a.there c ob q hx
  exact b.free c o' e1 (a.free c ob q n hx) hx
 there:=fun c ob q hx=>by
  obtain ⟨o',e1⟩:=a.there c ob q hx
  exact b.there c o' e1 hx
 tups:=fun c xs q=>b.tups c xs (a.tups c xs q)
 frzs:=fun c ob xs q=>b.frzs c ob xs (a.frzs c ob xs q)
 tbls:=fun c ps q=>by
  obtain ⟨m1,e1⟩:=a.tbls c ps q
  obtain ⟨m2,e2⟩:=b.tbls c _ e1
  exact ⟨m1 ++ m2,by rw [e2,Array.append_assoc]⟩
theorem Un.kept (k:∀ b u,h.get? b = some u -> h'.get? b = some u):Un fs ex H H h h':=
 ⟨fun b ob q _ _ _=>k b ob q,fun b ob q _ _ _=>⟨ob.slots,k b ob q⟩,fun _ _ _ n _=>n,fun b ob q _=>⟨ob,k b ob q⟩,fun _ _ q=>q,fun _ _ _ q=>q,fun _ ps q=>⟨#[],by rw [q];simp⟩⟩
theorem Un.refl:Un fs ex H H h h:=Un.kept fun _ _ q=>q
theorem Un.laid (k:∀ b u,h.get? b = some u -> h'.get? b = some u) (hp:h.objs.size <= a) (hn:H a = none):Un fs ex H (upd H a o) h h' where
 keep:=fun b u q _ _ _=>k b u q
 slot:=fun b u q _ _ _=>⟨u.slots,k b u q⟩
 free:=fun b u q n _=>by rw [aF (Nat.ne_of_lt (Nat.lt_of_lt_of_le (Heap.lt_size q) hp))];exact n
 there:=fun b u q _=>⟨u,k b u q⟩
 tups:=fun b xs q=>by rw [aF (aL q hn)];exact q
 frzs:=fun b u xs q=>by rw [aF (aL q hn)];exact q
 tbls:=fun b ps q=>⟨#[],by rw [aF (aL q hn),q];simp⟩
theorem Un.write (mu:Mut (H x)) (he:e = x \/ H e = some (.own x)) (k:∀ b u,b ≠ e -> h.get? b = some u -> h'.get? b = some u) (heo:∃ u,h'.get? e = some u):Un fs ex H (upd H x o) h h':=by
 have hx:∀ b,H b = none -> b ≠ x:=fun b n z=>by subst z;rw [n] at mu;exact mu
 have hb:∀ b,H b = none -> b ≠ e:=fun b n z=>by
  subst z
  rcases he with r | r
  ·exact hx b n r
  ·rw [n] at r;cases r
 have hm:∀ b u,H b = some u -> ¬ Mut (some u) -> b ≠ x:=fun b u q nm z=>by subst z;rw [q] at mu;exact nm mu
 refine ⟨fun b u q n _ _=>k b u (hb b n) q,fun b u q n _ _=>⟨u.slots,k b u (hb b n) q⟩,fun b u q n _=>by rw [aF (hx b n)];exact n,fun b u q _=>?_,
  fun b xs q=>by rw [aF (hm b _ q fun z=>z)];exact q,fun b u xs q=>by rw [aF (hm b _ q fun z=>z)];exact q,fun b ps q=>⟨#[],by rw [aF (hm b _ q fun z=>z),q];simp⟩⟩
 by_cases hbe:b = e
 ·subst hbe;exact heo
 ·exact ⟨u,k b u hbe q⟩
end
noncomputable def trk (h:Heap) (H:Hp):List Addr:=(List.range h.objs.size).filter fun a=>(H a).isSome
noncomputable def wz (h:Heap) (H:Hp):Heap:=W.hideAll h (trk h H)
theorem Cv (h:Heap) (H:Hp):(wz h H).objs.size = h.objs.size:=W.hideAll_size _ _
theorem Em {h:Heap} {H:Hp} {b:Addr} {o:Obj} (e:h.get? b = some o) (n:H b = none):(wz h H).get? b = some o:=
 W.hideAll_get _ e fun hm=>by
  have q:(H b).isSome = true:=(List.mem_filter.mp hm).2
  rw [n] at q;simp at q
theorem GQ   {b:Addr} {o:Obj} (e:(wz h H).get? b = some o):h.get? b = some o /\ H b = none:=by
 have e':h.get? b = some o:=W.of_hideAll (trk h H) e
 refine ⟨e',?_⟩
 cases q:H b with
 | none=>rfl
 | some x=>
  have hm:b ∈ trk h H:=List.mem_filter.mpr ⟨List.mem_range.mpr (Heap.lt_size e'),by simp [q]⟩
  have z:(wz h H).get? b = none:=W.hideAll_none (trk h H) hm
  rw [z] at e;cases e
noncomputable def Gd (g h:Heap) (L:Addr):List (Addr × Obj):=(List.range h.objs.size).filterMap fun a=>if a = L \/ (g.get? a).isSome = true then none else (h.get? a).map fun o=>(a,o)
noncomputable def rest (g h:Heap) (L d:Addr):List (Addr × Obj):=(Gd g h L).filter fun p=>decide (p.1 ≠ d)
structure Mod (K:W.Frag) (mg:Str -> Option Value) (base:Heap):Prop where
 kin:K.In base
 glob:base.Ns mainGlobals mg
 blt:∃ mb,base.Ns builtinsNs mb /\ ∀ x:Str,x ≠ "__name__" -> mb x = bootBuiltins x
 nolimit:base.NoLimit
structure Cx where
 prog:Program
 w:World
 K:W.Frag
 mg:Str -> Option Value
 base:Heap
 A:Around
 N:List Str
 s₀:Shared
 H₀:Hp
 env:Env
 outer:List Env
 stack:List Env
 ex:List Addr
 fn:Str -> Bool
 calm:Bool
 pn:List (Addr × Obj)
 xe:Value -> Shared -> Prop
noncomputable def frs (l:List Env):List Addr:=l.filterMap (·.frame)
noncomputable abbrev Cx.fs (X:Cx):List Addr:=frs X.outer
def Vis (sc:Scope) (x:Str):Prop:=sc.names.lookup x = some .local \/ sc.names.lookup x = some .cell \/ sc.names.lookup x = some .free
def Loc (sc:Scope) (x:Str):Prop:=sc.names.lookup x = some .local \/ sc.names.lookup x = some .cell
def Mu (env:Env) (h:Heap) (m:Str -> Option Value) (x:Str) (u:Value):Prop:=
 (env.kindOf x = some .local /\ m x = some u) \/ ((env.kindOf x = some .cell \/ env.kindOf x = some .free) /\ ∃ c,env.cells.lookup x = some c /\ h.IsCell c (some u))
structure Cx.Ok (X:Cx):Prop where
 mod:Mod X.K X.mg X.base
 kind:X.env.scope.kind = .function
 glob:X.env.globals = mainGlobals
 blt:X.env.builtins = builtinsNs
 above:X.s₀.heap.objs.size <= X.env.locals
 inj:∀ x y c,X.env.cells.lookup x = some c -> X.env.cells.lookup y = some c -> x = y
 has:∀ x,(X.env.kindOf x = some .cell \/ X.env.kindOf x = some .free) -> ∃ c,X.env.cells.lookup x = some c
 cab:∀ x c,X.fn x = true -> X.env.cells.lookup x = some c -> X.s₀.heap.objs.size <= c
 hd:X.calm = true -> X.A.handled = none
 frames:X.A.frames = some X.stack
 stk:X.stack = X.outer \/ (X.stack = X.env :: X.outer /\ X.env.frame = some X.env.locals)
 exf:∀ b ∈ X.ex,b ≠ X.env.locals /\ ∀ x c,X.env.cells.lookup x = some c -> c ≠ b
 bs:∀ b o,X.base.get? b = some o -> X.s₀.heap.get? b = some o /\ X.H₀ b = none
 bsz:X.base.objs.size <= X.s₀.heap.objs.size
 noex:∀ b o,X.base.get? b = some o -> b ∉ X.ex
 exfs:∀ b ∈ X.ex,b ∉ X.fs
 funs:X.s₀.heap.FunFrames X.base X.outer
 frf:∀ b ∈ X.fs,X.H₀ b = none
structure Inv (X:Cx) (pins:List (Addr × Obj)) (σ:List (Option V)) (H:Hp) (s:Shared):Prop where
 ok:X.Ok
 os:s.os = X.s₀.os
 bare:AllBare s.gens
 base:Un X.fs X.ex X.H₀ H X.s₀.heap s.heap
 loc:∃ m,s.heap.Ns X.env.locals m /\ ∀ (i:Nat) (x:Str) (v:V),X.N[i]? = some x -> σ[i]? = some (some v) -> Vis X.env.scope x -> ∃ u,RelV v u /\ Mu X.env s.heap m x u
 cell:∀ x c,X.env.cells.lookup x = some c -> ∃ v,s.heap.IsCell c v
 free:H X.env.locals = none
 freeC:∀ x c,X.env.cells.lookup x = some c -> H c = none
 pin:∀ p ∈ X.pn ++ pins,s.heap.get? p.1 = some p.2 /\ H p.1 = none /\ p.1 ≠ X.env.locals /\ p.1 ∉ X.fs /\ ∀ v,p.2.data ≠ .cell v
 hok:HOk X.prog X.w H s.heap
 len:σ.length = X.N.length
section
variable {X:Cx} {pins:List (Addr × Obj)} {σ:List (Option V)} {H H':Hp} {s:Shared} {h':Heap}
theorem Cx.Ok.nofr (ok:X.Ok)  {o:Obj} (e:X.base.get? b = some o):b ∉ X.fs:=fun hb=>by
 have:=(ok.funs.mem hb).1
 rw [e] at this;cases this
theorem Inv.bs (I:Inv X pins σ H s):∀ b o,X.base.get? b = some o -> s.heap.get? b = some o /\ H b = none:=fun b o e=>
 ⟨I.base.keep b o (I.ok.bs b o e).1 (I.ok.bs b o e).2 (I.ok.nofr e) (I.ok.noex b o e),I.base.free b o (I.ok.bs b o e).1 (I.ok.bs b o e).2 (I.ok.noex b o e)⟩
theorem Inv.bk (I:Inv X pins σ H s):∀ b o,X.base.get? b = some o -> s.heap.get? b = some o:=fun b o e=>(I.bs b o e).1
theorem Inv.mod (I:Inv X pins σ H s):Mod X.K X.mg X.base:=I.ok.mod
theorem Inv.kIn (I:Inv X pins σ H s):X.K.In s.heap:=I.ok.mod.kin.keeps I.bk
theorem Inv.fr (I:Inv X pins σ H s):∃ m,Fr X.base X.env.locals s.heap m:=
 let ⟨m,hn,_⟩:=I.loc
 ⟨m,hn,I.bk,Nat.le_trans I.ok.bsz I.ok.above⟩
theorem Inv.lt (I:Inv X pins σ H s):X.env.locals < s.heap.objs.size:=let ⟨_,hn,_⟩:=I.loc;hn.lt
theorem Inv.sz (I:Inv X pins σ H s):X.s₀.heap.objs.size <= s.heap.objs.size:=Nat.le_trans I.ok.above (Nat.le_of_lt I.lt)
theorem Inv.nofs (I:Inv X pins σ H s) {a:Addr} (h:s.heap.objs.size <= a):a ∉ X.fs:=fun hb=>by
 obtain ⟨_,o,ho,_⟩:=I.ok.funs.mem hb
 exact absurd (Nat.lt_of_lt_of_le (Heap.lt_size ho) (Nat.le_trans I.sz h)) (Nat.lt_irrefl _)
theorem Inv.cne (I:Inv X pins σ H s):∀ x c,X.env.cells.lookup x = some c -> c ≠ X.env.locals:=fun x c e z=>by
 obtain ⟨v,o,ho,hd⟩:=I.cell x c e
 obtain ⟨m,⟨o',es,ep,ho',hd',_⟩,_⟩:=I.loc
 rw [z,ho'] at ho;cases ho;rw [hd'] at hd;cases hd
theorem Inv.funs (I:Inv X pins σ H s):s.heap.FunFrames X.base X.outer:=by
 have all:∀ (l:List Env),(∀ b ∈ frs l,b ∈ X.fs) -> X.s₀.heap.FunFrames X.base l -> s.heap.FunFrames X.base l:=by
  intro l
  induction l with
  | nil=>intro _ _;trivial
  | cons env r ih=>
   intro hs hl
   obtain ⟨hk,⟨L,o,hf,hn,ho,hd⟩,hr⟩:=hl
   have hL:L ∈ X.fs:=hs L (by unfold frs;rw [List.filterMap_cons,hf];exact List.mem_cons_self)
   obtain ⟨sl,e⟩:=I.base.slot L o ho (I.ok.frf L hL) hL fun z=>I.ok.exfs L z hL
   exact ⟨hk,⟨L,_,hf,hn,e,hd⟩,ih (fun b hb=>hs b (by unfold frs;rw [List.filterMap_cons,hf];exact List.mem_cons_of_mem _ hb)) hr⟩
 exact all X.outer (fun _ hb=>hb) I.ok.funs
theorem Inv.stack (I:Inv X pins σ H s):s.heap.FunFrames X.base X.stack:=by
 rcases I.ok.stk with e | ⟨e,hf⟩
 ·rw [e];exact I.funs
 ·rw [e]
  obtain ⟨m,hn,_⟩:=I.loc
  refine .cons (by rw [I.ok.kind];decide) hf hn ?_ I.funs
  exact Heap.get?_none_of_le (Nat.le_trans I.ok.bsz I.ok.above)
theorem Inv.stkSub (I:Inv X pins σ H s):∀ b ∈ frs X.stack,b ∈ X.env.locals :: X.fs:=fun b hb=>by
 rcases I.ok.stk with e | ⟨e,hf⟩
 ·rw [e] at hb;exact List.mem_cons_of_mem _ hb
 ·rw [e] at hb
  unfold frs at hb
  rw [List.filterMap_cons,hf] at hb
  exact hb
theorem Inv.stkFree (I:Inv X pins σ H s):∀ b ∈ frs X.stack,H b = none:=fun b hb=>by
 rcases List.mem_cons.mp (I.stkSub b hb) with e | hb
 ·rw [e];exact I.free
 ·obtain ⟨_,o,ho,_⟩:=I.ok.funs.mem hb
  exact I.base.free b o ho (I.ok.frf b hb) fun z=>I.ok.exfs b z hb
theorem Inv.step  {t':Nat} {d':Drawn} {ch:List Addr} (I:Inv X pins σ H s)
  (hch:∀ b ∈ ch,(b ∈ X.ex \/ X.s₀.heap.objs.size <= b) /\ b ≠ X.env.locals /\ (∀ x c,X.env.cells.lookup x = some c -> c ≠ b) /\ ∀ p ∈ X.pn ++ pins,p.1 ≠ b)
  (keep:∀ b o,b ≠ X.env.locals -> b ∉ X.fs -> b ∉ ch -> s.heap.get? b = some o -> H b = none -> h'.get? b = some o)
  (slot:∀ b o,b ≠ X.env.locals -> b ∈ X.fs -> b ∉ ch -> s.heap.get? b = some o -> H b = none -> ∃ sl,h'.get? b = some { o with slots:=sl }) (free:∀ b o,b ∉ ch -> s.heap.get? b = some o -> H b = none -> H' b = none)
  (there:∀ b o,b ∉ ch -> s.heap.get? b = some o -> ∃ o',h'.get? b = some o')
  (tups:∀ b xs,H b = some (.tup xs) -> H' b = some (.tup xs)) (frzs:∀ b o u,H b = some (.frz o u) -> H' b = some (.frz o u)) (tbls:∀ b ps,H b = some (.tbl ps) -> ∃ more,H' b = some (.tbl (ps ++ more)))
  (ns:∀ m,s.heap.Ns X.env.locals m -> h'.Ns X.env.locals m) (hok:HOk X.prog X.w H' h') (hg:AllBare g') :
  Inv X pins σ H' { s with heap:=h',gens:=g',drawn:=d',toks:=t' }:=by
 have neL:∀ b o,X.s₀.heap.get? b = some o -> b ≠ X.env.locals:=fun b o e=>Nat.ne_of_lt (Nat.lt_of_lt_of_le (Heap.lt_size e) I.ok.above)
 have neC:∀ b o,X.s₀.heap.get? b = some o -> b ∉ X.ex -> b ∉ ch:=fun b o e hx hb=>by
  rcases (hch b hb).1 with z | z
  ·exact hx z
  ·exact absurd (Nat.lt_of_lt_of_le (Heap.lt_size e) z) (Nat.lt_irrefl _)
 have cellK:∀ x c,X.env.cells.lookup x = some c -> ∀ v,s.heap.IsCell c v -> h'.IsCell c v:=fun x c e v hpt0=>by
  obtain ⟨o,ho,hd⟩:=hpt0
  have nch:c ∉ ch:=fun z=>(hch c z).2.2.1 x c e rfl
  by_cases hc:c ∈ X.fs
  ·obtain ⟨sl,q⟩:=slot c o (I.cne x c e) hc nch ho (I.freeC x c e)
   exact ⟨_,q,hd⟩
  ·exact ⟨o,keep c o (I.cne x c e) hc nch ho (I.freeC x c e),hd⟩
 refine ⟨I.ok,I.os,hg,⟨fun b o e n hb hx=>?_,fun b o e n hb hx=>?_,fun b o e n hx=>?_,fun b o e hx=>?_,fun b xs e=>tups b xs (I.base.tups b xs e),fun b o xs e=>frzs b o xs (I.base.frzs b o xs e),fun b ps e=>?_⟩,?_,fun x c e=>?_,?_,fun x c e=>?_,fun p hp=>?_,hok,I.len⟩
 ·exact keep b o (neL b o e) hb (neC b o e hx) (I.base.keep b o e n hb hx) (I.base.free b o e n hx)
 ·obtain ⟨sl,e1⟩:=I.base.slot b o e n hb hx
  obtain ⟨sl',e2⟩:=slot b _ (neL b o e) hb (neC b o e hx) e1 (I.base.free b o e n hx)
  exact ⟨sl',e2⟩
 ·obtain ⟨o',e1⟩:=I.base.there b o e hx
  exact free b o' (neC b o e hx) e1 (I.base.free b o e n hx)
 ·obtain ⟨o',e1⟩:=I.base.there b o e hx
  exact there b o' (neC b o e hx) e1
 ·obtain ⟨m1,e1⟩:=I.base.tbls b ps e
  obtain ⟨m2,e2⟩:=tbls b _ e1
  exact ⟨m1 ++ m2,by rw [e2,Array.append_assoc]⟩
 ·obtain ⟨m,hn,hl⟩:=I.loc
  refine ⟨m,ns m hn,fun i x v e1 e2 e3=>?_⟩
  obtain ⟨u,r,l⟩:=hl i x v e1 e2 e3
  refine ⟨u,r,?_⟩
  rcases l with l | ⟨k,c,e,z⟩
  ·exact .inl l
  ·exact .inr ⟨k,c,e,cellK x c e _ z⟩
 ·obtain ⟨v,z⟩:=I.cell x c e
  exact ⟨v,cellK x c e v z⟩
 ·obtain ⟨m,⟨o,_,_,ho,_⟩,_⟩:=I.loc
  exact free _ o (fun z=>(hch _ z).2.1 rfl) ho I.free
 ·obtain ⟨v,o,ho,hd⟩:=I.cell x c e
  exact free c o (fun z=>(hch c z).2.2.1 x c e rfl) ho (I.freeC x c e)
 ·obtain ⟨e,n,ne,nf,d⟩:=I.pin p hp
  have nch:p.1 ∉ ch:=fun z=>(hch p.1 z).2.2.2 p hp rfl
  exact ⟨keep p.1 p.2 ne nf nch e n,free p.1 p.2 nch e n,ne,nf,d⟩
theorem Inv.un {t':Nat} (I:Inv X pins σ H s) (u:Un X.fs [] H H' s.heap h') (hok:HOk X.prog X.w H' h'):Inv X pins σ H' { s with heap:=h',toks:=t' }:=by
 obtain ⟨m,⟨o,es,ep,ho,r⟩,_⟩:=id I.loc
 obtain ⟨sl,hL⟩:=u.any ho I.free (by simp)
 exact I.step (g':=s.gens) (d':=s.drawn) (ch:=[]) (fun _ z=>nomatch z) (fun b o _ hb _ e n=>u.keep b o e n hb (by simp)) (fun b o _ hb _ e n=>u.slot b o e n hb (by simp)) (fun b o _ e n=>u.free b o e n (by simp)) (fun b o _ e=>u.there b o e (by simp)) u.tups u.frzs u.tbls (fun m' hm=>by
  obtain ⟨o',es',ep',ho',r'⟩:=hm
  rw [ho] at ho';cases ho'
  exact ⟨_,es',ep',hL,r'⟩) hok I.bare
theorem Inv.call  {t':Nat} {d':Drawn}  (I:Inv X pins σ H s) (u:Un (frs X.stack) ch H H' s.heap h') (hok:HOk X.prog X.w H' h') (hg:AllBare g')
  (hch:∀ b ∈ ch,(b ∈ X.ex \/ X.s₀.heap.objs.size <= b) /\ b ≠ X.env.locals /\ (∀ x c,X.env.cells.lookup x = some c -> c ≠ b) /\ ∀ p ∈ X.pn ++ pins,p.1 ≠ b) :
  Inv X pins σ H' { s with heap:=h',gens:=g',drawn:=d',toks:=t' }:=by
 obtain ⟨m,⟨o,es,ep,ho,r⟩,_⟩:=id I.loc
 obtain ⟨sl,hL⟩:=u.any ho I.free fun z=>(hch _ z).2.1 rfl
 exact I.step (ch:=ch) hch (fun b o hL hb hc e n=>u.keep b o e n (fun z=>(List.mem_cons.mp (I.stkSub b z)).elim hL hb) hc) (fun b o _ _ hc e n=>u.any e n hc) (fun b o hc e n=>u.free b o e n hc) (fun b o hc e=>u.there b o e hc) u.tups u.frzs u.tbls (fun m' hm=>by
  obtain ⟨o',es',ep',ho',r'⟩:=hm
  rw [ho] at ho';cases ho'
  exact ⟨_,es',ep',hL,r'⟩) hok hg
theorem Inv.turned {t':Nat} {it:Addr} (I:Inv X pins σ H s) (k:∀ b o,b ≠ it -> s.heap.get? b = some o -> h'.get? b = some o) (hn:H it = none) (hL:it ≠ X.env.locals)
  (h1:it ∈ X.ex \/ X.s₀.heap.objs.size <= it) (h2:∀ x c,X.env.cells.lookup x = some c -> c ≠ it) (h3:∀ p ∈ X.pn ++ pins,p.1 ≠ it):Inv X pins σ H { s with heap:=h',toks:=t' }:=by
 have nit:∀ b u,H b = some u -> b ≠ it:=fun b u e z=>by rw [z,hn] at e;cases e
 refine I.step (g':=s.gens) (d':=s.drawn) (ch:=[it]) (fun b hb=>?_) (fun b o _ _ hc e _=>k b o (fun z=>hc (by simp [z])) e) (fun b o _ _ hc e _=>⟨o.slots,k b o (fun z=>hc (by simp [z])) e⟩) (fun _ _ _ _ n=>n)
  (fun b o hc e=>⟨o,k b o (fun z=>hc (by simp [z])) e⟩) (fun _ _ e=>e) (fun _ _ _ e=>e) (fun b ps e=>⟨#[],by rw [e];simp⟩) (fun m hm=>?_) (fun b u e=>?_) I.bare
 ·have e:b = it:=by simpa using hb
  subst e
  exact ⟨h1,hL,h2,h3⟩
 ·obtain ⟨o,es,ep,ho,r⟩:=hm
  exact ⟨o,es,ep,k _ o (Ne.symm hL) ho,r⟩
 ·refine (I.hok b u e).stay (fun c v hc q=>k c v ?_ q) (fun _ q=>q) fun _ _ q=>q
  rcases hc with z | z
  ·rw [z];exact nit b u e
  ·exact nit c _ z
theorem Inv.tok (I:Inv X pins σ H s) (t:Nat):Inv X pins σ H { s with toks:=t }:=I.un (h':=s.heap) (t':=t) Un.refl I.hok
theorem Inv.kept {t':Nat} (I:Inv X pins σ H s) (k:∀ b u,s.heap.get? b = some u -> h'.get? b = some u):Inv X pins σ H { s with heap:=h',toks:=t' }:=I.un (Un.kept k) (I.hok.kept k)
theorem Inv.laid {a:Addr}  {t':Nat} (I:Inv X pins σ H s) (k:∀ b u,s.heap.get? b = some u -> h'.get? b = some u) (hp:s.heap.objs.size <= a) (new:ObjOk X.prog X.w (upd H a o) h' a o) :
  Inv X pins σ (upd H a o) { s with heap:=h',toks:=t' }:=I.un (Un.laid k hp (I.hok.fresh hp)) (I.hok.laid k hp new)
theorem Inv.write {e:Addr}  {t':Nat} (I:Inv X pins σ H s) (mu:Mut (H x)) (he:e = x \/ H e = some (.own x)) (k:∀ b u,b ≠ e -> s.heap.get? b = some u -> h'.get? b = some u) (heo:∃ u,h'.get? e = some u)
  (new:ObjOk X.prog X.w (upd H x o) h' x o):Inv X pins σ (upd H x o) { s with heap:=h',toks:=t' }:=I.un (Un.write mu he k heo) (I.hok.write mu he k heo new)
theorem Inv.weak {σ':List (Option V)} (I:Inv X pins σ H s) (hl:σ'.length = σ.length) (w:∀ (i:Nat) v,σ'[i]? = some (some v) -> σ[i]? = some (some v)):Inv X pins σ' H s:=
 ⟨I.ok,I.os,I.bare,I.base,let ⟨m,hn,hl'⟩:=I.loc;⟨m,hn,fun i x v e1 e2 e3=>hl' i x v e1 (w i v e2) e3⟩,I.cell,I.free,I.freeC,I.pin,I.hok,hl.trans I.len⟩
theorem Inv.pins_of {pins':List (Addr × Obj)} (I:Inv X pins σ H s) (h:∀ p ∈ pins',s.heap.get? p.1 = some p.2 /\ H p.1 = none /\ p.1 ≠ X.env.locals /\ p.1 ∉ X.fs /\ ∀ v,p.2.data ≠ .cell v):Inv X pins' σ H s:=
 ⟨I.ok,I.os,I.bare,I.base,I.loc,I.cell,I.free,I.freeC,fun p hp=>(List.mem_append.mp hp).elim (fun z=>I.pin p (List.mem_append_left _ z)) (h p),I.hok,I.len⟩
theorem yA {N:List Str} (hN:N.Nodup) {i j:Nat} {x:Str} (a:N[i]? = some x) (b:N[j]? = some x):i = j:=by
 obtain ⟨h1,e1⟩:=List.getElem?_eq_some_iff.mp a
 obtain ⟨h2,e2⟩:=List.getElem?_eq_some_iff.mp b
 exact (List.getElem_inj hN).mp (e1.trans e2.symm)
theorem Dr    {i:Nat} {x:Str}   {Q:Unit -> Shared -> Prop} (I:Inv X pins σ H s) (hN:X.N.Nodup) (hi:X.N[i]? = some x) (hx:Loc X.env.scope x) (r:RelV v u)
  (h:∀ s',Inv X pins (σ.set i (some v)) H s' -> (∃ a,Heap.SameBut a s.heap s'.heap /\ (a = X.env.locals \/ X.env.cells.lookup x = some a)) -> Q () s') (hf:X.fn x = true \/ X.env.scope.names.lookup x = some .local:=by first | exact .inl rfl | exact .inr rfl | assumption):wpAny M A (storeName X.env x u) Q E s:=by
 obtain ⟨m,hn,hl⟩:=id I.loc
 have hcls:(X.env.scope.kind == .class || (X.env.scope.kind == .module && X.env.locals != X.env.globals)) = false:=by rw [I.ok.kind];rfl
 have hiσ:i < σ.length:=by rw [I.len];exact (List.getElem?_eq_some_iff.mp hi).1
 have cne:=I.cne
 have tracked:∀ {a:Addr} {h':Heap},(∃ o,s.heap.get? a = some o /\ H a = none) -> Heap.SameBut a s.heap h' -> HOk X.prog X.w H h':=fun {a h'} ha hs b ob e=>by
  obtain ⟨_,_,hfree⟩:=ha
  refine (I.hok b ob e).stay (fun c w' hc q=>(hs.2 c ?_).trans q) (fun _ q=>q) fun _ _ q=>q
  rintro rfl
  rcases hc with rfl | hc
  ·rw [hfree] at e;cases e
  ·rw [hfree] at hc;cases hc
 rcases hx with hk | hk
 ·refine wpAny_storeName_local hk hn (fun h' hn' hs=>?_) hcls
  obtain ⟨oL,_,_,hoL,_⟩:=id hn
  refine h _ ⟨I.ok,I.os,I.bare,⟨fun b o e n hb hx=>?_,fun b o e n hb hx=>?_,I.base.free,fun b o e hx=>?_,I.base.tups,I.base.frzs,I.base.tbls⟩,⟨_,hn',fun j y v' e1 e2 e3=>?_⟩,fun y c e=>?_,I.free,I.freeC,fun p hp=>?_,tracked ⟨oL,hoL,I.free⟩ hs,by simpa using I.len⟩ ⟨_,hs,.inl rfl⟩
  ·exact (hs.2 b (Nat.ne_of_lt (Nat.lt_of_lt_of_le (Heap.lt_size e) I.ok.above))).trans (I.base.keep b o e n hb hx)
  ·obtain ⟨sl,e1⟩:=I.base.slot b o e n hb hx
   exact ⟨sl,(hs.2 b (Nat.ne_of_lt (Nat.lt_of_lt_of_le (Heap.lt_size e) I.ok.above))).trans e1⟩
  ·obtain ⟨o',e1⟩:=I.base.there b o e hx
   exact ⟨o',(hs.2 b (Nat.ne_of_lt (Nat.lt_of_lt_of_le (Heap.lt_size e) I.ok.above))).trans e1⟩
  ·by_cases hj:j = i
   ·subst hj
    rw [hi] at e1;cases e1
    rw [List.getElem?_set_self hiσ] at e2
    cases e2
    exact ⟨u,r,.inl ⟨hk,by simp⟩⟩
   ·rw [List.getElem?_set_ne (Ne.symm hj)] at e2
    obtain ⟨u',r',q⟩:=hl j y v' e1 e2 e3
    refine ⟨u',r',?_⟩
    rcases q with ⟨k,e⟩ | ⟨k,c,e,z⟩
    ·refine .inl ⟨k,?_⟩
     have:y ≠ x:=fun e=>hj (yA hN e1 (e ▸ hi))
     simp [this,e]
    ·exact .inr ⟨k,c,e,z.sameBut hs (cne y c e)⟩
  ·obtain ⟨w',z⟩:=I.cell y c e
   exact ⟨w',z.sameBut hs (cne y c e)⟩
  ·obtain ⟨e,n,ne,nf,d⟩:=I.pin p hp
   exact ⟨(hs.2 p.1 ne).trans e,n,ne,nf,d⟩
 ·have hfn:X.fn x = true:=by
   rcases hf with z | z
   ·exact z
   ·rw [z] at hk;cases hk
  obtain ⟨c,hc⟩:=I.ok.has x (.inl hk)
  obtain ⟨w',z⟩:=I.cell x c hc
  refine wpAny_storeName_cell I.ok.kind hk hc z (fun h' hc' hs=>?_)
  obtain ⟨oc,hoc,hocd⟩:=id z
  refine h { s with heap:=h' } ⟨I.ok,I.os,I.bare,⟨fun b o e n hb hx=>?_,fun b o e n hb hx=>?_,I.base.free,fun b o e hx=>?_,I.base.tups,I.base.frzs,I.base.tbls⟩,⟨m,hn.sameBut hs (Ne.symm (cne x c hc)),fun j y v' e1 e2 e3=>?_⟩,fun y c' e=>?_,I.free,I.freeC,fun p hp=>?_,tracked ⟨oc,hoc,I.freeC x c hc⟩ hs,by simpa using I.len⟩ ⟨c,hs,.inr hc⟩
  ·exact (hs.2 b (Nat.ne_of_lt (Nat.lt_of_lt_of_le (Heap.lt_size e) (I.ok.cab x c hfn hc)))).trans (I.base.keep b o e n hb hx)
  ·obtain ⟨sl,e1⟩:=I.base.slot b o e n hb hx
   exact ⟨sl,(hs.2 b (Nat.ne_of_lt (Nat.lt_of_lt_of_le (Heap.lt_size e) (I.ok.cab x c hfn hc)))).trans e1⟩
  ·obtain ⟨o',e1⟩:=I.base.there b o e hx
   exact ⟨o',(hs.2 b (Nat.ne_of_lt (Nat.lt_of_lt_of_le (Heap.lt_size e) (I.ok.cab x c hfn hc)))).trans e1⟩
  ·by_cases hj:j = i
   ·subst hj
    rw [hi] at e1;cases e1
    rw [List.getElem?_set_self hiσ] at e2
    cases e2
    exact ⟨u,r,.inr ⟨.inl hk,c,hc,hc'⟩⟩
   ·rw [List.getElem?_set_ne (Ne.symm hj)] at e2
    obtain ⟨u',r',q⟩:=hl j y v' e1 e2 e3
    refine ⟨u',r',?_⟩
    rcases q with q | ⟨k,c',e,z'⟩
    ·exact .inl q
    ·refine .inr ⟨k,c',e,z'.sameBut hs ?_⟩
     rintro rfl
     exact hj (yA hN e1 (I.ok.inj _ _ _ e hc ▸ hi))
  ·by_cases hcc:c' = c
   ·subst hcc;exact ⟨_,hc'⟩
   ·obtain ⟨w2,z2⟩:=I.cell y c' e
    exact ⟨w2,z2.sameBut hs hcc⟩
  ·obtain ⟨e,n,ne,nf,d⟩:=I.pin p hp
   refine ⟨(hs.2 p.1 ?_).trans e,n,ne,nf,d⟩
   intro q
   rw [q,hoc] at e
   have q':oc = p.2:=Option.some.inj e
   exact d w' (by rw [<- q'];exact hocd)
theorem ue {M:Model} {A:Around} {E:Value -> Shared -> Prop} {i:Nat} {x:Str} {v:V} {u:Value} {Q:Unit -> Shared -> Prop} (I:Inv X pins σ H s) (hN:X.N.Nodup) (hi:X.N[i]? = some x) (hx:Loc X.env.scope x) (r:RelV v u)
  (h:∀ s',Inv X pins (σ.set i (some v)) H s' -> Q () s') (hf:X.fn x = true \/ X.env.scope.names.lookup x = some .local:=by first | exact .inl rfl | exact .inr rfl | assumption):wpAny M A (storeName X.env x u) Q E s:=
 Dr I hN hi hx r (fun s' I' _=>h s' I') hf
theorem Inv.call' {s':Shared}  (I:Inv X pins σ H s) (ho:s'.os = s.os) (u:Un (frs X.stack) ch H H' s.heap s'.heap) (hok:HOk X.prog X.w H' s'.heap) (hg:AllBare s'.gens)
  (hch:∀ b ∈ ch,(b ∈ X.ex \/ X.s₀.heap.objs.size <= b) /\ b ≠ X.env.locals /\ (∀ x c,X.env.cells.lookup x = some c -> c ≠ b) /\ ∀ p ∈ X.pn ++ pins,p.1 ≠ b):Inv X pins σ H' s':=by
 obtain ⟨h',g',d',t',o'⟩:=s'
 have e:o' = s.os:=ho
 subst e
 exact I.call (g':=g') (t':=t') (d':=d') u hok hg hch
end
noncomputable abbrev XK:=Value -> Option Addr -> Hp -> Prop
noncomputable abbrev St:=List (Option V)
noncomputable abbrev VK:=V -> Hp -> Prop
noncomputable abbrev TE:=St -> Hp -> VK -> Prop
noncomputable abbrev TT:=St -> Hp -> (Bool -> Hp -> Prop) -> Prop
noncomputable abbrev TA:=St -> Hp -> (List V -> Hp -> Prop) -> Prop
structure Ends where
 nx:St -> Hp -> Prop
 rt:VK
 bk:St -> Hp -> Prop:=fun _ _=>False
 ct:St -> Hp -> Prop:=fun _ _=>False
noncomputable abbrev TS:=Ends -> St -> Hp -> Prop
def EP (X:Cx) (pins:List (Addr × Obj)) (σ:St) (Q:VK) (u:Value) (s':Shared):Prop:=∃ v H',Inv X pins σ H' s' /\ RelV v u /\ Q v H'
def TP (X:Cx) (pins:List (Addr × Obj)) (σ:St) (Q:Bool -> Hp -> Prop) (b:Bool) (s':Shared):Prop:=∃ H',Inv X pins σ H' s' /\ Q b H'
def AP (X:Cx) (pins:List (Addr × Obj)) (σ:St) (Q:List V -> Hp -> Prop) (us:List Value) (s':Shared):Prop:=∃ vs H',Inv X pins σ H' s' /\ Vals vs us /\ Q vs H'
def SP (X:Cx) (pins:List (Addr × Obj)) (D:Ends) (f:Flow) (s':Shared):Prop:=
 match f with
 | .next=>∃ σ' H',Inv X pins σ' H' s' /\ D.nx σ' H'
 | .brk=>∃ σ' H',Inv X pins σ' H' s' /\ D.bk σ' H'
 | .cont=>∃ σ' H',Inv X pins σ' H' s' /\ D.ct σ' H'
 | .ret u=>∃ v σ' H',Inv X pins σ' H' s' /\ RelV v u /\ D.rt v H'
def PE (X:Cx) (e:Expr) (t:TE):Prop:=
 ∀ (pins:List (Addr × Obj)) (s:Shared) (σ:St) (H:Hp) (Q:VK),Inv X pins σ H s -> t σ H Q -> wpAny (model X.prog X.w) X.A (eval e X.env) (EP X pins σ Q) X.xe s
def PT (X:Cx) (e:Expr) (t:TT):Prop:=
 ∀ (pins:List (Addr × Obj)) (s:Shared) (σ:St) (H:Hp) (Q:Bool -> Hp -> Prop),Inv X pins σ H s -> t σ H Q -> wpAny (model X.prog X.w) X.A (isTrue e X.env (eval e X.env)) (TP X pins σ Q) X.xe s
def PW (X:Cx) (e:Expr) (t:TT):Prop:=
 ∀ (whole:Sem Value) (pins:List (Addr × Obj)) (s:Shared) (σ:St) (H:Hp) (Q:Bool -> Hp -> Prop),Inv X pins σ H s -> t σ H Q -> wpAny (model X.prog X.w) X.A (isTrue e X.env whole) (TP X pins σ Q) X.xe s
theorem PW.pt {X:Cx} {e:Expr} {t:TT} (h:PW X e t):PT X e t:=h _
def PA (X:Cx) (es:List Expr) (t:TA):Prop:=
 ∀ (pos:Pos) (pins:List (Addr × Obj)) (s:Shared) (σ:St) (H:Hp) (Q:List V -> Hp -> Prop),Inv X pins σ H s -> t σ H Q -> wpAny (model X.prog X.w) X.A (spliced (backTo pos (starEach es X.env))) (AP X pins σ Q) X.xe s
def PS (X:Cx) (st:Stmt) (t:TS):Prop:=
 ∀ (pins:List (Addr × Obj)) (s:Shared) (σ:St) (H:Hp) (D:Ends),Inv X pins σ H s -> t D σ H -> wpAny (model X.prog X.w) X.A (exec st X.env) (SP X pins D) X.xe s
def PSs (X:Cx) (st:List Stmt) (t:TS):Prop:=
 ∀ (pins:List (Addr × Obj)) (s:Shared) (σ:St) (H:Hp) (D:Ends),Inv X pins σ H s -> t D σ H -> wpAny (model X.prog X.w) X.A (execs st X.env) (SP X pins D) X.xe s
theorem thn {α:Type} {t:Sem α} {Q Q':α -> Shared -> Prop} {M:Model} {A:Around} {E:Value -> Shared -> Prop} {s:Shared} (h:wpAny M A t Q E s) (hQ:∀ a s,Q a s -> Q' a s):wpAny M A t Q' E s:=wpAny_mono h hQ fun _ _ x=>x
section
variable {X:Cx}
noncomputable def pS (i:Nat):TE:=fun σ H Q=>∃ v,σ[i]? = some (some v) /\ Q v H
noncomputable def tC (v:V):TE:=fun _ H Q=>Q v H
theorem Jv {i:Nat} {x:Str} {pos:Pos} (hN:X.N[i]? = some x) (hv:Vis X.env.scope x) (hd:(x == ("__debug__" : Str)) = false:=by decide) (hcd:(x == ("__classdict__" : Str)) = false:=by decide):PE X (.Name x pos) (pS i):=by
 intro pins s σ H Q I h
 obtain ⟨v,e,h⟩:=h
 obtain ⟨m,hn,hl⟩:=I.loc
 obtain ⟨u,r,l⟩:=hl i x v hN e hv
 have fin:EP X pins σ Q u s:=⟨v,H,I,r,h⟩
 rcases l with ⟨hk,hm⟩ | ⟨hk,c,hc,hcell⟩
 ·exact wpAny_Name (wpAny_loadName_local I.ok.kind hk hn hm fin) hd
 ·rcases hk with hk | hk
  ·exact wpAny_Name (wpAny_loadName_cell I.ok.kind hk hc hcell fin) hd
  ·exact wpAny_Name (wpAny_loadName_free I.ok.kind hk hc hcell fin hcd) hd
theorem mP {i j pos}:PE X (.Constant (.int i) j pos) (tC (.int i)):=fun _ _ _ H _ I h=>wpAny_Constant_int ⟨.int i,H,I.tok _,⟨_,rfl⟩,h⟩
theorem La {b j pos}:PE X (.Constant (.bool b) j pos) (tC (.bl b)):=fun _ _ _ H _ I h=>Constant_bool ⟨.bl b,H,I,rfl,h⟩
theorem Jt {j pos}:PE X (.Constant .none j pos) (tC .non):=fun _ _ _ H _ I h=>Constant_none ⟨.non,H,I,rfl,h⟩
def Gl (X:Cx) (x:Str):Prop:=X.env.kindOf x = some .globalImplicit
theorem wB  {pins:List (Addr × Obj)}     {u:Value} {pos:Pos} {Q:Value -> Shared -> Prop} (I:Inv X pins σ H s) (hg:Gl X x) (hm:X.mg x = some u) (h:Q u s)
  (hd:(x == ("__debug__" : Str)) = false:=by decide):wpAny (model X.prog X.w) X.A (eval (.Name x pos) X.env) Q E s:=
 Calls.Name_function_global I.ok.kind hg (Calls.loadGlobal_global (by rw [I.ok.glob];exact I.mod.glob.keeps I.bk) hm h) hd
theorem pq {E:Value -> Shared -> Prop} {pins:List (Addr × Obj)} {s:Shared} {σ:St} {H:Hp} {x:Str} {u:Value} {pos:Pos} {Q:Value -> Shared -> Prop} (I:Inv X pins σ H s) (hg:Gl X x) (hm:X.mg x = none) (hv:bootBuiltins x = some u) (h:Q u s)
  (hn:x ≠ "__name__" := by decide) (hd:(x == ("__debug__" : Str)) = false:=by decide):wpAny (model X.prog X.w) X.A (eval (.Name x pos) X.env) Q E s:=by
 obtain ⟨mb,h1,h2⟩:=I.mod.blt
 exact Calls.Name_function_global I.ok.kind hg (Calls.loadGlobal_builtin (by rw [I.ok.glob];exact I.mod.glob.keeps I.bk) hm (by rw [I.ok.blt];exact h1.keeps I.bk) ((h2 x hn).trans hv) h) hd
theorem BA   {u:Value} {pos:Pos} (hg:Gl X x) (hm:X.mg x = some u) (r:RelV v u) (hd:(x == ("__debug__" : Str)) = false:=by decide):PE X (.Name x pos) (tC v):=
 fun _ _ _ H _ I h=>wB I hg hm ⟨v,H,I,r,h⟩ hd
theorem GV   {u:Value} {pos:Pos} (hg:Gl X x) (hm:X.mg x = none) (hv:bootBuiltins x = some u) (r:RelV v u) (hn:x ≠ "__name__" := by decide) (hd:(x == ("__debug__" : Str)) = false:=by decide):PE X (.Name x pos) (tC v):=
 fun _ _ _ H _ I h=>pq I hg hm hv ⟨v,H,I,r,h⟩ hn hd
variable {a b:Expr} {ta tb:TE} {pos:Pos}
noncomputable def tB (t:TE):TT:=fun σ H Q=>t σ H fun x H1=>∃ c,x = .bl c /\ Q c H1
variable {tA tB':TT} {rest:List Expr}
noncomputable def Kj (t u:TT):TT:=fun σ H Q=>t σ H fun c H1=>if c = true then u σ H1 Q else Q false H1
noncomputable def tOr (t u:TT):TT:=fun σ H Q=>t σ H fun c H1=>if c = true then Q true H1 else u σ H1 Q
noncomputable def Ko (t:TT):TT:=fun σ H Q=>t σ H fun c H1=>Q (!c) H1
theorem Hb (ha:PT X a tA):PW X (.BoolOp .And [a] pos) tA:=by
 intro wh pins s σ H Q I h
 refine isTrue_and (thn (ha pins s σ H Q I h) fun c s1 e=>?_)
 cases c with
 | true=>exact isTrue_and_nil e
 | false=>exact e
theorem JG (ha:PT X a tA):PW X (.BoolOp .Or [a] pos) tA:=by
 intro wh pins s σ H Q I h
 refine isTrue_or (thn (ha pins s σ H Q I h) fun c s1 e=>?_)
 cases c with
 | false=>exact isTrue_or_nil e
 | true=>exact e
theorem Fl (ha:PT X a tA) (hb:PW X (.BoolOp .And (b :: rest) pos) tB'):PW X (.BoolOp .And (a :: b :: rest) pos) (Kj tA tB'):=by
 intro wh pins s σ H Q I h
 refine isTrue_and (thn (ha pins s σ H _ I h) fun c s1 hpt9=>?_)
 obtain ⟨H1,I1,q1⟩:=hpt9
 cases c with
 | true=>exact hb wh pins s1 σ H1 Q I1 q1
 | false=>exact ⟨H1,I1,q1⟩
theorem HR (ha:PT X a tA) (hb:PW X (.BoolOp .Or (b :: rest) pos) tB'):PW X (.BoolOp .Or (a :: b :: rest) pos) (tOr tA tB'):=by
 intro wh pins s σ H Q I h
 refine isTrue_or (thn (ha pins s σ H _ I h) fun c s1 hpt9=>?_)
 obtain ⟨H1,I1,q1⟩:=hpt9
 cases c with
 | true=>exact ⟨H1,I1,q1⟩
 | false=>exact hb wh pins s1 σ H1 Q I1 q1
theorem JE (ha:PT X a tA):PT X (.UnaryOp .Not a pos) (Ko tA):=by
 intro pins s σ H Q I h
 exact isTrue_not (ha pins s σ H (fun c H1=>Q (!c) H1) I h)
noncomputable def FQ (ta tb:TE):TE:=fun σ H Q=>ta σ H fun x H1=>∃ c,x = .bl c /\ if c = true then tb σ H1 Q else Q (.bl false) H1
theorem Ju {op}  (h:PE X a t):PE X (.BoolOp op [a] pos) t:=fun pins s σ H Q I hw=>BoolOp_one (h pins s σ H Q I hw)
theorem Jq (ha:PE X a ta) (hb:PE X (.BoolOp .And (b :: rest) pos) tb):PE X (.BoolOp .And (a :: b :: rest) pos) (FQ ta tb):=by
 intro pins s σ H Q I h
 refine BoolOp_and (thn (ha pins s σ H _ I h) fun v s1 hpt9=>?_)
 obtain ⟨x,H1,I1,r1,q1⟩:=hpt9
 obtain ⟨c,rfl,q1⟩:=q1
 cases r1
 refine wpAny_truthy_bool ?_
 cases c with
 | true=>exact hb pins s1 σ H1 Q I1 q1
 | false=>exact ⟨.bl false,H1,I1,rfl,q1⟩
end
def SqL (K:W.Frag) (H:Hp) (a:Addr) (xs:List V):Prop:=
 Rd H a (.lst xs) \/
  ∃ (o:Obj) (its:Array Value) (n:Nat),K.lookup a = some o /\ o.cls = .type "list" /\ o.dict = none /\ o.data = .seq its n /\ its.size <= sizeLine /\ Vals xs its.toList
def SqT (K:W.Frag) (H:Hp) (a:Addr) (xs:List V):Prop:=
 Rd H a (.tup xs) \/
  ∃ (o:Obj) (its:Array Value) (n:Nat),K.lookup a = some o /\ o.cls = .type "tuple" /\ o.data = .seq its n /\ its.size <= sizeLine /\ Vals xs its.toList
noncomputable def Mx:Value -> Option V
 | .none=>some .non
 | .bool b=>some (.bl b)
 | .int i _=>some (.int i)
 | .str x _=>some (.str x)
 | .bytes b _=>some (.byt b)
 | .float b _=>some (.flt b)
 | .ref a=>some (.ref a)
 | .type n=>some (.ty n)
 | _=>none
theorem RelV.abs   (r:RelV x u):Mx u = some x:=by
 cases x with
 | non=>cases r;rfl
 | bl _=>cases r;rfl
 | int _=>obtain ⟨t,rfl⟩:=r;rfl
 | str _=>obtain ⟨t,rfl⟩:=r;rfl
 | byt _=>obtain ⟨t,rfl⟩:=r;rfl
 | flt _=>obtain ⟨t,rfl⟩:=r;rfl
 | ref _=>cases r;rfl
 | ty _=>cases r;rfl
theorem RelV.inj   (r:RelV x u) (q:RelV y u):x = y:=Option.some.inj (r.abs.symm.trans q.abs)
theorem Vals.inj {xs ys:List V} {us:List Value} (h:Vals xs us) (k:Vals ys us):xs = ys:=by
 induction h generalizing ys with
 | nil=>cases k;rfl
 | cons r t ih=>
  cases k with
  | cons r' t'=>rw [r.inj r',ih t']
section
variable {X:Cx} {pins:List (Addr × Obj)} {σ:St} {H:Hp} {s:Shared} {a:Addr} {xs ys:List V}
theorem SqL.of {K:W.Frag} (h:H a = some (.lst xs)):SqL K H a xs:=.inl (.inl h)
theorem SqT.of {K:W.Frag} (h:H a = some (.tup xs)):SqT K H a xs:=.inl (.inl h)
theorem Inv.list (I:Inv X pins σ H s) (h:SqL X.K H a xs):∃ its:List Value,Vals xs its /\ PlainL s.heap a its.toArray /\ xs.length <= sizeLine:=by
 rcases h with h | ⟨o,its,n,hk,hc,hd,hs,hz,r⟩
 ·obtain ⟨z,its,n,r,e⟩:=h.ok I.hok
  exact ⟨its,r,⟨_,n,e,rfl,rfl,rfl⟩,z⟩
 ·refine ⟨its.toList,r,⟨o,n,I.kIn a o hk,hc,hd,by simpa using hs⟩,?_⟩
  have e:=r.length
  simp only [Array.length_toList] at e
  lia
theorem Inv.tuple (I:Inv X pins σ H s) (h:SqT X.K H a xs):∃ its:List Value,Vals xs its /\ IsTup s.heap a its.toArray /\ xs.length <= sizeLine:=by
 rcases h with h | ⟨o,its,n,hk,hc,hs,hz,r⟩
 ·obtain ⟨z,its,r,p⟩:=h.ok I.hok
  exact ⟨its,r,p.tup,z⟩
 ·refine ⟨its.toList,r,⟨o,I.kIn a o hk,hc,n,by simpa using hs⟩,?_⟩
  have e:=r.length
  simp only [Array.length_toList] at e
  lia
theorem Inv.list_inj (I:Inv X pins σ H s) (h:SqL X.K H a xs) (h':SqL X.K H a ys):xs = ys:=by
 obtain ⟨its,r,⟨o,n,e,_,_,d⟩,_⟩:=I.list h
 obtain ⟨its',r',⟨o',n',e',_,_,d'⟩,_⟩:=I.list h'
 rw [e] at e';cases e'
 rw [d] at d'
 injection d' with d1 _
 have:its = its':=by simpa using congrArg Array.toList d1
 subst this
 exact r.inj r'
theorem Inv.tuple_inj (I:Inv X pins σ H s) (h:SqT X.K H a xs) (h':SqT X.K H a ys):xs = ys:=by
 obtain ⟨its,r,⟨o,e,_,n,d⟩,_⟩:=I.tuple h
 obtain ⟨its',r',⟨o',e',_,n',d'⟩,_⟩:=I.tuple h'
 rw [e] at e';cases e'
 rw [d] at d'
 injection d' with d1 _
 have:its = its':=by simpa using congrArg Array.toList d1
 subst this
 exact r.inj r'
end
noncomputable abbrev Cx.wish (X:Cx) (E:Value -> Shared -> Prop):Cx:={ X with xe:=E }
noncomputable abbrev Cx.nox (X:Cx):Cx:=X.wish fun _ _=>False
theorem Cx.Ok.wish {X:Cx} (ok:X.Ok) (E:Value -> Shared -> Prop):(X.wish E).Ok:=
 ⟨ok.mod,ok.kind,ok.glob,ok.blt,ok.above,ok.inj,ok.has,ok.cab,ok.hd,ok.frames,ok.stk,ok.exf,ok.bs,ok.bsz,ok.noex,ok.exfs,ok.funs,ok.frf⟩
theorem Cx.Ok.unwish {X:Cx} {E:Value -> Shared -> Prop} (ok:(X.wish E).Ok):X.Ok:=
 ⟨ok.mod,ok.kind,ok.glob,ok.blt,ok.above,ok.inj,ok.has,ok.cab,ok.hd,ok.frames,ok.stk,ok.exf,ok.bs,ok.bsz,ok.noex,ok.exfs,ok.funs,ok.frf⟩
section
variable {X:Cx} {pins:List (Addr × Obj)} {σ:St} {H:Hp} {s:Shared} {E:Value -> Shared -> Prop}
theorem Inv.wish (I:Inv X pins σ H s) (E:Value -> Shared -> Prop):Inv (X.wish E) pins σ H s:=⟨I.ok.wish E,I.os,I.bare,I.base,I.loc,I.cell,I.free,I.freeC,I.pin,I.hok,I.len⟩
theorem Inv.unwish (I:Inv (X.wish E) pins σ H s):Inv X pins σ H s:=⟨I.ok.unwish,I.os,I.bare,I.base,I.loc,I.cell,I.free,I.freeC,I.pin,I.hok,I.len⟩
theorem SP.unwish   {s':Shared} (h:SP (X.wish E) pins D f s'):SP X pins D f s':=by
 cases f with
 | next=>obtain ⟨σ',H',I,q⟩:=h;exact ⟨σ',H',I.unwish,q⟩
 | brk=>obtain ⟨σ',H',I,q⟩:=h;exact ⟨σ',H',I.unwish,q⟩
 | cont=>obtain ⟨σ',H',I,q⟩:=h;exact ⟨σ',H',I.unwish,q⟩
 | ret u=>obtain ⟨v,σ',H',I,r,q⟩:=h;exact ⟨v,σ',H',I.unwish,r,q⟩
theorem PSs.nox {st:List Stmt}  (h:PSs X.nox st t):PSs X st t:=fun pins s σ H D I hw=>
 wpAny_mono (h pins s σ H D (I.wish _) hw) (fun _ _ q=>q.unwish) fun _ _ z=>False.elim z
end
section
variable {X:Cx} {st:Stmt} {rest:List Stmt} {t u:TS} {e:Expr} {te:TE} {pos:Pos}
noncomputable def BH:TS:=fun D σ H=>D.nx σ H
noncomputable def Hx (t u:TS):TS:=fun D σ H=>t { D with nx:=u D } σ H
theorem oq:PSs X [] BH:=fun _ _ σ H _ I h=>wpAny_execs_nil ⟨σ,H,I,h⟩
theorem aA (h1:PS X st t) (h2:PSs X rest u):PSs X (st :: rest) (Hx t u):=by
 intro pins s σ H D I h
 refine wpAny_execs_cons (thn (h1 pins s σ H { D with nx:=u D } I h) fun f s1 q=>?_)
 cases f with
 | next=>
  obtain ⟨σ',H',I',q⟩:=q
  exact h2 pins s1 σ' H' D I' q
 | ret v=>exact q
 | brk=>exact q
 | cont=>exact q
theorem bG (h1:PS X st t):PSs X [st] t:=by
 intro pins s σ H D I h
 refine wpAny_execs_cons (thn (h1 pins s σ H D I h) fun f s1 q=>?_)
 cases f with
 | next=>exact wpAny_execs_nil q
 | ret v=>exact q
 | brk=>exact q
 | cont=>exact q
theorem Inv.quiet {pins:List (Addr × Obj)} {σ:St} {H:Hp} {s:Shared} (I:Inv X pins σ H s):interactive X.env = false:=by simp [interactive,I.ok.kind]
noncomputable def uf (te:TE):TS:=fun D σ H=>te σ H fun _ H1=>D.nx σ H1
theorem kS (he:PE X e te) (hs:swapsWith e none pos.line X.env = pure false:=by rfl):PS X (.Expr e pos) (uf te):=by
 intro pins s σ H D I h
 exact wpAny_Expr_any (thn (he pins s σ H _ I h) fun v s1 ⟨x,H1,I1,r1,q1⟩=>⟨σ,H1,I1,q1⟩) I.quiet hs
noncomputable def FW (te:TE):TS:=fun D σ H=>te σ H D.rt
theorem iM (he:PE X e te):PS X (.Return (some e) pos) (FW te):=by
 intro pins s σ H D I h
 exact wpAny_Return_some (thn (he pins s σ H _ I h) fun v s1 ⟨x,H1,I1,r1,q1⟩=>⟨x,σ,H1,I1,r1,q1⟩)
noncomputable def Hv (c:TT) (t u:TS):TS:=fun D σ H=>c σ H fun b H1=>if b = true then t D σ H1 else u D σ H1
theorem yO {c:Expr} {a b:List Stmt} {tc:TT} (hc:PT X c tc) (ha:PSs X a t) (hb:PSs X b u):PS X (.If c a b pos) (Hv tc t u):=by
 intro pins s σ H D I h
 refine wpAny_If (thn (hc pins s σ H _ I h) fun d s1 hpt9=>?_)
 obtain ⟨H1,I1,q1⟩:=hpt9
 cases d with
 | true=>exact ha pins s1 σ H1 D I1 q1
 | false=>exact hb pins s1 σ H1 D I1 q1
noncomputable def FU:TS:=fun _ _ _=>False
theorem pL:PSs X sts FU:=fun _ _ _ _ _ _ h=>h.elim
end
noncomputable abbrev TG:=V -> St -> Hp -> (St -> Hp -> Prop) -> Prop
noncomputable abbrev TGs:=List V -> St -> Hp -> (St -> Hp -> Prop) -> Prop
def PG (X:Cx) (target:Expr) (t:TG):Prop:=
 ∀ (pins:List (Addr × Obj)) (s:Shared) (σ:St) (H:Hp) (v:V) (u:Value) (Q:St -> Hp -> Prop),Inv X pins σ H s -> RelV v u -> t v σ H Q ->
  wpAny (model X.prog X.w) X.A (assign target X.env u) (fun _ s'=>∃ σ' H',Inv X pins σ' H' s' /\ Q σ' H') X.xe s
def PGs (X:Cx) (ts:List Expr) (t:TGs):Prop:=
 ∀ (pins:List (Addr × Obj)) (s:Shared) (σ:St) (H:Hp) (vs:List V) (us:List Value) (Q:St -> Hp -> Prop),Inv X pins σ H s -> Vals vs us -> t vs σ H Q ->
  wpAny (model X.prog X.w) X.A (assignInOrder ((assignEach ts X.env).map (·.2)) us) (fun _ s'=>∃ σ' H',Inv X pins σ' H' s' /\ Q σ' H') X.xe s
noncomputable abbrev Ij:=V -> V -> V -> Hp -> (Hp -> Prop) -> Prop
def Ii (X:Cx) (t:Ij):Prop:=
 ∀ (pins:List (Addr × Obj)) (s:Shared) (σ:St) (H:Hp) (o i v:V) (ov iv u:Value) (Q:Hp -> Prop),Inv X pins σ H s -> RelV o ov -> RelV i iv -> RelV v u -> t o i v H Q ->
  wpAny (model X.prog X.w) X.A (setItem ov iv u) (fun _ s'=>∃ H',Inv X pins σ H' s' /\ Q H') X.xe s
noncomputable abbrev TIp:=V -> V -> Hp -> VK -> Prop
def PIp (X:Cx) (op:Operator) (t:TIp):Prop:=
 ∀ (pins:List (Addr × Obj)) (s:Shared) (σ:St) (H:Hp) (x y:V) (v u:Value) (Q:VK),Inv X pins σ H s -> RelV x v -> RelV y u -> t x y H Q ->
  wpAny (model X.prog X.w) X.A (inplaceOp op v u) (EP X pins σ Q) X.xe s
section
variable {X:Cx} {pos:Pos}
noncomputable def gH (i:Nat):TG:=fun v σ H Q=>Q (σ.set i (some v)) H
theorem oj {i:Nat} {x:Str} (hN:X.N.Nodup) (hi:X.N[i]? = some x) (hx:Loc X.env.scope x) (hf:X.fn x = true \/ X.env.scope.names.lookup x = some .local:=by first | exact .inl rfl | exact .inr rfl | assumption):PG X (.Name x pos) (gH i):=by
 intro pins s σ H v u Q I r h
 exact wpAny_assign_Name (ue I hN hi hx r (fun s' I'=>⟨_,H,I',h⟩) hf)
noncomputable def Gy:TGs:=fun vs σ H Q=>vs = [] /\ Q σ H
noncomputable def Bd (t:TG) (u:TGs):TGs:=fun vs σ H Q=>∃ v r,vs = v :: r /\ t v σ H fun σ' H'=>u r σ' H' Q
theorem G4:PGs X [] Gy:=by
 intro pins s σ H vs us Q I r h
 obtain ⟨e,h⟩:=h
 subst e
 cases r
 exact assignInOrder_nil ⟨σ,H,I,h⟩
theorem Fb {e:Expr} {es:List Expr} {t:TG} {u:TGs} (h1:PG X e t) (h2:PGs X es u)
  (hs:(assignEach (e :: es) X.env).map (·.2) = assign e X.env :: (assignEach es X.env).map (·.2):=by rfl):PGs X (e :: es) (Bd t u):=by
 intro pins s σ H vs us Q I r h
 obtain ⟨v,vr,e1,h⟩:=h
 subst e1
 cases r with
 | cons r rr=>
  rw [hs]
  refine assignInOrder_cons (thn (h1 pins s σ H _ _ _ I r h) fun _ s1 hpt9=>?_)
  obtain ⟨σ1,H1,I1,q1⟩:=hpt9
  exact h2 pins s1 σ1 H1 _ _ Q I1 rr q1
noncomputable def Gz (K:W.Frag) (n:Nat) (t:TGs):TG:=fun v σ H Q=>∃ a xs,v = .ref a /\ SqT K H a xs /\ xs.length = n /\ t xs σ H Q
theorem Jy {es:List Expr} {k:Nat}  {n:Nat} (hc:X.calm = true) (h:PGs X es t)
  (hn:(assignEach es X.env).length = n:=by rfl) (hst:(assignEach es X.env).findIdx? (·.1) = none:=by rfl):PG X (.Tuple es k pos) (Gz X.K n t):=by
 intro pins s σ H v u Q I r hw
 obtain ⟨a,xs,e1,hq,hl,hw⟩:=hw
 subst e1
 cases r
 obtain ⟨its,rv,ht,hz⟩:=I.tuple hq
 refine assign_Tuple_tuple (I.ok.hd hc) ht (by simp [hn,<- hl,rv.length]) hst fun h' hx=>?_
 have I1:Inv X pins σ H { s with heap:=h' }:=I.kept (t':=s.toks) fun b o e=>hx b o (Nat.ne_of_lt (Heap.lt_size e)) e
 exact h pins _ σ H xs _ Q I1 (by simpa using rv) hw
noncomputable def IP (to ti:TE) (t:Ij):TG:=fun v σ H Q=>to σ H fun o H1=>ti σ H1 fun i H2=>t o i v H2 fun H3=>Q σ H3
theorem Jx {o i:Expr} {to ti:TE} {t:Ij} (ho:PE X o to) (hi:PE X i ti) (hs:Ii X t)
  (ha:∀ v,assign (.Subscript o i pos) X.env v = (do
   let ov ← holding [v] (eval o X.env)
   let iv ← holding [v,ov] (eval i X.env)
   standAt pos
   holding [v,ov,iv] (setItem ov iv v)
   release [v,ov,iv] []):=by intro _;rfl):PG X (.Subscript o i pos) (IP to ti t):=by
 intro pins s σ H v u Q I r h
 rw [ha]
 refine wpAny_bind (wpAny_holding (thn (ho pins s σ H _ I h) fun ov s1 hpt9=>?_))
 obtain ⟨x,H1,I1,r1,q1⟩:=hpt9
 refine wpAny_bind (wpAny_holding (thn (hi pins s1 σ H1 _ I1 q1) fun iv s2 hpt9=>?_))
 obtain ⟨y,H2,I2,r2,q2⟩:=hpt9
 refine wpAny_bind (wpAny_standAt (wpAny_bind (wpAny_holding (thn (hs pins s2 σ H2 x y v ov iv u _ I2 r1 r2 r q2) fun _ s3 hpt9=>?_))))
 obtain ⟨H3,I3,q3⟩:=hpt9
 exact wpAny_release ⟨σ,H3,I3,q3⟩
noncomputable def uO (te:TE) (g:TG):TS:=fun D σ H=>te σ H fun x H1=>g x σ H1 D.nx
theorem JB {tg e:Expr} {te:TE} {g:TG} (he:PE X e te) (hg:PG X tg g) (hs:swapsWithSole [tg] e pos.line X.env = pure false:=by rfl) (hw:swappedStores [tg] e X.env = pure none:=by rfl)
  (h1:(assignEach [tg] X.env).map (·.2) = [assign tg X.env]:=by rfl):PS X (.Assign [tg] e pos) (uO te g):=by
 intro pins s σ H D I h
 refine wpAny_Assign_stores (thn (he pins s σ H _ I h) fun v s1 hpt9=>?_) hs hw
 obtain ⟨x,H1,I1,r1,q1⟩:=hpt9
 rw [h1]
 exact thn (hg pins s1 σ H1 x v _ I1 r1 q1) fun _ s2 q=>q
theorem Ax {i:Nat} {x:Str} {e:Expr} {te:TE} {pos':Pos} (hN:X.N.Nodup) (hi:X.N[i]? = some x) (hx:Loc X.env.scope x) (he:PE X e te) (hs:swapsWith e (some (.Name x pos')) pos.line X.env = pure false:=by rfl) (hf:X.fn x = true \/ X.env.scope.names.lookup x = some .local:=by first | exact .inl rfl | exact .inr rfl | assumption) :
  PS X (.Assign [.Name x pos'] e pos) (uO te (gH i)):=by
 intro pins s σ H D I h
 refine wpAny_Assign_Name (thn (he pins s σ H _ I h) fun v s1 hpt9=>?_) hs
 obtain ⟨y,H1,I1,r1,q1⟩:=hpt9
 exact ue I1 hN hi hx r1 (fun s2 I2=>⟨_,H1,I2,q1⟩) hf
noncomputable def Kl (i:Nat) (te:TE) (ti:TIp):TS:=fun D σ H=>∃ x,σ[i]? = some (some x) /\ te σ H fun y H1=>ti x y H1 fun z H2=>D.nx (σ.set i (some z)) H2
theorem JC {i:Nat} {x:Str} {e:Expr} {te:TE} {op:Operator} {ti:TIp} {pos':Pos} (hN:X.N.Nodup) (hi:X.N[i]? = some x) (hx:Loc X.env.scope x) (he:PE X e te) (ho:PIp X op ti) (hf:X.fn x = true \/ X.env.scope.names.lookup x = some .local:=by first | exact .inl rfl | exact .inr rfl | assumption) :
  PS X (.AugAssign (.Name x pos') op e pos) (Kl i te ti):=by
 intro pins s σ H D I h
 obtain ⟨v,e1,h⟩:=h
 obtain ⟨m,hn,hl⟩:=I.loc
 have vis:Vis X.env.scope x:=by rcases hx with k | k;exact .inl k;exact .inr (.inl k)
 obtain ⟨u,r,l⟩:=hl i x v hi e1 vis
 refine wpAny_AugAssign_Name ?_
 have go:wpAny (model X.prog X.w) X.A (eval e X.env) (fun w s₂=>wpAny (model X.prog X.w) X.A (inplaceOp op u w) (fun r s₃=>wpAny (model X.prog X.w) X.A (storeName X.env x r) (fun _=>SP X pins D .next) X.xe s₃) X.xe s₂) X.xe s:=by
  refine thn (he pins s σ H _ I h) fun w s1 hpt9=>?_
  obtain ⟨y,H1,I1,r1,q1⟩:=hpt9
  refine thn (ho pins s1 σ H1 v y u w _ I1 r r1 q1) fun z s2 hpt9=>?_
  obtain ⟨zv,H2,I2,r2,q2⟩:=hpt9
  exact ue I2 hN hi hx r2 (fun s3 I3=>⟨_,H2,I3,q2⟩) hf
 rcases l with ⟨hk,hm⟩ | ⟨hk,c,hc,hcell⟩
 ·exact wpAny_loadName_local I.ok.kind hk hn hm go
 ·rcases hk with hk | hk
  ·exact wpAny_loadName_cell I.ok.kind hk hc hcell go
  ·rcases hx with k | k
   ·have:X.env.scope.names.lookup x = some .free:=hk
    rw [k] at this;cases this
   ·have:X.env.scope.names.lookup x = some .free:=hk
    rw [k] at this;cases this
noncomputable def ipI (f:Int -> Int -> Int):TIp:=fun x y H Q=>∃ i j,x = .int i /\ y = .int j /\ Q (.int (f i j)) H
theorem IY:PIp X .Add (ipI fun i j=>i + j):=by
 intro pins s σ H x y v u Q I r1 r2 h
 obtain ⟨i,j,e1,e2,q⟩:=h
 subst e1;subst e2
 obtain ⟨t,rfl⟩:=r1
 obtain ⟨t',rfl⟩:=r2
 exact iadd_int ⟨.int _,H,I.tok _,⟨_,rfl⟩,q⟩
end
section
variable {X:Cx} {pos:Pos}
noncomputable def AK (c:TT) (tb:TS):TS:=fun D σ H=>∃ W:Nat -> St -> Hp -> Prop,(∃ m,W m σ H) /\ ∀ m σ H,W m σ H ->
 c σ H fun b H1=>if b = true then ∃ N:St -> Hp -> Prop,(∀ σ' H',N σ' H' -> ∃ m',m' < m /\ W m' σ' H') /\ tb { D with nx:=N,ct:=N,bk:=D.nx } σ H1 else D.nx σ H1
theorem Fg {c:Expr} {body:List Stmt} {tc:TT} {tb:TS} (hp:PassesOwn (model X.prog X.w) X.A X.env X.xe) (hc:PT X c tc) (hb:PSs X body tb):PS X (.While c body [] pos) (AK tc tb):=by
 intro pins s σ H D I h
 obtain ⟨W,⟨m0,w0⟩,turn⟩:=h
 refine wpAny_While (codeAny_whileLoop (fun n s'=>∃ σ' H',Inv X pins σ' H' s' /\ W n σ' H') ?_ m0 ⟨σ,H,I,w0⟩)
 rintro n s1 ⟨σ1,H1,I1,w1⟩
 refine wpAny_passesOwn hp (thn (hc pins s1 σ1 H1 _ I1 (turn n σ1 H1 w1)) fun b s2 hpt9=>?_)
 obtain ⟨H2,I2,q2⟩:=hpt9
 cases b with
 | true=>
  obtain ⟨N,hN,q2⟩:=q2
  rw [if_pos rfl]
  refine wpAny_passesOwn hp (thn (hb pins s2 σ1 H2 _ I2 q2) fun f s3 q3=>?_)
  cases f with
  | next=>
   obtain ⟨σ3,H3,I3,n3⟩:=q3
   obtain ⟨m',hm,w3⟩:=hN σ3 H3 n3
   exact ⟨m',hm,σ3,H3,I3,w3⟩
  | cont=>
   obtain ⟨σ3,H3,I3,n3⟩:=q3
   obtain ⟨m',hm,w3⟩:=hN σ3 H3 n3
   exact ⟨m',hm,σ3,H3,I3,w3⟩
  | brk=>exact q3
  | ret v=>exact q3
 | false=>
  rw [if_neg Bool.false_ne_true]
  exact wpAny_execs_nil ⟨σ1,H2,I2,q2⟩
end
structure It where
 go:Nat -> Hp -> Prop
 yld:Nat -> Hp -> V -> Hp -> Prop
 stop:Nat -> Hp -> Prop
def mf (X:Cx) (pins:List (Addr × Obj)) (H:Hp) (b:Addr):Prop:=
 H b = none /\ b ≠ X.env.locals /\ b ∉ X.fs /\ (b ∈ X.ex \/ X.s₀.heap.objs.size <= b) /\ (∀ x c,X.env.cells.lookup x = some c -> c ≠ b) /\ ∀ p ∈ X.pn ++ pins,p.1 ≠ b
theorem Inv.fpOk  {pins:List (Addr × Obj)}  {H':Hp}  {b:Addr} (I:Inv X pins σ H s) (hb:s.heap.objs.size <= b) (hn:H' b = none):mf X pins H' b:=by
 refine ⟨hn,Nat.ne_of_gt (Nat.lt_of_lt_of_le I.lt hb),I.nofs hb,.inr (Nat.le_trans I.sz hb),fun x c e z=>?_,fun p hp z=>?_⟩
 ·obtain ⟨v,q⟩:=I.cell x c e
  exact absurd (Nat.lt_of_lt_of_le q.lt (by rw [z];exact hb)) (Nat.lt_irrefl _)
 ·exact absurd (Nat.lt_of_lt_of_le (Heap.lt_size (I.pin p hp).1) (by rw [z];exact hb)) (Nat.lt_irrefl _)
structure Turn (P:Program) (w:World) (K:W.Frag) (tg:Expr) (J:It) (fp:List Addr) (it:Addr) (tn:Nat -> Heap -> Prop):Prop where
 mem:it ∈ fp
 obj:∀ i h,tn i h -> ∀ b ∈ fp,∃ o,h.get? b = some o /\ ∀ v,o.data ≠ .cell v
 keep:∀ i h h',tn i h -> (∀ b ∈ fp,∀ o,h.get? b = some o -> h'.get? b = some o) -> tn i h'
 item:∀ (X:Cx),X.prog = P -> X.w = w -> X.K = K -> X.calm = true -> ∀ (i:Nat) (pins:List (Addr × Obj)) (s:Shared) (σ:St) (H:Hp) (E:Value -> Shared -> Prop),Inv X pins σ H s -> (∀ b ∈ fp,mf X pins H b) -> tn i s.heap -> J.go i H ->
  wpAny (model P w) X.A (pyNext (.ref it)) (fun r s1=>∃ u,r = some u /\
   wpAny (model P w) X.A (letOwnedTupleGo tg (.ref it) u) (fun _ s2=>∃ x H',Inv X pins σ H' s2 /\ RelV x u /\ J.yld i H x H' /\ tn (i + 1) s2.heap /\ ∀ b ∈ fp,H' b = none) E s1) E s
 done:∀ (X:Cx),X.prog = P -> X.w = w -> X.K = K -> X.calm = true -> ∀ (i:Nat) (pins:List (Addr × Obj)) (s:Shared) (σ:St) (H:Hp) (E:Value -> Shared -> Prop),Inv X pins σ H s -> (∀ b ∈ fp,mf X pins H b) -> tn i s.heap -> J.stop i H ->
  wpAny (model P w) X.A (pyNext (.ref it)) (fun r s1=>r = none /\ Inv X pins σ H s1) E s
 self:∀ (A:Around) (i:Nat) (s:Shared) (Q:Value -> Shared -> Prop) (E:Value -> Shared -> Prop),tn i s.heap -> Q (.ref it) s -> wpAny (model P w) A (pyIter (.ref it)) Q E s
noncomputable abbrev TI:=St -> Hp -> (It -> Hp -> Prop) -> Prop
def PIE (X:Cx) (pins:List (Addr × Obj)) (σ:St) (tg:Expr) (R:It -> Hp -> Prop) (itv:Value) (s2:Shared):Prop:=
 ∃ (it:Addr) (fp:List Addr) (tn:Nat -> Heap -> Prop) (J:It) (H':Hp),itv = .ref it /\ Inv X pins σ H' s2 /\ Turn X.prog X.w X.K tg J fp it tn /\ tn 0 s2.heap /\ (∀ b ∈ fp,mf X pins H' b) /\ R J H'
def PI (X:Cx) (tg iter:Expr) (wi:TI):Prop:=
 ∀ (pins:List (Addr × Obj)) (s:Shared) (σ:St) (H:Hp) (R:It -> Hp -> Prop),Inv X pins σ H s -> wi σ H R ->
  wpAny (model X.prog X.w) X.A (eval iter X.env) (fun v s1=>wpAny (model X.prog X.w) X.A (pyIter v) (PIE X pins σ tg R) X.xe s1) X.xe s
theorem Be    {s:Shared} {tg:Expr} {it:Addr}  {o:Obj} {n:String} {vs:Array Value} {Q:Unit -> Shared -> Prop} (ho:s.heap.get? it = some o) (hc:o.cls = .type n) (hd:o.data = .fields vs)
  (hn:["enumerate", "zip", "dict_itemiterator", "dict_reverseitemiterator", "odict_iterator", "itertools.zip_longest", "itertools.pairwise"].contains n = false) (hQ:Q () s):wpAny M A (letOwnedTupleGo tg (.ref it) u) Q E s:=by
 unfold letOwnedTupleGo
 cases tg <;> first
  | exact wpAny_pure hQ
  | (cases u <;> first
    | exact wpAny_pure hQ
    | (refine wpAny_bind (wpAny_load ho ?_)
       rw [hc,hd]
       show wpAny M A (if (["enumerate", "zip", "dict_itemiterator", "dict_reverseitemiterator", "odict_iterator", "itertools.zip_longest", "itertools.pairwise"].contains n && vs[0]? == some (rawInt _)) = true then _ else _) Q E s
       rw [if_neg (by intro h;rw [hn,Bool.false_and] at h;cases h)]
       exact wpAny_pure hQ))
noncomputable def Itl (K:W.Frag) (a:Addr):It:=
 ⟨fun i H=>∃ xs x,SqL K H a xs /\ xs[i]? = some x,fun i H x H'=>H' = H /\ ∀ xs,SqL K H a xs -> xs[i]? = some x,fun i H=>∃ xs,SqL K H a xs /\ xs.length <= i⟩
noncomputable def Itt (K:W.Frag) (a:Addr):It:=
 ⟨fun i H=>∃ xs x,SqT K H a xs /\ xs[i]? = some x,fun i H x H'=>H' = H /\ ∀ xs,SqT K H a xs -> xs[i]? = some x,fun i H=>∃ xs,SqT K H a xs /\ xs.length <= i⟩
noncomputable def Itr (lo:Int) (n:Nat):It:=⟨fun i _=>i < n,fun i H x H'=>H' = H /\ x = .int (lo + i),fun i _=>n <= i⟩
theorem Dt {P:Program} {w:World} {K:W.Frag} {tg:Expr} (a it:Addr):Turn P w K tg (Itl K a) [it] it (fun i h=>h.IsListIter it a i) where
 mem:=by simp
 obj:=fun i h st b hb=>by
  have e:b = it:=by simpa using hb
  subst e
  obtain ⟨o,e,c,d⟩:=st
  exact ⟨o,e,fun v z=>by rw [d] at z;cases z⟩
 keep:=fun i h h' st k=>st.at fun o e=>k it (by simp) o e
 item:=by
  intro X hP hw hK hc i pins s σ H E I hf st hg
  subst hP hw hK
  obtain ⟨xs,x,hq,hx⟩:=hg
  obtain ⟨its,rv,p,hz⟩:=I.list hq
  obtain ⟨u,hu,ru⟩:=rv.get hx
  obtain ⟨f0,f1,f2,f3,f4,f5⟩:=hf it (by simp)
  refine wpAny_pyNext_list_item st p.isList (x:=u) (by simpa using hu) fun h' st' sb=>?_
  have I1:Inv X pins σ H { s with heap:=h' }:=I.turned (t':=s.toks) (fun b o hb e=>(sb.2 b hb).trans e) f0 f1 f3 f4 f5
  obtain ⟨o,e,c,d⟩:=id st'
  exact ⟨u,rfl,Be (s:={ s with heap:=h' }) e c d (by decide) ⟨x,H,I1,ru,⟨rfl,fun ys hy=>by rw [I.list_inj hy hq];exact hx⟩,st',fun b hb=>(hf b hb).1⟩⟩
 done:=by
  intro X hP hw hK hc i pins s σ H E I hf st hg
  subst hP hw hK
  obtain ⟨xs,hq,hx⟩:=hg
  obtain ⟨its,rv,p,hz⟩:=I.list hq
  obtain ⟨f0,f1,f2,f3,f4,f5⟩:=hf it (by simp)
  have hl:=rv.length
  exact wpAny_pyNext_list_end (I.ok.hd hc) st p.isList (by simp;lia) fun h' eb=>⟨rfl,I.turned (t':=s.toks) (fun b o hb e=>eb b o hb e) f0 f1 f3 f4 f5⟩
 self:=fun _ _ _ _ _ st h=>wpAny_pyIter_listiter st h
theorem AM {P:Program} {w:World} {K:W.Frag} {tg:Expr} (a it:Addr):Turn P w K tg (Itt K a) [it] it (fun i h=>h.IsTupleIter it a i) where
 mem:=by simp
 obj:=fun i h st b hb=>by
  have e:b = it:=by simpa using hb
  subst e
  obtain ⟨o,e,c,d⟩:=st
  exact ⟨o,e,fun v z=>by rw [d] at z;cases z⟩
 keep:=fun i h h' st k=>st.at fun o e=>k it (by simp) o e
 item:=by
  intro X hP hw hK hc i pins s σ H E I hf st hg
  subst hP hw hK
  obtain ⟨xs,x,hq,hx⟩:=hg
  obtain ⟨its,rv,p,hz⟩:=I.tuple hq
  obtain ⟨u,hu,ru⟩:=rv.get hx
  obtain ⟨f0,f1,f2,f3,f4,f5⟩:=hf it (by simp)
  refine wpAny_pyNext_tuple_item st (show s.heap.IsTuple a its.toArray from p) (x:=u) (by simpa using hu) fun h' st' sb=>?_
  have I1:Inv X pins σ H { s with heap:=h' }:=I.turned (t':=s.toks) (fun b o hb e=>(sb.2 b hb).trans e) f0 f1 f3 f4 f5
  obtain ⟨o,e,c,d⟩:=id st'
  exact ⟨u,rfl,Be (s:={ s with heap:=h' }) e c d (by decide) ⟨x,H,I1,ru,⟨rfl,fun ys hy=>by rw [I.tuple_inj hy hq];exact hx⟩,st',fun b hb=>(hf b hb).1⟩⟩
 done:=by
  intro X hP hw hK hc i pins s σ H E I hf st hg
  subst hP hw hK
  obtain ⟨xs,hq,hx⟩:=hg
  obtain ⟨its,rv,p,hz⟩:=I.tuple hq
  obtain ⟨f0,f1,f2,f3,f4,f5⟩:=hf it (by simp)
  have hl:=rv.length
  exact wpAny_pyNext_tuple_end (I.ok.hd hc) st (show s.heap.IsTuple a its.toArray from p) (by simp;lia) fun h' eb=>⟨rfl,I.turned (t':=s.toks) (fun b o hb e=>eb b o hb e) f0 f1 f3 f4 f5⟩
 self:=fun _ _ _ _ _ st h=>wpAny_pyIter_tupleiter st h
theorem AL {P:Program} {w:World} {K:PySem.W.Frag} {tg:Expr} (it:Addr) (lo:Int) (n:Nat):Turn P w K tg (Itr lo n) [it] it (fun i h=>IsRangeIter h it (lo + (i:Nat) * 1) ((n:Int) - (i:Nat)) 1) where
 mem:=by simp
 obj:=fun i h st b hb=>by
  have e:b = it:=by simpa using hb
  subst e
  exact ⟨_,st,fun v z=>by
   have z':Data.fields _ = Data.cell v:=z
   cases z'⟩
 keep:=fun i h h' st k=>k it (by simp) _ st
 item:=by
  intro X hP hw hK hc i pins s σ H E I hf st hg
  subst hP hw hK
  obtain ⟨f0,f1,f2,f3,f4,f5⟩:=hf it (by simp)
  have W:=Walks.range (prog:=X.prog) (w:=X.w) (I.ok.hd hc) it lo 1 n
  refine W.item i s _ _ hg st fun v h' tk hv st' kk=>?_
  obtain ⟨t,rfl⟩:=hv
  have I1:Inv X pins σ H { s with heap:=h',toks:=tk }:=I.turned (fun b o hb e=>kk b o (by simpa using hb) e) f0 f1 f3 f4 f5
  refine ⟨_,rfl,Be (s:={ s with heap:=h',toks:=tk }) (n := "range_iterator") st' rfl rfl (by decide) ⟨.int (lo + i),H,I1,⟨t,?_⟩,⟨rfl,rfl⟩,st',fun b hb=>(hf b hb).1⟩⟩
  rw [Int.mul_one]
 done:=by
  intro X hP hw hK hc i pins s σ H E I hf st hg
  subst hP hw hK
  obtain ⟨f0,f1,f2,f3,f4,f5⟩:=hf it (by simp)
  exact wpAny_pyNext_range_end (I.ok.hd hc) st (by have:n <= i:=hg;lia) fun h' eb=>⟨rfl,I.turned (t':=s.toks) (fun b o hb e=>eb b o hb e) f0 f1 f3 f4 f5⟩
 self:=fun _ _ _ _ _ st h=>wpAny_pyIter_rangeiter st h
section
variable {X:Cx} {tg:Expr}
theorem yR {pins:List (Addr × Obj)} {σ:St} {H:Hp} {s:Shared} {R:It -> Hp -> Prop} {E:Value -> Shared -> Prop} {lo hi:Int} {t u v:Tok} {tk:Nat} (I:Inv X pins σ H s) (h1:-(2 ^ 62) <= lo) (h2:lo < 2 ^ 62) (h3:-(2 ^ 62) <= hi) (h4:hi < 2 ^ 62)
  (q:R (Itr lo (hi - lo).toNat) H):wpAny (model X.prog X.w) X.A (pyIter (.ref s.heap.objs.size)) (PIE X pins σ tg R) E { s with heap:=s.heap.push { cls:=.type "range",data:=.fields #[.int lo t,.int hi u,.int 1 v] },toks:=tk }:=by
 refine wpAny_pyIter_range (IsRange.new ..) (small_one h1 h2 h3 h4) ?_
 have I1:Inv X pins σ H { s with heap:=s.heap.push { cls:=.type "range",data:=.fields #[.int lo t,.int hi u,.int 1 v] },toks:=tk }:=I.kept fun b o e=>Heap.get?_push_of_some _ e
 refine ⟨(s.heap.push { cls:=.type "range",data:=.fields #[.int lo t,.int hi u,.int 1 v] }).objs.size,[(s.heap.push { cls:=.type "range",data:=.fields #[.int lo t,.int hi u,.int 1 v] }).objs.size],_,_,H,rfl,
  I1.kept (t':=tk) fun b o e=>Heap.get?_push_of_some _ e,AL _ lo (hi - lo).toNat,?_,fun b hb=>?_,q⟩
 ·have e1:lo + ((0:Nat):Int) * 1 = lo:=by simp
  have e2:(((hi - lo).toNat:Nat):Int) - ((0:Nat):Int) = Builtin.Range.rangeSize lo hi 1:=by rw [rangeSize_one];split <;> lia
  show IsRangeIter _ _ (lo + ((0:Nat):Int) * 1) ((((hi - lo).toNat:Nat):Int) - ((0:Nat):Int)) 1
  rw [e1,e2]
  exact Heap.get?_push_size _ rfl
 ·have e:b = (s.heap.push { cls:=.type "range",data:=.fields #[.int lo t,.int hi u,.int 1 v] }).objs.size:=by simpa using hb
  subst e
  exact I1.fpOk (Nat.le_refl _) (I1.hok.fresh (Nat.le_refl _))
noncomputable def HK (ta:TA):TI:=fun σ H R=>ta σ H fun vs H1=>∃ j:Int,vs = [.int j] /\ -(2 ^ 62) <= j /\ j < 2 ^ 62 /\ R (Itr 0 j.toNat) H1
noncomputable def HL (ta:TA):TI:=fun σ H R=>ta σ H fun vs H1=>∃ i j:Int,vs = [.int i,.int j] /\ (-(2 ^ 62) <= i /\ i < 2 ^ 62 /\ -(2 ^ 62) <= j /\ j < 2 ^ 62) /\ R (Itr i (j - i).toNat) H1
theorem C5 {a:Expr} {ta:TA} {p pos:Pos} (hg:Gl X "range") (hm:X.mg "range" = none) (ha:PA X [a] ta) (hs:starEach [a] X.env = [(false,eval a X.env)]:=by rfl):PI X tg (.Call (.Name "range" p) [a] [] pos) (HK ta):=by
 intro pins s σ H R I h
 refine Call_ (pq I hg hm boot_range (PyProof.Rows.callWith_type1 (thn (ha pos pins s σ H _ I h) fun us s1 hpt9=>?_) hs rfl))
 obtain ⟨vs,H1,I1,r1,q1⟩:=hpt9
 obtain ⟨j,e,q1,q2,q⟩:=q1
 subst e
 cases r1 with
 | cons r rr=>
  cases rr
  obtain ⟨t,rfl⟩:=r
  exact call_range_1 (yR I1 (by lia) (by lia) q1 q2 (by simpa using q))
theorem C6 {a b:Expr} {ta:TA} {p pos:Pos} (hg:Gl X "range") (hm:X.mg "range" = none) (ha:PA X [a,b] ta) (hs:starEach [a,b] X.env = [(false,eval a X.env),(false,eval b X.env)]:=by rfl) (hs2:starEach [b] X.env = [(false,eval b X.env)]:=by rfl) :
  PI X tg (.Call (.Name "range" p) [a,b] [] pos) (HL ta):=by
 intro pins s σ H R I h
 refine Call_ (pq I hg hm boot_range (PyProof.Rows.callWith_type1 (thn (ha pos pins s σ H _ I h) fun us s1 hpt9=>?_) (by rw [hs,hs2]) (by rw [hs2];rfl)))
 obtain ⟨vs,H1,I1,r1,q1⟩:=hpt9
 obtain ⟨i,j,e,⟨q1,q2,q3,q4⟩,q⟩:=q1
 subst e
 cases r1 with
 | cons r rr=>
  cases rr with
  | cons r' rr=>
   cases rr
   obtain ⟨t,rfl⟩:=r
   obtain ⟨t',rfl⟩:=r'
   exact call_range_2 (yR I1 q1 q2 q3 q4 q)
noncomputable def Kn (wi:TI) (g:TG) (tb:TS):TS:=fun D σ H=>wi σ H fun J H1=>∃ W:Nat -> Nat -> St -> Hp -> Prop,(∃ m,W 0 m σ H1) /\ ∀ i m σ H,W i m σ H ->
 (J.stop i H /\ D.nx σ H) \/ (J.go i H /\ ∃ N:St -> Hp -> Prop,(∀ σ' H',N σ' H' -> ∃ m',m' < m /\ W (i + 1) m' σ' H') /\ ∀ x H',J.yld i H x H' -> g x σ H' fun σ2 H2=>tb { D with nx:=N,ct:=N,bk:=D.nx } σ2 H2)
noncomputable def mQ (fp:List Addr) (h:Heap):List (Addr × Obj):=fp.filterMap fun b=>(h.get? b).map fun o=>(b,o)
theorem eF {fp:List Addr} {h:Heap} {b:Addr} {o:Obj} (hb:b ∈ fp) (e:h.get? b = some o):(b,o) ∈ mQ fp h:=List.mem_filterMap.mpr ⟨b,hb,by rw [e];rfl⟩
theorem CY {fp:List Addr}  {p:Addr × Obj} (hp:p ∈ mQ fp h):p.1 ∈ fp /\ h.get? p.1 = some p.2:=by
 obtain ⟨b,hb,e⟩:=List.mem_filterMap.mp hp
 cases q:h.get? b with
 | none=>rw [q] at e;cases e
 | some o=>
  rw [q] at e
  have e':(b,o) = p:=Option.some.inj e
  subst e'
  exact ⟨hb,q⟩
theorem Inv.pinned {pins:List (Addr × Obj)}    {fp:List Addr} (I:Inv X pins σ H s) (hf:∀ b ∈ fp,mf X pins H b) (ho:∀ b ∈ fp,∃ o,s.heap.get? b = some o /\ ∀ v,o.data ≠ .cell v):Inv X (pins ++ mQ fp s.heap) σ H s:=
 I.pins_of fun p hp=>(List.mem_append.mp hp).elim (fun z=>I.pin p (List.mem_append_right _ z)) fun z=>by
  obtain ⟨hb,e⟩:=CY z
  obtain ⟨f0,f1,f2,_⟩:=hf p.1 hb
  obtain ⟨o,e',d⟩:=ho p.1 hb
  rw [e] at e';cases e'
  exact ⟨e,f0,f1,f2,d⟩
theorem Inv.unpinned {pins pl:List (Addr × Obj)}    (I:Inv X (pins ++ pl) σ H s):Inv X pins σ H s:=I.pins_of fun p hp=>I.pin p (List.mem_append_right _ (List.mem_append_left _ hp))
theorem mV {iter:Expr} {body:List Stmt} {wi:TI} {g:TG} {tb:TS} {pos:Pos} (hp:PassesOwn (model X.prog X.w) X.A X.env X.xe) (hc:X.calm = true) (hi:PI X tg iter wi) (hg:PG X tg g) (hb:PSs X body tb)
  (hs:∀ x,foldedSetIterable iter X.env x = pure x:=by intro _;rfl):PS X (.For tg iter body [] pos) (Kn wi g tb):=by
 intro pins s σ H D I h
 refine wpAny_For (thn (hi pins s σ H _ I h) fun v s1 h1=>thn h1 fun itv s2 h2=>?_) hs
 obtain ⟨it,fp,tn,J,H2,e,I2,T,st2,f2,W,⟨m0,w0⟩,turn⟩:=h2
 subst e
 -- what stays true of the iterator's objects through the loop
 have stat:∀ {H':Hp},(∀ b ∈ fp,H' b = none) -> ∀ b ∈ fp,mf X pins H' b:=fun hn b hb=>⟨hn b hb,(f2 b hb).2⟩
 refine codeAny_forLoop_any (fun n s'=>∃ i σ' H',Inv X pins σ' H' s' /\ tn i s'.heap /\ (∀ b ∈ fp,H' b = none) /\ W i n σ' H') ?_ m0 ⟨0,σ,H2,I2,st2,fun b hb=>(f2 b hb).1,w0⟩
 rintro n s3 ⟨i,σ3,H3,I3,st3,fr3,w3⟩
 rcases turn i n σ3 H3 w3 with ⟨stop,qn⟩ | ⟨go,N,hN,step⟩
 ·refine wpAny_passesOwn hp (thn (T.done X rfl rfl rfl hc i pins s3 σ3 H3 X.xe I3 (stat fr3) st3 stop) fun r s4 ⟨hr,I4⟩=>?_)
  subst hr
  exact wpAny_execs_nil ⟨σ3,H3,I4,qn⟩
 ·refine wpAny_passesOwn hp (thn (T.item X rfl rfl rfl hc i pins s3 σ3 H3 X.xe I3 (stat fr3) st3 go) fun r s4 ⟨u,hr,h4⟩=>?_)
  subst hr
  refine wpAny_passesOwn hp (thn h4 fun _ s5 hpt9=>?_)
  obtain ⟨x,H5,I5,r5,y5,st5,fr5⟩:=hpt9
  have I5':=I5.pinned (stat fr5) (T.obj _ _ st5)
  refine wpAny_passesOwn hp (thn (hg _ s5 σ3 H5 x u _ I5' r5 (step x H5 y5)) fun _ s6 hpt9=>?_)
  obtain ⟨σ6,H6,I6,q6⟩:=hpt9
  refine wpAny_passesOwn hp (thn (hb _ s6 σ6 H6 _ I6 q6) fun f s7 q7=>?_)
  have again:∀ {σ7:St} {H7:Hp},Inv X (pins ++ mQ fp s5.heap) σ7 H7 s7 -> N σ7 H7 -> ∃ m,m < n /\ ∃ i σ' H',Inv X pins σ' H' s7 /\ tn i s7.heap /\ (∀ b ∈ fp,H' b = none) /\ W i m σ' H':=fun {σ7 H7} I7 n7=>by
   obtain ⟨m',hm,w7⟩:=hN σ7 H7 n7
   refine ⟨m',hm,i + 1,σ7,H7,I7.unpinned,T.keep _ _ _ st5 fun b hb o e=>(I7.pin (b,o) (List.mem_append_right _ (List.mem_append_right _ (eF hb e)))).1,fun b hb=>?_,w7⟩
   obtain ⟨o,e,d⟩:=T.obj _ _ st5 b hb
   exact (I7.pin (b,o) (List.mem_append_right _ (List.mem_append_right _ (eF hb e)))).2.1
  cases f with
  | next=>obtain ⟨σ7,H7,I7,n7⟩:=q7;exact again I7 n7
  | cont=>obtain ⟨σ7,H7,I7,n7⟩:=q7;exact again I7 n7
  | brk=>obtain ⟨σ7,H7,I7,q7⟩:=q7;exact ⟨σ7,H7,I7.unpinned,q7⟩
  | ret v=>obtain ⟨x7,σ7,H7,I7,r7,q7⟩:=q7;exact ⟨x7,σ7,H7,I7.unpinned,r7,q7⟩
end
noncomputable abbrev R2:=V -> V -> Hp -> VK -> Prop
def OpR (X:Cx) (f:Value -> Value -> Sem Value) (r:R2):Prop:=
 ∀ (pins:List (Addr × Obj)) (s:Shared) (σ:St) (H:Hp) (x y:V) (v u:Value) (Q:VK),Inv X pins σ H s -> RelV x v -> RelV y u -> r x y H Q ->
  wpAny (model X.prog X.w) X.A (f v u) (EP X pins σ Q) X.xe s
def UnR (X:Cx) (f:Value -> Sem Value) (r:V -> Hp -> VK -> Prop):Prop:=
 ∀ (pins:List (Addr × Obj)) (s:Shared) (σ:St) (H:Hp) (x:V) (v:Value) (Q:VK),Inv X pins σ H s -> RelV x v -> r x H Q ->
  wpAny (model X.prog X.w) X.A (f v) (EP X pins σ Q) X.xe s
def CallR (X:Cx) (f:Value) (r:List V -> Hp -> VK -> Prop):Prop:=
 ∀ (pins:List (Addr × Obj)) (s:Shared) (σ:St) (H:Hp) (xs:List V) (us:List Value) (Q:VK),Inv X pins σ H s -> Vals xs us -> r xs H Q ->
  wpAny (model X.prog X.w) X.A (call f us) (EP X pins σ Q) X.xe s
def Mw (X:Cx) (r:V -> Hp -> (Bool -> Hp -> Prop) -> Prop):Prop:=
 ∀ (pins:List (Addr × Obj)) (s:Shared) (σ:St) (H:Hp) (x:V) (v:Value) (Q:Bool -> Hp -> Prop),Inv X pins σ H s -> RelV x v -> r x H Q ->
  wpAny (model X.prog X.w) X.A (truthy v) (TP X pins σ Q) X.xe s
noncomputable def tOp (r:R2) (ta tb:TE):TE:=fun σ H Q=>ta σ H fun x H1=>tb σ H1 fun y H2=>r x y H2 Q
noncomputable def tUn (r:V -> Hp -> VK -> Prop) (ta:TE):TE:=fun σ H Q=>ta σ H fun x H1=>r x H1 Q
noncomputable def rI (C:Int -> Int -> Prop) (g:Int -> Int -> V):R2:=fun x y H Q=>∃ i j,x = .int i /\ y = .int j /\ C i j /\ Q (g i j) H
noncomputable def rI0 (g:Int -> Int -> V):R2:=fun x y H Q=>∃ i j,x = .int i /\ y = .int j /\ Q (g i j) H
noncomputable def rU (g:Int -> V):V -> Hp -> VK -> Prop:=fun x H Q=>∃ i,x = .int i /\ Q (g i) H
section
variable {X:Cx} {a b c:Expr} {ta tb tc:TE} {pos:Pos}
theorem IA (ha:PE X a ta) (hb:PE X b tb) {pins:List (Addr × Obj)} {s:Shared} {σ:St} {H:Hp} {R:V -> V -> Hp -> Prop} (I:Inv X pins σ H s)
  (h:ta σ H fun x H1=>tb σ H1 fun y H2=>R x y H2) {Q:Value -> Shared -> Prop} {f:Value -> Value -> Sem Value}
  (hf:∀ v u s2 x y H2,Inv X pins σ H2 s2 -> RelV x v -> RelV y u -> R x y H2 -> wpAny (model X.prog X.w) X.A (f v u) Q X.xe s2) :
  wpAny (model X.prog X.w) X.A (eval a X.env) (fun v s₁=>wpAny (model X.prog X.w) X.A (eval b X.env) (fun u s₂=>wpAny (model X.prog X.w) X.A (f v u) Q X.xe s₂) X.xe s₁) X.xe s:=by
 refine thn (ha pins s σ H _ I h) fun v s1 hpt9=>?_
 obtain ⟨x,H1,I1,r1,q1⟩:=hpt9
 refine thn (hb pins s1 σ H1 _ I1 q1) fun u s2 hpt9=>?_
 obtain ⟨y,H2,I2,r2,q2⟩:=hpt9
 exact hf v u s2 x y H2 I2 r1 r2 q2
theorem yJ   (ho:OpR X (binaryOp op) r) (ha:PE X a ta) (hb:PE X b tb):PE X (.BinOp a op b pos) (tOp r ta tb):=by
 intro pins s σ H Q I h
 exact wpAny_BinOp (IA ha hb I h fun v u s2 x y H2 I2 rx ry q=>ho pins s2 σ H2 x y v u Q I2 rx ry q)
theorem yK {op:UnaryOp} {r:V -> Hp -> VK -> Prop} (ho:UnR X (unaryOp op) r) (ha:PE X a ta):PE X (.UnaryOp op a pos) (tUn r ta):=by
 intro pins s σ H Q I h
 exact UnaryOp_ (thn (ha pins s σ H _ I h) fun v s1 ⟨x,H1,I1,r1,q1⟩=>ho pins s1 σ H1 x v Q I1 r1 q1)
theorem opI {f:Value -> Value -> Sem Value} {C:Int -> Int -> Prop} {g:Int -> Int -> Int}
  (rule:∀ (i j:Int) (t u:Tok) (s:Shared) (Q:Value -> Shared -> Prop) (E:Value -> Shared -> Prop),C i j -> Q (.int (g i j) s.toks) { s with toks:=s.toks + 1 } -> wpAny (model X.prog X.w) X.A (f (.int i t) (.int j u)) Q E s) :
  OpR X f (rI C fun i j=>.int (g i j)):=by
 intro pins s σ H x y v u Q I rx ry h
 obtain ⟨i,j,rfl,rfl,hc,q⟩:=h
 obtain ⟨t,rfl⟩:=rx
 obtain ⟨t',rfl⟩:=ry
 exact rule i j t t' s _ _ hc ⟨.int (g i j),H,I.tok _,⟨_,rfl⟩,q⟩
theorem K6 {f:Value -> Value -> Sem Value} {g:Int -> Int -> Int}
  (rule:∀ (i j:Int) (t u:Tok) (s:Shared) (Q:Value -> Shared -> Prop) (E:Value -> Shared -> Prop),Q (.int (g i j) s.toks) { s with toks:=s.toks + 1 } -> wpAny (model X.prog X.w) X.A (f (.int i t) (.int j u)) Q E s) :
  OpR X f (rI0 fun i j=>.int (g i j)):=by
 intro pins s σ H x y v u Q I rx ry h
 obtain ⟨i,j,rfl,rfl,q⟩:=h
 obtain ⟨t,rfl⟩:=rx
 obtain ⟨t',rfl⟩:=ry
 exact rule i j t t' s _ _ ⟨.int (g i j),H,I.tok _,⟨_,rfl⟩,q⟩
theorem Jj {f:Value -> Value -> Sem Value} {g:Int -> Int -> Bool}
  (rule:∀ (i j:Int) (t u:Tok) (s:Shared) (Q:Value -> Shared -> Prop) (E:Value -> Shared -> Prop),Q (.bool (g i j)) s -> wpAny (model X.prog X.w) X.A (f (.int i t) (.int j u)) Q E s) :
  OpR X f (rI0 fun i j=>.bl (g i j)):=by
 intro pins s σ H x y v u Q I rx ry h
 obtain ⟨i,j,rfl,rfl,q⟩:=h
 obtain ⟨t,rfl⟩:=rx
 obtain ⟨t',rfl⟩:=ry
 exact rule i j t t' s _ _ ⟨.bl (g i j),H,I,rfl,q⟩
def Kx (i j:Int):Prop:=0 < j /\ j < 1073741824
def Ib (i j:Int):Prop:=0 <= j /\ j <= 1000000 /\ i.natAbs < 2 ^ 64
def CMul (i j:Int):Prop:=(-(2 ^ 64) < i /\ i < 2 ^ 64) \/ (-(2 ^ 64) < j /\ j < 2 ^ 64)
theorem CMul.ok {i j:Int} (h:CMul i j):IntMulOk i j:=by
 rcases h with ⟨h1,h2⟩ | ⟨h1,h2⟩
 ·exact .of_left (intBits_le_64 h1 h2)
 ·exact .of_right (intBits_le_64 h1 h2)
theorem op_add:OpR X (binaryOp .Add) (rI0 fun i j=>.int (i + j)):=K6 fun _ _ _ _ _ _ _ q=>add_int q
theorem Jo:OpR X (binaryOp .Sub) (rI0 fun i j=>.int (i - j)):=K6 fun _ _ _ _ _ _ _ q=>sub_int q
theorem Jl:OpR X (binaryOp .Mult) (rI CMul fun i j=>.int (i * j)):=opI fun _ _ _ _ _ _ _ hc q=>mul_int q hc.ok
theorem GT:OpR X (binaryOp .FloorDiv) (rI Kx fun i j=>.int (i / j)):=opI fun i j _ _ _ _ _ hc q=>by
 have h1:(0:Int) < j:=hc.1
 have h2:j < 1073741824:=hc.2
 exact floordiv_int (by lia) (by rw [Int.fdiv_eq_ediv_of_nonneg i (by lia)];exact q) (.inl (PyProof.noPylong_small (by lia)))
theorem Jk:OpR X (binaryOp .Mod) (rI (fun _ j=>0 < j) fun i j=>.int (i % j)):=opI fun i j _ _ _ _ _ hc q=>by
 have h1:(0:Int) < j:=hc
 exact mod_int' (by lia) (by rw [Int.fmod_eq_emod_of_nonneg i (by lia)];exact q)
theorem Jn:OpR X (binaryOp .Pow) (rI Ib fun i j=>.int (i ^ j.toNat)):=opI fun _ _ _ _ _ _ _ hc q=>pow_int_small hc.1 hc.2.1 hc.2.2 q
theorem unI {f:Value -> Sem Value} {g:Int -> Int}
  (rule:∀ (i:Int) (t:Tok) (s:Shared) (Q:Value -> Shared -> Prop) (E:Value -> Shared -> Prop),Q (.int (g i) s.toks) { s with toks:=s.toks + 1 } -> wpAny (model X.prog X.w) X.A (f (.int i t)) Q E s) :
  UnR X f (rU fun i=>.int (g i)):=by
 intro pins s σ H x v Q I rx h
 obtain ⟨i,rfl,q⟩:=h
 obtain ⟨t,rfl⟩:=rx
 exact rule i t s _ _ ⟨.int (g i),H,I.tok _,⟨_,rfl⟩,q⟩
theorem uh:UnR X (unaryOp .USub) (rU fun i=>.int (-i)):=unI fun _ _ _ _ _ q=>neg_int q
end
section
variable {X:Cx} {a b c:Expr} {ta tb tc:TE} {pos:Pos}
theorem EY:OpR X (compareOp .Lt) (rI0 fun i j=>.bl (decide (i < j))):=Jj fun _ _ _ _ _ _ _ q=>lt_int q
theorem K8:OpR X (compareOp .LtE) (rI0 fun i j=>.bl (decide (i <= j))):=Jj fun _ _ _ _ _ _ _ q=>le_int q
theorem K7:OpR X (compareOp .Gt) (rI0 fun i j=>.bl (decide (j < i))):=Jj fun _ _ _ _ _ _ _ q=>gt_int q
theorem OpR.or   (h:OpR X f r) (h':OpR X f r'):OpR X f (fun x y H Q=>r x y H Q \/ r' x y H Q):=by
 intro pins s σ H x y v u Q I rx ry q
 rcases q with q | q
 ·exact h pins s σ H x y v u Q I rx ry q
 ·exact h' pins s σ H x y v u Q I rx ry q
theorem ET (b:Expr) {op:CmpOp} (h:op ≠ .In:=by decide) (h2:op ≠ .NotIn:=by decide):behindInMarks op b = false:=by
 have e1:(op == CmpOp.In) = false:=by cases op <;> first | rfl | exact absurd rfl h
 have e2:(op == CmpOp.NotIn) = false:=by cases op <;> first | rfl | exact absurd rfl h2
 cases b <;> simp [behindInMarks,e1,e2]
theorem GX   (ho:OpR X (compareOp op) r) (ha:PE X a ta) (hb:PE X b tb) (hm:behindInMarks op b = false):PE X (.Compare a [op] [b] pos) (tOp r ta tb):=by
 intro pins s σ H Q I h
 exact wpAny_Compare1 (IA ha hb I h fun v u s2 x y H2 I2 rx ry q=>ho pins s2 σ H2 x y v u Q I2 rx ry q) hm
noncomputable def BI (t:TE):TT:=fun σ H Q=>t σ H fun x H'=>∃ k,x = .bl k /\ Q k H'
theorem Ha {op:CmpOp} {r:R2} (ho:OpR X (compareOp op) r) (ha:PE X a ta) (hb:PE X b tb) (hm:behindInMarks op b = false):PT X (.Compare a [op] [b] pos) (BI (tOp r ta tb)):=by
 intro pins s σ H Q I h
 refine wpAny_isTrue_Compare1 (thn (ha pins s σ H _ I h) fun v s1 ⟨x,H1,I1,r1,q1⟩=>thn (hb pins s1 σ H1 _ I1 q1) fun u s2 ⟨y,H2,I2,r2,q2⟩=>
  thn (ho pins s2 σ H2 x y v u _ I2 r1 r2 q2) fun c s3 ⟨z,H3,I3,r3,k,e,q3⟩=>?_) hm
 subst e
 cases r3
 exact wpAny_truthy_bool ⟨H3,I3,q3⟩
def Gc (K:W.Frag) (x:V) (H:Hp) (k:Bool):Prop:=
 match x with
 | .non=>k = false
 | .bl b=>k = b
 | .int i=>k = (i != 0)
 | .str y=>y.length <= sizeLine /\ k = ((y.length:Int) != 0)
 | .byt y=>y.size <= sizeLine /\ k = ((y.size:Int) != 0)
 | .ref p=>(∃ xs,SqL K H p xs /\ k = !xs.isEmpty) \/ (∃ xs,SqT K H p xs /\ k = !xs.isEmpty) \/ ∃ kvs,H p = some (.dK kvs) /\ k = !kvs.isEmpty
 | _=>False
theorem zX {κ:Type} {kvs:List (κ × V)} {vs:List (κ × Value)} (r:KV kvs vs):(!vs.isEmpty) = !kvs.isEmpty:=by
 cases r <;> rfl
theorem sH {xs:List V} {its:List Value} (r:Vals xs its):(!its.toArray.isEmpty) = !xs.isEmpty:=by
 cases r <;> simp
theorem mG:(sizeLine:Nat) < 2 ^ 63:=by rw [sizeLine_eq];decide
theorem Kq:Mw X (fun x H Q=>∃ k,Gc X.K x H k /\ Q k H):=by
 intro pins s σ H x v Q I rx h
 obtain ⟨k,e,q⟩:=h
 have hl:=mG
 have hs:sizeLine = 16777216:=sizeLine_eq
 cases x with
 | non=>
  cases rx
  have e':k = false:=e
  subst e'
  exact truthy_none ⟨H,I,q⟩
 | bl b=>
  cases rx
  have e':k = b:=e
  subst e'
  exact wpAny_truthy_bool ⟨H,I,q⟩
 | int i=>
  obtain ⟨t,rfl⟩:=rx
  have e':k = (i != 0):=e
  subst e'
  exact PySem.P.truthy_int ⟨H,I,q⟩
 | str y=>
  obtain ⟨t,rfl⟩:=rx
  obtain ⟨hy,e'⟩:y.length <= sizeLine /\ k = ((y.length:Int) != 0):=e
  subst e'
  exact PySem.P.truthy_str (by lia) ⟨H,I.tok _,q⟩
 | byt y=>
  obtain ⟨t,rfl⟩:=rx
  obtain ⟨hy,e'⟩:y.size <= sizeLine /\ k = ((y.size:Int) != 0):=e
  subst e'
  exact W.truthy_bytes (by lia) ⟨H,I.tok _,q⟩
 | ref p=>
  cases rx
  have e':(∃ xs,SqL X.K H p xs /\ k = !xs.isEmpty) \/ (∃ xs,SqT X.K H p xs /\ k = !xs.isEmpty) \/ ∃ kvs,H p = some (.dK kvs) /\ k = !kvs.isEmpty:=e
  rcases e' with ⟨xs,hx,e'⟩ | ⟨xs,hx,e'⟩ | ⟨kvs,hx,e'⟩
  ·subst e'
   obtain ⟨its,r,pl,hz⟩:=I.list hx
   have hlen:=r.length
   exact wpAny_truthy_list pl.isList (by simp only [List.size_toArray];lia) ⟨H,I.tok _,by rw [sH r];exact q⟩
  ·subst e'
   obtain ⟨its,r,pl,hz⟩:=I.tuple hx
   have hlen:=r.length
   exact truthy_tuple pl (by simp only [List.size_toArray];lia) ⟨H,I.tok _,by rw [sH r];exact q⟩
  ·subst e'
   obtain ⟨hz,hS,vs,r,m⟩:kvs.length <= sizeLine /\ (p == sysModules) = false /\ ∃ vs,KV kvs vs /\ s.heap.DictOf (cF X.prog X.w) p vs:=I.hok p _ hx
   have hlen:kvs.length = vs.length:=Paired.length r
   exact wpAny_truthy_dict hS m (by lia) ⟨H,I.tok _,by rw [zX r];exact q⟩
 | _=>exact (show False from e).elim
theorem Fh (ha:PE X a ta) (he:∀ whole,isTrue a X.env whole = (do let v ← whole;standAt a.pos;holding [v] (truthy v))) :
  PT X a (fun σ H Q=>ta σ H fun x H'=>∃ k,Gc X.K x H' k /\ Q k H'):=by
 intro pins s σ H Q I h
 exact isTrue_plain (thn (ha pins s σ H _ I h) fun v s1 ⟨x,H1,I1,r1,q1⟩=>Kq pins s1 σ H1 x v Q I1 r1 q1) (he _)
theorem Ao:OpR X (binaryOp .Add) (fun x y H Q=>∃ i j,x = .str i /\ y = .str j /\ i.length + j.length <= sizeLine /\ Q (.str (i ++ j)) H):=by
 intro pins s σ H x y v u Q I rx ry h
 obtain ⟨i,j,rfl,rfl,hz,q⟩:=h
 obtain ⟨t,rfl⟩:=rx
 obtain ⟨t',rfl⟩:=ry
 exact add_str (fun t' tk=>⟨.str (i ++ j),H,I.tok _,⟨_,rfl⟩,q⟩) hz
theorem F2 {x:V}  (r:Vals [x] us):∃ u,us = [u] /\ RelV x u:=by
 cases r with
 | cons r1 r2=>cases r2;exact ⟨_,rfl,r1⟩
theorem Ia {x y:V}  (r:Vals [x,y] us):∃ u w',us = [u,w'] /\ RelV x u /\ RelV y w':=by
 cases r with
 | cons r1 r2=>
  cases r2 with
  | cons r3 r4=>cases r4;exact ⟨_,_,rfl,r1,r3⟩
theorem Cb (hc:X.calm = true):CallR X (.builtin "max") (fun xs H Q=>∃ i j,xs = [.int i,.int j] /\ Q (.int (if j > i then j else i)) H):=by
 intro pins s σ H xs us Q I r h
 obtain ⟨i,j,rfl,q⟩:=h
 obtain ⟨u,w',rfl,⟨t,rfl⟩,⟨t',rfl⟩⟩:=Ia r
 refine max_two_ints (I.ok.hd hc) fun h' tk k=>⟨_,H,I.kept k,?_,q⟩
 by_cases hj:j > i
 ·rw [if_pos hj,if_pos hj];exact ⟨_,rfl⟩
 ·rw [if_neg hj,if_neg hj];exact ⟨_,rfl⟩
theorem Cc (hc:X.calm = true):CallR X (.builtin "min") (fun xs H Q=>∃ i j,xs = [.int i,.int j] /\ Q (.int (if j < i then j else i)) H):=by
 intro pins s σ H xs us Q I r h
 obtain ⟨i,j,rfl,q⟩:=h
 obtain ⟨u,w',rfl,⟨t,rfl⟩,⟨t',rfl⟩⟩:=Ia r
 refine min_two_ints (I.ok.hd hc) fun h' tk k=>⟨_,H,I.kept k,?_,q⟩
 by_cases hj:j < i
 ·rw [if_pos hj,if_pos hj];exact ⟨_,rfl⟩
 ·rw [if_neg hj,if_neg hj];exact ⟨_,rfl⟩
def KB (K:W.Frag) (x:V) (H:Hp) (n:Nat):Prop:=
 match x with
 | .str y=>y.length <= sizeLine /\ n = y.length
 | .byt y=>y.size <= sizeLine /\ n = y.size
 | .ref p=>(∃ xs,SqL K H p xs /\ n = xs.length) \/ ∃ xs,SqT K H p xs /\ n = xs.length
 | _=>False
theorem DV:CallR X (.builtin "len") (fun xs H Q=>∃ x n,xs = [x] /\ KB X.K x H n /\ Q (.int n) H):=by
 intro pins s σ H xs us Q I r h
 obtain ⟨x,n,rfl,e,q⟩:=h
 obtain ⟨u,rfl,rx⟩:=F2 r
 have hl:=mG
 have hs:sizeLine = 16777216:=sizeLine_eq
 cases x with
 | str y=>
  obtain ⟨t,rfl⟩:=rx
  obtain ⟨hy,e'⟩:y.length <= sizeLine /\ n = y.length:=e
  subst e'
  exact len_str (by lia) ⟨.int _,H,I.tok _,⟨_,rfl⟩,q⟩
 | byt y=>
  obtain ⟨t,rfl⟩:=rx
  obtain ⟨hy,e'⟩:y.size <= sizeLine /\ n = y.size:=e
  subst e'
  exact W.len_bytes (by lia) ⟨.int _,H,I.tok _,⟨_,rfl⟩,q⟩
 | ref p=>
  cases rx
  have e':(∃ xs,SqL X.K H p xs /\ n = xs.length) \/ ∃ xs,SqT X.K H p xs /\ n = xs.length:=e
  rcases e' with ⟨xs,hx,e'⟩ | ⟨xs,hx,e'⟩
  ·subst e'
   obtain ⟨its,r',pl,hz⟩:=I.list hx
   have hlen:=r'.length
   exact Calls.call_len_list pl.isList (by simp only [List.size_toArray];lia) ⟨.int xs.length,H,I.tok _,⟨_,by simp only [List.size_toArray];rw [hlen]⟩,q⟩
  ·subst e'
   obtain ⟨its,r',pl,hz⟩:=I.tuple hx
   have hlen:=r'.length
   exact len_tuple pl (by simp only [List.size_toArray];lia) ⟨.int xs.length,H,I.tok _,⟨_,by simp only [List.size_toArray];rw [hlen]⟩,q⟩
 | _=>exact (show False from e).elim
end
structure ObjM (h:Heap) (x dx C:Addr) (mA:Str -> Option Value):Prop where
 obj:h.get? x = some (W.instObj C dx)
 ns:h.Ns1 dx mA
 ne:dx ≠ x
theorem CK {h:Heap} {dx:Addr} {mA:Str -> Option Value} (n:h.Ns1 dx mA):∃ od,h.get? dx = some od /\ ∀ name,W.lookIn name od = some (mA name):=by
 obtain ⟨o,es,ep,ho,hd,hk,_,hm⟩:=n
 refine ⟨o,ho,fun name=>?_⟩
 have e:=hm name
 unfold nsFind findBy at e
 rw [<- Array.find?_toList] at e
 unfold W.lookIn
 rw [hd]
 dsimp only
 split
 ·rename_i y q
  rw [q] at e
  exact congrArg some e
 ·rename_i q
  rw [q] at e
  have a:es.toList.any (·.refKey) = false:=by
   rw [List.any_eq_false]
   intro y hy
   obtain ⟨z,t,hkey⟩:=hk y (Array.mem_toList_iff.mp hy)
   simp [DictEntry.refKey,hkey]
  have a':¬ es.toList.any (·.refKey) = true:=by rw [a];exact Bool.false_ne_true
  rw [if_neg a']
  exact congrArg some e
theorem ObjM.look  {dx:Addr} {mA:Str -> Option Value} (I:ObjM h x dx C mA):∃ od,W.InstAt h x (W.instObj C dx) C (some od) /\ ∀ name,W.lookIn name od = some (mA name):=
 let ⟨od,ho,hl⟩:=CK I.ns
 ⟨od,⟨I.obj,rfl,rfl,ho⟩,hl⟩
section
variable {prog:Program} {w:World} {A:Around} {E:Value -> Shared -> Prop} {s:Shared} {K:W.Frag} {x dx C f:Addr} {mA:Str -> Option Value} {name:Str} {v:Value}
theorem GB {expr:Bool} {Q:Value -> Shared -> Prop} (X:K.In s.heap) (I:ObjM s.heap x dx C mA) (hg:W.plainGet K C name = true) (hh:W.hasDictIn K C = true)
  (ha:W.findIn K (.ref C) name = some none) (hv:mA name = some v) (hv':W.handedIn v = true) (h:Q v { s with toks:=s.toks + 1 }) :
  wpAny (model prog w) A (getAttr (.ref x) name expr) Q E s:=by
 obtain ⟨od,J,hl⟩:=I.look
 exact W.get_value X J (W.plainGet_of hg).1 (W.findObj_own hh ha rfl (by rw [hl,hv])) hv' h
theorem Ei  {Q:Value × List Value -> Shared -> Prop} (X:K.In s.heap) (I:ObjM s.heap x dx C mA) (hg:W.plainGet K C name = true)
  (hf:W.findIn K (.ref C) name = some (some (.ref f))) (ht:W.isFn K (.ref f) = true) (hv:mA name = none) (h:Q (.ref f,[.ref x]) s) :
  wpAny (model prog w) A (getMethod (.ref x) name pl) Q E s:=by
 obtain ⟨od,J,hl⟩:=I.look
 exact W.method_fn X J (W.plainGet_of hg).1 (W.plainGet_of hg).2 hf (beq_iff_eq.mp ht) (by show (W.lookIn name od).map (·.isSome) = some false;rw [hl,hv];rfl) h
theorem Hi  {Q:Unit -> Shared -> Prop} (X:K.In s.heap) (I:ObjM s.heap x dx C mA)
  (hs:W.findIn K (.ref C) "__setattr__" = some (some (.builtin "object.__setattr__"))) (hp:W.plainOver K C = true) (ht:W.takerIn K C name = some none) (hh:W.hasDictIn K C = true)
  (hw:PySem.Within mA ns) (hsz:ns.length <= sizeLine)
  (h:∀ h',ObjM h' x dx C (fun y=>if y = name then some v else mA y) -> Heap.SameBut dx s.heap h' -> Q () { s with heap:=h',toks:=s.toks + 2 }) :
  wpAny (model prog w) A (setAttr (.ref x) name v) Q E s:=by
 obtain ⟨od,J,hl⟩:=I.look
 refine W.set_plain X J hs (W.osa_open (s:={ s with toks:=s.toks + 1 }) (r:=none) X J hp ht fun b=>?_)
 obtain ⟨cd,hc,hd'⟩:=W.any_some hh
 have hx:s.heap.get? x = some ⟨.ref C,some dx,.plain,#[]⟩:=I.obj
 refine wpAny_bind (wpAny_pure (wpAny_bind (wpAny_bind (wpAny_loadPart hx (wpAny_bind (W.Looks.here (s:={ s with toks:=s.toks + 1 }) (W.looks_clsIn X hc) ?_))))))
 rw [hd']
 refine wpAny_pure (a:=some dx) (wpAny_bind (wpAny_pure (wpAny_bind ?_)))
 refine wpAny_nsSet1 (s:={ s with toks:=s.toks + 1 }) I.ns fun h' hn2 hs2=>?_
 obtain ⟨oD,esD,epD,hoD,hdD,hcD⟩:=hn2.count (PySem.Within.cons name v hw)
 refine wpAny_bind (wpAny_lookBehind hoD (by rw [hdD];exact pastItsLine_dict (Nat.le_trans hcD (by rw [List.length_cons];lia))) ?_)
 exact wpAny_pure (h _ ⟨(hs2.2 _ (Ne.symm I.ne)).trans I.obj,hn2,I.ne⟩ hs2)
theorem EG  {vs:List Value} {kw:List (Str × Value)} (X:K.In s.heap) (hm:W.makesIn K C = true)
  (hi:W.findIn K (.ref C) "__init__" = some (some (.ref f))) (hf:W.typeIn K (.ref f) = some (.type "function"))
  (h:codeAny (model prog w) (A.under (.builtin "type.__call__" ⟨.ref C :: vs,kw⟩)) (.call (.ref f) ⟨.ref (s.heap.objs.size + 1) :: vs,kw⟩) (W.InitBack (s.heap.objs.size + 1) R)
   { s with heap:=(s.heap.push W.emptyDict).push (W.instObj C s.heap.objs.size) }) :
  codeAny (model prog w) A (.call (.ref C) ⟨vs,kw⟩) R s:=by
 obtain ⟨hh,g,d,t,os⟩:=s
 exact W.make_core (W.makes_of X hm) (W.looks_findIn X hi) (fun self=>W.bind_fn X self hf) (.inl rfl) h
end
noncomputable def lr (f:Str) (v:V):List (Str × V) -> List (Str × V)
 | []=>[(f,v)]
 | (g,x) :: r=>if g = f then (g,v) :: r else (g,x) :: lr f v r
theorem qw (f g:Str) (v:V):∀ fs:List (Str × V),(lr f v fs).lookup g = if g = f then some v else fs.lookup g
 | []=>by
  show List.lookup g [(f,v)] = _
  by_cases h:g = f
  ·have hb:(g == f) = true:=beq_iff_eq.mpr h
   simp only [List.lookup,hb,if_pos h]
  ·have hb:(g == f) = false:=beq_eq_false_iff_ne.mpr h
   simp only [List.lookup,hb,if_neg h]
 | (k,x) :: r=>by
  have ih:=qw f g v r
  rw [show lr f v ((k,x) :: r) = (if k = f then (k,v) :: r else (k,x) :: lr f v r) from rfl]
  by_cases hk:k = f
  ·rw [if_pos hk]
   by_cases h:g = k
   ·have hb:(g == k) = true:=beq_iff_eq.mpr h
    simp only [List.lookup,hb,if_pos (h.trans hk)]
   ·have hb:(g == k) = false:=beq_eq_false_iff_ne.mpr h
    simp only [List.lookup,hb,if_neg (fun e:g = f=>h (e.trans hk.symm))]
  ·rw [if_neg hk]
   by_cases h:g = k
   ·have hb:(g == k) = true:=beq_iff_eq.mpr h
    simp only [List.lookup,hb,if_neg (fun e:g = f=>hk (h.symm.trans e))]
   ·have hb:(g == k) = false:=beq_eq_false_iff_ne.mpr h
    simp only [List.lookup,hb]
    exact ih
theorem pk (f:Str) (v:V):∀ fs:List (Str × V),f ∈ (lr f v fs).map (·.1) /\ ∀ g,g ∈ fs.map (·.1) -> g ∈ (lr f v fs).map (·.1)
 | []=>⟨by simp [lr],fun g h=>by simp at h⟩
 | (k,x) :: r=>by
  obtain ⟨i1,i2⟩:=pk f v r
  rw [show lr f v ((k,x) :: r) = (if k = f then (k,v) :: r else (k,x) :: lr f v r) from rfl]
  by_cases hk:k = f
  ·rw [if_pos hk]
   subst hk
   exact ⟨by simp,fun g h=>by simpa using h⟩
  ·rw [if_neg hk]
   refine ⟨?_,fun g h=>?_⟩
   ·rw [List.map_cons]
    exact List.mem_cons_of_mem _ i1
   ·rw [List.map_cons] at h ⊢
    rcases List.mem_cons.mp h with e | e
    ·exact List.mem_cons.mpr (.inl e)
    ·exact List.mem_cons_of_mem _ (i2 g e)
theorem qq (f:Str) (v:V):∀ fs:List (Str × V),(lr f v fs).length <= fs.length + 1
 | []=>by simp [lr]
 | (k,x) :: r=>by
  have ih:=qq f v r
  rw [show lr f v ((k,x) :: r) = (if k = f then (k,v) :: r else (k,x) :: lr f v r) from rfl]
  by_cases hk:k = f
  ·rw [if_pos hk,List.length_cons,List.length_cons];lia
  ·rw [if_neg hk,List.length_cons,List.length_cons];lia
theorem RelO.some_of {v:V}  (r:RelO (some v) o):∃ u,o = some u /\ RelV v u:=by
 cases o with
 | none=>exact (show False from r).elim
 | some u=>exact ⟨u,rfl,r⟩
theorem RelO.none_of  (r:RelO none o):o = none:=by
 cases o with
 | none=>rfl
 | some u=>exact (show False from r).elim
theorem Cu   (r:RelV v u):W.handedIn u = true:=by
 cases v with
 | non=>cases (show u = Value.none from r);rfl
 | bl b=>cases (show u = Value.bool b from r);rfl
 | int i=>obtain ⟨t,e⟩:=(show ∃ t,u = Value.int i t from r);cases e;rfl
 | str x=>obtain ⟨t,e⟩:=(show ∃ t,u = Value.str x t from r);cases e;rfl
 | byt b=>obtain ⟨t,e⟩:=(show ∃ t,u = Value.bytes b t from r);cases e;rfl
 | flt b=>obtain ⟨t,e⟩:=(show ∃ t,u = Value.float b t from r);cases e;rfl
 | ref a=>cases (show u = Value.ref a from r);rfl
 | ty n=>cases (show u = Value.type n from r);rfl
section
variable {P:Program} {w:World} {H H':Hp} {h h':Heap} {a C dx:Addr} {fs fs':List (Str × V)}
theorem rB (hok:HOk P w H h) (e:H a = some (.ins C dx fs)):∃ mA,ObjM h a dx C mA /\ (∀ f,RelO (fs.lookup f) (mA f)) /\ PySem.Within mA (fs.map (·.1)) /\ fs.length <= 1000 /\ H dx = some (.own a):=by
 obtain ⟨d,z,ne,ob,mA,n,r,q⟩:=(show ObjOk P w H h a (.ins C dx fs) from hok a _ e)
 exact ⟨mA,⟨ob,n,ne⟩,r,q,z,d⟩
end
structure Cls (K:W.Frag) (C:Addr):Prop where
 pg:W.plainGet K C Str.empty = true
 hd:W.hasDictIn K C = true
 po:W.plainOver K C = true
 sa:W.findIn K (.ref C) "__setattr__" = some (some (.builtin "object.__setattr__"))
theorem Cls.get {K:W.Frag} {C:Addr} (c:Cls K C) (f:Str):W.plainGet K C f = true:=c.pg
def NoAttr (K:W.Frag) (C:Addr) (f:Str):Prop:=W.findIn K (.ref C) f = some none
theorem NoAttr.taker {K:W.Frag} {C:Addr} {f:Str} (n:NoAttr K C f):W.takerIn K C f = some none:=by
 unfold W.takerIn
 rw [show W.findIn K (.ref C) f = some none from n]
 rfl
structure Meth (K:W.Frag) (C:Addr) (m:Str) (f:Addr):Prop where
 at_:W.findIn K (.ref C) m = some (some (.ref f))
 fn:W.isFn K (.ref f) = true
 kp:W.keepIn K (.ref f) = true
section
variable {X:Cx} {pins:List (Addr × Obj)} {σ:St} {H:Hp} {s:Shared} {a C dx:Addr} {fs:List (Str × V)} {f:Str} {v:V} {A:Around} {E:Value -> Shared -> Prop}
theorem zU {b:Bool} {Q:Value -> Shared -> Prop} (I:Inv X pins σ H s) (e:H a = some (.ins C dx fs)) (c:Cls X.K C) (n:NoAttr X.K C f) (l:fs.lookup f = some v)
  (h:∀ u s',Inv X pins σ H s' -> RelV v u -> Q u s'):wpAny (model X.prog X.w) A (getAttr (.ref a) f b) Q E s:=by
 obtain ⟨mA,O,r,_,_,_⟩:=rB I.hok e
 obtain ⟨u,hu,ru⟩:=RelO.some_of (v:=v) (o:=mA f) (by rw [<- l];exact r f)
 exact GB I.kIn O (c.get f) c.hd n hu (Cu ru) (h u _ (I.tok _) ru)
theorem zV    {Q:Value × List Value -> Shared -> Prop} (I:Inv X pins σ H s) (e:H a = some (.ins C dx fs)) (c:Cls X.K C) (k:Meth X.K C m g) (l:fs.lookup m = none)
  (h:Q (.ref g,[.ref a]) s):wpAny (model X.prog X.w) A (getMethod (.ref a) m pl) Q E s:=by
 obtain ⟨mA,O,r,_,_,_⟩:=rB I.hok e
 have hn:mA m = none:=RelO.none_of (by rw [<- l];exact r m)
 exact Ei I.kIn O (c.get m) k.at_ k.fn hn h
theorem AB   {Q:Unit -> Shared -> Prop} (I:Inv X pins σ H s) (e:H a = some (.ins C dx fs)) (c:Cls X.K C) (n:NoAttr X.K C f) (hl:fs.length < 1000) (ry:RelV y u)
  (h:∀ s',Inv X pins σ (upd H a (.ins C dx (lr f y fs))) s' -> Q () s'):wpAny (model X.prog X.w) A (setAttr (.ref a) f u) Q E s:=by
 obtain ⟨mA,O,r,wi,_,ho⟩:=rB I.hok e
 have hz:(fs.map (·.1)).length <= sizeLine:=by rw [List.length_map,sizeLine_eq];lia
 refine Hi I.kIn O c.sa c.po n.taker c.hd wi hz fun h' O' sb=>h _ ?_
 have hd:∃ o,h'.get? dx = some o:=let ⟨o,_,_,e',_⟩:=O'.ns;⟨o,e'⟩
 refine I.write (x:=a) (e:=dx) (by rw [e];exact True.intro) (.inr ho) (fun b q hb z=>(sb.2 b hb).trans z) hd ?_
 refine ⟨by rw [aF O.ne];exact ho,?_,O.ne,O'.obj,_,O'.ns,fun g=>?_,fun g hg=>?_⟩
 ·have:=qq f y fs;lia
 ·show RelO ((lr f y fs).lookup g) (if g = f then some u else mA g)
  rw [qw]
  by_cases q:g = f
  ·rw [if_pos q,if_pos q];exact ry
  ·rw [if_neg q,if_neg q];exact r g
 ·by_cases q:g = f
  ·rw [q];exact (pk f y fs).1
  ·refine (pk f y fs).2 g (wi g fun z=>hg ?_)
   show (if g = f then some u else mA g) = none
   rw [if_neg q];exact z
theorem Inv.made (I:Inv X pins σ H s):Inv X pins σ (upd (upd H s.heap.objs.size (.own (s.heap.objs.size + 1))) (s.heap.objs.size + 1) (.ins C s.heap.objs.size []))
  { s with heap:=(s.heap.push W.emptyDict).push (W.instObj C s.heap.objs.size) }:=by
 have e1:(s.heap.push W.emptyDict).get? s.heap.objs.size = some W.emptyDict:=Heap.get?_push_size s.heap rfl
 have e2:((s.heap.push W.emptyDict).push (W.instObj C s.heap.objs.size)).get? (s.heap.objs.size + 1) = some (W.instObj C s.heap.objs.size):=by
  have:=Heap.get?_push_size (s.heap.push W.emptyDict) (o:=W.instObj C s.heap.objs.size) rfl
  rwa [Heap.size_push] at this
 have e3:(s.heap.push W.emptyDict).Ns s.heap.objs.size (fun _=>none):=⟨W.emptyDict,#[],_,e1,rfl,(fun e he=>absurd he (by simp)),fun _=>rfl⟩
 have I1:=I.laid (a:=s.heap.objs.size) (o:=.own (s.heap.objs.size + 1)) (h':=s.heap.push W.emptyDict) (t':=s.toks) (fun b u q=>Heap.get?_push_of_some _ q) (Nat.le_refl _) ⟨_,e1⟩
 refine I1.laid (a:=s.heap.objs.size + 1) (o:=.ins C s.heap.objs.size []) (t':=s.toks) (fun b u q=>Heap.get?_push_of_some _ q) (Nat.le_of_eq (Heap.size_push _ _)) ?_
 have ne:s.heap.objs.size ≠ s.heap.objs.size + 1:=Nat.ne_of_lt (Nat.lt_succ_self _)
 refine ⟨by rw [aF ne,aB],Nat.zero_le _,ne,e2,fun _=>none,(Heap.Ns1.of_empty e3).at fun o q=>Heap.get?_push_of_some _ q,fun _=>True.intro,fun y hy=>absurd rfl hy⟩
theorem Gg {prog:Program}     {pos:Pos}   (hb:attributeBase e f env (eval e env) = eval e env)
  (h:wpAny (model prog w) A (eval e env) (fun o s₁=>wpAny (model prog w) A (getAttr o f true) Q E s₁) E s):wpAny (model prog w) A (eval (.Attribute e f pos) env) Q E s:=
 Attribute_any_ h (by rw [arm_eval_Attribute,hb])
end
noncomputable def LG (K:W.Frag) (ta tv:TE) (f:Str):TS:=fun D σ H=>tv σ H fun y H1=>ta σ H1 fun x H2=>∃ a C dx fs,x = .ref a /\ H2 a = some (.ins C dx fs) /\ Cls K C /\ NoAttr K C f /\ fs.length < 1000 /\
 D.nx σ (upd H2 a (.ins C dx (lr f y fs)))
section
variable {X:Cx} {o e value:Expr} {f:Str} {pos pos' tpos:Pos} {ta tv:TE}
theorem JD (ha:PE X o ta) (hv:PE X value tv) (hs:swapsWith value (some (.Attribute o f pos')) pos.line X.env = pure false):PS X (.Assign [.Attribute o f pos'] value pos) (LG X.K ta tv f):=by
 intro pins s σ H D I h
 refine plainObj_wpAny_Assign_Attribute (thn (hv pins s σ H _ I h) fun u s1 ⟨y,H1,I1,ry,q⟩=>thn (ha pins s1 σ H1 _ I1 q) fun ov s2 hpt9=>?_) hs
 obtain ⟨x,H2,I2,rx,a,C,dx,fs,ex,ea,c,n,l,q2⟩:=hpt9
 subst ex
 obtain rfl:ov = Value.ref a:=rx
 exact AB I2 ea c n l ry fun s3 I3=>⟨σ,_,I3,q2⟩
end
section
variable {X:Cx} {pins:List (Addr × Obj)} {σ:St} {H:Hp} {s:Shared} {A:Around} {E:Value -> Shared -> Prop} {Q:Value -> Shared -> Prop} {c:Value} {b:Bool}
inductive TyOf (K:W.Frag) (H:Hp):V -> Value -> Prop where
 | non:TyOf K H .non (.type "NoneType")
 | bl (x:Bool):TyOf K H (.bl x) (.type "bool")
 | int (i:Int):TyOf K H (.int i) (.type "int")
 | str (x:Str):TyOf K H (.str x) (.type "str")
 | flt (x:UInt64):TyOf K H (.flt x) (.type "float")
 | lst {a:Addr} {xs:List V} (e:H a = some (.lst xs)):TyOf K H (.ref a) (.type "list")
 | frz {a:Addr} {o:Obj} {xs:List V} (e:H a = some (.frz o (.lst xs))):TyOf K H (.ref a) (.type "list")
 | tup {a:Addr} {xs:List V} (e:H a = some (.tup xs)):TyOf K H (.ref a) (.type "tuple")
 | dK {a:Addr} {kvs:List (Key × V)} (e:H a = some (.dK kvs)):TyOf K H (.ref a) (.type "dict")
 | dT {a:Addr} {kvs:List (List Key × V)} (e:H a = some (.dT kvs)):TyOf K H (.ref a) (.type "dict")
 | ins {a C dx:Addr} {fs:List (Str × V)} (e:H a = some (.ins C dx fs)) (cl:Cls K C) (ha:W.findIn K (.ref C) "__class__" = some (some (.builtin "object.__class__")))
   (hn:W.specialIn K (.builtin "object.__class__") "__get__" = some (some (.builtin "getset_descriptor.__get__"))) (htk:W.takesIn K (.builtin "object.__class__") = some true)
   (hm:W.mroIn K C (.type "object") = some true):TyOf K H (.ref a) (.ref C)
theorem i6   (I:Inv X pins σ H s) (rx:RelV x u) (ty:TyOf X.K H x t) (e:W.kitOne X.K t c = some b) (h:∀ tk,Q (.bool b) { s with toks:=tk }) :
  wpAny (model X.prog X.w) A (call (.builtin "isinstance") [u,c]) Q E s:=by
 cases ty with
 | non=>cases (show u = Value.none from rx);exact W.kia_one W.kitx_none I.kIn True.intro e (fun z=>nomatch z) h
 | bl y=>cases (show u = Value.bool y from rx);exact W.kia_one W.kitx_bool I.kIn True.intro e (fun z=>nomatch z) h
 | int i=>obtain ⟨t,q⟩:=(show ∃ t,u = Value.int i t from rx);cases q;exact W.kia_one W.kitx_int I.kIn True.intro e (fun z=>nomatch z) h
 | str y=>obtain ⟨t,q⟩:=(show ∃ t,u = Value.str y t from rx);cases q;exact W.kia_one W.kitx_str I.kIn True.intro e (fun z=>nomatch z) h
 | flt y=>obtain ⟨t,q⟩:=(show ∃ t,u = Value.float y t from rx);cases q;exact W.kia_one W.kitx_float I.kIn True.intro e (fun z=>nomatch z) h
 | @lst a xs ea=>
  cases (show u = Value.ref a from rx)
  obtain ⟨_,_,n,_,h1⟩:=(show ObjOk X.prog X.w H s.heap a (.lst xs) from I.hok a _ ea)
  exact W.kia_one W.kitx_list I.kIn ⟨_,h1,rfl⟩ e (fun z=>nomatch z) h
 | @frz a ob xs ea=>
  cases (show u = Value.ref a from rx)
  obtain ⟨_,_,_,n,_,h1⟩:=(show ObjOk X.prog X.w H s.heap a (.frz ob (.lst xs)) from I.hok a _ ea)
  exact W.kia_one W.kitx_list I.kIn ⟨_,h1,rfl⟩ e (fun z=>nomatch z) h
 | @tup a xs ea=>
  cases (show u = Value.ref a from rx)
  obtain ⟨_,_,_,p⟩:=(show ObjOk X.prog X.w H s.heap a (.tup xs) from I.hok a _ ea)
  obtain ⟨o,h1,h2,_⟩:=p
  exact W.kia_one W.kitx_tuple I.kIn ⟨o,h1,h2⟩ e (fun z=>nomatch z) h
 | @dK a kvs ea=>
  cases (show u = Value.ref a from rx)
  obtain ⟨_,_,vs,_,p⟩:=(show ObjOk X.prog X.w H s.heap a (.dK kvs) from I.hok a _ ea)
  obtain ⟨o,es,ep,h1,h2,_⟩:=p
  exact W.kia_one W.kitx_dict I.kIn ⟨o,h1,h2.1⟩ e (fun z=>nomatch z) h
 | @dT a kvs ea=>
  cases (show u = Value.ref a from rx)
  obtain ⟨_,_,xs,_,o,es,ep,h1,h2,_⟩:=(show ObjOk X.prog X.w H s.heap a (.dT kvs) from I.hok a _ ea)
  exact W.kia_one W.kitx_dict I.kIn ⟨o,h1,h2.1⟩ e (fun z=>nomatch z) h
 | @ins a C dx fs ea cl ha hn htk hm=>
  cases (show u = Value.ref a from rx)
  obtain ⟨mA,O,_⟩:=rB I.hok ea
  obtain ⟨od,J,_⟩:=O.look
  exact W.kia_one (W.kitx_own (cl.get _) cl.hd ha hn htk hm) I.kIn J e (fun z=>nomatch z) h
end
structure Room (k:Nat) (A:Around):Prop where
 hd:A.handled = none
 dp:A.depth + 3 * k + 5 < recursionLimit
 un:A.units + 16 * k + 200 < cLine
theorem Room.mono {j k:Nat}  (r:Room k A) (h:j <= k):Room j A:=⟨r.hd,by have:=r.dp;lia,by have:=r.un;lia⟩
theorem Room.deeper {k:Nat}  (r:Room (k + 1) A) (env:Env):Room k (A.deeper env):=
 ⟨r.hd,by have:=r.dp;show A.depth + 1 + 3 * k + 5 < _;lia,by have:=r.un;show A.units + 3 + 16 * k + 200 < _;lia⟩
theorem Ae {A:Around} {C:Addr} {us:List Value} {kw:List (Str × Value)}:(A.under (.builtin "type.__call__" ⟨.ref C :: us,kw⟩)).depth = A.depth + 1:=by
 first | rfl | simp [Around.under,Code.weight,Code.isCreation,Code.isGuard,Code.isCaller,Code.frames,Code.isFrame,guardIds]
theorem Af {A:Around} {C:Addr} {us:List Value} {kw:List (Str × Value)}:(A.under (.builtin "type.__call__" ⟨.ref C :: us,kw⟩)).units = A.units + 1:=by
 first | rfl | simp [Around.under,Code.cUnits,Code.frames,Code.isFrame]
theorem Room.make {k:Nat}  (r:Room (k + 1) A) (C:Addr) (us:List Value) (kw:List (Str × Value)):Room k (A.under (.builtin "type.__call__" ⟨.ref C :: us,kw⟩)):=
 ⟨r.hd,by have:=r.dp;rw [Ae];lia,by have:=r.un;rw [Af];lia⟩
theorem Room.depth {k:Nat}  (r:Room k A):A.depth < recursionLimit:=by have:=r.dp;lia
theorem Room.units {k:Nat}  (r:Room k A):A.units + 64 < cLine:=by have:=r.un;lia
noncomputable def oM:TA:=fun _ H Q=>Q [] H
noncomputable def fh (ta:TE) (tr:TA):TA:=fun σ H Q=>ta σ H fun x H1=>tr σ H1 fun xs H2=>Q (x :: xs) H2
section
variable {X:Cx} {e:Expr} {es:List Expr} {te:TE} {t:TA} {pos:Pos}
theorem aM:PA X [] oM:=fun _ _ _ _ H Q I h=>Calls.spliced_nil ⟨[],H,I,.nil,h⟩
theorem ap (ha:PE X e te) (hr:PA X es t) (hs:starEach (e :: es) X.env = (false,eval e X.env) :: starEach es X.env:=by rfl):PA X (e :: es) (fh te t):=by
 intro pos pins s σ H Q I h
 rw [hs]
 show wpAny _ _ (spliced ((false,eval e X.env) :: backTo pos (starEach es X.env))) _ _ s
 refine Calls.spliced_cons (thn (ha pins s σ H _ I h) fun u s1 hpt9=>?_)
 obtain ⟨x,H1,I1,r1,q1⟩:=hpt9
 exact thn (hr pos pins s1 σ H1 _ I1 q1) fun us s2 ⟨xs,H2,I2,r2,q2⟩=>⟨x :: xs,H2,I2,.cons r1 r2,q2⟩
noncomputable def Hy (t:TA):TE:=fun σ H Q=>t σ H fun xs H1=>xs.length <= sizeLine /\ ∀ p,H1 p = none -> Q (.ref p) (upd H1 p (.tup xs))
noncomputable def Hw (t:TA):TE:=fun σ H Q=>t σ H fun xs H1=>xs.length <= sizeLine /\ ∀ p,H1 p = none -> Q (.ref p) (upd H1 p (.lst xs))
theorem iL {x1} (h:PA X es t):PE X (.Tuple es x1 pos) (Hy t):=by
 intro pins s σ H Q I hq
 refine wpAny_Tuple_spliced (thn (h pos pins s σ H _ I hq) fun us s1 ⟨xs,H1,I1,r,z,q⟩=>⟨by rw [<- r.length];exact z,?_⟩)
 have hf:H1 s1.heap.objs.size = none:=I1.hok.fresh (Nat.le_refl _)
 refine ⟨.ref s1.heap.objs.size,upd H1 s1.heap.objs.size (.tup xs),I1.laid (t':=s1.toks) (fun b u e=>Heap.get?_push_of_some _ e) (Nat.le_refl _) ?_,rfl,q _ hf⟩
 exact ⟨z,us,r,TupN.new _ _⟩
theorem Js (h:PA X es t):PE X (.List es pos) (Hw t):=by
 intro pins s σ H Q I hq
 refine wpAny_List_spliced (thn (h pos pins s σ H _ I hq) fun us s1 ⟨xs,H1,I1,r,z,q⟩=>⟨by rw [<- r.length];exact z,?_⟩)
 have hf:H1 s1.heap.objs.size = none:=I1.hok.fresh (Nat.le_refl _)
 refine ⟨.ref s1.heap.objs.size,upd H1 s1.heap.objs.size (.lst xs),I1.laid (t':=s1.toks) (fun b u e=>Heap.get?_push_of_some _ e) (Nat.le_refl _) ?_,rfl,q _ hf⟩
 exact ⟨z,us,0,r,Heap.get?_push_size _ rfl⟩
end
noncomputable abbrev Sp:=List V -> Hp -> VK -> XK -> Prop
noncomputable abbrev CXT:=List Env -> Hp -> Shared -> XK -> Value -> Shared -> Prop
structure Env0 (P:Program) (w:World) (K:W.Frag) (mg:Str -> Option Value) (base:Heap) (A:Around) (outer:List Env) (s:Shared) (H:Hp):Prop where
 frames:A.frames = some outer
 mod:Mod K mg base
 bs:∀ b o,base.get? b = some o -> s.heap.get? b = some o /\ H b = none
 bsz:base.objs.size <= s.heap.objs.size
 funs:s.heap.FunFrames base outer
 frf:∀ b ∈ frs outer,H b = none
 hok:HOk P w H s.heap
 bare:AllBare s.gens
def CE (outer:List Env) (P:Program) (w:World) (H:Hp) (s:Shared) (Q:VK) (u:Value) (s':Shared):Prop:=
 ∃ v H',s'.os = s.os /\ AllBare s'.gens /\ Un (frs outer) [] H H' s.heap s'.heap /\ HOk P w H' s'.heap /\ RelV v u /\ Q v H'
def CR (CX:CXT) (outer:List Env) (P:Program) (w:World) (H:Hp) (s:Shared) (Q:VK) (E:XK) (r:Result) (s':Shared):Prop:=
 match r with
 | .ok (.ret u)=>CE outer P w H s Q u s'
 | .ok _=>False
 | .error e=>CX outer H s E e s'
structure FnOk (P:Program) (w:World) (K:W.Frag) (mg:Str -> Option Value) (base:Heap) (CX:CXT) (k:Nat) (f:Addr) (fd:FuncData) (ps:List Str) (sp:Sp):Prop where
 len:∀ vs H Q E,sp vs H Q E -> vs.length = ps.length
 run:∀ (A:Around) (outer:List Env) (s:Shared) (H:Hp) (args:Args) (us:List Value) (vs:List V) (Q:VK) (E:XK),Room k A -> Env0 P w K mg base A outer s H -> BindsTo s fd args (ps.zip us) -> Vals vs us -> sp vs H Q E ->
  codeAny (model P w) A (.call (.ref f) args) (CR CX outer P w H s Q E) s
theorem Env0.make {P:Program} {w:World} {K:W.Frag} {mg:Str -> Option Value} {base:Heap} {A:Around} {outer:List Env} {s:Shared} {H:Hp} (e:Env0 P w K mg base A outer s H) (C:Addr) (us:List Value) (kw:List (Str × Value)) :
  Env0 P w K mg base (A.under (.builtin "type.__call__" ⟨.ref C :: us,kw⟩)) outer s H:=⟨by first | exact e.frames | (simpa [Around.under,Code.envs,Code.isFrame,pushEnvs] using e.frames),e.mod,e.bs,e.bsz,e.funs,e.frf,e.hok,e.bare⟩
section
variable {X:Cx} {pins:List (Addr × Obj)} {σ:St} {H:Hp} {s s':Shared}
theorem Inv.env0 (I:Inv X pins σ H s):Env0 X.prog X.w X.K X.mg X.base X.A X.stack s H:=
 ⟨I.ok.frames,I.ok.mod,I.bs,Nat.le_trans I.ok.bsz I.sz,I.stack,I.stkFree,I.hok,I.bare⟩
theorem Inv.after   (I:Inv X pins σ H s) (h:CE X.stack X.prog X.w H s Q u s'):EP X pins σ Q u s':=by
 obtain ⟨v,H',os,bare,un,hok,r,q⟩:=h
 obtain ⟨hh,g,d,t,os'⟩:=s'
 obtain rfl:os' = s.os:=os
 exact ⟨v,H',I.call (h':=hh) (g':=g) (d':=d) (t':=t) (ch:=[]) un hok bare (fun b z=>absurd z (by simp)),r,q⟩
end
noncomputable def oJ (sp:Sp) (dvs:List V) (E:XK) (t:TA):TE:=fun σ H Q=>t σ H fun vs H1=>sp (vs ++ dvs) H1 Q E
noncomputable def H9 (C:Addr) (sp:Sp) (dvs:List V) (E:XK) (t:TA):TE:=fun σ H Q=>t σ H fun vs H1=>∀ x dx,H1 x = none -> H1 dx = none -> dx ≠ x ->
 sp (.ref x :: (vs ++ dvs)) (upd (upd H1 dx (.own x)) x (.ins C dx [])) (fun v H2=>v = .non /\ Q (.ref x) H2) E
def Binds (K:W.Frag) (fd:FuncData) (ps:List Str) (ds:List Value):Prop:=
 ∀ (s:Shared) (us:List Value),K.In s.heap -> (us ++ ds).length = ps.length -> BindsTo s fd ⟨us,[]⟩ (ps.zip (us ++ ds))
theorem Binds.all {K:W.Frag} {fd:FuncData} {ps:List Str} (h:∀ us:List Value,us.length = ps.length -> bindArgs fd ⟨us,[]⟩ = pure (ps.zip us)):Binds K fd ps []:=fun s us _ hl=>by
 rw [List.append_nil] at hl ⊢
 exact .of_eq (h us hl)
def jU (CX:CXT) (X:Cx) (E:XK):Prop:=∀ (pins:List (Addr × Obj)) (σ:St) (H:Hp) (s:Shared) (e:Value) (s':Shared),Inv X pins σ H s -> CX X.stack H s E e s' -> X.xe e s'
section
variable {X:Cx} {CX:CXT} {k:Nat} {f C:Addr} {fd:FuncData} {ps:List Str} {sp:Sp} {dvs:List V} {ds:List Value} {E:XK} {x m:Str} {p pos apos:Pos} {e o:Expr} {es:List Expr} {ta:TE} {t:TA}
theorem Az {pins:List (Addr × Obj)}       (F:FnOk X.prog X.w X.K X.mg X.base CX k f fd ps sp) (hr:Room k X.A) (hb:Binds X.K fd ps ds) (hd:Vals dvs ds) (hx:jU CX X E)
  (I:Inv X pins σ H s) (r:Vals vs us) (h:sp (vs ++ dvs) H Q E):wpAny (model X.prog X.w) X.A (call (.ref f) us) (EP X pins σ Q) X.xe s:=by
 have r2:Vals (vs ++ dvs) (us ++ ds):=r.append hd
 have hl:(us ++ ds).length = ps.length:=by rw [<- r2.length];exact F.len _ _ _ _ h
 refine wpAny_call (codeAny_mono (F.run X.A X.stack s H ⟨us,[]⟩ (us ++ ds) (vs ++ dvs) Q E hr I.env0 (hb s us I.kIn hl) r2 h) fun r s' hq=>?_)
 cases r with
 | error e=>exact hx pins σ H s e s' I hq
 | ok fl=>
  cases fl with
  | ret u=>exact I.after hq
  | next=>exact False.elim hq
  | brk=>exact False.elim hq
  | cont=>exact False.elim hq
theorem GW (F:FnOk X.prog X.w X.K X.mg X.base CX k f fd ps sp) (hr:Room k X.A) (hg:Gl X x) (hm:X.mg x = some (.ref f)) (hk:W.keepIn X.K (.ref f) = true) (hb:Binds X.K fd ps ds) (hd:Vals dvs ds) (hx:jU CX X E)
  (ha:PA X (e :: es) t) (hdb:(x == ("__debug__" : Str)) = false:=by decide) (he:starEach (e :: es) X.env = (false,eval e X.env) :: starEach es X.env:=by rfl) (hpl:(backTo pos (starEach es X.env)).any (·.1) = false:=by rfl) :
  PE X (.Call (.Name x p) (e :: es) [] pos) (oJ sp dvs E t):=by
 intro pins s σ H Q I h
 refine wpAny_Call_Name_kw (wB I hg hm ?_ hdb)
 refine W.callWith_K (h₀:=X.base) I.ok.mod.kin hk (thn (ha pos pins s σ H _ I h) fun us s1 ⟨vs,H1,I1,r,q⟩=>⟨I1.kIn,?_⟩) he hpl
 exact Az F hr hb hd hx I1 r q
structure Mk (K:W.Frag) (C f:Addr):Prop where
 makes:W.makesIn K C = true
 init:W.findIn K (.ref C) "__init__" = some (some (.ref f))
 fn:W.isFn K (.ref f) = true
 kp:W.keepIn K (.ref C) = true
theorem FA {pins:List (Addr × Obj)}    {Q:VK}   (M:Mk X.K C f) (F:FnOk X.prog X.w X.K X.mg X.base CX k f fd ps sp) (hr:Room (k + 1) X.A) (hb:Binds X.K fd ps ds) (hd:Vals dvs ds)
  (hx:jU CX X E) (I:Inv X pins σ H s) (r:Vals vs us)
  (h:∀ x dx,H x = none -> H dx = none -> dx ≠ x -> sp (.ref x :: (vs ++ dvs)) (upd (upd H dx (.own x)) x (.ins C dx [])) (fun v H2=>v = .non /\ Q (.ref x) H2) E) :
  wpAny (model X.prog X.w) X.A (call (.ref C) us) (EP X pins σ Q) X.xe s:=by
 have hq:=h (s.heap.objs.size + 1) s.heap.objs.size (I.hok.fresh (Nat.le_succ _)) (I.hok.fresh (Nat.le_refl _)) (Nat.ne_of_lt (Nat.lt_succ_self _))
 have I2:=Inv.made (C:=C) I
 have r2:Vals (V.ref (s.heap.objs.size + 1) :: (vs ++ dvs)) (Value.ref (s.heap.objs.size + 1) :: (us ++ ds)):=.cons rfl (r.append hd)
 have hl:(Value.ref (s.heap.objs.size + 1) :: us ++ ds).length = ps.length:=by
  have e:=r2.length
  rw [F.len _ _ _ _ hq] at e
  exact e.symm
 refine wpAny_call (EG (f:=f) I.kIn M.makes M.init (beq_iff_eq.mp M.fn) (codeAny_mono (F.run _ X.stack _ _ ⟨Value.ref (s.heap.objs.size + 1) :: us,[]⟩ (Value.ref (s.heap.objs.size + 1) :: (us ++ ds)) _ _ E (hr.make C us [])
  (I2.env0.make C us []) (hb _ (Value.ref (s.heap.objs.size + 1) :: us) I2.kIn hl) r2 hq) fun r s' hq'=>?_))
 cases r with
 | error e=>exact hx pins σ _ _ e s' I2 hq'
 | ok fl=>
  cases fl with
  | ret u=>
   obtain ⟨v,H',I3,rv,ev,q3⟩:=I2.after hq'
   subst ev
   exact ⟨rv,⟨V.ref (s.heap.objs.size + 1),H',I3,rfl,q3⟩⟩
  | next=>exact False.elim hq'
  | brk=>exact False.elim hq'
  | cont=>exact False.elim hq'
theorem G3 (M:Mk X.K C f) (F:FnOk X.prog X.w X.K X.mg X.base CX k f fd ps sp) (hr:Room (k + 1) X.A) (hg:Gl X x) (hm:X.mg x = some (.ref C)) (hb:Binds X.K fd ps ds) (hd:Vals dvs ds) (hx:jU CX X E)
  (ha:PA X (e :: es) t) (hdb:(x == ("__debug__" : Str)) = false:=by decide) (he:starEach (e :: es) X.env = (false,eval e X.env) :: starEach es X.env:=by rfl) (hpl:(backTo pos (starEach es X.env)).any (·.1) = false:=by rfl) :
  PE X (.Call (.Name x p) (e :: es) [] pos) (H9 C sp dvs E t):=by
 intro pins s σ H Q I h
 refine wpAny_Call_Name_kw (wB I hg hm ?_ hdb)
 refine W.callWith_K (h₀:=X.base) I.ok.mod.kin M.kp (thn (ha pos pins s σ H _ I h) fun us s1 ⟨vs,H1,I1,r,q⟩=>⟨I1.kIn,?_⟩) he hpl
 exact FA M F hr hb hd hx I1 r q
end
section
variable {X:Cx} {CX:CXT} {k:Nat} {f C:Addr} {fd:FuncData} {ps ks:List Str} {sp:Sp} {E:XK} {x m:Str} {p pos apos kpos:Pos} {e o:Expr} {es:List Expr} {kws:List Keyword} {te ta:TE} {t tk:TA} {nm:Option Str}
variable {g:List Value -> List Value -> List Value} {gV:List V -> List V -> List V}
end
structure FnScope (N P:List Str) (sc:Scope):Prop where
 kind:sc.kind = .function
 co:sc.isCoroutine = false
 gen:sc.isGenerator = false
 nd:N.Nodup
 pre:N.take P.length = P
 par:∀ x ∈ P,sc.names.lookup x = some .local \/ sc.names.lookup x = some .cell
 nofree:∀ y ∈ sc.names,y.2 ≠ .free
theorem u5 {kindOf:Str -> Option NameKind} {x:Str}:∀ {binds:List (Str × Value)} {m:Str -> Option Value},(∀ v,(x,v) ∉ binds) -> bindL kindOf binds m x = m x
 | [],_,_=>rfl
 | (n,v) :: r,m,h=>by
  unfold bindL
  rw [u5 fun w hw=>h w (List.mem_cons_of_mem _ hw)]
  split
  ·have:x ≠ n:=by rintro rfl;exact h v List.mem_cons_self
   simp [this]
  ·rfl
theorem u3 {kindOf:Str -> Option NameKind} {x:Str}:∀ {binds:List (Str × Value)} {m:Str -> Option Value},(∀ v,(x,v) ∉ binds) -> bindC kindOf binds m x = m x
 | [],_,_=>rfl
 | (n,v) :: r,m,h=>by
  unfold bindC
  rw [u3 fun w hw=>h w (List.mem_cons_of_mem _ hw)]
  split
  ·rfl
  ·have:x ≠ n:=by rintro rfl;exact h v List.mem_cons_self
   simp [this]
theorem u4 {kindOf:Str -> Option NameKind} {x:Str} {v:Value}:∀ {P:List Str} {vs:List Value} {i:Nat} {m:Str -> Option Value},P.Nodup -> P[i]? = some x -> vs[i]? = some v -> kindOf x = some .local ->
  bindL kindOf (P.zip vs) m x = some v
 | [],_,_,_,_,h,_,_=>by simp at h
 | _ :: _,[],_,_,_,_,h,_=>by simp at h
 | p :: P,w :: vs,0,m,nd,h1,h2,hk=>by
  simp at h1 h2;subst h1;subst h2
  show bindL kindOf ((p,w) :: P.zip vs) m p = _
  unfold bindL
  rw [u5 fun v hv=>(List.nodup_cons.mp nd).1 (List.of_mem_zip hv).1,if_pos hk]
  simp
 | p :: P,w :: vs,i + 1,m,nd,h1,h2,hk=>by
  show bindL kindOf ((p,w) :: P.zip vs) m x = _
  unfold bindL
  exact u4 (i:=i) (List.nodup_cons.mp nd).2 (by simpa using h1) (by simpa using h2) hk
theorem u0 {kindOf:Str -> Option NameKind} {x:Str} {v:Value}:∀ {P:List Str} {vs:List Value} {i:Nat} {m:Str -> Option Value},P.Nodup -> P[i]? = some x -> vs[i]? = some v -> kindOf x ≠ some .local ->
  bindC kindOf (P.zip vs) m x = some v
 | [],_,_,_,_,h,_,_=>by simp at h
 | _ :: _,[],_,_,_,_,h,_=>by simp at h
 | p :: P,w :: vs,0,m,nd,h1,h2,hk=>by
  simp at h1 h2;subst h1;subst h2
  show bindC kindOf ((p,w) :: P.zip vs) m p = _
  unfold bindC
  rw [u3 fun v hv=>(List.nodup_cons.mp nd).1 (List.of_mem_zip hv).1,if_neg hk]
  simp
 | p :: P,w :: vs,i + 1,m,nd,h1,h2,hk=>by
  show bindC kindOf ((p,w) :: P.zip vs) m x = _
  unfold bindC
  exact u0 (i:=i) (List.nodup_cons.mp nd).2 (by simpa using h1) (by simpa using h2) hk
noncomputable def di (N:List Str) (vs:List V):St:=vs.map some ++ List.replicate (N.length - vs.length) none
noncomputable def xP (CX:CXT) (P:Program) (w:World) (K:W.Frag) (mg:Str -> Option Value) (base:Heap) (N:List Str) (qual:Str) (scope:Scope) (f:Addr) (cd:Value) (A:Around) (outer:List Env) (s:Shared) (H:Hp) (E:XK):Cx where
 prog:=P
 w:=w
 K:=K
 mg:=mg
 base:=base
 A:=A.deeper (envOfC qual scope s.heap.objs.size f cd)
 N:=N
 s₀:=s
 H₀:=H
 env:=envOfC qual scope s.heap.objs.size f cd
 outer:=outer
 stack:=envOfC qual scope s.heap.objs.size f cd :: outer
 ex:=[]
 calm:=true
 fn:=fun _=>true
 pn:=[]
 xe:=fun e s'=>wpAny (model P w) (A.deeper (envOfC qual scope s.heap.objs.size f cd)) (leaving (envOfC qual scope s.heap.objs.size f cd) e) (fun _ s''=>CX outer H s E e s'') (fun e' s''=>CX outer H s E e' s'') s'
theorem xM {sc:Scope} {n:Nat} {x:Str} (h:sc.names.lookup x = some .cell):∃ c,(cellsFrom n sc.names []).lookup x = some c:=by
 have q:=W.cellsFrom_some sc.names n [] (.inl h)
 exact Option.isSome_iff_exists.mp q
theorem CB {CX:CXT} {P:Program} {w:World} {K:W.Frag} {mg:Str -> Option Value} {base:Heap} {N ps:List Str} {qual:Str} {scope:Scope} {f:Addr} {cd:Value} {A:Around} {outer:List Env} {s s1:Shared} {H:Hp} {E:XK} {us:List Value} {vs:List V}
  (S:FnScope N ps scope) (hd:A.handled = none) (e0:Env0 P w K mg base A outer s H) (hl:vs.length = ps.length) (r:Vals vs us)
  (x:InCallC s s.heap.objs.size (bindL (envOfC qual scope s.heap.objs.size f cd).kindOf (ps.zip us) fun _=>none) (cellsFrom (s.heap.objs.size + 1) scope.names []) (bindC (envOfC qual scope s.heap.objs.size f cd).kindOf (ps.zip us) fun _=>none) s1) :
  Inv (xP CX P w K mg base N qual scope f cd A outer s H E) [] (di N vs) H s1:=by
 have hpl:ps.length <= N.length:=by have:=congrArg List.length S.pre;rw [List.length_take] at this;lia
 obtain ⟨h1,tk,rfl,hk⟩:=x.done
 have noA:∀ b:Addr,b ∉ (xP CX P w K mg base N qual scope f cd A outer s H E).ex:=fun b z=>absurd (show b ∈ ([]:List Addr) from z) (by simp)
 refine ⟨⟨e0.mod,S.kind,rfl,rfl,Nat.le_refl _,fun y z c h1 h2=>?_,fun y hy=>?_,fun y c _ h=>?_,fun _=>hd,Around.frames_deeper e0.frames,.inr ⟨rfl,rfl⟩,fun b z=>absurd z (noA b),e0.bs,e0.bsz,fun b _ _=>noA b,fun b z=>absurd z (noA b),e0.funs,e0.frf⟩,
  rfl,e0.bare,Un.kept hk,⟨_,x.toInCall.ns,fun i y v h1 h2 h3=>?_⟩,fun y c h=>⟨_,x.cell y c h⟩,e0.hok.fresh (Nat.le_refl _),fun y c h=>?_,fun p hp=>absurd (show p ∈ ([]:List (Addr × Obj)) from hp) (by simp),e0.hok.kept hk,?_⟩
 ·exact name_of_addr x.apart (PySem.mem_of_lookup h1) (PySem.mem_of_lookup h2)
 ·have hy:scope.names.lookup y = some .cell \/ scope.names.lookup y = some .free:=hy
  rcases hy with hy | hy
  ·exact xM hy
  ·exact absurd rfl (S.nofree _ (PySem.mem_of_lookup hy))
 ·exact Nat.le_of_lt (x.above y c (PySem.mem_of_lookup h))
 ·have hi:i < vs.length:=by
   unfold di at h2
   by_cases hi:i < vs.length
   ·exact hi
   ·rw [List.getElem?_append_right (by simpa using hi)] at h2
    rw [List.getElem?_replicate] at h2
    split at h2 <;> cases h2
  have ha:vs[i]? = some v:=by
   unfold di at h2
   rw [List.getElem?_append_left (by simpa using hi),List.getElem?_map] at h2
   cases e:vs[i]? with
   | none=>rw [e] at h2;cases h2
   | some a=>rw [e] at h2;cases h2;rfl
  obtain ⟨u,hu,rv⟩:=r.get ha
  have hp:ps[i]? = some y:=by
   rw [<- S.pre,List.getElem?_take_of_lt (by lia)];exact h1
  have ndP:ps.Nodup:=by rw [<- S.pre];exact S.nd.sublist (List.take_sublist _ _)
  refine ⟨u,rv,?_⟩
  rcases S.par y (List.mem_of_getElem? hp) with k | k
  ·exact .inl ⟨k,u4 ndP hp hu k⟩
  ·obtain ⟨c,e⟩:=xM (n:=s.heap.objs.size + 1) k
   refine .inr ⟨.inl k,c,e,?_⟩
   have q:=x.cell y c e
   rw [u0 ndP hp hu (by show scope.names.lookup y ≠ _;rw [k];decide)] at q
   exact q
 ·exact e0.hok.fresh (Nat.le_of_lt (x.above y c (PySem.mem_of_lookup h)))
 ·unfold di
  show _ = N.length
  rw [List.length_append,List.length_map,List.length_replicate]
  lia
theorem KQ {CX:CXT} {P:Program} {w:World} {K:W.Frag} {mg:Str -> Option Value} {base:Heap} {k:Nat} {f:Addr} {name qual:Str} {params:Arguments} {body:List Stmt} {scope:Scope} {dV kV doc pm cdv ct oc:Value} {an od:Option Addr}
  {osl:Array (Option Value)} {N ps:List Str} {sp:Sp} (lk:K.lookup f = some ⟨oc,od,.func (W.fnOf name qual params body scope dV kV doc pm an cdv ct),osl⟩) (hcd:W.codeIn K cdv qual = true) (S:FnScope N ps scope)
  (len:∀ vs H Q E,sp vs H Q E -> vs.length = ps.length)
  (hbody:∀ (A:Around) (outer:List Env) (s:Shared) (H:Hp) (vs:List V) (Q:VK) (E:XK),Room k (A.deeper (envOfC qual scope s.heap.objs.size f cdv)) -> sp vs H Q E ->
   ∃ t,PSs (xP CX P w K mg base N qual scope f cdv A outer s H E) body t /\ t { nx:=fun _ H'=>Q .non H',rt:=Q } (di N vs) H) :
  FnOk P w K mg base CX (k + 1) f (W.fnOf name qual params body scope dV kV doc pm an cdv ct) ps sp:=by
 refine ⟨len,fun A outer s H args us vs Q E hr e0 hb r hsp=>?_⟩
 have hl:=len _ _ _ _ hsp
 have KX:K.In s.heap:=e0.mod.kin.keeps fun b o e=>(e0.bs b o e).1
 have lim:s.heap.NoLimit:=e0.mod.nolimit.keeps fun b o e=>(e0.bs b o e).1
 have hkind:∀ y ∈ ps.zip us,scope.names.lookup y.1 = some .local \/ (scope.names.lookup y.1 = some .cell /\ ((cellsFrom (s.heap.objs.size + 1) scope.names []).lookup y.1).isSome = true):=fun hpt0 hy=>by
  obtain ⟨n,v⟩:=hpt0
  rcases S.par n (List.of_mem_zip hy).1 with q | q
  ·exact .inl q
  ·exact .inr ⟨q,W.cellsFrom_some _ _ _ (.inl q)⟩
 refine codeAny_call_function hr.depth (KX _ _ lk) rfl S.co S.gen rfl (W.codeRec_of KX hcd) (hb _ _ _ _ ?_)
 refine wpAny_newFunctionEnv_cells S.kind hkind fun env he s1 x=>?_
 subst he
 refine ⟨lim.keeps x.toInCall.keep,codeAny_func ?_⟩
 obtain ⟨t,ht,hq⟩:=hbody A outer s H vs Q E (hr.deeper _) hsp
 have I:Inv (xP CX P w K mg base N qual scope f cdv A outer s H E) [] (di N vs) H s1:=CB S hr.hd e0 hl r x
 refine wpAny_mono (ht [] s1 (di N vs) H _ I hq) (fun fl s' hs=>?_) fun e s' hs=>hs
 have fin:∀ {σ':St} {H':Hp} {v:V} {u:Value},Inv (xP CX P w K mg base N qual scope f cdv A outer s H E) [] σ' H' s' -> RelV v u -> Q v H' -> CE outer P w H s Q u s':=
  fun {σ' H' v u} J rv q=>⟨v,H',J.os,J.bare,J.base,J.hok,rv,q⟩
 cases fl with
 | ret u=>
  obtain ⟨v,σ',H',J,rv,q⟩:=hs
  exact fin J rv q
 | next=>
  obtain ⟨σ',H',J,q⟩:=hs
  exact fin (v:=V.non) (u:=Value.none) J rfl q
 | brk=>
  obtain ⟨_,_,_,q⟩:=hs
  exact False.elim q
 | cont=>
  obtain ⟨_,_,_,q⟩:=hs
  exact False.elim q
section
variable {X:Cx} {x:Str} {p pos:Pos} {e:Expr} {es:List Expr} {t:TA} {id T:String} {r:List V -> Hp -> VK -> Prop}
noncomputable def tCB (r:List V -> Hp -> VK -> Prop) (t:TA):TE:=fun σ H Q=>t σ H fun vs H1=>r vs H1 Q
theorem cz (hc:CallR X (.builtin id) r) (hg:Gl X x) (hm:X.mg x = none) (hv:bootBuiltins x = some (.builtin id)) (ha:PA X (e :: es) t) (hn:x ≠ "__name__" := by decide) (hdb:(x == ("__debug__" : Str)) = false:=by decide)
  (he:starEach (e :: es) X.env = (false,eval e X.env) :: starEach es X.env:=by rfl) (hpl:(backTo pos (starEach es X.env)).any (·.1) = false:=by rfl):PE X (.Call (.Name x p) (e :: es) [] pos) (tCB r t):=by
 intro pins s σ H Q I h
 refine wpAny_Call_Name_kw (pq I hg hm hv ?_ hn hdb)
 exact PyProof.Rows.callWith_builtin1 (thn (ha pos pins s σ H _ I h) fun us s1 ⟨vs,H1,I1,r1,q1⟩=>hc pins s1 σ H1 vs us Q I1 r1 q1) he hpl
theorem dw (hc:CallR X (.type T) r) (hg:Gl X x) (hm:X.mg x = none) (hv:bootBuiltins x = some (.type T)) (ha:PA X (e :: es) t) (hn:x ≠ "__name__" := by decide) (hdb:(x == ("__debug__" : Str)) = false:=by decide)
  (he:starEach (e :: es) X.env = (false,eval e X.env) :: starEach es X.env:=by rfl) (hpl:(backTo pos (starEach es X.env)).any (·.1) = false:=by rfl):PE X (.Call (.Name x p) (e :: es) [] pos) (tCB r t):=by
 intro pins s σ H Q I h
 refine wpAny_Call_Name_kw (pq I hg hm hv ?_ hn hdb)
 exact PyProof.Rows.callWith_type1 (thn (ha pos pins s σ H _ I h) fun us s1 ⟨vs,H1,I1,r1,q1⟩=>hc pins s1 σ H1 vs us Q I1 r1 q1) he hpl
end
end L2
namespace HT
open PySem PyProof.Rows
noncomputable def bN:List Int -> List Int -> Bool
 | [],[]=>false
 | [],_ :: _=>true
 | _ :: _,[]=>false
 | x :: xs,y :: ys=>if x = y then bN xs ys else decide (x < y)
theorem z9 (x y:Int) (xs ys:List Int):bN (x :: xs) (y :: ys) = if x = y then bN xs ys else decide (x < y):=rfl
section
open PySem.SeqAt
open PySem.AutoSeq1 (wpAny_loadPart')
open PySem.MeetsSeq PySem.MeetsSeq2 PySem.MeetsSeq3
end
section
variable {prog:Program} {w:World} {A:Around} {E:Value -> Shared -> Prop} {s:Shared}
theorem Gk  {vs ws:List Value} {Q:Value -> Shared -> Prop} (ht:IsTup s.heap t vs.toArray) (hb:IsTup s.heap b ws.toArray) (hv:vs ≠ [])
  (h1:ws = [] -> Q (.ref t) s) (h2:ws ≠ [] -> Q (.ref s.heap.objs.size) { s with heap:=s.heap.push { cls:=.type "tuple",data:=.seq (vs ++ ws).toArray } })
  (hsz:vs.length + ws.length <= sizeLine):wpAny (model prog w) A (binaryOp .Add (.ref t) (.ref b)) Q E s:=by
 obtain ⟨⟨cls,dd,data,sl⟩,ho,hc,n,hd⟩:=id ht
 obtain ⟨⟨cls2,dd2,data2,sl2⟩,ho2,hc2,n2,hd2⟩:=id hb
 simp only at hc hd hc2 hd2
 subst hc hd hc2 hd2
 have e:vs.toArray ++ ws.toArray = (vs ++ ws).toArray:=by simp
 by_cases hw:ws = []
 ·exact concat_meets ⟨_,ho,rfl⟩ ⟨_,ho2,rfl⟩ noFill_tuple_add seq_tuple_add PySem.F.slot_tuple_add PySem.F.entry_tuple_add (PySem.F.args_tuple_add_2 _ _)
   (tuple_addW1 t b vs.toArray ws.toArray n n2 dd dd2 sl sl2 (by simpa using hv) (by simp [hw])) ⟨ho,ho2,h1 hw⟩
 ·refine concat_meets ⟨_,ho,rfl⟩ ⟨_,ho2,rfl⟩ noFill_tuple_add seq_tuple_add PySem.F.slot_tuple_add PySem.F.entry_tuple_add (PySem.F.args_tuple_add_2 _ _)
   (tuple_addW2 t b vs.toArray ws.toArray n n2 dd dd2 sl sl2 (by simpa using hv) (by simpa using hw) (by rw [List.size_toArray,List.size_toArray];exact hsz)) ⟨ho,ho2,?_⟩
  rw [e]
  exact h2 hw
noncomputable def sIx (n d:Nat):Option Int -> Nat
 | none=>d
 | some v=>if v < 0 then (v + (n:Int)).toNat else min v.toNat n
theorem JM (n d:Nat) (hd:d <= n) (o:Option Int):sIx n d o <= n:=by
 cases o with
 | none=>exact hd
 | some v=>
  show (if v < 0 then (v + (n:Int)).toNat else min v.toNat n) <= n
  by_cases hv:v < 0
  ·rw [if_pos hv];lia
  ·rw [if_neg hv];exact Nat.min_le_right _ _
theorem A2 (v:Int) (n d:Nat):(if v < 0 then max (v + (n:Int)) 0 else min v (n:Int)) = ((sIx n d (some v):Nat):Int):=by
 show (if v < 0 then max (v + (n:Int)) 0 else min v (n:Int)) = (((if v < 0 then (v + (n:Int)).toNat else min v.toNat n):Nat):Int)
 by_cases hv:v < 0
 ·simp only [if_pos hv];lia
 ·simp only [if_neg hv];lia
theorem zq (lo hi:Option Int) (n:Nat):Builtin.Slice.sliceAdjust lo hi 1 (n:Int) = (((sIx n 0 lo:Nat):Int),((sIx n n hi:Nat):Int)):=by
 have h1:¬ ((1:Int) < 0):=by lia
 unfold Builtin.Slice.sliceAdjust
 simp only [h1,if_false]
 refine Prod.ext ?_ ?_
 ·cases lo with
  | none=>rfl
  | some v=>exact A2 v n 0
 ·cases hi with
  | none=>rfl
  | some v=>exact A2 v n n
theorem Aw (i j:Nat):Builtin.Slice.slicePlaces (i:Int) (j:Int) 1 = j - i:=by
 unfold Builtin.Slice.slicePlaces
 have h1:(1:Int) > 0:=by lia
 simp only [h1,if_true,Int.ediv_one]
 split <;> lia
theorem t6   {Q:Option Int -> Shared -> Prop} (p:IsPart v o) (h:Q o s):wpAny (model prog w) A (Builtin.Slice.slicePartIndex v) Q E s:=by
 cases p with
 | none=>exact slicePart_none h
 | int i t=>exact slicePart_int h
theorem jd {sl:Addr}  {lo hi:Option Int} {n:Nat} {Q:Int × Int × Nat -> Shared -> Prop} (hs:s.heap.IsSliceOf sl vl vu .none) (pl:IsPart vl lo) (pu:IsPart vu hi)
  (h:Q (((sIx n 0 lo:Nat):Int),1,sIx n n hi - sIx n 0 lo) s):wpAny (model prog w) A (Builtin.Slice.sliceApplied (.ref sl) (pure (n:Int))) Q E s:=by
 obtain ⟨os,hos,hcs,hds⟩:=id hs
 unfold Builtin.Slice.sliceApplied Builtin.Slice.sliceFields
 refine wpAny_bind (wpAny_bind (wpAny_field hos hds (x:=vl) rfl (wpAny_bind (wpAny_field hos hds (x:=vu) rfl (wpAny_bind (wpAny_field hos hds (x:=.none) rfl (wpAny_pure ?_)))))))
 refine wpAny_bind (slicePart_none ?_)
 show wpAny _ _ (if ((1:Int) == 0) = true then _ else _) _ _ s
 rw [if_neg (by decide)]
 refine wpAny_bind (t6 pl (wpAny_bind (t6 pu (wpAny_bind (wpAny_pure ?_)))))
 show wpAny _ _ (match Builtin.Slice.sliceAdjust lo hi 1 (n:Int) with | (lo,hi)=>pure (lo,(1:Int),Builtin.Slice.slicePlaces lo hi 1)) _ _ s
 rw [zq lo hi n]
 show wpAny _ _ (pure (((sIx n 0 lo:Nat):Int),(1:Int),Builtin.Slice.slicePlaces ((sIx n 0 lo:Nat):Int) ((sIx n n hi:Nat):Int) 1)) _ _ s
 rw [Aw]
 exact wpAny_pure h
theorem Fc (xs:Array Value) (i k:Nat):((List.range k).filterMap fun (m:Nat)=>xs[((i:Int) + (m:Int) * 1).toNat]?).toArray = ((xs.toList.drop i).take k).toArray:=by
 have e:(fun (m:Nat)=>xs[((i:Int) + (m:Int) * 1).toNat]?) = fun m=>xs[i + m]?:=by
  funext m
  have:((i:Int) + (m:Int) * 1).toNat = i + m:=by lia
  rw [this]
 rw [e]
 have:=pick_run xs i k
 rw [List.filterMap_map] at this
 have e2:((fun x=>xs[x]?) ∘ fun x=>i + x) = fun m=>xs[i + m]?:=rfl
 rw [e2] at this
 rw [this]
theorem nU {sl:Addr}   {lo hi:Option Int} {Q:Value -> Shared -> Prop} (ht:IsTup s.heap t items) (hs:s.heap.IsSliceOf sl vl vu .none) (pl:IsPart vl lo) (pu:IsPart vu hi)
  (hw:¬ (sIx items.size 0 lo = 0 /\ sIx items.size items.size hi = items.size))
  (h:Q (.ref s.heap.objs.size) { s with heap:=s.heap.push { cls:=.type "tuple",data:=.seq ((items.toList.drop (sIx items.size 0 lo)).take (sIx items.size items.size hi - sIx items.size 0 lo)).toArray } })
  (hsz:items.size <= sizeLine):wpAny (model prog w) A (getItem (.ref t) (.ref sl)) Q E s:=by
 have htake:sizeOk (.seq ((items.toList.drop (sIx items.size 0 lo)).take (sIx items.size items.size hi - sIx items.size 0 lo)).toArray):=by
  show ((items.toList.drop (sIx items.size 0 lo)).take (sIx items.size items.size hi - sIx items.size 0 lo)).toArray.size <= sizeLine
  rw [List.size_toArray,List.length_take,List.length_drop,Array.length_toList]
  omega
 have hj:sIx items.size items.size hi <= items.size:=JM _ _ (Nat.le_refl _) hi
 obtain ⟨os,hos,hcs,hds⟩:=id hs
 have hTs:s.TypeIs (.ref sl) "slice" := ⟨os,hos,hcs⟩
 unfold getItem
 try with_reducible refine wpAny_holding ?_
 first | refine wpAny_bind (wpAny_pure ?_) | skip
 refine wpAny_bind (wpAny_sequenceKey ht.typeIs (by decide) ?_)
 refine wpAny_bind (wpAny_callSpecial?_slot (name:=Str.ofString "__getitem__") ht.typeIs PyProof.Rows.slot_tuple_getitem
  (wpAny_call_entry PyProof.Rows.slot_tuple_getitem ht.typeIs entry_tuple_getitem ?_ (args_tuple_getitem _ _)))
 show wpAny _ _ (Builtin.Tuple.tupleItemsOf (.ref t) >>= _) _ _ s
 refine wpAny_bind (tupleItemsOf_ ht ?_)
 refine wpAny_bind (wpAny_typeOf hTs ?_)
 rw [if_pos (by decide)]
 refine wpAny_bind (jd hs pl pu ?_)
 have hno:¬ ((((sIx items.size 0 lo:Nat):Int) == 0 && (1:Int) == 1 && (sIx items.size items.size hi - sIx items.size 0 lo) == items.size) = true):=by
  intro q
  rw [Bool.and_eq_true,Bool.and_eq_true] at q
  have q1:((sIx items.size 0 lo:Nat):Int) = 0:=eq_of_beq q.1.1
  have q2:sIx items.size items.size hi - sIx items.size 0 lo = items.size:=eq_of_beq q.2
  exact hw ⟨by omega,by omega⟩
 show wpAny _ _ (if (((sIx items.size 0 lo:Nat):Int) == 0 && (1:Int) == 1 && (sIx items.size items.size hi - sIx items.size 0 lo) == items.size) = true then _ else _) _ _ s
 rw [if_neg hno,Fc]
 first
  | exact wpAny_bind (m:=Builtin.Tuple.tupleExact _) (wpAny_newObj_type (wpAny_pure ⟨_,rfl,wpAny_pure h⟩) htake)
  | exact wpAny_bind (m:=Builtin.Tuple.tupleExact _) (wpAny_newObj_type (wpAny_bind (wpAny_pure (wpAny_pure ⟨_,rfl,wpAny_pure h⟩))) htake)
  | exact wpAny_bind (wpAny_bind (m:=Builtin.Tuple.tupleExact _) (wpAny_newObj_type (wpAny_pure (wpAny_pure ⟨_,rfl,wpAny_pure h⟩)) htake))
  | exact wpAny_bind (wpAny_bind (m:=Builtin.Tuple.tupleExact _) (wpAny_newObj_type (wpAny_pure ⟨_,rfl,wpAny_pure h⟩) htake))
end
end HT
namespace L2
open PySem PySem.Spec PyProof.Rows
noncomputable abbrev TO:=St -> Hp -> (Option Int -> Hp -> Prop) -> Prop
def PO (X:Cx) (e:Option Expr) (t:TO):Prop:=
 ∀ (pins:List (Addr × Obj)) (s:Shared) (σ:St) (H:Hp) (Q:Option Int -> Hp -> Prop),Inv X pins σ H s -> t σ H Q ->
  wpAny (model X.prog X.w) X.A (evalPart e X.env) (fun u s'=>∃ o H',Inv X pins σ H' s' /\ IsPart u o /\ Q o H') X.xe s
noncomputable def xc:TO:=fun _ H Q=>Q none H
noncomputable def FV (t:TE):TO:=fun σ H Q=>t σ H fun x H1=>∃ i,x = .int i /\ Q (some i) H1
theorem gI {ns:List Int}:∀ {us:List Value},Vals (ns.map V.int) us -> IntsAre us ns:=by
 induction ns with
 | nil=>intro us r;rw [List.map_nil] at r;cases r;exact .nil
 | cons n ns ih=>
  intro us r
  rw [List.map_cons] at r
  cases r with
  | cons r1 r2=>
   obtain ⟨t,e⟩:=r1
   subst e
   exact .cons n t (ih r2)
section
variable {X:Cx} {e:Expr} {te:TE} {lo hi:Option Expr} {tl th:TO} {pos p2:Pos}
theorem G8:PO X none xc:=by
 intro pins s σ H Q I h
 rw [evalPart_none]
 exact wpAny_pure ⟨none,H,I,.none,h⟩
theorem G9 (h:PE X e te):PO X (some e) (FV te):=by
 intro pins s σ H Q I hw
 rw [evalPart_some]
 refine thn (h pins s σ H _ I hw) fun u s1 hpt9=>?_
 obtain ⟨x,H1,I1,r1,q1⟩:=hpt9
 obtain ⟨i,rfl,q⟩:=q1
 obtain ⟨t,rfl⟩:=r1
 exact ⟨some i,H1,I1,.int i t,q⟩
def SlR (X:Cx) (r:V -> Option Int -> Option Int -> Hp -> VK -> Prop):Prop:=
 ∀ (pins:List (Addr × Obj)) (s:Shared) (σ:St) (H:Hp) (x:V) (v vl vu:Value) (lo hi:Option Int) (sl:Addr) (Q:VK),Inv X pins σ H s -> RelV x v -> s.heap.IsSliceOf sl vl vu .none -> IsPart vl lo -> IsPart vu hi -> r x lo hi H Q ->
  ∃ T id,typeLookup (.type T) "__getitem__" = pure (some (.builtin id)) /\ s.TypeIs v T /\ wpAny (model X.prog X.w) X.A (getItem v (.ref sl)) (EP X pins σ Q) X.xe s
theorem SlR.or  (h:SlR X r) (h':SlR X r'):SlR X (fun x lo hi H Q=>r x lo hi H Q \/ r' x lo hi H Q):=by
 intro pins s σ H x v vl vu lo hi sl Q I rx hs pl pu q
 rcases q with q | q
 ·exact h pins s σ H x v vl vu lo hi sl Q I rx hs pl pu q
 ·exact h' pins s σ H x v vl vu lo hi sl Q I rx hs pl pu q
noncomputable def tSl (r:V -> Option Int -> Option Int -> Hp -> VK -> Prop) (te:TE) (tl th:TO):TE:=fun σ H Q=>te σ H fun x H1=>tl σ H1 fun l H2=>th σ H2 fun u H3=>r x l u H3 Q
theorem E6  (hr:SlR X r) (he:PE X e te) (hl:PO X lo tl) (hu:PO X hi th):PE X (.Subscript e (.Slice lo hi none p2) pos) (tSl r te tl th):=by
 intro pins s σ H Q I h
 refine Subscript_ (thn (he pins s σ H _ I h) fun v s1 hpt9=>?_)
 obtain ⟨x,H1,I1,r1,q1⟩:=hpt9
 refine wpAny_Slice (thn (hl pins s1 σ H1 _ I1 q1) fun vl s2 ⟨l,H2,I2,pl,q2⟩=>thn (hu pins s2 σ H2 _ I2 q2) fun vu s3 hpt9=>?_)
 obtain ⟨u,H3,I3,pu,q3⟩:=hpt9
 rw [evalPart_none]
 refine wpAny_pure ?_
 have I4:Inv X pins σ H3 { s3 with heap:=s3.heap.push { cls:=.type "slice",data:=.fields #[vl,vu,.none] } }:=I3.kept (t':=s3.toks) fun b ob q=>Heap.get?_push_of_some _ q
 obtain ⟨T,id,hT,ht,hg⟩:=hr pins { s3 with heap:=s3.heap.push { cls:=.type "slice",data:=.fields #[vl,vu,.none] } } σ H3 x v vl vu l u s3.heap.objs.size Q I4 r1 (Heap.IsSliceOf.new ..) pl pu q3
 show wpAny (model X.prog X.w) X.A (subscriptTail e (.Slice lo hi none p2) v (.ref s3.heap.objs.size)) (EP X pins σ Q) X.xe { s3 with heap:=s3.heap.push { cls:=.type "slice",data:=.fields #[vl,vu,.none] } }
 exact tail_any (ops:=[.ref s3.heap.objs.size,v]) ht hT hg (by with_unfolding_all rfl)
noncomputable def k6 (xs:List V) (lo hi:Option Int):List V:=(xs.drop (HT.sIx xs.length 0 lo)).take (HT.sIx xs.length xs.length hi - HT.sIx xs.length 0 lo)
theorem p6 (xs:List V) (lo hi:Option Int):(k6 xs lo hi).length <= xs.length:=by
 unfold k6
 rw [List.length_take,List.length_drop]
 lia
noncomputable def MH (K:W.Frag):V -> Option Int -> Option Int -> Hp -> VK -> Prop:=fun x lo hi H Q=>∃ a xs,x = .ref a /\ SqT K H a xs /\
 ¬ (HT.sIx xs.length 0 lo = 0 /\ HT.sIx xs.length xs.length hi = xs.length) /\ ∀ p,H p = none -> Q (.ref p) (upd H p (.tup (k6 xs lo hi)))
theorem Kc:SlR X (MH X.K):=by
 intro pins s σ H x v vl vu lo hi sl Q I rx hs pl pu h
 obtain ⟨a,xs,rfl,hx,hw,q⟩:=h
 cases rx
 obtain ⟨its,r,ht,hz⟩:=I.tuple hx
 have hlen:its.toArray.size = xs.length:=by rw [List.size_toArray];exact r.length.symm
 refine ⟨"tuple",_,PyProof.Rows.slot_tuple_getitem.lookup,ht.typeIs,?_⟩
 refine HT.nU ht hs pl pu (by rw [hlen];exact hw) ?_ (by rw [hlen];exact hz)
 rw [hlen]
 refine ⟨.ref s.heap.objs.size,_,I.laid (t':=s.toks) (o:=.tup (k6 xs lo hi)) (fun b ob q=>Heap.get?_push_of_some _ q) (Nat.le_refl _) ?_,rfl,q _ (I.hok.fresh (Nat.le_refl _))⟩
 exact ⟨Nat.le_trans (p6 xs lo hi) hz,_,(r.drop (HT.sIx xs.length 0 lo)).take (HT.sIx xs.length xs.length hi - HT.sIx xs.length 0 lo),TupN.new _ _⟩
theorem Vals.nil_iff {xs:List V}  (r:Vals xs us):us = [] ↔ xs = []:=by
 cases r with
 | nil=>simp
 | cons _ _=>simp
end
noncomputable def ixN (n:Nat) (i:Int):Option Nat:=if 0 <= i then (if i < n then some i.toNat else none) else if -(n:Int) <= i then some (i + n).toNat else none
noncomputable def atI {α:Type} (xs:List α) (i:Int):Option α:=(ixN xs.length i).bind fun j=>xs[j]?
theorem Bg {n:Nat} {i:Int} {j:Nat} (h:ixN n i = some j):seqIndex? i n = some j /\ j < n /\ -(n:Int) <= i /\ i < n:=by
 unfold ixN at h
 by_cases h0:0 <= i
 ·rw [if_pos h0] at h
  by_cases h1:i < n
  ·rw [if_pos h1] at h
   have e:i.toNat = j:=Option.some.inj h
   exact ⟨by rw [seqIndex_of h0 h1,e],by lia,by lia,h1⟩
  ·rw [if_neg h1] at h;cases h
 ·rw [if_neg h0] at h
  by_cases h1:-(n:Int) <= i
  ·rw [if_pos h1] at h
   have e:(i + n).toNat = j:=Option.some.inj h
   exact ⟨by rw [seqIndex_neg (by lia) h1,e],by lia,h1,by lia⟩
  ·rw [if_neg h1] at h;cases h
theorem wg {α:Type} {xs:List α} {i:Int} {v:α} (h:atI xs i = some v):∃ j,seqIndex? i xs.length = some j /\ xs[j]? = some v /\ j < xs.length /\ -(xs.length:Int) <= i /\ i < xs.length:=by
 unfold atI at h
 cases e:ixN xs.length i with
 | none=>rw [e] at h;cases h
 | some j=>
  rw [e] at h
  obtain ⟨h1,h2,h3,h4⟩:=Bg e
  exact ⟨j,h1,h,h2,h3,h4⟩
def AW (b:Expr):Prop:=∀ o i,subscripted b false o i = operate [o,i] (getItem o i)
def IxR (X:Cx) (r:R2):Prop:=
 ∀ (value slice:Expr) (pins:List (Addr × Obj)) (s:Shared) (σ:St) (H:Hp) (x y:V) (v u:Value) (Q:VK),Inv X pins σ H s -> RelV x v -> RelV y u -> r x y H Q ->
  subscripted slice false v u = operate [v,u] (getItem v u) -> wpAny (model X.prog X.w) X.A (subscriptTail value slice v u) (EP X pins σ Q) X.xe s
def MtR (X:Cx) (id:String) (r:V -> List V -> Hp -> VK -> Prop):Prop:=
 ∀ (pins:List (Addr × Obj)) (s:Shared) (σ:St) (H:Hp) (x:V) (xs:List V) (v:Value) (us:List Value) (Q:VK),Inv X pins σ H s -> RelV x v -> Vals xs us -> r x xs H Q ->
  wpAny (model X.prog X.w) X.A (call (.builtin id) (v :: us)) (EP X pins σ Q) X.xe s
section
variable {X:Cx} {a b:Expr} {ta tb:TE} {pos:Pos}
theorem IxR.or  (h:IxR X r) (h':IxR X r'):IxR X (fun x y H Q=>r x y H Q \/ r' x y H Q):=by
 intro value slice pins s σ H x y v u Q I rx ry q hs
 rcases q with q | q
 ·exact h value slice pins s σ H x y v u Q I rx ry q hs
 ·exact h' value slice pins s σ H x y v u Q I rx ry q hs
theorem Lb  (hr:IxR X r) (ha:PE X a ta) (hb:PE X b tb) (hs:AW b):PE X (.Subscript a b pos) (tOp r ta tb):=by
 intro pins s σ H Q I h
 exact Subscript_ (IA ha hb I h fun v u s2 x y H2 I2 rx ry q=>hr a b pins s2 σ H2 x y v u Q I2 rx ry q (hs _ _))
noncomputable def Ll (K:W.Frag):R2:=fun x y H Q=>∃ p xs i v,x = .ref p /\ y = .int i /\ SqL K H p xs /\ atI xs i = some v /\ Q v H
noncomputable def Ln (K:W.Frag):R2:=fun x y H Q=>∃ p xs i v,x = .ref p /\ y = .int i /\ SqT K H p xs /\ atI xs i = some v /\ Q v H
noncomputable def Lm:R2:=fun x y H Q=>∃ z i c,x = .str z /\ y = .int i /\ z.length <= sizeLine /\ atI z.cps.toList i = some c /\ Q (.str ⟨#[c]⟩) H
theorem ix_list:IxR X (Ll X.K):=by
 intro value slice pins s σ H x y v u Q I rx ry h hs
 obtain ⟨p,xs,i,z,rfl,rfl,hq,he,q⟩:=h
 cases rx
 obtain ⟨t,rfl⟩:=ry
 obtain ⟨its,r,pl,hz⟩:=I.list hq
 obtain ⟨j,h1,h2,h3,h4,h5⟩:=wg he
 obtain ⟨w,ew,rw'⟩:=r.get h2
 have hl:=r.length
 have hn:=mG
 have fin:EP X pins σ Q w s:=⟨z,H,I,rw',q⟩
 by_cases h0:0 <= i
 ·have hj:i.toNat = j:=by
   rw [seqIndex_of h0 h5] at h1
   exact Option.some.inj h1
  exact item_listR pl.isList h0 (by lia) (by rw [hj];simpa using ew) fin hs
 ·have hj:(i + (its.toArray.size:Int)).toNat = j:=by
   rw [seqIndex_neg (by lia) h4] at h1
   rw [List.size_toArray,<- hl]
   exact Option.some.inj h1
  exact subscriptTail_builtinR (x:=w) pl.isList.typeIs slot_list_getitem.lookup
   (wpAny_getItem_list_neg (Q:=fun r s'=>r = w /\ EP X pins σ Q r s') pl.isList (by lia) (by rw [List.size_toArray] <;> lia) (by lia) (by rw [hj];simpa using ew) ⟨rfl,fin⟩) hs
theorem ix_tup:IxR X (Ln X.K):=by
 intro value slice pins s σ H x y v u Q I rx ry h hs
 obtain ⟨p,xs,i,z,rfl,rfl,hq,he,q⟩:=h
 cases rx
 obtain ⟨t,rfl⟩:=ry
 obtain ⟨its,r,pl,hz⟩:=I.tuple hq
 obtain ⟨j,h1,h2,h3,h4,h5⟩:=wg he
 obtain ⟨w,ew,rw'⟩:=r.get h2
 have hl:=r.length
 have hn:=mG
 have fin:EP X pins σ Q w s:=⟨z,H,I,rw',q⟩
 exact subscriptTail_builtinR (x:=w) pl.typeIs slot_tuple_getitem.lookup
  (getItem_tuple (j:=j) (Q:=fun r s'=>r = w /\ EP X pins σ Q r s') pl (by lia) (by lia) (by rw [List.size_toArray,<- hl];exact h1) (by simpa using ew) ⟨rfl,fin⟩) hs
theorem I9:IxR X Lm:=by
 intro value slice pins s σ H x y v u Q I rx ry h hs
 obtain ⟨z,i,c,rfl,rfl,hz,he,q⟩:=h
 obtain ⟨t,rfl⟩:=rx
 obtain ⟨t',rfl⟩:=ry
 obtain ⟨j,h1,h2,h3,h4,h5⟩:=wg he
 have hl:z.cps.toList.length = z.length:=by simp [Str.length]
 rw [hl] at h1 h4 h5
 have hn:=mG
 exact tail_any (typeIs_str s z t) slot_str_getitem.lookup (getItem_str (c:=c) (by
  have e1:decide (i < -(2 ^ 63:Int)) = false:=decide_eq_false (by lia)
  have e2:decide (i ≥ 2 ^ 63) = false:=decide_eq_false (by lia)
  rw [e1,e2,Bool.or_false]) (by rw [h1];simpa using h2) ⟨.str ⟨#[c]⟩,H,I.tok _,⟨_,rfl⟩,q⟩) hs
noncomputable def rIx (K:W.Frag):R2:=fun x y H Q=>Ll K x y H Q \/ Ln K x y H Q \/ Lm x y H Q
theorem I0:IxR X (rIx X.K):=ix_list.or (ix_tup.or I9)
theorem Ag (its:List Value) (n j:Nat) (u:Value):Obj.mapSeq (·.setIfInBounds j u) { cls:=.type "list",data:=.seq its.toArray n } = { cls:=.type "list",data:=.seq (its.set j u).toArray n }:=by
 simp [Obj.mapSeq]
theorem Inv.lst {pins:List (Addr × Obj)} {σ:St} {H:Hp} {s:Shared} {p:Addr} {xs:List V} (I:Inv X pins σ H s) (h:H p = some (.lst xs)) :
  ∃ (its:List Value) (n:Nat),Vals xs its /\ s.heap.get? p = some { cls:=.type "list",data:=.seq its.toArray n } /\ xs.length <= sizeLine:=by
 obtain ⟨z,its,n,r,e⟩:=I.hok p _ h
 exact ⟨its,n,r,e,z⟩
theorem Inv.lstUpd {pins:List (Addr × Obj)}    {p:Addr} {xs ys:List V} {its its':List Value} {n n':Nat} {f:Obj -> Obj} (I:Inv X pins σ H s) (h:H p = some (.lst xs))
  (ho:s.heap.get? p = some { cls:=.type "list",data:=.seq its.toArray n }) (hf:f { cls:=.type "list",data:=.seq its.toArray n } = { cls:=.type "list",data:=.seq its'.toArray n' }) (r:Vals ys its') (hz:ys.length <= sizeLine) (t:Nat) :
  Inv X pins σ (upd H p (.lst ys)) { s with heap:=s.heap.update p f,toks:=t }:=by
 have e:(s.heap.update p f).get? p = some { cls:=.type "list",data:=.seq its'.toArray n' }:=by
  rw [Heap.get?_update_self f ho (by rw [hf] <;> rfl),hf]
 refine I.write (x:=p) (e:=p) (by rw [h];trivial) (.inl rfl) (fun b u hb q=>(Heap.get?_update_other _ _ (Ne.symm hb)).trans q) ⟨_,e⟩ ?_
 exact ⟨hz,its',n',r,e⟩
noncomputable def Ft:V -> V -> V -> Hp -> (Hp -> Prop) -> Prop:=fun o i v H Q=>∃ p xs k j,o = .ref p /\ i = .int k /\ H p = some (.lst xs) /\ ixN xs.length k = some j /\ Q (upd H p (.lst (xs.set j v)))
theorem FG:Ii X Ft:=by
 intro pins s σ H o i v ov iv u Q I ro ri rv h
 obtain ⟨p,xs,k,j,rfl,rfl,hp,hj,q⟩:=h
 cases ro
 obtain ⟨t,rfl⟩:=ri
 obtain ⟨its,n,r,ho,hz⟩:=I.lst hp
 obtain ⟨h1,h2,h3,h4⟩:=Bg hj
 have hl:=r.length
 have hn:=mG
 have I':Inv X pins σ (upd H p (.lst (xs.set j v))) { s with heap:=s.heap.update p (Obj.mapSeq (·.setIfInBounds j u)) }:=
  I.lstUpd hp ho (Ag its n j u) (r.set rv j) (by rw [List.length_set];exact hz) s.toks
 by_cases h0:0 <= k
 ·have hk:k.toNat = j:=by
   rw [seqIndex_of h0 h4] at h1
   exact Option.some.inj h1
  exact W.ki_setAt ho h0 (by lia) (by rw [List.size_toArray,<- hl];exact h4) (by rw [hk];exact ⟨_,I',q⟩)
 ·have hk:(k + (its.toArray.size:Int)).toNat = j:=by
   rw [seqIndex_neg (by lia) h3] at h1
   rw [List.size_toArray,<- hl]
   exact Option.some.inj h1
  exact W.ki_setBack ho (by lia) (by rw [List.size_toArray,<- hl];exact h3) (by lia) (by rw [hk];exact ⟨_,I',q⟩)
theorem wU (lo hi:Option Int) (n:Nat):(sliceBounds lo hi none n).1 = ((HT.sIx n 0 lo:Nat):Int) /\ (sliceBounds lo hi none n).2.1 = ((HT.sIx n n hi:Nat):Int) /\ (sliceBounds lo hi none n).2.2 = 1:=by
 refine ⟨?_,?_,rfl⟩
 ·cases lo with
  | none=>simp [sliceBounds,HT.sIx]
  | some i=>
   simp only [sliceBounds,HT.sIx,Option.getD_none,show (1:Int) > 0 by decide,if_true]
   by_cases h:i < 0
   ·simp only [h,if_true] <;> lia
   ·simp only [h,if_false] <;> lia
 ·cases hi with
  | none=>simp [sliceBounds,HT.sIx]
  | some i=>
   simp only [sliceBounds,HT.sIx,Option.getD_none,show (1:Int) > 0 by decide,if_true]
   by_cases h:i < 0
   ·simp only [h,if_true] <;> lia
   ·simp only [h,if_false] <;> lia
theorem uK (its:List Value) (lo hi:Option Int):slicePick its.toArray lo hi none = ((its.drop (HT.sIx its.length 0 lo)).take (HT.sIx its.length its.length hi - HT.sIx its.length 0 lo)).toArray:=by
 obtain ⟨h1,h2,h3⟩:=wU lo hi its.toArray.size
 unfold slicePick
 rw [h1,h2,h3]
 simp only [sliceRange_one,pick_run,List.size_toArray] <;> rfl
noncomputable def Lr (K:W.Frag):V -> Option Int -> Option Int -> Hp -> VK -> Prop:=fun x lo hi H Q=>∃ a xs,x = .ref a /\ SqL K H a xs /\ ∀ p,H p = none -> Q (.ref p) (upd H p (.lst (k6 xs lo hi)))
theorem Hl:SlR X (Lr X.K):=by
 intro pins s σ H x v vl vu lo hi sl Q I rx hs pl pu h
 obtain ⟨a,xs,rfl,hx,q⟩:=h
 cases rx
 obtain ⟨its,r,ht,hz⟩:=I.list hx
 have hlen:=r.length
 refine ⟨"list",_,slot_list_getitem.lookup,ht.isList.typeIs,?_⟩
 refine wpAny_getItem_list_slice ht.isList hs pl pu .none (by simp) ?_ (by rw [List.size_toArray] <;> lia)
 rw [uK,<- hlen]
 refine ⟨.ref s.heap.objs.size,_,I.laid (t':=s.toks) (o:=.lst (k6 xs lo hi)) (fun b ob q=>Heap.get?_push_of_some _ q) (Nat.le_refl _) ?_,rfl,q _ (I.hok.fresh (Nat.le_refl _))⟩
 exact ⟨Nat.le_trans (p6 xs lo hi) hz,_,0,(r.drop (HT.sIx xs.length 0 lo)).take (HT.sIx xs.length xs.length hi - HT.sIx xs.length 0 lo),Heap.get?_push_size _ rfl⟩
theorem CallR.or   (h:CallR X f r) (h':CallR X f r'):CallR X f (fun xs H Q=>r xs H Q \/ r' xs H Q):=by
 intro pins s σ H xs us Q I rs q
 rcases q with q | q
 ·exact h pins s σ H xs us Q I rs q
 ·exact h' pins s σ H xs us Q I rs q
theorem bv:CallR X (.type "tuple") (fun xs H Q=>∃ p ys,xs = [.ref p] /\ ((SqL X.K H p ys /\ ∀ l,H l = none -> Q (.ref l) (upd H l (.tup ys))) \/ (SqT X.K H p ys /\ Q (.ref p) H))):=by
 intro pins s σ H xs us Q I r h
 obtain ⟨p,ys,rfl,h⟩:=h
 obtain ⟨u,rfl,rx⟩:=F2 r
 cases rx
 rcases h with ⟨hq,q⟩ | ⟨hq,q⟩
 ·obtain ⟨its,r',pl,hz⟩:=I.list hq
  have hlen:=r'.length
  refine call_tuple_list pl.isList (fun h' kp=>?_) (by simp only [List.size_toArray] <;> lia)
  have I1:Inv X pins σ H { s with heap:=h' }:=I.kept (t':=s.toks) kp
  have I2:Inv X pins σ (upd H h'.objs.size (.tup ys)) { s with heap:=h'.push { cls:=.type "tuple",data:=.seq its.toArray } }:=
   I1.laid (t':=s.toks) (fun b o e=>Heap.get?_push_of_some _ e) (Nat.le_refl _) (show ObjOk X.prog X.w _ _ _ (.tup ys) from ⟨hz,its,r',TupN.new _ _⟩)
  exact ⟨.ref h'.objs.size,_,I2,rfl,q _ (I1.hok.fresh (Nat.le_refl _))⟩
 ·obtain ⟨its,r',pl,hz⟩:=I.tuple hq
  exact call_tuple_same pl ⟨.ref p,H,I,rfl,q⟩
def tyV (K:W.Frag) (T:String) (x:V) (H:Hp):Prop:=match x with
 | .str _=>T = "str"
 | .int _=>T = "int"
 | .ref p=>(T = "list" /\ ∃ xs,SqL K H p xs) \/ (T = "tuple" /\ ∃ o,K.lookup p = some o /\ o.cls = .type "tuple" /\ o.dict = none) \/
   (T = "dict" /\ ((∃ kvs,H p = some (.dK kvs)) \/ ∃ kvs,H p = some (.dT kvs))) \/ (T = "set" /\ ∃ S n,H p = some (.set S n))
 | _=>False
theorem F0 {pins:List (Addr × Obj)}       (I:Inv X pins σ H s) (r:RelV x v) (ty:tyV X.K T x H) :
  s.TypeIs v T /\ ∀ a,v = .ref a -> ∃ ob,s.heap.get? a = some ob /\ ob.dict = none:=by
 cases x with
 | str z=>
  obtain ⟨t,rfl⟩:=r
  cases (show T = "str" from ty)
  exact ⟨typeIs_str s z t,fun _ e=>nomatch e⟩
 | int i=>
  obtain ⟨t,rfl⟩:=r
  cases (show T = "int" from ty)
  exact ⟨typeIs_int s i t,fun _ e=>nomatch e⟩
 | ref p=>
  cases r
  rcases ty with ⟨rfl,xs,hq⟩ | ⟨rfl,o,hk,hc,hd⟩ | ⟨rfl,hk⟩ | ⟨rfl,S,n,hk⟩
  ·obtain ⟨its,_,pl,_⟩:=I.list hq
   refine ⟨pl.isList.typeIs,fun a e=>?_⟩
   cases e
   obtain ⟨o,n,e,c,hd,_⟩:=pl
   exact ⟨o,e,hd⟩
  ·refine ⟨⟨o,I.kIn p o hk,hc⟩,fun a e=>?_⟩
   cases e
   exact ⟨o,I.kIn _ o hk,hd⟩
  ·have z:∃ o,s.heap.get? p = some o /\ o.ExactDict:=by
    rcases hk with ⟨kvs,hk⟩ | ⟨kvs,hk⟩
    ·obtain ⟨_,_,_,_,o,_,_,e,ex,_⟩:=I.hok p _ hk
     exact ⟨o,e,ex⟩
    ·obtain ⟨_,_,_,_,o,_,_,e,ex,_⟩:=I.hok p _ hk
     exact ⟨o,e,ex⟩
   obtain ⟨o,e,ex⟩:=z
   refine ⟨⟨o,e,ex.1⟩,fun a e2=>?_⟩
   cases e2
   exact ⟨o,e,ex.2.1⟩
  ·obtain ⟨o,_,_,_,e,ex,_⟩:=I.hok p _ hk
   refine ⟨⟨o,e,ex.1⟩,fun a e2=>?_⟩
   cases e2
   exact ⟨o,e,ex.2.1⟩
 | _=>exact False.elim ty
noncomputable def Km (K:W.Frag) (T:String) (r:V -> List V -> Hp -> VK -> Prop) (to:TE):TE:=fun σ H Q=>to σ H fun x H1=>tyV K T x H1 /\ r x [] H1 Q
noncomputable def tBM (K:W.Frag) (T:String) (r:V -> List V -> Hp -> VK -> Prop) (to:TE) (t:TA):TE:=fun σ H Q=>to σ H fun x H1=>tyV K T x H1 /\ t σ H1 fun xs H2=>r x xs H2 Q
variable {o e:Expr} {es:List Expr} {to:TE} {t:TA} {name:Str} {apos cpos:Pos} {T id:String} {r:V -> List V -> Hp -> VK -> Prop}
theorem Jr (pa:PlainAttrs T) (slot:Slot T name id) (hty:typeOf (.builtin id) = pure (.type "method_descriptor")) (hm:MtR X id r) (ho:PE X o to)
  (hbase:attributeBase o name X.env (eval o X.env) = eval o X.env:=by rfl) (hline:(apos.endLine == cpos.line) = true:=by rfl):PE X (.Call (.Attribute o name apos) [] [] cpos) (Km X.K T r to):=by
 intro pins s σ H Q I h
 refine wpAny_Call_method0_late hbase hline (thn (ho pins s σ H _ I h) fun v s1 hpt9=>?_)
 obtain ⟨x,H1,I1,r1,ty,q1⟩:=hpt9
 obtain ⟨h1,h2⟩:=F0 I1 r1 ty
 exact ⟨T,id,pa,slot,hty,h1,h2,Calls.callWith_builtin rfl (PySem.evalArgs_none (hm pins s1 σ H1 x [] v [] Q I1 r1 .nil q1))⟩
theorem E1 (pa:PlainAttrs T) (slot:Slot T name id) (hty:typeOf (.builtin id) = pure (.type "method_descriptor")) (hm:MtR X id r) (ho:PE X o to) (ha:PA X (e :: es) t)
  (hbase:attributeBase o name X.env (eval o X.env) = eval o X.env:=by rfl)
  (hfew:((backTo cpos (starEach (e :: es) X.env)).all (fun x=>!x.1) && (backToKw cpos (keywordEach [] X.env)).all (fun x=>x.1.isSome)
   && decide ((e :: es).length + ([]:List Keyword).length + (if ([]:List Keyword).isEmpty then 0 else 1) < 30)) = true:=by rfl)
  (hline:(apos.endLine == cpos.line) = true:=by rfl) (hs:starEach (e :: es) X.env = (false,eval e X.env) :: starEach es X.env:=by rfl) (hplain:(backTo cpos (starEach es X.env)).any (·.1) = false:=by rfl) :
  PE X (.Call (.Attribute o name apos) (e :: es) [] cpos) (tBM X.K T r to t):=by
 intro pins s σ H Q I h
 refine wpAny_Call_method_late hbase hfew hline rfl (thn (ho pins s σ H _ I h) fun v s1 hpt9=>?_)
 obtain ⟨x,H1,I1,r1,ty,q1⟩:=hpt9
 obtain ⟨h1,h2⟩:=F0 I1 r1 ty
 refine ⟨T,id,pa,slot,hty,h1,h2,?_⟩
 have hA:=ha cpos pins s1 σ H1 _ I1 q1
 rw [hs] at hA ⊢
 refine Calls.callWith_builtin (by show (false || (backTo cpos (starEach es X.env)).any (·.1)) = false;rw [hplain] <;> rfl) (Calls.evalArgs_plain ?_)
 exact thn hA fun us s2 ⟨vs,H2,I2,r2,q2⟩=>hm pins s2 σ H2 x vs v us Q I2 r1 r2 q2
end
def MtM (X:Cx) (id:String) (r:V -> List V -> Hp -> VK -> Prop):Prop:=
 ∀ (pins:List (Addr × Obj)) (s:Shared) (σ:St) (H:Hp) (x:V) (xs:List V) (v:Value) (us:List Value) (Q:VK),Inv X pins σ H s -> RelV x v -> Vals xs us -> r x xs H Q ->
  wpAny (model X.prog X.w) X.A (call (.builtin id) (v :: us)) (EP X pins σ Q) X.xe s
theorem Vals.one {x:V} {us:List Value} (h:Vals [x] us):∃ u,us = [u] /\ RelV x u:=by
 cases h with
 | cons r t=>cases t;exact ⟨_,rfl,r⟩
theorem Vals.two {x y:V} {us:List Value} (h:Vals [x,y] us):∃ u v,us = [u,v] /\ RelV x u /\ RelV y v:=by
 cases h with
 | cons r t=>
  cases t with
  | cons q t=>cases t;exact ⟨_,_,rfl,r,q⟩
theorem Vals.zero:∀ {us:List Value},Vals [] us -> us = []
 | _,.nil=>rfl
theorem Vals.dropLast {xs:List V}  (h:Vals xs us):Vals xs.dropLast us.dropLast:=by
 induction h with
 | nil=>exact .nil
 | cons r t ih=>
  cases t with
  | nil=>exact .nil
  | cons q t'=>exact .cons r ih
theorem zN {α:Type} (l:List α):l.eraseIdx (l.length - 1) = l.dropLast:=by
 induction l with
 | nil=>rfl
 | cons a r ih=>
  cases r with
  | nil=>rfl
  | cons b r=>
   have e:(a :: b :: r).length - 1 = ((b :: r).length - 1) + 1:=by
    have h1:(a :: b :: r).length = r.length + 2:=rfl
    have h2:(b :: r).length = r.length + 1:=rfl
    lia
   rw [e,List.eraseIdx_cons_succ,ih]
   all_goals rfl
section
variable {X:Cx} {pins:List (Addr × Obj)} {σ:St} {H:Hp} {s:Shared} {l b:Addr} {xs ys zs:List V}
theorem Inv.lset {its its':List Value} {n:Nat} {f:Array Value -> Array Value} {t':Nat} (I:Inv X pins σ H s) (hH:H l = some (.lst xs))
  (e:s.heap.get? l = some { cls:=.type "list",data:=.seq its.toArray n }) (hf:f its.toArray = its'.toArray) (hv:Vals ys its') (hz:ys.length <= sizeLine) :
  Inv X pins σ (upd H l (.lst ys)) { s with heap:=s.heap.update l (Obj.mapSeq f),toks:=t' }:=by
 have q:=PySem.IsL.update e f
 rw [hf] at q
 refine I.write (x:=l) (e:=l) (by rw [hH];exact trivial) (.inl rfl) (fun b' u hb hu=>(Heap.get?_update_other s.heap (Obj.mapSeq f) (Ne.symm hb)).trans hu) ⟨_,q⟩ ?_
 exact ⟨hz,its',_,hv,q⟩
theorem Inv.lnew {its:List Value} {t':Nat} (I:Inv X pins σ H s) (hv:Vals ys its) (hz:ys.length <= sizeLine) :
  Inv X pins σ (upd H s.heap.objs.size (.lst ys)) { s with heap:=s.heap.push { cls:=.type "list",data:=.seq its.toArray },toks:=t' }:=
 I.laid (fun _ _ q=>Heap.get?_push_of_some _ q) (Nat.le_refl _) ⟨hz,its,0,hv,Heap.get?_push_size _ rfl⟩
theorem Inv.fresh (I:Inv X pins σ H s):H s.heap.objs.size = none:=I.hok.fresh (Nat.le_refl _)
theorem Inv.lstM (I:Inv X pins σ H s) (hH:H l = some (.lst xs)):xs.length <= sizeLine /\ ∃ (its:List Value) (n:Nat),Vals xs its /\ xs.length = its.length /\ s.heap.get? l = some { cls:=.type "list",data:=.seq its.toArray n }:=by
 obtain ⟨z,its,n,r,e⟩:=I.hok l _ hH
 exact ⟨z,its,n,r,r.length,e⟩
theorem EU {n:Nat} (h:n <= sizeLine):Builtin.List.listTooLong n = false:=by
 unfold Builtin.List.listTooLong
 exact decide_eq_false (by lia)
end
section
variable {X:Cx}
noncomputable def rAppend:V -> List V -> Hp -> VK -> Prop:=fun x vs H Q=>∃ l xs y,x = .ref l /\ vs = [y] /\ H l = some (.lst xs) /\ xs.length < sizeLine /\ Q .non (upd H l (.lst (xs ++ [y])))
theorem pG:MtM X "list.append" rAppend:=by
 intro pins s σ H x vs v us Q I rx rv h
 obtain ⟨l,xs,y,rfl,rfl,hH,hz,q⟩:=h
 cases rx
 obtain ⟨u,rfl,ru⟩:=rv.one
 obtain ⟨z,its,n,r,hl,e⟩:=I.lstM hH
 refine call_meets F.slot_list_append ⟨_,e,rfl⟩ F.entry_list_append (F.args_list_append_2 _ _) (PySem.list_append l its.toArray n u (by rw [List.size_toArray];lia)) ⟨e,?_⟩
 refine ⟨.non,_,I.lset (its':=its ++ [u]) hH e (by simp) (r.append (.cons ru .nil)) ?_,rfl,q⟩
 rw [List.length_append,List.length_singleton]
 lia
noncomputable def rPop:V -> List V -> Hp -> VK -> Prop:=fun x vs H Q=>∃ l xs y,x = .ref l /\ vs = [] /\ H l = some (.lst xs) /\ xs[xs.length - 1]? = some y /\ Q y (upd H l (.lst xs.dropLast))
theorem Jg:MtM X "list.pop" rPop:=by
 intro pins s σ H x vs v us Q I rx rv h
 obtain ⟨l,xs,y,rfl,rfl,hH,hy,q⟩:=h
 cases rx
 have hus:=rv.zero
 subst hus
 obtain ⟨z,its,n,r,hl,e⟩:=I.lstM hH
 obtain ⟨u,hu,ru⟩:=r.get hy
 have hy':its.toArray[its.toArray.size - 1]? = some u:=by
  show its.toArray[its.length - 1]? = some u
  rw [<- Array.getElem?_toList,<- hl]
  exact hu
 refine call_meets F.slot_list_pop ⟨_,e,rfl⟩ F.entry_list_pop (F.args_list_pop_1 _) (MeetsSeq.list_pop_last l its.toArray n u hy' (by rw [List.size_toArray];lia)) ⟨e,?_⟩
 refine ⟨y,_,I.lset (its':=its.dropLast) hH e ?_ r.dropLast ?_,ru,q⟩
 ·show its.toArray.eraseIdxIfInBounds (its.toArray.size - 1) = its.dropLast.toArray
  rw [List.size_toArray,List.eraseIdxIfInBounds_toArray,zN]
 ·rw [List.length_dropLast]
  lia
end
section
variable {prog:Program} {w:World} {A:Around} {E:Value -> Shared -> Prop} {s:Shared}
end
section
variable {X:Cx}
end
end L2
namespace Att
open PySem PySem.W PySem.Calls PyProof.Rows
theorem qO:∀ (ns:List Int) (vs:List Value),WellAll P h vs (ns.map WData.int) -> IntsAre vs ns:=by
 intro ns
 induction ns with
 | nil=>
  intro vs w
  rw [List.map_nil] at w
  cases w
  exact .nil
 | cons n ns ih=>
  intro vs w
  rw [List.map_cons] at w
  cases w with
  | cons a b=>
   cases a
   exact .cons _ _ (ih _ b)
theorem Df {l:OpenLaw} {n:Nat} (hn:l.most = some n)   {args:List WData} 
  (hpre:l.row.toRowW.claim.pre args = true) (hwl:WellAll P h vals args) :
  ∃ a vs ns,vals = [Value.ref a] /\ args = [WData.list (ns.map WData.int)] /\ h.get? a = some { cls:=.type "list",data:=.seq vs.toArray } /\ IntsAre vs ns /\ ns.length <= n:=by
 have hsh:WShape.hasAll [] args [.list .int] = true:=(pre_splitW hpre).1
 have hc:l.pre.holds [] { args:=args } = true:=(pre_splitW hpre).2
 obtain ⟨d,r,rfl,h1,h2⟩:=hasAllW_cons hsh
 obtain rfl:=hasAllW_nil h2
 obtain ⟨xs,rfl,h3⟩:=hasW_list h1
 obtain ⟨ns,rfl⟩:=items_int h3
 have hlen:ns.length <= n:=by
  unfold OpenLaw.pre at hc
  have h4:(WTm.not (.lt (.lit (.int (n:Int))) (.len (.arg 0)))).holds [] { args:=[.list (ns.map .int)] } = true:=by
   have h4:=(holds_andW hc).1
   rw [hn] at h4
   exact h4
  have h5:=condW_of h4 (w_not (w_lt w_lit (w_len_list (w_arg rfl))))
  rw [List.length_map] at h5
  refine Nat.le_of_not_lt fun q=>?_
  have q':(n:Int) < ((ns.length:Nat):Int):=by omega
  first
   | (rw [decide_eq_true q'] at h5;exact absurd h5 (by decide))
   | (simp at h5;omega)
 cases hwl with
 | cons w1 w2=>
  cases w2
  cases w1 with
  | list ho hall=>exact ⟨_,_,ns,rfl,rfl,ho,qO ns _ hall,hlen⟩
theorem Db (l:OpenLaw) (args:List WData):l.row.toRowW.claim.post args (.bool true) args = true:=
 postW_of (r:=l.row.toRowW) (X:=(true == true))
  (show WShape.has [] (.bool true) .bool = true by first | rfl | decide | simp [WShape.has,WShape.arms,WShape.armsAll])
  (show (WTm.eq .res (.lit (.bool true))).value [] { args:=args,res:=some (.bool true),after:=args } = some (.bool (true == true)) from w_eq_bool (w_res rfl) w_lit) rfl
theorem xA {l:OpenLaw} {n:Nat}    {YP:World -> Heap -> Prop} {d:DefRec}
  (hn:l.most = some n) (hdf:d.params.defaults = [])
  (call:∀ (w:World) (s₀ s₁:Shared) (mg mb:Str -> Option Value) (fa:Addr) (o:Obj) (pm cd doc:Value) (a:Addr) (vs:List Value) (ns:List Int),
   Ground q loose [] XP w s₀ mg mb s₁.heap -> YP w s₁.heap ->
   s₁.heap.get? fa = some o -> o.data = .func (docDef d.name d.params d.body d.scope pm cd doc) -> s₁.heap.CodeRec cd d.name -> mg d.name = some (.ref fa) ->
   s₁.heap.get? a = some { cls:=.type "list",data:=.seq vs.toArray } -> IntsAre vs ns -> ns.length <= n -> s₁.gens = #[] ->
   codeAny (model l.prog w) callerA (.call (.ref fa) ⟨[.ref a],[]⟩) (fun r s'=>r = .ok (.ret (.bool true)) /\ OldK s₁.heap s'.heap /\ s'.os = s₁.os /\ AllBare s'.gens) s₁) :
  WalkO q loose XP YP l.row.toRowW d [] (fun f vs=>PySem.call f vs):=by
 intro w s₀ s₁ mg mb G Y fa o pm cd doc dV kV ho hd hcd hD hmg hg args vals as hpre hlay hrd hwl hlo
 obtain rfl:dV = .none:=Dflts.none hD hdf
 obtain rfl:kV = .none:=Dflts.noKw hD
 obtain ⟨a,vs,ns,rfl,rfl,hobj,hints,hlen⟩:=Df hn hpre hwl
 refine enter_call (codeAny_mono (call w s₀ s₁ mg mb fa o pm cd doc a vs ns G Y ho (fd_plain hd) hcd hmg hobj hints hlen hg) fun r s' hq=>?_)
 obtain ⟨rfl,h2,h3,h4⟩:=hq
 exact ⟨.inl ⟨.bool true,.bool true,[],rfl,fun _=>rfl,.bool true,Db l _,fun _=>⟨List.Pairwise.nil,fun _ hm=>(nomatch hm)⟩⟩,h2,h3,h4⟩
section
variable {prog:Program} {w:World} {A:Around} {E:Value -> Shared -> Prop} {s:Shared} {K:Frag}
end
end Att
namespace L2
open PySem PySem.Spec PyProof.Rows
theorem vV:∀ {vs:List Value} {ns:List Int},IntsAre vs ns -> Vals (ns.map V.int) vs
 | _,_,.nil=>.nil
 | _,_,.cons n t h=>.cons ⟨t,rfl⟩ (vV h)
def Ih (H:Hp):Prop:=∀ b,H b = none \/ ∃ o xs,H b = some (.frz o (.lst xs))
theorem EA   {K:W.Frag} {mg mb:Str -> Option Value} {CX:CXT} {k:Nat} {a:Addr} {fd:FuncData} {x:Str} {sp:Sp} {s₁:Shared} {vs:List Value} 
  (KX:K.In s₁.heap) (hns:s₁.heap.Ns mainGlobals mg) (hb:s₁.heap.Ns builtinsNs mb) (hbb:∀ x:Str,x ≠ "__name__" -> mb x = bootBuiltins x) (hlim:s₁.heap.NoLimit) (hg:s₁.gens = #[])
  (ha:s₁.heap.get? a = some { cls:=.type "list",data:=.seq vs.toArray }) (hi:IntsAre vs ns) (hl:ns.length <= sizeLine) (hr:Room k callerA)
  (F:∀ base:Heap,K.In base -> base.Ns mainGlobals mg -> FnOk P w K mg base CX k fa fd [x] sp) (hbind:∀ (s:Shared) (u:Value),BindsTo s fd ⟨[u],[]⟩ [(x,u)])
  (hsp:∀ H:Hp,Ih H -> SqL K H a (ns.map V.int) -> sp [.ref a] H (fun v _=>v = .bl true) fun _ _ _=>False)
  (hCX:∀ H e s',CX [] H s₁ (fun _ _ _=>False) e s' -> False) :
  codeAny (model P w) callerA (.call (.ref fa) ⟨[.ref a],[]⟩) (fun r s'=>r = .ok (.ret (.bool true)) /\ OldK s₁.heap s'.heap /\ s'.os = s₁.os /\ AllBare s'.gens) s₁:=by
 have rv:=vV hi
 have lenV:=hi.length
 -- from an abstract heap in which nothing but the script may be tracked
 have core:∀ H:Hp,Ih H -> SqL K H a (ns.map V.int) -> HOk P w H s₁.heap -> (∀ b,H b ≠ none -> b = a) -> (H a ≠ none -> K.lookup a = none) ->
   codeAny (model P w) callerA (.call (.ref fa) ⟨[.ref a],[]⟩) (fun r s'=>r = .ok (.ret (.bool true)) /\ OldK s₁.heap s'.heap /\ s'.os = s₁.os /\ AllBare s'.gens) s₁:=by
  intro H hO hS hok hA hK
  have base_of:∀ {b:Addr} {o:Obj},s₁.heap.get? b = some o -> H b = none -> (wz s₁.heap H).get? b = some o:=fun e n=>Em e n
  have noA:∀ {b:Addr} {o:Obj} {es:Array DictEntry} {ep:Nat},s₁.heap.get? b = some o -> o.data = .dict es ep -> H b = none:=fun {b o es ep} e d=>by
   cases q:H b with
   | none=>rfl
   | some u=>
    have e':b = a:=hA b (by rw [q];simp)
    subst e'
    rw [ha] at e;cases e
    have d':Data.seq vs.toArray _ = Data.dict es ep:=d
    cases d'
  have nsK:∀ {b:Addr} {m:Str -> Option Value},s₁.heap.Ns b m -> (wz s₁.heap H).Ns b m:=fun {b m} ⟨o,es,ep,e,d,r⟩=>⟨o,es,ep,base_of e (noA e d),d,r⟩
  have hKb:K.In (wz s₁.heap H):=fun b o e=>base_of (KX b o e) (by
   cases q:H b with
   | none=>rfl
   | some u=>
    have e':b = a:=hA b (by rw [q];simp)
    subst e'
    rw [hK (by rw [q];simp)] at e;cases e)
  have hM:Mod K mg (wz s₁.heap H):=⟨hKb,nsK hns,⟨mb,nsK hb,hbb⟩,let ⟨mc,h1,h2⟩:=hlim;⟨mc,nsK h1,h2⟩⟩
  have e0:Env0 P w K mg (wz s₁.heap H) callerA [] s₁ H:=⟨rfl,hM,fun b o e=>GQ e,Nat.le_of_eq (Cv _ _),trivial,fun b hb=>absurd (show b ∈ ([]:List Addr) from hb) (by simp),hok,.of_eq hg⟩
  refine codeAny_mono ((F _ hKb (nsK hns)).run callerA [] s₁ H ⟨[.ref a],[]⟩ [.ref a] [.ref a] _ _ hr e0 (hbind s₁ (.ref a)) (.cons rfl .nil) (hsp H hO hS)) fun r s' h=>?_
  cases r with
  | error e=>exact (hCX H e s' h).elim
  | ok fl=>
   cases fl with
   | next=>exact False.elim h
   | brk=>exact False.elim h
   | cont=>exact False.elim h
   | ret u=>
    obtain ⟨v,H',os,bare,un,hok',r',q⟩:=h
    have q':v = .bl true:=q
    subst q'
    obtain rfl:u = Value.bool true:=r'
    refine ⟨rfl,OldK.of_keep fun b o e=>?_,os,bare⟩
    cases q:H b with
    | none=>exact un.keep b o e q (by intro z;exact absurd (show b ∈ ([]:List Addr) from z) (by simp)) (by simp)
    | some u=>
     rcases hO b with z | ⟨ob,xs,z⟩
     ·rw [q] at z;cases z
     ·have z2:=un.frzs b ob _ z
      obtain ⟨e1,_⟩:=hok b _ z
      obtain ⟨e2,_⟩:=hok' b _ z2
      rw [e] at e1;cases e1
      exact e2
 cases hk:K.lookup a with
 | some o=>
  -- the script is one of the module's own objects
  have e:=KX a o hk
  rw [ha] at e
  cases e
  refine core (fun _=>none) (fun _=>.inl rfl) (.inr ⟨_,vs.toArray,_,hk,rfl,rfl,rfl,by rw [List.size_toArray,lenV];exact hl,by simpa using rv⟩) (fun b u z=>by have z':(none:Option HO) = some u:=z;cases z') (fun b z=>absurd rfl z) fun z=>absurd rfl z
 | none=>
  refine core (fun b=>if b = a then some (.frz { cls:=.type "list",data:=.seq vs.toArray } (.lst (ns.map V.int))) else none) (fun b=>?_) (.inl (.inr ⟨{ cls:=.type "list",data:=.seq vs.toArray },if_pos rfl⟩)) (fun b u z=>?_) (fun b z=>?_) fun _=>hk
  ·by_cases hb:b = a
   ·exact .inr ⟨_,_,if_pos hb⟩
   ·exact .inl (if_neg hb)
  ·by_cases hb:b = a
   ·have z':=(if_pos hb).symm.trans z
    cases z'
    subst hb
    exact ⟨ha,by rw [List.length_map];exact hl,vs,_,rv,ha⟩
   ·have z':=(if_neg hb).symm.trans z
    cases z'
  ·by_cases hb:b = a
   ·exact hb
   ·exact absurd (if_neg hb) z
theorem HA {l:W.OpenLaw} {n k:Nat}    {YP:World -> Heap -> Prop} {d:DefRec} {K:Params -> W.Frag} {CX:World -> CXT} {sp:World -> Sp} {x:Str}
  (hn:l.most = some n) (hn2:n <= sizeLine) (hdf:d.params.defaults = []) (hr:Room k callerA)
  (hY:∀ (w:World) (h:Heap),YP w h -> (K w.params).In h)
  (F:∀ (w:World) (mg:Str -> Option Value) (fa:Addr) (h:Heap),(K w.params).In h -> h.Ns mainGlobals mg -> mg d.name = some (.ref fa) ->
   ∃ fd:FuncData,(∀ (s:Shared) (u:Value),BindsTo s fd ⟨[u],[]⟩ [(x,u)]) /\
    ∀ base:Heap,(K w.params).In base -> base.Ns mainGlobals mg -> FnOk l.prog w (K w.params) mg base (CX w) k fa fd [x] (sp w))
  (hsp:∀ (w:World) (H:Hp) (a:Addr) (ns:List Int),ns.length <= n -> Ih H -> SqL (K w.params) H a (ns.map V.int) -> sp w [.ref a] H (fun v _=>v = .bl true) fun _ _ _=>False)
  (hCX:∀ (w:World) (H:Hp) (s:Shared) (e:Value) (s':Shared),CX w [] H s (fun _ _ _=>False) e s' -> False) :
  W.WalkO q loose XP YP l.row.toRowW d [] (fun f vs=>PySem.call f vs):=by
 refine Att.xA hn hdf fun w s₀ s₁ mg mb fa o pm cd doc a vs ns G Y ho hd hcd hmg hobj hints hlen hg=>?_
 have KX:=hY w _ Y
 obtain ⟨fd,hb,hF⟩:=F w mg fa _ KX G.T.g hmg
 exact EA KX G.T.g G.T.b G.T.builtins G.T.nolimit hg hobj hints (Nat.le_trans hlen hn2) hr hF hb (fun H hO hS=>hsp w H a ns hlen hO hS) fun H e s'=>hCX w H s₁ e s'
noncomputable def gc (s:Stmt) (j:Nat):Stmt:=match s with
 | .ClassDef _ _ _ body _ _ _ _ _ _ _=>body.getD j (.Pass ⟨0,0,0,0⟩)
 | _=>.Pass ⟨0,0,0,0⟩
noncomputable def nL (s:Stmt):Arguments:=match s with
 | .FunctionDef _ a _ _ _ _ _ _ _ _=>a
 | _=>{ posonlyargs:=[],args:=[],vararg:=none,kwonlyargs:=[],kw_defaults:=[],kwarg:=none,defaults:=[] }
noncomputable def ik (s:Stmt):List Stmt:=match s with
 | .FunctionDef _ _ b _ _ _ _ _ _ _=>b
 | _=>[]
noncomputable def aq (s:Stmt):Scope:=match s with
 | .FunctionDef _ _ _ _ _ _ sc _ _ _=>sc
 | _=>{ kind:=.function,names:=[],isGenerator:=false,isCoroutine:=false }
noncomputable abbrev CX0:CXT:=fun _ _ _ _ _ _=>False
noncomputable abbrev E0:XK:=fun _ _ _=>False
theorem tI:jU CX0 X E0:=fun _ _ _ _ _ _ _ h=>h.elim
structure Fun (K:W.Frag) (x qual:Str) (st:Stmt) (f:Addr) (fd:FuncData):Prop where
 ex:∃ (oc:Value) (od:Option Addr) (kV doc pm:Value) (an:Option Addr) (cdv ct:Value) (osl:Array (Option Value)),
  fd = W.fnOf x qual (nL st) (ik st) (aq st) .none kV doc pm an cdv ct /\ K.lookup f = some ⟨oc,od,.func fd,osl⟩ /\ W.codeIn K cdv qual = true
 kp:W.keepIn K (.ref f) = true
section
variable {P:Program} {w:World} {K:W.Frag} {mg:Str -> Option Value} {base:Heap}
theorem Fun.ok {x qual:Str} {st:Stmt} {f:Addr} {fd:FuncData} {N ps:List Str} {k:Nat} {sp:Sp} (F:Fun K x qual st f fd) (S:FnScope N ps (aq st)) (len:∀ vs H Q E,sp vs H Q E -> vs.length = ps.length)
  (hbody:∀ (cdv:Value) (A:Around) (outer:List Env) (s:Shared) (H:Hp) (vs:List V) (Q:VK) (E:XK),Room k (A.deeper (envOfC qual (aq st) s.heap.objs.size f cdv)) -> sp vs H Q E ->
   ∃ t,PSs (xP CX0 P w K mg base N qual (aq st) f cdv A outer s H E).nox (ik st) t /\ t { nx:=fun _ H'=>Q .non H',rt:=Q } (di N vs) H):FnOk P w K mg base CX0 (k + 1) f fd ps sp:=by
 obtain ⟨oc,od,kV,doc,pm,an,cdv,ct,osl,rfl,lk,hcd⟩:=F.ex
 refine KQ lk hcd S len fun A outer s H vs Q E hr hsp=>?_
 obtain ⟨t,h,q⟩:=hbody cdv A outer s H vs Q E hr hsp
 exact ⟨t,h.nox,q⟩
theorem Fun.binds {qual:Str} {st:Stmt}  {fd:FuncData} {ps:List Str} (F:Fun K x qual st f fd)
  (h:∀ (kV doc pm:Value) (an:Option Addr) (cdv ct:Value) (us:List Value),us.length = ps.length -> bindArgs (W.fnOf x qual (nL st) (ik st) (aq st) .none kV doc pm an cdv ct) ⟨us,[]⟩ = pure (ps.zip us)):Binds K fd ps []:=by
 obtain ⟨oc,od,kV,doc,pm,an,cdv,ct,osl,rfl,lk,hcd⟩:=F.ex
 exact .all (h kV doc pm an cdv ct)
theorem Eg {x qual:Str} {st:Stmt} {f:Addr} {oc:Value} {od an:Option Addr} {osl:Array (Option Value)} {kV doc pm cdv ct:Value} (l:K.lookup f = some ⟨oc,od,.func (W.fnOf x qual (nL st) (ik st) (aq st) .none kV doc pm an cdv ct),osl⟩)
  (c:W.codeIn K cdv qual = true) (k:W.keepIn K (.ref f) = true):Fun K x qual st f (W.fnOf x qual (nL st) (ik st) (aq st) .none kV doc pm an cdv ct):=⟨⟨oc,od,kV,doc,pm,an,cdv,ct,osl,rfl,l,c⟩,k⟩
end
section
variable {X:Cx}
theorem pv (i:Nat) {x:Str} {pos:Pos} (hN:X.N[i]? = some x:=by rfl) (hv:Vis X.env.scope x:=by first | exact Or.inl rfl | exact Or.inr (.inl rfl) | exact Or.inr (.inr rfl)) (hd:(x == ("__debug__" : Str)) = false:=by decide)
  (hcd:(x == ("__classdict__" : Str)) = false:=by decide):PE X (.Name x pos) (pS i):=Jv hN hv hd hcd
end
theorem CC {A B:Prop} (h:B):if false = true then A else B:=by
 rw [if_neg Bool.false_ne_true]
 exact h
theorem CD {A B:Prop} (h:A):if true = true then A else B:=by
 rw [if_pos rfl]
 exact h
def Same (H H':Hp):Prop:=∀ b o,H b = some o -> H' b = some o
theorem Same.refl (H:Hp):Same H H:=fun _ _ h=>h
theorem Same.trans {H1 H2:Hp} (a:Same H H1) (b:Same H1 H2):Same H H2:=fun c o h=>b c o (a c o h)
theorem Same.free {H':Hp} (e:Same H H') {l:Addr} (h:H' l = Option.none):H l = Option.none:=by
 cases q:H l with
 | none=>rfl
 | some o=>
  rw [e l o q] at h
  cases h
end L2
set_option linter.all false
set_option maxHeartbeats 4000000
set_option maxRecDepth 100000
namespace L2
open PySem PySem.Spec PyProof.Rows
structure CmpOk (XN:List Str) (sc scope:Scope) (N:List Str) (js:List (Option Nat)):Prop where
 kind:scope.kind = .function
 cell:∀ y ∈ scope.names,y.2 ≠ .cell
 free:∀ y ∈ scope.names,y.2 = .free -> sc.names.lookup y.1 = some .cell \/ sc.names.lookup y.1 = some .free
 loc:∀ y ∈ scope.names,y.2 = .local -> scope.names.lookup y.1 = some .local
 len:js.length = N.length
 ix:((N.zip js).all fun p=>match p.2 with | none=>true | some j=>decide (XN[j]? = some p.1) && decide (scope.names.lookup p.1 = some .free)) = true
noncomputable def fj (env:Env):List (Str × NameKind) -> List (Str × Addr) -> List (Str × Addr)
 | [],cs=>cs
 | (n,k) :: r,cs=>fj env r (if k = .free then (match env.cells.lookup n with | some c=>(n,c) :: cs | none=>cs) else cs)
theorem rY {env:Env}:∀ {names:List (Str × NameKind)} {cs:List (Str × Addr)},(∀ n c,cs.lookup n = some c -> env.cells.lookup n = some c) -> ∀ n c,(fj env names cs).lookup n = some c -> env.cells.lookup n = some c
 | [],_,h=>h
 | (m,k) :: r,cs,h=>by
  unfold fj
  refine rY ?_
  split
  ·cases e:env.cells.lookup m with
   | none=>exact h
   | some d=>
    intro n c hn
    dsimp only at hn
    rw [List.lookup_cons] at hn
    cases q:n == m with
    | true=>
     rw [q] at hn
     have e1:n = m:=by simpa using q
     cases hn
     rw [e1];exact e
    | false=>rw [q] at hn;exact h n c hn
  ·exact h
theorem rX {env:Env}:∀ {names:List (Str × NameKind)} {cs:List (Str × Addr)} {n:Str},((n,NameKind.free) ∈ names /\ (∃ c,env.cells.lookup n = some c)) \/ (∃ c,cs.lookup n = some c) -> ∃ c,(fj env names cs).lookup n = some c
 | [],_,_,h=>h.elim (fun z=>by cases z.1) id
 | (m,k) :: r,cs,n,h=>by
  unfold fj
  refine rX ?_
  rcases h with ⟨hm,c,hc⟩ | ⟨c,hc⟩
  ·rcases List.mem_cons.mp hm with e | hm
   ·cases e
    right
    rw [if_pos rfl,hc]
    exact ⟨c,by rw [List.lookup_cons];simp⟩
   ·exact .inl ⟨hm,c,hc⟩
  ·right
   split
   ·cases e:env.cells.lookup m with
    | none=>exact ⟨c,hc⟩
    | some d=>
     dsimp only
     rw [List.lookup_cons]
     cases q:n == m with
     | true=>exact ⟨d,rfl⟩
     | false=>exact ⟨c,hc⟩
   ·exact ⟨c,hc⟩
theorem ml {env:Env} {scope:Scope} (h:∀ y ∈ scope.names,y.2 = .free -> ∃ c,env.cells.lookup y.1 = some c):closureFor scope env = pure (fj env scope.names []):=by
 have key:∀ (names:List (Str × NameKind)) (cs:List (Str × Addr)),(∀ y ∈ names,y.2 = .free -> ∃ c,env.cells.lookup y.1 = some c) ->
   (forIn names cs (fun (x:Str × NameKind) r=>if (x.2 == NameKind.free) = true then (do let a ← cellOf env x.1;pure (ForInStep.yield ((x.1,a) :: r))) else pure (ForInStep.yield r)):Sem (List (Str × Addr))) = pure (fj env names cs):=by
  intro names
  induction names with
  | nil=>intro cs _;rfl
  | cons y r ih=>
   intro cs hy
   obtain ⟨n,k⟩:=y
   rw [List.forIn_cons]
   unfold fj
   by_cases hk:k = .free
   ·subst hk
    obtain ⟨c,hc⟩:=hy _ List.mem_cons_self rfl
    have e1:cellOf env n = pure c:=by unfold cellOf;rw [hc]
    rw [if_pos (by rfl)]
    rw [if_pos rfl,hc]
    show ((cellOf env n >>= fun a=>pure (ForInStep.yield ((n,a) :: cs))) >>= _) = _
    rw [e1]
    exact ih _ fun z hz=>hy z (List.mem_cons_of_mem _ hz)
   ·have hb:(k == NameKind.free) = false:=by simpa using hk
    rw [if_neg (by rw [hb];decide),if_neg hk]
    exact ih _ fun z hz=>hy z (List.mem_cons_of_mem _ hz)
 have k:=key scope.names [] h
 unfold closureFor
 show (forIn scope.names ([]:List (Str × Addr)) _ >>= fun cs=>pure cs) = _
 refine Eq.trans (congrArg (fun t=>t >>= fun cs=>pure cs) (Eq.trans ?_ k)) rfl
 congr 1
theorem mX {env:Env}:∀ {names:List (Str × NameKind)} {x:Str},names.lookup x = some .free ->
  (names.map fun (n,k)=>if (k == NameKind.free && env.scope.kind == .function && env.kindOf n == some .cell) then (n,NameKind.cell) else (n,k)).lookup x = some .cell \/
  (names.map fun (n,k)=>if (k == NameKind.free && env.scope.kind == .function && env.kindOf n == some .cell) then (n,NameKind.cell) else (n,k)).lookup x = some .free
 | [],_,h=>by simp at h
 | (n,k) :: r,x,h=>by
  have ih:=@mX env r x
  rw [List.map_cons]
  dsimp only
  cases q:x == n with
  | true=>
   rw [List.lookup_cons,q] at h
   cases h
   split
   ·left;rw [List.lookup_cons,q]
   ·right;rw [List.lookup_cons,q]
  | false=>
   rw [List.lookup_cons,q] at h
   split
   ·rw [List.lookup_cons,q];exact ih h
   ·rw [List.lookup_cons,q];exact ih h
theorem mW {env:Env}:∀ {names:List (Str × NameKind)} {x:Str} {j:NameKind},(∀ y ∈ names,y.2 ≠ .cell) -> (j = .cell \/ j = .free) ->
  (names.map fun (n,k)=>if (k == NameKind.free && env.scope.kind == .function && env.kindOf n == some .cell) then (n,NameKind.cell) else (n,k)).lookup x = some j -> (x,NameKind.free) ∈ names
 | [],_,_,_,_,h=>by simp at h
 | (n,k) :: r,x,j,hc,hj,h=>by
  have ih:=@mW env r x j (fun y hy=>hc y (List.mem_cons_of_mem _ hy)) hj
  rw [List.map_cons] at h
  dsimp only at h
  cases q:x == n with
  | true=>
   have e:x = n:=by simpa using q
   subst e
   split at h
   ·rename_i g
    have:k = .free:=by
     simp only [Bool.and_eq_true,beq_iff_eq] at g
     exact g.1.1
    subst this
    exact List.mem_cons_self
   ·rw [List.lookup_cons,q] at h
    cases h
    rcases hj with z | z
    ·exact absurd z (hc _ List.mem_cons_self)
    ·rw [z];exact List.mem_cons_self
  | false=>
   refine List.mem_cons_of_mem _ (ih ?_)
   split at h
   ·rw [List.lookup_cons,q] at h;exact h
   ·rw [List.lookup_cons,q] at h;exact h
noncomputable def inn (js:List (Option Nat)) (σ:St):St:=js.map fun o=>match o with | none=>none | some j=>(σ[j]?).join
structure CxZ where
 cl:List (Str × Addr)
 C:Addr
 s:Shared
 H:Hp
 fp:List Addr
 pins:List (Addr × Obj)
noncomputable def cxC (X:Cx) (N:List Str) (scope:Scope) (z:CxZ):Cx where
 prog:=X.prog
 w:=X.w
 K:=X.K
 mg:=X.mg
 base:=X.base
 A:=X.A
 N:=N
 s₀:=z.s
 H₀:=z.H
 env:=compEnvC scope z.cl z.C X.env
 outer:=X.stack
 stack:=X.stack
 ex:=z.fp
 fn:=fun _=>false
 calm:=X.calm
 pn:=X.pn ++ z.pins
 xe:=fun _ _=>False
section
variable {X:Cx} {pins:List (Addr × Obj)} {σ:St} {H:Hp} {s:Shared} {XN N:List Str} {sc scope:Scope} {js:List (Option Nat)}
theorem Eu {h1:Heap} {m:Str -> Option Value} {tk:Nat} {fp:List Addr} (ck:CmpOk XN sc scope N js) (hXN:X.N = XN) (hsc:X.env.scope = sc) (I:Inv X pins σ H s) (hf:∀ b ∈ fp,mf X pins H b)
  (hfo:∀ b ∈ fp,b < s.heap.objs.size) (hn:h1.Ns s.heap.objs.size m) (hk:∀ b o,s.heap.get? b = some o -> h1.get? b = some o) :
  Inv (cxC X N scope ⟨fj X.env scope.names [],s.heap.objs.size,s,H,fp,pins⟩) [] (inn js σ) H { s with heap:=h1,toks:=tk }:=by
 subst hXN hsc
 have sub:∀ n c,(fj X.env scope.names []).lookup n = some c -> X.env.cells.lookup n = some c:=rY fun n c h=>by simp at h
 have clt:∀ n c,(fj X.env scope.names []).lookup n = some c -> c < s.heap.objs.size:=fun n c h=>by
  obtain ⟨v,q⟩:=I.cell n c (sub n c h)
  exact q.lt
 have has:∀ x,(x,NameKind.free) ∈ scope.names -> ∃ c,(fj X.env scope.names []).lookup x = some c:=fun x hx=>
  rX (.inl ⟨hx,I.ok.has x (ck.free _ hx rfl)⟩)
 refine ⟨⟨I.ok.mod,ck.kind,I.ok.glob,I.ok.blt,Nat.le_refl _,fun x y c h1 h2=>I.ok.inj x y c (sub x c h1) (sub y c h2),fun x hx=>?has,fun x c hx=>?cab,I.ok.hd,I.ok.frames,.inl rfl,fun b hb=>?exf,I.bs,?bsz,fun b o e hb=>?noex,fun b hb=>?exfs,I.stack,I.stkFree⟩,
  rfl,I.bare,Un.kept hk,⟨m,hn,fun i x v h1 h2 h3=>?loc⟩,fun x c h=>?cell,I.hok.fresh (Nat.le_refl _),fun x c h=>I.freeC x c (sub x c h),fun p hp=>?pin,I.hok.kept hk,?len⟩
 case has=>
  rcases hx with hx | hx
  ·exact has x (mW ck.cell (.inl rfl) hx)
  ·exact has x (mW ck.cell (.inr rfl) hx)
 case cab=>cases hx
 case exf=>
  obtain ⟨f0,f1,f2,f3,f4,f5⟩:=hf b hb
  exact ⟨Nat.ne_of_lt (hfo b hb),fun x c e=>f4 x c (sub x c e)⟩
 case bsz=>exact Nat.le_trans I.ok.bsz I.sz
 case noex=>
  obtain ⟨f0,f1,f2,f3,f4,f5⟩:=hf b hb
  rcases f3 with f3 | f3
  ·exact I.ok.noex b o e f3
  ·exact absurd (Nat.lt_of_lt_of_le (Heap.lt_size e) (Nat.le_trans I.ok.bsz f3)) (Nat.lt_irrefl _)
 case exfs=>
  obtain ⟨f0,f1,f2,f3,f4,f5⟩:=hf b hb
  intro z
  rcases List.mem_cons.mp (I.stkSub b z) with e | e
  ·exact f1 e
  ·exact f2 e
 case loc=>
  have hl:N.length = js.length:=ck.len.symm
  have hi:i < js.length:=by
   have:=(List.getElem?_eq_some_iff.mp h1).1
   have e:(cxC X N scope ⟨fj X.env scope.names [],s.heap.objs.size,s,H,fp,pins⟩).N = N:=rfl
   rw [e] at this
   lia
  have hN:N[i]? = some x:=h1
  have hj:js[i]? = some js[i]:=List.getElem?_eq_getElem hi
  unfold inn at h2
  rw [List.getElem?_map,hj] at h2
  cases q:js[i] with
  | none=>rw [q] at h2;cases h2
  | some j=>
   rw [q] at h2 hj
   have h2':(σ[j]?).join = some v:=Option.some.inj h2
   have hσ:σ[j]? = some (some v):=by
    cases e:σ[j]? with
    | none=>rw [e] at h2';cases h2'
    | some o=>rw [e] at h2';exact congrArg some h2'
   have hm:(x,some j) ∈ N.zip js:=by
    refine List.mem_of_getElem? (i:=i) ?_
    rw [List.getElem?_zip_eq_some]
    exact ⟨hN,hj⟩
   have hc:=List.all_eq_true.mp ck.ix _ hm
   simp only [Bool.and_eq_true,decide_eq_true_eq] at hc
   obtain ⟨c1,c2⟩:=hc
   have hfr:(x,NameKind.free) ∈ scope.names:=PySem.mem_of_lookup c2
   have hvis:X.env.scope.names.lookup x = some .cell \/ X.env.scope.names.lookup x = some .free:=ck.free _ hfr rfl
   obtain ⟨m0,hn0,hl0⟩:=I.loc
   obtain ⟨u,r,l⟩:=hl0 j x v c1 hσ (hvis.elim (fun z=>.inr (.inl z)) fun z=>.inr (.inr z))
   refine ⟨u,r,.inr ⟨?_,?_⟩⟩
   ·exact mX c2
   ·rcases l with ⟨k1,_⟩ | ⟨_,c,k1,k2⟩
    ·have k1':X.env.scope.names.lookup x = some .local:=k1
     rcases hvis with z | z
     ·rw [z] at k1';cases k1'
     ·rw [z] at k1';cases k1'
    ·obtain ⟨c',hc'⟩:=has x hfr
     have e:=sub x c' hc'
     rw [k1] at e
     cases e
     obtain ⟨oc,ho,hd⟩:=k2
     exact ⟨c,hc',oc,hk _ _ ho,hd⟩
 case cell=>
  obtain ⟨v,oc,ho,hd⟩:=I.cell x c (sub x c h)
  exact ⟨v,oc,hk _ _ ho,hd⟩
 case pin=>
  have hp':p ∈ X.pn ++ pins:=by simpa [cxC] using hp
  obtain ⟨p1,p2,p3,p4,p5⟩:=I.pin p hp'
  refine ⟨hk _ _ p1,p2,Nat.ne_of_lt (Heap.lt_size p1),fun z=>?_,p5⟩
  rcases List.mem_cons.mp (I.stkSub _ z) with e | e
  ·exact p3 e
  ·exact p4 e
 case len=>
  show (inn js σ).length = N.length
  unfold inn
  rw [List.length_map]
  exact ck.len
noncomputable abbrev TIf:=St -> Hp -> (Bool -> Hp -> Prop) -> Prop
def PIf (X:Cx) (ifs:List Expr) (t:TIf):Prop:=
 ∀ (pins:List (Addr × Obj)) (s:Shared) (σ:St) (H:Hp) (Q:Bool -> Hp -> Prop),Inv X pins σ H s -> t σ H Q ->
  wpAny (model X.prog X.w) X.A (forIn ifs true fun c r=>if r = true then do let ok ← isTrue c X.env (eval c X.env);pure (ForInStep.yield ok) else pure (ForInStep.yield r)) (TP X pins σ Q) X.xe s
noncomputable def HJ:TIf:=fun _ H Q=>Q true H
theorem rH:PIf X [] HJ:=fun _ _ _ H _ I h=>wpAny_tests_nil ⟨H,I,h⟩
theorem G5   (h:PT X c t):PIf X [c] t:=fun pins s σ H Q I q=>wpAny_tests_one (h pins s σ H Q I q)
def Lev (σ σ':St):Prop:=σ.length = σ'.length /\ ∀ (i:Nat) (v:V),σ[i]? = some (some v) -> σ'[i]? = some (some v)
theorem Lev.refl (σ:St):Lev σ σ:=⟨rfl,fun _ _ h=>h⟩
theorem Lev.trans  (h:Lev a b) (k:Lev b c):Lev a c:=⟨h.1.trans k.1,fun i v e=>k.2 i v (h.2 i v e)⟩
def qG (js:List (Option Nat)) (g:TG):Prop:=∀ (σ0:St) (v:V) (σ:St) (H:Hp) (Q:St -> Hp -> Prop),Lev (inn js σ0) σ -> g v σ H Q -> g v σ H fun σ' H'=>Lev (inn js σ0) σ' /\ Q σ' H'
def xw (js:List (Option Nat)) (g:TGs):Prop:=∀ (σ0:St) (vs:List V) (σ:St) (H:Hp) (Q:St -> Hp -> Prop),Lev (inn js σ0) σ -> g vs σ H Q -> g vs σ H fun σ' H'=>Lev (inn js σ0) σ' /\ Q σ' H'
theorem rL {i:Nat} (h:js[i]? = some none:=by rfl):qG js (gH i):=fun σ0 v σ H Q l q=>by
 refine ⟨⟨?_,fun j u e=>?_⟩,q⟩
 ·rw [List.length_set];exact l.1
 ·by_cases hij:i = j
  ·subst hij
   unfold inn at e
   rw [List.getElem?_map,h] at e
   cases e
  ·rw [List.getElem?_set_ne hij]
   exact l.2 j u e
theorem Hr:xw js Gy:=fun σ0 vs σ H Q l q=>⟨q.1,l,q.2⟩
theorem FP   (h:qG js t) (k:xw js u) (mono:∀ v σ H (Q Q':St -> Hp -> Prop),(∀ a b,Q a b -> Q' a b) -> t v σ H Q -> t v σ H Q'):xw js (Bd t u):=fun σ0 vs σ H Q l q=>by
 obtain ⟨v,r,e,q⟩:=q
 exact ⟨v,r,e,mono _ _ _ _ _ (fun σ' H' z=>k σ0 r σ' H' Q z.1 z.2) (h σ0 v σ H _ l q)⟩
theorem zT {i:Nat}:∀ v σ H (Q Q':St -> Hp -> Prop),(∀ a b,Q a b -> Q' a b) -> gH i v σ H Q -> gH i v σ H Q':=fun _ _ _ _ _ h q=>h _ _ q
theorem Kg {K:W.Frag} {n:Nat} {t:TGs} (h:xw js t):qG js (Gz K n t):=fun σ0 v σ H Q l q=>by
 obtain ⟨a,xs,e,hq,hl,q⟩:=q
 exact ⟨a,xs,e,hq,hl,h σ0 xs σ H Q l q⟩
noncomputable def vR (js:List (Option Nat)) (wi:TI) (g:TG) (tt:TIf) (te:TE):TE:=fun σ H Q=>wi σ H fun J H1=>∀ D,H1 D = none -> ∃ W:Nat -> Nat -> Hp -> Prop,(∃ m,W 0 m (upd H1 D (.lst []))) /\ ∀ i m H,W i m H ->
 (J.stop i H /\ Q (.ref D) H) \/ (J.go i H /\ ∀ x H',J.yld i H x H' -> g x (inn js σ) H' fun σ2 H2=>tt σ2 H2 fun b H3=>
  if b = true then te σ2 H3 fun y H4=>∃ ys,H4 D = some (.lst ys) /\ ys.length < sizeLine /\ ∃ m',m' < m /\ W (i + 1) m' (upd H4 D (.lst (ys ++ [y]))) else ∃ m',m' < m /\ W (i + 1) m' H3)
variable {tg iter elt:Expr} {ifs:List Expr} {pos:Pos} {wi:TI} {g:TG} {tt:TIf} {te:TE}
theorem Ci {E:Value -> Shared -> Prop} {R:Result -> Shared -> Prop} {it:Addr} {fp:List Addr}    {W:Nat -> Nat -> Hp -> Prop} {n:Nat}
  (hc:X.calm = true) (T:Turn X.prog X.w X.K tg J fp it tn) (hz:∀ b ∈ fp,∀ H',H' b = none -> mf (cxC X N scope z) [] H' b)
  (hg:PG (cxC X N scope z) tg g) (hs:qG js g) (ht:PIf (cxC X N scope z) ifs tt) (he:PE (cxC X N scope z) elt te)
  (turn:∀ i m H,W i m H -> (J.stop i H /\ ∀ s',Inv (cxC X N scope z) [] (inn js σ) H s' -> R (.ok .next) s') \/ (J.go i H /\ ∀ x H',J.yld i H x H' -> g x (inn js σ) H' fun σ2 H2=>tt σ2 H2 fun b H3=>
   if b = true then te σ2 H3 fun y H4=>∃ ys,H4 D = some (.lst ys) /\ ys.length < sizeLine /\ ∃ m',m' < m /\ W (i + 1) m' (upd H4 D (.lst (ys ++ [y]))) else ∃ m',m' < m /\ W (i + 1) m' H3))
   {H1:Hp} (I1:Inv (cxC X N scope z) [] (inn js σ) H1 s1) (t1:tn 0 s1.heap) (f1:∀ b ∈ fp,H1 b = none) (w1:W 0 n H1) :
  codeAny (model X.prog X.w) X.A (.compLoop (.ListComp elt [⟨tg,iter,ifs,0⟩] scope pos) 0 (.ref it) (.ref D) (compEnvC scope z.cl z.C X.env)) R s1:=by
 refine codeAny_loop (c:=.compLoop (.ListComp elt [⟨tg,iter,ifs,0⟩] scope pos) 0 (.ref it) (.ref D) (compEnvC scope z.cl z.C X.env)) rfl
  (fun k s'=>∃ i H',Inv (cxC X N scope z) [] (inn js σ) H' s' /\ tn i s'.heap /\ (∀ b ∈ fp,H' b = none) /\ W i k H') ?_ n ⟨0,H1,I1,t1,f1,w1⟩
 rintro k s2 ⟨i,H2,I2,t2,f2,w2⟩
 show wpAny (model X.prog X.w) X.A ((compTurn (.ListComp elt [⟨tg,iter,ifs,0⟩] scope pos) 0 (.ref it) (.ref D) (compEnvC scope z.cl z.C X.env)).onRaise fun x=>do noteFrame x (compEnvC scope z.cl z.C X.env);theTreesLotGoes x) _ _ s2
 refine wpAny_noted ?_
 rw [compTurn_list]
 refine wpAny_bind (wpAny_standAt ?_)
 rcases turn i k H2 w2 with ⟨stop,fin⟩ | ⟨go,step⟩
 ·refine wpAny_bind (thn (T.done (cxC X N scope z) rfl rfl rfl hc i [] s2 (inn js σ) H2 _ I2 (fun b hb=>hz b hb H2 (f2 b hb)) t2 stop) fun r s3 h3=>?_)
  obtain ⟨rfl,I3⟩:=h3
  exact wpAny_pure (fin s3 I3)
 ·refine wpAny_bind (thn (T.item (cxC X N scope z) rfl rfl rfl hc i [] s2 (inn js σ) H2 _ I2 (fun b hb=>hz b hb H2 (f2 b hb)) t2 go) fun r s3 h3=>?_)
  obtain ⟨u,rfl,h3⟩:=h3
  refine wpAny_bind (thn h3 fun _ s4 h4=>?_)
  obtain ⟨x,H4,I4,r4,y4,t4,f4⟩:=h4
  have P4:=I4.pinned (fun b hb=>hz b hb H4 (f4 b hb)) (T.obj _ _ t4)
  have ff:∀ {e:Value} {s':Shared},(cxC X N scope z).xe e s' -> False:=fun h=>h
  refine wpAny_bind (wpAny_mono (hg _ s4 (inn js σ) H4 x u _ P4 r4 (hs σ x (inn js σ) H4 _ (Lev.refl _) (step x H4 y4))) (fun _ s5 h5=>?_) fun _ _ h=>(ff h).elim)
  obtain ⟨σ5,H5,I5,lev,q5⟩:=h5
  refine wpAny_bind (wpAny_mono (ht _ s5 σ5 H5 _ I5 q5) (fun ok s6 h6=>?_) fun _ _ h=>(ff h).elim)
  obtain ⟨H6,I6,q6⟩:=h6
  have again:∀ {s7:Shared} {H7:Hp},Inv (cxC X N scope z) ([] ++ mQ fp s4.heap) σ5 H7 s7 -> (∃ m',m' < k /\ W (i + 1) m' H7) -> ∃ m,m < k /\ ∃ i H',Inv (cxC X N scope z) [] (inn js σ) H' s7 /\ tn i s7.heap /\ (∀ b ∈ fp,H' b = none) /\ W i m H':=fun {s7 H7} I7 h7=>by
   obtain ⟨m',hm,w7⟩:=h7
   refine ⟨m',hm,i + 1,H7,(I7.unpinned).weak lev.1 lev.2,T.keep _ _ _ t4 fun b hb o e=>(I7.pin (b,o) (List.mem_append_right _ (List.mem_append_right _ (eF hb e)))).1,fun b hb=>?_,w7⟩
   obtain ⟨o,e,d⟩:=T.obj _ _ t4 b hb
   exact (I7.pin (b,o) (List.mem_append_right _ (List.mem_append_right _ (eF hb e)))).2.1
  cases ok with
  | false=>
   rw [if_neg (by decide)] at q6
   exact wpAny_pure ⟨rfl,again I6 q6⟩
  | true=>
   rw [if_pos rfl] at q6
   refine wpAny_bind (wpAny_bind (wpAny_mono (he _ s6 σ5 H6 _ I6 q6) (fun y s7 h7=>?_) fun _ _ h=>(ff h).elim))
   obtain ⟨vy,H7,I7,r7,ys,hD,hl,q7⟩:=h7
   refine wpAny_bind (wpAny_mono (pG (X:=cxC X N scope z) _ s7 σ5 H7 (.ref D) [vy] (.ref D) [y] (fun _ H'=>∃ m',m' < k /\ W (i + 1) m' H') I7 rfl (.cons r7 .nil) ⟨D,ys,vy,rfl,rfl,hD,hl,q7⟩) (fun _ s8 h8=>?_) fun _ _ h=>(ff h).elim)
   obtain ⟨_,H8,I8,_,q8⟩:=h8
   exact wpAny_pure (wpAny_pure ⟨rfl,again I8 q8⟩)
theorem r9  {RR:Value -> Addr -> Result -> Shared -> Prop} {Q:VK}   (ck:CmpOk XN sc scope N js) (hXN:X.N = XN) (hsc:X.env.scope = sc) (hc:X.calm = true)
  (hg:∀ z,PG (cxC X N scope z) tg g) (hs:qG js g) (ht:∀ z,PIf (cxC X N scope z) ifs tt) (he:∀ z,PE (cxC X N scope z) elt te)
  (h2:PIE X pins σ tg (fun J H1=>∀ D,H1 D = none -> ∃ W:Nat -> Nat -> Hp -> Prop,(∃ m,W 0 m (upd H1 D (.lst []))) /\ ∀ i m H,W i m H ->
   (J.stop i H /\ Q (.ref D) H) \/ (J.go i H /\ ∀ x H',J.yld i H x H' -> g x (inn js σ) H' fun σ2 H2=>tt σ2 H2 fun b H3=>
    if b = true then te σ2 H3 fun y H4=>∃ ys,H4 D = some (.lst ys) /\ ys.length < sizeLine /\ ∃ m',m' < m /\ W (i + 1) m' (upd H4 D (.lst (ys ++ [y]))) else ∃ m',m' < m /\ W (i + 1) m' H3)) itv s2)
  (hRR:∀ D C s' H' m o,Inv X (pins ++ [(C,o)]) σ H' s' -> s'.heap.Ns C m -> (X.s₀.heap.objs.size <= C /\ C ≠ X.env.locals /\ (∀ x c,X.env.cells.lookup x = some c -> c ≠ C) /\ ∀ p ∈ X.pn ++ pins,p.1 ≠ C) -> H' C = none -> Q (.ref D) H' -> RR (.ref D) C (.ok .next) s') :
  wpAny (model X.prog X.w) X.A (newList []) (fun acc s₃=>wpAny (model X.prog X.w) X.A (newFunctionEnv scope X.env.globals (fj X.env scope.names []) [] X.env.qual none .none (some X.env)) (fun cenv s₄=>
   codeAny (model X.prog X.w) X.A (.compStart (.ListComp elt [⟨tg,iter,ifs,0⟩] scope pos) 0 itv acc { cenv with scope:=relabel scope X.env }) (RR acc cenv.locals) s₄) E s₃) E s2:=by
 obtain ⟨it,fp,tn,J,H2,rfl,I2,T,t2,f2,q2⟩:=h2
 have fo:∀ b ∈ fp,b < s2.heap.objs.size:=fun b hb=>by
  obtain ⟨o,e,_⟩:=T.obj _ _ t2 b hb
  exact Heap.lt_size e
 have hD:H2 s2.heap.objs.size = none:=I2.fresh
 obtain ⟨W,⟨n,w0⟩,turn⟩:=q2 _ hD
 refine wpAny_newObj_type (wpAny_newFunctionEnv ck.cell (by intro y hy;simp at hy) (fun h1 hns hsb=>?_) ck.kind)
 have I3:Inv X pins σ (upd H2 s2.heap.objs.size (.lst [])) { s2 with heap:=s2.heap.push { cls:=.type "list",data:=.seq ([]:List Value).toArray },toks:=s2.toks }:=I2.lnew (its:=[]) .nil (Nat.zero_le _)
 have f3:∀ b ∈ fp,mf X pins (upd H2 s2.heap.objs.size (.lst [])) b:=fun b hb=>by
  obtain ⟨g0,g1⟩:=f2 b hb
  exact ⟨by rw [aF (Nat.ne_of_lt (fo b hb))];exact g0,g1⟩
 have sz:(s2.heap.push { cls:=.type "list",data:=.seq ([]:List Value).toArray }).objs.size = s2.heap.objs.size + 1:=Heap.size_push _ _
 have kept:∀ b o,(s2.heap.push { cls:=.type "list",data:=.seq ([]:List Value).toArray }).get? b = some o -> h1.get? b = some o:=fun b o e=>
  hsb.extBut b o (Nat.ne_of_lt (Heap.lt_size e)) (Heap.get?_push_of_some _ e)
 have I4:=Eu (tk:=s2.toks + ([]:List (Str × Value)).length) ck hXN hsc I3 f3 (fun b hb=>by show b < (s2.heap.push _).objs.size;rw [sz];exact Nat.lt_succ_of_lt (fo b hb)) hns kept
 have t4:tn 0 h1:=T.keep _ _ _ t2 fun b hb o e=>kept b o (Heap.get?_push_of_some _ e)
 have fz:∀ b ∈ fp,∀ H',H' b = none -> mf (cxC X N scope ⟨fj X.env scope.names [],(s2.heap.push { cls:=.type "list",data:=.seq ([]:List Value).toArray }).objs.size,{ s2 with heap:=s2.heap.push { cls:=.type "list",data:=.seq ([]:List Value).toArray },toks:=s2.toks },upd H2 s2.heap.objs.size (.lst []),fp,pins⟩) [] H' b:=fun b hb H' hn=>by
  obtain ⟨g0,g1,g2,g3,g4,g5⟩:=f3 b hb
  refine ⟨hn,(I4.ok.exf b hb).1,I4.ok.exfs b hb,.inl hb,(I4.ok.exf b hb).2,fun p hp=>?_⟩
  exact g5 p (by simpa [cxC] using hp)
 have loop:=Ci (X:=X) (σ:=σ) (N:=N) (scope:=scope) (js:=js) (iter:=iter) (pos:=pos) (E:=E) (R:=RR (.ref s2.heap.objs.size) (s2.heap.push { cls:=.type "list",data:=.seq ([]:List Value).toArray }).objs.size) (D:=s2.heap.objs.size) (W:=W) (n:=n)
  hc T fz (hg _) hs (ht _) (he _) (fun i m H w=>(turn i m H w).imp (fun a=>⟨a.1,fun s' Y=>?_⟩) id) I4 t4 (fun b hb=>(f3 b hb).1) w0
 ·exact codeAny_compStart_list loop (T.self _ 0 _ _ _ t4 loop)
 ·have bb:=Y.base
  have J0:Inv X pins σ H s':=I3.call' Y.os bb Y.hok Y.bare fun b hb=>by
   obtain ⟨g0,g1,g2,g3,g4,g5⟩:=f3 b hb
   exact ⟨g3,g1,g4,g5⟩
  obtain ⟨mC,nC,_⟩:=Y.loc
  obtain ⟨oC,eC,dC⟩:∃ o,s'.heap.get? (s2.heap.push { cls:=.type "list",data:=.seq ([]:List Value).toArray }).objs.size = some o /\ ∀ v,o.data ≠ .cell v:=by
   obtain ⟨o,es,ep,ho,hd,_⟩:=nC
   exact ⟨o,ho,fun v z=>by rw [hd] at z;cases z⟩
  have lC:X.s₀.heap.objs.size <= (s2.heap.push { cls:=.type "list",data:=.seq ([]:List Value).toArray }).objs.size:=I3.sz
  have cC:(s2.heap.push { cls:=.type "list",data:=.seq ([]:List Value).toArray }).objs.size ≠ X.env.locals:=Nat.ne_of_gt I3.lt
  have kC:∀ x c,X.env.cells.lookup x = some c -> c ≠ (s2.heap.push { cls:=.type "list",data:=.seq ([]:List Value).toArray }).objs.size:=fun x c e=>by
   obtain ⟨v,q⟩:=I3.cell x c e
   exact Nat.ne_of_lt q.lt
  have pC:∀ p ∈ X.pn ++ pins,p.1 ≠ (s2.heap.push { cls:=.type "list",data:=.seq ([]:List Value).toArray }).objs.size:=fun p hp=>Nat.ne_of_lt (Heap.lt_size (I3.pin p hp).1)
  have J1:Inv X (pins ++ [((s2.heap.push { cls:=.type "list",data:=.seq ([]:List Value).toArray }).objs.size,oC)]) σ H s':=J0.pins_of fun p hp=>by
   rcases List.mem_append.mp hp with hp | hp
   ·exact J0.pin p (List.mem_append_right _ hp)
   ·rw [List.mem_singleton.mp hp]
    exact ⟨eC,Y.free,cC,I3.nofs (Nat.le_refl _),dC⟩
  exact hRR _ _ s' H mC oC J1 nC ⟨lC,cC,kC,pC⟩ Y.free a.2
theorem GY (ck:CmpOk XN sc scope N js) (hi:PI X tg iter wi) (hg:∀ z,PG (cxC X N scope z) tg g) (hs:qG js g) (ht:∀ z,PIf (cxC X N scope z) ifs tt) (he:∀ z,PE (cxC X N scope z) elt te)
  (hXN:X.N = XN:=by rfl) (hsc:X.env.scope = sc:=by rfl) (hc:X.calm = true:=by rfl) (hf:∀ x,foldedSetIterable iter X.env x = pure x:=by intro _;rfl) :
  PE X (.ListComp elt [⟨tg,iter,ifs,0⟩] scope pos) (vR js wi g tt te):=by
 intro pins s σ H Q I h
 rw [eval_ListComp]
 have hcl:closureFor scope X.env = pure (fj X.env scope.names []):=ml fun y hy hk=>I.ok.has y.1 (by
  have:=ck.free y hy hk
  rw [<- hsc] at this
  exact this)
 refine wpAny_comprehension_free (use:=none) rfl hf hcl ck.kind ck.loc (thn (hi pins s σ H _ I h) fun v s1 h1=>thn h1 fun itv s2 h2=>?_)
 refine r9 (RR:=fun acc C=>compPost (model X.prog X.w) X.A X.xe none (EP X pins σ Q) acc C) ck hXN hsc hc hg hs ht he h2 ?_
 intro D C s' H' m o J nC hC fC q
 refine ⟨m,nC,fun h' sb=>⟨.ref D,H',?_,rfl,q⟩⟩
 have J0:Inv X pins σ H' s':=J.unpinned
 exact J0.turned (t':=s'.toks) (it:=C) (fun b o hb e=>sb.extBut b o hb e) fC hC.2.1 (.inr hC.1) hC.2.2.1 hC.2.2.2
theorem wQ {i:Nat} {y:Str} {pos' spos:Pos} (ck:CmpOk XN sc scope N js) (hN:X.N.Nodup) (hi0:X.N[i]? = some y) (hx:Loc X.env.scope y) (hi:PI X tg iter wi) (hg:∀ z,PG (cxC X N scope z) tg g) (hs:qG js g) (ht:∀ z,PIf (cxC X N scope z) ifs tt) (he:∀ z,PE (cxC X N scope z) elt te)
  (hsw:swapsWith (.ListComp elt [⟨tg,iter,ifs,0⟩] scope pos) (some (.Name y pos')) spos.line X.env = pure true:=by rfl)
  (hXN:X.N = XN:=by rfl) (hsc:X.env.scope = sc:=by rfl) (hc:X.calm = true:=by rfl) (hf:∀ x,foldedSetIterable iter X.env x = pure x:=by intro _;rfl)
  (hfn:X.fn y = true \/ X.env.scope.names.lookup y = some .local:=by first | exact .inl rfl | exact .inr rfl | assumption) :
  PS X (.Assign [.Name y pos'] (.ListComp elt [⟨tg,iter,ifs,0⟩] scope pos) spos) (uO (vR js wi g tt te) (gH i)):=by
 intro pins s σ H D I h
 rw [exec_Assign_Name_used _ _ _ _ hsw]
 have hcl:closureFor scope X.env = pure (fj X.env scope.names []):=ml fun y hy hk=>I.ok.has y.1 (by
  have:=ck.free y hy hk
  rw [<- hsc] at this
  exact this)
 refine wpAny_bind (wpAny_standAt (wpAny_bind ?_))
 show wpAny (model X.prog X.w) X.A (comprehension (.ListComp elt [⟨tg,iter,ifs,0⟩] scope pos) scope X.env _ (newList []) false (eval iter X.env) (some (assign (.Name y pos') X.env)) >>= fun _=>pure ()) _ _ s
 refine wpAny_bind (thn (wpAny_comprehension_free (use:=some (assign (.Name y pos') X.env)) (Q:=fun _ s'=>SP X pins D .next s') rfl hf hcl ck.kind ck.loc (thn (hi pins s σ H _ I h) fun v s1 h1=>thn h1 fun itv s2 h2=>?_)) fun _ s' q=>wpAny_pure (wpAny_pure q))
 refine r9 (RR:=fun acc C=>compPost (model X.prog X.w) X.A X.xe (some (assign (.Name y pos') X.env)) (fun _ s'=>SP X pins D .next s') acc C) (Q:=fun x H1=>gH i x σ H1 D.nx) ck hXN hsc hc hg hs ht he h2 ?_
 intro A C s' H' m o J nC hC fC q
 refine thn (oj hN hi0 hx hfn _ s' σ H' (.ref A) (.ref A) _ J rfl q) fun _ s3 h3=>?_
 obtain ⟨σ3,H3,J3,q3⟩:=h3
 have pc:=J3.pin (C,o) (List.mem_append_right _ (List.mem_append_right _ List.mem_cons_self))
 have oC:s'.heap.get? C = some o:=(J.pin (C,o) (List.mem_append_right _ (List.mem_append_right _ List.mem_cons_self))).1
 refine ⟨m,nC.at' fun o' e=>?_,fun h' sb=>⟨σ3,H3,?_,q3⟩⟩
 ·rw [oC] at e
  cases e
  exact pc.1
 ·have J0:Inv X pins σ3 H3 s3:=J3.unpinned
  exact J0.turned (t':=s3.toks) (it:=C) (fun b o hb e=>sb.extBut b o hb e) pc.2.1 hC.2.1 (.inr hC.1) hC.2.2.1 hC.2.2.2
end
end L2
namespace Srt
open PySem PySem.W PyProof.Rows
section
variable {α β:Type} (lt:Nat -> Nat -> Bool) (n:Nat)
end
section
variable {lt:Nat -> Nat -> Bool} {le:Nat -> Nat -> Prop} {n:Nat} {p:Array Nat}
noncomputable abbrev at' (p:Array Nat) (i:Nat):Nat:=p.getD i 0
theorem xz {p q:Array Nat} {i j:Nat} (h:p[i]? = q[j]?):at' p i = at' q j:=by
 have e:∀ (r:Array Nat) (k:Nat),at' r k = (r[k]?).getD 0:=fun r k=>by simp [at']
 rw [e,e,h]
def Asc (le:Nat -> Nat -> Prop) (p:Array Nat) (m:Nat):Prop:=∀ i j,i <= j -> j < m -> le (at' p i) (at' p j)
def Bel (n:Nat) (p:Array Nat):Prop:=∀ k,at' p k < n
structure Ord (lt:Nat -> Nat -> Bool) (le:Nat -> Nat -> Prop):Prop where
 tr:∀ a b c,le a b -> le b c -> le a c
 rf:∀ a,le a a
 yes:∀ a b,lt a b = true -> le a b
 no:∀ a b,lt a b = false -> le b a
theorem Iz (hn:0 < n) (hp:p.Perm (List.range n).toArray):Bel n p:=fun k=>by
 have e:at' p k = (p[k]?).getD 0:=by simp [at']
 rw [e]
 cases h:p[k]? with
 | none=>exact hn
 | some v=>
  have hm:v ∈ p:=Array.mem_of_getElem? h
  have:=(Array.perm_iff_toList_perm.mp hp).mem_iff.mp (Array.mem_toList_iff.mpr hm)
  simpa using this
theorem cP {i j:Nat} (hj:j <= p.size) (k:Nat):at' (kas_rev p i j) k = if i <= k /\ k < j then at' p (i + j - 1 - k) else at' p k:=by
 have e:=getElem?_mirror_all (i:=i) hj k
 by_cases h:i <= k /\ k < j
 ·rw [if_pos h] at e ⊢;exact xz e
 ·rw [if_neg h] at e ⊢;exact xz e
variable {z:Nat}
theorem oY {src d:Nat} (hs:src < p.size) (hd:d <= src) (k:Nat):at' (bubble p src d) k = if k = src - d then at' p src else if src - d < k /\ k <= src then at' p (k - 1) else at' p k:=by
 have e:=getElem?_bubble hs d hd k
 by_cases h1:k = src - d
 ·rw [if_pos h1] at e ⊢;exact xz e
 ·rw [if_neg h1] at e ⊢
  by_cases h2:src - d < k /\ k <= src
  ·rw [if_pos h2] at e ⊢;exact xz e
  ·rw [if_neg h2] at e ⊢;exact xz e
end
theorem Aq {α:Type} {le:Nat -> Nat -> Prop} {p:Array Nat} {vs:List α} {d:α} (hp:p.Perm (List.range vs.length).toArray) (ha:Asc le p vs.length) :
  (p.toList.map fun i=>vs.getD i d).Perm vs /\ ∀ R:α -> α -> Prop,(∀ i j,i < vs.length -> j < vs.length -> le i j -> R (vs.getD i d) (vs.getD j d)) -> (p.toList.map fun i=>vs.getD i d).Pairwise R:=by
 have hl:p.toList.Perm (List.range vs.length):=by simpa using Array.perm_iff_toList_perm.mp hp
 constructor
 ·have h1:(p.toList.map fun i=>vs.getD i d).Perm ((List.range vs.length).map fun i=>vs.getD i d):=hl.map _
  have h2:((List.range vs.length).map fun i=>vs.getD i d) = vs:=by
   apply List.ext_getElem
   ·simp
   ·intro i h1 h2;simp at h1;simp [h1]
  rw [h2] at h1
  exact h1
 ·intro R hR
  rw [List.pairwise_map,List.pairwise_iff_getElem]
  intro i j hi hj hij
  have hs:p.toList.length = vs.length:=by rw [hl.length_eq];simp
  have m:∀ k (hk:k < p.toList.length),p.toList[k] < vs.length:=fun k hk=>by simpa using hl.mem_iff.mp (List.getElem_mem hk)
  have a:∀ k (hk:k < p.toList.length),at' p k = p.toList[k]:=fun k hk=>by
   have:k < p.size:=by simpa using hk
   simp [at',Array.getD,this]
  refine hR _ _ (m i hi) (m j hj) ?_
  rw [<- a i hi,<- a j hj]
  exact ha i j (Nat.le_of_lt hij) (by lia)
noncomputable def GA:Bool -> Keyed -> Array Keyed -> Nat -> Nat -> Nat -> StateT SortSt Sem (Option Nat):=sortPriv% PySem.Builtin.gallop
noncomputable def EK:Array Keyed -> Array Keyed -> StateT SortSt Sem (Array Keyed):=sortPriv% PySem.Builtin.mergeLo
noncomputable def EJ:Array Keyed -> Array Keyed -> StateT SortSt Sem (Array Keyed):=sortPriv% PySem.Builtin.mergeHi
section
variable {prog:Program} {w:World} {A:Around} {E:Value -> Shared -> Prop} {s:Shared} {κ:SortKind} {it:Array Keyed} {n:Nat} {lt:Nat -> Nat -> Bool} {le:Nat -> Nat -> Prop}
def ul (prog:Program) (w:World) (A:Around) (s:Shared) (κ:SortKind) (it:Array Keyed) (n:Nat) (lt:Nat -> Nat -> Bool):Prop:=
 ∀ i j (C:Bool -> Shared -> Prop),i < n -> j < n -> C (lt i j) s -> kas_cmp prog w A κ it i j C s
theorem w_lt (hc:ul prog w A s κ it n lt) {i j:Nat} {Q:Option Bool -> SortSt -> Prop} {st:SortSt} (hk:kindOf st = κ) (hi:i < n) (hj:j < n) (h:Q (some (lt i j)) st):wpS (model prog w) A E s (lt' (kas_item it i) (kas_item it j)) Q st:=by
 rw [lt'_eq]
 refine wpS_bind (wpS_get ?_)
 rw [hk]
 refine wpS_bind (wpS_lift (wpAny_attempt (wpAny_mono (hc i j (fun c s'=>s' = s /\ c = lt i j) hi hj ⟨rfl,rfl⟩) (fun c s' h'=>?_) fun _ _ hF=>hF.elim)))
 obtain ⟨rfl,rfl⟩:=h'
 exact ⟨rfl,wpS_pure h⟩
theorem bF {X:Array Nat} {k:Nat} {Q:Keyed -> SortSt -> Prop} {st:SortSt} (hk:k < X.size) (h:Q (kas_item it (at' X k)) st):wpS (model prog w) A E s (elem' (X.map (kas_item it)) k) Q st:=by
 rw [elem'_eq]
 have e:at' X k = X[k]:=by simp [at',hk]
 rw [e] at h
 have e2:(X.map (kas_item it))[k]? = some (kas_item it X[k]):=by simp [hk]
 rw [e2]
 exact wpS_pure h
theorem jf (o:Ord lt le) (hc:ul prog w A s κ it n lt) {left:Bool} {key:Nat} {X:Array Nat} {base m hint:Nat} {Q:Option Nat -> SortSt -> Prop} {st:SortSt} (hk:kindOf st = κ) (hb:∀ i,i < X.size -> at' X i < n) (hkey:key < n)
  (hz:base + m <= X.size) (hh:hint < m) (hs:∀ i j,i <= j -> j < m -> le (at' X (base + i)) (at' X (base + j)))
  (h:∀ k,k <= m -> (∀ i,i < k -> le (at' X (base + i)) key) -> (∀ i,k <= i -> i < m -> le key (at' X (base + i))) -> Q (some k) st) :
  wpS (model prog w) A E s (GA left (kas_item it key) (X.map (kas_item it)) base m hint) Q st:=by
 have bey:∀ i,i < m -> ∀ (R:Option Bool -> SortSt -> Prop),(∀ c,(c = true -> le (at' X (base + i)) key) -> (c = false -> le key (at' X (base + i))) -> R (some c) st) -> wpS (model prog w) A E s (do
   let x ← elem' (X.map (kas_item it)) (base + i)
   if left = true then lt' x (kas_item it key) else do
    let r ← lt' (kas_item it key) x
    pure (Option.map (fun x=>!x) r)) R st:=fun i hi R hR=>by
  refine wpS_bind (bF (by lia) ?_)
  have hx:=hb (base + i) (by lia)
  cases left with
  | true=>
   rw [if_pos rfl]
   exact w_lt hc hk hx hkey (hR _ (o.yes _ _) (o.no _ _))
  | false=>
   rw [if_neg (by decide)]
   refine wpS_bind (w_lt hc hk hkey hx (wpS_pure ?_))
   refine hR _ (fun e=>o.no _ _ (by simpa using e)) (fun e=>o.yes _ _ (by simpa using e))
 have lo':∀ k,k < m -> le (at' X (base + k)) key -> ∀ i,i <= k -> le (at' X (base + i)) key:=fun k hk hl i hi=>o.tr _ _ _ (hs i k hi hk) hl
 have hi':∀ k,k < m -> le key (at' X (base + k)) -> ∀ i,k <= i -> i < m -> le key (at' X (base + i)):=fun k hk hl i hi him=>o.tr _ _ _ hl (hs k i hi him)
 refine wpS_bind (bey hint hh _ fun c c1 c2=>?_)
 dsimp only
 cases c with
 | true=>
  rw [if_pos rfl]
  refine wpS_bind (wpS_mono (wpS_forRange (I:=fun x c st'=>st' = st /\ ∃ l f,c = (none,l,f) /\ x + 1 <= f /\ hint + l < m /\ le (at' X (base + (hint + l))) key)
   (Q:=fun c st'=>st' = st /\ ∃ l f,c = (none,l,f) /\ hint + l < m /\ le (at' X (base + (hint + l))) key /\ (f < m - hint -> le key (at' X (base + (hint + f))))) ?s1 ?f1 ?i1) ?p1)
  case i1=>exact ⟨rfl,0,1,rfl,by lia,by lia,c1 rfl⟩
  case f1=>
   rintro c st' ⟨rfl,l,f,rfl,h1,h2,h3⟩
   exact ⟨rfl,l,f,rfl,h2,h3,fun _=>by lia⟩
  case s1=>
   rintro x c st' _ hx ⟨rfl,l,f,rfl,h1,h2,h3⟩
   dsimp only
   by_cases hge:f ≥ m - hint
   ·rw [if_pos hge]
    exact wpS_pure ⟨rfl,l,f,rfl,h2,h3,fun _=>by lia⟩
   ·rw [if_neg hge]
    refine wpS_bind (bey (hint + f) (by lia) _ fun c d1 d2=>?_)
    dsimp only
    cases c with
    | true=>exact wpS_pure ⟨rfl,f,2 * f + 1,rfl,by lia,by lia,d1 rfl⟩
    | false=>exact wpS_pure ⟨rfl,l,f,rfl,h2,h3,fun _=>d2 rfl⟩
  case p1=>
   rintro c st' ⟨rfl,l,f,rfl,h2,h3,h4⟩
   dsimp only
   have g1:∀ i,i < hint + l + 1 -> i < m -> le (at' X (base + i)) key:=fun i hi _=>lo' _ h2 h3 i (by lia)
   have g2:∀ i,hint + min f (m - hint) <= i -> i < m -> le key (at' X (base + i)):=fun i hi him=>hi' (hint + f) (by lia) (h4 (by lia)) i (by lia) him
   have g3:hint + min f (m - hint) <= m:=by lia
   generalize hint + l + 1 = L at g1 ⊢
   generalize hint + min f (m - hint) = H at g2 g3 ⊢
   refine wpS_bind (wpS_mono (wpS_forRange (I:=fun x c st2=>st2 = st' /\ ∃ l h,c = (none,l,h) /\ h <= m /\ h - l <= m - x /\ (∀ i,i < l -> i < m -> le (at' X (base + i)) key) /\ (∀ i,h <= i -> i < m -> le key (at' X (base + i))))
    (Q:=fun c st2=>st2 = st' /\ ∃ l h,c = (none,l,h) /\ h <= m /\ h <= l /\ (∀ i,i < l -> i < m -> le (at' X (base + i)) key) /\ (∀ i,h <= i -> i < m -> le key (at' X (base + i)))) ?s2 ?f2 ?i2) ?p2)
   case i2=>exact ⟨rfl,L,H,rfl,g3,by lia,g1,g2⟩
   case f2=>
    rintro c st2 ⟨rfl,l,h,rfl,k1,k2,k3,k4⟩
    exact ⟨rfl,l,h,rfl,k1,by lia,k3,k4⟩
   case s2=>
    rintro x c st2 _ hx ⟨rfl,l,h,rfl,k1,k2,k3,k4⟩
    dsimp only
    by_cases hge:l ≥ h
    ·rw [if_pos hge]
     exact wpS_pure ⟨rfl,l,h,rfl,k1,hge,k3,k4⟩
    ·rw [if_neg hge]
     refine wpS_bind (bey (l + (h - l) / 2) (by lia) _ fun c d1 d2=>?_)
     dsimp only
     cases c with
     | true=>exact wpS_pure ⟨rfl,_,_,rfl,k1,by lia,fun i hi him=>lo' _ (by lia) (d1 rfl) i (by lia),k4⟩
     | false=>exact wpS_pure ⟨rfl,_,_,rfl,by lia,by lia,k3,fun i hi him=>hi' _ (by lia) (d2 rfl) i hi him⟩
   case p2=>
    rintro c st2 ⟨rfl,l,h',rfl,k1,k2,k3,k4⟩
    exact wpS_pure (h h' k1 (fun i hi=>k3 i (by lia) (by lia)) k4)
 | false=>
  rw [if_neg (by decide)]
  refine wpS_bind (wpS_mono (wpS_forRange (I:=fun x c st'=>st' = st /\ ∃ l f,c = (none,l,f) /\ x + 1 <= f /\ l <= hint /\ le key (at' X (base + (hint - l))))
   (Q:=fun c st'=>st' = st /\ ∃ l f,c = (none,l,f) /\ l <= hint /\ le key (at' X (base + (hint - l))) /\ (f < hint + 1 -> le (at' X (base + (hint - f))) key)) ?s1 ?f1 ?i1) ?p1)
  case i1=>exact ⟨rfl,0,1,rfl,by lia,by lia,c2 rfl⟩
  case f1=>
   rintro c st' ⟨rfl,l,f,rfl,h1,h2,h3⟩
   exact ⟨rfl,l,f,rfl,h2,h3,fun _=>by lia⟩
  case s1=>
   rintro x c st' _ hx ⟨rfl,l,f,rfl,h1,h2,h3⟩
   dsimp only
   by_cases hge:f ≥ hint + 1
   ·rw [if_pos hge]
    exact wpS_pure ⟨rfl,l,f,rfl,h2,h3,fun _=>by lia⟩
   ·rw [if_neg hge]
    refine wpS_bind (bey (hint - f) (by lia) _ fun c d1 d2=>?_)
    dsimp only
    cases c with
    | true=>exact wpS_pure ⟨rfl,l,f,rfl,h2,h3,fun _=>d1 rfl⟩
    | false=>exact wpS_pure ⟨rfl,f,2 * f + 1,rfl,by lia,by lia,d2 rfl⟩
  case p1=>
   rintro c st' ⟨rfl,l,f,rfl,h2,h3,h4⟩
   dsimp only
   have g1:∀ i,i < hint + 1 - min f (hint + 1) -> i < m -> le (at' X (base + i)) key:=fun i hi _=>lo' (hint - f) (by lia) (h4 (by lia)) i (by lia)
   have g2:∀ i,hint - l <= i -> i < m -> le key (at' X (base + i)):=fun i hi him=>hi' (hint - l) (by lia) h3 i (by lia) him
   have g3:hint - l <= m:=by lia
   generalize hint + 1 - min f (hint + 1) = L at g1 ⊢
   generalize hint - l = H at g2 g3 ⊢
   refine wpS_bind (wpS_mono (wpS_forRange (I:=fun x c st2=>st2 = st' /\ ∃ l h,c = (none,l,h) /\ h <= m /\ h - l <= m - x /\ (∀ i,i < l -> i < m -> le (at' X (base + i)) key) /\ (∀ i,h <= i -> i < m -> le key (at' X (base + i))))
    (Q:=fun c st2=>st2 = st' /\ ∃ l h,c = (none,l,h) /\ h <= m /\ h <= l /\ (∀ i,i < l -> i < m -> le (at' X (base + i)) key) /\ (∀ i,h <= i -> i < m -> le key (at' X (base + i)))) ?s2 ?f2 ?i2) ?p2)
   case i2=>exact ⟨rfl,L,H,rfl,g3,by lia,g1,g2⟩
   case f2=>
    rintro c st2 ⟨rfl,l,h,rfl,k1,k2,k3,k4⟩
    exact ⟨rfl,l,h,rfl,k1,by lia,k3,k4⟩
   case s2=>
    rintro x c st2 _ hx ⟨rfl,l,h,rfl,k1,k2,k3,k4⟩
    dsimp only
    by_cases hge:l ≥ h
    ·rw [if_pos hge]
     exact wpS_pure ⟨rfl,l,h,rfl,k1,hge,k3,k4⟩
    ·rw [if_neg hge]
     refine wpS_bind (bey (l + (h - l) / 2) (by lia) _ fun c d1 d2=>?_)
     dsimp only
     cases c with
     | true=>exact wpS_pure ⟨rfl,_,_,rfl,k1,by lia,fun i hi him=>lo' _ (by lia) (d1 rfl) i (by lia),k4⟩
     | false=>exact wpS_pure ⟨rfl,_,_,rfl,by lia,by lia,k3,fun i hi him=>hi' _ (by lia) (d2 rfl) i hi him⟩
   case p2=>
    rintro c st2 ⟨rfl,l,h',rfl,k1,k2,k3,k4⟩
    exact wpS_pure (h h' k1 (fun i hi=>k3 i (by lia) (by lia)) k4)
end
end Srt
namespace Srt
section
variable {le:Nat -> Nat -> Prop} {tot out ra rb xs:List Nat}
def Inv (le:Nat -> Nat -> Prop) (tot out ra rb:List Nat):Prop:=(out ++ ra).Pairwise le /\ (out ++ rb).Pairwise le /\ (out ++ (ra ++ rb)).Perm tot
theorem Inv.symm (h:Inv le tot out ra rb):Inv le tot out rb ra:=⟨h.2.1,h.1,(List.Perm.append_left _ List.perm_append_comm).trans h.2.2⟩
theorem Inv.block (h:Inv le tot out (xs ++ ra) rb) (k:∀ x ∈ xs,∀ y ∈ rb,le x y):Inv le tot (out ++ xs) ra rb:=by
 obtain ⟨h1,h2,h3⟩:=h
 refine ⟨by rw [List.append_assoc];exact h1,?_,by rw [List.append_assoc,<- List.append_assoc xs];exact h3⟩
 rw [List.pairwise_append] at h1 h2
 rw [List.append_assoc,List.pairwise_append]
 obtain ⟨a1,a2,a3⟩:=h1
 obtain ⟨b1,b2,b3⟩:=h2
 rw [List.pairwise_append] at a2
 refine ⟨a1,List.pairwise_append.mpr ⟨a2.1,b2,k⟩,fun x hx y hy=>?_⟩
 rcases List.mem_append.mp hy with hy | hy
 ·exact a3 x hx y (List.mem_append_left _ hy)
 ·exact b3 x hx y hy
theorem Inv.doneA (h:Inv le tot out ra []):(out ++ ra).Pairwise le /\ (out ++ ra).Perm tot:=⟨h.1,by have:=h.2.2;rwa [List.append_nil] at this⟩
theorem Inv.lastA {x:Nat} (h:Inv le tot out [x] rb) (k:∀ y ∈ rb,le y x):(out ++ (rb ++ [x])).Pairwise le /\ (out ++ (rb ++ [x])).Perm tot:=by
 refine ⟨?_,(List.Perm.append_left _ List.perm_append_comm).trans h.2.2⟩
 obtain ⟨h1,h2,_⟩:=h
 rw [List.pairwise_append] at h1 h2
 rw [List.pairwise_append]
 refine ⟨h1.1,List.pairwise_append.mpr ⟨h2.2.1,List.pairwise_singleton _ _,fun y hy z hz=>?_⟩,fun a ha b hb=>?_⟩
 ·rw [List.mem_singleton] at hz;subst hz;exact k y hy
 ·rcases List.mem_append.mp hb with hb | hb
  ·exact h2.2.2 a ha b hb
  ·exact h1.2.2 a ha b hb
end
section
variable {X Y O:Array Nat} {le:Nat -> Nat -> Prop} {tot:List Nat}
theorem Iq {i:Nat} (h:i < X.size):at' X i = X[i]:=by simp [at',h]
theorem jj {i:Nat} (h:i < X.size):X.toList[i]'(by simpa using h) = at' X i:=by rw [Iq h];simp
theorem wl {i:Nat} (h:i < X.size):X.toList.drop i = at' X i :: X.toList.drop (i + 1):=by
 rw [List.drop_eq_getElem_cons (by simpa using h),jj h]
theorem nN {i j:Nat} (h:i <= j):X.toList.drop i = (X.extract i j).toList ++ X.toList.drop j:=by
 rw [Array.toList_extract,List.extract_eq_take_drop]
 have e:X.toList.drop j = (X.toList.drop i).drop (j - i):=by rw [List.drop_drop];congr 1;lia
 rw [e,List.take_append_drop]
theorem sY {i x:Nat} (h:x ∈ X.toList.drop i):∃ j,i <= j /\ j < X.size /\ at' X j = x:=by
 obtain ⟨k,hk⟩:=List.getElem?_of_mem h
 rw [List.getElem?_drop] at hk
 obtain ⟨h1,h2⟩:=List.getElem?_eq_some_iff.mp hk
 have h1':i + k < X.size:=by simpa using h1
 exact ⟨i + k,by lia,h1',by rw [<- jj h1'];exact h2⟩
theorem rE {i j x:Nat} (h:x ∈ (X.extract i j).toList):∃ k,i <= k /\ k < j /\ k < X.size /\ at' X k = x:=by
 obtain ⟨k,hk⟩:=List.getElem?_of_mem h
 rw [Array.toList_extract,List.extract_eq_take_drop,List.getElem?_take] at hk
 split at hk
 ·rw [List.getElem?_drop] at hk
  obtain ⟨h1,h2⟩:=List.getElem?_eq_some_iff.mp hk
  have h1':i + k < X.size:=by simpa using h1
  exact ⟨i + k,by lia,by lia,h1',by rw [<- jj h1'];exact h2⟩
 ·cases hk
abbrev J (le:Nat -> Nat -> Prop) (tot:List Nat) (X Y O:Array Nat) (ia ib:Nat):Prop:=Inv le tot O.toList (X.toList.drop ia) (Y.toList.drop ib)
variable {ia ib:Nat}
theorem J.one (j:J le tot X Y O ia ib) (h:ia < X.size) (k:∀ i,ib <= i -> i < Y.size -> le (at' X ia) (at' Y i)):J le tot X Y (O.push (at' X ia)) (ia + 1) ib:=by
 unfold J at j ⊢
 rw [wl h] at j
 have:=Inv.block (xs:=[at' X ia]) j (fun x hx y hy=>by
  rw [List.mem_singleton] at hx
  subst hx
  obtain ⟨i,h1,h2,rfl⟩:=sY hy
  exact k i h1 h2)
 rwa [Array.toList_push]
theorem J.blk {m:Nat} (j:J le tot X Y O ia ib) (k:∀ i l,ia <= i -> i < ia + m -> i < X.size -> ib <= l -> l < Y.size -> le (at' X i) (at' Y l)):J le tot X Y (O ++ X.extract ia (ia + m)) (ia + m) ib:=by
 unfold J at j ⊢
 rw [nN (j:=ia + m) (by lia)] at j
 have:=Inv.block j (fun x hx y hy=>by
  obtain ⟨i,h1,h2,h3,rfl⟩:=rE hx
  obtain ⟨l,h4,h5,rfl⟩:=sY hy
  exact k i l h1 h2 h3 h4 h5)
 rwa [Array.toList_append]
theorem J.sy (j:J le tot X Y O ia ib):J le tot Y X O ib ia:=Inv.symm j
abbrev jT (le:Nat -> Nat -> Prop) (tot:List Nat) (R:Array Nat):Prop:=R.toList.Pairwise le /\ R.toList.Perm tot
theorem J.done1 (j:J le tot X Y O ia ib) (h:Y.size <= ib) (h2:ia <= X.size):jT le tot (O ++ X.extract ia X.size ++ Y.extract ib Y.size):=by
 unfold J at j
 rw [List.drop_of_length_le (l:=Y.toList) (by simpa using h)] at j
 have e:(Y.extract ib Y.size) = #[]:=by simp;lia
 have e2:X.toList.drop ia = (X.extract ia X.size).toList:=by rw [nN h2];simp
 rw [e,Array.append_empty]
 unfold jT
 rw [Array.toList_append,<- e2]
 exact j.doneA
theorem J.done2 (j:J le tot X Y O ia ib) (h:X.size <= ia) (h2:ib <= Y.size):jT le tot (O ++ X.extract ia X.size ++ Y.extract ib Y.size):=by
 have e:(X.extract ia X.size) = #[]:=by simp;lia
 have:=j.sy.done1 h h2
 rw [e,Array.append_empty] at this ⊢
 exact this
theorem J.last (j:J le tot X Y O ia ib) (h:ia + 1 = X.size) (h2:ib <= Y.size) (k:∀ i,i < Y.size -> le (at' Y i) (at' X ia)):jT le tot (O ++ Y.extract ib Y.size ++ X.extract ia X.size):=by
 unfold J at j
 rw [wl (by lia),List.drop_of_length_le (l:=X.toList) (i:=ia + 1) (by simp;lia)] at j
 have:=j.lastA fun y hy=>by
  obtain ⟨i,h1,h2,rfl⟩:=sY hy
  exact k i h2
 have e:(X.extract ia X.size).toList = [at' X ia]:=by
  have e2:X.toList.drop ia = (X.extract ia X.size).toList:=by rw [nN (j:=X.size) (by lia)];simp
  rw [<- e2,wl (by lia),List.drop_of_length_le (l:=X.toList) (i:=ia + 1) (by simp;lia)]
 have e3:Y.toList.drop ib = (Y.extract ib Y.size).toList:=by rw [nN h2];simp
 unfold jT
 rw [Array.toList_append,Array.toList_append,e,<- e3,List.append_assoc]
 exact this
end
end Srt
namespace Srt
open PySem PySem.W PyProof.Rows
section
variable {prog:Program} {w:World} {A:Around} {E:Value -> Shared -> Prop} {s:Shared} {κ:SortKind} {it:Array Keyed} {n:Nat} {lt:Nat -> Nat -> Bool} {le:Nat -> Nat -> Prop}
def Same (κ:SortKind) (st st':SortSt):Prop:=kindOf st' = κ /\ arrOf st' = arrOf st /\ pendingOf st' = pendingOf st /\ failedOf st' = failedOf st
theorem Same.g {st st2:SortSt} (h:Same κ st st2) (g:Nat):Same κ st (SortSt.mk' (kindOf st2) (arrOf st2) (pendingOf st2) g (failedOf st2)):=h
theorem jz {σ α:Type} {M:Model} {c:Prop} [Decidable c] {a b:StateT σ Sem α} {Q:α -> σ -> Prop} {st:σ} (h1:wpS M A E s a Q st) (h2:wpS M A E s b Q st):wpS M A E s (if c then a else b) Q st:=by
 by_cases h:c
 ·rw [if_pos h];exact h1
 ·rw [if_neg h];exact h2
theorem exm (f:Nat -> Keyed) (Z:Array Nat):(Z.map f).extract 0 Z.size = Z.map f:=by
 have:Z.size = (Z.map f).size:=by simp
 rw [this];simp
theorem BB {X:Array Nat} (h:∀ i j,i <= j -> j < X.size -> le (at' X i) (at' X j)):X.toList.Pairwise le:=by
 rw [List.pairwise_iff_getElem]
 intro i j hi hj hij
 have h2:j < X.size:=by simpa using hj
 rw [jj (by lia),jj h2]
 exact h i j (by lia) h2
theorem bp {σ α:Type} {M:Model} {c:Prop} [Decidable c] {a b:StateT σ Sem α} {Q:α -> σ -> Prop} {st:σ} (h1:c -> wpS M A E s a Q st) (h2:¬c -> wpS M A E s b Q st):wpS M A E s (if c then a else b) Q st:=by
 by_cases h:c
 ·rw [if_pos h];exact h1 h
 ·rw [if_neg h];exact h2 h
theorem BN {σ α β:Type} {M:Model} {c:Prop} [Decidable c] {f:β -> StateT σ Sem α} {a b:β} {Q:α -> σ -> Prop} {st:σ} (h:∀ x,wpS M A E s (f x) Q st):wpS M A E s (if c then f a else f b) Q st:=jz (h a) (h b)
theorem xg {σ α β γ:Type} {M:Model} {jp:Unit -> β -> γ -> StateT σ Sem α} {m:StateT σ Sem α} {Q:α -> σ -> Prop} {st:σ} (P:β -> γ -> Prop) (h:∀ b c,P b c -> wpS M A E s (jp () b c) Q st) (k:(∀ b c,P b c -> wpS M A E s (jp () b c) Q st) -> wpS M A E s m Q st):wpS M A E s m Q st:=k h
theorem kX {σ β:Type} {M:Model} {b:Nat} {f:Nat -> β -> StateT σ Sem (ForInStep β)} (I:Nat -> β -> σ -> Prop) (Q:β -> σ -> Prop)
  {P:β -> σ -> Prop} {c:β} {st:σ} (h:I 0 c st)
  (hs:∀ i c st (R:ForInStep β -> σ -> Prop),(∀ c st,Q c st -> R (.done c) st) -> (∀ c st,I (i + 1) c st -> R (.yield c) st) -> i < b -> I i c st -> wpS M A E s (f i c) R st)
  (he:∀ c st,I b c st -> Q c st) (hp:∀ c st,Q c st -> P c st):wpS M A E s (forIn [0:b] c f) P st:=
 wpS_mono (wpS_forRange I (fun i c st _ hb hi=>hs i c st _ (fun _ _ h=>h) (fun _ _ h=>h) hb hi) (fun c st h=>he c st (by rwa [Nat.zero_max] at h)) h) hp
theorem rel {p:Nat -> Prop} {u a b:Nat} (h:∀ i,a <= i -> i < b -> p (u + i)) (i:Nat) (h1:u + a <= i) (h2:i < u + b):p i:=by
 have:=h (i - u) (by lia) (by lia)
 rwa [show u + (i - u) = i by lia] at this
def LR (κ:SortKind) (it:Array Keyed) (st:SortSt) (le:Nat -> Nat -> Prop) (X Y:Array Nat) (r:Option (Array Keyed)) (st2:SortSt):Prop:=∃ R,r = some (R.map (kas_item it)) /\ jT le (X.toList ++ Y.toList) R /\ Same κ st st2
def LI (κ:SortKind) (st:SortSt) (le:Nat -> Nat -> Prop) (X Y:Array Nat) (v:Nat) (st2:SortSt) (O:Array Nat) (ia ib:Nat):Prop:=Same κ st st2 /\ ia + 1 < X.size /\ ib < Y.size /\ v <= ia + ib /\ J le (X.toList ++ Y.toList) X Y O ia ib
theorem Dw (o:Ord lt le) (hc:ul prog w A s κ it n lt) {X Y:Array Nat} {Q:Array Keyed -> SortSt -> Prop} {st:SortSt} (hk:kindOf st = κ) (hx:∀ i,i < X.size -> at' X i < n) (hy:∀ i,i < Y.size -> at' Y i < n)
  (x1:1 <= X.size) (y1:1 <= Y.size) (sx:∀ i j,i <= j -> j < X.size -> le (at' X i) (at' X j)) (sy:∀ i j,i <= j -> j < Y.size -> le (at' Y i) (at' Y j)) (hf:∀ i,i < X.size -> le (at' Y 0) (at' X i)) (hl:∀ i,i < Y.size -> le (at' Y i) (at' X (X.size - 1)))
  (h:∀ R st',Same κ st st' -> jT le (X.toList ++ Y.toList) R -> Q (R.map (kas_item it)) st') :
  wpS (model prog w) A E s (EK (X.map (kas_item it)) (Y.map (kas_item it))) Q st:=by
 have sm0:Same κ st st:=⟨hk,rfl,rfl,rfl⟩
 have hl':∀ ia,ia + 1 = X.size -> ∀ i,i < Y.size -> le (at' Y i) (at' X ia):=fun ia e i hi=>by have:=hl i hi;rwa [<- e] at this
 have fin:∀ {O:Array Keyed} {R},O = R.map (kas_item it) -> ∀ {st'},Same κ st st' -> jT le (X.toList ++ Y.toList) R -> Q O st':=fun e _ sm g=>e ▸ h _ _ sm g
 have j0:J le (X.toList ++ Y.toList) X Y #[] 0 0:=⟨by simpa using BB sx,by simpa using BB sy,by simp⟩
 have j1:J le (X.toList ++ Y.toList) X Y #[at' Y 0] 0 1:=(j0.sy.one (by lia) fun i _ h2=>hf i h2).sy
 refine wpS_bind (wpS_lift (wpAny_rule ⟨rfl,?_⟩))
 refine wpS_bind (bF (by lia) ?_)
 dsimp -zeta only
 simp -zeta only [Array.size_map,beq_iff_eq]
 refine bp (fun e=>wpS_pure (fin ?_ sm0 (j1.done1 (by lia) (by lia)))) fun e1=>bp (fun e=>wpS_pure (fin ?_ sm0 (j1.last (by lia) (by lia) (hl' 0 (by lia))))) fun e2=>?_
 ·simp [exm]
 ·simp [exm]
 refine wpS_bind (wpS_get (wpS_bind (kX (fun x c st2=>∃ O ia ib g,c = (none,O.map (kas_item it),ia,ib,g) /\ LI κ st le X Y (x + 1) st2 O ia ib) (fun c st2=>LR κ it st le X Y c.1 st2) ⟨#[at' Y 0],0,1,_,by simp;rfl,sm0,by lia,by lia,by lia,j1⟩ ?s1 ?f1 ?p1)))
 case f1=>
  rintro c st2 ⟨O,ia,ib,g,rfl,sm,la,lb,ls,j⟩
  lia
 case p1=>
  rintro ⟨c,c'⟩ st2 ⟨R,rfl,hR,sm⟩
  exact wpS_pure (h R st2 sm hR)
 rintro x c st2 QQ hD hY hx0 ⟨O,ia,ib,g,rfl,L⟩
 refine wpS_bind (kX (fun y c st2=>∃ O ia ib a b,c = (none,O.map (kas_item it),ia,ib,a,b) /\ LI κ st le X Y (x + 1 + y) st2 O ia ib) (fun c st2=>LR κ it st le X Y c.1 st2 \/ ∃ O ia ib a b,c = (none,O.map (kas_item it),ia,ib,a,b) /\ LI κ st le X Y (x + 2) st2 O ia ib) ⟨O,ia,ib,0,0,rfl,L⟩ ?s2 ?f2 ?p2)
 case f2=>
  rintro c st2 ⟨O,ia,ib,a,b,rfl,sm,la,lb,ls,j⟩
  lia
 case s2=>
  clear hD hY
  rintro y c st2 QQ hD hY hy0 ⟨O,ia,ib,a,b,rfl,sm,la,lb,ls,j⟩
  have la':ia < X.size:=by lia
  refine wpS_bind (bF lb (wpS_bind (bF la' (wpS_bind (w_lt hc sm.1 (hy ib lb) (hx ia la') ?_)))))
  dsimp -zeta only
  cases cw:lt (at' Y ib) (at' X ia) with
  | true=>
   have j2:J le (X.toList ++ Y.toList) X Y (O.push (at' Y ib)) ia (ib + 1):=(j.sy.one lb fun i h1 h2=>o.tr _ _ _ (o.yes _ _ cw) (sx _ _ h1 h2)).sy
   rw [if_pos rfl]
   refine wpS_bind (bF lb (bp (fun e=>wpS_pure (hD _ _ (.inl ⟨_,?_,j2.done1 (by lia) (by lia),sm⟩))) fun e=>jz (wpS_pure (hD _ _ (.inr ⟨_,ia,ib + 1,_,_,by rw [<- Array.map_push],sm,la,by lia,by lia,j2⟩))) (wpS_pure (hY _ _ ⟨_,ia,ib + 1,_,_,by rw [<- Array.map_push],sm,la,by lia,by lia,j2⟩))))
   simp
  | false=>
   have j2:=j.one la' fun i h1 h2=>o.tr _ _ _ (o.no _ _ cw) (sy _ _ h1 h2)
   rw [if_neg (by decide)]
   refine wpS_bind (bF la' (bp (fun e=>wpS_pure (hD _ _ (.inl ⟨_,?_,j2.last e (by lia) (hl' _ e),sm⟩))) fun e=>jz (wpS_pure (hD _ _ (.inr ⟨_,ia + 1,ib,_,_,by rw [<- Array.map_push],sm,by lia,lb,by lia,j2⟩))) (wpS_pure (hY _ _ ⟨_,ia + 1,ib,_,_,by rw [<- Array.map_push],sm,by lia,lb,by lia,j2⟩))))
   simp
 case p2=>
  clear L
  rintro ⟨c,c'⟩ st2 (⟨R,rfl,hR,sm⟩ | ⟨O,ia,ib,a,b,hcc,L⟩)
  ·exact wpS_pure (hD _ _ ⟨R,rfl,hR,sm⟩)
  cases hcc
  refine wpS_bind (wpS_lift (wpAny_rule ⟨rfl,wpS_bind (kX (fun y c st2=>∃ O ia ib m a b,c = (none,O.map (kas_item it),ia,ib,m,a,b) /\ LI κ st le X Y (x + 2) st2 O ia ib) (fun c st2=>LR κ it st le X Y c.1 st2 \/ ∃ O ia ib m a b,c = (none,O.map (kas_item it),ia,ib,m,a,b) /\ LI κ st le X Y (x + 2) st2 O ia ib) ⟨O,ia,ib,_,_,_,rfl,L⟩ ?s3 (fun _ _ h=>.inr h) ?p3)⟩))
  case p3=>
   rintro ⟨c,c'⟩ st2 (⟨R,rfl,hR,sm⟩ | ⟨O,ia,ib,m,a,b,hcc,sm,L⟩)
   ·exact wpS_pure (hD _ _ ⟨R,rfl,hR,sm⟩)
   cases hcc
   exact wpS_bind (wpS_modify (wpS_pure (hY _ _ ⟨O,ia,ib,_,rfl,sm.g _,L⟩)))
  clear hD hY L
  rintro y c st2 QQ hD hY hy0 ⟨O,ia,ib,m,a,b,rfl,sm,la,lb,ls,j⟩
  have dR:∀ {R' R t st2},R' = R.map (kas_item it) -> Same κ st st2 -> jT le (X.toList ++ Y.toList) R -> QQ (.done (some R',t)) st2:=fun e sm g=>hD _ _ (.inl ⟨_,congrArg some e,g,sm⟩)
  dsimp -zeta only
  extract_lets -underBinder s1 out s2 ia2 s3 ib2 s4 mg s5 ac bc jp
  refine BN fun g=>?_
  replace sm:=sm.g g
  refine wpS_bind (wpS_modify (wpS_bind (bF lb (wpS_bind (jf o hc sm.1 hx (hy ib lb) (show ia + (X.size - ia) <= X.size by lia) (show 0 < X.size - ia by lia) (fun i k h1 h2=>sx (ia + i) (ia + k) (by lia) (show ia + k < X.size by change k < X.size - ia at h2;lia)) fun k k1 k2 k3=>?_)))))
  replace k2:=rel (p:=fun i=>le (at' X i) (at' Y ib)) (a:=0) fun i _ h=>k2 i h
  replace k3:∀ i,ia + k <= i -> i < X.size -> le (at' Y ib) (at' X i):=fun i h1 h2=>rel (p:=fun i=>le (at' Y ib) (at' X i)) k3 i h1 (show i < ia + (X.size - ia) by lia)
  dsimp -zeta only
  extract_lets -underBinder ac2 jp2
  refine xg (jp:=jp2) (fun O' i=>∃ O,O' = O.map (kas_item it) /\ i + 1 < X.size /\ x + 2 <= i + ib /\ J le (X.toList ++ Y.toList) X Y O i ib /\ ∀ l,i <= l -> l < X.size -> le (at' Y ib) (at' X l)) ?_ fun hj=>?_
  ·rintro O' i ⟨O,rfl,la,ls,j,ky⟩
   have j2:J le (X.toList ++ Y.toList) X Y (O.push (at' Y ib)) i (ib + 1):=(j.sy.one lb ky).sy
   have li:i < X.size:=by lia
   refine wpS_bind (bF lb (bp (fun e=>wpS_pure (dR ?_ sm (j2.done1 (Nat.le_of_eq e.symm) (by lia)))) fun e=>wpS_bind (bF li (wpS_bind (jf o hc sm.1 hy (hx i li) (show ib + 1 + (Y.size - (ib + 1)) <= Y.size by lia) (show 0 < Y.size - (ib + 1) by change ¬ib + 1 = Y.size at e;lia) (fun i k h1 h2=>sy (ib + 1 + i) (ib + 1 + k) (by lia) (show ib + 1 + k < Y.size by change k < Y.size - (ib + 1) at h2;lia)) fun k k1 k2 k3=>?_)))))
   ·simp +zetaDelta
   replace k2:=rel (p:=fun l=>le (at' Y l) (at' X i)) (u:=ib + 1) (a:=0) fun i _ h=>k2 i h
   replace k3:∀ l,ib + 1 + k <= l -> l < Y.size -> le (at' X i) (at' Y l):=fun l h1 h2=>rel (p:=fun l=>le (at' X i) (at' Y l)) (u:=ib + 1) k3 l h1 (show l < ib + 1 + (Y.size - (ib + 1)) by lia)
   dsimp -zeta only
   extract_lets -underBinder bc2 jp3
   refine xg (jp:=jp3) (fun O' l=>∃ O,O' = O.map (kas_item it) /\ l < Y.size /\ ib < l /\ J le (X.toList ++ Y.toList) X Y O i l /\ ∀ i',l <= i' -> i' < Y.size -> le (at' X i) (at' Y i')) ?_ fun hj=>?_
   ·rintro O' l ⟨O,rfl,lb,lc,j,ky⟩
    have j2:=j.one li ky
    refine wpS_bind (bF li (bp (fun e=>wpS_pure (dR ?_ sm (j2.last e (by lia) (hl' _ e)))) fun e=>jz (wpS_pure (hD _ _ (.inr ⟨_,i + 1,l,_,_,_,by rw [<- Array.map_push],sm,by lia,lb,by lia,j2⟩))) (wpS_pure (hY _ _ ⟨_,i + 1,l,_,_,_,by rw [<- Array.map_push],sm,by lia,lb,by lia,j2⟩))))
    simp
   have j3:J le (X.toList ++ Y.toList) X Y (O.push (at' Y ib) ++ Y.extract (ib + 1) (ib + 1 + k)) i (ib + 1 + k):=(j2.sy.blk fun i' l h1 h2 h3 h4 h5=>o.tr _ _ _ (k2 i' h1 h2) (sx _ _ h4 h5)).sy
   refine bp (fun k0=>bp (fun e=>wpS_pure (dR ?_ sm (j3.done1 (Nat.le_of_eq e.symm) (Nat.le_of_lt li)))) fun e=>hj _ _ ⟨_,?_,Nat.lt_of_le_of_ne (show ib + 1 + k <= Y.size by change k <= Y.size - (ib + 1) at k1;lia) e,show ib < ib + 1 + k by lia,j3,k3⟩) fun k0=>hj _ _ ⟨O.push (at' Y ib),?_,Nat.lt_of_le_of_ne lb e,Nat.lt_succ_self ib,j2,fun l h1 h2=>k3 l (show ib + 1 + k <= l by change ib + 1 <= l at h1;lia) h2⟩
   ·simp +zetaDelta
   ·simp +zetaDelta
   ·simp +zetaDelta
  have j3:=j.blk (m:=k) fun i l h1 h2 h3 h4 h5=>o.tr _ _ _ (k2 i h1 h2) (sy _ _ h4 h5)
  have kk:ia + k <= X.size:=by change k <= X.size - ia at k1;lia
  refine bp (fun k0=>bp (fun e=>wpS_pure (dR ?_ sm (j3.last e (by lia) (hl' _ e)))) fun e=>bp (fun e2=>wpS_pure (dR ?_ sm (j3.done2 (Nat.le_of_eq e2.symm) (by lia)))) fun e2=>hj _ _ ⟨_,?_,show ia + k + 1 < X.size by change ¬ia + k + 1 = X.size at e;change ¬ia + k = X.size at e2;lia,show x + 2 <= ia + k + ib by lia,j3,k3⟩) fun k0=>hj _ _ ⟨O,rfl,la,ls,j,fun l h1 h2=>k3 l (show ia + k <= l by change ia <= l at h1;lia) h2⟩
  ·simp +zetaDelta
  ·simp +zetaDelta
  ·simp +zetaDelta
end
section
variable {X Y O:Array Nat} {le:Nat -> Nat -> Prop} {tot:List Nat} {na nb:Nat}
theorem BJ {i:Nat} (h:i < X.size):X.toList.take (i + 1) = X.toList.take i ++ [at' X i]:=by
 rw [List.take_succ_eq_append_getElem (by simpa using h),jj h]
theorem kD {i j:Nat} (h:i <= j):X.toList.take j = X.toList.take i ++ (X.extract i j).toList:=by
 rw [Array.toList_extract,List.extract_eq_take_drop]
 have e:j = i + (j - i):=by lia
 conv=>lhs;rw [e,List.take_add]
theorem sZ {i x:Nat} (h:x ∈ X.toList.take i):∃ j,j < i /\ j < X.size /\ at' X j = x:=by
 obtain ⟨k,hk⟩:=List.getElem?_of_mem h
 rw [List.getElem?_take] at hk
 split at hk
 ·obtain ⟨h1,h2⟩:=List.getElem?_eq_some_iff.mp hk
  have h1':k < X.size:=by simpa using h1
  exact ⟨k,by lia,h1',by rw [<- jj h1'];exact h2⟩
 ·cases hk
abbrev JH (le:Nat -> Nat -> Prop) (tot:List Nat) (X Y O:Array Nat) (na nb:Nat):Prop:=Inv (fun a b=>le b a) tot O.toList (X.toList.take na).reverse (Y.toList.take nb).reverse
theorem JH.sy (j:JH le tot X Y O na nb):JH le tot Y X O nb na:=Inv.symm j
theorem JH.one (j:JH le tot X Y O na nb) (h:1 <= na) (h2:na <= X.size) (k:∀ i,i < nb -> le (at' Y i) (at' X (na - 1))):JH le tot X Y (O.push (at' X (na - 1))) (na - 1) nb:=by
 unfold JH at j ⊢
 obtain ⟨m,rfl⟩:∃ m,na = m + 1:=⟨na - 1,by lia⟩
 rw [BJ (by lia),List.reverse_append] at j
 rw [Nat.add_sub_cancel] at k ⊢
 have:=Inv.block (xs:=[at' X m]) j (fun x hx y hy=>by
  rw [List.mem_singleton] at hx
  subst hx
  obtain ⟨i,h1,h2,rfl⟩:=sZ (List.mem_reverse.mp hy)
  exact k i h1)
 rwa [Array.toList_push]
theorem JH.blk {m:Nat} (j:JH le tot X Y O na nb) (h:m <= na) (h2:na <= X.size) (k:∀ i l,m <= i -> i < na -> l < nb -> le (at' Y l) (at' X i)):JH le tot X Y (O ++ (X.extract m na).reverse) m nb:=by
 unfold JH at j ⊢
 rw [kD h,List.reverse_append] at j
 have:=Inv.block j (fun x hx y hy=>by
  obtain ⟨i,h1,h2,h3,rfl⟩:=rE (List.mem_reverse.mp hx)
  obtain ⟨l,h4,h5,rfl⟩:=sZ (List.mem_reverse.mp hy)
  exact k i l h1 h2 h4)
 rwa [Array.toList_append,Array.toList_reverse]
theorem yT {l r:List Nat} (h:l.Pairwise (fun a b=>le b a) /\ l.Perm tot) (e:l = r.reverse):r.Pairwise le /\ r.Perm tot:=by
 subst e
 exact ⟨List.pairwise_reverse.mp h.1,(List.reverse_perm _).symm.trans h.2⟩
theorem IH (m:Nat):(X.extract 0 m).toList = X.toList.take m:=by rw [Array.toList_extract,List.extract_eq_take_drop];simp
theorem JH.done1 (j:JH le tot X Y O na nb) (h:nb = 0) (h2:na <= X.size):jT le tot (X.extract 0 na ++ Y.extract 0 nb ++ O.reverse):=by
 subst h
 refine yT (l:=O.toList ++ (X.toList.take na).reverse) (Inv.doneA (by unfold JH at j;simpa using j)) ?_
 simp [IH]
theorem JH.done2 (j:JH le tot X Y O na nb) (h:na = 0) (h2:nb <= Y.size):jT le tot (X.extract 0 na ++ Y.extract 0 nb ++ O.reverse):=by
 have:=j.sy.done1 h h2
 subst h
 simpa using this
theorem JH.first (j:JH le tot X Y O na nb) (h:nb = 1) (y1:1 <= Y.size) (h2:na <= X.size) (k:∀ i,i < X.size -> le (at' Y 0) (at' X i)):jT le tot (Y.extract 0 nb ++ X.extract 0 na ++ O.reverse):=by
 subst h
 have e:Y.toList.take 1 = [at' Y 0]:=by rw [BJ (i:=0) (by lia)];simp
 have j2:Inv (fun a b=>le b a) tot O.toList [at' Y 0] (X.toList.take na).reverse:=by have:=j.sy;unfold JH at this;rw [e] at this;exact this
 refine yT (j2.lastA fun y hy=>?_) ?_
 ·obtain ⟨i,h1,h2,rfl⟩:=sZ (List.mem_reverse.mp hy)
  exact k i h2
 ·rw [Array.toList_append,Array.toList_append,IH,IH,e]
  simp
end
section
variable {prog:Program} {w:World} {A:Around} {E:Value -> Shared -> Prop} {s:Shared} {κ:SortKind} {it:Array Keyed} {n:Nat} {lt:Nat -> Nat -> Bool} {le:Nat -> Nat -> Prop}
def HI (κ:SortKind) (st:SortSt) (le:Nat -> Nat -> Prop) (X Y:Array Nat) (v:Nat) (st2:SortSt) (O:Array Nat) (na nb:Nat):Prop:=Same κ st st2 /\ 1 <= na /\ 1 < nb /\ na < X.size /\ nb <= Y.size /\ na + nb + v <= X.size + Y.size /\ JH le (X.toList ++ Y.toList) X Y O na nb
theorem Dv (o:Ord lt le) (hc:ul prog w A s κ it n lt) {X Y:Array Nat} {Q:Array Keyed -> SortSt -> Prop} {st:SortSt} (hk:kindOf st = κ) (hx:∀ i,i < X.size -> at' X i < n) (hy:∀ i,i < Y.size -> at' Y i < n)
  (x1:1 <= X.size) (y1:1 <= Y.size) (sx:∀ i j,i <= j -> j < X.size -> le (at' X i) (at' X j)) (sy:∀ i j,i <= j -> j < Y.size -> le (at' Y i) (at' Y j)) (hf:∀ i,i < X.size -> le (at' Y 0) (at' X i)) (hl:∀ i,i < Y.size -> le (at' Y i) (at' X (X.size - 1)))
  (h:∀ R st',Same κ st st' -> jT le (X.toList ++ Y.toList) R -> Q (R.map (kas_item it)) st') :
  wpS (model prog w) A E s (EJ (X.map (kas_item it)) (Y.map (kas_item it))) Q st:=by
 have sm0:Same κ st st:=⟨hk,rfl,rfl,rfl⟩
 have fin:∀ {O:Array Keyed} {R},O = R.map (kas_item it) -> ∀ {st'},Same κ st st' -> jT le (X.toList ++ Y.toList) R -> Q O st':=fun e _ sm g=>e ▸ h _ _ sm g
 have j0:JH le (X.toList ++ Y.toList) X Y #[] X.size Y.size:=by
  unfold JH
  rw [List.take_of_length_le (by simp),List.take_of_length_le (by simp)]
  exact ⟨by simpa using List.pairwise_reverse.mpr (BB sx),by simpa using List.pairwise_reverse.mpr (BB sy),by simpa using (List.reverse_perm X.toList).append (List.reverse_perm Y.toList)⟩
 have j1:JH le (X.toList ++ Y.toList) X Y #[at' X (X.size - 1)] (X.size - 1) Y.size:=j0.one x1 (Nat.le_refl _) fun i h2=>hl i h2
 refine wpS_bind (wpS_lift (wpAny_rule ⟨rfl,?_⟩))
 simp -zeta only [Array.size_map,beq_iff_eq]
 refine wpS_bind (bF (X:=X) (k:=X.size - 1) (by lia) (bp (fun e=>wpS_pure (fin ?_ sm0 (j1.done2 e (by lia)))) fun e1=>bp (fun e=>wpS_pure (fin ?_ sm0 (j1.first e (by lia) (by lia) hf))) fun e2=>?_))
 ·simp [exm]
 ·simp [exm]
 refine wpS_bind (wpS_get (wpS_bind (kX (fun x c st2=>∃ O na nb g,c = (none,na,nb,O.map (kas_item it),g) /\ HI κ st le X Y (x + 1) st2 O na nb) (fun c st2=>LR κ it st le X Y c.1 st2) ⟨#[at' X (X.size - 1)],X.size - 1,Y.size,_,by simp;rfl,sm0,by lia,by lia,by lia,by lia,by lia,j1⟩ ?s1 ?f1 ?p1)))
 case f1=>
  rintro c st2 ⟨O,na,nb,g,rfl,sm,la,lb,lx,ly,ls,j⟩
  lia
 case p1=>
  rintro ⟨c,c'⟩ st2 ⟨R,rfl,hR,sm⟩
  exact wpS_pure (h R st2 sm hR)
 rintro x c st2 QQ hD hY hx0 ⟨O,na,nb,g,rfl,L⟩
 refine wpS_bind (kX (fun y c st2=>∃ O na nb a b,c = (none,na,nb,O.map (kas_item it),a,b) /\ HI κ st le X Y (x + 1 + y) st2 O na nb) (fun c st2=>LR κ it st le X Y c.1 st2 \/ ∃ O na nb a b,c = (none,na,nb,O.map (kas_item it),a,b) /\ HI κ st le X Y (x + 2) st2 O na nb) ⟨O,na,nb,0,0,rfl,L⟩ ?s2 ?f2 ?p2)
 case f2=>
  rintro c st2 ⟨O,na,nb,a,b,rfl,sm,la,lb,lx,ly,ls,j⟩
  lia
 case s2=>
  clear hD hY
  rintro y c st2 QQ hD hY hy0 ⟨O,na,nb,a,b,rfl,sm,la,lb,lx,ly,ls,j⟩
  have la':na - 1 < X.size:=by lia
  have lb':nb - 1 < Y.size:=by lia
  refine wpS_bind (bF lb' (wpS_bind (bF la' (wpS_bind (w_lt hc sm.1 (hy (nb - 1) lb') (hx (na - 1) la') ?_)))))
  dsimp -zeta only
  cases cw:lt (at' Y (nb - 1)) (at' X (na - 1)) with
  | true=>
   have j2:=j.one la (by lia) fun i h1=>o.tr _ _ _ (sy i (nb - 1) (by lia) lb') (o.yes _ _ cw)
   rw [if_pos rfl]
   refine wpS_bind (bF la' (bp (fun e=>wpS_pure (hD _ _ (.inl ⟨_,?_,j2.done2 e ly,sm⟩))) fun e=>jz (wpS_pure (hD _ _ (.inr ⟨_,na - 1,nb,_,_,by rw [<- Array.map_push],sm,by lia,lb,la',ly,by lia,j2⟩))) (wpS_pure (hY _ _ ⟨_,na - 1,nb,_,_,by rw [<- Array.map_push],sm,by lia,lb,la',ly,by lia,j2⟩))))
   simp [Array.map_reverse]
  | false=>
   have j2:JH le (X.toList ++ Y.toList) X Y (O.push (at' Y (nb - 1))) na (nb - 1):=(j.sy.one (by lia) (by lia) fun i h1=>o.tr _ _ _ (sx i (na - 1) (by lia) la') (o.no _ _ cw)).sy
   rw [if_neg (by decide)]
   refine wpS_bind (bF lb' (bp (fun e=>wpS_pure (hD _ _ (.inl ⟨_,?_,j2.first e y1 (by lia) hf,sm⟩))) fun e=>jz (wpS_pure (hD _ _ (.inr ⟨_,na,nb - 1,_,_,by rw [<- Array.map_push],sm,la,by lia,lx,by lia,by lia,j2⟩))) (wpS_pure (hY _ _ ⟨_,na,nb - 1,_,_,by rw [<- Array.map_push],sm,la,by lia,lx,by lia,by lia,j2⟩))))
   simp [Array.map_reverse]
 case p2=>
  clear L
  rintro ⟨c,c'⟩ st2 (⟨R,rfl,hR,sm⟩ | ⟨O,na,nb,a,b,hcc,L⟩)
  ·exact wpS_pure (hD _ _ ⟨R,rfl,hR,sm⟩)
  cases hcc
  refine wpS_bind (wpS_lift (wpAny_rule ⟨rfl,wpS_bind (kX (fun y c st2=>∃ O na nb m a b,c = (none,na,nb,O.map (kas_item it),m,a,b) /\ HI κ st le X Y (x + 2) st2 O na nb) (fun c st2=>LR κ it st le X Y c.1 st2 \/ ∃ O na nb m a b,c = (none,na,nb,O.map (kas_item it),m,a,b) /\ HI κ st le X Y (x + 2) st2 O na nb) ⟨O,na,nb,_,_,_,rfl,L⟩ ?s3 (fun _ _ h=>.inr h) ?p3)⟩))
  case p3=>
   rintro ⟨c,c'⟩ st2 (⟨R,rfl,hR,sm⟩ | ⟨O,na,nb,m,a,b,hcc,sm,L⟩)
   ·exact wpS_pure (hD _ _ ⟨R,rfl,hR,sm⟩)
   cases hcc
   exact wpS_bind (wpS_modify (wpS_pure (hY _ _ ⟨O,na,nb,_,rfl,sm.g _,L⟩)))
  clear hD hY L
  rintro y c st2 QQ hD hY hy0 ⟨O,na,nb,m,a,b,rfl,sm,la,lb,lx,ly,ls,j⟩
  have dR:∀ {R' R t st2},R' = R.map (kas_item it) -> Same κ st st2 -> jT le (X.toList ++ Y.toList) R -> QQ (.done (some R',t)) st2:=fun e sm g=>hD _ _ (.inl ⟨_,congrArg some e,g,sm⟩)
  have lb':nb - 1 < Y.size:=by lia
  dsimp -zeta only
  extract_lets -underBinder s1 na2 s2 nb2 s3 out s4 mg s5 ac bc jp
  refine BN fun g=>?_
  replace sm:=sm.g g
  refine wpS_bind (wpS_modify (wpS_bind (bF lb' (wpS_bind (jf o hc sm.1 hx (hy (nb - 1) lb') (show 0 + na <= X.size by lia) (show na - 1 < na by lia) (fun i k h1 h2=>sx (0 + i) (0 + k) (by lia) (show 0 + k < X.size by change k < na at h2;lia)) fun k k1 k2 k3=>?_)))))
  simp only [Nat.zero_add] at k2 k3
  change k <= na at k1
  dsimp -zeta only
  extract_lets -underBinder kk ac2 jp2
  refine xg (jp:=jp2) (fun i O'=>∃ O,O' = O.map (kas_item it) /\ 1 <= i /\ i < X.size /\ i + nb + (x + 2) <= X.size + Y.size /\ JH le (X.toList ++ Y.toList) X Y O i nb /\ ∀ l,l < i -> le (at' X l) (at' Y (nb - 1))) ?_ fun hj=>?_
  ·rintro i O' ⟨O,rfl,la,lx,ls,j,ky⟩
   have j2:JH le (X.toList ++ Y.toList) X Y (O.push (at' Y (nb - 1))) i (nb - 1):=(j.sy.one (by lia) (by lia) ky).sy
   have li:i - 1 < X.size:=by lia
   refine wpS_bind (bF lb' (bp (fun e=>wpS_pure (dR ?_ sm (j2.first e y1 (by lia) hf))) fun e=>wpS_bind (bF li (wpS_bind (jf o hc sm.1 hy (hx (i - 1) li) (show 0 + (nb - 1) <= Y.size by lia) (show nb - 1 - 1 < nb - 1 by lia) (fun i k h1 h2=>sy (0 + i) (0 + k) (by lia) (show 0 + k < Y.size by change k < nb - 1 at h2;lia)) fun k k1 k2 k3=>?_)))))
   ·simp +zetaDelta [Array.map_reverse]
   simp only [Nat.zero_add] at k2 k3
   change k <= nb - 1 at k1
   dsimp -zeta only
   extract_lets -underBinder kk bc2 jp3
   refine xg (jp:=jp3) (fun l O'=>∃ O,O' = O.map (kas_item it) /\ 1 < l /\ l < nb /\ JH le (X.toList ++ Y.toList) X Y O i l /\ ∀ i',i' < l -> le (at' Y i') (at' X (i - 1))) ?_ fun hj=>?_
   ·rintro l O' ⟨O,rfl,lb,lc,j,ky⟩
    have j2:=j.one la (by lia) ky
    refine wpS_bind (bF li (bp (fun e=>wpS_pure (dR ?_ sm (j2.done2 e (by lia)))) fun e=>jz (wpS_pure (hD _ _ (.inr ⟨_,i - 1,l,_,_,_,by rw [<- Array.map_push],sm,by lia,lb,li,by lia,by lia,j2⟩))) (wpS_pure (hY _ _ ⟨_,i - 1,l,_,_,_,by rw [<- Array.map_push],sm,by lia,lb,li,by lia,by lia,j2⟩))))
    simp [Array.map_reverse]
   have j3:JH le (X.toList ++ Y.toList) X Y (O.push (at' Y (nb - 1)) ++ (Y.extract k (nb - 1)).reverse) i k:=(j2.sy.blk (by lia) (by lia) fun i' l h1 h2 h3=>o.tr _ _ _ (sx l (i - 1) (by lia) li) (k3 i' h1 h2)).sy
   refine bp (fun k0=>bp (fun e=>wpS_pure (dR ?_ sm (j3.first e y1 (by lia) hf))) fun e=>bp (fun e2=>wpS_pure (dR ?_ sm (j3.done1 e2 (by lia)))) fun e2=>hj _ _ ⟨_,?_,show 1 < k by change ¬k = 1 at e;change ¬k = 0 at e2;lia,by lia,j3,k2⟩) fun k0=>hj _ _ ⟨O.push (at' Y (nb - 1)),?_,show 1 < nb - 1 by change ¬nb - 1 = 1 at e;lia,show nb - 1 < nb by lia,j2,fun l h1=>k2 l (show l < k by change l < nb - 1 at h1;change ¬nb - 1 - k > 0 at k0;lia)⟩
   ·simp +zetaDelta [Array.map_reverse]
   ·simp +zetaDelta [Array.map_reverse]
   ·simp +zetaDelta [Array.map_reverse]
   ·simp +zetaDelta
  have j3:=j.blk (m:=k) k1 (by lia) fun i l h1 h2 h3=>o.tr _ _ _ (sy l (nb - 1) (by lia) lb') (k3 i h1 h2)
  refine bp (fun k0=>bp (fun e=>wpS_pure (dR ?_ sm (j3.done2 e ly))) fun e=>hj _ _ ⟨_,?_,Nat.pos_of_ne_zero e,show k < X.size by lia,show k + nb + (x + 2) <= X.size + Y.size by lia,j3,k2⟩) fun k0=>hj _ _ ⟨O,rfl,la,lx,ls,j,fun l h1=>k2 l (show l < k by change l < na at h1;change ¬na - k > 0 at k0;lia)⟩
  ·simp +zetaDelta [Array.map_reverse]
  ·simp +zetaDelta [Array.map_reverse]
end
section
variable {α:Type}
theorem Fi (lo:Nat):∀ (R:List α) (p:Array α) (j:Nat),lo + j + R.length <= p.size -> ((R.zipIdx j).foldl (fun a x=>a.setIfInBounds (lo + x.2) x.1) p).toList = p.toList.take (lo + j) ++ R ++ p.toList.drop (lo + j + R.length)
 | [],p,j,_=>by simp
 | r :: R,p,j,h=>by
  have hl:lo + j < p.toList.length:=by simp at h ⊢;lia
  rw [List.zipIdx_cons,List.foldl_cons,Fi lo R _ (j + 1) (by simp at h ⊢;lia)]
  have e1:(p.setIfInBounds (lo + j) r).toList = p.toList.set (lo + j) r:=by simp
  have e2:(p.toList.set (lo + j) r).take (lo + (j + 1)) = p.toList.take (lo + j) ++ [r]:=by
   rw [<- Nat.add_assoc,List.take_succ_eq_append_getElem (by simpa using hl),List.take_set_of_le (Nat.le_refl _)]
   simp
  have e3:(p.toList.set (lo + j) r).drop (lo + (j + 1) + R.length) = p.toList.drop (lo + j + (r :: R).length):=by
   rw [List.drop_set_of_lt (by lia),List.length_cons]
   congr 1;lia
  rw [e1,e2,e3]
  simp
end
section
variable {prog:Program} {w:World} {A:Around} {E:Value -> Shared -> Prop} {s:Shared} {κ:SortKind} {it:Array Keyed} {n:Nat} {lt:Nat -> Nat -> Bool} {le:Nat -> Nat -> Prop}
def Stt (κ:SortKind) (it:Array Keyed) (st:SortSt) (p:Array Nat) (pend:Array (Nat × Nat × Nat)):Prop:=kindOf st = κ /\ arrOf st = p.map (kas_item it) /\ pendingOf st = pend /\ failedOf st = none
structure Srtd (le:Nat -> Nat -> Prop) (p p':Array Nat) (lo hi:Nat):Prop where
 perm:p'.Perm p
 out:∀ k,k < lo \/ hi <= k -> at' p' k = at' p k
 asc:∀ i j,lo <= i -> i <= j -> j < hi -> le (at' p' i) (at' p' j)
theorem HB {σ:Type}  {x:σ} {Q:PUnit -> σ -> Prop} {st:σ} (h:Q ⟨⟩ x):wpS M A E s (set x:StateT σ Sem PUnit) Q st:=by
 unfold wpS
 rw [StateT.run_set]
 exact wpAny_pure ⟨rfl,h⟩
theorem My (l:List Nat) (k:Nat):at' l.toArray k = (l[k]?).getD 0:=by simp [at']
theorem Ip (p:Array Nat) (k:Nat):at' p k = (p.toList[k]?).getD 0:=by simp [at']
theorem Ay {p:Array Nat} {R:List Nat} {lo:Nat} (h:lo + R.length <= p.size) (k:Nat):at' (p.toList.take lo ++ R ++ p.toList.drop (lo + R.length)).toArray k = if lo <= k /\ k < lo + R.length then (R[k - lo]?).getD 0 else at' p k:=by
 rw [My,Ip]
 have hl:(p.toList.take lo).length = lo:=by rw [List.length_take];simp;lia
 by_cases h1:k < lo
 ·rw [if_neg (by lia),List.append_assoc,List.getElem?_append_left (by lia),List.getElem?_take,if_pos h1]
 ·by_cases h2:k < lo + R.length
  ·rw [if_pos ⟨by lia,h2⟩,List.append_assoc,List.getElem?_append_right (by lia),hl,List.getElem?_append_left (by lia)]
  ·rw [if_neg (by lia),List.getElem?_append_right (by rw [List.length_append,hl];lia),List.length_append,hl,List.getElem?_drop]
   congr 2;lia
theorem Fk {p:Array Nat} {R:List Nat} {lo:Nat} (h:R.Perm (p.extract lo (lo + R.length)).toList):(p.toList.take lo ++ R ++ p.toList.drop (lo + R.length)).toArray.Perm p:=by
 rw [Array.perm_iff_toList_perm]
 show (p.toList.take lo ++ R ++ p.toList.drop (lo + R.length)).Perm p.toList
 refine ((h.append_left _).append_right _).trans ?_
 rw [<- kD (by lia),List.take_append_drop]
theorem DP {p:Array Nat} {i j k:Nat} (h:i + k < j):at' (p.extract i j) k = at' p (i + k):=by
 rw [Ip,Ip,Array.toList_extract,List.extract_eq_take_drop,List.getElem?_take,if_pos (by lia),List.getElem?_drop]
theorem y6 {p:Array Nat} {i j:Nat} (h:j <= p.size):(p.extract i j).size = j - i:=by simp;lia
theorem Du (o:Ord lt le) (hc:ul prog w A s κ it n lt) {i sa na pw sb nb q:Nat}  {pend:Array (Nat × Nat × Nat)} {Q:Bool -> SortSt -> Prop} {st:SortSt} (S:Stt κ it st p pend) (h1:pend[i]? = some (sa,na,pw)) (h2:pend[i + 1]? = some (sb,nb,q))
  (hsb:sb = sa + na) (na1:1 <= na) (nb1:1 <= nb) (hz:sb + nb <= p.size) (hp:∀ i,i < p.size -> at' p i < n) (sA:∀ i j,i <= j -> j < na -> le (at' p (sa + i)) (at' p (sa + j))) (sB:∀ i j,i <= j -> j < nb -> le (at' p (sb + i)) (at' p (sb + j)))
  (h:∀ p' st',Stt κ it st' p' ((pend.setIfInBounds i (sa,na + nb,pw)).eraseIdxIfInBounds (i + 1)) -> Srtd le p p' sa (sa + (na + nb)) -> Q true st'):wpS (model prog w) A E s (mergeAt' i) Q st:=by
 obtain ⟨S1,S2,S3,S4⟩:=S
 refine wpS_bind (wpS_get ?_)
 have S3':(sortPriv% PySem.Builtin.SortState.pending) st = pend:=S3
 have S2':(sortPriv% PySem.Builtin.SortState.a) st = p.map (kas_item it):=S2
 rw [S3',h1,h2]
 refine wpS_bind (HB ?_)
 rw [S2']
 generalize hst:(sortPriv% PySem.Builtin.SortState.mk) _ _ _ _ _ = st2
 have T:Stt κ it st2 p ((pend.setIfInBounds i (sa,na + nb,pw)).eraseIdxIfInBounds (i + 1)):=by subst hst;exact ⟨S1,rfl,rfl,S4⟩
 clear hst S1 S2 S3 S4 S2' S3' h1 h2
 generalize ((pend.setIfInBounds i (sa,na + nb,pw)).eraseIdxIfInBounds (i + 1)) = pend2 at T h
 have sA':∀ i j,sa <= i -> i <= j -> j < sb -> le (at' p i) (at' p j):=fun i j a1 a2 a3=>by
  have:=sA (i - sa) (j - sa) (by lia) (by lia)
  rwa [show sa + (i - sa) = i by lia,show sa + (j - sa) = j by lia] at this
 have sB':∀ i j,sb <= i -> i <= j -> j < sb + nb -> le (at' p i) (at' p j):=fun i j a1 a2 a3=>by
  have:=sB (i - sb) (j - sb) (by lia) (by lia)
  rwa [show sb + (i - sb) = i by lia,show sb + (j - sb) = j by lia] at this
 refine wpS_bind (bF (by lia) ?_)
 refine wpS_bind (jf o hc T.1 hp (hp sb (by lia)) (by lia) (by lia) sA fun k k1 k2 k3=>?_)
 have k2':∀ i,sa <= i -> i < sa + k -> le (at' p i) (at' p sb):=fun i a1 a2=>by
  have:=k2 (i - sa) (by lia)
  rwa [show sa + (i - sa) = i by lia] at this
 have k3':∀ i,sa + k <= i -> i < sb -> le (at' p sb) (at' p i):=fun i a1 a2=>by
  have:=k3 (i - sa) (by lia) (by lia)
  rwa [show sa + (i - sa) = i by lia] at this
 clear k2 k3
 dsimp only
 simp only [beq_iff_eq]
 by_cases e1:na - k = 0
 ·rw [if_pos e1]
  refine wpS_pure (h p st2 T ⟨.refl _,fun _ _=>rfl,fun i j a1 a2 a3=>?_⟩)
  by_cases b1:j < sb
  ·exact sA' i j a1 a2 b1
  ·by_cases b2:sb <= i
   ·exact sB' i j b2 a2 (by lia)
   ·exact o.tr _ _ _ (k2' i a1 (by lia)) (sB' sb j (Nat.le_refl _) (by lia) (by lia))
 rw [if_neg e1]
 refine wpS_bind (bF (by lia) ?_)
 have e2:sa + k + (na - k) - 1 = sb - 1:=by lia
 rw [e2]
 refine wpS_bind (jf o hc T.1 hp (hp (sb - 1) (by lia)) (by lia) (by lia) sB fun m m1 k2 k3=>?_)
 have m2':∀ i,sb <= i -> i < sb + m -> le (at' p i) (at' p (sb - 1)):=fun i a1 a2=>by
  have:=k2 (i - sb) (by lia)
  rwa [show sb + (i - sb) = i by lia] at this
 have m3':∀ i,sb + m <= i -> i < sb + nb -> le (at' p (sb - 1)) (at' p i):=fun i a1 a2=>by
  have:=k3 (i - sb) (by lia) (by lia)
  rwa [show sb + (i - sb) = i by lia] at this
 clear k2 k3
 dsimp only
 by_cases e3:m = 0
 ·rw [if_pos e3]
  subst e3
  refine wpS_pure (h p st2 T ⟨.refl _,fun _ _=>rfl,fun i j a1 a2 a3=>?_⟩)
  by_cases b1:j < sb
  ·exact sA' i j a1 a2 b1
  ·by_cases b2:sb <= i
   ·exact sB' i j b2 a2 (by lia)
   ·exact o.tr _ _ _ (sA' i (sb - 1) a1 (by lia) (by lia)) (m3' j (by lia) (by lia))
 rw [if_neg e3]
 generalize hr:na - k = r
 have hr1:na = k + r:=by lia
 have hr0:0 < r:=by lia
 clear hr e1 e2
 have zx:(p.extract (sa + k) sb).size = r:=by rw [y6 (by lia)];lia
 have zy:(p.extract sb (sb + m)).size = m:=by rw [y6 (by lia)];lia
 have ax:∀ i,i < r -> at' (p.extract (sa + k) sb) i = at' p (sa + k + i):=fun i hi=>DP (by lia)
 have ay:∀ i,i < m -> at' (p.extract sb (sb + m)) i = at' p (sb + i):=fun i hi=>DP (by lia)
 have exy:(p.extract (sa + k) sb).toList ++ (p.extract sb (sb + m)).toList = (p.extract (sa + k) (sb + m)).toList:=by
  have a1:=kD (X:=p) (i:=sa + k) (j:=sb) (by lia)
  have a2:=kD (X:=p) (i:=sb) (j:=sb + m) (by lia)
  have a3:=kD (X:=p) (i:=sa + k) (j:=sb + m) (by lia)
  rw [a1,a3,List.append_assoc] at a2
  exact (List.append_cancel_left a2).symm
 have key:∀ R:Array Nat,jT le ((p.extract (sa + k) sb).toList ++ (p.extract sb (sb + m)).toList) R -> R.toList.length = r + m /\ Srtd le p (p.toList.take (sa + k) ++ R.toList ++ p.toList.drop (sa + k + R.toList.length)).toArray sa (sa + (na + nb)):=fun R g=>by
  have hlen:R.toList.length = r + m:=by
   rw [g.2.length_eq,List.length_append,Array.length_toList,Array.length_toList,zx,zy]
  refine ⟨hlen,?_,fun i hi=>?_,fun i j a1 a2 a3=>?_⟩
  ·refine Fk ?_
   rw [hlen,show sa + k + (r + m) = sb + m by lia,<- exy]
   exact g.2
  ·rw [Ay (by lia),if_neg (by lia)]
  ·rw [Ay (by lia),Ay (by lia),hlen]
   have memR:∀ i,i < r + m -> ∃ c,(R.toList[i]?).getD 0 = at' p c /\ ((sa + k <= c /\ c < sb) \/ (sb <= c /\ c < sb + m)):=fun i hi=>by
    have hi':i < R.toList.length:=by lia
    have hm:R.toList[i] ∈ R.toList:=List.getElem_mem hi'
    have e:(R.toList[i]?).getD 0 = R.toList[i]:=by rw [List.getElem?_eq_getElem hi'];rfl
    rw [e]
    rcases List.mem_append.mp (g.2.mem_iff.mp hm) with hm | hm
    ·obtain ⟨c,c1,c2,c3,c4⟩:=rE hm
     exact ⟨c,c4.symm,.inl ⟨c1,c2⟩⟩
    ·obtain ⟨c,c1,c2,c3,c4⟩:=rE hm
     exact ⟨c,c4.symm,.inr ⟨c1,c2⟩⟩
   by_cases b1:sa + k <= i /\ i < sa + k + (r + m)
   ·rw [if_pos b1]
    by_cases b2:sa + k <= j /\ j < sa + k + (r + m)
    ·rw [if_pos b2]
     by_cases b3:i = j
     ·subst b3;exact o.rf _
     ·have:=List.pairwise_iff_getElem.mp g.1 (i - (sa + k)) (j - (sa + k)) (by lia) (by lia) (by lia)
      rw [List.getElem?_eq_getElem (by lia),List.getElem?_eq_getElem (by lia)]
      exact this
    ·rw [if_neg b2]
     obtain ⟨c,c1,c2⟩:=memR (i - (sa + k)) (by lia)
     rw [c1]
     rcases c2 with c2 | c2
     ·exact o.tr _ _ _ (sA' c (sb - 1) (by lia) (by lia) (by lia)) (m3' j (by lia) (by lia))
     ·exact sB' c j (by lia) (by lia) (by lia)
   ·rw [if_neg b1]
    by_cases b2:sa + k <= j /\ j < sa + k + (r + m)
    ·rw [if_pos b2]
     obtain ⟨c,c1,c2⟩:=memR (j - (sa + k)) (by lia)
     rw [c1]
     rcases c2 with c2 | c2
     ·exact sA' i c (by lia) (by lia) (by lia)
     ·exact o.tr _ _ _ (k2' i (by lia) (by lia)) (sB' sb c (Nat.le_refl _) (by lia) (by lia))
    ·rw [if_neg b2]
     by_cases b3:j < sb
     ·exact sA' i j a1 a2 b3
     ·by_cases b4:sb <= i
      ·exact sB' i j b4 a2 (by lia)
      ·exact o.tr _ _ _ (k2' i a1 (by lia)) (sB' sb j (Nat.le_refl _) (by lia) (by lia))
 have fin:∀ (R:Array Nat) (st3:SortSt),Same κ st2 st3 -> jT le ((p.extract (sa + k) sb).toList ++ (p.extract sb (sb + m)).toList) R ->
   Q (failedOf st3).isNone (setArr st3 ((R.map (kas_item it)).toList.zipIdx.foldl (fun a x=>a.setIfInBounds (sa + k + x.2) x.1) (arrOf st3))):=fun R st3 sm g=>by
  obtain ⟨hlen,S⟩:=key R g
  have ea:arrOf st3 = p.map (kas_item it):=sm.2.1.trans T.2.1
  have ef:failedOf st3 = none:=sm.2.2.2.trans T.2.2.2
  rw [ef]
  refine h _ _ ⟨sm.1,?_,sm.2.2.1.trans T.2.2.1,ef⟩ S
  show (R.map (kas_item it)).toList.zipIdx.foldl (fun a x=>a.setIfInBounds (sa + k + x.2) x.1) (arrOf st3) = _
  rw [ea]
  apply Array.toList_inj.mp
  rw [Fi (sa + k) _ _ 0 (by simp at hlen ⊢;lia)]
  simp
 have cx:(p.map (kas_item it)).extract (sa + k) sb = (p.extract (sa + k) sb).map (kas_item it):=by simp
 have cy:(p.map (kas_item it)).extract sb (sb + m) = (p.extract sb (sb + m)).map (kas_item it):=by simp
 rw [cx,cy]
 have hx:∀ i,i < (p.extract (sa + k) sb).size -> at' (p.extract (sa + k) sb) i < n:=fun i hi=>by rw [ax i (by lia)];exact hp _ (by lia)
 have hy:∀ i,i < (p.extract sb (sb + m)).size -> at' (p.extract sb (sb + m)) i < n:=fun i hi=>by rw [ay i (by lia)];exact hp _ (by lia)
 have sx:∀ i j,i <= j -> j < (p.extract (sa + k) sb).size -> le (at' (p.extract (sa + k) sb) i) (at' (p.extract (sa + k) sb) j):=fun i j a1 a2=>by rw [ax i (by lia),ax j (by lia)];exact sA' _ _ (by lia) (by lia) (by lia)
 have sy:∀ i j,i <= j -> j < (p.extract sb (sb + m)).size -> le (at' (p.extract sb (sb + m)) i) (at' (p.extract sb (sb + m)) j):=fun i j a1 a2=>by rw [ay i (by lia),ay j (by lia)];exact sB' _ _ (by lia) (by lia) (by lia)
 have hf:∀ i,i < (p.extract (sa + k) sb).size -> le (at' (p.extract sb (sb + m)) 0) (at' (p.extract (sa + k) sb) i):=fun i a1=>by rw [ay 0 (by lia),ax i (by lia)];exact k3' _ (by lia) (by lia)
 have hl:∀ i,i < (p.extract sb (sb + m)).size -> le (at' (p.extract sb (sb + m)) i) (at' (p.extract (sa + k) sb) ((p.extract (sa + k) sb).size - 1)):=fun i a1=>by
  rw [zx,ay i (by lia),ax _ (by lia),show sa + k + (r - 1) = sb - 1 by lia]
  exact m2' _ (by lia) (by lia)
 by_cases e4:r <= m
 ·rw [if_pos e4]
  refine wpS_bind (Dw o hc T.1 hx hy (by lia) (by lia) sx sy hf hl fun R st3 sm g=>?_)
  exact wpS_bind (wpS_modify (wpS_bind (wpS_get (wpS_pure (fin R st3 sm g)))))
 ·rw [if_neg e4]
  refine wpS_bind (Dv o hc T.1 hx hy (by lia) (by lia) sx sy hf hl fun R st3 sm g=>?_)
  exact wpS_bind (wpS_modify (wpS_bind (wpS_get (wpS_pure (fin R st3 sm g)))))
end
section
variable {le:Nat -> Nat -> Prop} {lt:Nat -> Nat -> Bool} {p p' p2:Array Nat} {a b c:Nat}
def Up (le:Nat -> Nat -> Prop) (p:Array Nat) (a b:Nat):Prop:=∀ i j,a <= i -> i <= j -> j < b -> le (at' p i) (at' p j)
def Dn (le:Nat -> Nat -> Prop) (p:Array Nat) (a b:Nat):Prop:=∀ i j,a <= i -> i <= j -> j < b -> le (at' p j) (at' p i)
def Es (le:Nat -> Nat -> Prop) (p:Array Nat) (a b:Nat):Prop:=∀ k,a <= k -> k < b -> le (at' p k) (at' p (b - 1)) /\ le (at' p (b - 1)) (at' p k)
def Near (p p':Array Nat) (lo hi:Nat):Prop:=p'.Perm p /\ ∀ k,k < lo \/ hi <= k -> at' p' k = at' p k
theorem Near.rf:Near p p a b:=⟨.refl _,fun _ _=>rfl⟩
theorem Near.tr (h:Near p p' a b) (h2:Near p' p2 a b):Near p p2 a b:=⟨h2.1.trans h.1,fun k hk=>(h2.2 k hk).trans (h.2 k hk)⟩
theorem Near.wide {d e:Nat} (h:Near p p' a b) (h1:d <= a) (h2:b <= e):Near p p' d e:=⟨h.1,fun k hk=>h.2 k (by lia)⟩
theorem Near.size (h:Near p p' a b):p'.size = p.size:=h.1.size_eq
theorem n6 (h:b <= p.size):Near p (kas_rev p a b) a b:=⟨mirror_perm _ _ _ _,fun k hk=>by rw [cP h,if_neg (by lia)]⟩
theorem yy {d:Nat} (h:b < p.size) (hd:d <= b):Near p (bubble p b d) (b - d) (b + 1):=⟨bubble_perm _ _ _,fun k hk=>by rw [oY h hd,if_neg (by lia),if_neg (by lia)]⟩
theorem Up.succ (o:Ord lt le) (h:Up le p a b) (hab:a < b) (hl:le (at' p (b - 1)) (at' p b)):Up le p a (b + 1):=fun i j h1 h2 h3=>by
 by_cases e:j = b
 ·subst e
  by_cases e2:i = j
  ·subst e2;exact o.rf _
  ·exact o.tr _ _ _ (h i (j - 1) h1 (by lia) (by lia)) hl
 ·exact h i j h1 h2 (by lia)
theorem Dn.succ (o:Ord lt le) (h:Dn le p a b) (hab:a < b) (hl:le (at' p b) (at' p (b - 1))):Dn le p a (b + 1):=fun i j h1 h2 h3=>by
 by_cases e:j = b
 ·subst e
  by_cases e2:i = j
  ·subst e2;exact o.rf _
  ·exact o.tr _ _ _ hl (h i (j - 1) h1 (by lia) (by lia))
 ·exact h i j h1 h2 (by lia)
theorem Kr (o:Ord lt le):Up le p a (a + 1):=fun i j h1 h2 h3=>by
 have:i = j:=by lia
 subst this;exact o.rf _
theorem Up.of (h:Up le p a b) (k:∀ i,a <= i -> i < b -> at' p' i = at' p i):Up le p' a b:=fun i j h1 h2 h3=>by
 rw [k i h1 (by lia),k j (by lia) h3];exact h i j h1 h2 h3
theorem Dn.rev (o:Ord lt le) (h:Dn le p a b) (hb:b <= p.size) (hc:a <= c) (he:Es le p c b):Dn le (kas_rev p c b) a b:=by
 have key:∀ k,a <= k -> k < b -> ∃ k',a <= k' /\ k' < b /\ at' (kas_rev p c b) k = at' p k' /\ le (at' p k') (at' p k) /\ le (at' p k) (at' p k'):=fun k hk0 hk=>by
  rw [cP hb]
  split
  ·rename_i h1
   refine ⟨c + b - 1 - k,by lia,by lia,rfl,?_⟩
   obtain ⟨a1,a2⟩:=he k h1.1 hk
   obtain ⟨b1,b2⟩:=he (c + b - 1 - k) (by lia) (by lia)
   exact ⟨o.tr _ _ _ b1 a2,o.tr _ _ _ a1 b2⟩
  ·exact ⟨k,hk0,hk,rfl,o.rf _,o.rf _⟩
 intro i j h0 hij hj
 obtain ⟨i',_,_,e1,x1,x2⟩:=key i h0 (by lia)
 obtain ⟨j',_,_,e2,y1,y2⟩:=key j (by lia) hj
 rw [e1,e2]
 exact o.tr _ _ _ y1 (o.tr _ _ _ (h i j h0 hij hj) x2)
theorem Dn.turn (h:Dn le p a b) (hb:b <= p.size):Up le (kas_rev p a b) a b:=by
 intro i j h0 hij hj
 rw [cP hb,cP hb,if_pos ⟨h0,by lia⟩,if_pos ⟨by lia,hj⟩]
 exact h _ _ (by lia) (by lia) (by lia)
theorem zO (o:Ord lt le) (h:a + 1 = b):Es le p a b:=fun k h1 h2=>by
 have:k = b - 1:=by lia
 subst this
 exact ⟨o.rf _,o.rf _⟩
end
section
variable {prog:Program} {w:World} {A:Around} {E:Value -> Shared -> Prop} {s:Shared} {κ:SortKind} {it:Array Keyed} {n:Nat} {lt:Nat -> Nat -> Bool} {le:Nat -> Nat -> Prop} {p:Array Nat} {pend:Array (Nat × Nat × Nat)} {st:SortSt}
theorem pU (hc:ul prog w A s κ it n lt) (S:Stt κ it st p pend) (hp:∀ i,i < p.size -> at' p i < n) {i j:Nat} {Q:Option Bool -> SortSt -> Prop} (hi:i < p.size) (hj:j < p.size) (h:Q (some (lt (at' p i) (at' p j))) st):wpS (model prog w) A E s (ltAt' i j) Q st:=by
 rw [ltAt'_eq]
 refine wpS_bind (wpS_get ?_)
 dsimp only
 rw [S.2.1]
 exact wpS_bind (bF hi (wpS_bind (bF hj (w_lt hc S.1 (hp _ hi) (hp _ hj) h))))
theorem BM (S:Stt κ it st p pend) {i j:Nat} {Q:Unit -> SortSt -> Prop} (h:∀ st',Stt κ it st' (kas_rev p i j) pend -> Q () st'):wpS (model prog w) A E s (reverseSlice' i j) Q st:=by
 rw [reverseSlice'_eq]
 refine wpS_modify (h _ ⟨S.1,?_,S.2.2⟩)
 show mirror (arrOf st) i j ((j - i) / 2) = _
 rw [S.2.1]
 exact kas_swaps_map (kas_item it) (fun k=>i + k) (fun k=>j - 1 - k) _ p
theorem Ks (S:Stt κ it st p pend) {i j:Nat} {Q:Unit -> SortSt -> Prop} (h:∀ st',Stt κ it st' (bubble p i (i - j)) pend -> Q () st'):wpS (model prog w) A E s (moveDown' i j) Q st:=by
 rw [moveDown'_eq]
 refine wpS_modify (h _ ⟨S.1,?_,S.2.2⟩)
 show bubble (arrOf st) i (i - j) = _
 rw [S.2.1]
 exact kas_swaps_map (kas_item it) (fun k=>i - k) (fun k=>i - k - 1) _ p
theorem Mb (o:Ord lt le) (hc:ul prog w A s κ it n lt) (S:Stt κ it st p pend) (hp:∀ p':Array Nat,p'.Perm p -> ∀ i,i < p'.size -> at' p' i < n) {lo m ok:Nat} {Q:Bool -> SortSt -> Prop} (hz:lo + m <= p.size) (hok:ok <= m) (ok1:1 <= ok) (hs:Up le p lo (lo + ok))
  (h:∀ p' st',Stt κ it st' p' pend -> Near p p' lo (lo + m) -> Up le p' lo (lo + m) -> Q true st'):wpS (model prog w) A E s (binarySort' lo m ok) Q st:=by
 refine wpS_bind (wpS_mono (wpS_forRange (I:=fun k c st'=>c = (none,()) /\ ∃ p',Stt κ it st' p' pend /\ Near p p' lo (lo + m) /\ Up le p' lo (lo + min k m))
  (Q:=fun c st'=>c = (none,()) /\ ∃ p',Stt κ it st' p' pend /\ Near p p' lo (lo + m) /\ Up le p' lo (lo + m)) ?step ?fin ?init) ?post)
 case post=>
  rintro c st' ⟨rfl,p',S',N,U⟩
  exact wpS_pure (h p' st' S' N U)
 case init=>exact ⟨rfl,p,S,.rf,by rw [show min (max ok 1) m = ok by lia];exact hs⟩
 case fin=>
  rintro c st' ⟨hc',p',S',N,U⟩
  exact ⟨hc',p',S',N,by rwa [show min (max (max ok 1) m) m = m by lia] at U⟩
 case step=>
  rintro k c st' hak hkn ⟨rfl,p',S',N,U⟩
  rw [show min k m = k by lia] at U
  have hsz:=N.size
  have hk1:1 <= k:=by lia
  have hkm:k < m:=by lia
  clear hak hkn hok ok1 hs
  refine wpS_bind (wpS_mono (wpS_forRange (I:=fun x c st''=>st'' = st' /\ ∃ l r,c = (none,l,r) /\ l <= r /\ r <= k /\ r - l <= k - x /\
    (∀ i,i < l -> le (at' p' (lo + i)) (at' p' (lo + k))) /\ (∀ i,r <= i -> i < k -> le (at' p' (lo + k)) (at' p' (lo + i))))
   (Q:=fun c st''=>st'' = st' /\ ∃ l r,c = (none,l,r) /\ l <= k /\
    (∀ i,i < l -> le (at' p' (lo + i)) (at' p' (lo + k))) /\ (∀ i,l <= i -> i < k -> le (at' p' (lo + k)) (at' p' (lo + i)))) ?istep ?ifin ?iinit) ?ipost)
  case iinit=>exact ⟨rfl,0,k,rfl,by lia,by lia,by lia,fun i hi=>by lia,fun i h1 h2=>by lia⟩
  case ifin=>
   rintro c st'' ⟨rfl,l,r,rfl,hlr,hrk,hm,hlo,hhi⟩
   have:l = r:=by lia
   subst this
   exact ⟨rfl,l,l,rfl,hrk,hlo,hhi⟩
  case istep=>
   rintro x c st'' _ hxk ⟨rfl,l,r,rfl,hlr,hrk,hm,hlo,hhi⟩
   dsimp only
   by_cases hge:l ≥ r
   ·rw [if_pos hge]
    have:l = r:=by lia
    subst this
    exact wpS_pure ⟨rfl,l,l,rfl,hrk,hlo,hhi⟩
   ·rw [if_neg hge]
    refine wpS_bind (pU hc S' (hp _ N.1) (by lia) (by lia) ?_)
    dsimp only
    cases cw:lt (at' p' (lo + k)) (at' p' (lo + (l + r) / 2)) with
    | true=>
     rw [if_pos rfl]
     exact wpS_pure ⟨rfl,l,(l + r) / 2,rfl,by lia,by lia,by lia,hlo,fun i h1 h2=>o.tr _ _ _ (o.yes _ _ cw) (U _ _ (by lia) (by lia) (by lia))⟩
    | false=>
     rw [if_neg (by decide)]
     exact wpS_pure ⟨rfl,(l + r) / 2 + 1,r,rfl,by lia,by lia,by lia,fun i h1=>o.tr _ _ _ (U _ _ (by lia) (by lia) (by lia)) (o.no _ _ cw),hhi⟩
  case ipost=>
   rintro c st'' ⟨rfl,l,r,rfl,hlk,hlo,hhi⟩
   dsimp only
   refine wpS_bind (Ks S' fun st3 S3=>wpS_pure ⟨rfl,_,S3,N.tr ((yy (by lia) (by lia)).wide (by lia) (by lia)),?_⟩)
   rw [show min (k + 1) m = k + 1 by lia,show lo + k - (lo + l) = k - l by lia]
   intro i j h1 h2 h3
   rw [oY (by lia) (by lia),oY (by lia) (by lia)]
   rw [show lo + k - (k - l) = lo + l by lia]
   by_cases i1:i = lo + l
   ·rw [if_pos i1]
    by_cases j1:j = lo + l
    ·rw [if_pos j1];exact o.rf _
    ·rw [if_neg j1]
     rw [if_pos (by lia)]
     have:=hhi (j - 1 - lo) (by lia) (by lia)
     rwa [show lo + (j - 1 - lo) = j - 1 by lia] at this
   ·rw [if_neg i1]
    by_cases j1:j = lo + l
    ·rw [if_pos j1,if_neg (by lia)]
     have:=hlo (i - lo) (by lia)
     rwa [show lo + (i - lo) = i by lia] at this
    ·rw [if_neg j1]
     by_cases i2:lo + l < i /\ i <= lo + k
     ·rw [if_pos i2,if_pos (by lia)]
      exact U _ _ (by lia) (by lia) (by lia)
     ·rw [if_neg i2]
      by_cases j2:lo + l < j /\ j <= lo + k
      ·rw [if_pos j2]
       exact U _ _ (by lia) (by lia) (by lia)
      ·rw [if_neg j2]
       exact U _ _ (by lia) (by lia) (by lia)
end
section
variable {prog:Program} {w:World} {A:Around} {E:Value -> Shared -> Prop} {s:Shared} {κ:SortKind} {it:Array Keyed} {n:Nat} {lt:Nat -> Nat -> Bool} {le:Nat -> Nat -> Prop} {p:Array Nat} {pend:Array (Nat × Nat × Nat)} {st:SortSt}
theorem F3 {σ α:Type} {M:Model} {jp:Unit -> StateT σ Sem α} {m:StateT σ Sem α} {Q:α -> σ -> Prop} {st:σ} (P:σ -> Prop) (h:∀ st,P st -> wpS M A E s (jp ()) Q st) (k:(∀ st,P st -> wpS M A E s (jp ()) Q st) -> wpS M A E s m Q st):wpS M A E s m Q st:=k h
theorem Hz (o:Ord lt le) (hc:ul prog w A s κ it n lt) (S:Stt κ it st p pend) (hp:∀ p':Array Nat,p'.Perm p -> ∀ i,i < p'.size -> at' p' i < n) {lo nrem:Nat} {Q:Option Nat -> SortSt -> Prop} (h1:1 <= nrem) (hz:lo + nrem <= p.size)
  (h:∀ m p' st',Stt κ it st' p' pend -> 1 <= m -> m <= nrem -> Near p p' lo (lo + m) -> Up le p' lo (lo + m) -> Q (some m) st'):wpS (model prog w) A E s (countRun' lo nrem) Q st:=by
 refine wpS_bind (wpS_mono (wpS_forRange (I:=fun x c st'=>st' = st /\ c = (none,x) /\ x <= nrem /\ Up le p lo (lo + x))
  (Q:=fun c st'=>st' = st /\ ∃ m,c = (none,m) /\ 1 <= m /\ m <= nrem /\ Up le p lo (lo + m) /\ (m < nrem -> le (at' p (lo + m)) (at' p (lo + m - 1)))) ?s1 ?f1 ?i1) ?p1)
 case i1=>exact ⟨rfl,rfl,h1,Kr o⟩
 case f1=>
  rintro c st' ⟨rfl,rfl,k1,k2⟩
  exact ⟨rfl,_,rfl,by lia,k1,k2,fun _=>by lia⟩
 case s1=>
  rintro x c st' hx0 hx ⟨rfl,rfl,k1,k2⟩
  dsimp only
  refine wpS_bind (pU hc S (hp p (.refl _)) (by lia) (by lia) ?_)
  dsimp only
  cases cw:lt (at' p (lo + x)) (at' p (lo + x - 1)) with
  | true=>
   rw [if_pos rfl]
   exact wpS_pure ⟨rfl,x,rfl,hx0,k1,k2,fun _=>o.yes _ _ cw⟩
  | false=>
   rw [if_neg (by decide)]
   exact wpS_pure ⟨rfl,rfl,by lia,Up.succ (b:=lo + x) o k2 (by lia) (o.no _ _ cw)⟩
 case p1=>
  rintro c st' ⟨rfl,m,rfl,m1,m2,U,hd⟩
  dsimp -zeta only
  extract_lets -underBinder r n
  change wpS (model prog w) A E s (ite _ _ _) Q st'
  refine bp (fun e=>wpS_pure (h m p st' S m1 m2 .rf U)) fun e=>?_
  have e1':m < nrem:=by change ¬(m == nrem) = true at e;simp at e;lia
  clear e
  extract_lets -underBinder jp
  refine F3 (jp:=jp) (fun st=>∃ px,Stt κ it st px pend /\ Dn le px lo (lo + (m + 1)) /\ Near p px lo (lo + (m + 1))) ?_ fun hj=>?_
  ·rintro stx ⟨px,Sx,Dx,Nx⟩
   refine wpS_bind (wpS_lift (wpAny_rule ⟨rfl,?_⟩))
   refine wpS_bind (wpS_mono (wpS_forRange (I:=fun x c st'=>∃ q p',c = (none,x,q) /\ Stt κ it st' p' pend /\ Near p p' lo (lo + x) /\ x <= nrem /\ q + 1 <= x /\ Dn le p' lo (lo + x) /\ Es le p' (lo + x - (q + 1)) (lo + x))
    (Q:=fun c st'=>∃ x q p',c = (none,x,q) /\ m + 1 <= x /\ Stt κ it st' p' pend /\ Near p p' lo (lo + x) /\ x <= nrem /\ q + 1 <= x /\ Dn le p' lo (lo + x) /\ Es le p' (lo + x - (q + 1)) (lo + x)) ?s2 ?f2 ?i2) ?p2)
   case i2=>exact ⟨0,px,rfl,Sx,Nx,by show m + 1 <= nrem;lia,by show 0 + 1 <= m + 1;lia,Dx,zO o (by show lo + (m + 1) - (0 + 1) + 1 = lo + (m + 1);lia)⟩
   case f2=>
    rintro c st' ⟨q,p',rfl,S',N',k1,k2,D',E'⟩
    exact ⟨_,q,p',rfl,by show m + 1 <= max (m + 1) nrem;lia,S',N',k1,k2,D',E'⟩
   case s2=>
    rintro x c st' hx0 hx ⟨q,p',rfl,S',N',k1,k2,D',E'⟩
    dsimp only
    have hs2:=N'.size
    refine wpS_bind (pU hc S' (hp _ N'.1) (by lia) (by lia) ?_)
    dsimp only
    cases cw:lt (at' p' (lo + x)) (at' p' (lo + x - 1)) with
    | true=>
     rw [if_pos rfl]
     have hl:=o.yes _ _ cw
     by_cases q0:q > 0
     ·rw [if_pos q0]
      refine wpS_bind (BM S' fun st4 S4=>wpS_pure ?_)
      have d1:=D'.rev o (by lia) (by lia) E'
      have b1:at' (kas_rev p' (lo + x - (q + 1)) (lo + x)) (lo + x) = at' p' (lo + x):=by rw [cP (by lia),if_neg (by lia)]
      have b2:at' (kas_rev p' (lo + x - (q + 1)) (lo + x)) (lo + x - 1) = at' p' (lo + x - (q + 1)):=by
       rw [cP (by lia),if_pos (by lia)]
       congr 1;lia
      exact ⟨0,_,rfl,S4,(N'.tr ((n6 (by lia)).wide (by lia) (by lia))).wide (by lia) (by lia),by lia,by lia,Dn.succ (b:=lo + x) o d1 (by lia) (by rw [b1,b2];exact o.tr _ _ _ hl (E' _ (Nat.le_refl _) (by lia)).2),zO o (by lia)⟩
     ·rw [if_neg q0]
      exact wpS_pure ⟨0,p',rfl,S',N'.wide (by lia) (by lia),by lia,by lia,Dn.succ (b:=lo + x) o D' (by lia) hl,zO o (by lia)⟩
    | false=>
     rw [if_neg (by decide)]
     have g1:=o.no _ _ cw
     refine wpS_bind (pU hc S' (hp _ N'.1) (by lia) (by lia) ?_)
     dsimp only
     cases cw2:lt (at' p' (lo + x - 1)) (at' p' (lo + x)) with
     | true=>
      rw [if_pos rfl]
      exact wpS_pure ⟨x,q,p',rfl,hx0,S',N',k1,k2,D',E'⟩
     | false=>
      rw [if_neg (by decide)]
      have g2:=o.no _ _ cw2
      refine wpS_pure ⟨q + 1,p',rfl,S',N'.wide (by lia) (by lia),by lia,by lia,Dn.succ (b:=lo + x) o D' (by lia) g2,fun k a1 a2=>?_⟩
      rw [show lo + (x + 1) - 1 = lo + x by lia]
      by_cases hk:k = lo + x
      ·subst hk;exact ⟨o.rf _,o.rf _⟩
      ·obtain ⟨x1,x2⟩:=E' k (by lia) (by lia)
       exact ⟨o.tr _ _ _ x1 g1,o.tr _ _ _ g2 x2⟩
   case p2=>
    rintro c st' ⟨x,q,p',rfl,x1,S',N',x2,x3,D',E'⟩
    dsimp -zeta only
    extract_lets -underBinder s2 n2 q2
    dsimp -zeta only [r]
    extract_lets -underBinder jp2
    have hs2:=N'.size
    have hx:s2.1 = x:=rfl
    have hq:s2.2 = q:=rfl
    refine F3 (jp:=jp2) (fun st=>∃ pX,Stt κ it st pX pend /\ Dn le pX lo (lo + x) /\ Near p pX lo (lo + x)) ?_ fun hj=>bp (fun q0=>wpS_bind (BM S' fun stX SX=>hj _ ⟨_,SX,D'.rev o (by lia) (by lia) E',N'.tr ((n6 (by lia)).wide (a:=lo + x - (q + 1)) (b:=lo + x) (d:=lo) (e:=lo + x) (by lia) (by lia))⟩)) fun _=>hj _ ⟨p',S',D',N'⟩
    rintro stX ⟨pX,SX,DX,NX⟩
    refine wpS_bind (BM SX fun st4 S4=>?_)
    replace S4:Stt κ it st4 (kas_rev pX lo (lo + x)) pend:=S4
    have hs4:=NX.size
    have N4:=NX.tr (n6 (a:=lo) (b:=lo + x) (by lia))
    have U4:=DX.turn (by lia)
    refine wpS_bind (wpS_mono (wpS_forRange (I:=fun y c st'=>st' = st4 /\ c = (none,y) /\ y <= nrem /\ Up le (kas_rev pX lo (lo + x)) lo (lo + y))
     (Q:=fun c st'=>st' = st4 /\ ∃ y,c = (none,y) /\ x <= y /\ y <= nrem /\ Up le (kas_rev pX lo (lo + x)) lo (lo + y)) ?s3 ?f3 ?i3) ?p3)
    case i3=>exact ⟨rfl,rfl,x2,U4⟩
    case f3=>
     rintro c st' ⟨rfl,rfl,k1,k2⟩
     exact ⟨rfl,_,rfl,by show x <= max x nrem;lia,k1,k2⟩
    case s3=>
     rintro y c st' hy0 hy ⟨rfl,rfl,k1,k2⟩
     change x <= y at hy0
     dsimp only
     have hs5:=N4.size
     refine wpS_bind (pU hc S4 (hp _ N4.1) (by lia) (by lia) ?_)
     dsimp only
     cases cw:lt (at' (kas_rev pX lo (lo + x)) (lo + y)) (at' (kas_rev pX lo (lo + x)) (lo + y - 1)) with
     | true=>
      rw [if_pos rfl]
      exact wpS_pure ⟨rfl,y,rfl,hy0,k1,k2⟩
     | false=>
      rw [if_neg (by decide)]
      exact wpS_pure ⟨rfl,rfl,by lia,Up.succ (b:=lo + y) o k2 (by lia) (o.no _ _ cw)⟩
    case p3=>
     rintro c st' ⟨rfl,y,rfl,y1,y2,U⟩
     exact wpS_pure (h y _ st' S4 (by lia) y2 (N4.wide (Nat.le_refl _) (by lia)) U)
  ·refine bp (fun e2=>wpS_bind (pU hc S (hp p (.refl _)) (by show lo < p.size;lia) (by show lo + m - 1 < p.size;lia) ?_)) fun e2=>hj _ ⟨p,S,Dn.succ (b:=lo + m) o (fun i j a1 a2 a3=>by
    have:i = j:=by change ¬m > 1 at e2;lia
    subst this;exact o.rf _) (by lia) (hd (by lia)),.rf⟩
   dsimp -zeta only
   cases cw:lt (at' p lo) (at' p (lo + m - 1)) with
   | true=>
    rw [if_pos rfl]
    exact wpS_pure (h m p st' S m1 m2 .rf U)
   | false=>
    rw [if_neg (by decide)]
    have g0:=o.no _ _ cw
    have same:∀ i j,lo <= i -> i < lo + m -> lo <= j -> j < lo + m -> le (at' p i) (at' p j):=fun i j a1 a2 a3 a4=>o.tr _ _ _ (U i (lo + m - 1) a1 (by lia) (by lia)) (o.tr _ _ _ g0 (U lo j (Nat.le_refl _) a3 a4))
    have d0:Dn le (kas_rev p lo (lo + m)) lo (lo + m):=fun i j a1 a2 a3=>by
     rw [cP (by lia),cP (by lia),if_pos (by lia),if_pos (by lia)]
     exact same _ _ (by lia) (by lia) (by lia) (by lia)
    exact wpS_bind (BM S fun stx Sx=>hj _ ⟨_,Sx,Dn.succ (b:=lo + m) o d0 (by lia) (by
     rw [cP (by lia),cP (by lia),if_neg (by lia),if_pos (by lia)]
     exact o.tr _ _ _ (hd (by lia)) (same _ _ (by lia) (by lia) (by lia) (by lia))),(n6 (by lia)).wide (Nat.le_refl _) (by lia)⟩)
end
section
variable {le:Nat -> Nat -> Prop} {p p':Array Nat} {a b c:Nat}
noncomputable def Rn (le:Nat -> Nat -> Prop) (p:Array Nat):Nat -> List (Nat × Nat × Nat) -> Nat -> Prop
 | a,[],b=>a = b
 | a,e :: es,b=>e.1 = a /\ 1 <= e.2.1 /\ Up le p a (a + e.2.1) /\ Rn le p (a + e.2.1) es b
theorem Rn.len_le:∀ {l:List (Nat × Nat × Nat)} {a:Nat},Rn le p a l b -> a + l.length <= b
 | [],a,h=>by have:a = b:=h;simp [this]
 | e :: es,a,h=>by
  have:=Rn.len_le h.2.2.2
  have:=h.2.1
  simp;lia
theorem Rn.of:∀ {l:List (Nat × Nat × Nat)} {a:Nat},Rn le p a l b -> (∀ k,a <= k -> k < b -> at' p' k = at' p k) -> Rn le p' a l b
 | [],a,h,_=>h
 | e :: es,a,h,k=>⟨h.1,h.2.1,h.2.2.1.of fun i h1 h2=>k i h1 (by have:=Rn.len_le h.2.2.2;lia),Rn.of h.2.2.2 fun i h1 h2=>k i (by lia) h2⟩
theorem Rn.app:∀ {l l':List (Nat × Nat × Nat)} {a:Nat},Rn le p a (l ++ l') b -> ∃ c,Rn le p a l c /\ Rn le p c l' b
 | [],l',a,h=>⟨a,rfl,h⟩
 | e :: es,l',a,h=>by
  obtain ⟨c,h1,h2⟩:=Rn.app h.2.2.2
  exact ⟨c,⟨h.1,h.2.1,h.2.2.1,h1⟩,h2⟩
theorem Rn.put:∀ {l l':List (Nat × Nat × Nat)} {a:Nat},Rn le p a l c -> Rn le p c l' b -> Rn le p a (l ++ l') b
 | [],l',a,h,h2=>by have:a = c:=h;subst this;exact h2
 | e :: es,l',a,h,h2=>⟨h.1,h.2.1,h.2.2.1,Rn.put h.2.2.2 h2⟩
theorem Rn.same:∀ {l l':List (Nat × Nat × Nat)} {a:Nat},(l.map fun e=>(e.1,e.2.1)) = (l'.map fun e=>(e.1,e.2.1)) -> Rn le p a l b -> Rn le p a l' b
 | [],[],a,_,h=>h
 | [],_ :: _,a,h,_=>by simp at h
 | _ :: _,[],a,h,_=>by simp at h
 | e :: es,e' :: es',a,h,k=>by
  simp only [List.map_cons,List.cons.injEq,Prod.mk.injEq] at h
  obtain ⟨⟨h1,h2⟩,h3⟩:=h
  obtain ⟨k1,k2,k3,k4⟩:=k
  rw [h1] at k1
  rw [h2] at k2 k3 k4
  exact ⟨k1,k2,k3,Rn.same h3 k4⟩
theorem GE {c:Prop} [Decidable c] {k m:Nat} (h:k + 1 < m):(if c then k - 1 else k) + 1 < m:=by split <;> lia
theorem Ka {α:Type} (x z:α) (r:List α):∀ pre:List α,(pre ++ x :: r).set pre.length z = pre ++ z :: r
 | []=>rfl
 | y :: pre=>by simp
theorem D7 {α:Type} (z y:α) (r:List α):∀ pre:List α,(pre ++ z :: y :: r).eraseIdx (pre.length + 1) = pre ++ z :: r
 | []=>rfl
 | x :: pre=>by
  have:=D7 z y r pre
  simp only [List.cons_append,List.length_cons,List.eraseIdx_cons_succ,this]
theorem Kd {α:Type} {l:List α} {i:Nat} (h:i + 1 < l.length):∃ pre x y post,l = pre ++ x :: y :: post /\ pre.length = i:=by
 refine ⟨l.take i,l[i],l[i + 1],l.drop (i + 2),?_,by rw [List.length_take];lia⟩
 rw [<- List.drop_eq_getElem_cons h,<- List.drop_eq_getElem_cons (by lia),List.take_append_drop]
end
section
variable {prog:Program} {w:World} {A:Around} {E:Value -> Shared -> Prop} {s:Shared} {κ:SortKind} {it:Array Keyed} {n:Nat} {lt:Nat -> Nat -> Bool} {le:Nat -> Nat -> Prop} {p:Array Nat} {pend:Array (Nat × Nat × Nat)} {st:SortSt}
theorem pV (o:Ord lt le) (hc:ul prog w A s κ it n lt) (S:Stt κ it st p pend) (hp:∀ i,i < p.size -> at' p i < n) {i b:Nat} {Q:Bool -> SortSt -> Prop} (hi:i + 1 < pend.size) (R:Rn le p 0 pend.toList b) (hb:b <= p.size)
  (h:∀ p' pend' st',Stt κ it st' p' pend' -> Near p p' 0 b -> Rn le p' 0 pend'.toList b -> pend'.size + 1 = pend.size -> Q true st'):wpS (model prog w) A E s (mergeAt' i) Q st:=by
 obtain ⟨pre,⟨sa,na,pw⟩,⟨sb,nb,q⟩,post,e,hl⟩:=Kd (l:=pend.toList) (i:=i) (by simpa using hi)
 rw [e] at R
 obtain ⟨c,R1,R2⟩:=R.app
 obtain ⟨r1,r2,r3,r4,r5,r6,r7⟩:=R2
 dsimp only at r1 r2 r3 r4 r5 r6 r7
 subst r1
 have hle:=r7.len_le
 have g1:pend[i]? = some (sa,na,pw):=by rw [<- Array.getElem?_toList,e,List.getElem?_append_right (by lia)];simp [hl]
 have g2:pend[i + 1]? = some (sb,nb,q):=by rw [<- Array.getElem?_toList,e,List.getElem?_append_right (by lia)];simp [hl]
 refine Du o hc S g1 g2 r4 r2 r5 (by lia) hp (fun i j a1 a2=>r3 _ _ (by lia) (by lia) (by lia)) (fun i j a1 a2=>r6 _ _ (by lia) (by lia) (by lia)) fun p' st' S' so=>?_
 have en:((pend.setIfInBounds i (sa,na + nb,pw)).eraseIdxIfInBounds (i + 1)).toList = pre ++ (sa,na + nb,pw) :: post:=by
  have h2:i + 1 < (pend.setIfInBounds i (sa,na + nb,pw)).size:=by simpa using hi
  rw [Array.eraseIdxIfInBounds,dif_pos h2,Array.toList_eraseIdx,Array.toList_setIfInBounds,e,<- hl]
  rw [Ka,D7]
 have hle1:=R1.len_le
 refine h p' _ st' S' ⟨so.perm,fun k hk=>so.out k (by lia)⟩ ?_ ?_
 ·rw [en]
  refine Rn.put (R1.of fun k _ h2=>so.out k (by lia)) ⟨rfl,by dsimp only;lia,fun i j a1 a2 a3=>so.asc i j a1 a2 a3,?_⟩
  dsimp only
  rw [show sa + (na + nb) = sa + na + nb by lia]
  exact r7.of fun k h1 h2=>so.out k (by lia)
 ·have e4:=congrArg List.length en
  have e3:=congrArg List.length e
  rw [Array.length_toList] at e4 e3
  rw [e4,e3]
  simp only [List.length_append,List.length_cons]
  lia
theorem Ku (o:Ord lt le) (hc:ul prog w A s κ it n lt) (S:Stt κ it st p #[]) (hp:∀ p':Array Nat,p'.Perm p -> ∀ i,i < p'.size -> at' p' i < n) {Q:Unit -> SortSt -> Prop}
  (h:∀ p' pend' st',Stt κ it st' p' pend' -> p'.Perm p -> Up le p' 0 p.size -> Q () st'):wpS (model prog w) A E s sortRuns' Q st:=by
 rw [sortRuns'_eq]
 refine wpS_bind (wpS_get ?_)
 dsimp only
 rw [S.2.1,Array.size_map]
 generalize minRun' p.size p.size 0 = minrun
 refine wpS_bind (wpS_mono (wpS_forRange (I:=fun x c st'=>∃ lo p' pend',c = (none,lo) /\ Stt κ it st' p' pend' /\ p'.Perm p /\ Rn le p' 0 pend'.toList lo /\ lo <= p.size /\ x <= lo)
  (Q:=fun c st'=>∃ p' pend',c.1 = none /\ Stt κ it st' p' pend' /\ p'.Perm p /\ Rn le p' 0 pend'.toList p.size) ?s1 ?f1 ?i1) ?p1)
 case i1=>exact ⟨0,p,#[],rfl,S,.refl _,rfl,by lia,by lia⟩
 case f1=>
  rintro c st' ⟨lo,p',pend',rfl,S',P',R',l1,l2⟩
  have:lo = p.size:=by lia
  subst this
  exact ⟨p',pend',rfl,S',P',R'⟩
 case s1=>
  rintro x c st' _ hx ⟨lo,p',pend',rfl,S',P',R',l1,l2⟩
  dsimp only
  by_cases e1:lo ≥ p.size
  ·rw [if_pos e1]
   have:lo = p.size:=by lia
   subst this
   exact wpS_pure ⟨p',pend',rfl,S',P',R'⟩
  rw [if_neg e1]
  have hs':=P'.size_eq
  refine wpS_bind (Hz o hc S' (fun q hq=>hp q (hq.trans P')) (by lia) (by lia) fun m p2 st2 S2 m1 m2 N2 U2=>?_)
  have P2:=N2.1.trans P'
  have hs2:=P2.size_eq
  have R2:Rn le p2 0 pend'.toList lo:=R'.of fun k _ h2=>N2.2 k (.inl h2)
  dsimp only
  by_cases e2:m < minrun
  ·rw [if_pos e2]
   refine wpS_bind (wpS_lift (wpAny_rule ⟨rfl,?_⟩))
   refine wpS_bind (Mb o hc S2 (fun q hq=>hp q (hq.trans P2)) (m:=min (p.size - lo) minrun) (by lia) (by lia) m1 U2 fun p3 st3 S3 N3 U3=>?_)
   replace R2:Rn le p3 0 pend'.toList lo:=R2.of fun k _ h2=>N3.2 k (.inl h2)
   replace P2:=N3.1.trans P2
   replace S2:=S3
   replace U2:=U3
   have hnn:1 <= min (p.size - lo) minrun:=by lia
   have hnn2:lo + min (p.size - lo) minrun <= p.size:=by lia
   clear S3 U3 N3 N2 hs2
   generalize min (p.size - lo) minrun = nn at *
   rw [if_neg (by decide)]
   clear st2 p2
   generalize p3 = p2 at *
   generalize st3 = st2 at *
   refine wpS_bind (wpS_get ?_)
   rw [S2.2.2.1]
   cases hbk:pend'.back? with
   | none=>
    dsimp only
    refine wpS_bind (wpS_modify (wpS_pure ⟨lo + nn,p2,pend'.push (lo,nn,0),rfl,⟨S2.1,S2.2.1,?_,S2.2.2.2⟩,P2,?_,by lia,by lia⟩))
    ·show (pendingOf st2).push _ = _
     rw [S2.2.2.1]
    ·rw [Array.toList_push]
     exact R2.put ⟨rfl,hnn,U2,rfl⟩
   | some e=>
    obtain ⟨s1,n1,z1⟩:=e
    dsimp only
    generalize power' _ _ _ _ = pw
    refine wpS_bind (wpS_mono (wpS_forRange (I:=fun y c st3=>c = (none,()) /\ ∃ p3 pend3,Stt κ it st3 p3 pend3 /\ p3.Perm p /\ Rn le p3 0 pend3.toList lo /\ Up le p3 lo (lo + nn))
     (Q:=fun c st3=>c = (none,()) /\ ∃ p3 pend3,Stt κ it st3 p3 pend3 /\ p3.Perm p /\ Rn le p3 0 pend3.toList lo /\ Up le p3 lo (lo + nn)) ?s2 ?f2 ?i2) ?p2)
    case i2=>exact ⟨rfl,p2,pend',S2,P2,R2,U2⟩
    case f2=>exact fun c st3 h=>h
    case s2=>
     rintro y c st3 _ hy ⟨rfl,p3,pend3,S3,P3,R3,U3⟩
     refine wpS_bind (wpS_get ?_)
     rw [S3.2.2.1]
     by_cases c1:pend3.size > 1
     ·rw [if_pos c1]
      cases hg:pend3[pend3.size - 2]? with
      | none=>exact wpS_pure ⟨rfl,p3,pend3,S3,P3,R3,U3⟩
      | some e=>
       obtain ⟨z2,z3,older⟩:=e
       dsimp only
       by_cases c2:older <= pw
       ·rw [if_pos c2]
        exact wpS_pure ⟨rfl,p3,pend3,S3,P3,R3,U3⟩
       ·rw [if_neg c2]
        have hs3:=P3.size_eq
        refine wpS_bind (pV o hc S3 (hp _ P3) (i:=pend3.size - 2) (by lia) R3 (by lia) fun p4 pend4 st4 S4 N4 R4 _=>?_)
        exact wpS_pure ⟨rfl,p4,pend4,S4,N4.1.trans P3,R4,U3.of fun i h1 h2=>N4.2 i (.inr h1)⟩
     ·rw [if_neg c1]
      exact wpS_pure ⟨rfl,p3,pend3,S3,P3,R3,U3⟩
    case p2=>
     rintro c st3 ⟨rfl,p3,pend3,S3,P3,R3,U3⟩
     dsimp only
     refine wpS_bind (wpS_modify (wpS_bind (wpS_modify (wpS_pure ⟨lo + nn,p3,(pend3.modify (pend3.size - 1) fun e=>(e.1,e.2.1,pw)).push (lo,nn,0),rfl,⟨S3.1,S3.2.1,?_,S3.2.2.2⟩,P3,?_,by lia,by lia⟩))))
     ·show ((pendingOf st3).modify ((pendingOf st3).size - 1) _).push _ = _
      rw [S3.2.2.1]
     ·rw [Array.toList_push]
      refine Rn.put (R3.same ?_) ⟨rfl,hnn,U3,rfl⟩
      apply List.ext_getElem?
      intro k
      rw [List.getElem?_map,List.getElem?_map,Array.getElem?_toList,Array.getElem?_toList,Array.getElem?_modify]
      split
      ·cases pend3[k]? <;> rfl
      ·rfl
  ·rw [if_neg e2]
   have hnn:=m1
   have hnn2:lo + m <= p.size:=by lia
   refine wpS_bind (wpS_get ?_)
   rw [S2.2.2.1]
   cases hbk:pend'.back? with
   | none=>
    dsimp only
    refine wpS_bind (wpS_modify (wpS_pure ⟨lo + m,p2,pend'.push (lo,m,0),rfl,⟨S2.1,S2.2.1,?_,S2.2.2.2⟩,P2,?_,by lia,by lia⟩))
    ·show (pendingOf st2).push _ = _
     rw [S2.2.2.1]
    ·rw [Array.toList_push]
     exact R2.put ⟨rfl,hnn,U2,rfl⟩
   | some e=>
    obtain ⟨s1,n1,z1⟩:=e
    dsimp only
    generalize power' _ _ _ _ = pw
    refine wpS_bind (wpS_mono (wpS_forRange (I:=fun y c st3=>c = (none,()) /\ ∃ p3 pend3,Stt κ it st3 p3 pend3 /\ p3.Perm p /\ Rn le p3 0 pend3.toList lo /\ Up le p3 lo (lo + m))
     (Q:=fun c st3=>c = (none,()) /\ ∃ p3 pend3,Stt κ it st3 p3 pend3 /\ p3.Perm p /\ Rn le p3 0 pend3.toList lo /\ Up le p3 lo (lo + m)) ?s2 ?f2 ?i2) ?p2)
    case i2=>exact ⟨rfl,p2,pend',S2,P2,R2,U2⟩
    case f2=>exact fun c st3 h=>h
    case s2=>
     rintro y c st3 _ hy ⟨rfl,p3,pend3,S3,P3,R3,U3⟩
     refine wpS_bind (wpS_get ?_)
     rw [S3.2.2.1]
     by_cases c1:pend3.size > 1
     ·rw [if_pos c1]
      cases hg:pend3[pend3.size - 2]? with
      | none=>exact wpS_pure ⟨rfl,p3,pend3,S3,P3,R3,U3⟩
      | some e=>
       obtain ⟨z2,z3,older⟩:=e
       dsimp only
       by_cases c2:older <= pw
       ·rw [if_pos c2]
        exact wpS_pure ⟨rfl,p3,pend3,S3,P3,R3,U3⟩
       ·rw [if_neg c2]
        have hs3:=P3.size_eq
        refine wpS_bind (pV o hc S3 (hp _ P3) (i:=pend3.size - 2) (by lia) R3 (by lia) fun p4 pend4 st4 S4 N4 R4 _=>?_)
        exact wpS_pure ⟨rfl,p4,pend4,S4,N4.1.trans P3,R4,U3.of fun i h1 h2=>N4.2 i (.inr h1)⟩
     ·rw [if_neg c1]
      exact wpS_pure ⟨rfl,p3,pend3,S3,P3,R3,U3⟩
    case p2=>
     rintro c st3 ⟨rfl,p3,pend3,S3,P3,R3,U3⟩
     dsimp only
     refine wpS_bind (wpS_modify (wpS_bind (wpS_modify (wpS_pure ⟨lo + m,p3,(pend3.modify (pend3.size - 1) fun e=>(e.1,e.2.1,pw)).push (lo,m,0),rfl,⟨S3.1,S3.2.1,?_,S3.2.2.2⟩,P3,?_,by lia,by lia⟩))))
     ·show ((pendingOf st3).modify ((pendingOf st3).size - 1) _).push _ = _
      rw [S3.2.2.1]
     ·rw [Array.toList_push]
      refine Rn.put (R3.same ?_) ⟨rfl,hnn,U3,rfl⟩
      apply List.ext_getElem?
      intro k
      rw [List.getElem?_map,List.getElem?_map,Array.getElem?_toList,Array.getElem?_toList,Array.getElem?_modify]
      split
      ·cases pend3[k]? <;> rfl
      ·rfl
 case p1=>
  rintro ⟨c,c'⟩ st' ⟨p',pend',hc1,S',P',R'⟩
  dsimp only at hc1
  subst hc1
  dsimp only
  refine wpS_bind (wpS_mono (wpS_forRange (I:=fun x c st'=>∃ p' pend',c = (none,()) /\ Stt κ it st' p' pend' /\ p'.Perm p /\ Rn le p' 0 pend'.toList p.size /\ pend'.size + x <= p.size)
   (Q:=fun c st'=>∃ p' pend',c = (none,()) /\ Stt κ it st' p' pend' /\ p'.Perm p /\ Rn le p' 0 pend'.toList p.size /\ pend'.size <= 1) ?s5 ?f5 ?i5) ?p5)
  case i5=>exact ⟨p',pend',rfl,S',P',R',by have:=R'.len_le;rw [Array.length_toList] at this;lia⟩
  case f5=>
   rintro c st' ⟨p',pend',rfl,S',P',R',hl⟩
   exact ⟨p',pend',rfl,S',P',R',by lia⟩
  case s5=>
   rintro x c st' _ hx ⟨p',pend',rfl,S',P',R',hl⟩
   refine wpS_bind (wpS_get ?_)
   rw [S'.2.2.1]
   by_cases e1:pend'.size <= 1
   ·rw [if_pos e1]
    exact wpS_pure ⟨p',pend',rfl,S',P',R',e1⟩
   rw [if_neg e1]
   have hs':=P'.size_eq
   refine wpS_bind (pV o hc S' (hp _ P') ?_ R' (by lia) fun p4 pend4 st4 S4 N4 R4 h4=>?_)
   ·exact GE (by lia)
   ·exact wpS_pure ⟨p4,pend4,rfl,S4,N4.1.trans P',R4,by lia⟩
  case p5=>
   rintro c st' ⟨p',pend',rfl,S',P',R',hl⟩
   refine wpS_pure (h p' pend' st' S' P' ?_)
   cases hq:pend'.toList with
   | nil=>
    rw [hq] at R'
    have:0 = p.size:=R'
    intro i j _ _ h3
    lia
   | cons e es=>
    cases es with
    | nil=>
     rw [hq] at R'
     obtain ⟨r1,r2,r3,r4⟩:=R'
     have r4':0 + e.2.1 = p.size:=r4
     rw [<- r4']
     exact r3
    | cons e2 es=>
     have:=congrArg List.length hq
     rw [Array.length_toList] at this
     simp at this
     lia
end
section
variable {prog:Program} {w:World} {A:Around} {E:Value -> Shared -> Prop} {s:Shared}
structure Known (prog:Program) (w:World) (s:Shared) (vs:List Value) (κ:SortKind) (lt:Nat -> Nat -> Bool):Prop where
 kind:∀ (A:Around) (E:Value -> Shared -> Prop) (h':Heap) (Q:SortKind -> Shared -> Prop),(∀ b o,s.heap.get? b = some o -> h'.get? b = some o) -> 2 <= vs.length -> Q κ { s with heap:=h' } -> wpAny (model prog w) A (keyKind' vs.toArray) Q E { s with heap:=h' }
 ask:∀ (A:Around) (h':Heap) (i j:Nat) (C:Bool -> Shared -> Prop),(∀ b o,s.heap.get? b = some o -> h'.get? b = some o) -> i < vs.length -> j < vs.length -> C (lt i j) { s with heap:=h' } -> kas_ask prog w A κ vs i j C { s with heap:=h' }
theorem Known.on   {lt:Nat -> Nat -> Bool} {h:Heap} (k:Known prog w s vs κ lt) (hk:∀ b o,s.heap.get? b = some o -> h.get? b = some o):Known prog w { s with heap:=h } vs κ lt:=
 ⟨fun A E h' Q h2=>k.kind A E h' Q fun b o e=>h2 b o (hk b o e),fun A h' i j C h2=>k.ask A h' i j C fun b o e=>h2 b o (hk b o e)⟩
noncomputable def jH (vs:List Value) (p:Array Nat):Array Value:=(p.toList.map fun i=>vs.getD i Value.none).toArray
theorem Ap {vs:List Value} {p:Array Nat} (h:p.size = vs.length):(jH vs p).size = vs.length:=by
 unfold jH;simp [h]
theorem yH:jH vs (List.range vs.length).toArray = vs.toArray:=by
 unfold jH
 congr 1
 apply List.ext_getElem
 ·simp
 ·intro i h1 h2
  simp at h1
  simp [h1]
theorem Gf {le:Nat -> Nat -> Prop} (rf:∀ a,le a a) {n:Nat} (h:n < 2) (p:Array Nat):Asc le p n:=fun i j hij hj=>by
 have e:i = j:=by lia
 subst e;exact rf _
theorem EE  {vs:List Value} {n:Nat}  {lt:Nat -> Nat -> Bool} {le:Nat -> Nat -> Prop} {P:PySem.Fin -> Shared -> Prop} (o:Ord lt le) (ho:s.heap.get? a = some (seqObj "list" vs.toArray n)) (hN:vs.length <= sizeLine)
  (hk:∀ h',(∀ b o,b ≠ a -> s.heap.get? b = some o -> h'.get? b = some o) -> Known prog w { s with heap:=h' } vs κ lt)
  (h:∀ p:Array Nat,p.Perm (List.range vs.length).toArray -> Asc le p vs.length -> P (.done (.ret .none)) { s with heap:=sortedHeap s.heap a vs (jH vs p) }):wpAny (model prog w) A (Builtin.«list.sort» ⟨[.ref a],[]⟩) P E s:=by
 have ha:a < s.heap.objs.size:=Heap.lt_size ho
 obtain ⟨e1,ho1⟩:∃ e1,(s.heap.update a (Obj.mapSeq fun _=>#[])).get? a = some (seqObj "list" #[] e1):=⟨_,get?_update_seq ho fun _=>#[]⟩
 have ne1:a ≠ ((s.heap.update a (Obj.mapSeq fun _=>#[])).push (seqObj "tuple" vs.toArray 0)).objs.size:=by rw [size_push',Heap.size_update];exact Nat.ne_of_lt (Nat.lt_succ_of_lt ha)
 have ne2:a ≠ (s.heap.update a (Obj.mapSeq fun _=>#[])).objs.size:=by rw [Heap.size_update];exact Nat.ne_of_lt ha
 have ho6:(((s.heap.update a (Obj.mapSeq fun _=>#[])).push (seqObj "tuple" vs.toArray 0)).push (seqObj "list" #[] 0)).get? a = some (seqObj "list" #[] e1):=by rw [Heap.get?_push_ne _ _ _ ne1,Heap.get?_push_ne _ _ _ ne2,ho1]
 have keep:∀ b q,b ≠ a -> s.heap.get? b = some q -> (((s.heap.update a (Obj.mapSeq fun _=>#[])).push (seqObj "tuple" vs.toArray 0)).push (seqObj "list" #[] 0)).get? b = some q:=fun b q hb hq=>
  Heap.get?_push_of_some _ (Heap.get?_push_of_some _ ((Heap.get?_update_ne _ _ _ _ hb).trans hq))
 have K:=hk _ keep
 rw [list_sort_plain];refine wpAny_bind (listItems_at ho rfl (wpAny_bind (listUpdate_at ho rfl (wpAny_bind (seqEpoch_at ho1 rfl (wpAny_bind (wpAny_newTuple (wpAny_bind (wpAny_newList (wpAny_holding ?_))))))))))
 dsimp only
 have hn:vs.toArray.size = vs.length:=by simp
 have fin:∀ (p:Array Nat) (st:SortSt),p.Perm (List.range vs.length).toArray -> Asc le p vs.length -> (arrOf st).map (·.2) = jH vs p -> failedOf st = none ->
   wpAny (model prog w) A (do
    let touched:=(← seqEpoch a) != e1
    Builtin.List.listUpdate (.ref a) fun _=>(arrOf st).map (·.2)
    if let some e:=failedOf st then rule "list.sort.comparison-raised"; throw e
    if touched then rule "list.sort.modified"; raiseError "ValueError" "list modified during sort"
    ret .none) P E { s with heap:=((s.heap.update a (Obj.mapSeq fun _=>#[])).push (seqObj "tuple" vs.toArray 0)).push (seqObj "list" #[] 0) }:=fun p st hp hs ho2 hf=>by
  have hz:(jH vs p).size <= sizeLine + 1:=by
   rw [Ap (by rw [hp.size_eq];simp)];lia
  rw [ho2,hf]
  refine wpAny_bind (seqEpoch_at ho6 rfl (wpAny_bind (listUpdate_at ho6 rfl ?_ (hsz2:=hz))))
  simp only [bne_self_eq_false,Bool.false_eq_true,if_false]
  exact wpAny_pure (h p hp hs)
 by_cases h2:vs.toArray.size < 2
 ·rw [if_pos h2,if_pos h2]
  refine wpAny_bind (wpAny_pure ?_)
  rw [StateT.run_pure]
  refine wpAny_bind (wpAny_pure (fin (List.range vs.length).toArray _ (Array.Perm.refl _) (Gf o.rf (by lia) _) ?_ rfl))
  rw [yH]
  show ((vs.toArray.zip vs.toArray).map (·.2)) = vs.toArray
  apply Array.ext
  ·simp
  ·intro i h1 h2;simp
 ·rw [if_neg h2,if_neg h2]
  refine wpAny_bind (K.kind _ _ _ _ (fun _ _ e=>e) (by lia) ?_)
  have pos:0 < vs.length:=by lia
  have perm0:∀ p':Array Nat,p'.Perm (List.range vs.length).toArray -> ∀ i,i < p'.size -> at' p' i < vs.length:=fun p' h' i _=>Iz pos h' i
  have esz:(vs.toArray.zip vs.toArray).size = vs.length:=by simp
  have er:=kas_range (vs.toArray.zip vs.toArray)
  rw [esz] at er
  have run:=Ku (prog:=prog) (w:=w) (A:=A) (E:=E) (κ:=κ) (it:=vs.toArray.zip vs.toArray) (n:=vs.length) (lt:=lt) (le:=le) (p:=(List.range vs.length).toArray) (st:=SortSt.mk' κ (vs.toArray.zip vs.toArray) #[] 7 none)
   (s:={ s with heap:=((s.heap.update a (Obj.mapSeq fun _=>#[])).push (seqObj "tuple" vs.toArray 0)).push (seqObj "list" #[] 0) })
   (Q:=fun _ st=>∃ p:Array Nat,(arrOf st).map (·.2) = jH vs p /\ failedOf st = none /\ p.Perm (List.range vs.length).toArray /\ Asc le p vs.length) o
   (fun i j C hi hj hc=>by rw [<- kat_ask_eq (ks:=vs) (vs:=vs) rfl];exact K.ask _ _ i j C (fun _ _ e=>e) hi hj hc) ⟨rfl,er.symm,rfl,rfl⟩ perm0
   (fun p' pend' st' S' hp hu=>⟨p',kat_snds rfl S'.2.1,S'.2.2.2,hp,fun i j hij hj=>hu i j (Nat.zero_le _) hij (by simpa using hj)⟩)
  refine wpAny_bind (wpAny_mono run (fun r s' hr=>?_) fun _ _ e=>e)
  ·obtain ⟨rfl,p,e2,hf,hp,hs⟩:=hr
   exact fin p r.2 hp hs e2 hf
theorem vQ  {vs:List Value}  {lt:Nat -> Nat -> Bool} {le:Nat -> Nat -> Prop} {Q:Value -> Shared -> Prop} (o:Ord lt le) (hl:s.heap.IsList l vs.toArray) (hN:vs.length <= sizeLine) (hk:Known prog w s vs κ lt)
  (h:∀ p:Array Nat,p.Perm (List.range vs.length).toArray -> Asc le p vs.length -> Q (.ref (s.heap.objs.size + 1)) { s with heap:=sortedAll s.heap vs (jH vs p) }):wpAny (model prog w) A (call (.builtin "sorted") [.ref l]) Q E s:=by
 have hz:vs.length <= sizeLine:=hN
 have sz:((s.heap.push (seqObj "list" #[] 0)).update s.heap.objs.size (Obj.mapSeq (· ++ vs.toArray))).objs.size = s.heap.objs.size + 1:=by rw [Heap.size_update,size_push']
 have at1:(((s.heap.push (seqObj "list" #[] 0)).update s.heap.objs.size (Obj.mapSeq (· ++ vs.toArray))).push (seqObj "list" vs.toArray 0)).get? (s.heap.objs.size + 1) = some (seqObj "list" vs.toArray 0):=by rw [<- sz];exact Heap.get?_push_size _ rfl
 have old:∀ b q,s.heap.get? b = some q -> b ≠ s.heap.objs.size + 1 /\ (((s.heap.push (seqObj "list" #[] 0)).update s.heap.objs.size (Obj.mapSeq (· ++ vs.toArray))).push (seqObj "list" vs.toArray 0)).get? b = some q:=fun b q e=>by
  have hb:=Heap.lt_size e
  refine ⟨Nat.ne_of_lt (Nat.lt_succ_of_lt hb),Heap.get?_push_of_some _ ?_⟩
  rw [Heap.get?_update_ne _ _ _ _ (Nat.ne_of_lt hb)]
  exact Heap.get?_push_of_some _ e
 refine Calls.call_function_entry kind_sorted plain_sorted entry_sorted (args_sorted1 (.ref l)) ?_;unfold Builtin.«sorted»
 refine wpAny_bind (m:=checkCount "sorted" 1 1 _) (wpAny_pure (wpAny_bind (collect_list hl (wpAny_bind (wpAny_newList ?_ hz)) hz)))
 show wpAny (model prog w) _ _ _ _ { s with heap:=((s.heap.push (seqObj "list" #[] 0)).update s.heap.objs.size (Obj.mapSeq (· ++ vs.toArray))).push (seqObj "list" vs.toArray 0) }
 rw [sz]
 refine wpAny_bind (wpAny_holding (wpAny_call_entry slot_list_sort ⟨_,at1,rfl⟩ entry_list_sort (EE (κ:=κ) (le:=le) o at1 hN (fun h' kp=>?_) fun p hp hs=>⟨_,rfl,wpAny_pure ⟨_,rfl,h p hp hs⟩⟩) (args_list_sort _)))
 exact hk.on fun b q e=>kp b q (old b q e).1 (old b q e).2
end
section
variable {prog:Program} {w:World} {A:Around} {E:Value -> Shared -> Prop} {s:Shared}
noncomputable def gJ:List Int -> List Int -> Bool
 | [],[]=>false
 | [],_ :: _=>true
 | _ :: _,[]=>false
 | x :: xs,y :: ys=>if x = y then gJ xs ys else decide (x < y)
theorem qv:∀ a:List Int,gJ a a = false
 | []=>rfl
 | x :: xs=>by unfold gJ;rw [if_pos rfl];exact qv xs
theorem sP:∀ a b:List Int,gJ a b = true -> gJ b a = false
 | [],[],h=>by unfold gJ at h;cases h
 | [],_ :: _,_=>by unfold gJ;rfl
 | _ :: _,[],h=>by unfold gJ at h;cases h
 | x :: xs,y :: ys,h=>by
  unfold gJ at h ⊢
  by_cases e:x = y
  ·rw [if_pos e] at h;rw [if_pos e.symm];exact sP xs ys h
  ·rw [if_neg e] at h
   rw [if_neg (Ne.symm e)]
   have:=of_decide_eq_true h
   exact decide_eq_false (by lia)
theorem sQ:∀ a b c:List Int,gJ b a = false -> gJ c b = false -> gJ c a = false
 | [],_,[],_,_=>rfl
 | [],[],_ :: _,_,h=>by unfold gJ at h;cases h <;> rfl
 | [],_ :: _,_ :: _,_,_=>by unfold gJ;rfl
 | _ :: _,[],_,h,_=>by unfold gJ at h;cases h
 | x :: xs,y :: ys,[],_,h=>by unfold gJ at h;cases h
 | x :: xs,y :: ys,z :: zs,h1,h2=>by
  unfold gJ at h1 h2 ⊢
  by_cases e1:y = x
  ·rw [if_pos e1] at h1
   by_cases e2:z = y
   ·rw [if_pos e2] at h2
    rw [if_pos (e2.trans e1)]
    exact sQ xs ys zs h1 h2
   ·rw [if_neg e2] at h2
    rw [if_neg (by lia)]
    have:=of_decide_eq_false h2
    exact decide_eq_false (by lia)
  ·rw [if_neg e1] at h1
   have g1:=of_decide_eq_false h1
   by_cases e2:z = y
   ·rw [if_neg (by lia)]
    exact decide_eq_false (by lia)
   ·rw [if_neg e2] at h2
    have g2:=of_decide_eq_false h2
    rw [if_neg (by lia)]
    exact decide_eq_false (by lia)
theorem EB (f:Nat -> List Int):Ord (fun i j=>gJ (f i) (f j)) (fun i j=>gJ (f j) (f i) = false):=
 ⟨fun a b c h1 h2=>sQ _ _ _ h1 h2,fun a=>qv _,fun a b h=>sP _ _ h,fun a b h=>h⟩
def KF (h:Heap) (v:Value) (ns:List Int):Prop:=∃ a o xs n,v = .ref a /\ h.get? a = some o /\ o.cls = .type "tuple" /\ o.data = .seq xs n /\ IntsAre xs.toList ns
theorem GL:∀ (xs ys:List Value) (ns ms:List Int) (i:Nat) (fin:Bool) (Q:Bool -> Shared -> Prop),IntsAre xs ns -> IntsAre ys ms -> (fin = decide (xs.length < ys.length)) -> Q (gJ ns ms) s ->
  KatLex prog w A true fin Q (xs.zip ys) i s:=by
 intro xs
 induction xs with
 | nil=>
  intro ys ns ms i fin Q hx hy hf hq
  cases hx
  rw [List.zip_nil_left]
  show Q fin s
  rw [hf]
  cases hy with
  | nil=>exact hq
  | cons b u ty=>exact hq
 | cons x xs ih=>
  intro ys ns ms i fin Q hx hy hf hq
  cases hx with
  | cons a t tx=>
   cases hy with
   | nil=>
    rw [List.zip_nil_right]
    show Q fin s
    rw [hf]
    exact hq
   | @cons c u ys' ms' ty=>
    rw [List.zip_cons_cons]
    refine kat_cons ((SeqAt.EqAt.int_int a t c u) prog w _ _ ?_)
    unfold gJ at hq
    by_cases e:a = c
    ·rw [if_pos e] at hq
     have eb:(a == c) = true:=by simpa using e
     rw [eb]
     exact kat_yes (ih ys' _ ms' (i + 1) fin Q tx ty (by rw [hf];simp) hq)
    ·rw [if_neg e] at hq
     have eb:(a == c) = false:=by simpa using e
     rw [eb]
     refine kat_no ?_
     cases q:i == 0 with
     | true=>exact oneLt_int hq
     | false=>exact kat_one _ _ (lt_int hq)
theorem z8 {vs:List Value} {f:Nat -> List Int} (hv:∀ i,i < vs.length -> KF s.heap (vs.getD i Value.none) (f i) /\ f i ≠ []):Known prog w s vs (tuples' true) fun i j=>gJ (f i) (f j):=by
 refine ⟨fun A E h' Q hk h2 hq=>?_,fun A h' i j C hk hi hj hc=>?_⟩
 ·have hv':∀ v ∈ vs,∃ n t rest a o xs k,v = .ref a /\ h'.get? a = some o /\ o.cls = .type "tuple" /\ o.data = .seq xs k /\ xs.toList = Value.int n t :: rest:=fun v hm=>by
   obtain ⟨i,hi,e⟩:=List.getElem_of_mem hm
   obtain ⟨⟨a,o,xs,k,e1,e2,e3,e4,e5⟩,ne⟩:=hv i hi
   have ev:vs.getD i Value.none = v:=by rw [List.getD_eq_getElem?_getD,List.getElem?_eq_getElem hi];exact e
   rw [ev] at e1
   revert e5 ne
   generalize f i = ns
   generalize ex:xs.toList = L
   intro ne e5
   cases e5 with
   | nil=>exact absurd rfl ne
   | @cons n t vs' ns' tl=>exact ⟨n,t,vs',a,o,xs,k,e1,hk _ _ e2,e3,e4,ex⟩
  have fs:∀ L:List Value,(∀ v ∈ L,∃ n t rest a o xs k,v = .ref a /\ h'.get? a = some o /\ o.cls = .type "tuple" /\ o.data = .seq xs k /\ xs.toList = Value.int n t :: rest) -> ∃ gs,KatTups h' L gs /\ gs.length = L.length /\ ∀ v ∈ gs,∃ n t,v = Value.int n t:=by
   intro L
   induction L with
   | nil=>exact fun _=>⟨[],.nil,rfl,fun _ h=>(by cases h)⟩
   | cons v L ih=>
    intro hL
    obtain ⟨gs,g1,g2,g3⟩:=ih fun u hu=>hL u (List.mem_cons_of_mem _ hu)
    obtain ⟨n,t,rest,a,o,xs,k,rfl,e2,e3,e4,e5⟩:=hL v List.mem_cons_self
    refine ⟨.int n t :: gs,.cons e2 e3 e4 (by rw [<- Array.getElem?_toList,e5];rfl) g1,by rw [List.length_cons,List.length_cons,g2],fun u hu=>?_⟩
    rcases List.mem_cons.mp hu with rfl | hu
    ·exact ⟨n,t,rfl⟩
    ·exact g3 u hu
  obtain ⟨gs,g1,g2,g3⟩:=fs vs hv'
  refine kat_kind (s:={ s with heap:=h' }) (T:=.type "int") g1 (by lia) (fun v hm=>?_) (by decide) hq
  obtain ⟨n,t,rfl⟩:=g3 v hm
  exact Looks.of_pure rfl
 ·obtain ⟨⟨a,o,xs,k,e1,e2,e3,e4,e5⟩,_⟩:=hv i hi
  obtain ⟨⟨a',o',xs',k',e1',e2',e3',e4',e5'⟩,_⟩:=hv j hj
  unfold kas_ask
  rw [e1,e1']
  refine kat_lt (s:={ s with heap:=h' }) (hk _ _ e2) e4 (hk _ _ e2') e4' ?_
  refine GL (s:={ s with heap:=h' }) _ _ _ _ _ _ _ e5 e5' ?_ hc
  simp
theorem rC:∀ {vs:List Value} {ns:List Int},IntsAre vs ns -> ∀ i,i < vs.length -> ∃ t,vs.getD i Value.none = .int (ns.getD i 0) t
 | _,_,.nil,i,h=>by simp at h
 | _,_,.cons n t _,0,_=>⟨t,rfl⟩
 | _,_,.cons n t tl,i + 1,h=>by
  obtain ⟨u,e⟩:=rC tl i (by simpa using h)
  exact ⟨u,by simpa using e⟩
theorem zZ   (hI:IntsAre vs ns):Known prog w s vs oneType' fun i j=>decide (ns.getD i 0 < ns.getD j 0):=by
 refine ⟨fun A E h' Q hk h2 hq=>?_,fun A h' i j C hk hi hj hc=>?_⟩
 ·rw [ksk_kind (keys:=vs.toArray) (kz:=ns) (by simpa using hI) (by simpa using h2)]
  exact wpAny_pure hq
 ·obtain ⟨t,e1⟩:=rC hI i hi
  obtain ⟨u,e2⟩:=rC hI j hj
  unfold kas_ask
  rw [e1,e2,keyLt'_oneType]
  exact oneLt_int hc
theorem EZ (f:Nat -> Int):Ord (fun i j=>decide (f i < f j)) (fun i j=>f i <= f j):=
 ⟨fun _ _ _ h k=>Int.le_trans h k,fun _=>Int.le_refl _,fun a b h=>Int.le_of_lt (of_decide_eq_true h),fun a b h=>by have:=of_decide_eq_false h;show f b <= f a;lia⟩
theorem iZ   (hI:IntsAre vs ns):∀ L:List Nat,(∀ i ∈ L,i < vs.length) -> IntsAre (L.map fun i=>vs.getD i Value.none) (L.map fun i=>ns.getD i 0)
 | [],_=>.nil
 | i :: L,h=>by
  obtain ⟨t,e⟩:=rC hI i (h i List.mem_cons_self)
  rw [List.map_cons,List.map_cons,e]
  exact .cons _ t (iZ hI L fun j hj=>h j (List.mem_cons_of_mem _ hj))
theorem ye:∀ {vs:List Value} {ns:List Int},IntsAre vs ns -> vs.length = ns.length
 | _,_,.nil=>rfl
 | _,_,.cons n t tl=>by rw [List.length_cons,List.length_cons,ye tl]
theorem wV  {vs:List Value}  {Q:Value -> Shared -> Prop} (hl:s.heap.IsList l vs.toArray) (hI:IntsAre vs ns) (hN:vs.length <= sizeLine)
  (h:∀ (out:Array Value) ms,IntsAre out.toList ms -> ms.Perm ns -> ms.Pairwise (· <= ·) -> Q (.ref (s.heap.objs.size + 1)) { s with heap:=sortedAll s.heap vs out }):wpAny (model prog w) A (call (.builtin "sorted") [.ref l]) Q E s:=by
 refine vQ (EZ fun i=>ns.getD i 0) hl hN (zZ hI) fun p hp ha=>?_
 have e:=ye hI
 have hb:∀ i ∈ p.toList,i < vs.length:=fun i hi=>by simpa using (Array.perm_iff_toList_perm.mp hp).mem_iff.mp hi
 rw [e] at hp ha
 obtain ⟨p1,p2⟩:=Aq (vs:=ns) (d:=0) hp ha
 exact h (jH vs p) _ (by simpa [jH] using iZ hI p.toList hb) p1 (p2 _ fun i j _ _ h=>h)
end
end Srt
namespace L2
open PySem
noncomputable def JJ (K:W.Frag):List V -> Hp -> VK -> Prop:=fun xs H Q=>∃ p ys,xs = [.ref p] /\ ((SqL K H p ys /\ ∀ l,H l = none -> Q (.ref l) (upd H l (.tup ys))) \/ (SqT K H p ys /\ Q (.ref p) H))
noncomputable def Lp:List V -> Hp -> VK -> Prop:=fun xs H Q=>∃ i j,xs = [.int i,.int j] /\ Q (.int (if j > i then j else i)) H
noncomputable def Lq:List V -> Hp -> VK -> Prop:=fun xs H Q=>∃ i j,xs = [.int i,.int j] /\ Q (.int (if j < i then j else i)) H
noncomputable def MS (K:W.Frag) (ta:TE):TT:=fun σ H Q=>ta σ H fun x H'=>∃ k,Gc K x H' k /\ Q k H'
noncomputable def yP (K:W.Frag):List V -> Hp -> VK -> Prop:=fun xs H Q=>∃ p,∃ ns:List Int,xs = [.ref p] /\ SqL K H p (ns.map V.int) /\ ns.length < 15000000 /\
 ∀ (ms:List Int) l,ms.Perm ns -> ms.Pairwise (· <= ·) -> H l = none -> Q (.ref l) (upd H l (.lst (ms.map V.int)))
noncomputable def HX (K:W.Frag):List V -> Hp -> VK -> Prop:=fun xs H Q=>∃ p,∃ ns:List Int,xs = [.ref p] /\ SqL K H p (ns.map V.int) /\ Q (.int ns.sum) H
noncomputable def IU (K:W.Frag) (tl:TE):TI:=fun σ H R=>tl σ H fun x H1=>∃ a,x = .ref a /\ (((∃ xs,SqL K H1 a xs) /\ R (Itl K a) H1) \/ ((∃ xs,SqT K H1 a xs) /\ R (Itt K a) H1))
end L2
namespace M
open PySem L2
inductive D where
 | non | bl (b:Bool) | int (i:Int) | str (x:Str) | ty (n:String) | lst (l:List D) | tup (l:List D) | scr (l:List D) | ins (N:Str) (ns:List Str) (l:List D) | dic (ks:List (List Int)) | dif (ks:List (List Int)) | mtp (l:List D) | dkv (ks:List Key) (l:List D)
 deriving Inhabited
theorem bH {S':Hp} (s:Same S S')   (h:Rd S a u):Rd S' a u:=h.elim (fun e=>.inl (s _ _ e)) fun ⟨o,e⟩=>.inr ⟨o,s _ _ e⟩
theorem dX  {S':Hp} (s:Same S S')  {xs:List V} (h:SqL K S a xs):SqL K S' a xs:=h.elim (fun e=>.inl (bH s e)) .inr
theorem aJ  {S':Hp} (s:Same S S')  {xs:List V} (h:SqT K S a xs):SqT K S' a xs:=h.elim (fun e=>.inl (bH s e)) .inr
def TpA (K:W.Frag) (S:Hp) (a:Addr) (xs:List V):Prop:=S a = some (.tup xs)
theorem TpA.of  {S:Hp} {a:Addr} {xs:List V} (h:S a = some (.tup xs)):TpA K S a xs:=h
theorem TpA.sq    {xs:List V} (h:TpA K S a xs):SqT K S a xs:=SqT.of h
theorem TpA.mono  {S':Hp} (s:Same S S')  {xs:List V} (h:TpA K S a xs):TpA K S' a xs:=s _ _ h
noncomputable def zK (ks:List (List Int)):List (List Key × V):=ks.map fun k=>(k.map Sum.inl,V.bl true)
mutual
noncomputable def Den (K:W.Frag) (S:Hp):D -> V -> Prop
 | .non,v=>v = .non
 | .bl b,v=>v = .bl b
 | .int i,v=>v = .int i
 | .str x,v=>v = .str x
 | .ty x,v=>v = .ty x
 | .lst l,v=>∃ p xs,v = .ref p /\ Rd S p (.lst xs) /\ Dens K S l xs
 | .tup l,v=>∃ p xs,v = .ref p /\ TpA K S p xs /\ Dens K S l xs
 | .scr l,v=>∃ p xs,v = .ref p /\ SqL K S p xs /\ Dens K S l xs
 | .mtp l,v=>∃ p xs,v = .ref p /\ SqT K S p xs /\ Dens K S l xs
 | .ins N ns l,v=>∃ p C dx fs,v = .ref p /\ W.nsIn K mainGlobals N = some (some (.ref C)) /\ S p = some (.ins C dx fs) /\ fs.map (·.1) = ns /\ Dens K S l (fs.map (·.2))
 | .dic ks,v=>∃ p,v = .ref p /\ Rd S p (.dT (zK ks))
 | .dif ks,v=>∃ p o,v = .ref p /\ S p = some (.frz o (.dT (zK ks)))
 | .dkv ks l,v=>∃ p kvs,v = .ref p /\ Rd S p (.dK kvs) /\ kvs.map (·.1) = ks /\ Dens K S l (kvs.map (·.2))
noncomputable def Dens (K:W.Frag) (S:Hp):List D -> List V -> Prop
 | [],xs=>xs = []
 | d :: ds,xs=>∃ y ys,xs = y :: ys /\ Den K S d y /\ Dens K S ds ys
end
section
variable {K:W.Frag} {S S' H H':Hp}
theorem Dens.nil:Dens K S [] []:=by unfold Dens;rfl
theorem Dens.cons  {ds:List D}  {ys:List V} (h:Den K S d y) (k:Dens K S ds ys):Dens K S (d :: ds) (y :: ys):=by unfold Dens;exact ⟨y,ys,rfl,h,k⟩
theorem Dens.nil_of {xs:List V} (h:Dens K S [] xs):xs = []:=by unfold Dens at h;exact h
theorem Dens.cons_of {d:D} {ds:List D} {xs:List V} (h:Dens K S (d :: ds) xs):∃ y ys,xs = y :: ys /\ Den K S d y /\ Dens K S ds ys:=by unfold Dens at h;exact h
theorem Dens.length:∀ {ds:List D} {xs:List V},Dens K S ds xs -> ds.length = xs.length
 | [],_,h=>by rw [h.nil_of];rfl
 | _ :: _,_,h=>by
  obtain ⟨y,ys,rfl,_,k⟩:=h.cons_of
  rw [List.length_cons,List.length_cons,k.length]
theorem Dens.append:∀ {ds es:List D} {xs ys:List V},Dens K S ds xs -> Dens K S es ys -> Dens K S (ds ++ es) (xs ++ ys)
 | [],_,_,_,h,k=>by rw [h.nil_of];exact k
 | _ :: _,_,_,_,h,k=>by
  obtain ⟨y,ys,rfl,a,b⟩:=h.cons_of
  exact .cons a (b.append k)
theorem Dens.get:∀ {ds:List D} {xs:List V} {i:Nat} {d:D},Dens K S ds xs -> ds[i]? = some d -> ∃ x,xs[i]? = some x /\ Den K S d x
 | [],_,_,_,_,e=>by simp at e
 | _ :: _,_,0,_,h,e=>by
  obtain ⟨y,ys,rfl,a,b⟩:=h.cons_of
  simp at e;subst e
  exact ⟨y,rfl,a⟩
 | _ :: _,_,i + 1,_,h,e=>by
  obtain ⟨y,ys,rfl,a,b⟩:=h.cons_of
  obtain ⟨x,e1,h1⟩:=b.get (i:=i) (by simpa using e)
  exact ⟨x,by simpa using e1,h1⟩
theorem Dens.set:∀ {ds:List D} {xs:List V} {d:D} {x:V} (i:Nat),Dens K S ds xs -> Den K S d x -> Dens K S (ds.set i d) (xs.set i x)
 | [],_,_,_,_,h,_=>by rw [h.nil_of];exact .nil
 | _ :: _,_,_,_,0,h,k=>by
  obtain ⟨y,ys,rfl,a,b⟩:=h.cons_of
  exact .cons k b
 | _ :: _,_,_,_,i + 1,h,k=>by
  obtain ⟨y,ys,rfl,a,b⟩:=h.cons_of
  exact .cons a (b.set i k)
theorem Dens.take:∀ {ds:List D} {xs:List V} (i:Nat),Dens K S ds xs -> Dens K S (ds.take i) (xs.take i)
 | [],_,_,h=>by rw [h.nil_of];simp;exact .nil
 | _ :: _,_,0,h=>by simp;exact .nil
 | _ :: _,_,i + 1,h=>by
  obtain ⟨y,ys,rfl,a,b⟩:=h.cons_of
  exact .cons a (b.take i)
theorem Dens.drop:∀ {ds:List D} {xs:List V} (i:Nat),Dens K S ds xs -> Dens K S (ds.drop i) (xs.drop i)
 | [],_,_,h=>by rw [h.nil_of];simp;exact .nil
 | _ :: _,_,0,h=>h
 | _ :: _,_,i + 1,h=>by
  obtain ⟨y,ys,rfl,a,b⟩:=h.cons_of
  exact b.drop i
mutual
theorem Den.mono (s:Same S S'):∀ {d:D} {v:V},Den K S d v -> Den K S' d v
 | .dic _,_,h=>by
  unfold Den at *
  obtain ⟨p,e,h1⟩:=h
  exact ⟨p,e,bH s h1⟩
 | .dif _,_,h=>by
  unfold Den at *
  obtain ⟨p,o,e,h1⟩:=h
  exact ⟨p,o,e,s _ _ h1⟩
 | .dkv _ _,_,h=>by
  unfold Den at *
  obtain ⟨p,kvs,e,h1,h2,h3⟩:=h
  exact ⟨p,kvs,e,bH s h1,h2,Dens.mono s h3⟩
 | .non,_,h=>by unfold Den at *;exact h
 | .bl _,_,h=>by unfold Den at *;exact h
 | .int _,_,h=>by unfold Den at *;exact h
 | .str _,_,h=>by unfold Den at *;exact h
 | .ty _,_,h=>by unfold Den at *;exact h
 | .lst _,_,h=>by
  unfold Den at *
  obtain ⟨p,xs,e,h1,h2⟩:=h
  exact ⟨p,xs,e,bH s h1,Dens.mono s h2⟩
 | .tup _,_,h=>by
  unfold Den at *
  obtain ⟨p,xs,e,h1,h2⟩:=h
  exact ⟨p,xs,e,TpA.mono s h1,Dens.mono s h2⟩
 | .scr _,_,h=>by
  unfold Den at *
  obtain ⟨p,xs,e,h1,h2⟩:=h
  exact ⟨p,xs,e,dX s h1,Dens.mono s h2⟩
 | .mtp _,_,h=>by
  unfold Den at *
  obtain ⟨p,xs,e,h1,h2⟩:=h
  exact ⟨p,xs,e,aJ s h1,Dens.mono s h2⟩
 | .ins _ _ _,_,h=>by
  unfold Den at *
  obtain ⟨p,C,dx,fs,e,h0,h1,h2,h3⟩:=h
  exact ⟨p,C,dx,fs,e,h0,s _ _ h1,h2,Dens.mono s h3⟩
theorem Dens.mono (s:Same S S'):∀ {ds:List D} {xs:List V},Dens K S ds xs -> Dens K S' ds xs
 | [],_,h=>by rw [h.nil_of];exact .nil
 | _ :: _,_,h=>by
  obtain ⟨y,ys,rfl,a,b⟩:=h.cons_of
  exact .cons (Den.mono s a) (Dens.mono s b)
end
theorem den_int {i:Int}  : Den K S (.int i) v ↔ v = .int i:=by unfold Den;exact Iff.rfl
theorem den_bl {b:Bool}  : Den K S (.bl b) v ↔ v = .bl b:=by unfold Den;exact Iff.rfl
theorem den_non:Den K S .non v ↔ v = .non:=by unfold Den;exact Iff.rfl
theorem den_str {x:Str}  : Den K S (.str x) v ↔ v = .str x:=by unfold Den;exact Iff.rfl
theorem den_ty {x:String}  : Den K S (.ty x) v ↔ v = .ty x:=by unfold Den;exact Iff.rfl
theorem den_tup {l:List D}  : Den K S (.tup l) v ↔ ∃ p xs,v = .ref p /\ TpA K S p xs /\ Dens K S l xs:=by
 constructor
 ·intro h;unfold Den at h;exact h
 ·intro h;unfold Den;exact h
theorem gF {l:List D}  (h:Den K S (.tup l) v):∃ p xs,v = .ref p /\ SqT K S p xs /\ Dens K S l xs:=by
 obtain ⟨p,xs,e,h1,h2⟩:=den_tup.mp h
 exact ⟨p,xs,e,h1.sq,h2⟩
theorem den_lst {l:List D}  : Den K S (.lst l) v ↔ ∃ p xs,v = .ref p /\ Rd S p (.lst xs) /\ Dens K S l xs:=by
 constructor
 ·intro h;unfold Den at h;exact h
 ·intro h;unfold Den;exact h
theorem den_scr {l:List D}  : Den K S (.scr l) v ↔ ∃ p xs,v = .ref p /\ SqL K S p xs /\ Dens K S l xs:=by
 constructor
 ·intro h;unfold Den at h;exact h
 ·intro h;unfold Den;exact h
theorem den_mtp {l:List D}  : Den K S (.mtp l) v ↔ ∃ p xs,v = .ref p /\ SqT K S p xs /\ Dens K S l xs:=by
 constructor
 ·intro h;unfold Den at h;exact h
 ·intro h;unfold Den;exact h
theorem den_ins {N:Str} {ns:List Str} {l:List D}  : Den K S (.ins N ns l) v ↔ ∃ p C dx fs,v = .ref p /\ W.nsIn K mainGlobals N = some (some (.ref C)) /\ S p = some (.ins C dx fs) /\ fs.map (·.1) = ns /\ Dens K S l (fs.map (·.2)):=by
 constructor
 ·intro h;unfold Den at h;exact h
 ·intro h;unfold Den;exact h
def DenP (K:W.Frag) (S H:Hp) (d:D) (v:V):Prop:=Den K S d v \/ ∃ l p xs,d = .lst l /\ v = .ref p /\ H p = some (.lst xs) /\ Dens K S l xs
theorem DenP.lst {l:List D} {v:V} (s:Same S H) (h:DenP K S H (.lst l) v):∃ p xs,v = .ref p /\ Rd H p (.lst xs) /\ Dens K S l xs:=by
 rcases h with h | ⟨l',p,xs,e,e1,e2,e3⟩
 ·obtain ⟨p,xs,e,e1,e2⟩:=den_lst.mp h
  exact ⟨p,xs,e,bH s e1,e2⟩
 ·cases e
  exact ⟨p,xs,e1,.inl e2,e3⟩
theorem DenP.tup {l:List D} {v:V} (s:Same S H) (h:DenP K S H (.tup l) v):∃ p xs,v = .ref p /\ SqT K H p xs /\ Dens K S l xs:=by
 rcases h with h | ⟨l',p,xs,e,e1,e2,e3⟩
 ·obtain ⟨p,xs,e,e1,e2⟩:=gF h
  exact ⟨p,xs,e,aJ s e1,e2⟩
 ·cases e
theorem DenP.scr {l:List D}  (s:Same S H) (h:DenP K S H (.scr l) v):∃ p xs,v = .ref p /\ SqL K H p xs /\ Dens K S l xs:=by
 rcases h with h | ⟨l',p,xs,e,e1,e2,e3⟩
 ·obtain ⟨p,xs,e,e1,e2⟩:=den_scr.mp h
  exact ⟨p,xs,e,dX s e1,e2⟩
 ·cases e
theorem DenP.mtp {l:List D}  (s:Same S H) (h:DenP K S H (.mtp l) v):∃ p xs,v = .ref p /\ SqT K H p xs /\ Dens K S l xs:=by
 rcases h with h | ⟨l',p,xs,e,e1,e2,e3⟩
 ·obtain ⟨p,xs,e,e1,e2⟩:=den_mtp.mp h
  exact ⟨p,xs,e,aJ s e1,e2⟩
 ·cases e
theorem DenP.int {i:Int} {v:V} (h:DenP K S H (.int i) v):v = .int i:=by
 rcases h with h | ⟨l',p,xs,e,_⟩
 ·exact den_int.mp h
 ·cases e
theorem DenP.bl {i:Bool}  (h:DenP K S H (.bl i) v):v = .bl i:=by
 rcases h with h | ⟨l',p,xs,e,_⟩
 ·exact den_bl.mp h
 ·cases e
theorem DenP.str {i:Str}  (h:DenP K S H (.str i) v):v = .str i:=by
 rcases h with h | ⟨l',p,xs,e,_⟩
 ·exact den_str.mp h
 ·cases e
theorem DenP.non  (h:DenP K S H .non v):v = .non:=by
 rcases h with h | ⟨l',p,xs,e,_⟩
 ·exact den_non.mp h
 ·cases e
theorem DenP.ty {i:String}  (h:DenP K S H (.ty i) v):v = .ty i:=by
 rcases h with h | ⟨l',p,xs,e,_⟩
 ·exact den_ty.mp h
 ·cases e
def IT (o:HO):Prop:=∃ ks:List Int,o = .tup (ks.map V.int)
structure Ext (S H S' H':Hp):Prop where
 sh:Same S S'
 sub:Same S' H'
 alw:∀ b o,H b = some o -> S b = none -> H' b = some o /\ (S' b = none \/ IT o)
theorem Ext.al (z:Ext S H S' H') (b:Addr) (o:HO) (h:H b = some o) (n:S b = none) (hn:¬ IT o:=by exact fun ⟨_,z⟩=>nomatch z):H' b = some o /\ S' b = none:=
 ⟨(z.alw b o h n).1,(z.alw b o h n).2.resolve_right hn⟩
theorem Ext.refl (h:Same S H):Ext S H S H:=⟨Same.refl _,h,fun _ _ h n=>⟨h,.inl n⟩⟩
theorem Ext.trans {H1 H2:Hp} (a:Ext S H S1 H1) (b:Ext S1 H1 S2 H2):Ext S H S2 H2:=⟨a.sh.trans b.sh,b.sub,fun c o h n=>by
 obtain ⟨k1,k2⟩:=a.alw c o h n
 rcases k2 with k2 | k2
 ·exact b.alw c o k1 k2
 ·cases q:S1 c with
  | none=>exact ⟨(b.alw c o k1 q).1,.inr k2⟩
  | some u=>
   have:=a.sub c u q
   rw [k1] at this
   cases this
   exact ⟨b.sub c _ (b.sh c _ q),.inr k2⟩⟩
theorem Ext.same (a:Ext S H S' H') (s:Same S H):Same H H':=fun b o h=>by
 cases q:S b with
 | none=>exact (a.alw b o h q).1
 | some u=>
  have:=s b u q
  rw [h] at this
  cases this
  exact a.sub b o (a.sh b o q)
theorem Ext.new (s:Same S H)   (h:H p = none):Ext S H (upd S p o) (upd H p o) where
 sh:=fun b u e=>by rw [aF (aL e (s.free h))];exact e
 sub:=fun b u e=>by
  by_cases hb:b = p
  ·subst hb;rw [aB] at e ⊢;exact e
  ·rw [aF hb] at e ⊢;exact s b u e
 alw:=fun b u e n=>by
  have hb:=aL e h
  rw [aF hb,aF hb]
  exact ⟨e,.inl n⟩
theorem Ext.own (s:Same S H)   (h:H p = none):Ext S H S (upd H p o) where
 sh:=Same.refl _
 sub:=fun b u e=>by rw [aF (aL (s b u e) h)];exact s b u e
 alw:=fun b u e n=>by
  have hb:=aL e h
  rw [aF hb]
  exact ⟨e,.inl n⟩
theorem DenP.mono   (e:Ext S H S' H') (s:Same S H) (h:DenP K S H d v):DenP K S' H' d v:=by
 rcases h with h | ⟨l,p,xs,h1,h2,h3,h4⟩
 ·exact .inl (h.mono e.sh)
 ·exact .inr ⟨l,p,xs,h1,h2,e.same s _ _ h3,h4.mono e.sh⟩
inductive DensP (K:W.Frag) (S H:Hp):List D -> List V -> Prop where
 | nil:DensP K S H [] []
 | cons {d ds v vs}:DenP K S H d v -> DensP K S H ds vs -> DensP K S H (d :: ds) (v :: vs)
inductive O where
 | sh (d:D) | lst (l:List O) | tup (l:List O) | dic (ks:List (List Int)) | hd (p:Addr) (ks:List (List Int)) (os:List O)
 deriving Inhabited
mutual
noncomputable def O.d:O -> D
 | .sh d=>d
 | .dic ks=>.dic ks
 | .hd _ ks os=>(O.ds os).headD (.dic ks)
 | .lst l=>.lst (O.ds l)
 | .tup l=>.tup (O.ds l)
noncomputable def O.ds:List O -> List D
 | []=>[]
 | o :: l=>o.d :: O.ds l
end
mutual
noncomputable def Own (K:W.Frag) (S H:Hp):O -> V -> List Addr -> Prop
 | .sh d,v,fp=>fp = [] /\ Den K S d v
 | .lst l,v,fp=>∃ a xs f,v = .ref a /\ fp = a :: f /\ H a = some (.lst xs) /\ Owns K S H l xs f
 | .tup l,v,fp=>∃ a xs f,v = .ref a /\ fp = a :: f /\ (H a = some (.tup xs) /\ ¬ IT (.tup xs)) /\ Owns K S H l xs f
 | .dic ks,v,fp=>∃ a,v = .ref a /\ fp = [a] /\ H a = some (.dT (zK ks))
 | .hd p ks os,v,fp=>∃ xs f,v = xs.headD (.ref p) /\ fp = p :: f /\ H p = some (.dT (zK ks)) /\ Owns K S H os xs f
noncomputable def Owns (K:W.Frag) (S H:Hp):List O -> List V -> List Addr -> Prop
 | [],xs,fp=>xs = [] /\ fp = []
 | o :: l,xs,fp=>∃ y ys f g,xs = y :: ys /\ fp = f ++ g /\ Own K S H o y f /\ Owns K S H l ys g
end
theorem den_dic {ks:List (List Int)}  : Den K S (.dic ks) v ↔ ∃ p,v = .ref p /\ Rd S p (.dT (zK ks)):=by unfold Den;exact Iff.rfl
theorem own_dic {ks:List (List Int)}  {fp:List Addr}:Own K S H (.dic ks) v fp ↔ ∃ a,v = .ref a /\ fp = [a] /\ H a = some (.dT (zK ks)):=by unfold Own;exact Iff.rfl
theorem den_dkv {ks:List Key} {l:List D} {v:V}:Den K S (.dkv ks l) v ↔ ∃ p kvs,v = .ref p /\ Rd S p (.dK kvs) /\ kvs.map (·.1) = ks /\ Dens K S l (kvs.map (·.2)):=by unfold Den;exact Iff.rfl
theorem own_hd {p:Addr} {ks:List (List Int)} {os:List O}  {fp:List Addr}:Own K S H (.hd p ks os) v fp ↔ ∃ xs f,v = xs.headD (.ref p) /\ fp = p :: f /\ H p = some (.dT (zK ks)) /\ Owns K S H os xs f:=by
 constructor
 ·intro h;unfold Own at h;exact h
 ·intro h;unfold Own;exact h
theorem own_sh {d:D}  {fp:List Addr}:Own K S H (.sh d) v fp ↔ fp = [] /\ Den K S d v:=by unfold Own;exact Iff.rfl
theorem own_lst {l:List O} {v:V} {fp:List Addr}:Own K S H (.lst l) v fp ↔ ∃ a xs f,v = .ref a /\ fp = a :: f /\ H a = some (.lst xs) /\ Owns K S H l xs f:=by
 constructor
 ·intro h;unfold Own at h;exact h
 ·intro h;unfold Own;exact h
theorem own_tup {l:List O} {v:V} {fp:List Addr}:Own K S H (.tup l) v fp ↔ ∃ a xs f,v = .ref a /\ fp = a :: f /\ (H a = some (.tup xs) /\ ¬ IT (.tup xs)) /\ Owns K S H l xs f:=by
 constructor
 ·intro h;unfold Own at h;exact h
 ·intro h;unfold Own;exact h
theorem Owns.nil:Owns K S H [] [] []:=by unfold Owns;exact ⟨rfl,rfl⟩
theorem Owns.cons    {ys:List V}  (h:Own K S H o y f) (k:Owns K S H l ys g):Owns K S H (o :: l) (y :: ys) (f ++ g):=by unfold Owns;exact ⟨y,ys,f,g,rfl,rfl,h,k⟩
theorem Owns.nil_of {xs:List V} {fp:List Addr} (h:Owns K S H [] xs fp):xs = [] /\ fp = []:=by unfold Owns at h;exact h
theorem Owns.cons_of {o:O} {l:List O} {xs:List V} {fp:List Addr} (h:Owns K S H (o :: l) xs fp):∃ y ys f g,xs = y :: ys /\ fp = f ++ g /\ Own K S H o y f /\ Owns K S H l ys g:=by unfold Owns at h;exact h
theorem Owns.length:∀ {l:List O} {xs:List V} {fp:List Addr},Owns K S H l xs fp -> l.length = xs.length
 | [],_,_,h=>by rw [h.nil_of.1];rfl
 | _ :: _,_,_,h=>by
  obtain ⟨y,ys,f,g,rfl,rfl,_,k⟩:=h.cons_of
  rw [List.length_cons,List.length_cons,k.length]
theorem Owns.append:∀ {l m:List O} {xs ys:List V} {f g:List Addr},Owns K S H l xs f -> Owns K S H m ys g -> Owns K S H (l ++ m) (xs ++ ys) (f ++ g)
 | [],_,_,_,_,_,h,k=>by rw [h.nil_of.1,h.nil_of.2];exact k
 | _ :: _,_,_,_,_,_,h,k=>by
  obtain ⟨y,ys,f,g,rfl,rfl,a,b⟩:=h.cons_of
  rw [List.append_assoc]
  exact .cons a (b.append k)
theorem rG:∀ {ds:List D} {xs:List V},Dens K S ds xs -> Owns K S H (ds.map .sh) xs []
 | [],_,h=>by rw [h.nil_of];exact .nil
 | _ :: _,_,h=>by
  obtain ⟨y,ys,rfl,a,b⟩:=h.cons_of
  exact .cons (f:=[]) (own_sh.mpr ⟨rfl,a⟩) (rG b)
theorem mL:∀ {ds:List D} {xs:List V} {fp:List Addr},Owns K S H (ds.map .sh) xs fp -> Dens K S ds xs /\ fp = []
 | [],_,_,h=>by rw [h.nil_of.1,h.nil_of.2];exact ⟨.nil,rfl⟩
 | _ :: _,_,_,h=>by
  obtain ⟨y,ys,f,g,rfl,rfl,a,b⟩:=h.cons_of
  obtain ⟨e,a⟩:=own_sh.mp a
  obtain ⟨b,e2⟩:=mL b
  exact ⟨.cons a b,by rw [e,e2];rfl⟩
mutual
theorem Own.mono (s:Same S S'):∀ {o:O} {v:V} {fp:List Addr},(∀ b ∈ fp,H' b = H b) -> Own K S H o v fp -> Own K S' H' o v fp
 | .dic _,_,_,k,h=>by
  obtain ⟨a,e,rfl,h1⟩:=own_dic.mp h
  exact own_dic.mpr ⟨a,e,rfl,by rw [k a List.mem_cons_self];exact h1⟩
 | .hd _ _ _,_,_,k,h=>by
  obtain ⟨xs,f,e,rfl,h1,h2⟩:=own_hd.mp h
  exact own_hd.mpr ⟨xs,f,e,rfl,by rw [k _ List.mem_cons_self];exact h1,Owns.mono s (fun b hb=>k b (List.mem_cons_of_mem _ hb)) h2⟩
 | .sh _,_,_,k,h=>by
  obtain ⟨e,d⟩:=own_sh.mp h
  exact own_sh.mpr ⟨e,d.mono s⟩
 | .lst _,_,_,k,h=>by
  obtain ⟨a,xs,f,e,rfl,h1,h2⟩:=own_lst.mp h
  exact own_lst.mpr ⟨a,xs,f,e,rfl,by rw [k a List.mem_cons_self];exact h1,Owns.mono s (fun b hb=>k b (List.mem_cons_of_mem _ hb)) h2⟩
 | .tup _,_,_,k,h=>by
  obtain ⟨a,xs,f,e,rfl,h1,h2⟩:=own_tup.mp h
  exact own_tup.mpr ⟨a,xs,f,e,rfl,by rw [k a List.mem_cons_self];exact h1,Owns.mono s (fun b hb=>k b (List.mem_cons_of_mem _ hb)) h2⟩
theorem Owns.mono (s:Same S S'):∀ {l:List O} {xs:List V} {fp:List Addr},(∀ b ∈ fp,H' b = H b) -> Owns K S H l xs fp -> Owns K S' H' l xs fp
 | [],_,_,k,h=>by rw [h.nil_of.1,h.nil_of.2];exact .nil
 | _ :: _,_,_,k,h=>by
  obtain ⟨y,ys,f,g,rfl,rfl,a,b⟩:=h.cons_of
  exact .cons (Own.mono s (fun b hb=>k b (List.mem_append_left _ hb)) a) (Owns.mono s (fun b hb=>k b (List.mem_append_right _ hb)) b)
end
mutual
theorem Own.there:∀ {o:O} {v:V} {fp:List Addr},Own K S H o v fp -> ∀ b ∈ fp,H b ≠ none
 | .dic _,_,_,h=>by
  obtain ⟨a,e,rfl,h1⟩:=own_dic.mp h
  intro b hb
  rw [List.mem_singleton] at hb
  subst hb
  rw [h1];exact fun z=>by cases z
 | .hd _ _ _,_,_,h=>by
  obtain ⟨xs,f,e,rfl,h1,h2⟩:=own_hd.mp h
  intro b hb
  rcases List.mem_cons.mp hb with rfl | hb
  ·rw [h1];exact fun z=>by cases z
  ·exact Owns.there h2 b hb
 | .sh _,_,_,h=>by
  obtain ⟨e,d⟩:=own_sh.mp h
  rw [e];intro b hb;cases hb
 | .lst _,_,_,h=>by
  obtain ⟨a,xs,f,e,rfl,h1,h2⟩:=own_lst.mp h
  intro b hb
  rcases List.mem_cons.mp hb with rfl | hb
  ·rw [h1];exact fun z=>by cases z
  ·exact Owns.there h2 b hb
 | .tup _,_,_,h=>by
  obtain ⟨a,xs,f,e,rfl,⟨h1,_⟩,h2⟩:=own_tup.mp h
  intro b hb
  rcases List.mem_cons.mp hb with rfl | hb
  ·rw [h1];exact fun z=>by cases z
  ·exact Owns.there h2 b hb
theorem Owns.there:∀ {l:List O} {xs:List V} {fp:List Addr},Owns K S H l xs fp -> ∀ b ∈ fp,H b ≠ none
 | [],_,_,h=>by rw [h.nil_of.2];intro b hb;cases hb
 | _ :: _,_,_,h=>by
  obtain ⟨y,ys,f,g,rfl,rfl,a,b⟩:=h.cons_of
  intro c hc
  rcases List.mem_append.mp hc with hc | hc
  ·exact Own.there a c hc
  ·exact Owns.there b c hc
end
mutual
theorem Own.nit:∀ {o:O} {v:V} {fp:List Addr},Own K S H o v fp -> ∀ b ∈ fp,∀ u,H b = some u -> ¬ IT u
 | .dic _,_,_,h=>by
  obtain ⟨a,e,rfl,h1⟩:=own_dic.mp h
  intro b hb u hu
  rw [List.mem_singleton.mp hb,h1] at hu
  cases hu
  exact fun ⟨_,z⟩=>nomatch z
 | .hd _ _ _,_,_,h=>by
  obtain ⟨xs,f,e,rfl,h1,h2⟩:=own_hd.mp h
  intro b hb u hu
  rcases List.mem_cons.mp hb with rfl | hb
  ·rw [h1] at hu
   cases hu
   exact fun ⟨_,z⟩=>nomatch z
  ·exact Owns.nit h2 b hb u hu
 | .sh _,_,_,h=>by
  obtain ⟨e,d⟩:=own_sh.mp h
  rw [e];intro b hb;cases hb
 | .lst _,_,_,h=>by
  obtain ⟨a,xs,f,e,rfl,h1,h2⟩:=own_lst.mp h
  intro b hb u hu
  rcases List.mem_cons.mp hb with rfl | hb
  ·rw [h1] at hu
   cases hu
   exact fun ⟨_,z⟩=>nomatch z
  ·exact Owns.nit h2 b hb u hu
 | .tup _,_,_,h=>by
  obtain ⟨a,xs,f,e,rfl,⟨h1,hn⟩,h2⟩:=own_tup.mp h
  intro b hb u hu
  rcases List.mem_cons.mp hb with rfl | hb
  ·rw [h1] at hu
   cases hu
   exact hn
  ·exact Owns.nit h2 b hb u hu
theorem Owns.nit:∀ {l:List O} {xs:List V} {fp:List Addr},Owns K S H l xs fp -> ∀ b ∈ fp,∀ u,H b = some u -> ¬ IT u
 | [],_,_,h=>by rw [h.nil_of.2];intro b hb;cases hb
 | _ :: _,_,_,h=>by
  obtain ⟨y,ys,f,g,rfl,rfl,a,b⟩:=h.cons_of
  intro c hc u hu
  rcases List.mem_append.mp hc with hc | hc
  ·exact Own.nit a c hc u hu
  ·exact Owns.nit b c hc u hu
end
mutual
theorem Own.den  (s:Same S S2):∀ {o:O} {v:V} {fp:List Addr},(∀ b ∈ fp,S2 b = H b) -> Own K S H o v fp -> Den K S2 o.d v
 | .dic _,_,_,k,h=>by
  obtain ⟨a,e,rfl,h1⟩:=own_dic.mp h
  rw [O.d]
  exact den_dic.mpr ⟨a,e,.inl (by rw [k a List.mem_cons_self];exact h1)⟩
 | .hd p ks os,_,_,k,h=>by
  obtain ⟨xs,f,e,rfl,h1,h2⟩:=own_hd.mp h
  have ds:=Owns.den s (fun b hb=>k b (List.mem_cons_of_mem _ hb)) h2
  rw [O.d,e]
  cases q:O.ds os with
  | nil=>
   rw [q] at ds
   rw [ds.nil_of]
   exact den_dic.mpr ⟨p,rfl,.inl (by rw [k p List.mem_cons_self];exact h1)⟩
  | cons d l=>
   rw [q] at ds
   obtain ⟨y,ys,rfl,a,_⟩:=ds.cons_of
   exact a
 | .sh _,_,_,k,h=>by
  obtain ⟨e,d⟩:=own_sh.mp h
  exact d.mono s
 | .lst l,_,_,k,h=>by
  obtain ⟨a,xs,f,e,rfl,h1,h2⟩:=own_lst.mp h
  rw [O.d]
  exact den_lst.mpr ⟨a,xs,e,.inl (by rw [k a List.mem_cons_self];exact h1),Owns.den s (fun b hb=>k b (List.mem_cons_of_mem _ hb)) h2⟩
 | .tup l,_,_,k,h=>by
  obtain ⟨a,xs,f,e,rfl,h1,h2⟩:=own_tup.mp h
  rw [O.d]
  exact den_tup.mpr ⟨a,xs,e,TpA.of (by rw [k a List.mem_cons_self];exact h1.1),Owns.den s (fun b hb=>k b (List.mem_cons_of_mem _ hb)) h2⟩
theorem Owns.den  (s:Same S S2):∀ {l:List O} {xs:List V} {fp:List Addr},(∀ b ∈ fp,S2 b = H b) -> Owns K S H l xs fp -> Dens K S2 (O.ds l) xs
 | [],_,_,k,h=>by rw [h.nil_of.1,O.ds];exact .nil
 | _ :: _,_,_,k,h=>by
  obtain ⟨y,ys,f,g,rfl,rfl,a,b⟩:=h.cons_of
  rw [O.ds]
  exact .cons (Own.den s (fun b hb=>k b (List.mem_append_left _ hb)) a) (Owns.den s (fun b hb=>k b (List.mem_append_right _ hb)) b)
end
theorem Own.denH   {fp:List Addr} (s:Same S H) (h:Own K S H o v fp):Den K H o.d v:=h.den s fun _ _=>rfl
theorem Ext.keeps {fp:List Addr} (e:Ext S H S' H') (h:∀ b ∈ fp,S b = none) (t:∀ b ∈ fp,H b ≠ none) (ni:∀ b ∈ fp,∀ u,H b = some u -> ¬ IT u):(∀ b ∈ fp,H' b = H b) /\ ∀ b ∈ fp,S' b = none:=by
 have key:∀ b ∈ fp,H' b = H b /\ S' b = none:=fun b hb=>by
  cases q:H b with
  | none=>exact absurd q (t b hb)
  | some o=>exact e.al b o q (h b hb) (ni b hb o q)
 exact ⟨fun b hb=>(key b hb).1,fun b hb=>(key b hb).2⟩
inductive Sl where
 | un | lo | sh (d:D) | ow (o:O)
 deriving Inhabited
noncomputable abbrev Env:=List Sl
structure RlF (K:W.Frag) (A:Hp) (Λ:Nat -> Option Addr) (Φ:Nat -> List Addr) (ρ:Env) (σ:St) (S H:Hp):Prop where
 len:σ.length = ρ.length
 sub:Same S H
 sh:∀ (i:Nat) d,ρ[i]? = some (.sh d) -> ∃ v,σ[i]? = some (some v) /\ Den K S d v
 ow:∀ (i:Nat) o,ρ[i]? = some (.ow o) -> ∃ v,σ[i]? = some (some v) /\ Own K S H o v (Φ i) /\ (Φ i).Nodup /\ ∀ b ∈ Φ i,S b = none /\ A b = none
 dj:∀ (i j:Nat) o o',i ≠ j -> ρ[i]? = some (.ow o) -> ρ[j]? = some (.ow o') -> ∀ b ∈ Φ i,b ∉ Φ j
 lo:∀ (i:Nat),ρ[i]? = some .lo -> ∃ a,Λ i = some a /\ σ[i]? = some (some (.ref a))
 asub:Same A H
 adis:∀ b,S b = none \/ A b = none \/ ∃ u,A b = some u /\ IT u
def RlA (K:W.Frag) (A:Hp) (Λ:Nat -> Option Addr) (ρ:Env) (σ:St) (S H:Hp):Prop:=∃ Φ,RlF K A Λ Φ ρ σ S H
def Rl (K:W.Frag) (ρ:Env) (σ:St) (S H:Hp):Prop:=∃ A Λ Φ,RlF K A Λ Φ ρ σ S H
theorem RlF.ext      (r:RlF K A Λ Φ ρ σ S H) (e:Ext S H S' H'):RlF K A Λ Φ ρ σ S' H' where
 len:=r.len
 sub:=e.sub
 sh:=fun i d h=>by
  obtain ⟨v,h1,h2⟩:=r.sh i d h
  exact ⟨v,h1,h2.mono e.sh⟩
 ow:=fun i o h=>by
  obtain ⟨v,h1,h2,h3,h4⟩:=r.ow i o h
  obtain ⟨k1,k2⟩:=e.keeps (fun b hb=>(h4 b hb).1) h2.there h2.nit
  exact ⟨v,h1,h2.mono e.sh k1,h3,fun b hb=>⟨k2 b hb,(h4 b hb).2⟩⟩
 dj:=r.dj
 lo:=r.lo
 asub:=fun b o h=>e.same r.sub b o (r.asub b o h)
 adis:=fun b=>by
  rcases r.adis b with h | h
  ·cases q:A b with
   | none=>exact .inr (.inl rfl)
   | some o=>
    rcases (e.alw b o (r.asub b o q) h).2 with k | k
    ·exact .inl k
    ·exact .inr (.inr ⟨o,rfl,k⟩)
  ·exact .inr h
theorem RlA.ext     (r:RlA K A Λ ρ σ S H) (e:Ext S H S' H'):RlA K A Λ ρ σ S' H':=let ⟨Φ,f⟩:=r;⟨Φ,f.ext e⟩
theorem RlA.toRl     (r:RlA K A Λ ρ σ S H):Rl K ρ σ S H:=let ⟨Φ,f⟩:=r;⟨A,Λ,Φ,f⟩
theorem RlA.sub     (r:RlA K A Λ ρ σ S H):Same S H:=let ⟨_,f⟩:=r;f.sub
theorem RlA.asub     (r:RlA K A Λ ρ σ S H):Same A H:=let ⟨_,f⟩:=r;f.asub
theorem RlA.adis     (r:RlA K A Λ ρ σ S H):∀ b,S b = none \/ A b = none \/ ∃ u,A b = some u /\ IT u:=let ⟨_,f⟩:=r;f.adis
theorem RlA.sh {A:Hp} {Λ:Nat -> Option Addr} {ρ:Env} {σ:St} (r:RlA K A Λ ρ σ S H):∀ (i:Nat) d,ρ[i]? = some (.sh d) -> ∃ v,σ[i]? = some (some v) /\ Den K S d v:=let ⟨_,f⟩:=r;f.sh
theorem Rl.ext   (r:Rl K ρ σ S H) (e:Ext S H S' H'):Rl K ρ σ S' H':=let ⟨A,Λ,Φ,f⟩:=r;⟨A,Λ,Φ,f.ext e⟩
theorem Rl.sub   (r:Rl K ρ σ S H):Same S H:=let ⟨_,_,_,f⟩:=r;f.sub
theorem Rl.sh {ρ:Env} {σ:St} (r:Rl K ρ σ S H):∀ (i:Nat) d,ρ[i]? = some (.sh d) -> ∃ v,σ[i]? = some (some v) /\ Den K S d v:=let ⟨_,_,_,f⟩:=r;f.sh
theorem Rl.ow   (r:Rl K ρ σ S H):∀ (i:Nat) o,ρ[i]? = some (.ow o) -> ∃ v fp,σ[i]? = some (some v) /\ Own K S H o v fp /\ fp.Nodup /\ ∀ b ∈ fp,S b = none:=fun i o h=>by
 obtain ⟨A,Λ,Φ,f⟩:=r
 obtain ⟨v,h1,h2,h3,h4⟩:=f.ow i o h
 exact ⟨v,_,h1,h2,h3,fun b hb=>(h4 b hb).1⟩
noncomputable abbrev XE:=Env -> Option D
noncomputable abbrev XT:=Env -> Option Bool
noncomputable abbrev XA:=Env -> Option (List D)
def SE (K:W.Frag) (t:TE) (e:XE):Prop:=∀ ρ σ S H (Q:VK) d,Rl K ρ σ S H -> e ρ = some d -> (∀ v S' H',Ext S H S' H' -> Den K S' d v -> Q v H') -> t σ H Q
def SPk (K:W.Frag) (t:TE) (e:XE):Prop:=∀ ρ σ S H (Q:VK) d,Rl K ρ σ S H -> e ρ = some d -> (∀ v S' H',Ext S H S' H' -> DenP K S' H' d v -> Q v H') -> t σ H Q
def SF (K:W.Frag) (t:TE) (e:XA):Prop:=∀ ρ σ S H (Q:VK) l,Rl K ρ σ S H -> e ρ = some l -> (∀ a xs S' H',Ext S H S' H' -> H a = none -> S' a = none -> H' a = some (.lst xs) -> Dens K S' l xs -> Q (.ref a) H') -> t σ H Q
def ST (K:W.Frag) (t:TT) (c:XT):Prop:=∀ ρ σ S H (Q:Bool -> Hp -> Prop) b,Rl K ρ σ S H -> c ρ = some b -> (∀ S' H',Ext S H S' H' -> Q b H') -> t σ H Q
def SA (K:W.Frag) (t:TA) (e:XA):Prop:=∀ ρ σ S H (Q:List V -> Hp -> Prop) ds,Rl K ρ σ S H -> e ρ = some ds -> (∀ vs S' H',Ext S H S' H' -> Dens K S' ds vs -> Q vs H') -> t σ H Q
def SAP (K:W.Frag) (t:TA) (e:XA):Prop:=∀ ρ σ S H (Q:List V -> Hp -> Prop) ds,Rl K ρ σ S H -> e ρ = some ds -> (∀ vs S' H',Ext S H S' H' -> DensP K S' H' ds vs -> Q vs H') -> t σ H Q
theorem SE.p {t:TE} {e:XE} (h:SE K t e):SPk K t e:=fun ρ σ S H Q d r x k=>h ρ σ S H Q d r x fun v S' H' z dv=>k v S' H' z (.inl dv)
@[simp] noncomputable def xL (e:XA):XE:=fun ρ=>(e ρ).map D.lst
theorem SF.e {t:TE} {e:XA} (h:SF K t e):SE K t (xL e):=fun ρ σ S H Q d r x k=>by
 unfold xL at x
 cases q:e ρ with
 | none=>rw [q] at x;cases x
 | some l=>
  rw [q] at x
  cases x
  refine h ρ σ S H Q l r q fun a xs S' H' z h1 h2 h3 h4=>?_
  have s2:Same S' (upd S' a (.lst xs)):=fun b u e=>by rw [aF (aL e h2)];exact e
  refine k _ (upd S' a (.lst xs)) H' ⟨z.sh.trans s2,fun b u e=>?_,fun b o e n=>?_⟩ (den_lst.mpr ⟨a,xs,rfl,.inl aB,h4.mono s2⟩)
  ·by_cases hb:b = a
   ·subst hb;rw [aB] at e;cases e;exact h3
   ·rw [aF hb] at e;exact z.sub b u e
  ·obtain ⟨y1,y2⟩:=z.alw b o e n
   exact ⟨y1,by rw [aF (aL e h1)];exact y2⟩
@[simp] noncomputable def am (i:Nat):XE:=fun ρ=>match ρ[i]? with | some (.sh d)=>some d | _=>none
noncomputable def shs:List O -> Option (List D)
 | []=>some []
 | .sh d :: l=>(shs l).map fun r=>d :: r
 | _=>none
theorem rK:∀ l:List D,shs (l.map .sh) = some l
 | []=>rfl
 | d :: l=>by rw [List.map_cons,shs,rK l];rfl
theorem Ak:∀ {os:List O} {l:List D},shs os = some l -> os = l.map .sh
 | [],l,h=>by cases h;rfl
 | o :: os,l,h=>by
  cases o with
  | sh d=>
   have h':(shs os).map (fun r=>d :: r) = some l:=h
   cases q:shs os with
   | none=>rw [q] at h';cases h'
   | some m=>rw [q] at h';cases h';rw [Ak q];rfl
  | lst _=>cases h
  | tup _=>cases h
  | dic _=>cases h
  | hd _ _ _=>cases h
noncomputable def E7:Sl -> Option D
 | .sh d=>some d
 | .ow (.sh d)=>some d
 | .ow (.lst os)=>(shs os).map D.lst
 | _=>none
@[simp] theorem Mi (d:D):E7 (.ow (.sh d)) = some d:=rfl
@[simp] theorem Ml (d:D):E7 (.sh d) = some d:=rfl
@[simp] theorem Mj (l:List D):E7 (.ow (.lst (l.map .sh))) = some (.lst l):=by show (shs _).map D.lst = _;rw [rK];rfl
@[simp] noncomputable def af (i:Nat):XE:=fun ρ=>(ρ[i]?).bind E7
theorem qB (i:Nat):SE K (pS i) (am i):=fun ρ σ S H Q d r x k=>by
 unfold am at x
 split at x
 ·rename_i d' e
  cases x
  obtain ⟨v,h1,h2⟩:=r.sh i _ e
  exact ⟨v,h1,k v S H (Ext.refl r.sub) h2⟩
 ·cases x
theorem gX (i:Nat):SPk K (pS i) (af i):=fun ρ σ S H Q d r x k=>by
 unfold af at x
 cases q:ρ[i]? with
 | none=>rw [q] at x;cases x
 | some s=>
  rw [q] at x
  cases s with
  | un=>cases x
  | lo=>cases x
  | sh d'=>
   cases x
   obtain ⟨v,h1,h2⟩:=r.sh i _ q
   exact ⟨v,h1,k v S H (Ext.refl r.sub) (.inl h2)⟩
  | ow o=>
   cases o with
   | sh d'=>
    cases x
    obtain ⟨v,fp,h1,h2,h3,h4⟩:=r.ow i _ q
    exact ⟨v,h1,k v S H (Ext.refl r.sub) (.inl (own_sh.mp h2).2)⟩
   | tup l=>cases x
   | dic ks=>cases x
   | hd _ _ _=>cases x
   | lst os=>
    have x':(shs os).map D.lst = some d:=x
    cases qs:shs os with
    | none=>rw [qs] at x';cases x'
    | some l=>
     rw [qs] at x'
     cases x'
     have e:=Ak qs
     subst e
     obtain ⟨v,fp,h1,h2,h3,h4⟩:=r.ow i _ q
     obtain ⟨a,xs,f,rfl,rfl,h5,h6⟩:=own_lst.mp h2
     exact ⟨_,h1,k _ S H (Ext.refl r.sub) (.inr ⟨l,a,xs,rfl,rfl,h5,(mL h6).1⟩)⟩
def SQ (K:W.Frag) (t:TE) (e:XE):Prop:=∀ ρ σ S H (Q:VK) d,Rl K ρ σ S H -> e ρ = some d -> (∀ v S' H',Ext S H S' H' -> Den K H' d v -> Q v H') -> t σ H Q
theorem sd   (s:Same S H) (h:DenP K S H d v):Den K H d v:=by
 rcases h with h | ⟨l,p,xs,rfl,rfl,h1,h2⟩
 ·exact h.mono s
 ·exact den_lst.mpr ⟨p,xs,rfl,.inl h1,h2.mono s⟩
theorem SPk.q {t:TE} {e:XE} (h:SPk K t e):SQ K t e:=fun ρ σ S H Q d r x k=>h ρ σ S H Q d r x fun v S' H' z dv=>k v S' H' z (sd z.sub dv)
noncomputable def E8:Sl -> Option D
 | .sh d=>some d
 | .ow o=>some o.d
 | _=>none
@[simp] theorem Lf (d:D):E8 (.sh d) = some d:=rfl
@[simp] theorem Lc (o:O):E8 (.ow o) = some o.d:=rfl
@[simp] noncomputable def oU (i:Nat):XE:=fun ρ=>(ρ[i]?).bind E8
theorem J9 (i:Nat):SQ K (pS i) (oU i):=fun ρ σ S H Q d r x k=>by
 unfold oU at x
 cases q:ρ[i]? with
 | none=>rw [q] at x;cases x
 | some s=>
  rw [q] at x
  cases s with
  | un=>cases x
  | lo=>cases x
  | sh d'=>
   cases x
   obtain ⟨v,h1,h2⟩:=r.sh i _ q
   exact ⟨v,h1,k v S H (Ext.refl r.sub) (h2.mono r.sub)⟩
  | ow o=>
   cases x
   obtain ⟨v,fp,h1,h2,h3,h4⟩:=r.ow i _ q
   exact ⟨_,h1,k _ S H (Ext.refl r.sub) (h2.denH r.sub)⟩
@[simp] noncomputable def xC (d:D):XE:=fun _=>some d
noncomputable def o8:D -> Option V
 | .non=>some .non | .bl b=>some (.bl b) | .int i=>some (.int i) | .str x=>some (.str x) | .ty x=>some (.ty x) | _=>none
theorem nM  {v:V} (h:o8 d = some v):Den K S d v:=by
 cases d <;> simp [o8] at h <;> subst h <;> unfold Den <;> rfl
theorem s_c {v:V}  (h:o8 d = some v):SE K (tC v) (xC d):=fun ρ σ S H Q e r x k=>by
 cases x
 exact k v S H (Ext.refl r.sub) (nM h)
@[simp] noncomputable def xFl (e:XE):XE:=fun ρ=>(e ρ).bind fun d=>if (o8 d).isSome then some d else none
theorem Gv  {w:V} (h:o8 d = some w) (k:Den K S d v):v = w:=by
 cases d <;> simp [o8] at h <;> subst h <;> unfold Den at k <;> exact k
theorem SQ.fl   (h:SQ K t e):SE K t (xFl e):=fun ρ σ S H Q d r x k=>by
 unfold xFl at x
 cases q:e ρ with
 | none=>rw [q] at x;cases x
 | some d'=>
  rw [q] at x
  dsimp only [Option.bind] at x
  split at x
  ·rename_i hf
   cases x
   obtain ⟨w,hw⟩:=Option.isSome_iff_exists.mp hf
   refine h ρ σ S H Q d r q fun v S' H' z dv=>k v S' H' z ?_
   rw [Gv hw dv]
   exact nM hw
  ·cases x
@[simp] noncomputable def xOp (f:D -> D -> Option D) (a b:XE):XE:=fun ρ=>(a ρ).bind fun x=>(b ρ).bind fun y=>f x y
def SR2 (K:W.Frag) (r:R2) (f:D -> D -> Option D):Prop:=∀ S H x y d e g (Q:VK),Same S H -> DenP K S H d x -> DenP K S H e y -> f d e = some g -> (∀ v S' H',Ext S H S' H' -> Den K S' g v -> Q v H') -> r x y H Q
theorem FE   {ta tb:TE}  (hr:SR2 K r f) (ha:SPk K ta a) (hb:SPk K tb b):SE K (tOp r ta tb) (xOp f a b):=fun ρ σ S H Q d r x k=>by
 unfold xOp at x
 cases qa:a ρ with
 | none=>rw [qa] at x;cases x
 | some da=>
  rw [qa] at x
  dsimp only [Option.bind] at x
  cases qb:b ρ with
  | none=>rw [qb] at x;cases x
  | some db=>
   rw [qb] at x
   refine ha ρ σ S H _ da r qa fun v S1 H1 z1 d1=>?_
   have r1:=r.ext z1
   refine hb ρ σ S1 H1 _ db r1 qb fun w S2 H2 z2 d2=>?_
   exact hr S2 H2 v w da db d Q z2.sub (d1.mono z2 r1.sub) d2 x fun u S3 H3 z3 d3=>k u S3 H3 ((z1.trans z2).trans z3) d3
theorem A8 {S2:Hp} (s:Same S H) (z:Ext H H S3 H3):Ext S H S H3:=⟨Same.refl _,fun b u e=>z.sub b u (z.sh b u (s b u e)),fun b o h n=>⟨z.sub b o (z.sh b o h),.inl n⟩⟩
theorem LV   {ta tb:TE}  (hr:SR2 K r f) (ha:SQ K ta a) (hb:SQ K tb b):SQ K (tOp r ta tb) (xOp f a b):=fun ρ σ S H Q d r x k=>by
 unfold xOp at x
 cases qa:a ρ with
 | none=>rw [qa] at x;cases x
 | some da=>
  rw [qa] at x
  dsimp only [Option.bind] at x
  cases qb:b ρ with
  | none=>rw [qb] at x;cases x
  | some db=>
   rw [qb] at x
   refine ha ρ σ S H _ da r qa fun v S1 H1 z1 d1=>?_
   have r1:=r.ext z1
   refine hb ρ σ S1 H1 _ db r1 qb fun w S2 H2 z2 d2=>?_
   exact hr H2 H2 v w da db d Q (Same.refl _) (.inl (d1.mono (z2.same r1.sub))) (.inl d2) x fun u S3 H3 z3 d3=>k u S2 H3 ((z1.trans z2).trans (A8 (S2:=S2) z2.sub z3)) (d3.mono z3.sub)
@[simp] noncomputable def xUn (f:D -> Option D) (a:XE):XE:=fun ρ=>(a ρ).bind f
def SR1 (K:W.Frag) (r:V -> Hp -> VK -> Prop) (f:D -> Option D):Prop:=∀ S H x d g (Q:VK),Same S H -> DenP K S H d x -> f d = some g -> (∀ v S' H',Ext S H S' H' -> Den K S' g v -> Q v H') -> r x H Q
theorem FF   {ta:TE}  (hr:SR1 K r f) (ha:SPk K ta a):SE K (tUn r ta) (xUn f a):=fun ρ σ S H Q d r x k=>by
 unfold xUn at x
 cases qa:a ρ with
 | none=>rw [qa] at x;cases x
 | some da=>
  rw [qa] at x
  refine ha ρ σ S H _ da r qa fun v S1 H1 z1 d1=>?_
  exact hr S1 H1 v da d Q z1.sub d1 x fun u S3 H3 z3 d3=>k u S3 H3 (z1.trans z3) d3
@[simp] noncomputable def aj:XA:=fun _=>some []
@[simp] noncomputable def ab (a:XE) (b:XA):XA:=fun ρ=>(a ρ).bind fun x=>(b ρ).bind fun y=>some (x :: y)
theorem fW:SA K oM aj:=fun ρ σ S H Q ds r x k=>by cases x;exact k [] S H (Ext.refl r.sub) .nil
theorem FO:SAP K oM aj:=fun ρ σ S H Q ds r x k=>by cases x;exact k [] S H (Ext.refl r.sub) .nil
theorem g9    {ds:List D} (x:ab a b ρ = some ds):∃ d r,a ρ = some d /\ b ρ = some r /\ ds = d :: r:=by
 unfold ab at x
 cases qa:a ρ with
 | none=>rw [qa] at x;cases x
 | some da=>
  rw [qa] at x
  dsimp only [Option.bind] at x
  cases qb:b ρ with
  | none=>rw [qb] at x;cases x
  | some db=>rw [qb] at x;cases x;exact ⟨_,_,rfl,rfl,rfl⟩
theorem ba {ta:TE}    (ha:SE K ta a) (hb:SA K tr b):SA K (fh ta tr) (ab a b):=fun ρ σ S H Q ds r x k=>by
 obtain ⟨da,db,qa,qb,rfl⟩:=g9 x
 refine ha ρ σ S H _ da r qa fun v S1 H1 z1 d1=>hb ρ σ S1 H1 _ db (r.ext z1) qb fun vs S2 H2 z2 d2=>k _ S2 H2 (z1.trans z2) (.cons (d1.mono z2.sh) d2)
theorem oG {ta:TE}    (ha:SPk K ta a) (hb:SAP K tr b):SAP K (fh ta tr) (ab a b):=fun ρ σ S H Q ds r x k=>by
 obtain ⟨da,db,qa,qb,rfl⟩:=g9 x
 refine ha ρ σ S H _ da r qa fun v S1 H1 z1 d1=>hb ρ σ S1 H1 _ db (r.ext z1) qb fun vs S2 H2 z2 d2=>k _ S2 H2 (z1.trans z2) (.cons (d1.mono z2 (r.ext z1).sub) d2)
@[irreducible] noncomputable def LIM:Nat:=16000000
theorem iE:LIM < sizeLine:=by rw [sizeLine_eq];unfold LIM;decide
@[simp] noncomputable def aQ (a:XA):XE:=fun ρ=>(a ρ).bind fun l=>if l.length <= LIM then some (.tup l) else none
theorem l7   (h:SA K t a):SE K (Hy t) (aQ a):=fun ρ σ S H Q d r x k=>by
 unfold aQ at x
 cases q:a ρ with
 | none=>rw [q] at x;cases x
 | some l=>
  rw [q] at x
  dsimp only [Option.bind] at x
  split at x
  ·rename_i hl
   cases x
   refine h ρ σ S H _ l r q fun vs S1 H1 z1 d1=>⟨?_,fun p hp=>?_⟩
   ·rw [<- d1.length];exact Nat.le_of_lt (Nat.lt_of_le_of_lt hl iE)
   ·have z2:=Ext.new (o:=.tup vs) z1.sub hp
    exact k _ _ _ (z1.trans z2) (den_tup.mpr ⟨p,vs,rfl,TpA.of aB,d1.mono z2.sh⟩)
  ·cases x
@[simp] noncomputable def pW (a:XA):XA:=fun ρ=>(a ρ).bind fun l=>if l.length <= LIM then some l else none
theorem LS   (h:SA K t a):SF K (Hw t) (pW a):=fun ρ σ S H Q l r x k=>by
 unfold pW at x
 cases q:a ρ with
 | none=>rw [q] at x;cases x
 | some l=>
  rw [q] at x
  dsimp only [Option.bind] at x
  split at x
  ·rename_i hl
   cases x
   refine h ρ σ S H _ l r q fun vs S1 H1 z1 d1=>⟨?_,fun p hp=>?_⟩
   ·rw [<- d1.length];exact Nat.le_of_lt (Nat.lt_of_le_of_lt hl iE)
   ·have hp0:H p = none:=(z1.same r.sub).free hp
    exact k p vs S1 _ (z1.trans (Ext.own z1.sub hp)) hp0 (z1.sub.free hp) aB d1
  ·cases x
@[simp] noncomputable def xCB (f:List D -> Option D) (a:XA):XE:=fun ρ=>(a ρ).bind f
def SRB (K:W.Frag) (r:List V -> Hp -> VK -> Prop) (f:List D -> Option D):Prop:=∀ S H vs ds g (Q:VK),Same S H -> DensP K S H ds vs -> f ds = some g -> (∀ v S' H',Ext S H S' H' -> Den K S' g v -> Q v H') -> r vs H Q
theorem LL     (hr:SRB K r f) (h:SAP K t a):SE K (tCB r t) (xCB f a):=fun ρ σ S H Q d rl x k=>by
 unfold xCB at x
 cases q:a ρ with
 | none=>rw [q] at x;cases x
 | some ds=>
  rw [q] at x
  refine h ρ σ S H _ ds rl q fun vs S1 H1 z1 d1=>?_
  exact hr S1 H1 vs ds d Q z1.sub d1 x fun v S2 H2 z2 d2=>k v S2 H2 (z1.trans z2) d2
@[simp] noncomputable def DA (f:List D -> Option (List D)) (a:XA):XA:=fun ρ=>(a ρ).bind f
def SRF (K:W.Frag) (r:List V -> Hp -> VK -> Prop) (f:List D -> Option (List D)):Prop:=∀ S H vs ds g (Q:VK),Same S H -> DensP K S H ds vs -> f ds = some g -> (∀ a xs H',Ext S H S H' -> H a = none -> H' a = some (.lst xs) -> Dens K S g xs -> Q (.ref a) H') -> r vs H Q
theorem LM     (hr:SRF K r f) (h:SAP K t a):SF K (tCB r t) (DA f a):=fun ρ σ S H Q d rl x k=>by
 unfold DA at x
 cases q:a ρ with
 | none=>rw [q] at x;cases x
 | some ds=>
  rw [q] at x
  refine h ρ σ S H _ ds rl q fun vs S1 H1 z1 d1=>?_
  exact hr S1 H1 vs ds d Q z1.sub d1 x fun b xs H2 z2 h1 h2 d2=>k b xs S1 H2 (z1.trans z2) ((z1.same rl.sub).free h1) (z1.sub.free h1) h2 d2
def STr (K:W.Frag) (t:TE) (e:Env -> Option O):Prop:=∀ ρ σ S H (Q:VK) o,Rl K ρ σ S H -> e ρ = some o -> (∀ v fp S' H',Ext S H S' H' -> Own K S' H' o v fp -> fp.Nodup -> (∀ b ∈ fp,H b = none /\ S' b = none) -> Q v H') -> t σ H Q
@[simp] noncomputable def xLT (e:XA):Env -> Option O:=fun ρ=>(e ρ).map fun l=>.lst (l.map .sh)
theorem SF.t {t:TE} {e:XA} (h:SF K t e):STr K t (xLT e):=fun ρ σ S H Q o r x k=>by
 unfold xLT at x
 cases q:e ρ with
 | none=>rw [q] at x;cases x
 | some l=>
  rw [q] at x
  cases x
  refine h ρ σ S H Q l r q fun a xs S' H' z h1 h2 h3 h4=>?_
  refine k _ [a] S' H' z (own_lst.mpr ⟨a,xs,[],rfl,rfl,h3,rG h4⟩) (by simp) fun b hb=>?_
  rw [List.mem_singleton.mp hb]
  exact ⟨h1,h2⟩
@[simp] noncomputable def xSh (e:XE):Env -> Option O:=fun ρ=>(e ρ).map .sh
theorem SE.t {t:TE} {e:XE} (h:SE K t e):STr K t (xSh e):=fun ρ σ S H Q o r x k=>by
 unfold xSh at x
 cases q:e ρ with
 | none=>rw [q] at x;cases x
 | some d=>
  rw [q] at x
  cases x
  exact h ρ σ S H Q d r q fun v S' H' z dv=>k v [] S' H' z (own_sh.mpr ⟨rfl,dv⟩) .nil fun b hb=>by cases hb
noncomputable def wv (S H:Hp) (fp:List Addr):Hp:=fun b=>if b ∈ fp then H b else S b
theorem rA {fp:List Addr} {b:Addr} (h:b ∈ fp):wv S H fp b = H b:=by unfold wv;rw [if_pos h]
theorem j4 {fp:List Addr} {b:Addr} (h:b ∉ fp):wv S H fp b = S b:=by unfold wv;rw [if_neg h]
theorem kP {fp:List Addr} (n:∀ b ∈ fp,S b = none):Same S (wv S H fp):=fun b o e=>by
 rw [j4 fun hb=>by rw [n b hb] at e;cases e]
 exact e
theorem ya {fp:List Addr} (s:Same S H):Same (wv S H fp) H:=fun b o e=>by
 by_cases hb:b ∈ fp
 ·rw [rA hb] at e;exact e
 ·rw [j4 hb] at e;exact s b o e
theorem xZ {fp:List Addr} (z:Ext S H S' H') (n:∀ b ∈ fp,H b = none /\ S' b = none):Ext S H (wv S' H' fp) H':=
 ⟨z.sh.trans (kP fun b hb=>(n b hb).2),ya z.sub,fun b o h hn=>⟨(z.alw b o h hn).1,by rw [j4 fun hb=>by rw [(n b hb).1] at h;cases h];exact (z.alw b o h hn).2⟩⟩
@[simp] noncomputable def xOD (e:Env -> Option O):XE:=fun ρ=>(e ρ).map O.d
theorem STr.e {t:TE} {e:Env -> Option O} (h:STr K t e):SE K t (xOD e):=fun ρ σ S H Q d r x k=>by
 unfold xOD at x
 cases q:e ρ with
 | none=>rw [q] at x;cases x
 | some o=>
  rw [q] at x
  cases x
  exact h ρ σ S H Q o r q fun v fp S' H' z ow nd n=>k v _ H' (xZ z n) (ow.den (kP fun b hb=>(n b hb).2) fun b hb=>rA hb)
noncomputable def bW (K:W.Frag) (n:Nat) (m:List D -> Option O):Sp:=fun vs H Q _=>vs.length = n /\ ∃ S ds o,Same S H /\ Dens K S ds vs /\ m ds = some o /\ ∀ v fp S' H',Ext S H S' H' -> Own K S' H' o v fp -> fp.Nodup -> (∀ b ∈ fp,H b = none /\ S' b = none) -> Q v H'
@[simp] noncomputable def AR (m:List D -> Option O) (a:XA):Env -> Option O:=fun ρ=>(a ρ).bind m
theorem Hf {n:Nat}     (h:SA K t a) (hn:∀ ρ ds,a ρ = some ds -> ds.length = n):STr K (oJ (bW K n m) [] E t) (AR m a):=fun ρ σ S H Q o rl x k=>by
 unfold AR at x
 cases q:a ρ with
 | none=>rw [q] at x;cases x
 | some ds=>
  rw [q] at x
  refine h ρ σ S H _ ds rl q fun vs S1 H1 z1 d1=>?_
  rw [List.append_nil]
  refine ⟨by rw [<- d1.length];exact hn ρ ds q,S1,ds,o,z1.sub,d1,x,fun v fp S2 H2 z2 ow nd n=>k v fp S2 H2 (z1.trans z2) ow nd fun b hb=>⟨(z1.same rl.sub).free (n b hb).1,(n b hb).2⟩⟩
@[simp] noncomputable def av (m:List D -> Option D) (a:XA):XE:=fun ρ=>(a ρ).bind m
theorem AA {n:Nat}     (h:SA K t a) (hn:∀ ρ ds,a ρ = some ds -> ds.length = n):SE K (oJ (bW K n m) [] E t) (av (fun ds=>(m ds).map O.d) a):=by
 have:=(Hf (m:=m) (E:=E) h hn).e
 have e:xOD (AR m a) = av (fun ds=>(m ds).map O.d) a:=by
  funext ρ
  show ((a ρ).bind m).map O.d = (a ρ).bind fun ds=>(m ds).map O.d
  cases a ρ <;> rfl
 rw [e] at this
 exact this
def SAQ (K:W.Frag) (t:TA) (e:XA):Prop:=∀ ρ σ S H (Q:List V -> Hp -> Prop) ds,Rl K ρ σ S H -> e ρ = some ds -> (∀ vs S' H',Ext S H S' H' -> Dens K H' ds vs -> Q vs H') -> t σ H Q
theorem Ke:SAQ K oM aj:=fun ρ σ S H Q ds r x k=>by cases x;exact k [] S H (Ext.refl r.sub) .nil
theorem Hn {ta:TE}    (ha:SQ K ta a) (hb:SAQ K tr b):SAQ K (fh ta tr) (ab a b):=fun ρ σ S H Q ds r x k=>by
 obtain ⟨da,db,qa,qb,rfl⟩:=g9 x
 refine ha ρ σ S H _ da r qa fun v S1 H1 z1 d1=>hb ρ σ S1 H1 _ db (r.ext z1) qb fun vs S2 H2 z2 d2=>k _ S2 H2 (z1.trans z2) (.cons (d1.mono (z2.same (r.ext z1).sub)) d2)
@[simp] noncomputable def Nn (m:List D -> Option D) (a:XA):XE:=fun ρ=>((a ρ).bind m).bind fun d=>if (o8 d).isSome then some d else none
theorem LN     (hr:SRB K r f) (h:SAQ K t a):SQ K (tCB r t) (xCB f a):=fun ρ σ S H Q d rl x k=>by
 unfold xCB at x
 cases q:a ρ with
 | none=>rw [q] at x;cases x
 | some ds=>
  rw [q] at x
  refine h ρ σ S H _ ds rl q fun vs S1 H1 z1 d1=>?_
  have dp:DensP K H1 H1 ds vs:=by
   clear q x
   revert d1
   induction ds generalizing vs with
   | nil=>intro d1;rw [d1.nil_of];exact .nil
   | cons d ds ih=>
    intro d1
    obtain ⟨y,ys,rfl,e1,e2⟩:=d1.cons_of
    exact .cons (.inl e1) (ih ys e2)
  exact hr H1 H1 vs ds d Q (Same.refl _) dp x fun v S2 H2 z2 d2=>k v S1 H2 (z1.trans (A8 (S2:=S1) z1.sub z2)) (d2.mono z2.sub)
def SAT (K:W.Frag) (t:TA) (e:Env -> Option (List O)):Prop:=∀ ρ σ S H (Q:List V -> Hp -> Prop) os,Rl K ρ σ S H -> e ρ = some os -> (∀ vs fp S' H',Ext S H S' H' -> Owns K S' H' os vs fp -> fp.Nodup -> (∀ b ∈ fp,H b = none /\ S' b = none) -> Q vs H') -> t σ H Q
@[simp] noncomputable def zk:Env -> Option (List O):=fun _=>some []
@[simp] noncomputable def nj (a:Env -> Option O) (b:Env -> Option (List O)):Env -> Option (List O):=fun ρ=>(a ρ).bind fun x=>(b ρ).bind fun y=>some (x :: y)
theorem Kf:SAT K oM zk:=fun ρ σ S H Q ds r x k=>by cases x;exact k [] [] S H (Ext.refl r.sub) .nil .nil fun _ hb=>by cases hb
theorem Ho {ta:TE}    (ha:STr K ta a) (hb:SAT K tr b):SAT K (fh ta tr) (nj a b):=fun ρ σ S H Q os r x k=>by
 unfold nj at x
 cases qa:a ρ with
 | none=>rw [qa] at x;cases x
 | some oa=>
  rw [qa] at x
  dsimp only [Option.bind] at x
  cases qb:b ρ with
  | none=>rw [qb] at x;cases x
  | some ob=>
   rw [qb] at x
   cases x
   refine ha ρ σ S H _ oa r qa fun v fp S1 H1 z1 o1 nd1 n1=>hb ρ σ S1 H1 _ ob (r.ext z1) qb fun vs fq S2 H2 z2 o2 nd2 n2=>?_
   obtain ⟨k1,k2⟩:=z2.keeps (fun b hb=>(n1 b hb).2) o1.there o1.nit
   refine k _ _ S2 H2 (z1.trans z2) (.cons (o1.mono z2.sh k1) o2) ?_ fun c hc=>?_
   ·refine List.nodup_append.mpr ⟨nd1,nd2,fun c hc d hd e=>?_⟩
    subst e
    exact o1.there c hc (n2 c hd).1
   ·rcases List.mem_append.mp hc with hc | hc
    ·exact ⟨(n1 c hc).1,k2 c hc⟩
    ·exact ⟨(z1.same r.sub).free (n2 c hc).1,(n2 c hc).2⟩
@[simp] noncomputable def jb:List O -> Bool
 | []=>true
 | .sh (.int _) :: l=>jb l
 | .hd _ _ _ :: l=>jb l
 | _ :: _=>false
@[simp] noncomputable def BV (a:Env -> Option (List O)):Env -> Option O:=fun ρ=>(a ρ).bind fun l=>if l.length <= LIM /\ jb l = false then some (.tup l) else none
theorem zJ {d:D} {k:Int} (h:Den K S d (.int k)):d = .int k:=by
 cases d <;> unfold Den at h <;> first | (cases h;rfl) | (cases h;done) | (obtain ⟨_,h,_⟩:=h;cases h;done) | (obtain ⟨_,_,h,_⟩:=h;cases h;done) | (obtain ⟨_,_,_,h,_⟩:=h;cases h;done) | (obtain ⟨_,_,_,_,h,_⟩:=h;cases h;done)
theorem yI:∀ {l:List O} {xs:List V} {fp:List Addr} {ks:List Int},Owns K S H l xs fp -> xs = ks.map V.int -> jb l = true
 | [],_,_,_,_,_=>rfl
 | o :: l,_,_,ks,h,e=>by
  obtain ⟨y,ys,f,g,rfl,rfl,a,b⟩:=h.cons_of
  cases ks with
  | nil=>cases e
  | cons k ks=>
   rw [List.map_cons] at e
   cases e
   have ih:=yI b rfl
   cases o with
   | sh d=>
    obtain ⟨_,d1⟩:=own_sh.mp a
    have:d = .int k:=zJ d1
    subst this
    unfold jb
    exact ih
   | lst _=>obtain ⟨_,_,_,e,_⟩:=own_lst.mp a;cases e
   | tup _=>obtain ⟨_,_,_,e,_⟩:=own_tup.mp a;cases e
   | dic _=>obtain ⟨_,e,_⟩:=own_dic.mp a;cases e
   | hd p q os=>
    unfold jb
    exact ih
@[simp] noncomputable def BQ (a:Env -> Option (List O)):Env -> Option O:=fun ρ=>(a ρ).bind fun l=>if l.length <= LIM then some (.lst l) else none
theorem vT {fp:List Addr}   (h:H p = none) (t:∀ b ∈ fp,H b ≠ none):(∀ b ∈ fp,upd H p o b = H b) /\ p ∉ fp:=by
 have np:p ∉ fp:=fun hp=>t p hp h
 exact ⟨fun b hb=>aF fun e=>np (e ▸ hb),np⟩
theorem J8   (h:SAT K t a):STr K (Hy t) (BV a):=fun ρ σ S H Q o r x k=>by
 unfold BV at x
 cases q:a ρ with
 | none=>rw [q] at x;cases x
 | some l=>
  rw [q] at x
  dsimp only [Option.bind] at x
  split at x
  ·rename_i hlc
   obtain ⟨hl,hc⟩:=hlc
   cases x
   refine h ρ σ S H _ l r q fun vs fp S1 H1 z1 o1 nd1 n1=>⟨?_,fun p hp=>?_⟩
   ·rw [<- o1.length];exact Nat.le_of_lt (Nat.lt_of_le_of_lt hl iE)
   ·obtain ⟨k1,k2⟩:=vT (o:=.tup vs) hp o1.there
    have nit:¬ IT (.tup vs):=fun hpt0=>by
     obtain ⟨ks,e⟩:=hpt0
     cases e
     rw [yI o1 rfl] at hc
     cases hc
    refine k _ (p :: fp) S1 _ (z1.trans (Ext.own z1.sub hp)) (own_tup.mpr ⟨p,vs,fp,rfl,rfl,⟨aB,nit⟩,o1.mono (Same.refl _) k1⟩) (List.nodup_cons.mpr ⟨k2,nd1⟩) fun b hb=>?_
    rcases List.mem_cons.mp hb with rfl | hb
    ·exact ⟨(z1.same r.sub).free hp,z1.sub.free hp⟩
    ·exact n1 b hb
  ·cases x
theorem JV   (h:SAT K t a):STr K (Hw t) (BQ a):=fun ρ σ S H Q o r x k=>by
 unfold BQ at x
 cases q:a ρ with
 | none=>rw [q] at x;cases x
 | some l=>
  rw [q] at x
  dsimp only [Option.bind] at x
  split at x
  ·rename_i hl
   cases x
   refine h ρ σ S H _ l r q fun vs fp S1 H1 z1 o1 nd1 n1=>⟨?_,fun p hp=>?_⟩
   ·rw [<- o1.length];exact Nat.le_of_lt (Nat.lt_of_le_of_lt hl iE)
   ·obtain ⟨k1,k2⟩:=vT (o:=.lst vs) hp o1.there
    refine k _ (p :: fp) S1 _ (z1.trans (Ext.own z1.sub hp)) (own_lst.mpr ⟨p,vs,fp,rfl,rfl,aB,o1.mono (Same.refl _) k1⟩) (List.nodup_cons.mpr ⟨k2,nd1⟩) fun b hb=>?_
    rcases List.mem_cons.mp hb with rfl | hb
    ·exact ⟨(z1.same r.sub).free hp,z1.sub.free hp⟩
    ·exact n1 b hb
  ·cases x
theorem wC  {ds:List D} (h:aj ρ = some ds):ds.length = 0:=by cases h;rfl
theorem sO  {b:XA} {n:Nat} (h:∀ ρ ds,b ρ = some ds -> ds.length = n) (ρ:Env) (ds:List D) (x:ab a b ρ = some ds):ds.length = n + 1:=by
 obtain ⟨da,db,qa,qb,rfl⟩:=g9 x
 rw [List.length_cons,h ρ db qb]
@[simp] noncomputable def F4 (a b:XE):XE:=fun ρ=>(a ρ).bind fun x=>match x with | .bl true=>b ρ | .bl false=>some (.bl false) | _=>none
@[simp] noncomputable def O9 (a b:XE):XE:=fun ρ=>(a ρ).bind fun x=>match x with | .bl true=>some (.bl true) | .bl false=>b ρ | _=>none
@[simp] noncomputable def Oj (a:XE):XE:=fun ρ=>(a ρ).bind fun x=>match x with | .bl c=>some (.bl (!c)) | _=>none
theorem JN {ta tb:TE}  (ha:SPk K ta a) (hb:SE K tb b):SE K (FQ ta tb) (F4 a b):=fun ρ σ S H Q d r x k=>by
 unfold F4 at x
 cases qa:a ρ with
 | none=>rw [qa] at x;cases x
 | some da=>
  rw [qa] at x
  dsimp only [Option.bind] at x
  refine ha ρ σ S H _ da r qa fun v S1 H1 z1 d1=>?_
  split at x
  ·exact ⟨true,d1.bl,CD (hb ρ σ S1 H1 Q d (r.ext z1) x fun w S2 H2 z2 d2=>k w S2 H2 (z1.trans z2) d2)⟩
  ·cases x
   exact ⟨false,d1.bl,CC (k _ S1 H1 z1 (den_bl.mpr rfl))⟩
  ·cases x
@[simp] noncomputable def O3 (c:XT) (a b:XE):XE:=fun ρ=>(c ρ).bind fun q=>if q = true then a ρ else b ρ
@[simp] noncomputable def xB (a:XE):XT:=fun ρ=>(a ρ).bind fun x=>match x with | .bl c=>some c | _=>none
theorem s_b {ta:TE}  (ha:SPk K ta a):ST K (tB ta) (xB a):=fun ρ σ S H Q b r x k=>by
 unfold xB at x
 cases qa:a ρ with
 | none=>rw [qa] at x;cases x
 | some da=>
  rw [qa] at x
  dsimp only [Option.bind] at x
  refine ha ρ σ S H _ da r qa fun v S1 H1 z1 d1=>?_
  split at x
  ·cases x
   exact ⟨_,d1.bl,k S1 H1 z1⟩
  ·cases x
theorem wT {ta:TE}  (ha:SPk K ta a):ST K (BI ta) (xB a):=s_b ha
noncomputable def zf:D -> Option Bool
 | .non=>some false
 | .bl b=>some b
 | .int i=>some (i != 0)
 | .str y=>if y.length <= LIM then some ((y.length:Int) != 0) else none
 | .lst l=>some (!l.isEmpty)
 | .tup l=>some (!l.isEmpty)
 | .scr l=>some (!l.isEmpty)
 | _=>none
theorem mm {ds:List D} {xs:List V} (h:Dens K S ds xs):(!ds.isEmpty) = !xs.isEmpty:=by
 have:=h.length
 cases ds <;> cases xs <;> simp_all
@[simp] noncomputable def uk (a:XE):XT:=fun ρ=>(a ρ).bind zf
theorem Kp   {b:Bool} (s:Same S H) (h:DenP K S H d v) (x:zf d = some b):Gc K v H b:=by
 cases d with
 | non=>rw [h.non];cases x;rfl
 | bl c=>rw [h.bl];cases x;rfl
 | int i=>rw [h.int];cases x;rfl
 | str y=>
  rw [h.str]
  have x':(if y.length <= LIM then some ((y.length:Int) != 0) else none) = some b:=x
  split at x'
  ·rename_i hl;cases x';exact ⟨Nat.le_of_lt (Nat.lt_of_le_of_lt hl iE),rfl⟩
  ·cases x'
 | lst l=>
  obtain ⟨p,xs,rfl,h1,h2⟩:=h.lst s
  cases x
  exact .inl ⟨xs,.inl h1,mm h2⟩
 | tup l=>
  obtain ⟨p,xs,rfl,h1,h2⟩:=h.tup s
  cases x
  exact .inr (.inl ⟨xs,h1,mm h2⟩)
 | scr l=>
  obtain ⟨p,xs,rfl,h1,h2⟩:=h.scr s
  cases x
  exact .inl ⟨xs,h1,mm h2⟩
 | _=>cases x
end
section
variable {K:W.Frag} {S S' H H':Hp}
@[simp] noncomputable def rk (a b:XT):XT:=fun ρ=>(a ρ).bind fun x=>if x = true then b ρ else some false
@[simp] noncomputable def xOr (a b:XT):XT:=fun ρ=>(a ρ).bind fun x=>if x = true then some true else b ρ
@[simp] noncomputable def xh (a:XT):XT:=fun ρ=>(a ρ).map fun x=>!x
theorem LH {ta tb:TT}  (ha:ST K ta a) (hb:ST K tb b):ST K (Kj ta tb) (rk a b):=fun ρ σ S H Q d r x k=>by
 unfold rk at x
 cases qa:a ρ with
 | none=>rw [qa] at x;cases x
 | some q=>
  rw [qa] at x
  dsimp only [Option.bind] at x
  refine ha ρ σ S H _ q r qa fun S1 H1 z1=>?_
  cases q with
  | true=>exact CD (hb ρ σ S1 H1 Q d (r.ext z1) (by simpa using x) fun S2 H2 z2=>k S2 H2 (z1.trans z2))
  | false=>
   have:d = false:=by simpa using x.symm
   subst this
   exact CC (k S1 H1 z1)
theorem MP {ta tb:TT}  (ha:ST K ta a) (hb:ST K tb b):ST K (tOr ta tb) (xOr a b):=fun ρ σ S H Q d r x k=>by
 unfold xOr at x
 cases qa:a ρ with
 | none=>rw [qa] at x;cases x
 | some q=>
  rw [qa] at x
  dsimp only [Option.bind] at x
  refine ha ρ σ S H _ q r qa fun S1 H1 z1=>?_
  cases q with
  | false=>exact CC (hb ρ σ S1 H1 Q d (r.ext z1) (by simpa using x) fun S2 H2 z2=>k S2 H2 (z1.trans z2))
  | true=>
   have:d = true:=by simpa using x.symm
   subst this
   exact CD (k S1 H1 z1)
theorem LU {ta:TT}  (ha:ST K ta a):ST K (Ko ta) (xh a):=fun ρ σ S H Q d r x k=>by
 unfold xh at x
 cases qa:a ρ with
 | none=>rw [qa] at x;cases x
 | some q=>
  rw [qa] at x
  cases x
  exact ha ρ σ S H _ q r qa k
inductive Out where
 | nx (ρ:Env) | rt (d:D) | ro (o:O) | bk (ρ:Env) | ct (ρ:Env)
noncomputable abbrev XS:=Env -> Option Out
noncomputable def Done (K:W.Frag) (A:Hp) (Λ:Nat -> Option Addr) (S:Hp) (E:Ends):Out -> Prop
 | .nx ρ=>∀ σ' S' H',RlA K A Λ ρ σ' S' H' -> Same S S' -> E.nx σ' H'
 | .bk ρ=>∀ σ' S' H',RlA K A Λ ρ σ' S' H' -> Same S S' -> E.bk σ' H'
 | .ct ρ=>∀ σ' S' H',RlA K A Λ ρ σ' S' H' -> Same S S' -> E.ct σ' H'
 | .rt d=>∀ v S' H',Same S S' -> Same S' H' -> Same A H' -> (∀ b,S' b = none \/ A b = none \/ ∃ u,A b = some u /\ IT u) -> Den K S' d v -> E.rt v H'
 | .ro o=>∀ v fp S' H',Same S S' -> Same S' H' -> Same A H' -> (∀ b,S' b = none \/ A b = none \/ ∃ u,A b = some u /\ IT u) -> Own K S' H' o v fp -> fp.Nodup -> (∀ b ∈ fp,S' b = none /\ A b = none) -> E.rt v H'
theorem Done.mono     (s:Same S S') (h:Done K A Λ S E o):Done K A Λ S' E o:=by
 cases o with
 | nx ρ=>exact fun σ1 S1 H1 r z=>h σ1 S1 H1 r (s.trans z)
 | bk ρ=>exact fun σ1 S1 H1 r z=>h σ1 S1 H1 r (s.trans z)
 | ct ρ=>exact fun σ1 S1 H1 r z=>h σ1 S1 H1 r (s.trans z)
 | rt d=>exact fun v S1 H1 z=>h v S1 H1 (s.trans z)
 | ro d=>exact fun v fp S1 H1 z=>h v fp S1 H1 (s.trans z)
def SS (K:W.Frag) (t:TS) (m:XS):Prop:=∀ A Λ ρ σ S H (E:Ends) o,RlA K A Λ ρ σ S H -> m ρ = some o -> Done K A Λ S E o -> t E σ H
@[simp] noncomputable def dZ:XS:=fun ρ=>some (.nx ρ)
theorem JY:SS K BH dZ:=fun A Λ ρ σ S H E o r x k=>by cases x;exact k σ S H r (Same.refl _)
@[simp] noncomputable def Nm:XS:=fun ρ=>some (.bk ρ)
@[simp] noncomputable def N8:XS:=fun ρ=>some (.ct ρ)
@[simp] noncomputable def Nw:XS:=fun _=>none
@[simp] noncomputable def aH (m n:XS):XS:=fun ρ=>match m ρ with | some (.nx ρ')=>n ρ' | o=>o
theorem LX   (ht:SS K t m) (hu:SS K u n):SS K (Hx t u) (aH m n):=fun A Λ ρ σ S H E o r x k=>by
 unfold aH at x
 cases q:m ρ with
 | none=>rw [q] at x;cases x
 | some om=>
  rw [q] at x
  refine ht A Λ ρ σ S H _ om r q ?_
  cases om with
  | nx ρ'=>exact fun σ' S' H' r' z=>hu A Λ ρ' σ' S' H' E o r' x (k.mono z)
  | rt d=>cases x;exact k
  | ro d=>cases x;exact k
  | bk d=>cases x;exact k
  | ct d=>cases x;exact k
@[simp] noncomputable def a8 (e:XE):XS:=fun ρ=>(e ρ).map .rt
theorem LW {te:TE}  (h:SE K te e):SS K (FW te) (a8 e):=fun A Λ ρ σ S H E o r x k=>by
 unfold a8 at x
 cases q:e ρ with
 | none=>rw [q] at x;cases x
 | some d=>
  rw [q] at x
  cases x
  refine h ρ σ S H _ d r.toRl q fun v S1 H1 z1 d1=>?_
  have r1:=r.ext z1
  exact k v S1 H1 z1.sh z1.sub r1.asub r1.adis d1
@[simp] noncomputable def BS (e:Env -> Option O):XS:=fun ρ=>(e ρ).map .ro
theorem J4 {te:TE}  (h:STr K te e):SS K (FW te) (BS e):=fun A Λ ρ σ S H E o r x k=>by
 unfold BS at x
 cases q:e ρ with
 | none=>rw [q] at x;cases x
 | some ot=>
  rw [q] at x
  cases x
  refine h ρ σ S H _ ot r.toRl q fun v fp S1 H1 z1 o1 nd n=>?_
  have r1:=r.ext z1
  exact k v fp S1 H1 z1.sh z1.sub r1.asub r1.adis o1 nd fun b hb=>⟨(n b hb).2,r.asub.free (n b hb).1⟩
@[simp] noncomputable def F7 (i:Nat):XS:=fun ρ=>match ρ[i]? with | some (.sh d)=>some (.rt d) | some (.ow o)=>some (.ro o) | _=>none
theorem J5 (i:Nat):SS K (FW (pS i)) (F7 i):=fun A Λ ρ σ S H E o r x k=>by
 unfold F7 at x
 cases q:ρ[i]? with
 | none=>rw [q] at x;cases x
 | some s=>
  rw [q] at x
  obtain ⟨Φ,f⟩:=r
  cases s with
  | un=>cases x
  | lo=>cases x
  | sh d=>
   cases x
   obtain ⟨v,h1,h2⟩:=f.sh i d q
   exact ⟨v,h1,k v S H (Same.refl _) f.sub f.asub f.adis h2⟩
  | ow ot=>
   cases x
   obtain ⟨v,h1,h2,h3,h4⟩:=f.ow i ot q
   exact ⟨v,h1,k v _ S H (Same.refl _) f.sub f.asub f.adis h2 h3 h4⟩
@[simp] noncomputable def Op:XS:=fun _=>some (.rt .non)
@[simp] noncomputable def xIf (c:XT) (m n:XS):XS:=fun ρ=>(c ρ).bind fun b=>if b = true then m ρ else n ρ
theorem MO {tc:TT}    (hc:ST K tc c) (ht:SS K t m) (hu:SS K u n):SS K (Hv tc t u) (xIf c m n):=fun A Λ ρ σ S H E o r x k=>by
 unfold xIf at x
 cases qc:c ρ with
 | none=>rw [qc] at x;cases x
 | some q=>
  rw [qc] at x
  dsimp only [Option.bind] at x
  refine hc ρ σ S H _ q r.toRl qc fun S1 H1 z1=>?_
  cases q with
  | true=>exact CD (ht A Λ ρ σ S1 H1 E o (r.ext z1) (by simpa using x) (k.mono z1.sh))
  | false=>exact CC (hu A Λ ρ σ S1 H1 E o (r.ext z1) (by simpa using x) (k.mono z1.sh))
theorem b5 {α:Type} {l:List α} {i j:Nat} {x y:α} (h:(l.set i x)[j]? = some y):(i = j /\ y = x /\ i < l.length) \/ (i ≠ j /\ l[j]? = some y):=by
 by_cases hij:i = j
 ·subst hij
  have hl:=(List.getElem?_eq_some_iff.mp h).1
  rw [List.length_set] at hl
  rw [List.getElem?_set_self hl] at h
  exact .inl ⟨rfl,(Option.some.inj h).symm,hl⟩
 ·rw [List.getElem?_set_ne hij] at h
  exact .inr ⟨hij,h⟩
theorem RlF.set        (r:RlF K A Λ Φ ρ σ S H) (i:Nat) (h:Den K S d v):RlF K A Λ Φ (ρ.set i (.sh d)) (σ.set i (some v)) S H where
 len:=by rw [List.length_set,List.length_set];exact r.len
 sub:=r.sub
 sh:=fun j e hj=>by
  rcases b5 hj with ⟨rfl,e,hl⟩ | ⟨hij,hj⟩
  ·cases e
   exact ⟨v,List.getElem?_set_self (by rw [r.len];exact hl),h⟩
  ·rw [List.getElem?_set_ne hij]
   exact r.sh j e hj
 ow:=fun j o hj=>by
  rcases b5 hj with ⟨rfl,e,hl⟩ | ⟨hij,hj⟩
  ·cases e
  ·rw [List.getElem?_set_ne hij]
   exact r.ow j o hj
 dj:=fun j k o o' hjk h1 h2=>by
  rcases b5 h1 with ⟨rfl,e,hl⟩ | ⟨hij,h1⟩
  ·cases e
  ·rcases b5 h2 with ⟨rfl,e,hl⟩ | ⟨hik,h2⟩
   ·cases e
   ·exact r.dj j k o o' hjk h1 h2
 lo:=fun j hj=>by
  rcases b5 hj with ⟨rfl,e,hl⟩ | ⟨hij,hj⟩
  ·cases e
  ·rw [List.getElem?_set_ne hij]
   exact r.lo j hj
 asub:=r.asub
 adis:=r.adis
theorem RlA.set       (r:RlA K A Λ ρ σ S H) (i:Nat) (h:Den K S d v):RlA K A Λ (ρ.set i (.sh d)) (σ.set i (some v)) S H:=let ⟨Φ,f⟩:=r;⟨Φ,f.set i h⟩
theorem RlF.put        {fp:List Addr} (r:RlF K A Λ Φ ρ σ S H) (i:Nat) (sub:Same S H') (asub:Same A H') (ow:Own K S H' o v fp) (nd:fp.Nodup) (n:∀ b ∈ fp,S b = none /\ A b = none)
  (keep:∀ (j:Nat) o',j ≠ i -> ρ[j]? = some (.ow o') -> ∀ b ∈ Φ j,H' b = H b /\ b ∉ fp):RlF K A Λ (fun j=>if j = i then fp else Φ j) (ρ.set i (.ow o)) (σ.set i (some v)) S H' where
 len:=by rw [List.length_set,List.length_set];exact r.len
 sub:=sub
 sh:=fun j e hj=>by
  rcases b5 hj with ⟨rfl,e,hl⟩ | ⟨hij,hj⟩
  ·cases e
  ·rw [List.getElem?_set_ne hij]
   exact r.sh j e hj
 ow:=fun j o' hj=>by
  rcases b5 hj with ⟨rfl,e,hl⟩ | ⟨hij,hj⟩
  ·cases e
   rw [if_pos rfl]
   exact ⟨v,List.getElem?_set_self (by rw [r.len];exact hl),ow,nd,n⟩
  ·rw [List.getElem?_set_ne hij,if_neg (Ne.symm hij)]
   obtain ⟨w,h1,h2,h3,h4⟩:=r.ow j o' hj
   exact ⟨w,h1,h2.mono (Same.refl _) fun b hb=>(keep j o' (Ne.symm hij) hj b hb).1,h3,h4⟩
 dj:=fun j k o1 o2 hjk h1 h2 b hb hb2=>by
  rcases b5 h1 with ⟨rfl,e,hl⟩ | ⟨hij,h1⟩
  ·rcases b5 h2 with ⟨rfl,e,hl⟩ | ⟨hik,h2⟩
   ·exact hjk rfl
   ·rw [if_pos rfl] at hb
    rw [if_neg (Ne.symm hik)] at hb2
    exact (keep k o2 (Ne.symm hik) h2 b hb2).2 hb
  ·rcases b5 h2 with ⟨rfl,e,hl⟩ | ⟨hik,h2⟩
   ·rw [if_pos rfl] at hb2
    rw [if_neg (Ne.symm hij)] at hb
    exact (keep j o1 (Ne.symm hij) h1 b hb).2 hb2
   ·rw [if_neg (Ne.symm hij)] at hb
    rw [if_neg (Ne.symm hik)] at hb2
    exact r.dj j k o1 o2 hjk h1 h2 b hb hb2
 lo:=fun j hj=>by
  rcases b5 hj with ⟨rfl,e,hl⟩ | ⟨hij,hj⟩
  ·cases e
  ·rw [List.getElem?_set_ne hij]
   exact r.lo j hj
 asub:=asub
 adis:=r.adis
theorem FH {α:Type} {l:List α} {i:Nat} {x:α} (h:l[i]? = some x):l.set i x = l:=by
 apply List.ext_getElem?
 intro j
 by_cases e:i = j
 ·subst e
  rw [List.getElem?_set_self (List.getElem?_eq_some_iff.mp h).1,h]
 ·rw [List.getElem?_set_ne e]
noncomputable def frz (i:Nat) (ρ:Env):Env:=match ρ[i]? with | some (.ow o)=>ρ.set i (.sh o.d) | _=>ρ
theorem RlA.frz     (r:RlA K A Λ ρ σ S H) (i:Nat):∃ S',Same S S' /\ RlA K A Λ (frz i ρ) σ S' H:=by
 unfold M.frz
 cases q:ρ[i]? with
 | none=>exact ⟨S,Same.refl _,r⟩
 | some s=>
  cases s with
  | un=>exact ⟨S,Same.refl _,r⟩
  | lo=>exact ⟨S,Same.refl _,r⟩
  | sh d=>exact ⟨S,Same.refl _,r⟩
  | ow o=>
   dsimp only
   obtain ⟨Φ,f⟩:=r
   obtain ⟨v,h1,h2,h3,h4⟩:=f.ow i o q
   have s2:Same S (wv S H (Φ i)):=kP fun b hb=>(h4 b hb).1
   have hd:Den K (wv S H (Φ i)) o.d v:=h2.den s2 fun b hb=>rA hb
   refine ⟨_,s2,Φ,?_⟩
   exact {
    len:=by rw [List.length_set];exact f.len
    sub:=ya f.sub
    sh:=fun j d hj=>by
     rcases b5 hj with ⟨rfl,e,hl⟩ | ⟨hij,hj⟩
     ·cases e
      exact ⟨v,h1,hd⟩
     ·obtain ⟨w,k1,k2⟩:=f.sh j d hj
      exact ⟨w,k1,k2.mono s2⟩
    ow:=fun j o' hj=>by
     rcases b5 hj with ⟨rfl,e,hl⟩ | ⟨hij,hj⟩
     ·cases e
     ·obtain ⟨w,k1,k2,k3,k4⟩:=f.ow j o' hj
      exact ⟨w,k1,k2.mono s2 fun _ _=>rfl,k3,fun b hb=>⟨by rw [j4 fun hi=>f.dj i j o o' hij q hj b hi hb];exact (k4 b hb).1,(k4 b hb).2⟩⟩
    dj:=fun j k o1 o2 hjk g1 g2=>by
     rcases b5 g1 with ⟨rfl,e,hl⟩ | ⟨hij,g1⟩
     ·cases e
     ·rcases b5 g2 with ⟨rfl,e,hl⟩ | ⟨hik,g2⟩
      ·cases e
      ·exact f.dj j k o1 o2 hjk g1 g2
    lo:=fun j hj=>by
     rcases b5 hj with ⟨rfl,e,hl⟩ | ⟨hij,hj⟩
     ·cases e
     ·exact f.lo j hj
    asub:=f.asub
    adis:=fun b=>by
     by_cases hb:b ∈ Φ i
     ·exact .inr (.inl (h4 b hb).2)
     ·rw [j4 hb];exact f.adis b }
@[simp] noncomputable def AS (i:Nat) (m:XS):XS:=fun ρ=>m (frz i ρ)
theorem LQ   (i:Nat) (h:SS K t m):SS K t (AS i m):=fun A Λ ρ σ S H E o r x k=>by
 obtain ⟨S',s,r'⟩:=r.frz i
 exact h A Λ _ σ S' H E o r' x (k.mono s)
noncomputable abbrev XG:=D -> Env -> Option Env
noncomputable abbrev XGs:=List D -> Env -> Option Env
def SG (K:W.Frag) (g:TG) (x:XG):Prop:=∀ A Λ ρ σ S H v d (Q:St -> Hp -> Prop) ρ',RlA K A Λ ρ σ S H -> Den K S d v -> x d ρ = some ρ' -> (∀ σ',RlA K A Λ ρ' σ' S H -> Q σ' H) -> g v σ H Q
def SGs (K:W.Frag) (g:TGs) (x:XGs):Prop:=∀ A Λ ρ σ S H vs ds (Q:St -> Hp -> Prop) ρ',RlA K A Λ ρ σ S H -> Dens K S ds vs -> x ds ρ = some ρ' -> (∀ σ',RlA K A Λ ρ' σ' S H -> Q σ' H) -> g vs σ H Q
@[simp] noncomputable def ag (i:Nat):XG:=fun d ρ=>some (ρ.set i (.sh d))
noncomputable def aK:XGs:=fun ds ρ=>match ds with | []=>some ρ | _=>none
noncomputable def ak (x:XG) (y:XGs):XGs:=fun ds ρ=>match ds with | d :: r=>(x d ρ).bind (y r) | []=>none
noncomputable def aO (y:XGs):XG:=fun d ρ=>match d with | .tup l=>y l ρ | .mtp l=>y l ρ | _=>none
theorem IR (i:Nat):SG K (gH i) (ag i):=fun A Λ ρ σ S H v d Q ρ' r dv x k=>by cases x;exact k _ (r.set i dv)
theorem KR:SGs K Gy aK:=fun A Λ ρ σ S H vs ds Q ρ' r dv x k=>by
 cases ds with
 | nil=>cases x;exact ⟨dv.nil_of,k σ r⟩
 | cons _ _=>cases x
theorem IQ     (h:SG K g x) (hs:SGs K gs y):SGs K (Bd g gs) (ak x y):=fun A Λ ρ σ S H vs ds Q ρ' r dv e k=>by
 cases ds with
 | nil=>cases e
 | cons d ds=>
  obtain ⟨v,vs,rfl,h1,h2⟩:=dv.cons_of
  have e':(x d ρ).bind (y ds) = some ρ':=e
  cases q:x d ρ with
  | none=>rw [q] at e';cases e'
  | some ρ1=>
   rw [q] at e'
   exact ⟨v,vs,rfl,h A Λ ρ σ S H v d _ ρ1 r h1 q fun σ1 r1=>hs A Λ ρ1 σ1 S H vs ds Q ρ' r1 h2 e' k⟩
def Bl (y:XGs) (n:Nat):Prop:=∀ ds ρ ρ',y ds ρ = some ρ' -> ds.length = n
theorem Jf:Bl aK 0:=fun ds ρ ρ' e=>by cases ds with | nil=>rfl | cons _ _=>cases e
theorem GM   {n:Nat} (h:Bl y n):Bl (ak x y) (n + 1):=fun ds ρ ρ' e=>by
 cases ds with
 | nil=>cases e
 | cons d ds=>
  have e':(x d ρ).bind (y ds) = some ρ':=e
  cases q:x d ρ with
  | none=>rw [q] at e';cases e'
  | some ρ1=>rw [q] at e';rw [List.length_cons,h ds ρ1 ρ' e']
theorem KS   {n:Nat} (hs:SGs K gs y) (hl:Bl y n):SG K (Gz K n gs) (aO y):=fun A Λ ρ σ S H v d Q ρ' r dv e k=>by
 cases d with
 | tup l=>
  obtain ⟨p,xs,rfl,h1,h2⟩:=gF dv
  exact ⟨p,xs,rfl,aJ r.sub h1,by rw [<- h2.length];exact hl l ρ ρ' e,hs A Λ ρ σ S H xs l Q ρ' r h2 e k⟩
 | mtp l=>
  obtain ⟨p,xs,rfl,h1,h2⟩:=den_mtp.mp dv
  exact ⟨p,xs,rfl,aJ r.sub h1,by rw [<- h2.length];exact hl l ρ ρ' e,hs A Λ ρ σ S H xs l Q ρ' r h2 e k⟩
 | _=>cases e
@[simp] noncomputable def br (e:XE) (g:XG):XS:=fun ρ=>(e ρ).bind fun d=>(g d ρ).map .nx
theorem LJ {te:TE}    (h:SE K te e) (hg:SG K g x):SS K (uO te g) (br e x):=fun A Λ ρ σ S H E o r y k=>by
 unfold br at y
 cases q:e ρ with
 | none=>rw [q] at y;cases y
 | some d=>
  rw [q] at y
  dsimp only [Option.bind] at y
  cases q2:x d ρ with
  | none=>rw [q2] at y;cases y
  | some ρ'=>
   rw [q2] at y
   cases y
   exact h ρ σ S H _ d r.toRl q fun v S1 H1 z1 d1=>hg A Λ ρ σ S1 H1 v d _ ρ' (r.ext z1) d1 q2 fun σ' r'=>k σ' S1 H1 r' z1.sh
@[simp] noncomputable def F5 (e:Env -> Option O) (i:Nat):XS:=fun ρ=>(e ρ).map fun o=>.nx (ρ.set i (.ow o))
theorem JQ {te:TE}  {i:Nat} (h:STr K te e):SS K (uO te (gH i)) (F5 e i):=fun A Λ ρ σ S H E o r y k=>by
 unfold F5 at y
 cases q:e ρ with
 | none=>rw [q] at y;cases y
 | some ot=>
  rw [q] at y
  cases y
  obtain ⟨Φ,f⟩:=r
  refine h ρ σ S H _ ot ⟨A,Λ,Φ,f⟩ q fun v fp S1 H1 z1 o1 nd n=>?_
  have r1:=f.ext z1
  refine k _ S1 H1 ⟨_,r1.put (H':=H1) i r1.sub r1.asub o1 nd (fun b hb=>⟨(n b hb).2,f.asub.free (n b hb).1⟩) fun j o' hj e1 b hb=>⟨rfl,fun hf=>?_⟩⟩ z1.sh
  obtain ⟨w,_,k2,_,_⟩:=f.ow j o' e1
  exact k2.there b hb (n b hf).1
@[simp] noncomputable def oQ (e:XA) (i:Nat):XS:=F5 (xLT e) i
theorem JP {te:TE}  {i:Nat} (h:SF K te e):SS K (uO te (gH i)) (oQ e i):=JQ h.t
noncomputable def dE:O -> List Int -> Option O
 | o,[]=>some o
 | .lst l,k :: r=>(atI l k).bind fun o=>dE o r
 | .tup l,k :: r=>(atI l k).bind fun o=>dE o r
 | .sh _,_ :: _=>none
 | .dic _,_ :: _=>none
 | .hd _ _ _,_ :: _=>none
noncomputable def tT (l:List O) (k:Int) (f:O -> O):List O:=match ixN l.length k with
 | some j=>(match l[j]? with | some o=>l.set j (f o) | none=>l)
 | none=>l
noncomputable def jv:O -> List Int -> O -> O
 | _,[],q=>q
 | .lst l,k :: r,q=>.lst (tT l k fun o=>jv o r q)
 | .tup l,k :: r,q=>.tup (tT l k fun o=>jv o r q)
 | .sh d,_ :: _,_=>.sh d
 | .dic d,_ :: _,_=>.dic d
 | .hd p d l,_ :: _,_=>.hd p d l
noncomputable def WalkV (H:Hp):V -> List Int -> V -> Prop
 | v,[],w=>v = w
 | v,k :: r,w=>∃ a xs u,v = .ref a /\ (H a = some (.lst xs) \/ H a = some (.tup xs)) /\ atI xs k = some u /\ WalkV H u r w
theorem WalkV.mono (s:Same H H'):∀ {p:List Int} {v w:V},WalkV H v p w -> WalkV H' v p w
 | [],_,_,h=>h
 | _ :: _,_,_,⟨a,xs,u,e,h,k,m⟩=>⟨a,xs,u,e,h.elim (fun z=>.inl (s _ _ z)) (fun z=>.inr (s _ _ z)),k,m.mono s⟩
theorem WalkV.uniq:∀ {p:List Int} {v w w':V},WalkV H v p w -> WalkV H v p w' -> w = w'
 | [],_,_,_,h,k=>h.symm.trans k
 | _ :: _,_,_,_,hpt0,hpt1=>by
  obtain ⟨a,xs,u,e,h,k,m⟩:=hpt0
  obtain ⟨a',xs',u',e',h',k',m'⟩:=hpt1
  rw [e] at e'
  cases e'
  have:xs = xs':=by
   rcases h with h | h <;> rcases h' with h' | h' <;> rw [h] at h' <;> cases h' <;> rfl
  subst this
  rw [k] at k'
  cases k'
  exact m.uniq m'
theorem WalkV.snoc:∀ {p:List Int} {v w u:V} {k:Int} {a:Addr} {xs:List V},WalkV H v p w -> w = .ref a -> (H a = some (.lst xs) \/ H a = some (.tup xs)) -> atI xs k = some u -> WalkV H v (p ++ [k]) u
 | [],_,_,u,k,a,xs,h,e,h1,h2=>⟨a,xs,u,h.trans e,h1,h2,rfl⟩
 | _ :: _,_,_,_,_,_,_,⟨b,ys,u',e,h,k,m⟩,e',h1,h2=>⟨b,ys,u',e,h,k,m.snoc e' h1 h2⟩
theorem pR:∀ {p:List Int} {o q:O} {k:Int},dE o (p ++ [k]) = some q -> ∃ q0,dE o p = some q0 /\ dE q0 [k] = some q
 | [],o,q,k,h=>⟨o,by unfold dE;rfl,h⟩
 | j :: p,o,q,k,h=>by
  cases o with
  | sh d=>cases h
  | dic _=>cases h
  | hd _ _ _=>cases h
  | lst l=>
   have h':(atI l j).bind (fun o=>dE o (p ++ [k])) = some q:=h
   cases e:atI l j with
   | none=>rw [e] at h';cases h'
   | some o1=>
    rw [e] at h'
    obtain ⟨q0,a,b⟩:=pR (p:=p) h'
    exact ⟨q0,by show (atI l j).bind (fun o=>dE o p) = some q0;rw [e];exact a,b⟩
  | tup l=>
   have h':(atI l j).bind (fun o=>dE o (p ++ [k])) = some q:=h
   cases e:atI l j with
   | none=>rw [e] at h';cases h'
   | some o1=>
    rw [e] at h'
    obtain ⟨q0,a,b⟩:=pR (p:=p) h'
    exact ⟨q0,by show (atI l j).bind (fun o=>dE o p) = some q0;rw [e];exact a,b⟩
theorem Owns.split:∀ {l:List O} {xs:List V} {f:List Addr} {j:Nat} {o:O},Owns K S H l xs f -> l[j]? = some o -> ∃ x f1 f2 f3,xs[j]? = some x /\ f = f1 ++ (f2 ++ f3) /\ Own K S H o x f2 /\
  ∀ H' o' f2',Own K S H' o' x f2' -> (∀ b ∈ f1,H' b = H b) -> (∀ b ∈ f3,H' b = H b) -> Owns K S H' (l.set j o') xs (f1 ++ (f2' ++ f3))
 | [],_,_,_,_,_,e=>by simp at e
 | o0 :: l,_,_,0,o,h,e=>by
  obtain ⟨y,ys,f,g,rfl,rfl,a,b⟩:=h.cons_of
  simp at e;subst e
  exact ⟨y,[],f,g,rfl,rfl,a,fun H' o' f2' h1 _ h3=>Owns.cons (f:=f2') h1 (b.mono (Same.refl _) h3)⟩
 | o0 :: l,_,_,j + 1,o,h,e=>by
  obtain ⟨y,ys,f,g,rfl,rfl,a,b⟩:=h.cons_of
  obtain ⟨x,f1,f2,f3,e1,rfl,h1,h2⟩:=b.split (j:=j) (by simpa using e)
  refine ⟨x,f ++ f1,f2,f3,by simpa using e1,by rw [List.append_assoc],h1,fun H' o' f2' k1 k2 k3=>?_⟩
  rw [List.append_assoc]
  exact .cons (a.mono (Same.refl _) fun b hb=>k2 b (List.mem_append_left _ hb)) (h2 H' o' f2' k1 (fun b hb=>k2 b (List.mem_append_right _ hb)) k3)
theorem zr {α:Type} {l:List α} {k:Int} {x:α} (h:atI l k = some x):∃ j,ixN l.length k = some j /\ l[j]? = some x:=by
 unfold atI at h
 cases q:ixN l.length k with
 | none=>rw [q] at h;cases h
 | some j=>rw [q] at h;exact ⟨j,rfl,h⟩
theorem Ef:∀ {p:List Int} {o q:O} {v:V} {fp:List Addr},Own K S H o v fp -> fp.Nodup -> dE o p = some q -> ∃ w fq,Own K S H q w fq /\ WalkV H v p w /\ (∀ b ∈ fq,b ∈ fp) /\ fq.Nodup /\
  ∀ H' q' fq',Own K S H' q' w fq' -> fq'.Nodup -> (∀ b ∈ fp,b ∉ fq -> H' b = H b) -> (∀ b ∈ fq',b ∈ fp -> b ∈ fq) -> ∃ fp',Own K S H' (jv o p q') v fp' /\ fp'.Nodup /\ ∀ b ∈ fp',b ∈ fp \/ b ∈ fq'
 | [],o,q,v,fp,h,nd,e=>by
  have e':some o = some q:=by unfold dE at e;exact e
  cases e'
  exact ⟨v,fp,h,rfl,fun b hb=>hb,nd,fun H' q' fq' h1 n1 _ _=>⟨fq',by unfold jv;exact h1,n1,fun b hb=>.inr hb⟩⟩
 | k :: r,o,q,v,fp,h,nd,e=>by
  have body:∀ (l:List O) (a:Addr) (xs:List V) (f:List Addr),v = .ref a -> fp = a :: f -> (H a = some (.lst xs) \/ H a = some (.tup xs)) -> Owns K S H l xs f -> ((atI l k).bind fun o=>dE o r) = some q ->
    ∃ w fq,Own K S H q w fq /\ WalkV H v (k :: r) w /\ (∀ b ∈ fq,b ∈ fp) /\ fq.Nodup /\ ∀ H' q' fq',Own K S H' q' w fq' -> fq'.Nodup -> (∀ b ∈ fp,b ∉ fq -> H' b = H b) -> (∀ b ∈ fq',b ∈ fp -> b ∈ fq) ->
     ∃ f',Owns K S H' (tT l k fun o=>jv o r q') xs f' /\ H' a = H a /\ (a :: f').Nodup /\ ∀ b ∈ a :: f',b ∈ fp \/ b ∈ fq':=by
   rintro l a xs f rfl rfl ha hl hs
   obtain ⟨na,nf⟩:=List.nodup_cons.mp nd
   cases qa:atI l k with
   | none=>rw [qa] at hs;cases hs
   | some o1=>
    rw [qa] at hs
    obtain ⟨j,ej,el⟩:=zr qa
    obtain ⟨x,f1,f2,f3,ex,rfl,h1,h2⟩:=hl.split el
    obtain ⟨n1,n23,d1⟩:=List.nodup_append.mp nf
    obtain ⟨n2,n3,d2⟩:=List.nodup_append.mp n23
    obtain ⟨w,fq,k1,k2,k3,k4,k5⟩:=Ef (p:=r) h1 n2 hs
    have ax:atI xs k = some x:=by unfold atI;rw [<- hl.length,ej];exact ex
    refine ⟨w,fq,k1,⟨a,xs,x,rfl,ha,ax,k2⟩,fun b hb=>List.mem_cons_of_mem _ (List.mem_append_right _ (List.mem_append_left _ (k3 b hb))),k4,fun H' q' fq' g1 g2 g3 g4=>?_⟩
    have in2:∀ b ∈ fq,b ∈ f2:=k3
    have a1:∀ b ∈ f1,b ∉ fq:=fun b hb hq=>d1 b hb b (List.mem_append_left _ (in2 b hq)) rfl
    have a3:∀ b ∈ f3,b ∉ fq:=fun b hb hq=>d2 b (in2 b hq) b hb rfl
    have aa:a ∉ fq:=fun hq=>na (List.mem_append_right _ (List.mem_append_left _ (in2 a hq)))
    obtain ⟨f2',m1,m2,m3⟩:=k5 H' q' fq' g1 g2 (fun b hb hn=>g3 b (List.mem_cons_of_mem _ (List.mem_append_right _ (List.mem_append_left _ hb))) hn) fun b hb hp=>g4 b hb (List.mem_cons_of_mem _ (List.mem_append_right _ (List.mem_append_left _ hp)))
    have out:∀ b ∈ f2',b ∉ f1 /\ b ∉ f3 /\ b ≠ a:=fun b hb=>by
     rcases m3 b hb with hb | hb
     ·exact ⟨fun z=>d1 b z b (List.mem_append_left _ hb) rfl,fun z=>d2 b hb b z rfl,fun z=>na (z ▸ List.mem_append_right _ (List.mem_append_left _ hb))⟩
     ·refine ⟨fun z=>a1 b z (g4 b hb (List.mem_cons_of_mem _ (List.mem_append_left _ z))),fun z=>a3 b z (g4 b hb (List.mem_cons_of_mem _ (List.mem_append_right _ (List.mem_append_right _ z)))),fun z=>?_⟩
      subst z
      exact aa (g4 b hb List.mem_cons_self)
    refine ⟨f1 ++ (f2' ++ f3),?_,g3 a List.mem_cons_self aa,?_,fun b hb=>?_⟩
    ·unfold tT
     rw [ej]
     dsimp only
     rw [el]
     exact h2 H' _ f2' m1 (fun b hb=>g3 b (List.mem_cons_of_mem _ (List.mem_append_left _ hb)) (a1 b hb)) fun b hb=>g3 b (List.mem_cons_of_mem _ (List.mem_append_right _ (List.mem_append_right _ hb))) (a3 b hb)
    ·refine List.nodup_cons.mpr ⟨fun z=>?_,List.nodup_append.mpr ⟨n1,List.nodup_append.mpr ⟨m2,n3,fun b hb c hc e=>(out b hb).2.1 (e ▸ hc)⟩,fun b hb c hc e=>?_⟩⟩
     ·rcases List.mem_append.mp z with z | z
      ·exact na (List.mem_append_left _ z)
      ·rcases List.mem_append.mp z with z | z
       ·exact (out a z).2.2 rfl
       ·exact na (List.mem_append_right _ (List.mem_append_right _ z))
     ·subst e
      rcases List.mem_append.mp hc with hc | hc
      ·exact (out b hc).1 hb
      ·exact d1 b hb b (List.mem_append_right _ hc) rfl
    ·rcases List.mem_cons.mp hb with rfl | hb
     ·exact .inl List.mem_cons_self
     ·rcases List.mem_append.mp hb with hb | hb
      ·exact .inl (List.mem_cons_of_mem _ (List.mem_append_left _ hb))
      ·rcases List.mem_append.mp hb with hb | hb
       ·exact (m3 b hb).imp (fun z=>List.mem_cons_of_mem _ (List.mem_append_right _ (List.mem_append_left _ z))) id
       ·exact .inl (List.mem_cons_of_mem _ (List.mem_append_right _ (List.mem_append_right _ hb)))
  cases o with
  | sh d=>cases e
  | dic _=>cases e
  | hd _ _ _=>cases e
  | lst l=>
   obtain ⟨a,xs,f,e1,e2,h1,h2⟩:=own_lst.mp h
   obtain ⟨w,fq,k1,k2,k3,k4,k5⟩:=body l a xs f e1 e2 (.inl h1) h2 e
   refine ⟨w,fq,k1,k2,k3,k4,fun H' q' fq' g1 g2 g3 g4=>?_⟩
   obtain ⟨f',m1,m2,m3,m4⟩:=k5 H' q' fq' g1 g2 g3 g4
   exact ⟨a :: f',by unfold jv;exact own_lst.mpr ⟨a,xs,f',e1,rfl,by rw [m2];exact h1,m1⟩,m3,m4⟩
  | tup l=>
   obtain ⟨a,xs,f,e1,e2,h1,h2⟩:=own_tup.mp h
   obtain ⟨w,fq,k1,k2,k3,k4,k5⟩:=body l a xs f e1 e2 (.inr h1.1) h2 e
   refine ⟨w,fq,k1,k2,k3,k4,fun H' q' fq' g1 g2 g3 g4=>?_⟩
   obtain ⟨f',m1,m2,m3,m4⟩:=k5 H' q' fq' g1 g2 g3 g4
   exact ⟨a :: f',by unfold jv;exact own_tup.mpr ⟨a,xs,f',e1,rfl,⟨by rw [m2];exact h1.1,h1.2⟩,m1⟩,m3,m4⟩
noncomputable abbrev XP:=Env -> Option (List Int)
def zp (K:W.Frag) (to:TE) (i:Nat) (p:XP):Prop:=∀ ρ σ S H (Q:VK) is o q,Rl K ρ σ S H -> ρ[i]? = some (.ow o) -> p ρ = some is -> dE o is = some q -> (∀ v w S' H',σ[i]? = some (some v) -> Ext S H S' H' -> WalkV H' v is w -> Q w H') -> to σ H Q
@[simp] noncomputable def xPv:XP:=fun _=>some []
theorem K9 (i:Nat):zp K (pS i) i xPv:=fun ρ σ S H Q is o q r h1 h2 h3 k=>by
 cases h2
 obtain ⟨v,fp,e,_⟩:=r.ow i o h1
 exact ⟨v,e,k v v S H e (Ext.refl r.sub) rfl⟩
@[simp] noncomputable def xPi (p:XP) (ix:XE):XP:=fun ρ=>(p ρ).bind fun is=>(ix ρ).bind fun d=>match d with | .int k=>some (is ++ [k]) | _=>none
theorem MG {to ti:TE} {i:Nat} {p:XP} {ix:XE} (hp:zp K to i p) (hi:SPk K ti ix):zp K (tOp (rIx K) to ti) i (xPi p ix):=fun ρ σ S H Q is o q r h1 h2 h3 k=>by
 unfold xPi at h2
 cases e1:p ρ with
 | none=>rw [e1] at h2;cases h2
 | some js=>
  rw [e1] at h2
  dsimp only [Option.bind] at h2
  cases e2:ix ρ with
  | none=>rw [e2] at h2;cases h2
  | some d=>
   rw [e2] at h2
   cases d with
   | int kk=>
    cases h2
    obtain ⟨q0,s1,s2⟩:=pR h3
    refine hp ρ σ S H _ js o q0 r h1 e1 s1 fun v w S1 H1 ev z1 wk=>?_
    have r1:=r.ext z1
    refine hi ρ σ S1 H1 _ _ r1 e2 fun u S2 H2 z2 d2=>?_
    have r2:=r1.ext z2
    obtain ⟨v',fp,ev',ow,nd,_⟩:=r2.ow i o h1
    rw [ev] at ev'
    cases ev'
    obtain ⟨w',fq,k1,k2,_⟩:=Ef ow nd s1
    have ew:=k2.uniq (wk.mono (z2.same r1.sub))
    subst ew
    rw [d2.int]
    cases q0 with
    | sh _=>cases s2
    | dic _=>cases s2
    | hd _ _ _=>cases s2
    | lst l=>
     have s2':(atI l kk).bind (fun o=>dE o []) = some q:=s2
     cases e3:atI l kk with
     | none=>rw [e3] at s2';cases s2'
     | some o1=>
      obtain ⟨a,xs,f,rfl,rfl,hx,hl⟩:=own_lst.mp k1
      obtain ⟨j,ej,el⟩:=zr e3
      obtain ⟨x,_,_,_,ex,_⟩:=hl.split el
      have ax:atI xs kk = some x:=by unfold atI;rw [<- hl.length,ej];exact ex
      exact .inl ⟨a,xs,kk,x,rfl,rfl,SqL.of hx,ax,k v x S2 H2 ev (z1.trans z2) (k2.snoc rfl (.inl hx) ax)⟩
    | tup l=>
     have s2':(atI l kk).bind (fun o=>dE o []) = some q:=s2
     cases e3:atI l kk with
     | none=>rw [e3] at s2';cases s2'
     | some o1=>
      obtain ⟨a,xs,f,rfl,rfl,⟨hx,_⟩,hl⟩:=own_tup.mp k1
      obtain ⟨j,ej,el⟩:=zr e3
      obtain ⟨x,_,_,_,ex,_⟩:=hl.split el
      have ax:atI xs kk = some x:=by unfold atI;rw [<- hl.length,ej];exact ex
      exact .inr (.inl ⟨a,xs,kk,x,rfl,rfl,SqT.of hx,ax,k v x S2 H2 ev (z1.trans z2) (k2.snoc rfl (.inr hx) ax)⟩)
   | _=>cases h2
theorem RlF.at {A:Hp} {Λ:Nat -> Option Addr} {Φ:Nat -> List Addr} {ρ:Env} {σ:St} {i:Nat} {o:O} {is:List Int} {l:List O} {v w:V} (f:RlF K A Λ Φ ρ σ S H) (h1:ρ[i]? = some (.ow o)) (h2:dE o is = some (.lst l)) (ev:σ[i]? = some (some v)) (wk:WalkV H v is w) :
  ∃ a xs f0,w = .ref a /\ H a = some (.lst xs) /\ Owns K S H l xs f0 /\ (a :: f0).Nodup /\ (∀ b ∈ a :: f0,b ∈ Φ i) /\ ∀ l' xs' f',(∀ H',(∀ b,b ≠ a -> H' b = H b) -> Owns K S H' l' xs' f') -> (a :: f').Nodup -> (∀ b ∈ f',b ∈ f0 \/ ((∀ (j:Nat) o',ρ[j]? = some (.ow o') -> b ∉ Φ j) /\ S b = none /\ A b = none)) ->
   RlA K A Λ (ρ.set i (.ow (jv o is (.lst l')))) σ S (upd H a (.lst xs')):=by
 obtain ⟨v',e',ow,nd,n⟩:=f.ow i o h1
 rw [ev] at e'
 cases e'
 obtain ⟨w',fq,k1,k2,k3,k4,k5⟩:=Ef ow nd h2
 have ew:=k2.uniq wk
 subst ew
 obtain ⟨a,xs,g,rfl,rfl,hx,hl⟩:=own_lst.mp k1
 have ain:=k3 a List.mem_cons_self
 refine ⟨a,xs,g,rfl,hx,hl,k4,k3,fun l' xs' f' g1 g2 g3=>?_⟩
 have ne:∀ b,b ≠ a -> upd H a (.lst xs') b = H b:=fun b hb=>aF hb
 obtain ⟨fp',m1,m2,m3⟩:=k5 (upd H a (.lst xs')) (.lst l') (a :: f') (own_lst.mpr ⟨a,xs',f',rfl,rfl,aB,g1 _ ne⟩) g2 (fun b hb hn=>ne b fun z=>hn (z ▸ List.mem_cons_self)) fun b hb hp=>by
  rcases List.mem_cons.mp hb with rfl | hb
  ·exact List.mem_cons_self
  ·rcases g3 b hb with z | ⟨z,_⟩
   ·exact List.mem_cons_of_mem _ z
   ·exact absurd hp (z i o h1)
 have sub':Same S (upd H a (.lst xs')):=fun b u e=>by rw [ne b fun z=>by subst z;rw [(n b ain).1] at e;cases e];exact f.sub b u e
 have asub':Same A (upd H a (.lst xs')):=fun b u e=>by rw [ne b fun z=>by subst z;rw [(n b ain).2] at e;cases e];exact f.asub b u e
 have fin:=f.put (H':=upd H a (.lst xs')) i sub' asub' m1 m2 (fun b hb=>by
  rcases m3 b hb with z | z
  ·exact n b z
  ·rcases List.mem_cons.mp z with rfl | z
   ·exact n b ain
   ·rcases g3 b z with z | ⟨_,z⟩
    ·exact n b (k3 b (List.mem_cons_of_mem _ z))
    ·exact z) fun j o' hj e1 b hb=>by
   have nb:b ∉ Φ i:=fun z=>f.dj j i o' o hj e1 h1 b hb z
   refine ⟨ne b fun z=>nb (z ▸ ain),fun z=>?_⟩
   rcases m3 b z with z | z
   ·exact nb z
   ·rcases List.mem_cons.mp z with rfl | z
    ·exact nb ain
    ·rcases g3 b z with z | ⟨z,_⟩
     ·exact nb (k3 b (List.mem_cons_of_mem _ z))
     ·exact z j o' e1 hb
 rw [FH ev] at fin
 exact ⟨_,fin⟩
theorem RlF.fresh       (f:RlF K A Λ Φ ρ σ S H) (h:H b = none):(∀ (j:Nat) o',ρ[j]? = some (.ow o') -> b ∉ Φ j) /\ S b = none /\ A b = none:=
 ⟨fun j o' e hb=>by obtain ⟨_,_,ow,_⟩:=f.ow j o' e;exact ow.there b hb h,f.sub.free h,f.asub.free h⟩
@[simp] noncomputable def kH (i:Nat) (p:XP) (e:Env -> Option O):XS:=fun ρ=>match ρ[i]? with
 | some (.ow o)=>(p ρ).bind fun is=>(e ρ).bind fun x=>match dE o is with
  | some (.lst l)=>if l.length < LIM then some (.nx (ρ.set i (.ow (jv o is (.lst (l ++ [x])))))) else none
  | _=>none
 | _=>none
theorem JO {to te:TE} {i:Nat}   (hp:zp K to i p) (h:STr K te e):SS K (uf (tBM K "list" rAppend to (fh te oM))) (kH i p e):=fun A Λ ρ σ S H E out r y k=>by
 unfold kH at y
 cases q0:ρ[i]? with
 | none=>rw [q0] at y;cases y
 | some s=>
  rw [q0] at y
  cases s with
  | un=>cases y
  | lo=>cases y
  | sh d=>cases y
  | ow o=>
   dsimp only at y
   cases q1:p ρ with
   | none=>rw [q1] at y;cases y
   | some is=>
    rw [q1] at y
    dsimp only [Option.bind] at y
    cases q2:e ρ with
    | none=>rw [q2] at y;cases y
    | some x=>
     rw [q2] at y
     dsimp only at y
     cases q3:dE o is with
     | none=>rw [q3] at y;cases y
     | some qo=>
      rw [q3] at y
      cases qo with
      | sh _=>cases y
      | dic _=>cases y
      | hd _ _ _=>cases y
      | tup _=>cases y
      | lst l=>
       dsimp only at y
       split at y
       ·rename_i hl
        cases y
        obtain ⟨Φ,f⟩:=r
        refine hp ρ σ S H _ is o _ ⟨A,Λ,Φ,f⟩ q0 q1 q3 fun v w S1 H1 ev z1 wk=>?_
        have f1:=f.ext z1
        obtain ⟨a,xs,g0,rfl,hx,hw,nd0,in0,_⟩:=f1.at q0 q3 ev wk
        refine ⟨.inl ⟨rfl,xs,SqL.of hx⟩,h ρ σ S1 H1 _ x ⟨A,Λ,Φ,f1⟩ q2 fun u fu S2 H2 z2 ou nd n=>?_⟩
        have f2:=f1.ext z2
        obtain ⟨a',xs',g1,e1,hx',hw',nd1,in1,up⟩:=f2.at q0 q3 ev (wk.mono (z2.same f1.sub))
        cases e1
        have fr:∀ b ∈ fu,(∀ (j:Nat) o',ρ[j]? = some (.ow o') -> b ∉ Φ j) /\ S2 b = none /\ A b = none:=fun b hb=>⟨(f1.fresh (n b hb).1).1,(n b hb).2,(f1.fresh (n b hb).1).2.2⟩
        have fa:∀ b ∈ fu,b ∉ a :: g1:=fun b hb z=>(fr b hb).1 i o q0 (in1 b z)
        obtain ⟨na,ng⟩:=List.nodup_cons.mp nd1
        refine ⟨a,xs',u,rfl,rfl,hx',?_,?_⟩
        ·rw [<- hw'.length];exact Nat.lt_trans hl iE
        ·refine k σ S2 _ (up (l ++ [x]) (xs' ++ [u]) (g1 ++ fu) (fun H' ne=>?_) ?_ fun b hb=>?_) (z1.sh.trans z2.sh)
         ·have:=(hw'.mono (H':=H') (Same.refl _) fun b hb=>ne b fun z=>na (z ▸ hb)).append (.cons (ou.mono (H':=H') (Same.refl _) fun b hb=>ne b fun z=>fa b hb (z ▸ List.mem_cons_self)) .nil)
          rw [List.append_nil] at this
          exact this
         ·refine List.nodup_cons.mpr ⟨fun z=>?_,List.nodup_append.mpr ⟨ng,nd,fun b hb c hc e=>fa c hc (e ▸ List.mem_cons_of_mem _ hb)⟩⟩
          rcases List.mem_append.mp z with z | z
          ·exact na z
          ·exact fa a z List.mem_cons_self
         ·rcases List.mem_append.mp hb with hb | hb
          ·exact .inl hb
          ·exact .inr (fr b hb)
       ·cases y
@[simp] noncomputable def F6 (i:Nat) (p:XP) (j:Nat):XS:=fun ρ=>match ρ[i]? with
 | some (.ow o)=>(p ρ).bind fun is=>match dE o is with
  | some (.lst l)=>(match l.getLast? with
   | some (.sh d)=>some (.nx ((ρ.set i (.ow (jv o is (.lst l.dropLast)))).set j (.sh d)))
   | _=>none)
  | _=>none
 | _=>none
theorem Owns.last:∀ {l:List O} {xs:List V} {f:List Addr} {d:D},Owns K S H l xs f -> l.getLast? = some (.sh d) -> ∃ y,xs[xs.length - 1]? = some y /\ Den K S d y /\ Owns K S H l.dropLast xs.dropLast f
 | [],_,_,_,_,e=>by simp at e
 | [o],_,_,d,h,e=>by
  obtain ⟨y,ys,f,g,rfl,rfl,a,b⟩:=h.cons_of
  obtain ⟨rfl,rfl⟩:=b.nil_of
  simp at e;subst e
  obtain ⟨e1,e2⟩:=own_sh.mp a
  subst e1
  exact ⟨y,rfl,e2,.nil⟩
 | o :: o2 :: l,_,_,d,h,e=>by
  obtain ⟨y,ys,f,g,rfl,rfl,a,b⟩:=h.cons_of
  obtain ⟨z,h1,h2,h3⟩:=b.last (by simpa using e)
  have hl:=b.length
  obtain ⟨y2,ys2,rfl⟩:∃ y2 ys2,ys = y2 :: ys2:=by cases ys with | nil=>simp at hl | cons y2 ys2=>exact ⟨_,_,rfl⟩
  refine ⟨z,?_,h2,?_⟩
  ·simpa using h1
  ·rw [List.dropLast_cons_cons,List.dropLast_cons_cons];exact .cons a h3
theorem J2 {to:TE} {i j:Nat}  (hp:zp K to i p):SS K (uO (Km K "list" rPop to) (gH j)) (F6 i p j):=fun A Λ ρ σ S H E out r y k=>by
 unfold F6 at y
 cases q0:ρ[i]? with
 | none=>rw [q0] at y;cases y
 | some s=>
  rw [q0] at y
  cases s with
  | un=>cases y
  | lo=>cases y
  | sh d=>cases y
  | ow o=>
   dsimp only at y
   cases q1:p ρ with
   | none=>rw [q1] at y;cases y
   | some is=>
    rw [q1] at y
    dsimp only [Option.bind] at y
    cases q3:dE o is with
    | none=>rw [q3] at y;cases y
    | some qo=>
     rw [q3] at y
     cases qo with
     | sh _=>cases y
     | dic _=>cases y
     | hd _ _ _=>cases y
     | tup _=>cases y
     | lst l=>
      dsimp only at y
      cases q4:l.getLast? with
      | none=>rw [q4] at y;cases y
      | some ol=>
       rw [q4] at y
       cases ol with
       | lst _=>cases y
       | dic _=>cases y
       | hd _ _ _=>cases y
       | tup _=>cases y
       | sh d=>
        cases y
        obtain ⟨Φ,f⟩:=r
        refine hp ρ σ S H _ is o _ ⟨A,Λ,Φ,f⟩ q0 q1 q3 fun v w S1 H1 ev z1 wk=>?_
        have f1:=f.ext z1
        obtain ⟨a,xs,g0,rfl,hx,hw,nd0,in0,up⟩:=f1.at q0 q3 ev wk
        obtain ⟨na,ng⟩:=List.nodup_cons.mp nd0
        obtain ⟨u,h1,h2,h3⟩:=hw.last q4
        refine ⟨.inl ⟨rfl,xs,SqL.of hx⟩,a,xs,u,rfl,rfl,hx,h1,?_⟩
        exact k _ S1 _ ((up l.dropLast xs.dropLast g0 (fun H' ne=>h3.mono (H':=H') (Same.refl _) fun b hb=>ne b fun z=>na (z ▸ hb)) nd0 fun b hb=>.inl hb).set j h2) z1.sh
@[simp] noncomputable def Ou (i:Nat) (p:XP):XS:=fun ρ=>match ρ[i]? with
 | some (.ow o)=>(p ρ).bind fun is=>match dE o is with
  | some (.lst l)=>(match shs l with | some ds=>some (.nx (ρ.set i (.ow (jv o is (.lst (ds.reverse.map .sh)))))) | none=>none)
  | _=>none
 | _=>none
noncomputable def rExtM:V -> List V -> Hp -> VK -> Prop:=fun x vs H Q=>∃ l b xs zs,x = .ref l /\ vs = [.ref b] /\ H l = some (.lst xs) /\ Rd H b (.lst zs) /\ xs.length + zs.length <= sizeLine /\ Q .non (upd H l (.lst (xs ++ zs)))
@[simp] noncomputable def BO (i:Nat) (p:XP) (e:XE):XS:=fun ρ=>match ρ[i]? with
 | some (.ow o)=>(p ρ).bind fun is=>(e ρ).bind fun d=>match dE o is,d with
  | some (.lst l),.lst ds=>if l.length + ds.length <= LIM then some (.nx (ρ.set i (.ow (jv o is (.lst (l ++ ds.map .sh)))))) else none
  | _,_=>none
 | _=>none
theorem JS {to te:TE} {i:Nat}   (hp:zp K to i p) (h:SE K te e):SS K (uf (tBM K "list" rExtM to (fh te oM))) (BO i p e):=fun A Λ ρ σ S H E out r y k=>by
 unfold BO at y
 cases q0:ρ[i]? with
 | none=>rw [q0] at y;cases y
 | some s=>
  rw [q0] at y
  cases s with
  | un=>cases y
  | lo=>cases y
  | sh d=>cases y
  | ow o=>
   dsimp only at y
   cases q1:p ρ with
   | none=>rw [q1] at y;cases y
   | some is=>
    rw [q1] at y
    dsimp only [Option.bind] at y
    cases q2:e ρ with
    | none=>rw [q2] at y;cases y
    | some dd=>
     rw [q2] at y
     dsimp only at y
     cases q3:dE o is with
     | none=>rw [q3] at y;cases y
     | some qo=>
      rw [q3] at y
      cases qo with
      | sh _=>cases y
      | dic _=>cases y
      | hd _ _ _=>cases y
      | tup _=>cases y
      | lst l=>
       cases dd with
       | lst ds=>
        dsimp only at y
        split at y
        ·rename_i hl
         cases y
         obtain ⟨Φ,f⟩:=r
         refine hp ρ σ S H _ is o _ ⟨A,Λ,Φ,f⟩ q0 q1 q3 fun v w S1 H1 ev z1 wk=>?_
         have f1:=f.ext z1
         obtain ⟨a,xs,g0,rfl,hx,hw,nd0,in0,_⟩:=f1.at q0 q3 ev wk
         refine ⟨.inl ⟨rfl,xs,SqL.of hx⟩,h ρ σ S1 H1 _ _ ⟨A,Λ,Φ,f1⟩ q2 fun u S2 H2 z2 d2=>?_⟩
         have f2:=f1.ext z2
         obtain ⟨a',xs',g1,e1,hx',hw',nd1,in1,up⟩:=f2.at q0 q3 ev (wk.mono (z2.same f1.sub))
         cases e1
         obtain ⟨b,zs,rfl,hb,dz⟩:=den_lst.mp d2
         obtain ⟨na,ng⟩:=List.nodup_cons.mp nd1
         refine ⟨a,b,xs',zs,rfl,rfl,hx',bH z2.sub hb,?_,?_⟩
         ·rw [<- hw'.length,<- dz.length];exact Nat.le_of_lt (Nat.lt_of_le_of_lt hl iE)
         ·refine k σ S2 _ (up (l ++ ds.map .sh) (xs' ++ zs) g1 (fun H' ne=>?_) nd1 fun b hb=>.inl hb) (z1.sh.trans z2.sh)
          have:=(hw'.mono (H':=H') (Same.refl _) fun b hb=>ne b fun z=>na (z ▸ hb)).append (rG (H:=H') dz)
          rw [List.append_nil] at this
          exact this
        ·cases y
       | _=>cases y
@[simp] noncomputable def BU (i:Nat) (p:XP) (ix e:XE):XS:=fun ρ=>(e ρ).bind fun d=>match ρ[i]? with
 | some (.ow o)=>(p ρ).bind fun is=>(ix ρ).bind fun k=>match dE o is,k with
  | some (.lst l),.int k=>(match shs l with | some ds=>(ixN ds.length k).map fun j=>.nx (ρ.set i (.ow (jv o is (.lst ((ds.set j d).map .sh))))) | none=>none)
  | _,_=>none
 | _=>none
theorem J6 {to te:TE} {i:Nat}   (h:SE K te e) (hp:zp K to i p) (hi:SPk K ti ix):SS K (uO te (IP to ti Ft)) (BU i p ix e):=fun A Λ ρ σ S H E out r y k=>by
 unfold BU at y
 cases q:e ρ with
 | none=>rw [q] at y;cases y
 | some d=>
  rw [q] at y
  dsimp only [Option.bind] at y
  cases q0:ρ[i]? with
  | none=>rw [q0] at y;cases y
  | some s=>
   rw [q0] at y
   cases s with
   | un=>cases y
   | lo=>cases y
   | sh d=>cases y
   | ow o=>
    dsimp only at y
    cases q1:p ρ with
    | none=>rw [q1] at y;cases y
    | some is=>
     rw [q1] at y
     dsimp only at y
     cases q2:ix ρ with
     | none=>rw [q2] at y;cases y
     | some dk=>
      rw [q2] at y
      dsimp only at y
      cases q3:dE o is with
      | none=>rw [q3] at y;cases y
      | some qo=>
       rw [q3] at y
       cases qo with
       | sh _=>cases y
       | dic _=>cases y
       | hd _ _ _=>cases y
       | tup _=>cases y
       | lst l=>
        cases dk with
        | int kk=>
         dsimp only at y
         cases q4:shs l with
         | none=>rw [q4] at y;cases y
         | some ds=>
          rw [q4] at y
          dsimp only at y
          cases q5:ixN ds.length kk with
          | none=>rw [q5] at y;cases y
          | some j=>
           rw [q5] at y
           cases y
           have ed:=Ak q4
           subst ed
           obtain ⟨Φ,f⟩:=r
           refine h ρ σ S H _ d ⟨A,Λ,Φ,f⟩ q fun u S0 H0 z0 d0=>?_
           have f0:=f.ext z0
           refine hp ρ σ S0 H0 _ is o _ ⟨A,Λ,Φ,f0⟩ q0 q1 q3 fun v w S1 H1 ev z1 wk=>?_
           have f1:=f0.ext z1
           refine hi ρ σ S1 H1 _ _ ⟨A,Λ,Φ,f1⟩ q2 fun w2 S2 H2 z2 d2=>?_
           have f2:=f1.ext z2
           obtain ⟨a',xs',g1,rfl,hx',hw',nd1,in1,up⟩:=f2.at q0 q3 ev (wk.mono (z2.same f1.sub))
           obtain ⟨hd,rfl⟩:=mL hw'
           refine ⟨a',xs',kk,j,rfl,d2.int,hx',by rw [<- hd.length];exact q5,?_⟩
           exact k σ S2 _ (up ((ds.set j d).map .sh) (xs'.set j u) [] (fun H' ne=>rG (hd.set j ((d0.mono z1.sh).mono z2.sh))) nd1 fun b hb=>by cases hb) ((z0.sh.trans z1.sh).trans z2.sh)
        | _=>cases y
@[simp] noncomputable def Dz (i:Nat) (e:XE) (f:D -> D -> Option D):XS:=fun ρ=>match ρ[i]? with
 | some (.sh x)=>(e ρ).bind fun y=>(f x y).map fun z=>.nx (ρ.set i (.sh z))
 | _=>none
theorem LK {te:TE}  {i:Nat}   (h:SPk K te e) (hr:SR2 K ti f):SS K (Kl i te ti) (Dz i e f):=fun A Λ ρ σ S H E o r y k=>by
 unfold Dz at y
 cases q0:ρ[i]? with
 | none=>rw [q0] at y;cases y
 | some s=>
  rw [q0] at y
  cases s with
  | un=>cases y
  | lo=>cases y
  | ow d=>cases y
  | sh x=>
   dsimp only at y
   cases q:e ρ with
   | none=>rw [q] at y;cases y
   | some d=>
    rw [q] at y
    dsimp only [Option.bind] at y
    cases q2:f x d with
    | none=>rw [q2] at y;cases y
    | some g=>
     rw [q2] at y
     cases y
     obtain ⟨v,h1,h2⟩:=r.sh i x q0
     refine ⟨v,h1,h ρ σ S H _ d r.toRl q fun w S1 H1 z1 d1=>?_⟩
     exact hr S1 H1 v w x d g _ z1.sub (.inl (h2.mono z1.sh)) d1 q2 fun u S2 H2 z2 d2=>k _ S2 H2 ((r.ext (z1.trans z2)).set i d2) (z1.sh.trans z2.sh)
@[simp] noncomputable def Ob (e:XE):XS:=fun ρ=>(e ρ).map fun _=>.nx ρ
end
section
variable {K:W.Frag} {S S' H H':Hp}
def Walks (K:W.Frag) (J:It) (S:Hp) (l:List D):Prop:=∀ S' H',Same S S' -> Same S' H' ->
 (∀ i d,l[i]? = some d -> J.go i H' /\ ∀ x H'',J.yld i H' x H'' -> H'' = H' /\ Den K S' d x) /\ J.stop l.length H'
def SI (K:W.Frag) (wi:TI) (e:XA):Prop:=∀ ρ σ S H (R:It -> Hp -> Prop) l,Rl K ρ σ S H -> e ρ = some l -> (∀ J S' H',Ext S H S' H' -> Walks K J S' l -> R J H') -> wi σ H R
noncomputable def t0:D -> Option (List D)
 | .lst l=>some l | .tup l=>some l | .scr l=>some l | .mtp l=>some l | _=>none
def Ik (K:W.Frag) (J:It) (S H:Hp) (l:List D):Prop:=∀ S' H',Ext S H S' H' ->
 (∀ i d,l[i]? = some d -> J.go i H' /\ ∀ x H'',J.yld i H' x H'' -> H'' = H' /\ Den K S' d x) /\ J.stop l.length H'
def SIP (K:W.Frag) (wi:TI) (e:XA):Prop:=∀ ρ σ S H (R:It -> Hp -> Prop) l,Rl K ρ σ S H -> e ρ = some l -> (∀ J S' H',Ext S H S' H' -> Ik K J S' H' l -> R J H') -> wi σ H R
theorem SI.p {wi:TI} {e:XA} (h:SI K wi e):SIP K wi e:=fun ρ σ S H R l r x k=>h ρ σ S H R l r x fun J S' H' z w=>k J S' H' z fun S2 H2 z2=>w S2 H2 z2.sh z2.sub
@[simp] noncomputable def xIt (e:XE):XA:=fun ρ=>(e ρ).bind t0
theorem K0 {tl:TE}  (h:SE K tl e):SI K (IU K tl) (xIt e):=fun ρ σ S H R l r x k=>by
 unfold xIt at x
 cases q:e ρ with
 | none=>rw [q] at x;cases x
 | some d=>
  rw [q] at x
  dsimp only [Option.bind] at x
  refine h ρ σ S H _ d r q fun v S1 H1 z1 d1=>?_
  cases d with
  | lst l'=>
   cases x
   obtain ⟨p,xs,rfl,h1,h2⟩:=den_lst.mp d1
   refine ⟨p,rfl,.inl ⟨⟨xs,.inl (bH z1.sub h1)⟩,k _ S1 H1 z1 fun S' H' s1 s2=>⟨fun i d hd=>?_,xs,.inl (bH (s1.trans s2) h1),Nat.le_of_eq h2.length.symm⟩⟩⟩
   obtain ⟨y,e1,e2⟩:=h2.get hd
   refine ⟨⟨xs,y,.inl (bH (s1.trans s2) h1),e1⟩,fun x H'' hy=>⟨hy.1,?_⟩⟩
   have:=hy.2 xs (.inl (bH (s1.trans s2) h1))
   rw [e1] at this
   cases this
   exact e2.mono s1
  | tup l'=>
   cases x
   obtain ⟨p,xs,rfl,h1,h2⟩:=gF d1
   refine ⟨p,rfl,.inr ⟨⟨xs,aJ z1.sub h1⟩,k _ S1 H1 z1 fun S' H' s1 s2=>⟨fun i d hd=>?_,xs,aJ (s1.trans s2) h1,Nat.le_of_eq h2.length.symm⟩⟩⟩
   obtain ⟨y,e1,e2⟩:=h2.get hd
   refine ⟨⟨xs,y,aJ (s1.trans s2) h1,e1⟩,fun x H'' hy=>⟨hy.1,?_⟩⟩
   have:=hy.2 xs (aJ (s1.trans s2) h1)
   rw [e1] at this
   cases this
   exact e2.mono s1
  | mtp l'=>
   cases x
   obtain ⟨p,xs,rfl,h1,h2⟩:=den_mtp.mp d1
   refine ⟨p,rfl,.inr ⟨⟨xs,aJ z1.sub h1⟩,k _ S1 H1 z1 fun S' H' s1 s2=>⟨fun i d hd=>?_,xs,aJ (s1.trans s2) h1,Nat.le_of_eq h2.length.symm⟩⟩⟩
   obtain ⟨y,e1,e2⟩:=h2.get hd
   refine ⟨⟨xs,y,aJ (s1.trans s2) h1,e1⟩,fun x H'' hy=>⟨hy.1,?_⟩⟩
   have:=hy.2 xs (aJ (s1.trans s2) h1)
   rw [e1] at this
   cases this
   exact e2.mono s1
  | scr l'=>
   cases x
   obtain ⟨p,xs,rfl,h1,h2⟩:=den_scr.mp d1
   refine ⟨p,rfl,.inl ⟨⟨xs,dX z1.sub h1⟩,k _ S1 H1 z1 fun S' H' s1 s2=>⟨fun i d hd=>?_,xs,dX (s1.trans s2) h1,Nat.le_of_eq h2.length.symm⟩⟩⟩
   obtain ⟨y,e1,e2⟩:=h2.get hd
   refine ⟨⟨xs,y,dX (s1.trans s2) h1,e1⟩,fun x H'' hy=>⟨hy.1,?_⟩⟩
   have:=hy.2 xs (dX (s1.trans s2) h1)
   rw [e1] at this
   cases this
   exact e2.mono s1
  | _=>cases x
noncomputable def ifC {α:Type} (p:Prop) (a b:α):α:=@ite α p (Classical.propDecidable p) a b
theorem aU {α:Type} {p:Prop} {a b:α} (h:p):ifC p a b = a:=by unfold ifC;exact if_pos h
theorem iX {α:Type} {p:Prop} {a x:α} (h:ifC p (some a) none = some x):p /\ a = x:=by
 unfold ifC at h
 by_cases c:p
 ·rw [if_pos c] at h;exact ⟨c,Option.some.inj h⟩
 ·rw [if_neg c] at h;cases h
theorem IX {tl:TE}  (h:SPk K tl e):SIP K (IU K tl) (xIt e):=fun ρ σ S H R l r x k=>by
 unfold xIt at x
 cases q:e ρ with
 | none=>rw [q] at x;cases x
 | some d=>
  rw [q] at x
  dsimp only [Option.bind] at x
  refine h ρ σ S H _ d r q fun v S1 H1 z1 d1=>?_
  rcases d1 with d1 | ⟨l',p,xs,rfl,rfl,hx,dx⟩
  ·cases d with
   | lst l'=>
    cases x
    obtain ⟨p,xs,rfl,h1,h2⟩:=den_lst.mp d1
    refine ⟨p,rfl,.inl ⟨⟨xs,.inl (bH z1.sub h1)⟩,k _ S1 H1 z1 fun S' H' z2=>⟨fun i d hd=>?_,xs,.inl (bH (z2.sh.trans z2.sub) h1),Nat.le_of_eq h2.length.symm⟩⟩⟩
    obtain ⟨y,e1,e2⟩:=h2.get hd
    refine ⟨⟨xs,y,.inl (bH (z2.sh.trans z2.sub) h1),e1⟩,fun x H'' hy=>⟨hy.1,?_⟩⟩
    have:=hy.2 xs (.inl (bH (z2.sh.trans z2.sub) h1))
    rw [e1] at this
    cases this
    exact e2.mono z2.sh
   | tup l'=>
    cases x
    obtain ⟨p,xs,rfl,h1,h2⟩:=gF d1
    refine ⟨p,rfl,.inr ⟨⟨xs,aJ z1.sub h1⟩,k _ S1 H1 z1 fun S' H' z2=>⟨fun i d hd=>?_,xs,aJ (z2.sh.trans z2.sub) h1,Nat.le_of_eq h2.length.symm⟩⟩⟩
    obtain ⟨y,e1,e2⟩:=h2.get hd
    refine ⟨⟨xs,y,aJ (z2.sh.trans z2.sub) h1,e1⟩,fun x H'' hy=>⟨hy.1,?_⟩⟩
    have:=hy.2 xs (aJ (z2.sh.trans z2.sub) h1)
    rw [e1] at this
    cases this
    exact e2.mono z2.sh
   | mtp l'=>
    cases x
    obtain ⟨p,xs,rfl,h1,h2⟩:=den_mtp.mp d1
    refine ⟨p,rfl,.inr ⟨⟨xs,aJ z1.sub h1⟩,k _ S1 H1 z1 fun S' H' z2=>⟨fun i d hd=>?_,xs,aJ (z2.sh.trans z2.sub) h1,Nat.le_of_eq h2.length.symm⟩⟩⟩
    obtain ⟨y,e1,e2⟩:=h2.get hd
    refine ⟨⟨xs,y,aJ (z2.sh.trans z2.sub) h1,e1⟩,fun x H'' hy=>⟨hy.1,?_⟩⟩
    have:=hy.2 xs (aJ (z2.sh.trans z2.sub) h1)
    rw [e1] at this
    cases this
    exact e2.mono z2.sh
   | scr l'=>
    cases x
    obtain ⟨p,xs,rfl,h1,h2⟩:=den_scr.mp d1
    refine ⟨p,rfl,.inl ⟨⟨xs,dX z1.sub h1⟩,k _ S1 H1 z1 fun S' H' z2=>⟨fun i d hd=>?_,xs,dX (z2.sh.trans z2.sub) h1,Nat.le_of_eq h2.length.symm⟩⟩⟩
    obtain ⟨y,e1,e2⟩:=h2.get hd
    refine ⟨⟨xs,y,dX (z2.sh.trans z2.sub) h1,e1⟩,fun x H'' hy=>⟨hy.1,?_⟩⟩
    have:=hy.2 xs (dX (z2.sh.trans z2.sub) h1)
    rw [e1] at this
    cases this
    exact e2.mono z2.sh
   | _=>cases x
  ·cases x
   refine ⟨p,rfl,.inl ⟨⟨xs,SqL.of hx⟩,k _ S1 H1 z1 fun S' H' z2=>?_⟩⟩
   have hx2:H' p = some (.lst xs):=z2.same z1.sub _ _ hx
   refine ⟨fun i d hd=>?_,xs,SqL.of hx2,Nat.le_of_eq dx.length.symm⟩
   obtain ⟨y,e1,e2⟩:=dx.get hd
   refine ⟨⟨xs,y,SqL.of hx2,e1⟩,fun x H'' hy=>⟨hy.1,?_⟩⟩
   have:=hy.2 xs (SqL.of hx2)
   rw [e1] at this
   cases this
   exact e2.mono z2.sh
noncomputable def dQ (lo:Int):Nat -> List D
 | 0=>[]
 | n + 1=>.int lo :: dQ (lo + 1) n
theorem pe:∀ (n:Nat) (lo:Int) (i:Nat) (d:D),(dQ lo n)[i]? = some d -> i < n /\ d = .int (lo + i)
 | 0,_,_,_,h=>by simp [dQ] at h
 | n + 1,lo,0,d,h=>by simp [dQ] at h;exact ⟨Nat.succ_pos _,by rw [<- h];simp⟩
 | n + 1,lo,i + 1,d,h=>by
  obtain ⟨h1,h2⟩:=pe n (lo + 1) i d (by simpa [dQ] using h)
  exact ⟨Nat.succ_lt_succ h1,by rw [h2];congr 1;lia⟩
theorem pi:∀ (n:Nat) (lo:Int),(dQ lo n).length = n
 | 0,_=>rfl
 | n + 1,lo=>by rw [dQ,List.length_cons,pi n]
theorem vW (lo:Int) (n:Nat):Walks K (Itr lo n) S (dQ lo n):=fun S' H' _ _=>⟨fun i d h=>by
 obtain ⟨h1,rfl⟩:=pe n lo i d h
 exact ⟨h1,fun x H'' y=>⟨y.1,den_int.mpr y.2⟩⟩,by rw [pi];exact Nat.le_refl _⟩
noncomputable def De:List D -> Option (List D)
 | [.int j]=>ifC (j < 1000000 /\ -1000000 < j) (some (dQ 0 j.toNat)) none
 | [.int i,.int j]=>ifC (j < 4000000000000000000 /\ -4000000000000000000 < i /\ i < 4000000000000000000 /\ -4000000000000000000 < j) (some (dQ i (j - i).toNat)) none
 | _=>none
@[simp] noncomputable def xi (a:XA):XA:=fun ρ=>(a ρ).bind De
theorem IV {ta:TE}  (h:SPk K ta a):SI K (HK (fh ta oM)) (xi (ab a aj)):=fun ρ σ S H R l r x k=>by
 unfold xi at x
 cases q:ab a aj ρ with
 | none=>rw [q] at x;cases x
 | some ds=>
  rw [q] at x
  obtain ⟨d,e,qa,qb,rfl⟩:=g9 q
  cases qb
  cases d with
  | int j=>
   have x':ifC (j < 1000000 /\ -1000000 < j) (some (dQ 0 j.toNat)) none = some l:=x
   obtain ⟨hj,rfl⟩:=iX x'
   refine h ρ σ S H _ _ r qa fun v S1 H1 z1 d1=>?_
   refine ⟨j,by rw [d1.int],?_,?_,k _ S1 H1 z1 (vW 0 _)⟩
   ·have:(2:Int) ^ 62 = 4611686018427387904:=by decide
    lia
   ·have:(2:Int) ^ 62 = 4611686018427387904:=by decide
    lia
  | _=>cases x
theorem IW {ta tb:TE}  (h:SPk K ta a) (hb:SPk K tb b):SI K (HL (fh ta (fh tb oM))) (xi (ab a (ab b aj))):=fun ρ σ S H R l r x k=>by
 unfold xi at x
 cases q:ab a (ab b aj) ρ with
 | none=>rw [q] at x;cases x
 | some ds=>
  rw [q] at x
  obtain ⟨d,e,qa,qb,rfl⟩:=g9 q
  obtain ⟨d2,e2,qa2,qb2,rfl⟩:=g9 qb
  cases qb2
  cases d with
  | int i=>
   cases d2 with
   | int j=>
    have x':ifC (j < 4000000000000000000 /\ -4000000000000000000 < i /\ i < 4000000000000000000 /\ -4000000000000000000 < j) (some (dQ i (j - i).toNat)) none = some l:=x
    obtain ⟨hj,rfl⟩:=iX x'
    refine h ρ σ S H _ _ r qa fun v S1 H1 z1 d1=>?_
    refine hb ρ σ S1 H1 _ _ (r.ext z1) qa2 fun w S2 H2 z2 d2=>?_
    have:(2:Int) ^ 62 = 4611686018427387904:=by decide
    exact ⟨i,j,by rw [d1.int,d2.int],by lia,k _ S2 H2 (z1.trans z2) (vW i _)⟩
   | _=>cases x
  | _=>cases x
noncomputable def D8:Nat -> Nat -> List D
 | _,0=>[]
 | k,n + 1=>.int (2 * k) :: D8 (k + 1) n
noncomputable def LC:List D -> Option (List D)
 | [.int a,.int j,.int b]=>ifC (a = 0 /\ b = 2 /\ 0 <= j /\ j < 1000000) (some (D8 0 ((j + 1) / 2).toNat)) none
 | _=>none
@[simp] noncomputable def Ow (a:XA):XA:=fun ρ=>(a ρ).bind LC
noncomputable def e8 (g:XG) (m:XS):List D -> Env -> Option Out
 | [],ρ=>some (.nx ρ)
 | d :: l,ρ=>(g d ρ).bind fun ρ1=>match m ρ1 with
  | some (.nx ρ2)=>e8 g m l ρ2
  | some (.ct ρ2)=>e8 g m l ρ2
  | some (.bk ρ2)=>some (.nx ρ2)
  | some (.rt d)=>some (.rt d)
  | some (.ro d)=>some (.ro d)
  | none=>none
@[simp] noncomputable def gq (e:XA) (g:XG) (m:XS):XS:=fun ρ=>(e ρ).bind fun l=>e8 g m l ρ
theorem xR {l:List D} {i:Nat} {d:D} (h:l[i]? = some d):l.drop i = d :: l.drop (i + 1):=by
 obtain ⟨h1,rfl⟩:=List.getElem?_eq_some_iff.mp h
 exact List.drop_eq_getElem_cons h1
theorem LP {wi:TI}  {tb:TS}    (hi:SI K wi e) (hg:SG K g x) (hb:SS K tb m):SS K (Kn wi g tb) (gq e x m):=fun A Λ ρ σ S H E o r y k=>by
 unfold gq at y
 cases q:e ρ with
 | none=>rw [q] at y;cases y
 | some l=>
  rw [q] at y
  dsimp only [Option.bind] at y
  refine hi ρ σ S H _ l r.toRl q fun J S1 H1 z1 wk=>?_
  have r1:=r.ext z1
  refine ⟨fun i n σ' H'=>n = l.length - i /\ i <= l.length /\ ∃ ρ' S',RlA K A Λ ρ' σ' S' H' /\ Same S1 S' /\ e8 x m (l.drop i) ρ' = some o,⟨_,rfl,Nat.zero_le _,ρ,S1,r1,Same.refl _,y⟩,?_⟩
  rintro i n σ2 H2 ⟨rfl,hil,ρ2,S2,r2,s2,y2⟩
  obtain ⟨w1,w2⟩:=wk S2 H2 s2 r2.sub
  cases qd:l[i]? with
  | none=>
   have:l.length = i:=by have:=List.getElem?_eq_none_iff.mp qd;lia
   subst this
   rw [List.drop_of_length_le (Nat.le_refl _)] at y2
   cases y2
   exact .inl ⟨w2,k σ2 S2 H2 r2 (z1.sh.trans s2)⟩
  | some d=>
   obtain ⟨g1,g2⟩:=w1 i d qd
   have hlt:=(List.getElem?_eq_some_iff.mp qd).1
   rw [xR qd] at y2
   unfold e8 at y2
   cases qx:x d ρ2 with
   | none=>rw [qx] at y2;cases y2
   | some ρ3=>
    rw [qx] at y2
    dsimp only [Option.bind] at y2
    refine .inr ⟨g1,fun σ' H'=>∃ ρ' S',RlA K A Λ ρ' σ' S' H' /\ Same S1 S' /\ e8 x m (l.drop (i + 1)) ρ' = some o,fun σ' H' ⟨ρ',S',a1,a2,a3⟩=>⟨_,by lia,rfl,hlt,ρ',S',a1,a2,a3⟩,fun xv H3 hy=>?_⟩
    obtain ⟨rfl,dx⟩:=g2 xv H3 hy
    refine hg A Λ ρ2 σ2 S2 H3 xv d _ ρ3 r2 dx qx fun σ3 r3=>?_
    cases qm:m ρ3 with
    | none=>rw [qm] at y2;cases y2
    | some om=>
     rw [qm] at y2
     refine hb A Λ ρ3 σ3 S2 H3 _ om r3 qm ?_
     cases om with
     | nx ρ4=>exact fun σ4 S4 H4 r4 s4=>⟨ρ4,S4,r4,s2.trans s4,y2⟩
     | ct ρ4=>exact fun σ4 S4 H4 r4 s4=>⟨ρ4,S4,r4,s2.trans s4,y2⟩
     | bk ρ4=>cases y2;exact fun σ4 S4 H4 r4 s4=>k σ4 S4 H4 r4 ((z1.sh.trans s2).trans s4)
     | rt d4=>cases y2;exact fun v S4 H4 s4=>k v S4 H4 ((z1.sh.trans s2).trans s4)
     | ro d4=>cases y2;exact fun v fp S4 H4 s4=>k v fp S4 H4 ((z1.sh.trans s2).trans s4)
noncomputable def bV (c:XT) (m:XS):Nat -> Env -> Option Out
 | 0,_=>none
 | n + 1,ρ=>(c ρ).bind fun b=>if b = true then (match m ρ with
  | some (.nx ρ2)=>bV c m n ρ2
  | some (.ct ρ2)=>bV c m n ρ2
  | some (.bk ρ2)=>some (.nx ρ2)
  | some (.rt d)=>some (.rt d)
  | some (.ro d)=>some (.ro d)
  | none=>none) else some (.nx ρ)
theorem kF (c:XT) (m:XS):∀ (n:Nat) (ρ:Env) (o:Out),bV c m n ρ = some o -> bV c m (n + 1) ρ = some o
 | 0,_,_,h=>by cases h
 | n + 1,ρ,o,h=>by
  unfold bV at h ⊢
  cases qc:c ρ with
  | none=>rw [qc] at h;cases h
  | some b=>
   rw [qc] at h
   dsimp only [Option.bind] at h ⊢
   cases b with
   | false=>exact h
   | true=>
    rw [if_pos rfl] at h ⊢
    cases qm:m ρ with
    | none=>rw [qm] at h;cases h
    | some om=>
     rw [qm] at h
     cases om with
     | nx ρ2=>exact kF c m n ρ2 o h
     | ct ρ2=>exact kF c m n ρ2 o h
     | bk ρ2=>exact h
     | rt d=>exact h
     | ro d=>exact h
theorem nh (c:XT) (m:XS) (n:Nat) (ρ:Env) (o:Out) (h:bV c m n ρ = some o):∀ k,bV c m (n + k) ρ = some o
 | 0=>h
 | k + 1=>kF c m (n + k) ρ o (nh c m n ρ o h k)
noncomputable def oV (c:XT) (m:XS):XS:=fun ρ=>by
 classical
 exact if h:∃ o n,bV c m n ρ = some o then some h.choose else none
noncomputable def eL (c:XT) (m:XS):XS:=fun ρ=>(bV c m 64 ρ).or (oV c m ρ)
theorem ui    {o o':Out} {n k:Nat} (h:bV c m n ρ = some o) (h':bV c m k ρ = some o'):o' = o:=by
 have h3:=nh c m n ρ o h k
 have h4:=nh c m k ρ _ h' n
 rw [Nat.add_comm k n,h3] at h4
 exact (Option.some.inj h4).symm
theorem vZ   {n:Nat}  {o:Out} (h:bV c m n ρ = some o):eL c m ρ = some o:=by
 unfold eL
 cases q:bV c m 64 ρ with
 | some o'=>exact congrArg some (ui h q)
 | none=>
  have hx:∃ o n,bV c m n ρ = some o:=⟨o,n,h⟩
  show oV c m ρ = some o
  unfold oV
  rw [dif_pos hx]
  obtain ⟨n2,h2⟩:=hx.choose_spec
  exact congrArg some (ui h h2)
theorem vI    {o:Out} (h:eL c m ρ = some o):∃ n,bV c m n ρ = some o:=by
 unfold eL at h
 cases q:bV c m 64 ρ with
 | some o'=>rw [q] at h;exact ⟨64,q.trans h⟩
 | none=>
  rw [q] at h
  have h:oV c m ρ = some o:=h
  unfold oV at h
  split at h
  ·rename_i hx
   cases h
   exact hx.choose_spec
  ·cases h
theorem AU {c:XT}  {ρ:Env} (h:c ρ = some false):eL c m ρ = some (.nx ρ):=vZ (n:=1) (by unfold bV;rw [h];rfl)
theorem zl {c:XT} {m:XS} {ρ ρ2:Env} {o:Out} (h:c ρ = some true) (hm:m ρ = some (.nx ρ2)) (k:eL c m ρ2 = some o):eL c m ρ = some o:=by
 obtain ⟨n,hn⟩:=vI k
 exact vZ (n:=n + 1) (by unfold bV;rw [h,hm];exact hn)
theorem Hg {tc:TT} {tb:TS}   (hc:ST K tc c) (hb:SS K tb m):SS K (AK tc tb) (eL c m):=fun A Λ ρ σ S H E o r y k=>by
 obtain ⟨n,hn⟩:=vI y
 refine ⟨fun n σ' H'=>∃ ρ' S',RlA K A Λ ρ' σ' S' H' /\ Same S S' /\ bV c m n ρ' = some o,⟨n,ρ,S,r,Same.refl _,hn⟩,?_⟩
 rintro n σ1 H1 ⟨ρ1,S1,r1,s1,h1⟩
 cases n with
 | zero=>cases h1
 | succ n=>
  unfold bV at h1
  cases qc:c ρ1 with
  | none=>rw [qc] at h1;cases h1
  | some b=>
   rw [qc] at h1
   dsimp only [Option.bind] at h1
   refine hc ρ1 σ1 S1 H1 _ b r1.toRl qc fun S2 H2 z2=>?_
   have r2:=r1.ext z2
   cases b with
   | false=>
    rw [if_neg (by decide)] at h1
    cases h1
    exact CC (k σ1 S2 H2 r2 (s1.trans z2.sh))
   | true=>
    rw [if_pos rfl] at h1
    refine CD ⟨fun σ' H'=>∃ ρ' S',RlA K A Λ ρ' σ' S' H' /\ Same S S' /\ bV c m n ρ' = some o,fun σ' H' a=>⟨n,Nat.lt_succ_self _,a⟩,?_⟩
    cases qm:m ρ1 with
    | none=>rw [qm] at h1;cases h1
    | some om=>
     rw [qm] at h1
     refine hb A Λ ρ1 σ1 S2 H2 _ om r2 qm ?_
     cases om with
     | nx ρ4=>exact fun σ4 S4 H4 r4 s4=>⟨ρ4,S4,r4,(s1.trans z2.sh).trans s4,h1⟩
     | ct ρ4=>exact fun σ4 S4 H4 r4 s4=>⟨ρ4,S4,r4,(s1.trans z2.sh).trans s4,h1⟩
     | bk ρ4=>cases h1;exact fun σ4 S4 H4 r4 s4=>k σ4 S4 H4 r4 ((s1.trans z2.sh).trans s4)
     | rt d4=>cases h1;exact fun v S4 H4 s4=>k v S4 H4 ((s1.trans z2.sh).trans s4)
     | ro d4=>cases h1;exact fun v fp S4 H4 s4=>k v fp S4 H4 ((s1.trans z2.sh).trans s4)
@[simp] noncomputable def wA (js:List (Option Nat)) (ρ:Env):Env:=js.map fun o=>match o with | none=>.un | some j=>match ρ[j]? with | some (.sh d)=>.sh d | _=>.un
noncomputable def bm (g:XG) (c:XT) (e:XE) (ρ0:Env):List D -> Option (List D)
 | []=>some []
 | d :: l=>(g d ρ0).bind fun ρ1=>(c ρ1).bind fun b=>if b = true then (e ρ1).bind fun y=>(bm g c e ρ0 l).map fun r=>y :: r else bm g c e ρ0 l
@[simp] noncomputable def bQ (js:List (Option Nat)) (w:XA) (g:XG) (c:XT) (e:XE):XA:=fun ρ=>(w ρ).bind fun l=>if l.length <= LIM then bm g c e (wA js ρ) l else none
@[simp] noncomputable def cA:XT:=fun _=>some true
theorem LY:ST K HJ cA:=fun ρ σ S H Q b r x k=>by cases x;exact k S H (Ext.refl r.sub)
theorem nV {js:List (Option Nat)}  {i:Nat} {s:Sl} (h:(wA js ρ)[i]? = some s):s = .un \/ ∃ d j,s = .sh d /\ js[i]? = some (some j) /\ ρ[j]? = some (.sh d):=by
 unfold wA at h
 rw [List.getElem?_map] at h
 cases q:js[i]? with
 | none=>rw [q] at h;cases h
 | some o=>
  rw [q] at h
  cases o with
  | none=>cases h;exact .inl rfl
  | some j=>
   simp only [Option.map_some] at h
   cases q2:ρ[j]? with
   | none=>rw [q2] at h;cases h;exact .inl rfl
   | some s2=>
    rw [q2] at h
    cases s2 with
    | un=>cases h;exact .inl rfl
    | lo=>cases h;exact .inl rfl
    | ow l=>cases h;exact .inl rfl
    | sh d=>cases h;exact .inr ⟨d,j,rfl,rfl,q2⟩
noncomputable def jD (S H:Hp):Hp:=fun b=>match S b with | none=>H b | some _=>none
theorem uX:Same (jD S H) H:=fun b o h=>by
 unfold jD at h
 cases q:S b with
 | none=>rw [q] at h;exact h
 | some _=>rw [q] at h;cases h
theorem uW {S:Hp} (b:Addr):S b = none \/ jD S H b = none \/ ∃ u,jD S H b = some u /\ IT u:=by
 unfold jD
 cases q:S b with
 | none=>exact .inl rfl
 | some _=>exact .inr (.inl rfl)
theorem xy {S H:Hp} {b:Addr} {o:HO} (h:H b = some o) (n:S b = none):jD S H b = some o:=by
 unfold jD
 rw [n]
 exact h
theorem JL   (r:Rl K ρ σ S H) (js:List (Option Nat)):RlA K (jD S H) (fun _=>none) (wA js ρ) (inn js σ) S H:=by
 refine ⟨fun _=>[],?_⟩
 exact {
  len:=by unfold wA inn;rw [List.length_map,List.length_map]
  sub:=r.sub
  sh:=fun i d h=>by
   rcases nV h with e | ⟨d',j,e,h1,h2⟩
   ·cases e
   ·cases e
    obtain ⟨v,k1,k2⟩:=r.sh j d h2
    refine ⟨v,?_,k2⟩
    unfold inn
    rw [List.getElem?_map,h1]
    show some ((σ[j]?).join) = some (some v)
    rw [k1]
    rfl
  ow:=fun i o h=>by
   rcases nV h with e | ⟨d',j,e,h1,h2⟩
   ·cases e
   ·cases e
  dj:=fun i j o o' _ h=>by
   rcases nV h with e | ⟨d',j,e,h1,h2⟩
   ·cases e
   ·cases e
  lo:=fun i h=>by
   rcases nV h with e | ⟨d',j,e,h1,h2⟩
   ·cases e
   ·cases e
  asub:=uX
  adis:=uW }
theorem JR {js:List (Option Nat)} {wi:TI}  {tt:TIf} {te:TE}     (hi:SIP K wi w) (hg:SG K g x) (hc:ST K tt c) (he:SE K te e):SF K (vR js wi g tt te) (bQ js w x c e):=fun ρ σ S H Q l r y k=>by
 unfold bQ at y
 cases q:w ρ with
 | none=>rw [q] at y;cases y
 | some ds=>
  rw [q] at y
  dsimp only [Option.bind] at y
  split at y
  ·rename_i hlim
   refine hi ρ σ S H _ ds r q fun J S1 H1 z1 wk D hD=>?_
   have r1:=r.ext z1
   have hD0:H D = none:=(z1.same r.sub).free hD
   -- the word: what is told so far,what is still to be told
   refine ⟨fun i n H'=>n = ds.length - i /\ i <= ds.length /\ ∃ S' done ys rest,Ext S1 H1 S' H' /\ Same S1 S' /\ H' D = some (.lst ys) /\ S' D = none /\ Dens K S' done ys /\ done.length <= i /\ bm x c e (wA js ρ) (ds.drop i) = some rest /\ l = done ++ rest,
    ⟨_,rfl,Nat.zero_le _,S1,[],[],l,Ext.own z1.sub hD,Same.refl _,aB,z1.sub.free hD,.nil,Nat.zero_le _,y,rfl⟩,?_⟩
   rintro i n H2 ⟨rfl,hil,S2,done,ys,rest,z2,s2,hy,hSD,dy,hdl,y2,rfl⟩
   obtain ⟨w1,w2⟩:=wk S2 H2 z2
   cases qd:ds[i]? with
   | none=>
    have:ds.length = i:=by have:=List.getElem?_eq_none_iff.mp qd;lia
    subst this
    rw [List.drop_of_length_le (Nat.le_refl _)] at y2
    cases y2
    rw [List.append_nil] at k
    exact .inl ⟨w2,k D ys S2 H2 (z1.trans z2) hD0 hSD hy dy⟩
   | some d=>
    obtain ⟨g1,g2⟩:=w1 i d qd
    have hlt:=(List.getElem?_eq_some_iff.mp qd).1
    rw [xR qd] at y2
    unfold bm at y2
    cases qx:x d (wA js ρ) with
    | none=>rw [qx] at y2;cases y2
    | some ρ3=>
     rw [qx] at y2
     dsimp only [Option.bind] at y2
     refine .inr ⟨g1,fun xv H3 hyl=>?_⟩
     obtain ⟨rfl,dx⟩:=g2 xv H3 hyl
     have ri:=JL (r1.ext z2) js
     refine hg _ _ _ _ S2 H3 xv d _ ρ3 ri dx qx fun σ3 r3=>?_
     cases qc:c ρ3 with
     | none=>rw [qc] at y2;cases y2
     | some b=>
      rw [qc] at y2
      dsimp only at y2
      refine hc ρ3 σ3 S2 H3 _ b r3.toRl qc fun S4 H4 z4=>?_
      obtain ⟨al1,al2⟩:=z4.al D _ hy hSD
      cases b with
      | false=>
       rw [if_neg (by decide)] at y2
       exact CC ⟨_,by lia,rfl,hlt,S4,done,ys,rest,z2.trans z4,s2.trans z4.sh,al1,al2,dy.mono z4.sh,by lia,y2,rfl⟩
      | true=>
       rw [if_pos rfl] at y2
       cases qe:e ρ3 with
       | none=>rw [qe] at y2;cases y2
       | some dv=>
        rw [qe] at y2
        dsimp only at y2
        cases qr:bm x c e (wA js ρ) (ds.drop (i + 1)) with
        | none=>rw [qr] at y2;cases y2
        | some rest2=>
         rw [qr] at y2
         cases y2
         refine CD (he ρ3 σ3 S4 H4 _ dv (r3.toRl.ext z4) qe fun v S5 H5 z5 d5=>?_)
         obtain ⟨b1,b2⟩:=z5.al D _ al1 al2
         refine ⟨ys,b1,?_,_,by lia,rfl,hlt,S5,done ++ [dv],ys ++ [v],rest2,?_,(s2.trans z4.sh).trans z5.sh,aB,b2,((dy.mono z4.sh).mono z5.sh).append (.cons d5 .nil),by rw [List.length_append,List.length_singleton];lia,qr,by rw [List.append_assoc];rfl⟩
         ·rw [<- dy.length]
          exact Nat.lt_of_lt_of_le (Nat.lt_of_le_of_lt hdl hlt) (Nat.le_trans hlim (Nat.le_of_lt iE))
         ·have z6:=(z2.trans z4).trans z5
          exact ⟨z6.sh,fun b u hb=>by rw [aF fun z=>by subst z;rw [b2] at hb;cases hb];exact z6.sub b u hb,fun b o hb hn=>by
           obtain ⟨c1,c2⟩:=z6.alw b o hb hn
           exact ⟨by rw [aF fun z=>by subst z;rw [hD] at hb;cases hb];exact c1,c2⟩⟩
  ·cases y
@[simp] noncomputable def Oe (i:Nat) (g:XG) (m:XS):XS:=fun ρ=>match ρ[i]? with
 | some (.ow (.lst os))=>(match shs os with
  | some l=>(match e8 g m l (ρ.set i .lo) with
   | some (.nx ρ')=>(match ρ'[i]? with | some .lo=>some (.nx (ρ'.set i (.ow (.lst os)))) | _=>none)
   | some (.rt d)=>some (.rt d)
   | _=>none)
  | none=>none)
 | _=>none
noncomputable def fnO (n:Nat) (x:XS) (ds:List D):Option O:=match x (ds.map .sh ++ List.replicate (n - ds.length) .un) with
 | some (.rt d)=>some (.sh d)
 | some (.ro o)=>some o
 | some (.nx _)=>some (.sh .non)
 | _=>none
theorem Fw {N:List Str} {ds:List D}  (s:Same S H) (h:Dens K S ds vs):RlA K (jD S H) (fun _=>none) (ds.map .sh ++ List.replicate (N.length - ds.length) .un) (L2.di N vs) S H:=by
 have hl:=h.length
 have key:∀ (i:Nat) t,(ds.map Sl.sh ++ List.replicate (N.length - ds.length) .un)[i]? = some t -> t = .un \/ ∃ d v,t = .sh d /\ (L2.di N vs)[i]? = some (some v) /\ Den K S d v:=fun i t ht=>by
  by_cases hi:i < ds.length
  ·rw [List.getElem?_append_left (by rw [List.length_map];exact hi),List.getElem?_map] at ht
   cases q:ds[i]? with
   | none=>rw [q] at ht;cases ht
   | some d=>
    rw [q] at ht
    cases ht
    obtain ⟨v,e1,e2⟩:=h.get q
    refine .inr ⟨d,v,rfl,?_,e2⟩
    unfold L2.di
    rw [List.getElem?_append_left (by rw [List.length_map];lia),List.getElem?_map,e1]
    rfl
  ·rw [List.getElem?_append_right (by rw [List.length_map];lia),List.getElem?_replicate] at ht
   split at ht
   ·cases ht;exact .inl rfl
   ·cases ht
 refine ⟨fun _=>[],?_⟩
 exact {
  len:=by unfold L2.di;rw [List.length_append,List.length_append,List.length_map,List.length_map,List.length_replicate,List.length_replicate,hl]
  sub:=s
  sh:=fun i d hi=>by
   rcases key i _ hi with e | ⟨d',v,e,h1,h2⟩
   ·cases e
   ·cases e;exact ⟨v,h1,h2⟩
  ow:=fun i o hi=>by
   rcases key i _ hi with e | ⟨d',v,e,h1,h2⟩
   ·cases e
   ·cases e
  dj:=fun i j o o' _ hi=>by
   rcases key i _ hi with e | ⟨d',v,e,h1,h2⟩
   ·cases e
   ·cases e
  lo:=fun i hi=>by
   rcases key i _ hi with e | ⟨d',v,e,h1,h2⟩
   ·cases e
   ·cases e
  asub:=uX
  adis:=uW }
theorem yS   {N:List Str} {n k:Nat}     (hs:SS K t x) (hN:N.length = n) (h:bW K k (fnO n x) vs H Q E) :
  t { nx:=fun _ H'=>Q .non H',rt:=Q } (L2.di N vs) H:=by
 obtain ⟨_,S,ds,d,s,dd,y,q⟩:=h
 subst hN
 unfold fnO at y
 have r:=Fw (N:=N) s dd
 have ex:∀ {S' H':Hp},Same S S' -> Same S' H' -> Same (jD S H) H' -> (∀ b,S' b = none \/ jD S H b = none \/ ∃ u,jD S H b = some u /\ IT u) -> Ext S H S' H':=fun s1 s2 s3 s4=>⟨s1,s2,fun b o hb hn=>by
  have ha:=xy hb hn
  refine ⟨s3 b o ha,?_⟩
  rcases s4 b with z | z | ⟨u,z,hu⟩
  ·exact .inl z
  ·rw [ha] at z;cases z
  ·rw [ha] at z;cases z;exact .inr hu⟩
 cases qx:x (ds.map .sh ++ List.replicate (N.length - ds.length) .un) with
 | none=>rw [qx] at y;cases y
 | some o=>
  rw [qx] at y
  refine hs _ _ _ _ S H _ o r qx ?_
  cases o with
  | rt d'=>
   cases y
   exact fun v S' H' s1 s2 s3 s4 dv=>q v [] S' H' (ex s1 s2 s3 s4) (own_sh.mpr ⟨rfl,dv⟩) .nil fun b hb=>by cases hb
  | ro o'=>
   cases y
   refine fun v fp S' H' s1 s2 s3 s4 ow nd n=>q v fp S' H' (ex s1 s2 s3 s4) ow nd fun b hb=>⟨?_,(n b hb).1⟩
   cases qb:H b with
   | none=>rfl
   | some u=>
    have:=xy qb (s1.free (n b hb).1)
    rw [(n b hb).2] at this;cases this
  | nx ρ'=>
   cases y
   exact fun σ' S' H' r' s1=>q .non [] S' H' (ex s1 r'.sub r'.asub r'.adis) (own_sh.mpr ⟨rfl,den_non.mpr rfl⟩) .nil fun b hb=>by cases hb
  | bk ρ'=>cases y
  | ct ρ'=>cases y
end
noncomputable def dI (f:Int -> Int -> Option D):D -> D -> Option D
 | .int i,.int j=>f i j
 | _,_=>none
noncomputable def df:D -> D -> Option D:=dI fun i j=>ifC ((-18446744073709551616 < i /\ i < 18446744073709551616) \/ (-18446744073709551616 < j /\ j < 18446744073709551616)) (some (.int (i * j))) none
noncomputable def eW:D -> D -> Option D:=dI fun i j=>ifC (0 < j /\ j < 1073741824) (some (.int (i / j))) none
noncomputable def eD:D -> D -> Option D:=dI fun i j=>ifC (0 < j) (some (.int (i % j))) none
noncomputable def Go:D -> D -> Option D:=dI fun i j=>ifC (0 <= j /\ j <= 1000000 /\ i.natAbs < 18446744073709551616) (some (.int (i ^ j.toNat))) none
noncomputable def hE:D -> D -> Option D:=dI fun i j=>some (.int (i - j))
noncomputable def dLt:D -> D -> Option D:=dI fun i j=>some (.bl (decide (i < j)))
noncomputable def dLe:D -> D -> Option D:=dI fun i j=>some (.bl (decide (i <= j)))
noncomputable def dGt:D -> D -> Option D:=dI fun i j=>some (.bl (decide (j < i)))
noncomputable def dGe:D -> D -> Option D:=dI fun i j=>some (.bl (decide (j <= i)))
noncomputable def dN:D -> Option D
 | .int i=>some (.int (-i))
 | _=>none
section
variable {K:W.Frag}
theorem r_i {C:Int -> Int -> Prop} {g:Int -> Int -> V} {f:Int -> Int -> Option D} (h:∀ i j d,f i j = some d -> C i j /\ o8 d = some (g i j)):SR2 K (rI C g) (dI f):=fun S H x y d e z Q s dx dy q k=>by
 cases d <;> cases e <;> try cases q
 rename_i i j
 obtain ⟨h1,h2⟩:=h i j z q
 exact ⟨i,j,dx.int,dy.int,h1,k _ S H (Ext.refl s) (nM h2)⟩
theorem Fv {g:Int -> Int -> V} {f:Int -> Int -> Option D} (h:∀ i j d,f i j = some d -> o8 d = some (g i j)):SR2 K (rI0 g) (dI f):=fun S H x y d e z Q s dx dy q k=>by
 cases d <;> cases e <;> try cases q
 rename_i i j
 exact ⟨i,j,dx.int,dy.int,k _ S H (Ext.refl s) (nM (h i j z q))⟩
theorem Lx:SR2 K (rI CMul fun i j=>.int (i * j)) df:=r_i fun i j d h=>by
 obtain ⟨c,rfl⟩:=iX h
 refine ⟨?_,rfl⟩
 unfold CMul
 have:(2:Int) ^ 64 = 18446744073709551616:=by decide
 rw [this]
 exact c
theorem Ls:SR2 K (rI Kx fun i j=>.int (i / j)) eW:=r_i fun i j d h=>by
 obtain ⟨c,rfl⟩:=iX h
 exact ⟨c,rfl⟩
theorem Lv:SR2 K (rI (fun _ j=>0 < j) fun i j=>.int (i % j)) eD:=r_i fun i j d h=>by
 obtain ⟨c,rfl⟩:=iX h
 exact ⟨c,rfl⟩
theorem Ly:SR2 K (rI Ib fun i j=>.int (i ^ j.toNat)) Go:=r_i fun i j d h=>by
 obtain ⟨c,rfl⟩:=iX h
 refine ⟨?_,rfl⟩
 unfold Ib
 have:(2:Nat) ^ 64 = 18446744073709551616:=by decide
 rw [this]
 exact c
theorem Lz:SR2 K (rI0 fun i j=>.int (i - j)) hE:=Fv fun i j d h=>by cases h;rfl
theorem JK:SR2 K (rI0 fun i j=>.bl (decide (i < j))) dLt:=Fv fun i j d h=>by cases h;rfl
theorem ML:SR2 K (rI0 fun i j=>.bl (decide (i <= j))) dLe:=Fv fun i j d h=>by cases h;rfl
theorem MI:SR2 K (rI0 fun i j=>.bl (decide (j < i))) dGt:=Fv fun i j d h=>by cases h;rfl
theorem yQ:SR1 K (rU fun i=>.int (-i)) dN:=fun S H x d g Q s dx q k=>by
 cases d <;> try cases q
 rename_i i
 exact ⟨i,dx.int,k _ S H (Ext.refl s) (den_int.mpr rfl)⟩
end
noncomputable def HS:R2:=fun x y H Q=>∃ l b xs zs,x = .ref l /\ y = .ref b /\ Rd H l (.lst xs) /\ Rd H b (.lst zs) /\ xs.length + zs.length <= sizeLine /\ ∀ p,H p = none -> Q (.ref p) (upd H p (.lst (xs ++ zs)))
noncomputable def HY (K:W.Frag):R2:=fun x y H Q=>∃ a b xs ys,x = .ref a /\ y = .ref b /\ SqT K H a xs /\ SqT K H b ys /\ xs.length + ys.length <= sizeLine /\
 (ys = [] -> Q (.ref a) H) /\ (xs = [] -> Q (.ref b) H) /\ ∀ p,H p = none -> Q (.ref p) (upd H p (.tup (xs ++ ys)))
noncomputable def HW:R2:=fun x y H Q=>∃ i j,x = .str i /\ y = .str j /\ i.length + j.length <= sizeLine /\ Q (.str (i ++ j)) H
noncomputable def Fm (K:W.Frag):R2:=fun x y H Q=>(∃ i j,x = .int i /\ y = .int j /\ Q (.int (i + j)) H) \/ HS x y H Q \/ HY K x y H Q \/ HW x y H Q
noncomputable def bC:D -> D -> Option D
 | .int i,.int j=>some (.int (i + j))
 | .lst a,.lst b=>if a.length + b.length <= LIM then some (.lst (a ++ b)) else none
 | .tup a,.tup b=>if a.length + b.length <= LIM then some (.tup (a ++ b)) else none
 | .str a,.str b=>if a.length + b.length <= LIM then some (.str (a ++ b)) else none
 | _,_=>none
section
variable {K:W.Frag}
theorem Dens.nil_iff  {ds:List D} {xs:List V} (h:Dens K S ds xs):xs = [] ↔ ds = []:=by
 have:=h.length
 cases ds <;> cases xs <;> simp_all
theorem sR {n:Nat} (h:n <= LIM):n <= sizeLine:=Nat.le_of_lt (Nat.lt_of_le_of_lt h iE)
theorem HZ:SR2 K (Fm K) bC:=fun S H x y d e z Q s dx dy q k=>by
 cases d <;> cases e <;> try (cases q;done)
 ·rename_i i j
  cases q
  exact .inl ⟨i,j,dx.int,dy.int,k _ S H (Ext.refl s) (den_int.mpr rfl)⟩
 ·rename_i i j
  have q':(if i.length + j.length <= LIM then some (D.str (i ++ j)) else none) = some z:=q
  split at q'
  ·rename_i hl
   cases q'
   exact .inr (.inr (.inr ⟨i,j,dx.str,dy.str,sR hl,k _ S H (Ext.refl s) (den_str.mpr rfl)⟩))
  ·cases q'
 ·rename_i a b
  have q':(if a.length + b.length <= LIM then some (D.lst (a ++ b)) else none) = some z:=q
  split at q'
  ·rename_i hl
   cases q'
   obtain ⟨p,xs,rfl,h1,h2⟩:=dx.lst s
   obtain ⟨p',ys,rfl,h3,h4⟩:=dy.lst s
   refine .inr (.inl ⟨p,p',xs,ys,rfl,rfl,h1,h3,by rw [<- h2.length,<- h4.length];exact sR hl,fun q hq=>?_⟩)
   have z:=Ext.new (o:=.lst (xs ++ ys)) s hq
   exact k _ _ _ z (den_lst.mpr ⟨q,_,rfl,.inl aB,(h2.append h4).mono z.sh⟩)
  ·cases q'
 ·rename_i a b
  have q':(if a.length + b.length <= LIM then some (D.tup (a ++ b)) else none) = some z:=q
  split at q'
  ·rename_i hl
   cases q'
   obtain ⟨p,xs,e1,h1,h2⟩:=dx.tup s
   obtain ⟨p',ys,e2,h3,h4⟩:=dy.tup s
   have dx':Den K S (.tup a) x:=dx.elim id fun ⟨_,_,_,e,_⟩=>by cases e
   have dy':Den K S (.tup b) y:=dy.elim id fun ⟨_,_,_,e,_⟩=>by cases e
   subst e1 e2
   refine .inr (.inr (.inl ⟨p,p',xs,ys,rfl,rfl,h1,h3,by rw [<- h2.length,<- h4.length];exact sR hl,fun e=>?_,fun e=>?_,fun q hq=>?_⟩))
   ·have:=h4.nil_iff.mp e
    subst this
    exact k _ S H (Ext.refl s) (by rw [List.append_nil];exact dx')
   ·have:=h2.nil_iff.mp e
    subst this
    exact k _ S H (Ext.refl s) (by rw [List.nil_append];exact dy')
   ·have z:=Ext.new (o:=.tup (xs ++ ys)) s hq
    exact k _ _ _ z (den_tup.mpr ⟨q,_,rfl,TpA.of aB,(h2.append h4).mono z.sh⟩)
  ·cases q'
end
mutual
noncomputable def eqD:D -> D -> Bool
 | .non,.non=>true
 | .bl a,.bl b=>a == b
 | .bl a,.int j=>(if a then 1 else 0) == j
 | .int i,.bl b=>i == (if b then 1 else 0)
 | .int i,.int j=>i == j
 | .str x,.str y=>x == y
 | .lst a,.lst b=>eqDs a b
 | .tup a,.tup b=>eqDs a b
 | .tup a,.mtp b=>eqDs a b
 | .mtp a,.tup b=>eqDs a b
 | .mtp a,.mtp b=>eqDs a b
 | _,_=>false
noncomputable def eqDs:List D -> List D -> Bool
 | [],[]=>true
 | x :: xs,y :: ys=>eqD x y && eqDs xs ys
 | _,_=>false
end
mutual
noncomputable def okD:Nat -> D -> Bool
 | _,.non=>true
 | _,.bl _=>true
 | _,.int _=>true
 | _,.str x=>PyData.strOk x
 | n + 1,.lst l=>okDs n l
 | n + 1,.tup l=>okDs n l
 | n + 1,.mtp l=>okDs n l
 | _,_=>false
noncomputable def okDs:Nat -> List D -> Bool
 | _,[]=>true
 | n,d :: l=>okD n d && okDs n l
end
noncomputable def Hc (K:W.Frag) (neg:Bool):R2:=fun x y H Q=>∃ S d e,Same S H /\ DenP K S H d x /\ DenP K S H e y /\ okD 50 d = true /\ okD 50 e = true /\ Q (.bl (if neg then !eqD d e else eqD d e)) H
noncomputable def dEq (neg:Bool) (d e:D):Option D:=if okD 50 d = true /\ okD 50 e = true then some (.bl (if neg then !eqD d e else eqD d e)) else none
section
variable {K:W.Frag}
theorem Lu (neg:Bool):SR2 K (Hc K neg) (dEq neg):=fun S H x y d e z Q s dx dy q k=>by
 unfold dEq at q
 split at q
 ·rename_i c
  cases q
  exact ⟨S,d,e,s,dx,dy,c.1,c.2,k _ S H (Ext.refl s) (den_bl.mpr rfl)⟩
 ·cases q
end
noncomputable def sI:D -> Bool
 | .non=>true | _=>false
noncomputable def MA (neg:Bool) (d e:D):Option D:=match e with | .non=>some (.bl (if neg then !sI d else sI d)) | _=>none
section
variable {K:W.Frag}
end
noncomputable def dIx:D -> D -> Option D
 | .lst l,.int i=>atI l i
 | .tup l,.int i=>atI l i
 | .scr l,.int i=>atI l i
 | .mtp l,.int i=>atI l i
 | .str x,.int i=>if x.length <= LIM then (atI x.cps.toList i).map fun c=>.str ⟨#[c]⟩ else none
 | _,_=>none
section
variable {K:W.Frag}
theorem nI  {ds:List D} {xs:List V} {i:Int} {d:D} (h:Dens K S ds xs) (e:atI ds i = some d):∃ v,atI xs i = some v /\ Den K S d v:=by
 unfold atI at e ⊢
 rw [<- h.length]
 cases q:ixN ds.length i with
 | none=>rw [q] at e;cases e
 | some j=>
  rw [q] at e
  exact h.get e
theorem MJ:SR2 K (rIx K) dIx:=fun S H x y d e z Q s dx dy q k=>by
 cases d <;> cases e <;> try (cases q;done)
 ·rename_i x' i
  have q':(if x'.length <= LIM then (atI x'.cps.toList i).map fun c=>D.str ⟨#[c]⟩ else none) = some z:=q
  split at q'
  ·rename_i hl
   cases qc:atI x'.cps.toList i with
   | none=>rw [qc] at q';cases q'
   | some c=>
    rw [qc] at q'
    cases q'
    exact .inr (.inr ⟨x',i,c,dx.str,dy.int,sR hl,qc,k _ S H (Ext.refl s) (den_str.mpr rfl)⟩)
  ·cases q'
 ·rename_i l i
  obtain ⟨p,xs,rfl,h1,h2⟩:=dx.lst s
  obtain ⟨v,h3,h4⟩:=nI h2 q
  exact .inl ⟨p,xs,i,v,rfl,dy.int,.inl h1,h3,k v S H (Ext.refl s) h4⟩
 ·rename_i l i
  obtain ⟨p,xs,rfl,h1,h2⟩:=dx.tup s
  obtain ⟨v,h3,h4⟩:=nI h2 q
  exact .inr (.inl ⟨p,xs,i,v,rfl,dy.int,h1,h3,k v S H (Ext.refl s) h4⟩)
 ·rename_i l i
  obtain ⟨p,xs,rfl,h1,h2⟩:=dx.scr s
  obtain ⟨v,h3,h4⟩:=nI h2 q
  exact .inl ⟨p,xs,i,v,rfl,dy.int,h1,h3,k v S H (Ext.refl s) h4⟩
 ·rename_i l i
  obtain ⟨p,xs,rfl,h1,h2⟩:=dx.mtp s
  obtain ⟨v,h3,h4⟩:=nI h2 q
  exact .inr (.inl ⟨p,xs,i,v,rfl,dy.int,h1,h3,k v S H (Ext.refl s) h4⟩)
end
noncomputable def eB {α:Type} (xs:List α) (lo hi:Option Int):List α:=(xs.drop (HT.sIx xs.length 0 lo)).take (HT.sIx xs.length xs.length hi - HT.sIx xs.length 0 lo)
noncomputable def JI (K:W.Frag):V -> Option Int -> Option Int -> Hp -> VK -> Prop:=fun x lo hi H Q=>Lr K x lo hi H Q \/
 ∃ a xs,x = .ref a /\ SqT K H a xs /\ (k6 xs lo hi = xs -> Q (.ref a) H) /\ ∀ p,H p = none -> Q (.ref p) (upd H p (.tup (k6 xs lo hi)))
noncomputable abbrev XO:=Env -> Option (Option Int)
def SO (K:W.Frag) (t:TO) (o:XO):Prop:=∀ ρ σ S H (Q:Option Int -> Hp -> Prop) i,Rl K ρ σ S H -> o ρ = some i -> (∀ S' H',Ext S H S' H' -> Q i H') -> t σ H Q
@[simp] noncomputable def BR:XO:=fun _=>some none
@[simp] noncomputable def oT (a:XE):XO:=fun ρ=>(a ρ).bind fun d=>match d with | .int i=>some (some i) | _=>none
section
variable {K:W.Frag}
theorem FD:SO K xc BR:=fun ρ σ S H Q i r x k=>by cases x;exact k S H (Ext.refl r.sub)
theorem JZ {ta:TE}  (h:SPk K ta a):SO K (FV ta) (oT a):=fun ρ σ S H Q i r x k=>by
 unfold oT at x
 cases q:a ρ with
 | none=>rw [q] at x;cases x
 | some d=>
  rw [q] at x
  dsimp only [Option.bind] at x
  cases d <;> try (cases x;done)
  rename_i j
  cases x
  exact h ρ σ S H _ _ r q fun v S1 H1 z1 d1=>⟨j,d1.int,k S1 H1 z1⟩
theorem iV  {ds:List D} {xs:List V} (h:Dens K S ds xs) (lo hi:Option Int):Dens K S (eB ds lo hi) (k6 xs lo hi):=by
 unfold eB k6
 rw [h.length]
 exact (h.drop _).take _
noncomputable def dSl (d:D) (lo hi:Option Int):Option D:=match d with
 | .lst l=>some (.lst (eB l lo hi))
 | .tup l=>some (.tup (eB l lo hi))
 | .scr l=>some (.lst (eB l lo hi))
 | .mtp l=>some (.mtp (eB l lo hi))
 | _=>none
@[simp] noncomputable def xSl (a:XE) (lo hi:XO):XE:=fun ρ=>(a ρ).bind fun d=>(lo ρ).bind fun l=>(hi ρ).bind fun h=>dSl d l h
theorem MQ {te:TE} {tl th:TO}  {lo hi:XO} (ha:SPk K te a) (hl:SO K tl lo) (hh:SO K th hi):SE K (tSl (JI K) te tl th) (xSl a lo hi):=fun ρ σ S H Q g r x k=>by
 unfold xSl at x
 cases q:a ρ with
 | none=>rw [q] at x;cases x
 | some d=>
  rw [q] at x
  dsimp only [Option.bind] at x
  cases ql:lo ρ with
  | none=>rw [ql] at x;cases x
  | some l=>
   rw [ql] at x
   dsimp only at x
   cases qh:hi ρ with
   | none=>rw [qh] at x;cases x
   | some h=>
    rw [qh] at x
    dsimp only at x
    refine ha ρ σ S H _ d r q fun v S1 H1 z1 d1=>?_
    have r1:=r.ext z1
    refine hl ρ σ S1 H1 _ l r1 ql fun S2 H2 z2=>?_
    have r2:=r1.ext z2
    refine hh ρ σ S2 H2 _ h r2 qh fun S3 H3 z3=>?_
    have z23:=z2.trans z3
    have d3:=d1.mono z23 r1.sub
    have s3:=(r2.ext z3).sub
    have z:=z1.trans z23
    cases d <;> try (cases x;done)
    ·cases x
     obtain ⟨p,xs,rfl,h1,h2⟩:=d3.lst s3
     refine .inl ⟨p,xs,rfl,.inl h1,fun p' hp=>?_⟩
     have z4:=Ext.new (o:=.lst (k6 xs l h)) s3 hp
     exact k _ _ _ (z.trans z4) (den_lst.mpr ⟨p',_,rfl,.inl aB,(iV h2 l h).mono z4.sh⟩)
    ·rename_i ds
     cases x
     have d3':Den K S3 (.tup ds) v:=d3.elim id fun ⟨_,_,_,e,_⟩=>by cases e
     obtain ⟨p,xs,e,h1,h2⟩:=d3.tup s3
     subst e
     refine .inr ⟨p,xs,rfl,h1,fun e=>k _ S3 H3 z ?_,fun p' hp=>?_⟩
     ·obtain ⟨p2,xs2,e2,h3,h4⟩:=den_tup.mp d3'
      cases e2
      have c:=iV h2 l h
      rw [e] at c
      refine den_tup.mpr ⟨p,xs2,rfl,h3,?_⟩
      have hlen:=c.length
      have:eB ds l h = ds:=by
       have hl2:(eB ds l h).length = ds.length:=by rw [c.length,h2.length]
       unfold eB at hl2 ⊢
       rw [List.length_take,List.length_drop] at hl2
       have a0:HT.sIx ds.length 0 l = 0 \/ ds.length = 0:=by lia
       rcases a0 with a0 | a0
       ·rw [a0,List.drop_zero] at *
        exact List.take_of_length_le (by lia)
       ·have:ds = []:=List.length_eq_zero_iff.mp a0
        subst this
        simp
      rw [this]
      exact h4
     ·have z4:=Ext.new (o:=.tup (k6 xs l h)) s3 hp
      exact k _ _ _ (z.trans z4) (den_tup.mpr ⟨p',_,rfl,TpA.of aB,(iV h2 l h).mono z4.sh⟩)
    ·cases x
     obtain ⟨p,xs,rfl,h1,h2⟩:=d3.scr s3
     refine .inl ⟨p,xs,rfl,h1,fun p' hp=>?_⟩
     have z4:=Ext.new (o:=.lst (k6 xs l h)) s3 hp
     exact k _ _ _ (z.trans z4) (den_lst.mpr ⟨p',_,rfl,.inl aB,(iV h2 l h).mono z4.sh⟩)
    ·rename_i ds
     cases x
     have d3':Den K S3 (.mtp ds) v:=d3.elim id fun ⟨_,_,_,e,_⟩=>by cases e
     obtain ⟨p,xs,e,h3,h4⟩:=den_mtp.mp d3'
     subst e
     refine .inr ⟨p,xs,rfl,aJ s3 h3,fun e=>k _ S3 H3 z (den_mtp.mpr ⟨p,xs,rfl,h3,by have c:=iV h4 l h;rwa [e] at c⟩),fun p' hp=>?_⟩
     have z4:=Ext.new (o:=.tup (k6 xs l h)) s3 hp
     exact k _ _ _ (z.trans z4) (den_mtp.mpr ⟨p',_,rfl,SqT.of aB,(iV h4 l h).mono z4.sh⟩)
noncomputable def Fp (K:W.Frag):List V -> Hp -> VK -> Prop:=fun xs H Q=>∃ x n,xs = [x] /\ KB K x H n /\ Q (.int n) H
noncomputable def kZ:List D -> Option D
 | [.lst l]=>some (.int l.length)
 | [.tup l]=>some (.int l.length)
 | [.scr l]=>some (.int l.length)
 | [.mtp l]=>some (.int l.length)
 | [.str x]=>if x.length <= LIM then some (.int x.length) else none
 | _=>none
theorem cR  {d:D}  (h:DensP K S H [d] vs):∃ v,vs = [v] /\ DenP K S H d v:=by
 cases h with
 | cons a b=>cases b;exact ⟨_,rfl,a⟩
theorem AN  {d e:D}  (h:DensP K S H [d,e] vs):∃ v w,vs = [v,w] /\ DenP K S H d v /\ DenP K S H e w:=by
 cases h with
 | cons a b=>cases b with
  | cons c b=>cases b;exact ⟨_,_,rfl,a,c⟩
theorem KI:SRB K (Fp K) kZ:=fun S H vs ds g Q s d q k=>by
 unfold kZ at q
 split at q
 ·rename_i l
  cases q
  obtain ⟨v,rfl,d1⟩:=cR d
  obtain ⟨p,xs,rfl,h1,h2⟩:=d1.lst s
  exact ⟨_,xs.length,rfl,.inl ⟨xs,.inl h1,rfl⟩,k _ S H (Ext.refl s) (den_int.mpr (by rw [h2.length]))⟩
 ·rename_i l
  cases q
  obtain ⟨v,rfl,d1⟩:=cR d
  obtain ⟨p,xs,rfl,h1,h2⟩:=d1.tup s
  exact ⟨_,xs.length,rfl,.inr ⟨xs,h1,rfl⟩,k _ S H (Ext.refl s) (den_int.mpr (by rw [h2.length]))⟩
 ·rename_i l
  cases q
  obtain ⟨v,rfl,d1⟩:=cR d
  obtain ⟨p,xs,rfl,h1,h2⟩:=d1.scr s
  exact ⟨_,xs.length,rfl,.inl ⟨xs,h1,rfl⟩,k _ S H (Ext.refl s) (den_int.mpr (by rw [h2.length]))⟩
 ·rename_i l
  cases q
  obtain ⟨v,rfl,d1⟩:=cR d
  obtain ⟨p,xs,rfl,h1,h2⟩:=d1.mtp s
  exact ⟨_,xs.length,rfl,.inr ⟨xs,h1,rfl⟩,k _ S H (Ext.refl s) (den_int.mpr (by rw [h2.length]))⟩
 ·rename_i x
  split at q
  ·rename_i hl
   cases q
   obtain ⟨v,rfl,d1⟩:=cR d
   exact ⟨_,x.length,rfl,by rw [d1.str];exact ⟨sR hl,rfl⟩,k _ S H (Ext.refl s) (den_int.mpr rfl)⟩
  ·cases q
 ·cases q
noncomputable def dA:List D -> Option D
 | [.lst l]=>some (.tup l)
 | [.tup l]=>some (.tup l)
 | [.scr l]=>some (.tup l)
 | _=>none
theorem Gi:SRB K (JJ K) dA:=fun S H vs ds g Q s d q k=>by
 unfold dA at q
 split at q
 ·rename_i l
  cases q
  obtain ⟨v,rfl,d1⟩:=cR d
  obtain ⟨p,xs,rfl,h1,h2⟩:=d1.lst s
  refine ⟨p,xs,rfl,.inl ⟨.inl h1,fun q hq=>?_⟩⟩
  have z:=Ext.new (o:=.tup xs) s hq
  exact k _ _ _ z (den_tup.mpr ⟨q,_,rfl,TpA.of aB,h2.mono z.sh⟩)
 ·rename_i l
  cases q
  obtain ⟨v,rfl,d1⟩:=cR d
  have d':Den K S (.tup l) v:=d1.elim id fun ⟨_,_,_,e,_⟩=>by cases e
  obtain ⟨p,xs,rfl,h1,h2⟩:=d1.tup s
  exact ⟨p,xs,rfl,.inr ⟨h1,k _ S H (Ext.refl s) d'⟩⟩
 ·rename_i l
  cases q
  obtain ⟨v,rfl,d1⟩:=cR d
  obtain ⟨p,xs,rfl,h1,h2⟩:=d1.scr s
  refine ⟨p,xs,rfl,.inl ⟨h1,fun q hq=>?_⟩⟩
  have z:=Ext.new (o:=.tup xs) s hq
  exact k _ _ _ z (den_tup.mpr ⟨q,_,rfl,TpA.of aB,h2.mono z.sh⟩)
 ·cases q
noncomputable def DR:List D -> Option (List D)
 | [.lst l]=>some l
 | [.tup l]=>some l
 | [.scr l]=>some l
 | _=>none
noncomputable def rS:List D -> Option D
 | [.int i,.int j]=>some (.int (if j > i then j else i))
 | _=>none
noncomputable def uZ:List D -> Option D
 | [.int i,.int j]=>some (.int (if j < i then j else i))
 | _=>none
theorem Iu:SRB K Lp rS:=fun S H vs ds g Q s d q k=>by
 unfold rS at q
 split at q
 ·rename_i i j
  cases q
  obtain ⟨v,w,rfl,d1,d2⟩:=AN d
  exact ⟨i,j,by rw [d1.int,d2.int],k _ S H (Ext.refl s) (den_int.mpr rfl)⟩
 ·cases q
theorem Iw:SRB K Lq uZ:=fun S H vs ds g Q s d q k=>by
 unfold uZ at q
 split at q
 ·rename_i i j
  cases q
  obtain ⟨v,w,rfl,d1,d2⟩:=AN d
  exact ⟨i,j,by rw [d1.int,d2.int],k _ S H (Ext.refl s) (den_int.mpr rfl)⟩
 ·cases q
noncomputable def bh:List D -> Option (List Int)
 | []=>some []
 | .int i :: l=>(bh l).map fun r=>i :: r
 | _=>none
theorem iY:∀ {ds:List D} {xs:List V} {ns:List Int},Dens K S ds xs -> bh ds = some ns -> xs = ns.map V.int /\ ds = ns.map D.int
 | [],xs,ns,h,e=>by cases e;exact ⟨h.nil_of,rfl⟩
 | d :: ds,xs,ns,h,e=>by
  obtain ⟨y,ys,rfl,h1,h2⟩:=h.cons_of
  cases d <;> try (cases e;done)
  rename_i i
  have e':(bh ds).map (fun r=>i :: r) = some ns:=e
  cases q:bh ds with
  | none=>rw [q] at e';cases e'
  | some ms=>
   rw [q] at e'
   cases e'
   obtain ⟨k1,k2⟩:=iY h2 q
   rw [den_int.mp h1,k1]
   exact ⟨rfl,congrArg (D.int i :: ·) k2⟩
theorem iZ:∀ ns:List Int,bh (ns.map D.int) = some ns
 | []=>rfl
 | n :: ns=>by rw [List.map_cons,bh,iZ ns];rfl
noncomputable def B6:List D -> Option D
 | [.lst l]=>(bh l).map fun ns=>.int ns.sum
 | _=>none
theorem KJ:SRB K (HX K) B6:=fun S H vs ds g Q s d q k=>by
 unfold B6 at q
 split at q
 ·rename_i l
  cases qi:bh l with
  | none=>rw [qi] at q;cases q
  | some ns=>
   rw [qi] at q
   cases q
   obtain ⟨v,rfl,d1⟩:=cR d
   obtain ⟨p,xs,rfl,h1,h2⟩:=d1.lst s
   obtain ⟨e,_⟩:=iY h2 qi
   subst e
   exact ⟨p,ns,rfl,.inl h1,k _ S H (Ext.refl s) (den_int.mpr rfl)⟩
 ·cases q
noncomputable def KG:List D -> Option D
 | [.int i]=>some (.int i)
 | [.bl b]=>some (.int (if b then 1 else 0))
 | _=>none
@[simp] noncomputable def Ot (a:XE):XA:=fun ρ=>(a ρ).bind fun d=>match d with | .lst l=>some l.reverse | _=>none
noncomputable def tyD:D -> Option String
 | .non=>some "NoneType" | .bl _=>some "bool" | .int _=>some "int" | .str _=>some "str" | .lst _=>some "list" | .tup _=>some "tuple" | _=>none
noncomputable def Hs (t T:String):Bool:=t == T || (t == "bool" && T == "int")
def tyM (K:W.Frag) (H:Hp) (x:V) (t:String):Prop:=match x with
 | .non=>t = "NoneType" | .bl _=>t = "bool" | .int _=>t = "int" | .str _=>t = "str"
 | .ref p=>(t = "list" /\ ∃ xs,Rd H p (.lst xs)) \/ (t = "tuple" /\ ∃ xs,SqT K H p xs)
 | _=>False
noncomputable def K2:List String:=["bool", "int", "str", "list", "tuple"]
noncomputable def Fo (K:W.Frag):List V -> Hp -> VK -> Prop:=fun xs H Q=>∃ x T t,xs = [x,.ty T] /\ tyM K H x t /\ T ∈ K2 /\ Q (.bl (Hs t T)) H
noncomputable def wj:List D -> Option D
 | [d,.ty T]=>if T ∈ K2 then (tyD d).map fun t=>.bl (Hs t T) else none
 | _=>none
theorem L5    {t:String} (s:Same S H) (h:DenP K S H d v) (e:tyD d = some t):tyM K H v t:=by
 cases d with
 | non=>rw [h.non];cases e;rfl
 | bl b=>rw [h.bl];cases e;rfl
 | int b=>rw [h.int];cases e;rfl
 | str b=>rw [h.str];cases e;rfl
 | lst l=>
  cases e
  obtain ⟨p,xs,rfl,h1,h2⟩:=h.lst s
  exact .inl ⟨rfl,xs,h1⟩
 | tup l=>
  cases e
  obtain ⟨p,xs,rfl,h1,h2⟩:=h.tup s
  exact .inr ⟨rfl,xs,h1⟩
 | _=>cases e
theorem KH:SRB K (Fo K) wj:=fun S H vs ds g Q s d q k=>by
 unfold wj at q
 split at q
 ·rename_i d0 T
  split at q
  ·rename_i hT
   cases qt:tyD d0 with
   | none=>rw [qt] at q;cases q
   | some t=>
    rw [qt] at q
    cases q
    obtain ⟨v,w,rfl,d1,d2⟩:=AN d
    exact ⟨v,T,t,by rw [d2.ty],L5 s d1 qt,hT,k _ S H (Ext.refl s) (den_bl.mpr rfl)⟩
  ·cases q
 ·cases q
end
noncomputable def uP (k:List Int):D:=.tup (k.map D.int)
noncomputable def GH:D -> Option (List Int)
 | .tup l=>if l.isEmpty then none else bh l
 | _=>none
noncomputable def keys:List D -> Option (List (List Int))
 | []=>some []
 | d :: l=>(GH d).bind fun k=>(keys l).map fun r=>k :: r
theorem yg:∀ a b:List Int,HT.bN a b = true -> HT.bN b a = false
 | [],[],h=>by cases h
 | [],_ :: _,_=>rfl
 | _ :: _,[],h=>by cases h
 | x :: a,y :: b,h=>by
  have h':(if x = y then HT.bN a b else decide (x < y)) = true:=h
  show (if y = x then HT.bN b a else decide (y < x)) = false
  by_cases e:x = y
  ·rw [if_pos e] at h';rw [if_pos e.symm];exact yg a b h'
  ·rw [if_neg e] at h';rw [if_neg (fun z=>e z.symm)]
   have:=of_decide_eq_true h'
   exact decide_eq_false (by lia)
theorem vA:∀ a b:List Int,HT.bN a b = false -> HT.bN b a = false -> a = b
 | [],[],_,_=>rfl
 | [],_ :: _,h,_=>by cases h
 | _ :: _,[],_,h=>by cases h
 | x :: a,y :: b,h,k=>by
  have h':(if x = y then HT.bN a b else decide (x < y)) = false:=h
  have k':(if y = x then HT.bN b a else decide (y < x)) = false:=k
  by_cases e:x = y
  ·rw [if_pos e] at h';rw [if_pos e.symm] at k'
   rw [e,vA a b h' k']
  ·rw [if_neg e] at h';rw [if_neg (fun z=>e z.symm)] at k'
   have:=of_decide_eq_false h'
   have:=of_decide_eq_false k'
   lia
theorem vB:∀ a b c:List Int,HT.bN a b = false -> HT.bN b c = false -> HT.bN a c = false
 | [],[],_,_,k=>k
 | [],_ :: _,_,h,_=>by cases h
 | _ :: _,_,[],_,_=>rfl
 | _ :: _,[],_ :: _,_,k=>by cases k
 | x :: a,y :: b,z :: c,h,k=>by
  have h':(if x = y then HT.bN a b else decide (x < y)) = false:=h
  have k':(if y = z then HT.bN b c else decide (y < z)) = false:=k
  show (if x = z then HT.bN a c else decide (x < z)) = false
  by_cases e1:x = y
  ·rw [if_pos e1] at h'
   subst e1
   by_cases e2:x = z
   ·rw [if_pos e2] at k' ⊢;exact vB a b c h' k'
   ·rw [if_neg e2] at k' ⊢;exact k'
  ·rw [if_neg e1] at h'
   have g1:=of_decide_eq_false h'
   by_cases e2:y = z
   ·subst e2
    rw [if_neg e1];exact h'
   ·rw [if_neg e2] at k'
    have g2:=of_decide_eq_false k'
    rw [if_neg (by lia)]
    exact decide_eq_false (by lia)
noncomputable def Cy (x:List Int):List (List Int) -> List (List Int)
 | []=>[x]
 | y :: l=>if HT.bN y x = true then y :: Cy x l else x :: y :: l
noncomputable def gY (ks:List (List Int)):List (List Int):=ks.foldr Cy []
theorem vo (x:List Int) (l:List (List Int)):(Cy x l).Perm (x :: l):=by
 induction l with
 | nil=>exact .refl _
 | cons y l ih=>
  unfold Cy
  split
  ·exact (ih.cons y).trans (.swap x y l)
  ·exact .refl _
noncomputable def qC (ns:List Int):List Int:=ns.mergeSort fun a b=>decide (a <= b)
theorem gZ (ks:List (List Int)):(gY ks).Perm ks:=by
 induction ks with
 | nil=>exact .refl _
 | cons x l ih=>exact (vo x (gY l)).trans (ih.cons x)
theorem mZ (ns:List Int):(qC ns).Perm ns:=List.mergeSort_perm _ _
theorem GD (x:List Int) (l:List (List Int)) (h:l.Pairwise fun a b=>HT.bN b a = false):(Cy x l).Pairwise fun a b=>HT.bN b a = false:=by
 induction l with
 | nil=>exact .cons (fun _ z=>by cases z) .nil
 | cons y l ih=>
  have hy:∀ z,z ∈ l -> HT.bN z y = false:=fun z hz=>List.rel_of_pairwise_cons h hz
  unfold Cy
  cases q:HT.bN y x with
  | true=>
   refine .cons (fun z hz=>?_) (ih (List.Pairwise.of_cons h))
   rcases List.mem_cons.mp ((vo x l).mem_iff.mp hz) with rfl | hz
   ·exact yg y _ q
   ·exact hy z hz
  | false=>
   refine .cons (fun z hz=>?_) h
   rcases List.mem_cons.mp hz with rfl | hz
   ·exact q
   ·exact vB z y x (hy z hz) q
theorem oE (ks:List (List Int)):(gY ks).Pairwise fun a b=>HT.bN b a = false:=by
 induction ks with
 | nil=>exact .nil
 | cons x l ih=>exact GD x (gY l) ih
theorem FK (ns:List Int):(qC ns).Pairwise (· <= ·):=by
 have h:=List.pairwise_mergeSort (le:=fun a b:Int=>decide (a <= b)) (fun a b c h k=>by
  have:=of_decide_eq_true h;have:=of_decide_eq_true k;exact decide_eq_true (by lia)) (fun a b=>by
  by_cases h:a <= b
  ·simp [h]
  ·simp [show b <= a by lia]) ns
 exact h.imp fun {a b} e=>of_decide_eq_true e
theorem AG {ks js:List (List Int)} (hp:js.Perm ks) (hw:js.Pairwise fun a b=>HT.bN b a = false):js = gY ks:=
 List.Perm.eq_of_pairwise (fun a b _ _ h k=>vA a b k h) hw (oE ks) (hp.trans (gZ ks).symm)
theorem AF {ns ms:List Int} (hp:ms.Perm ns) (hw:ms.Pairwise (· <= ·)):ms = qC ns:=
 List.Perm.eq_of_pairwise (fun a b _ _ h k=>by lia) hw (FK ns) (hp.trans (mZ ns).symm)
noncomputable def Fu (K:W.Frag):List V -> Hp -> VK -> Prop:=fun xs H Q=>∃ p,∃ yks:List (V × List Int),xs = [.ref p] /\ SqL K H p (yks.map (·.1)) /\ yks.length < 15000000 /\ (∀ yk ∈ yks,∃ q,yk.1 = .ref q /\ SqT K H q (yk.2.map V.int) /\ yk.2 ≠ []) /\
 ∀ (zks:List (V × List Int)) l,zks.Perm yks -> zks.Pairwise (fun a b=>HT.bN b.2 a.2 = false) -> H l = none -> Q (.ref l) (upd H l (.lst (zks.map (·.1))))
noncomputable def tU (K:W.Frag):List V -> Hp -> VK -> Prop:=fun xs H Q=>yP K xs H Q \/ Fu K xs H Q
noncomputable def ii:List D -> Option (List D)
 | [.lst l]=>if l.length < 15000000 then (match bh l with
  | some ns=>some ((qC ns).map D.int)
  | none=>(keys l).map fun ks=>(gY ks).map uP) else none
 | _=>none
section
variable {K:W.Frag}
theorem GI  {k:List Int} (h:GH d = some k):d = uP k /\ k ≠ []:=by
 cases d <;> try (cases h;done)
 rename_i l
 have h':(if l.isEmpty then none else bh l) = some k:=h
 split at h'
 ·cases h'
 ·rename_i hne
  have key:∀ (l:List D) (k:List Int),bh l = some k -> l = k.map D.int:=by
   intro l
   induction l with
   | nil=>intro k e;cases e;rfl
   | cons d l ih=>
    intro k e
    cases d <;> try (cases e;done)
    rename_i i
    have e':(bh l).map (fun r=>i :: r) = some k:=e
    cases q:bh l with
    | none=>rw [q] at e';cases e'
    | some m=>rw [q] at e';cases e';rw [ih m q];rfl
  have e:=key l k h'
  subst e
  exact ⟨rfl,fun z=>by subst z;exact hne rfl⟩
theorem Bh:∀ {l:List D} {ks:List (List Int)},keys l = some ks -> l = ks.map uP /\ ∀ k ∈ ks,k ≠ []
 | [],ks,h=>by cases h;exact ⟨rfl,fun _ h=>by cases h⟩
 | d :: l,ks,h=>by
  have h':((GH d).bind fun k=>(keys l).map fun r=>k :: r) = some ks:=h
  cases q:GH d with
  | none=>rw [q] at h';cases h'
  | some k=>
   rw [q] at h'
   dsimp only [Option.bind] at h'
   cases q2:keys l with
   | none=>rw [q2] at h';cases h'
   | some r=>
    rw [q2] at h'
    cases h'
    obtain ⟨a,b⟩:=Bh q2
    obtain ⟨c,d⟩:=GI q
    refine ⟨by rw [List.map_cons,<- a,<- c],fun k hk=>?_⟩
    rcases List.mem_cons.mp hk with rfl | hk
    ·exact d
    ·exact b k hk
theorem sG:∀ {S:Hp} {k:List Int} {xs:List V},Dens K S (k.map D.int) xs -> xs = k.map V.int
 | S,[],xs,h=>h.nil_of
 | S,i :: k,xs,h=>by
  obtain ⟨y,ys,rfl,h1,h2⟩:=h.cons_of
  rw [den_int.mp h1,sG h2]
  rfl
theorem xQ:∀ {ks:List (List Int)} {xs:List V},Dens K S (ks.map uP) xs -> (xs.zip ks).map (·.1) = xs /\ (xs.zip ks).map (·.2) = ks /\ (xs.zip ks).length = ks.length /\ ∀ yk ∈ xs.zip ks,Den K S (uP yk.2) yk.1
 | [],xs,h=>by rw [h.nil_of];exact ⟨rfl,rfl,rfl,fun _ h=>by cases h⟩
 | k :: ks,xs,h=>by
  obtain ⟨y,ys,rfl,h1,h2⟩:=h.cons_of
  obtain ⟨a,b,c,d⟩:=xQ h2
  refine ⟨by rw [List.zip_cons_cons,List.map_cons,a],by rw [List.zip_cons_cons,List.map_cons,b],by rw [List.zip_cons_cons,List.length_cons,c,List.length_cons],fun yk hm=>?_⟩
  rw [List.zip_cons_cons] at hm
  rcases List.mem_cons.mp hm with rfl | hm
  ·exact h1
  ·exact d yk hm
theorem lM:∀ {zks:List (V × List Int)},(∀ yk ∈ zks,Den K S (uP yk.2) yk.1) -> Dens K S ((zks.map (·.2)).map uP) (zks.map (·.1))
 | [],_=>.nil
 | yk :: zks,h=>.cons (h yk List.mem_cons_self) (lM fun z hz=>h z (List.mem_cons_of_mem _ hz))
theorem DT:SRF K (tU K) ii:=fun S H vs ds g Q s d q k=>by
 unfold ii at q
 split at q
 ·rename_i l
  split at q
  ·rename_i hl
   obtain ⟨v,rfl,d1⟩:=cR d
   obtain ⟨p,xs,rfl,h1,h2⟩:=d1.lst s
   cases qi:bh l with
   | some ns=>
    rw [qi] at q
    cases q
    obtain ⟨e1,e2⟩:=iY h2 qi
    subst e1 e2
    refine .inl ⟨p,ns,rfl,.inl h1,by rw [List.length_map] at hl;exact hl,fun ms a pm pw ha=>?_⟩
    rw [AF pm pw]
    refine k a _ _ (Ext.own s ha) ha aB ?_
    have key:∀ ns:List Int,Dens K S (ns.map D.int) (ns.map V.int):=by
     intro ns
     induction ns with
     | nil=>exact .nil
     | cons n ns ih=>exact .cons (den_int.mpr rfl) ih
    exact key _
   | none=>
    rw [qi] at q
    dsimp only at q
    cases qk:keys l with
    | none=>rw [qk] at q;cases q
    | some ks=>
     rw [qk] at q
     cases q
     obtain ⟨e1,e2⟩:=Bh qk
     subst e1
     obtain ⟨a,b,c,dd⟩:=xQ h2
     refine .inr ⟨p,xs.zip ks,rfl,by rw [a];exact .inl h1,by rw [c];rw [List.length_map] at hl;exact hl,fun yk hm=>?_,fun zks l pm pw hl=>?_⟩
     ·obtain ⟨q,ys,e,g1,g2⟩:=gF (dd yk hm)
      have:=sG g2
      subst this
      refine ⟨q,e,aJ s g1,e2 _ ?_⟩
      rw [<- b]
      exact List.mem_map.mpr ⟨yk,hm,rfl⟩
     ·have e:zks.map (·.2) = gY ks:=by
       refine AG ?_ ?_
       ·rw [<- b];exact pm.map _
       ·rw [List.pairwise_map];exact pw
      have dz:Dens K S ((zks.map (·.2)).map uP) (zks.map (·.1)):=lM fun yk hm=>dd yk (pm.mem_iff.mp hm)
      rw [e] at dz
      exact k l _ _ (Ext.own s hl) hl aB dz
  ·cases q
 ·cases q
end
noncomputable def vf:D -> D -> Option D:=dI fun i j=>some (.int (i + j))
section
variable {K:W.Frag}
theorem He:SR2 K (ipI fun i j=>i + j) vf:=Fv (g:=fun i j=>.int (i + j)) fun i j d h=>by cases h;rfl
end
theorem J7  {ta:TE}  (ha:SQ K ta a):ST K (MS K ta) (uk a):=fun ρ σ S H Q b r x k=>by
 unfold uk at x
 cases qa:a ρ with
 | none=>rw [qa] at x;cases x
 | some da=>
  rw [qa] at x
  exact ha ρ σ S H _ da r qa fun v S1 H1 z1 d1=>⟨b,Kp (Same.refl H1) (.inl d1) x,k S1 H1 z1⟩
theorem Aa (g:XG) (m:XS) (d:D) (l:List D) (ρ:Env):e8 g m (d :: l) ρ = (g d ρ).bind fun ρ1=>match m ρ1 with
  | some (.nx ρ2)=>e8 g m l ρ2
  | some (.ct ρ2)=>e8 g m l ρ2
  | some (.bk ρ2)=>some (.nx ρ2)
  | some (.rt d)=>some (.rt d)
  | some (.ro d)=>some (.ro d)
  | none=>none:=rfl
theorem vD {α:Type} {g:XG} {m:XS} (enc:α -> D) (P:List α -> Env -> Prop) (R:D -> Prop) (B:Env -> Prop) (l:List α) (ρ0:Env) (h0:P [] ρ0)
  (step:∀ pre a post ρ,l = pre ++ a :: post -> P pre ρ -> ∃ ρ1 o,g (enc a) ρ = some ρ1 /\ m ρ1 = some o /\ (match o with | .nx ρ2=>P (pre ++ [a]) ρ2 | .ct ρ2=>P (pre ++ [a]) ρ2 | .bk ρ2=>B ρ2 | .rt d=>R d | .ro _=>False)) :
  ∃ o,e8 g m (l.map enc) ρ0 = some o /\ (match o with | .nx ρ'=>P l ρ' \/ B ρ' | .rt d=>R d | _=>False):=by
 have key:∀ (post pre:List α) (ρ:Env),l = pre ++ post -> P pre ρ -> ∃ o,e8 g m (post.map enc) ρ = some o /\ (match o with | .nx ρ'=>P l ρ' \/ B ρ' | .rt d=>R d | _=>False):=by
  intro post
  induction post with
  | nil=>
   intro pre ρ e p
   rw [List.append_nil] at e
   subst e
   exact ⟨_,rfl,.inl p⟩
  | cons a post ih=>
   intro pre ρ e p
   obtain ⟨ρ1,o,h1,h2,h3⟩:=step pre a post ρ e p
   rw [List.map_cons,Aa,h1]
   dsimp only [Option.bind]
   rw [h2]
   cases o with
   | nx ρ2=>exact ih (pre ++ [a]) ρ2 (by rw [e,List.append_assoc];rfl) h3
   | ct ρ2=>exact ih (pre ++ [a]) ρ2 (by rw [e,List.append_assoc];rfl) h3
   | bk ρ2=>exact ⟨_,rfl,.inr h3⟩
   | rt d=>exact ⟨_,rfl,h3⟩
   | ro d=>exact h3.elim
 exact key l [] ρ0 rfl h0
theorem cj {α:Type} {g:XG} {m:XS} (enc:α -> D) (P:List α -> Env -> Prop) (l:List α) (ρ0:Env) (h0:P [] ρ0)
  (step:∀ pre a post ρ,l = pre ++ a :: post -> P pre ρ -> ∃ ρ1 ρ2,g (enc a) ρ = some ρ1 /\ (m ρ1 = some (.nx ρ2) \/ m ρ1 = some (.ct ρ2)) /\ P (pre ++ [a]) ρ2) :
  ∃ ρ',e8 g m (l.map enc) ρ0 = some (.nx ρ') /\ P l ρ':=by
 obtain ⟨o,h1,h2⟩:=vD (g:=g) (m:=m) enc P (fun _=>False) (fun _=>False) l ρ0 h0 fun pre a post ρ e p=>by
  obtain ⟨ρ1,ρ2,k1,k2,k3⟩:=step pre a post ρ e p
  rcases k2 with k2 | k2
  ·exact ⟨ρ1,_,k1,k2,k3⟩
  ·exact ⟨ρ1,_,k1,k2,k3⟩
 cases o with
 | nx ρ'=>exact ⟨ρ',h1,h2.elim id False.elim⟩
 | rt d=>exact h2.elim
 | ro d=>exact h2.elim
 | bk ρ'=>exact h2.elim
 | ct ρ'=>exact h2.elim
noncomputable def dD (g:XG) (c:XT) (e:XE) (ρ0:Env) (d:D):Option (Option D):=(g d ρ0).bind fun ρ1=>(c ρ1).bind fun b=>if b = true then (e ρ1).map some else some none
theorem fO {α:Type}     (enc:α -> D) (f:α -> Option D):∀ (l:List α),(∀ a ∈ l,dD g c e ρ0 (enc a) = some (f a)) -> bm g c e ρ0 (l.map enc) = some (l.filterMap f)
 | [],_=>rfl
 | a :: l,h=>by
  have ih:=fO (g:=g) (c:=c) (e:=e) (ρ0:=ρ0) enc f l fun b hb=>h b (List.mem_cons_of_mem _ hb)
  have h1:=h a List.mem_cons_self
  unfold dD at h1
  rw [List.map_cons,bm]
  cases q1:g (enc a) ρ0 with
  | none=>rw [q1] at h1;cases h1
  | some ρ1=>
   rw [q1] at h1
   dsimp only [Option.bind] at h1 ⊢
   cases q2:c ρ1 with
   | none=>rw [q2] at h1;cases h1
   | some b=>
    rw [q2] at h1
    dsimp only at h1 ⊢
    cases b with
    | false=>
     rw [if_neg (by decide)] at h1 ⊢
     rw [ih,List.filterMap_cons]
     have:f a = none:=(Option.some.inj h1).symm
     rw [this]
    | true=>
     rw [if_pos rfl] at h1 ⊢
     cases q3:e ρ1 with
     | none=>rw [q3] at h1;cases h1
     | some y=>
      rw [q3] at h1
      have:f a = some y:=(Option.some.inj h1).symm
      rw [ih,List.filterMap_cons,this]
      rfl
theorem aS {α:Type}    (enc:α -> D) (f:α -> D) (l:List α) (h:∀ a ∈ l,dD g cA e ρ0 (enc a) = some (some (f a))):bm g cA e ρ0 (l.map enc) = some (l.map f):=by
 rw [fO enc (fun a=>some (f a)) l h]
 exact congrArg some (congrFun List.filterMap_eq_map' l)
theorem jA {c:XT} {m:XS} (P:Env -> Prop) (μ:Env -> Nat) (E:Env -> Prop) (step:∀ ρ,P ρ -> (c ρ = some false /\ E ρ) \/ (c ρ = some true /\ ∃ ρ2,m ρ = some (.nx ρ2) /\ P ρ2 /\ μ ρ2 < μ ρ)) (ρ0:Env) (h0:P ρ0):∃ ρ',eL c m ρ0 = some (.nx ρ') /\ E ρ':=by
 have key:∀ (n:Nat) (ρ:Env),μ ρ = n -> P ρ -> ∃ ρ',eL c m ρ = some (.nx ρ') /\ E ρ':=by
  intro n
  induction n using Nat.strongRecOn with
  | ind n ih=>
   intro ρ hn p
   rcases step ρ p with ⟨h1,h2⟩ | ⟨h1,ρ2,h2,h3,h4⟩
   ·exact ⟨ρ,AU h1,h2⟩
   ·obtain ⟨ρ',k1,k2⟩:=ih (μ ρ2) (by lia) ρ2 rfl h3
    exact ⟨ρ',zl h1 h2 k1,k2⟩
 exact key _ ρ0 rfl h0
noncomputable abbrev prD (p:Int × Int):D:=.tup [.int p.1,.int p.2]
noncomputable abbrev a9 (r:List (Int × Int)):D:=.tup (r.map prD)
noncomputable abbrev Ab (r:List (Int × Int)):D:=.lst (r.map prD)
@[simp] theorem iU {α:Type} (l:List α) (x:α):atI (l ++ [x]) (-1) = some x:=by
 unfold atI ixN
 rw [if_neg (by decide),List.length_append,List.length_singleton,if_pos (by lia)]
 have:((-1:Int) + ((l.length + 1:Nat):Int)).toNat = l.length:=by lia
 dsimp only [Option.bind]
 rw [this]
 simp
theorem ji {α:Type} {l:List α} {j:Nat} {x:α} (h:l[j]? = some x):atI l (j:Int) = some x:=by
 have:=(List.getElem?_eq_some_iff.mp h).1
 unfold atI ixN
 rw [if_pos (by lia),if_pos (by lia)]
 dsimp only [Option.bind]
 rw [Int.toNat_natCast]
 exact h
@[simp] theorem vL (l:List O) (x:O) (f:O -> O):tT (l ++ [x]) (-1) f = l ++ [f x]:=by
 unfold tT ixN
 rw [if_neg (by decide),List.length_append,List.length_singleton,if_pos (by lia)]
 have:((-1:Int) + ((l.length + 1:Nat):Int)).toNat = l.length:=by lia
 dsimp only
 rw [this]
 simp
@[simp] theorem Kw {α:Type} (l:List α) (a b:α):atI (l ++ [a,b]) (-1) = some b:=by
 have:=iU (l ++ [a]) b
 rw [List.append_assoc] at this
 exact this
@[simp] theorem Me {α:Type} (a:α):atI [a] (-1) = some a:=iU [] a
@[simp] theorem JF (l:List O) (a b:O) (f:O -> O):tT (l ++ [a,b]) (-1) f = l ++ [a,f b]:=by
 have:=vL (l ++ [a]) b f
 rw [List.append_assoc,List.append_assoc] at this
 exact this
@[simp] theorem Lh (a:O) (f:O -> O):tT [a] (-1) f = [f a]:=vL [] a f
@[simp] theorem KN (i:Int):o8 (.int i) = some (.int i):=rfl
@[simp] theorem Mg (i:Bool):o8 (.bl i) = some (.bl i):=rfl
@[simp] theorem KP (i:Str):o8 (.str i) = some (.str i):=rfl
@[simp] theorem KO:o8 .non = some .non:=rfl
@[simp] theorem Mm (a b:O) (f:O -> O):tT [a,b] 1 f = [a,f b]:=rfl
theorem sJ {n:Nat}:ixN (n + 1) (-1) = some n:=by
 unfold ixN
 rw [if_neg (by decide),if_pos (by lia)]
 congr 1
 lia
section
variable (i j:Int) (a b:List D) (neg:Bool) (ρ:Env)
@[simp] theorem N6:hE (.int i) (.int j) = some (.int (i - j)):=rfl
@[simp] theorem NN:bC (.int i) (.int j) = some (.int (i + j)):=rfl
@[simp] theorem MU:vf (.int i) (.int j) = some (.int (i + j)):=rfl
@[simp] theorem OZ:dLt (.int i) (.int j) = some (.bl (decide (i < j))):=rfl
@[simp] theorem OY:dLe (.int i) (.int j) = some (.bl (decide (i <= j))):=rfl
@[simp] theorem OX:dGt (.int i) (.int j) = some (.bl (decide (j < i))):=rfl
@[simp] theorem OW:dGe (.int i) (.int j) = some (.bl (decide (j <= i))):=rfl
@[simp] theorem NZ:dN (.int i) = some (.int (-i)):=rfl
@[simp] theorem M8 {i j:Int} (h:-18446744073709551616 < j /\ j < 18446744073709551616):df (.int i) (.int j) = some (.int (i * j)):=aU (.inr h)
@[simp] theorem M7 {i j:Int} (h:-18446744073709551616 < i /\ i < 18446744073709551616):df (.int i) (.int j) = some (.int (i * j)):=aU (.inl h)
@[simp] theorem NO {i j:Int} (h:0 < j /\ j < 1073741824):eW (.int i) (.int j) = some (.int (i / j)):=aU h
@[simp] theorem NY {i j:Int} (h:0 < j):eD (.int i) (.int j) = some (.int (i % j)):=aU h
@[simp] theorem L9 {i j:Int} (h:0 <= j /\ j <= 1000000 /\ i.natAbs < 18446744073709551616):Go (.int i) (.int j) = some (.int (i ^ j.toNat)):=aU h
theorem AQ:bC (.lst a) (.lst b) = if a.length + b.length <= LIM then some (.lst (a ++ b)) else none:=rfl
theorem F1:bC (.tup a) (.tup b) = if a.length + b.length <= LIM then some (.tup (a ++ b)) else none:=rfl
@[simp] theorem NQ (d:D):MA neg d .non = some (.bl (if neg then !sI d else sI d)):=rfl
@[simp] theorem L6:sI .non = true:=rfl
@[simp] theorem L7:sI (.int i) = false:=rfl
@[simp] theorem L8:sI (.tup a) = false:=rfl
@[simp] theorem NR:dIx (.lst a) (.int i) = atI a i:=rfl
@[simp] theorem NU:dIx (.tup a) (.int i) = atI a i:=rfl
@[simp] theorem NT:dIx (.scr a) (.int i) = atI a i:=rfl
@[simp] theorem Nf:zf (.lst a) = some (!a.isEmpty):=rfl
@[simp] theorem Ni:zf (.tup a) = some (!a.isEmpty):=rfl
@[simp] theorem Nh:zf (.scr a) = some (!a.isEmpty):=rfl
@[simp] theorem Nc (x:Bool):zf (.bl x) = some x:=rfl
@[simp] theorem Nd:zf (.int i) = some (i != 0):=rfl
@[simp] theorem Ng:zf .non = some false:=rfl
@[simp] theorem M0:kZ [.lst a] = some (.int a.length):=rfl
@[simp] theorem M3:kZ [.tup a] = some (.int a.length):=rfl
@[simp] theorem M1:kZ [.scr a] = some (.int a.length):=rfl
@[simp] theorem Nj:dA [.lst a] = some (.tup a):=rfl
@[simp] theorem Nk:dA [.tup a] = some (.tup a):=rfl
@[simp] theorem M4:DR [.lst a] = some a:=rfl
@[simp] theorem M6:DR [.tup a] = some a:=rfl
@[simp] theorem M5:DR [.scr a] = some a:=rfl
@[simp] theorem NV:rS [.int i,.int j] = some (.int (if j > i then j else i)):=rfl
@[simp] theorem NW:uZ [.int i,.int j] = some (.int (if j < i then j else i)):=rfl
@[simp] theorem NP:KG [.int i] = some (.int i):=rfl
@[simp] theorem MV (x:Bool):KG [.bl x] = some (.int (if x then 1 else 0)):=rfl
@[simp] theorem M9:t0 (.lst a) = some a:=rfl
@[simp] theorem Nb:t0 (.tup a) = some a:=rfl
@[simp] theorem Na:t0 (.scr a) = some a:=rfl
@[simp] theorem N0 (lo hi:Option Int):dSl (.lst a) lo hi = some (.lst (eB a lo hi)):=rfl
@[simp] theorem N5 (lo hi:Option Int):dSl (.tup a) lo hi = some (.tup (eB a lo hi)):=rfl
@[simp] theorem N1 (lo hi:Option Int):dSl (.scr a) lo hi = some (.lst (eB a lo hi)):=rfl
@[simp] theorem OV (y:XGs):aO y (.tup a) ρ = y a ρ:=rfl
@[simp] theorem OT (x:XG) (y:XGs) (d:D):ak x y (d :: a) ρ = (x d ρ).bind (y a):=rfl
@[simp] theorem OU:aK [] ρ = some ρ:=rfl
@[simp] theorem MX:wj [.int i,.ty "int"] = some (.bl true):=rfl
@[simp] theorem MW:wj [.int i,.ty "bool"] = some (.bl false):=rfl
@[simp] theorem MZ:wj [.tup a,.ty "tuple"] = some (.bl true):=rfl
@[simp] theorem MY:wj [.lst a,.ty "list"] = some (.bl true):=rfl
@[simp] theorem Mp (x:Bool):wj [.bl x,.ty "bool"] = some (.bl true):=rfl
theorem Ma {j:Int} (h:j < 1000000 /\ -1000000 < j):De [.int j] = some (dQ 0 j.toNat):=aU h
end
noncomputable abbrev owl (l:List D):Sl:=.ow (.lst (l.map O.sh))
@[simp] theorem Lg (os:List O):E7 (.ow (.lst os)) = (shs os).map D.lst:=rfl
@[simp] theorem Mo:shs [] = some []:=rfl
@[simp] theorem y3 (d:D) (l:List O):shs (.sh d :: l) = (shs l).map fun r=>d :: r:=rfl
@[simp] theorem LZ (l:List D):shs (l.map O.sh) = some l:=rK l
@[simp] theorem FJ {α:Type} (f:α -> D) (l:List α):shs (l.map (O.sh ∘ f)) = some (l.map f):=by rw [<- List.map_map];exact rK _
@[simp] theorem L0 {α:Type} (f:α -> D) (l:List α):shs (l.map fun a=>O.sh (f a)) = some (l.map f):=FJ f l
@[simp] theorem Hk:∀ (a b:List O),shs (a ++ b) = (shs a).bind fun x=>(shs b).map fun y=>x ++ y
 | [],b=>by cases h:shs b <;> simp [h]
 | .sh d :: a,b=>by
  rw [List.cons_append,y3,y3,Hk a b]
  cases shs a with
  | none=>rfl
  | some x=>cases shs b <;> rfl
 | .dic _ :: _,_=>rfl
 | .hd _ _ _ :: _,_=>rfl
 | .lst _ :: a,b=>rfl
 | .tup _ :: a,b=>rfl
@[simp] theorem L3 (o:O):dE o [] = some o:=by unfold dE;rfl
@[simp] theorem L1 (l:List O) (k:Int) (r:List Int):dE (.lst l) (k :: r) = (atI l k).bind fun o=>dE o r:=rfl
@[simp] theorem L4 (l:List O) (k:Int) (r:List Int):dE (.tup l) (k :: r) = (atI l k).bind fun o=>dE o r:=rfl
@[simp] theorem Lj (o q:O):jv o [] q = q:=by unfold jv;rfl
@[simp] theorem Li (l:List O) (k:Int) (r:List Int) (q:O):jv (.lst l) (k :: r) q = .lst (tT l k fun o=>jv o r q):=rfl
@[simp] theorem Lk (l:List O) (k:Int) (r:List Int) (q:O):jv (.tup l) (k :: r) q = .tup (tT l k fun o=>jv o r q):=rfl
@[simp] theorem Mv (d:D):O.d (.sh d) = d:=by unfold O.d;rfl
@[simp] theorem Mc (l:List O):O.d (.lst l) = .lst (O.ds l):=by rw [O.d]
@[simp] theorem Md (l:List O):O.d (.tup l) = .tup (O.ds l):=by rw [O.d]
@[simp] theorem KC:O.ds [] = []:=by rw [O.ds]
@[simp] theorem B1 (o:O) (l:List O):O.ds (o :: l) = o.d :: O.ds l:=by rw [O.ds]
@[simp] theorem DJ:∀ (a b:List O),O.ds (a ++ b) = O.ds a ++ O.ds b
 | [],b=>by simp
 | o :: a,b=>by simp [DJ a b]
@[simp] theorem xq:∀ l:List D,O.ds (l.map O.sh) = l
 | []=>by simp
 | d :: l=>by simp [xq l]
@[simp] theorem Kv {α:Type} (f:α -> D) (l:List α):O.ds (l.map (O.sh ∘ f)) = l.map f:=by rw [<- List.map_map];exact xq _
@[simp] theorem NF {α:Type} (a b:α):atI [a,b] 0 = some a:=rfl
@[simp] theorem NG {α:Type} (a b:α):atI [a,b] 1 = some b:=rfl
@[simp] theorem NH {α:Type} (a b c:α):atI [a,b,c] 0 = some a:=rfl
@[simp] theorem NI {α:Type} (a b c:α):atI [a,b,c] 1 = some b:=rfl
@[simp] theorem NJ {α:Type} (a b c:α):atI [a,b,c] 2 = some c:=rfl
theorem fk:LIM = 16000000:=by unfold LIM;rfl
@[simp] theorem OE:(0:Nat) <= LIM:=Nat.zero_le _
@[simp] theorem OG:(1:Nat) <= LIM:=by rw [fk];decide
@[simp] theorem OH:(2:Nat) <= LIM:=by rw [fk];decide
@[simp] theorem OI:(3:Nat) <= LIM:=by rw [fk];decide
@[simp] theorem OJ:(4:Nat) <= LIM:=by rw [fk];decide
@[simp] theorem OL:(5:Nat) <= LIM:=by rw [fk];decide
@[simp] theorem OM:(6:Nat) <= LIM:=by rw [fk];decide
@[simp] theorem OO:(7:Nat) <= LIM:=by rw [fk];decide
@[simp] theorem OP:(8:Nat) <= LIM:=by rw [fk];decide
@[simp] theorem OQ:(9:Nat) <= LIM:=by rw [fk];decide
@[simp] theorem NM:(10:Nat) <= LIM:=by rw [fk];decide
@[simp] theorem NL:(0:Nat) < LIM:=by rw [fk];decide
theorem IK (p q:Int × Int):eqD (prD p) (prD q) = decide (p = q):=by
 obtain ⟨a,b⟩:=p
 obtain ⟨c,d⟩:=q
 simp [prD,eqD,eqDs,Prod.ext_iff]
 by_cases h1:a = c <;> by_cases h2:b = d <;> simp [h1,h2]
theorem xT:∀ r t:List (Int × Int),eqDs (r.map prD) (t.map prD) = decide (r = t)
 | [],[]=>rfl
 | [],_ :: _=>by simp [eqDs]
 | _ :: _,[]=>by simp [eqDs]
 | p :: r,q :: t=>by
  rw [List.map_cons,List.map_cons,eqDs,IK,xT r t]
  by_cases h1:p = q <;> by_cases h2:r = t <;> simp [h1,h2]
theorem Gr (r t:List (Int × Int)):eqD (a9 r) (a9 t) = decide (r = t):=by
 unfold a9
 rw [eqD,xT]
theorem tj (n:Nat):∀ r:List (Int × Int),okDs (n + 1) (r.map prD) = true
 | []=>by simp [okDs]
 | p :: r=>by rw [List.map_cons,okDs,tj n r];simp [prD,okD,okDs]
theorem Bx (r:List (Int × Int)):okD 50 (a9 r) = true:=by
 unfold a9
 rw [okD]
 exact tj 48 r
theorem Gn (neg:Bool) (r t:List (Int × Int)):dEq neg (a9 r) (a9 t) = some (.bl (if neg then !decide (r = t) else decide (r = t))):=by
 unfold dEq
 rw [if_pos ⟨Bx r,Bx t⟩,Gr]
@[simp] theorem Mf (neg:Bool) (i j:Int):dEq neg (.int i) (.int j) = some (.bl (if neg then !decide (i = j) else decide (i = j))):=by
 unfold dEq
 rw [if_pos ⟨by simp [okD],by simp [okD]⟩]
 have:eqD (.int i) (.int j) = decide (i = j):=by simp [eqD];by_cases h:i = j <;> simp [h]
 rw [this]
@[simp] theorem Mz (neg:Bool) (i j:Bool):dEq neg (.bl i) (.bl j) = some (.bl (if neg then !decide (i = j) else decide (i = j))):=by
 unfold dEq
 rw [if_pos ⟨by simp [okD],by simp [okD]⟩]
 have:eqD (.bl i) (.bl j) = decide (i = j):=by simp [eqD];by_cases h:i = j <;> simp [h]
 rw [this]
theorem vg:∀ ns:List Int,Dens K S (ns.map D.int) (ns.map V.int)
 | []=>.nil
 | n :: ns=>.cons (den_int.mpr rfl) (vg ns)
theorem Dq    {ns:List Int} {m:List D -> Option O}  (hS:SqL K H a (ns.map V.int)) (h:(m [.scr (ns.map D.int)]).map O.d = some (.bl true)):bW K 1 m [.ref a] H (fun v _=>v = .bl true) E:=by
 cases q:m [.scr (ns.map D.int)] with
 | none=>rw [q] at h;cases h
 | some o=>
  rw [q] at h
  have e:o.d = .bl true:=Option.some.inj h
  exact ⟨rfl,H,[.scr (ns.map D.int)],o,Same.refl _,.cons (den_scr.mpr ⟨a,_,rfl,hS,vg ns⟩) .nil,q,fun v fp S' H' z ow _ _=>by
   have dv:=ow.denH z.sub
   rw [e] at dv
   exact den_bl.mp dv⟩
end M
namespace L2
open PySem PySem.Spec PyProof.Rows
theorem IC:bootBuiltins "len" = some (.builtin "len"):=by decide +kernel
theorem kM:bootBuiltins "sorted" = some (.builtin "sorted"):=by decide +kernel
theorem DU:bootBuiltins "max" = some (.builtin "max"):=by decide +kernel
theorem zt:bootBuiltins "min" = some (.builtin "min"):=by decide +kernel
theorem IE:bootBuiltins "sum" = some (.builtin "sum"):=by decide +kernel
theorem lL:bootBuiltins "isinstance" = some (.builtin "isinstance"):=by decide +kernel
theorem eU:bootBuiltins "tuple" = some (.type "tuple"):=by decide +kernel
section
variable {X:Cx}
theorem kQ {K:W.Frag} {t T:String} (ht:t ∈ ["NoneType", "bool", "int", "str", "list", "tuple"]) (hT:T ∈ ["bool", "int", "str", "list", "tuple"]):W.kitOne K (.type t) (.type T) = some (M.Hs t T):=by
 simp only [List.mem_cons,List.not_mem_nil,or_false] at ht hT
 rcases ht with rfl | rfl | rfl | rfl | rfl | rfl <;> rcases hT with rfl | rfl | rfl | rfl | rfl <;> kernel_rfl
theorem yh:∀ a b:List Int,Srt.gJ a b = HT.bN a b
 | [],[]=>rfl
 | [],_ :: _=>rfl
 | _ :: _,[]=>rfl
 | x :: xs,y :: ys=>by
  rw [HT.z9,<- yh xs ys]
  rfl
end
end L2
namespace Rev
open PySem
section
variable {prog:Program} {w:World} {A:Around} {s:Shared} {R:Result -> Shared -> Prop} {I:Addr} {fp wr:List Addr} {G:Array GenState -> Array GenState -> Prop} {n:Nat} {P:Nat -> Value -> Prop} {St:Nat -> Shared -> Prop}
end
section
variable {prog:Program} {w:World} {A:Around} {E:Value -> Shared -> Prop} {s:Shared} {I:Addr} {fp wr:List Addr} {G:Array GenState -> Array GenState -> Prop} {n:Nat} {P:Nat -> Value -> Prop} {St:Nat -> Shared -> Prop}
end
end Rev
namespace L2
open PySem PySem.Spec PyProof.Rows
theorem xJ:bootBuiltins "reversed" = some (.type "reversed"):=by decide +kernel
section
variable {X:Cx} {tg:Expr}
theorem wM  {tl:TE} (hl:PE X l tl):PI X tg l (IU X.K tl):=by
 intro pins s σ H R I h
 refine thn (hl pins s σ H _ I h) fun v s1 h1=>?_
 obtain ⟨x,H1,I1,r1,a,e,q⟩:=h1
 subst e
 cases r1
 rcases q with ⟨⟨xs,hq⟩,q⟩ | ⟨⟨xs,hq⟩,q⟩
 ·obtain ⟨its,rv,p,hz⟩:=I1.list hq
  refine wpAny_pyIter_list p.isList ⟨s1.heap.objs.size,[s1.heap.objs.size],_,_,H1,rfl,I1.kept (t':=s1.toks) fun b o e=>Heap.get?_push_of_some _ e,Dt a _,⟨_,Heap.get?_push_size _ rfl,rfl,rfl⟩,fun b hb=>?_,q⟩
  rw [List.mem_singleton.mp hb]
  exact I1.fpOk (Nat.le_refl _) I1.fresh
 ·obtain ⟨its,rv,p,hz⟩:=I1.tuple hq
  refine wpAny_pyIter_tuple (show s1.heap.IsTuple a its.toArray from p) ⟨s1.heap.objs.size,[s1.heap.objs.size],_,_,H1,rfl,I1.kept (t':=s1.toks) fun b o e=>Heap.get?_push_of_some _ e,AM a _,⟨_,Heap.get?_push_size _ rfl,rfl,rfl⟩,fun b hb=>?_,q⟩
  rw [List.mem_singleton.mp hb]
  exact I1.fpOk (Nat.le_refl _) I1.fresh
end
section
variable {X:Cx} {tg:Expr}
theorem vp:∀ {vs:List Value} {ns:List Int},IntsAre vs ns -> Vals (ns.map V.int) vs
 | _,_,.nil=>.nil
 | _,_,.cons n t h=>.cons ⟨t,rfl⟩ (vp h)
theorem call_sortedI:CallR X (.builtin "sorted") (yP X.K):=by
 intro pins s σ H xs us Q I r h
 obtain ⟨p,ns,rfl,hS,h64,k⟩:=h
 obtain ⟨u,rfl,ru⟩:=r.one
 cases ru
 obtain ⟨its,rv,pl,hz⟩:=I.list hS
 have hI:IntsAre its ns:=gI rv
 have hl:its.length = ns.length:=by have:=rv.length;rw [List.length_map] at this;exact this.symm
 refine Srt.wV pl.isList hI (by rw [sizeLine_eq];lia) fun out ms ho perm pw=>?_
 obtain ⟨e,at1⟩:=sortedAll_at s.heap its out
 have fresh:s.heap.objs.size <= s.heap.objs.size + 1:=Nat.le_succ _
 refine ⟨.ref (s.heap.objs.size + 1),upd H (s.heap.objs.size + 1) (.lst (ms.map V.int)),I.laid (t':=s.toks) (fun b o hb=>sortedAll_old hb) fresh ?_,rfl,k ms _ perm pw (I.hok.fresh fresh)⟩
 exact ⟨by rw [List.length_map,perm.length_eq,sizeLine_eq];lia,out.toList,e,vp ho,by simpa using at1⟩
theorem Ce (hc:X.calm = true):CallR X (.builtin "sum") (HX X.K):=by
 intro pins s σ H xs us Q I r h
 obtain ⟨p,ns,rfl,hS,q⟩:=h
 obtain ⟨u,rfl,ru⟩:=r.one
 cases ru
 obtain ⟨its,rv,pl,hz⟩:=I.list hS
 have hI:IntsAre its ns:=gI rv
 obtain ⟨ys,e⟩:=hI.allInts.items
 have hl:=pl.isList
 have en:ns = ys.toList.map (·.1):=by
  rw [<- nums_intItems,<- e]
  simpa using hI.numsOf.symm
 rw [e] at hl
 refine sum_intListG (I.ok.hd hc) hl fun h' tk t' hk=>⟨.int ns.sum,H,I.kept hk,⟨t',?_⟩,q⟩
 rw [preSum_eq,List.take_of_length_le (by simp),en]
end
end L2
namespace HT
open PySem PySem.Spec PyProof.Rows
section
variable {prog:Program} {w:World} {A:Around} {E:Value -> Shared -> Prop} {s:Shared}
theorem k9 {t sl:Addr} {items:Array Value} {vl vu:Value} {lo hi:Option Int} {Q:Value -> Shared -> Prop} (ht:IsTup s.heap t items) (hs:s.heap.IsSliceOf sl vl vu .none) (pl:IsPart vl lo) (pu:IsPart vu hi)
  (hw:sIx items.size 0 lo = 0 /\ sIx items.size items.size hi = items.size) (h:Q (.ref t) s):wpAny (model prog w) A (getItem (.ref t) (.ref sl)) Q E s:=by
 obtain ⟨os,hos,hcs,hds⟩:=id hs
 have hTs:s.TypeIs (.ref sl) "slice" := ⟨os,hos,hcs⟩
 unfold getItem
 try with_reducible refine wpAny_holding ?_
 first | refine wpAny_bind (wpAny_pure ?_) | skip
 refine wpAny_bind (wpAny_sequenceKey ht.typeIs (by decide) ?_)
 refine wpAny_bind (wpAny_callSpecial?_slot (name:=Str.ofString "__getitem__") ht.typeIs PyProof.Rows.slot_tuple_getitem
  (wpAny_call_entry PyProof.Rows.slot_tuple_getitem ht.typeIs entry_tuple_getitem ?_ (args_tuple_getitem _ _)))
 show wpAny _ _ (Builtin.Tuple.tupleItemsOf (.ref t) >>= _) _ _ s
 refine wpAny_bind (tupleItemsOf_ ht ?_)
 refine wpAny_bind (wpAny_typeOf hTs ?_)
 rw [if_pos (by decide)]
 refine wpAny_bind (jd hs pl pu ?_)
 have hyes:((((sIx items.size 0 lo:Nat):Int) == 0 && (1:Int) == 1 && (sIx items.size items.size hi - sIx items.size 0 lo) == items.size) = true):=by
  rw [hw.1,hw.2]
  simp
 show wpAny _ _ (if (((sIx items.size 0 lo:Nat):Int) == 0 && (1:Int) == 1 && (sIx items.size items.size hi - sIx items.size 0 lo) == items.size) = true then _ else _) _ _ s
 rw [if_pos hyes]
 refine wpAny_bind (m:=Builtin.Tuple.tupleIsExact _) (wpAny_bind (wpAny_typeOf ht.typeIs (wpAny_pure ?_)))
 rw [if_pos (by decide)]
 exact wpAny_bind (wpAny_rule (wpAny_pure ⟨_,rfl,wpAny_pure h⟩))
end
end HT
namespace L2
open PySem PySem.Spec PyProof.Rows M
theorem Inv.rdl  {pins:List (Addr × Obj)}     {xs:List V} (I:Inv X pins σ H s) (h:Rd H l (.lst xs)):xs.length <= sizeLine /\ ∃ (its:List Value) (n:Nat),Vals xs its /\ xs.length = its.length /\ s.heap.get? l = some { cls:=.type "list",data:=.seq its.toArray n }:=by
 obtain ⟨h1,its,n,r,e⟩:=(show ObjOk X.prog X.w H s.heap l (.lst xs) from h.ok I.hok)
 exact ⟨h1,its,n,r,r.length,e⟩
section
variable {X:Cx}
theorem op_catM:OpR X (binaryOp .Add) HS:=by
 intro pins s σ H x y v u Q I rx ry h
 obtain ⟨l,b,xs,zs,rfl,rfl,hH,hB,hz,q⟩:=h
 cases rx
 cases ry
 obtain ⟨z,its,n,r,hl,e⟩:=I.rdl hH
 obtain ⟨z2,its2,n2,r2,hl2,e2⟩:=I.rdl hB
 refine PySem.P.add_list e e2 ?_ (by rw [List.size_toArray,List.size_toArray];lia)
 have ea:its.toArray ++ its2.toArray = (its ++ its2).toArray:=by simp
 rw [ea]
 exact ⟨.ref _,_,I.lnew (t':=s.toks) (r.append r2) (by rw [List.length_append];lia),rfl,q _ I.fresh⟩
theorem op_tupM:OpR X (binaryOp .Add) (HY X.K):=by
 intro pins s σ H x y v u Q I rx ry h
 obtain ⟨a,b,xs,ys,rfl,rfl,ha,hb,hz,q1,q2,q⟩:=h
 cases rx
 cases ry
 obtain ⟨its,r1,p1,_⟩:=I.tuple ha
 obtain ⟨its2,r2,p2,_⟩:=I.tuple hb
 have hz2:its.length + its2.length <= sizeLine:=by rw [<- r1.length,<- r2.length];exact hz
 by_cases hv:its = []
 ·have hx:xs = []:=r1.nil_iff.mp hv
  obtain ⟨⟨cls,dd,data,sl⟩,ho,hc,n,hd⟩:=id p1
  obtain ⟨⟨cls2,dd2,data2,sl2⟩,ho2,hc2,n2,hd2⟩:=id p2
  simp only at hc hd hc2 hd2;subst hc hd hc2 hd2
  exact concat_meets ⟨_,ho,rfl⟩ ⟨_,ho2,rfl⟩ noFill_tuple_add seq_tuple_add PySem.F.slot_tuple_add PySem.F.entry_tuple_add (PySem.F.args_tuple_add_2 (.ref a) (.ref b)) (tuple_addW0 a b its.toArray its2.toArray n n2 dd dd2 sl sl2 (by simp [hv])) ⟨ho,ho2,⟨.ref b,H,I,rfl,q2 hx⟩⟩
 ·refine HT.Gk p1 p2 hv (fun z=>⟨.ref a,H,I,rfl,q1 (r2.nil_iff.mp z)⟩) (fun z=>?_) hz2
  refine ⟨.ref s.heap.objs.size,_,I.laid (t':=s.toks) (o:=.tup (xs ++ ys)) (fun b ob e=>Heap.get?_push_of_some _ e) (Nat.le_refl _) ?_,rfl,q _ (I.hok.fresh (Nat.le_refl _))⟩
  exact ⟨by rw [List.length_append];exact hz,_,r1.append r2,TupN.new _ _⟩
theorem GU:OpR X (binaryOp .Add) HW:=Ao
theorem oi:OpR X (binaryOp .Add) (Fm X.K):=op_add.or (op_catM.or (op_tupM.or GU))
mutual
noncomputable def pyD:D -> PyData
 | .non=>.none
 | .bl b=>.bool b
 | .int i=>.int i
 | .str x=>.str x
 | .lst l=>.list (pyDs l)
 | .tup l=>.tuple (pyDs l)
 | .mtp l=>.tuple (pyDs l)
 | _=>.none
noncomputable def pyDs:List D -> List PyData
 | []=>[]
 | d :: l=>pyD d :: pyDs l
end
mutual
theorem tD:∀ (n:Nat) (d:D),okD n d = true -> (pyD d).canLay0 = true /\ (pyD d).depth <= n
 | _,.non,_=>by simp [pyD,PyData.canLay0,PyData.depth]
 | _,.bl _,_=>by simp [pyD,PyData.canLay0,PyData.depth]
 | _,.int _,_=>by simp [pyD,PyData.canLay0,PyData.depth]
 | n,.str x,h=>by
  have h':PyData.strOk x = true:=by cases n <;> simpa [okD] using h
  simp [pyD,PyData.canLay0,PyData.depth,h']
 | 0,.lst l,h=>by simp [okD] at h
 | n + 1,.lst l,h=>by
  obtain ⟨a,b⟩:=rF n l (by simpa [okD] using h)
  simp only [pyD,PyData.canLay0,PyData.depth]
  exact ⟨a,by lia⟩
 | 0,.tup l,h=>by simp [okD] at h
 | n + 1,.tup l,h=>by
  obtain ⟨a,b⟩:=rF n l (by simpa [okD] using h)
  simp only [pyD,PyData.canLay0,PyData.depth]
  exact ⟨a,by lia⟩
 | 0,.mtp l,h=>by simp [okD] at h
 | n + 1,.mtp l,h=>by
  obtain ⟨a,b⟩:=rF n l (by simpa [okD] using h)
  simp only [pyD,PyData.canLay0,PyData.depth]
  exact ⟨a,by lia⟩
 | n,.ty _,h=>by cases n <;> simp [okD] at h
 | n,.scr _,h=>by cases n <;> simp [okD] at h
 | n,.ins _ _ _,h=>by cases n <;> simp [okD] at h
theorem rF:∀ (n:Nat) (l:List D),okDs n l = true -> PyData.canLayAll0 (pyDs l) = true /\ PyData.depthAll (pyDs l) <= n
 | _,[],_=>by simp [pyDs,PyData.canLayAll0,PyData.depthAll]
 | n,d :: l,h=>by
  rw [okDs,Bool.and_eq_true] at h
  obtain ⟨a,b⟩:=tD n d h.1
  obtain ⟨c,e⟩:=rF n l h.2
  simp only [pyDs,PyData.canLayAll0,PyData.depthAll,a,c]
  exact ⟨rfl,by lia⟩
end
mutual
theorem zM:∀ (n m:Nat) (d e:D),okD n d = true -> okD m e = true -> PyData.eqv (pyD d) (pyD e) = eqD d e
 | n,m,.non,e,_,he=>by cases e <;> first | (simp [pyD,PyData.eqv,eqD];done) | (cases m <;> simp [okD] at he)
 | n,m,.bl _,e,_,he=>by cases e <;> first | (simp [pyD,PyData.eqv,eqD];done) | (cases m <;> simp [okD] at he)
 | n,m,.int _,e,_,he=>by cases e <;> first | (simp [pyD,PyData.eqv,eqD];done) | (cases m <;> simp [okD] at he)
 | n,m,.str _,e,_,he=>by cases e <;> first | (simp [pyD,PyData.eqv,eqD];done) | (cases m <;> simp [okD] at he)
 | 0,m,.lst _,e,hd,he=>by simp [okD] at hd
 | n + 1,m,.lst l,e,hd,he=>by
  cases e with
  | lst l'=>
   cases m with
   | zero=>simp [okD] at he
   | succ m=>
    simp only [pyD,PyData.eqv,eqD]
    exact eqvs_is n m l l' (by simpa [okD] using hd) (by simpa [okD] using he)
  | _=>first | (simp [pyD,PyData.eqv,eqD];done) | (cases m <;> simp [okD] at he)
 | 0,m,.tup _,e,hd,he=>by simp [okD] at hd
 | n + 1,m,.tup l,e,hd,he=>by
  cases e with
  | tup l'=>
   cases m with
   | zero=>simp [okD] at he
   | succ m=>
    simp only [pyD,PyData.eqv,eqD]
    exact eqvs_is n m l l' (by simpa [okD] using hd) (by simpa [okD] using he)
  | mtp l'=>
   cases m with
   | zero=>simp [okD] at he
   | succ m=>
    simp only [pyD,PyData.eqv,eqD]
    exact eqvs_is n m l l' (by simpa [okD] using hd) (by simpa [okD] using he)
  | _=>first | (simp [pyD,PyData.eqv,eqD];done) | (cases m <;> simp [okD] at he)
 | 0,m,.mtp _,e,hd,he=>by simp [okD] at hd
 | n + 1,m,.mtp l,e,hd,he=>by
  cases e with
  | tup l'=>
   cases m with
   | zero=>simp [okD] at he
   | succ m=>
    simp only [pyD,PyData.eqv,eqD]
    exact eqvs_is n m l l' (by simpa [okD] using hd) (by simpa [okD] using he)
  | mtp l'=>
   cases m with
   | zero=>simp [okD] at he
   | succ m=>
    simp only [pyD,PyData.eqv,eqD]
    exact eqvs_is n m l l' (by simpa [okD] using hd) (by simpa [okD] using he)
  | _=>first | (simp [pyD,PyData.eqv,eqD];done) | (cases m <;> simp [okD] at he)
 | n,_,.ty _,_,h,_=>by cases n <;> simp [okD] at h
 | n,_,.scr _,_,h,_=>by cases n <;> simp [okD] at h
 | n,_,.ins _ _ _,_,h,_=>by cases n <;> simp [okD] at h
theorem eqvs_is:∀ (n m:Nat) (l l':List D),okDs n l = true -> okDs m l' = true -> PyData.eqvAll (pyDs l) (pyDs l') = eqDs l l'
 | _,_,[],[],_,_=>by simp [pyDs,PyData.eqvAll,eqDs]
 | _,_,[],_ :: _,_,_=>by simp [pyDs,PyData.eqvAll,eqDs]
 | _,_,_ :: _,[],_,_=>by simp [pyDs,PyData.eqvAll,eqDs]
 | n,m,d :: l,e :: l',hd,he=>by
  rw [okDs,Bool.and_eq_true] at hd he
  rw [pyDs,pyDs,PyData.eqvAll,eqDs,zM n m d e hd.1 he.1,eqvs_is n m l l' hd.2 he.2]
end
mutual
theorem iW {pins:List (Addr × Obj)}    (I:Inv X pins σ H s):∀ (n:Nat) {d:D} {x:V} {v:Value},okD n d = true -> Den X.K H d x -> RelV x v -> ∃ as,Reads s.heap v (pyD d) as
 | _,.non,x,v,_,dx,r=>by rw [den_non.mp dx] at r;cases r;exact ⟨_,.none⟩
 | _,.bl b,x,v,_,dx,r=>by rw [den_bl.mp dx] at r;cases r;exact ⟨_,.bool b⟩
 | _,.int i,x,v,_,dx,r=>by rw [den_int.mp dx] at r;obtain ⟨t,rfl⟩:=r;exact ⟨_,.int i t⟩
 | _,.str y,x,v,_,dx,r=>by rw [den_str.mp dx] at r;obtain ⟨t,rfl⟩:=r;exact ⟨_,.str y t⟩
 | 0,.lst _,x,v,h,dx,r=>by simp [okD] at h
 | n + 1,.lst l,x,v,h,dx,r=>by
  obtain ⟨p,xs,rfl,hp,ds⟩:=den_lst.mp dx
  cases r
  obtain ⟨_,its,k,rv,_,e⟩:=I.rdl hp
  obtain ⟨as,ra⟩:=dens_reads I n (by simpa [okD] using h) ds rv
  exact ⟨_,.list e rfl rfl (by simpa using ra)⟩
 | 0,.tup _,x,v,h,dx,r=>by simp [okD] at h
 | n + 1,.tup l,x,v,h,dx,r=>by
  obtain ⟨p,xs,rfl,hp,ds⟩:=gF dx
  cases r
  obtain ⟨its,rv,⟨o,e,c,k,d⟩,_⟩:=I.tuple hp
  obtain ⟨as,ra⟩:=dens_reads I n (by simpa [okD] using h) ds rv
  exact ⟨_,.tuple e c d (by simpa using ra)⟩
 | 0,.mtp _,x,v,h,dx,r=>by simp [okD] at h
 | n + 1,.mtp l,x,v,h,dx,r=>by
  obtain ⟨p,xs,rfl,hp,ds⟩:=den_mtp.mp dx
  cases r
  obtain ⟨its,rv,⟨o,e,c,k,d⟩,_⟩:=I.tuple hp
  obtain ⟨as,ra⟩:=dens_reads I n (by simpa [okD] using h) ds rv
  exact ⟨_,.tuple e c d (by simpa using ra)⟩
 | n,.ty _,_,_,h,_,_=>by cases n <;> simp [okD] at h
 | n,.scr _,_,_,h,_,_=>by cases n <;> simp [okD] at h
 | n,.ins _ _ _,_,_,h,_,_=>by cases n <;> simp [okD] at h
theorem dens_reads {pins:List (Addr × Obj)}    (I:Inv X pins σ H s):∀ (n:Nat) {ds:List D} {xs:List V} {vs:List Value},okDs n ds = true -> Dens X.K H ds xs -> Vals xs vs -> ∃ as,ReadsAll s.heap vs (pyDs ds) as
 | _,[],xs,vs,_,d,r=>by
  rw [d.nil_of] at r
  cases r
  exact ⟨_,.nil⟩
 | n,d :: ds,xs,vs,h,dd,r=>by
  rw [okDs,Bool.and_eq_true] at h
  obtain ⟨y,ys,rfl,a,b⟩:=dd.cons_of
  cases r with
  | cons r rr=>
   obtain ⟨as,ra⟩:=iW I n h.1 a r
   obtain ⟨bs,rb⟩:=dens_reads I n h.2 b rr
   exact ⟨_,.cons ra rb⟩
end
theorem EX (hu:X.A.units + 64 < cLine):OpR X (compareOp .Eq) (Hc X.K false):=by
 intro pins s σ H x y v u Q I rx ry h
 obtain ⟨S,d,e,sm,dx,dy,cd,ce,q⟩:=h
 obtain ⟨as,ra⟩:=iW I 50 cd (sd sm dx) rx
 obtain ⟨bs,rb⟩:=iW I 50 ce (sd sm dy) ry
 obtain ⟨a1,a2⟩:=tD 50 d cd
 obtain ⟨b1,b2⟩:=tD 50 e ce
 have hm:=Nat.min_le_left (pyD d).depth (pyD e).depth
 refine SeqAt.compareEq_reads ra rb a1 b1 (by lia) ⟨.bl _,H,I,rfl,?_⟩
 rw [zM 50 50 d e cd ce]
 exact q
theorem Jm (hu:X.A.units + 64 < cLine):OpR X (compareOp .NotEq) (Hc X.K true):=by
 intro pins s σ H x y v u Q I rx ry h
 obtain ⟨S,d,e,sm,dx,dy,cd,ce,q⟩:=h
 obtain ⟨as,ra⟩:=iW I 50 cd (sd sm dx) rx
 obtain ⟨bs,rb⟩:=iW I 50 ce (sd sm dy) ry
 obtain ⟨a1,a2⟩:=tD 50 d cd
 obtain ⟨b1,b2⟩:=tD 50 e ce
 have hm:=Nat.min_le_left (pyD d).depth (pyD e).depth
 refine SeqAt.compareNe_reads ra rb a1 b1 (by lia) ⟨.bl _,H,I,rfl,?_⟩
 rw [zM 50 50 d e cd ce]
 exact q
theorem Ca:CallR X (.builtin "len") (Fp X.K):=DV
theorem B8:CallR X (.builtin "isinstance") (Fo X.K):=by
 intro pins s σ H xs us Q I r h
 obtain ⟨x,T,t,rfl,ht,hm,q⟩:=h
 obtain ⟨u,w',rfl,ru,rw'⟩:=r.two
 cases rw'
 have fin:∀ tk:Nat,EP X pins σ Q (.bool (Hs t T)) { s with toks:=tk }:=fun tk=>⟨.bl _,H,I.tok tk,rfl,q⟩
 cases x with
 | non=>cases ht;exact i6 I ru .non (kQ (by decide) hm) fin
 | bl b=>cases ht;exact i6 I ru (.bl b) (kQ (by decide) hm) fin
 | int i=>cases ht;exact i6 I ru (.int i) (kQ (by decide) hm) fin
 | str y=>cases ht;exact i6 I ru (.str y) (kQ (by decide) hm) fin
 | ref p=>
  cases ru
  rcases ht with ⟨rfl,xs,h⟩ | ⟨rfl,xs,h⟩
  ·obtain ⟨_,its,n,rv,_,e⟩:=I.rdl h
   exact W.kia_one W.kitx_list I.kIn ⟨_,e,rfl⟩ (kQ (by decide) hm) (fun z=>nomatch z) fin
  ·obtain ⟨its,rv,⟨o,e,c,_⟩,_⟩:=I.tuple h
   exact W.kia_one W.kitx_tuple I.kIn ⟨o,e,c⟩ (kQ (by decide) hm) (fun z=>nomatch z) fin
 | _=>exact (show False from ht).elim
theorem Bu:MtM X "list.extend" rExtM:=by
 intro pins s σ H x vs v us Q I rx rv h
 obtain ⟨l,b,xs,zs,rfl,rfl,hH,hB,hz,q⟩:=h
 cases rx
 obtain ⟨u,rfl,ru⟩:=rv.one
 cases ru
 obtain ⟨z,its,n,r,hl,e⟩:=I.lstM hH
 obtain ⟨z2,its2,n2,r2,hl2,e2⟩:=I.rdl hB
 have hsz:its.toArray.size + its2.toArray.size <= sizeLine:=by rw [List.size_toArray,List.size_toArray];lia
 have hlong:¬ (!its.toArray.isEmpty && Builtin.List.listTooLong (its.toArray.size + its2.toArray.size)) = true:=by
  rw [EU hsz,Bool.and_false]
  exact Bool.false_ne_true
 refine call_meets F.slot_list_extend ⟨_,e,rfl⟩ F.entry_list_extend (F.args_list_extend_2 _ _)
  (AutoSeq1.list_extend_list_list_0 l its.toArray n b its2.toArray n2 hlong (by rw [List.size_toArray];lia) (by lia)) ⟨e,e2,?_⟩
 refine ⟨.non,_,I.lset (its':=its ++ its2) hH e (by simp) (r.append r2) ?_,rfl,q⟩
 rw [List.length_append]
 lia
theorem MR:SlR X (JI X.K):=by
 refine SlR.or Hl ?_
 intro pins s σ H x v vl vu lo hi sl Q I rx hs pl pu h
 obtain ⟨a,xs,rfl,hx,q1,q2⟩:=h
 cases rx
 by_cases hw:HT.sIx xs.length 0 lo = 0 /\ HT.sIx xs.length xs.length hi = xs.length
 ·obtain ⟨its,r,ht,hz⟩:=I.tuple hx
  have hlen:its.toArray.size = xs.length:=by rw [List.size_toArray];exact r.length.symm
  have hcut:k6 xs lo hi = xs:=by
   unfold k6
   rw [hw.1,hw.2,List.drop_zero,Nat.sub_zero,List.take_of_length_le (Nat.le_refl _)]
  refine ⟨"tuple",_,PyProof.Rows.slot_tuple_getitem.lookup,ht.typeIs,?_⟩
  exact HT.k9 ht hs pl pu (by rw [hlen];exact hw) ⟨.ref a,H,I,rfl,q1 hcut⟩
 ·exact Kc pins s σ H (.ref a) (.ref a) vl vu lo hi sl Q I rfl hs pl pu ⟨a,xs,rfl,hx,hw,q2⟩
theorem zB:CallR X (.builtin "sorted") (Fu X.K):=by
 intro pins s σ H xs us Q I r h
 obtain ⟨p,yks,rfl,hS,h64,hk,k⟩:=h
 obtain ⟨u,rfl,ru⟩:=r.one
 cases ru
 obtain ⟨its,rv,pl,hz⟩:=I.list hS
 have hl:yks.length = its.length:=by rw [<- rv.length,List.length_map]
 have atI:∀ i,i < its.length -> ∃ yk,yks[i]? = some yk /\ yks.getD i (.non,[]) = yk /\ RelV yk.1 (its.getD i Value.none):=fun i hi=>by
  have ey:yks[i]? = some yks[i]:=List.getElem?_eq_getElem (by lia)
  have ex:(yks.map (·.1))[i]? = some yks[i].1:=by rw [List.getElem?_map,ey];rfl
  obtain ⟨v,ev,rl⟩:=rv.get ex
  exact ⟨_,ey,by rw [List.getD_eq_getElem?_getD,ey];rfl,by rw [List.getD_eq_getElem?_getD,ev];exact rl⟩
 have tup:∀ i,i < its.length -> Srt.KF s.heap (its.getD i Value.none) (yks.getD i (.non,[])).2 /\ (yks.getD i (.non,[])).2 ≠ []:=fun i hi=>by
  obtain ⟨yk,e1,e2,rl⟩:=atI i hi
  obtain ⟨q,e3,e4,e5⟩:=hk _ (List.mem_of_getElem? e1)
  rw [e2]
  refine ⟨?_,e5⟩
  rw [e3] at rl
  have rl':its.getD i Value.none = Value.ref q:=rl
  obtain ⟨js,rj,⟨o,ho,hc,n,hd⟩,_⟩:=I.tuple e4
  refine ⟨q,o,js.toArray,n,rl',ho,hc,hd,?_⟩
  simpa using gI rj
 refine Srt.vQ (Srt.EB fun i=>(yks.getD i (.non,[])).2) pl.isList (by rw [sizeLine_eq];lia) (Srt.z8 tup) fun q hq ha=>?_
 obtain ⟨pv,pw⟩:=Srt.Aq (vs:=its) (d:=Value.none) hq ha
 rw [<- hl] at hq ha
 obtain ⟨py,wy⟩:=Srt.Aq (vs:=yks) (d:=((V.non,[]):V × List Int)) hq ha
 obtain ⟨e,at1⟩:=sortedAll_at s.heap its (Srt.jH its q)
 have hv:Vals ((q.toList.map fun i=>yks.getD i (.non,[])).map (·.1)) (q.toList.map fun i=>its.getD i Value.none):=by
  have hb:∀ i ∈ q.toList,i < its.length:=fun i hi=>by
   have:i < yks.length:=by simpa using (Array.perm_iff_toList_perm.mp hq).mem_iff.mp hi
   lia
  revert hb
  generalize q.toList = L
  induction L with
  | nil=>exact fun _=>.nil
  | cons i L ih=>
   intro hb
   refine .cons ?_ (ih fun j hj=>hb j (List.mem_cons_of_mem _ hj))
   obtain ⟨yk,_,e2,rl⟩:=atI i (hb i List.mem_cons_self)
   dsimp only
   rw [e2]
   exact rl
 have fresh:s.heap.objs.size <= s.heap.objs.size + 1:=Nat.le_succ _
 refine ⟨.ref (s.heap.objs.size + 1),upd H (s.heap.objs.size + 1) (.lst ((q.toList.map fun i=>yks.getD i (.non,[])).map (·.1))),I.laid (t':=s.toks) (fun b o hb=>sortedAll_old hb) fresh ?_,rfl,?_⟩
 ·refine ⟨by rw [List.length_map,py.length_eq,sizeLine_eq];lia,_,e,hv,at1⟩
 ·refine k _ _ py (wy _ fun i j _ _ h=>?_) (I.hok.fresh fresh)
  rw [<- yh]
  exact h
theorem f8:CallR X (.builtin "sorted") (tU X.K):=call_sortedI.or zB
end
end L2
namespace M
noncomputable def KL (a:List Int) (k:Int):List Int:=if a.any (· == k) then a else a ++ [k]
noncomputable def MD (ns:List Int):List Int:=ns.foldl KL []
end M
namespace L2
open PySem
section
variable {X:Cx}
end
end L2
namespace M
open PySem L2
section
variable {K:W.Frag}
end
end M
namespace L2
open PySem M
end L2
namespace M
open PySem L2
@[simp] noncomputable def Mr (a:XE):XE:=fun ρ=>(a ρ).bind fun d=>match d with | .lst l=>(bh l).bind fun ns=>if ns.length < 4000 then some (.int ((MD ns).length:Nat)) else none | _=>none
end M
namespace L2
open PySem
def qE (K:W.Frag) (Ns:List Str) (P:Addr -> Prop):Prop:=∀ N ∈ Ns,∀ C,W.nsIn K mainGlobals N = some (some (.ref C)) -> P C
def KA (K:W.Frag) (Ns:List Str) (H:Hp) (x:V) (a:Addr) (C dx:Addr) (fs:List (Str × V)):Prop:=x = .ref a /\ (∃ N ∈ Ns,W.nsIn K mainGlobals N = some (some (.ref C))) /\ H a = some (.ins C dx fs)
noncomputable def FT (K:W.Frag) (Ns:List Str) (ta:TE) (f:Str):TE:=fun σ H Q=>ta σ H fun x H1=>∃ a C dx fs v,KA K Ns H1 x a C dx fs /\ fs.lookup f = some v /\ Q v H1
noncomputable def w9 (K:W.Frag) (Ns:List Str) (m:Str) (sp:Sp) (ta:TE) (t:TA):TE:=fun σ H Q=>ta σ H fun x H1=>∃ a C dx fs,KA K Ns H1 x a C dx fs /\ fs.lookup m = none /\ t σ H1 fun vs H2=>sp (x :: vs) H2 Q E0
noncomputable def w8 (K:W.Frag) (N:Str) (sp:Sp) (t:TA):TE:=fun σ H Q=>∀ C,W.nsIn K mainGlobals N = some (some (.ref C)) -> H9 C sp [] E0 t σ H Q
section
variable {X:Cx} {o e:Expr} {es:List Expr} {f m:Str} {pos apos p:Pos} {ta:TE} {t:TA} {Ns:List Str} {k:Nat} {g C:Addr} {fd:FuncData} {ps:List Str} {sp:Sp}
theorem wL (hc:qE X.K Ns fun C=>Cls X.K C /\ NoAttr X.K C f) (he:PE X e ta) (hb:attributeBase e f X.env (eval e X.env) = eval e X.env):PE X (.Attribute e f pos) (FT X.K Ns ta f):=by
 intro pins s σ H Q I h
 refine Gg hb (thn (he pins s σ H _ I h) fun u s1 hpt9=>?_)
 obtain ⟨x,H1,I1,rx,a,C,dx,fs,v,⟨ex,⟨N,hN,hC⟩,ea⟩,l,q⟩:=hpt9
 subst ex
 have eu:u = Value.ref a:=rx
 subst eu
 obtain ⟨c,n⟩:=hc N hN C hC
 exact zU I1 ea c n l fun u' s2 I2 ru=>⟨v,H1,I2,ru,q⟩
theorem E5  (hc:qE X.K Ns fun C=>Cls X.K C /\ Meth X.K C m g) (F:FnOk X.prog X.w X.K X.mg X.base CX0 k g fd ps sp) (hr:Room k X.A) (hb:Binds X.K fd ps []) (hx:jU CX0 X E0) (he:PE X o ta) (ha:PA X (e :: es) t)
  (hst:starEach (e :: es) X.env = (false,eval e X.env) :: starEach es X.env:=by rfl) (hpl:(backTo pos (starEach es X.env)).any (·.1) = false:=by rfl)
  (ht:eval (.Call (.Attribute o m apos) (e :: es) [] pos) X.env = (do
   let ov ← eval o X.env
   standAt apos.atName
   let (f,first) ← holding [ov] (getMethod ov m pl)
   callWith pos f first (backTo pos (starEach (e :: es) X.env)) (backToKw pos (keywordEach [] X.env))):=by rfl) :
  PE X (.Call (.Attribute o m apos) (e :: es) [] pos) (w9 X.K Ns m sp ta t):=by
 intro pins s σ H Q I h
 refine W.methodCall_KW (pl:=pl) (thn (he pins s σ H _ I h) fun u s1 hpt9=>?_) ht
 obtain ⟨x,H1,I1,rx,a,C,dx,fs,⟨ex,⟨N,hN,hC⟩,ea⟩,l,q⟩:=hpt9
 subst ex
 have eu:u = Value.ref a:=rx
 subst eu
 obtain ⟨c,hm⟩:=hc N hN C hC
 refine zV I1 ea c hm l ?_
 refine W.callWith_K (first:=[.ref a]) (h₀:=X.base) I.ok.mod.kin hm.kp (thn (ha pos pins s1 σ H1 _ I1 q) fun us s2 ⟨vs,H2,I2,r,q2⟩=>⟨I2.kIn,?_⟩) hst hpl
 exact Az (us:=.ref a :: us) (vs:=.ref a :: vs) (dvs:=[]) F hr hb .nil hx I2 (.cons rfl r) (by rw [List.append_nil];exact q2)
structure ClsFn (K:W.Frag) (C:Addr) (m:Str) (f:Addr):Prop where
 sp:W.specialIn K (.ref C) "__getattribute__" = some (some (.builtin "type.__getattribute__"))
 rd:W.readsIn K C (.type "type") = true
 fn:W.findCls K (.ref C) (.type "type") m = some (.val (.ref f))
 kp:W.keepIn K (.ref f) = true
theorem jr   (cf:ClsFn X.K C m g) (gB:Gl X B) (hm:X.mg B = some (.ref C)) (F:FnOk X.prog X.w X.K X.mg X.base CX0 k g fd ps sp) (hr:Room k X.A) (hb:Binds X.K fd ps []) (hx:jU CX0 X E0) (ha:PA X (e :: es) t) (hdb:(B == ("__debug__" : Str)) = false:=by decide)
  (hst:starEach (e :: es) X.env = (false,eval e X.env) :: starEach es X.env:=by rfl) (hpl:(backTo pos (starEach es X.env)).any (·.1) = false:=by rfl)
  (ht:eval (.Call (.Attribute (.Name B p) m apos) (e :: es) [] pos) X.env = (do
   let ov ← eval (.Name B p) X.env
   standAt apos.atName
   let (f,first) ← holding [ov] (getMethod ov m pl)
   callWith pos f first (backTo pos (starEach (e :: es) X.env)) (backToKw pos (keywordEach [] X.env))):=by rfl) :
  PE X (.Call (.Attribute (.Name B p) m apos) (e :: es) [] pos) (oJ sp [] E0 t):=by
 intro pins s σ H Q I h
 refine W.methodCall_KW (pl:=pl) (thn (BA (v:=.ref C) gB hm rfl hdb pins s σ H (fun x H1=>x = .ref C /\ H1 = H) I ⟨rfl,rfl⟩) fun u s1 hpt9=>?_) ht
 obtain ⟨x,H1,I1,rx,ex,eH⟩:=hpt9
 subst ex
 subst eH
 have eu:u = Value.ref C:=rx
 subst eu
 refine W.method_cls I1.kIn cf.sp (W.cls_value I1.kIn cf.rd cf.fn rfl ?_)
 refine W.callWith_K (first:=[]) (h₀:=X.base) I.ok.mod.kin cf.kp (thn (ha pos pins _ σ H1 _ (I1.tok _) h) fun us s2 ⟨vs,H2,I2,r,q2⟩=>⟨I2.kIn,?_⟩) hst hpl
 exact Az F hr hb .nil hx I2 r q2
theorem E4  (hN:W.nsIn X.K mainGlobals N = some (some (.ref C))) (M:Mk X.K C g) (F:FnOk X.prog X.w X.K X.mg X.base CX0 k g fd ps sp) (hr:Room (k + 1) X.A) (hg:Gl X N) (hm:X.mg N = some (.ref C)) (hb:Binds X.K fd ps []) (hx:jU CX0 X E0)
  (ha:PA X (e :: es) t) (hdb:(N == ("__debug__" : Str)) = false:=by decide) (he:starEach (e :: es) X.env = (false,eval e X.env) :: starEach es X.env:=by rfl) (hpl:(backTo pos (starEach es X.env)).any (·.1) = false:=by rfl) :
  PE X (.Call (.Name N p) (e :: es) [] pos) (w8 X.K N sp t):=fun a b c d q I h=>G3 M F hr hg hm hb .nil hx ha hdb he hpl a b c d q I (h C hN)
end
end L2
namespace M
open PySem L2
section
variable {K:W.Frag} {S S' H H':Hp}
noncomputable def uA:List Str -> List D -> Str -> Option D
 | n :: ns,d :: l,f=>if f = n then some d else uA ns l f
 | _,_,_=>none
theorem Ee:∀ {fs:List (Str × V)} {l:List D} {f:Str} {d:D},Dens K S l (fs.map (·.2)) -> uA (fs.map (·.1)) l f = some d -> ∃ v,fs.lookup f = some v /\ Den K S d v
 | [],l,f,d,h,e=>by
  cases l <;> simp [uA] at e
 | (n,v) :: fs,l,f,d,h,e=>by
  cases l with
  | nil=>simp [uA] at e
  | cons a l=>
   obtain ⟨y,ys,e1,h1,h2⟩:=h.cons_of
   rw [List.map_cons] at e1
   cases e1
   rw [List.map_cons,uA] at e
   by_cases hf:f = n
   ·rw [if_pos hf] at e
    cases e
    exact ⟨v,by simp [List.lookup,hf],h1⟩
   ·rw [if_neg hf] at e
    obtain ⟨w,q1,q2⟩:=Ee h2 e
    have hb:(f == n) = false:=by simpa using hf
    exact ⟨w,by simp [List.lookup,hb,q1],q2⟩
theorem Ed:∀ {fs:List (Str × V)} {f:Str},(fs.map (·.1)).contains f = false -> fs.lookup f = none
 | [],_,_=>rfl
 | (n,v) :: fs,f,h=>by
  simp at h
  have hb:(f == n) = false:=by simpa using h.1
  rw [List.lookup,hb]
  exact Ed (by simpa using h.2)
@[simp] noncomputable def nk (Ns:List Str) (f:Str) (e:XE):XE:=fun ρ=>(e ρ).bind fun d=>match d with | .ins N ns l=>if Ns.contains N then uA ns l f else none | _=>none
theorem FB {Ns:List Str}  {ta:TE}  (h:SE K ta e):SE K (FT K Ns ta f) (nk Ns f e):=fun ρ σ S H Q d r x k=>by
 unfold nk at x
 cases q:e ρ with
 | none=>rw [q] at x;cases x
 | some d0=>
  rw [q] at x
  dsimp only [Option.bind] at x
  cases d0 <;> try (cases x;done)
  rename_i N ns l
  dsimp only at x
  split at x
  ·rename_i hc
   refine h ρ σ S H _ _ r q fun v S1 H1 z1 d1=>?_
   obtain ⟨p,C,dx,fs,rfl,hC,h1,h2,h3⟩:=den_ins.mp d1
   subst h2
   obtain ⟨w,w1,w2⟩:=Ee h3 x
   exact ⟨p,C,dx,fs,w,⟨rfl,⟨N,by simpa using hc,hC⟩,z1.sub _ _ h1⟩,w1,k w S1 H1 z1 w2⟩
  ·cases x
@[simp] noncomputable def bx (Ns:List Str) (m:Str) (g:List D -> Option D) (e:XE) (a:XA):XE:=fun ρ=>(e ρ).bind fun d=>match d with | .ins N ns l=>if Ns.contains N && !ns.contains m then (a ρ).bind fun ds=>g (.ins N ns l :: ds) else none | _=>none
theorem JX {Ns:List Str}  {n:Nat}  {ta:TE}    (h:SE K ta e) (ha:SA K t a) (hn:∀ ρ ds,a ρ = some ds -> ds.length = n):SE K (w9 K Ns m (bW K (n + 1) g) ta t) (bx Ns m (fun ds=>(g ds).map O.d) e a):=fun ρ σ S H Q d r x k=>by
 unfold bx at x
 cases q:e ρ with
 | none=>rw [q] at x;cases x
 | some d0=>
  rw [q] at x
  dsimp only [Option.bind] at x
  cases d0 <;> try (cases x;done)
  rename_i N ns l
  dsimp only at x
  split at x
  ·rename_i hc
   rw [Bool.and_eq_true] at hc
   cases qa:a ρ with
   | none=>rw [qa] at x;cases x
   | some ds=>
    rw [qa] at x
    dsimp only at x
    cases qg:g (.ins N ns l :: ds) with
    | none=>rw [qg] at x;cases x
    | some o=>
     rw [qg] at x
     cases x
     refine h ρ σ S H _ _ r q fun v S1 H1 z1 d1=>?_
     obtain ⟨p,C,dx,fs,rfl,hC,h1,h2,h3⟩:=den_ins.mp d1
     refine ⟨p,C,dx,fs,⟨rfl,⟨N,by simpa using hc.1,hC⟩,z1.sub _ _ h1⟩,Ed (by rw [h2];simpa using hc.2),?_⟩
     refine ha ρ σ S1 H1 _ ds (r.ext z1) qa fun vs S2 H2 z2 d2=>?_
     have dd:Dens K S2 (.ins N ns l :: ds) (.ref p :: vs):=.cons (d1.mono z2.sh) d2
     refine ⟨by rw [List.length_cons,<- d2.length,hn ρ ds qa],S2,_,o,z2.sub,dd,qg,fun v fp S3 H3 z3 ow nd fr=>?_⟩
     exact k v _ H3 ((z1.trans z2).trans (xZ z3 fr)) (ow.den (kP fun b hb=>(fr b hb).2) fun b hb=>rA hb)
  ·cases x
noncomputable def jJ (K:W.Frag) (Ns:List Str) (f:Str) (n:Nat) (mi:List D -> Option D):Sp:=fun vs H Q _=>vs.length = n + 1 /\ ∃ x rest C dx S ds d,vs = .ref x :: rest /\ H x = some (.ins C dx []) /\ (∃ N ∈ Ns,W.nsIn K mainGlobals N = some (some (.ref C))) /\ S x = none /\ Same S H /\ Dens K S ds rest /\ mi ds = some d /\
 ∀ S' H' v,Ext S H S' H' -> Den K S' d v -> Q .non (upd H' x (.ins C dx [(f,v)]))
noncomputable def Eo:List D -> Option D
 | [d]=>some d
 | _=>none
theorem Ep {Ns:List Str} {f:Str}     (hc:qE K Ns fun C=>Cls K C /\ NoAttr K C f)  (h:jJ K Ns f 1 Eo vs H Q E):LG K (pS 0) (pS 1) f { nx:=fun _ H'=>Q .non H',rt:=Q } (L2.di N vs) H:=by
 obtain ⟨_,x,rest,C,dx,S,ds,d,rfl,hx,⟨M,hM,hC⟩,nS,sub,dd,e,k⟩:=h
 match ds,e with
 | [d'],e=>
  cases e
  obtain ⟨v,ys,rfl,dv,dn⟩:=dd.cons_of
  cases dn.nil_of
  obtain ⟨c,n⟩:=hc M hM C hC
  exact ⟨v,rfl,.ref x,rfl,x,C,dx,[],rfl,hx,c,n,by decide,k S H v (Ext.refl sub) dv⟩
theorem BC {x:Addr} {ds:List D}  (s:Same S H) (h:Dens K S ds vs):Rl K (.lo :: ds.map .sh) (some (.ref x) :: vs.map some) S H:=by
 have hl:=h.length
 refine ⟨fun _=>none,fun i=>if i = 0 then some x else none,fun _=>[],?_⟩
 have ge:∀ (i:Nat) t,(Sl.lo :: ds.map Sl.sh)[i]? = some t -> (i = 0 /\ t = .lo) \/ ∃ d v,t = .sh d /\ (some (V.ref x) :: vs.map some)[i]? = some (some v) /\ Den K S d v:=fun i t ht=>by
  cases i with
  | zero=>cases ht;exact .inl ⟨rfl,rfl⟩
  | succ i=>
   rw [List.getElem?_cons_succ,List.getElem?_map] at ht
   cases q:ds[i]? with
   | none=>rw [q] at ht;cases ht
   | some d=>
    rw [q] at ht
    cases ht
    obtain ⟨v,e1,e2⟩:=h.get q
    refine .inr ⟨d,v,rfl,?_,e2⟩
    rw [List.getElem?_cons_succ,List.getElem?_map,e1]
    rfl
 exact {
  len:=by rw [List.length_cons,List.length_cons,List.length_map,List.length_map,hl]
  sub:=s
  sh:=fun i d hi=>by
   rcases ge i _ hi with ⟨_,e⟩ | ⟨d',v,e,h1,h2⟩
   ·cases e
   ·cases e;exact ⟨v,h1,h2⟩
  ow:=fun i o hi=>by
   rcases ge i _ hi with ⟨_,e⟩ | ⟨d',v,e,h1,h2⟩
   ·cases e
   ·cases e
  dj:=fun i j o o' _ hi _=>by
   rcases ge i _ hi with ⟨_,e⟩ | ⟨d',v,e,h1,h2⟩
   ·cases e
   ·cases e
  lo:=fun i hi=>by
   rcases ge i _ hi with ⟨rfl,e⟩ | ⟨d',v,e,h1,h2⟩
   ·exact ⟨x,rfl,rfl⟩
   ·cases e
  asub:=fun b o e=>by cases e
  adis:=fun b=>.inr (.inl rfl) }
noncomputable def yc (xt:XT) (xe:XE) (ds:List D):Option D:=if xt (.lo :: ds.map .sh) = some false then xe (.lo :: ds.map .sh) else none
noncomputable def K1 (xe:XE) (ds:List D):Option D:=xe (.lo :: ds.map .sh)
theorem yd {Ns:List Str} {f:Str} {te:TE} {xe:XE} {x:Addr} {rest:List V} {C dx:Addr} {ds:List D} {d:D} {S H:Hp} {Dd:_} {Q:VK} (he:SE K te xe) (sub:Same S H) (dd:Dens K S ds rest) (hx:H x = some (.ins C dx [])) (hc:∃ N ∈ Ns,W.nsIn K mainGlobals N = some (some (.ref C))) (nS:S x = none)
  (e:xe (.lo :: ds.map .sh) = some d) (hD:Dd = ({ nx:=fun _ H'=>Q .non H',rt:=Q }:_)) (k:∀ S' H' v,Ext S H S' H' -> Den K S' d v -> Q .non (upd H' x (.ins C dx [(f,v)]))) :
  uf (oJ (jJ K Ns f 1 Eo) [] E0 (fh (pS 0) (fh te oM))) Dd (some (.ref x) :: rest.map some) H:=by
 subst hD
 refine ⟨.ref x,rfl,he _ _ S H _ d (BC sub dd) e fun v S1 H1 z1 d1=>?_⟩
 refine ⟨rfl,x,[v],C,dx,S1,[d],d,rfl,(z1.al x _ hx nS).1,hc,(z1.al x _ hx nS).2,z1.sub,.cons d1 .nil,rfl,fun S2 H2 w z2 d2=>k S2 H2 w (z1.trans z2) d2⟩
theorem sF {Ns:List Str}  {n:Nat} {tt:TT}  {te:TE}  {N:List Str}     (ht:ST K tt xt) (he:SE K te xe) (hN:N.length = n + 1) (h:jJ K Ns f n (yc xt xe) vs H Q E) :
  Hx (Hv tt FU BH) (uf (oJ (jJ K Ns f 1 Eo) [] E0 (fh (pS 0) (fh te oM)))) { nx:=fun _ H'=>Q .non H',rt:=Q } (L2.di N vs) H:=by
 obtain ⟨hl,x,rest,C,dx,S,ds,d,rfl,hx,hc,nS,sub,dd,e,k⟩:=h
 have es:L2.di N (.ref x :: rest) = some (.ref x) :: rest.map some:=by
  unfold L2.di
  rw [hl,hN,Nat.sub_self]
  simp
 unfold yc at e
 split at e
 ·rename_i q
  rw [es]
  refine ht _ _ S H _ false (BC sub dd) q fun S1 H1 z1=>?_
  rw [if_neg Bool.false_ne_true]
  exact yd he z1.sub (dd.mono z1.sh) (z1.al x _ hx nS).1 hc (z1.al x _ hx nS).2 e rfl fun S2 H2 w z2 d2=>k S2 H2 w (z1.trans z2) d2
 ·cases e
theorem Cw {Ns:List Str}  {n:Nat} {te:TE}  {N:List Str}     (he:SE K te xe) (hN:N.length = n + 1) (h:jJ K Ns f n (K1 xe) vs H Q E) :
  uf (oJ (jJ K Ns f 1 Eo) [] E0 (fh (pS 0) (fh te oM))) { nx:=fun _ H'=>Q .non H',rt:=Q } (L2.di N vs) H:=by
 obtain ⟨hl,x,rest,C,dx,S,ds,d,rfl,hx,hc,nS,sub,dd,e,k⟩:=h
 have es:L2.di N (.ref x :: rest) = some (.ref x) :: rest.map some:=by
  unfold L2.di
  rw [hl,hN,Nat.sub_self]
  simp
 rw [es]
 exact yd he sub dd hx hc nS e rfl k
@[simp] noncomputable def qD (N f:Str) (mi:List D -> Option D) (a:XA):XE:=fun ρ=>((a ρ).bind mi).map fun d=>.ins N [f] [d]
theorem JW {Ns:List Str} {N:Str} {n:Nat}    (hN:N ∈ Ns) (h:SA K t a) (hn:∀ ρ ds,a ρ = some ds -> ds.length = n):SE K (w8 K N (jJ K Ns f n mi) t) (qD N f mi a):=fun ρ σ S H Q d r x k C hC=>by
 unfold qD at x
 cases q:a ρ with
 | none=>rw [q] at x;cases x
 | some ds=>
  rw [q] at x
  dsimp only [Option.bind] at x
  cases q2:mi ds with
  | none=>rw [q2] at x;cases x
  | some d0=>
   rw [q2] at x
   cases x
   refine h ρ σ S H _ ds r q fun vs S1 H1 z1 d1=>?_
   intro x dx nx ndx nex
   have s0:Same S1 (upd (upd H1 dx (.own x)) x (.ins C dx [])):=fun b o e=>by
    have e':=z1.sub b o e
    rw [aF (aL e' nx),aF (aL e' ndx)]
    exact e'
   have nS:S1 x = none:=z1.sub.free nx
   refine ⟨by rw [List.append_nil,List.length_cons,<- d1.length,hn ρ ds q],x,vs,C,dx,S1,ds,d0,by rw [List.append_nil],aB,⟨N,hN,hC⟩,nS,s0,d1,q2,fun S2 H2 v z2 d2=>⟨rfl,?_⟩⟩
   have hx2:=z2.al x _ aB nS
   have z3:Ext S1 H1 (upd S2 x (.ins C dx [(f,v)])) (upd H2 x (.ins C dx [(f,v)])):={
    sh:=fun b o e=>by
     rw [aF (aL (z1.sub b o e) nx)]
     exact z2.sh b o e
    sub:=fun b o e=>by
     by_cases hb:b = x
     ·subst hb;rw [aB] at e ⊢;exact e
     ·rw [aF hb] at e ⊢;exact z2.sub b o e
    alw:=fun b o e ne=>by
     have hb:=aL e nx
     rw [aF hb,aF hb]
     exact z2.alw b o (by rw [aF hb,aF (aL e ndx)];exact e) ne }
   refine k (.ref x) _ _ (z1.trans z3) (den_ins.mpr ⟨x,C,dx,[(f,v)],rfl,hC,aB,rfl,?_⟩)
   refine .cons (d2.mono fun b o e=>?_) .nil
   rw [aF (aL e hx2.2)]
   exact e
end
end M
namespace M
noncomputable def i9:List Int -> Int
 | []=>0
 | [a]=>a
 | a :: l=>min a (i9 l)
noncomputable def kf:List Int -> Int
 | []=>0
 | [a]=>a
 | a :: l=>max a (kf l)
theorem vF (a b:Int) (l:List Int):i9 (a :: b :: l) = min a (i9 (b :: l)):=rfl
theorem CN (a b:Int) (l:List Int):kf (a :: b :: l) = max a (kf (b :: l)):=rfl
theorem vG:∀ (a:Int) (l:List Int),i9 (a :: l) ∈ a :: l /\ ∀ b ∈ a :: l,i9 (a :: l) <= b
 | a,[]=>⟨List.mem_cons_self,fun b hb=>by rw [List.mem_singleton] at hb;subst hb;exact Int.le_refl _⟩
 | a,c :: l=>by
  obtain ⟨h1,h2⟩:=vG c l
  rw [vF]
  refine ⟨?_,fun b hb=>?_⟩
  ·rcases Int.le_total a (i9 (c :: l)) with h | h
   ·rw [Int.min_eq_left h];exact List.mem_cons_self
   ·rw [Int.min_eq_right h];exact List.mem_cons_of_mem _ h1
  ·rcases List.mem_cons.mp hb with rfl | hb
   ·exact Int.min_le_left _ _
   ·exact Int.le_trans (Int.min_le_right _ _) (h2 b hb)
theorem vE:∀ (a:Int) (l:List Int),kf (a :: l) ∈ a :: l /\ ∀ b ∈ a :: l,b <= kf (a :: l)
 | a,[]=>⟨List.mem_cons_self,fun b hb=>by rw [List.mem_singleton] at hb;subst hb;exact Int.le_refl _⟩
 | a,c :: l=>by
  obtain ⟨h1,h2⟩:=vE c l
  rw [CN]
  refine ⟨?_,fun b hb=>?_⟩
  ·rcases Int.le_total a (kf (c :: l)) with h | h
   ·rw [Int.max_eq_right h];exact List.mem_cons_of_mem _ h1
   ·rw [Int.max_eq_left h];exact List.mem_cons_self
  ·rcases List.mem_cons.mp hb with rfl | hb
   ·exact Int.le_max_left _ _
   ·exact Int.le_trans (h2 b hb) (Int.le_max_right _ _)
theorem vH {ns:List Int} {m:Int} (h1:m ∈ ns) (h2:∀ a,a ∈ ns -> m <= a):i9 ns = m:=by
 cases ns with
 | nil=>cases h1
 | cons a l=>
  obtain ⟨k1,k2⟩:=vG a l
  exact Int.le_antisymm (k2 m h1) (h2 _ k1)
theorem CO {ns:List Int} {m:Int} (h1:m ∈ ns) (h2:∀ a,a ∈ ns -> a <= m):kf ns = m:=by
 cases ns with
 | nil=>cases h1
 | cons a l=>
  obtain ⟨k1,k2⟩:=vE a l
  exact Int.le_antisymm (h2 _ k1) (k2 m h1)
end M
namespace L2
open PySem PySem.Spec PyProof.Rows
section
variable {prog:Program} {w:World} {A:Around} {E:Value -> Shared -> Prop} {s:Shared}
theorem yt  {vs:List Value}  {Q:Value -> Shared -> Prop} (hh:A.handled = none) (hl:s.heap.IsList l vs.toArray) (hi:IntsAre vs ns) (hne:0 < ns.length)
  (h:∀ (h':Heap) (t:Tok) (tk:Nat),(∀ b o,s.heap.get? b = some o -> h'.get? b = some o) -> Q (.int (M.i9 ns) t) { s with heap:=h',toks:=tk }):wpAny (model prog w) A (call (.builtin "min") [.ref l]) Q E s:=by
 obtain ⟨xs,e⟩:=hi.allInts.items
 have hns:ns = xs.toList.map (·.1):=by rw [<- hi.numsOf,<- nums_intItems,<- e]
 have hsz:0 < xs.size:=by have h3:=hne;rw [hns,List.length_map,Array.length_toList] at h3;exact h3
 rw [e] at hl;refine min_intList hh hl hsz fun v h' tk hv hk=>?_
 obtain ⟨t,rfl⟩:=intItems_at hv;obtain ⟨h1,h2⟩:=argBest_lt (numAt xs) (xs.size - 1)
 have em:M.i9 ns = numAt xs (argBest (fun i j=>decide (numAt xs i < numAt xs j)) (xs.size - 1)):=by
  refine M.vH ?_ fun a ha=>?_
  ·rw [hns,numAt_eq];exact getD_mem (by rw [List.length_map,Array.length_toList];lia)
  ·rw [hns] at ha;obtain ⟨j,hj,rfl⟩:=mem_getD ha;rw [List.length_map,Array.length_toList] at hj;rw [<- numAt_eq];exact h2 j (by lia)
 rw [<- em];exact h h' t tk hk
theorem yo  {vs:List Value}  {Q:Value -> Shared -> Prop} (hh:A.handled = none) (hl:s.heap.IsList l vs.toArray) (hi:IntsAre vs ns) (hne:0 < ns.length)
  (h:∀ (h':Heap) (t:Tok) (tk:Nat),(∀ b o,s.heap.get? b = some o -> h'.get? b = some o) -> Q (.int (M.kf ns) t) { s with heap:=h',toks:=tk }):wpAny (model prog w) A (call (.builtin "max") [.ref l]) Q E s:=by
 obtain ⟨xs,e⟩:=hi.allInts.items
 have hns:ns = xs.toList.map (·.1):=by rw [<- hi.numsOf,<- nums_intItems,<- e]
 have hsz:0 < xs.size:=by have h3:=hne;rw [hns,List.length_map,Array.length_toList] at h3;exact h3
 rw [e] at hl;refine max_intList hh hl hsz fun v h' tk hv hk=>?_
 obtain ⟨t,rfl⟩:=intItems_at hv;obtain ⟨h1,h2⟩:=argBest_gt (numAt xs) (xs.size - 1)
 have em:M.kf ns = numAt xs (argBest (fun i j=>decide (numAt xs i > numAt xs j)) (xs.size - 1)):=by
  refine M.CO ?_ fun a ha=>?_
  ·rw [hns,numAt_eq];exact getD_mem (by rw [List.length_map,Array.length_toList];lia)
  ·rw [hns] at ha;obtain ⟨j,hj,rfl⟩:=mem_getD ha;rw [List.length_map,Array.length_toList] at hj;rw [<- numAt_eq];exact h2 j (by lia)
 rw [<- em];exact h h' t tk hk
theorem B4 (a b c d:Value):argsOk "min" ⟨[a,b,c,d],[]⟩:=by unfold argsOk;kernel_rfl
theorem CU {a b c d:Value} {Q:Value -> Shared -> Prop}
  (h:wpAny (model prog w) A.in1 (pyIter (.ref s.heap.objs.size)) (fun it s₂=>∃ I fp wr n P St bt,it = .ref I /\ Walks prog w A.in1 I fp wr n P St /\ St 0 s₂.heap /\ (∀ b ∈ fp,b < s₂.heap.objs.size) /\ 0 < n /\ CmpOf prog w A.in1 .Lt P bt /\ ∀ v h' tk,P (argBest bt (n - 1)) v -> (∀ b o,b ∉ wr -> s₂.heap.get? b = some o -> h'.get? b = some o) -> Q v { s₂ with heap:=h',toks:=tk }) E { s with heap:=s.heap.push { cls:=.type "tuple",data:=.seq #[a,b,c,d] } }) :
  wpAny (model prog w) A (call (.builtin "min") [a,b,c,d]) Q E s:=by
 have hname:(toString "min" ++ toString ".loop" : String) = "min.loop" := by decide
 refine call_function_tree F.kind_min F.plain_min F.entry_min (B4 _ _ _ _) ?_;show wpAny _ A.in1 (Builtin.Builtins.bindParams "min" ["key", "default"] 0 ⟨[],[]⟩ >>= _) _ _ s
 refine wpAny_bind (wpAny_of_eq (show Builtin.Builtins.bindParams "min" ["key", "default"] 0 ⟨[],[]⟩ = pure [none,none] from rfl) ?_);show wpAny _ A.in1 (newTuple [a,b,c,d] >>= _) _ _ s
 refine wpAny_bind (wpAny_newObj_type ?_);refine wpAny_bind (wpAny_mono h (fun it s₂ h₂=>?_) fun _ _ e=>e);obtain ⟨I,fp,wr,n,P,St,bt,rfl,W,hst,hfp,hn,hcmp,hQ⟩:=h₂
 refine wpAny_bind (wpAny_newObj_type ?_);have hSf:s₂.heap.objs.size ∉ fp:=fun hm=>Nat.lt_irrefl _ (hfp _ hm)
 rw [hname];refine wpAny_pure ⟨plainId_quiet F.plain_min_loop _,codeAny_min_loop_first W bt hcmp s₂.heap.objs.size hSf hn (W.frame _ _ _ hst fun b _ o e=>Heap.get?_push_of_some _ e) (Heap.get?_push_size _ rfl) fun v h' tk hP hk=>?_⟩
 exact hQ v h' tk hP fun b o hbw e=>hk b o hbw (Nat.ne_of_lt (Heap.lt_size e)) (Heap.get?_push_of_some _ e)
theorem yr {a b c d:Int} {t u x y:Tok} {Q:Value -> Shared -> Prop} (hh:A.handled = none) (h:∀ (h':Heap) (z:Tok) (tk:Nat),(∀ b o,s.heap.get? b = some o -> h'.get? b = some o) -> Q (.int (M.i9 [a,b,c,d]) z) { s with heap:=h',toks:=tk }) :
  wpAny (model prog w) A (call (.builtin "min") [.int a t,.int b u,.int c x,.int d y]) Q E s:=by
 have hT:(s.heap.push { cls:=.type "tuple",data:=.seq #[.int a t,.int b u,.int c x,.int d y] }).IsTuple s.heap.objs.size (intItems #[(a,t),(b,u),(c,x),(d,y)]):=⟨_,Heap.get?_push_size _ rfl,rfl,0,by simp [intItems]⟩
 refine CU (wpAny_pyIter_tuple hT ?_);have hsz:(s.heap.push { cls:=.type "tuple",data:=.seq #[.int a t,.int b u,.int c x,.int d y] }).objs.size = s.heap.objs.size + 1:=Heap.size_push ..
 refine ⟨_,[_,s.heap.objs.size],[_],_,_,_,_,rfl,Walks.tuple (A:=A.in1) hh _ s.heap.objs.size (by rw [hsz];exact Nat.ne_of_lt (Nat.lt_succ_self _)) (intItems #[(a,t),(b,u),(c,x),(d,y)]),⟨⟨_,Heap.get?_push_size _ rfl,rfl,rfl⟩,hT.push _⟩,fun e hd=>?_,by simp [intItems],CmpOf.ints_lt (numAt #[(a,t),(b,u),(c,x),(d,y)]) (fun _ _=>intItems_at),fun v h' tk hP hk=>?_⟩
 ·show e < ((s.heap.push _).push _).objs.size
  rw [Heap.size_push,hsz];rcases List.mem_cons.mp hd with rfl | hd
  ·rw [hsz];exact Nat.lt_succ_self _
  ·rcases List.mem_cons.mp hd with rfl | hd
   ·exact Nat.lt_succ_of_lt (Nat.lt_succ_self _)
   ·cases hd
 ·have hold:∀ z o,s.heap.get? z = some o -> h'.get? z = some o:=fun z o e=>by
   refine hk z o (fun hm=>?_) (Heap.get?_push_of_some _ (Heap.get?_push_of_some _ e));rcases List.mem_cons.mp hm with e1 | hm
   ·have:=Heap.lt_size e;rw [e1,hsz] at this;exact Nat.lt_irrefl _ (Nat.lt_of_succ_lt this)
   ·cases hm
  have hP':(intItems #[(a,t),(b,u),(c,x),(d,y)])[argBest (fun i j=>decide (numAt #[(a,t),(b,u),(c,x),(d,y)] i < numAt #[(a,t),(b,u),(c,x),(d,y)] j)) 3]? = some v:=by
   have hsz2:(intItems #[(a,t),(b,u),(c,x),(d,y)]).size - 1 = 3:=by simp [intItems]
   rw [<- hsz2];exact hP
  obtain ⟨z,rfl⟩:=intItems_at hP';obtain ⟨h1,h2⟩:=argBest_lt (numAt #[(a,t),(b,u),(c,x),(d,y)]) 3
  have em:M.i9 [a,b,c,d] = numAt #[(a,t),(b,u),(c,x),(d,y)] (argBest (fun i j=>decide (numAt #[(a,t),(b,u),(c,x),(d,y)] i < numAt #[(a,t),(b,u),(c,x),(d,y)] j)) 3):=by
   have k0:=h2 0 (by lia);have k1:=h2 1 (by lia);have k2:=h2 2 (by lia);have k3:=h2 3 (by lia)
   generalize hg:argBest (fun i j=>decide (numAt #[(a,t),(b,u),(c,x),(d,y)] i < numAt #[(a,t),(b,u),(c,x),(d,y)] j)) 3 = g at h1 k0 k1 k2 k3 ⊢
   refine M.vH ?_ fun e he=>?_
   ·rcases (show g = 0 \/ g = 1 \/ g = 2 \/ g = 3 by lia) with rfl | rfl | rfl | rfl <;> simp [numAt]
   ·simp only [List.mem_cons,List.not_mem_nil,or_false] at he
    rcases he with rfl | rfl | rfl | rfl
    ·exact k0
    ·exact k1
    ·exact k2
    ·exact k3
  rw [<- em];exact h h' z tk hold
end
noncomputable def Fs (K:W.Frag):List V -> Hp -> VK -> Prop:=fun xs H Q=>∃ p,∃ ns:List Int,xs = [.ref p] /\ SqL K H p (ns.map V.int) /\ 0 < ns.length /\ Q (.int (M.i9 ns)) H
noncomputable def Fq (K:W.Frag):List V -> Hp -> VK -> Prop:=fun xs H Q=>∃ p,∃ ns:List Int,xs = [.ref p] /\ SqL K H p (ns.map V.int) /\ 0 < ns.length /\ Q (.int (M.kf ns)) H
noncomputable def HV:List V -> Hp -> VK -> Prop:=fun xs H Q=>∃ a b c d,xs = [.int a,.int b,.int c,.int d] /\ Q (.int (M.i9 [a,b,c,d])) H
section
variable {X:Cx}
theorem zA (hc:X.calm = true):CallR X (.builtin "min") (Fs X.K):=by
 intro pins s σ H xs us Q I r h
 obtain ⟨p,ns,rfl,hS,hne,q⟩:=h
 obtain ⟨u,rfl,ru⟩:=r.one
 cases ru
 obtain ⟨its,rv,pl,hz⟩:=I.list hS
 exact yt (I.ok.hd hc) pl.isList (gI rv) hne fun h' t tk k=>⟨.int (M.i9 ns),H,I.kept k,⟨t,rfl⟩,q⟩
theorem zz (hc:X.calm = true):CallR X (.builtin "max") (Fq X.K):=by
 intro pins s σ H xs us Q I r h
 obtain ⟨p,ns,rfl,hS,hne,q⟩:=h
 obtain ⟨u,rfl,ru⟩:=r.one
 cases ru
 obtain ⟨its,rv,pl,hz⟩:=I.list hS
 exact yo (I.ok.hd hc) pl.isList (gI rv) hne fun h' t tk k=>⟨.int (M.kf ns),H,I.kept k,⟨t,rfl⟩,q⟩
theorem Cd (hc:X.calm = true):CallR X (.builtin "min") HV:=by
 intro pins s σ H xs us Q I r h
 obtain ⟨a,b,c,d,rfl,q⟩:=h
 cases r with
 | cons r1 r=>cases r with
  | cons r2 r=>cases r with
   | cons r3 r=>cases r with
    | cons r4 r=>
     cases r
     obtain ⟨t,rfl⟩:=r1
     obtain ⟨t2,rfl⟩:=r2
     obtain ⟨t3,rfl⟩:=r3
     obtain ⟨t4,rfl⟩:=r4
     exact yr (I.ok.hd hc) fun h' t tk k=>⟨.int (M.i9 [a,b,c,d]),H,I.kept k,⟨t,rfl⟩,q⟩
end
end L2
namespace M
open PySem L2
noncomputable def xF:List D -> Option D
 | [.lst l]=>(bh l).bind fun ns=>if 0 < ns.length then some (.int (i9 ns)) else none
 | _=>none
noncomputable def xE:List D -> Option D
 | [.lst l]=>(bh l).bind fun ns=>if 0 < ns.length then some (.int (kf ns)) else none
 | _=>none
noncomputable def A0:List D -> Option D
 | [.int a,.int b,.int c,.int d]=>some (.int (i9 [a,b,c,d]))
 | _=>none
section
variable {K:W.Frag}
theorem Iy:SRB K (Fs K) xF:=fun S H vs ds g Q s d q k=>by
 unfold xF at q
 split at q
 ·rename_i l
  cases qi:bh l with
  | none=>rw [qi] at q;cases q
  | some ns=>
   rw [qi] at q
   dsimp only [Option.bind] at q
   split at q
   ·rename_i hne
    cases q
    obtain ⟨v,rfl,d1⟩:=cR d
    obtain ⟨p,xs,rfl,h1,h2⟩:=d1.lst s
    obtain ⟨e,_⟩:=iY h2 qi
    subst e
    exact ⟨p,ns,rfl,.inl h1,hne,k _ S H (Ext.refl s) (den_int.mpr rfl)⟩
   ·cases q
 ·cases q
theorem Iv:SRB K (Fq K) xE:=fun S H vs ds g Q s d q k=>by
 unfold xE at q
 split at q
 ·rename_i l
  cases qi:bh l with
  | none=>rw [qi] at q;cases q
  | some ns=>
   rw [qi] at q
   dsimp only [Option.bind] at q
   split at q
   ·rename_i hne
    cases q
    obtain ⟨v,rfl,d1⟩:=cR d
    obtain ⟨p,xs,rfl,h1,h2⟩:=d1.lst s
    obtain ⟨e,_⟩:=iY h2 qi
    subst e
    exact ⟨p,ns,rfl,.inl h1,hne,k _ S H (Ext.refl s) (den_int.mpr rfl)⟩
   ·cases q
 ·cases q
theorem Gx  {a b c d:D}  (h:DensP K S H [a,b,c,d] vs):∃ v w x y,vs = [v,w,x,y] /\ DenP K S H a v /\ DenP K S H b w /\ DenP K S H c x /\ DenP K S H d y:=by
 cases h with
 | cons h1 h=>cases h with
  | cons h2 h=>cases h with
   | cons h3 h=>cases h with
    | cons h4 h=>cases h;exact ⟨_,_,_,_,rfl,h1,h2,h3,h4⟩
theorem Ix:SRB K HV A0:=fun S H vs ds g Q s d q k=>by
 unfold A0 at q
 split at q
 ·rename_i a b c e
  cases q
  obtain ⟨v,w,x,y,rfl,d1,d2,d3,d4⟩:=Gx d
  exact ⟨a,b,c,e,by rw [d1.int,d2.int,d3.int,d4.int],k _ S H (Ext.refl s) (den_int.mpr rfl)⟩
 ·cases q
end
end M
namespace L2
open PySem
theorem c8 {XN:List Str} {sc scope:Scope} {N:List Str} {js:List (Option Nat)} (h1:scope.kind = .function:=by rfl) (h2:∀ y ∈ scope.names,y.2 ≠ .cell:=by decide +kernel) (h3:∀ y ∈ scope.names,y.2 = .free -> sc.names.lookup y.1 = some .cell \/ sc.names.lookup y.1 = some .free:=by decide +kernel)
  (h4:∀ y ∈ scope.names,y.2 = .local -> scope.names.lookup y.1 = some .local:=by decide +kernel) (h5:js.length = N.length:=by rfl) (h6:((N.zip js).all fun p=>match p.2 with | none=>true | some j=>decide (XN[j]? = some p.1) && decide (scope.names.lookup p.1 = some .free)) = true:=by decide +kernel):CmpOk XN sc scope N js:=⟨h1,h2,h3,h4,h5,h6⟩
end L2
namespace M
open PySem L2
@[simp] noncomputable def No (m:List D -> Option D) (e:D) (a:XA):XE:=fun ρ=>(a ρ).bind fun ds=>m (ds ++ [e])
section
variable {K:W.Frag}
end
end M
namespace L2
open PySem
section
variable {P:Program} {w:World} {K:W.Frag} {mg:Str -> Option Value} {base:Heap}
end
end L2
namespace L2
open PySem PySem.Spec PyProof.Rows
structure CmpOkC (XN:List Str) (sc scope:Scope) (N:List Str) (js:List (Option Nat)) (t:Str):Prop where
 kind:scope.kind = .function
 free:∀ y ∈ scope.names,y.2 = .free -> sc.names.lookup y.1 = some .cell \/ sc.names.lookup y.1 = some .free
 loc:∀ y ∈ scope.names,y.2 = .local -> scope.names.lookup y.1 = some .local
 len:js.length = N.length
 ix:((N.zip js).all fun p=>match p.2 with | none=>true | some j=>decide (XN[j]? = some p.1) && decide (scope.names.lookup p.1 = some .free)) = true
 cell1:∀ y ∈ scope.names,y.2 = .cell -> y.1 = t
 tl:scope.names.lookup t = some .cell
 laid:∀ n acc,cellsFrom n scope.names acc = (t,n) :: acc
 pushed:∀ h,pushCells h scope.names = h.push { cls:=.type "cell",data:=.cell none }
theorem IG {XN:List Str} {sc scope:Scope} {N:List Str} {js:List (Option Nat)} {t:Str} (h1:scope.kind = .function:=by rfl) (h3:∀ y ∈ scope.names,y.2 = .free -> sc.names.lookup y.1 = some .cell \/ sc.names.lookup y.1 = some .free:=by decide +kernel)
  (h4:∀ y ∈ scope.names,y.2 = .local -> scope.names.lookup y.1 = some .local:=by decide +kernel) (h5:js.length = N.length:=by rfl) (h6:((N.zip js).all fun p=>match p.2 with | none=>true | some j=>decide (XN[j]? = some p.1) && decide (scope.names.lookup p.1 = some .free)) = true:=by decide +kernel)
  (h7:∀ y ∈ scope.names,y.2 = .cell -> y.1 = t:=by decide +kernel) (h8:scope.names.lookup t = some .cell:=by decide +kernel) (h9:∀ n acc,cellsFrom n scope.names acc = (t,n) :: acc:=by intro n acc;rfl) (h10:∀ h,pushCells h scope.names = h.push { cls:=.type "cell",data:=.cell none }:=by intro h;rfl):CmpOkC XN sc scope N js t:=⟨h1,h3,h4,h5,h6,h7,h8,h9,h10⟩
noncomputable def cxD (t:Str) (X:Cx) (N:List Str) (scope:Scope) (z:CxZ):Cx:={ cxC X N scope z with fn:=fun y=>y == t }
theorem kn {env:Env}:∀ {names:List (Str × NameKind)} {x:Str} {j:NameKind},(j = .cell \/ j = .free) ->
  (names.map fun (n,k)=>if (k == NameKind.free && env.scope.kind == .function && env.kindOf n == some .cell) then (n,NameKind.cell) else (n,k)).lookup x = some j -> (x,NameKind.free) ∈ names \/ (x,NameKind.cell) ∈ names
 | [],_,_,_,h=>by simp at h
 | (n,k) :: r,x,j,hj,h=>by
  have ih:=@kn env r x j hj
  rw [List.map_cons] at h
  dsimp only at h
  cases q:x == n with
  | true=>
   have e:x = n:=by simpa using q
   subst e
   split at h
   ·rename_i g
    have:k = .free:=by simp only [Bool.and_eq_true,beq_iff_eq] at g;exact g.1.1
    subst this
    exact .inl List.mem_cons_self
   ·rw [List.lookup_cons,q] at h
    cases h
    rcases hj with z | z
    ·rw [z];exact .inr List.mem_cons_self
    ·rw [z];exact .inl List.mem_cons_self
  | false=>
   have h':(r.map fun (n,k)=>if (k == NameKind.free && env.scope.kind == .function && env.kindOf n == some .cell) then (n,NameKind.cell) else (n,k)).lookup x = some j:=by
    split at h
    ·rw [List.lookup_cons,q] at h;exact h
    ·rw [List.lookup_cons,q] at h;exact h
   exact (ih h').imp (List.mem_cons_of_mem _) (List.mem_cons_of_mem _)
section
variable {X:Cx} {pins:List (Addr × Obj)} {σ:St} {H:Hp} {s:Shared} {XN N:List Str} {sc scope:Scope} {js:List (Option Nat)}
theorem GO     {cl:List (Str × Addr)} {globals:Addr} {qual:Str} {env:Env} {Q:Env -> Shared -> Prop} (ck:CmpOkC XN sc scope N js t)
  (h:Q { scope:=scope,locals:=s.heap.objs.size,globals:=globals,cells:=(t,s.heap.objs.size + 1) :: cl,qual:=qual,func:=none,code:=env.code,frame:=env.frame,builtins:=env.builtins } { s with heap:=(s.heap.push { cls:=.type "dict",data:=.dict #[] }).push { cls:=.type "cell",data:=.cell none } }):wpAny M A (newFunctionEnv scope globals cl [] qual none .none (some env)) Q E s:=by
 simp only [newFunctionEnv,Option.isSome_some,if_true]
 refine wpAny_bind (wpAny_alloc ?_)
 refine wpAny_bind (wpAny_layCells _ (fun name kind cells=>by cases hkc:kind == NameKind.cell <;> simp [hkc]) _ _ _ _ ?_)
 rw [ck.pushed,ck.laid,show ({ s with heap:=s.heap.push { cls:=.type "dict",data:=.dict #[] } }:Shared).heap.objs.size = s.heap.objs.size + 1 from Heap.size_push ..]
 exact wpAny_pure h
theorem CA  {h1:Heap} {tk:Nat} {fp:List Addr} (ck:CmpOkC XN sc scope N js t) (hXN:X.N = XN) (hsc:X.env.scope = sc) (I:Inv X pins σ H s) (hf:∀ b ∈ fp,mf X pins H b)
  (hfo:∀ b ∈ fp,b < s.heap.objs.size) (hh:h1 = (s.heap.push { cls:=.type "dict",data:=.dict #[] }).push { cls:=.type "cell",data:=.cell none }) :
  Inv (cxD t X N scope ⟨(t,s.heap.objs.size + 1) :: fj X.env scope.names [],s.heap.objs.size,s,H,fp,pins⟩) [] (inn js σ) H { s with heap:=h1,toks:=tk }:=by
 subst hXN hsc
 have hk:∀ b o,s.heap.get? b = some o -> h1.get? b = some o:=fun b o e=>by rw [hh];exact Heap.get?_push_of_some _ (Heap.get?_push_of_some _ e)
 have hn:h1.Ns s.heap.objs.size (fun _=>none):=by rw [hh];exact (Heap.Ns.new s.heap (.type "dict")).keeps fun b o e=>Heap.get?_push_of_some _ e
 have hcell:h1.get? (s.heap.objs.size + 1) = some { cls:=.type "cell",data:=.cell none }:=by
  rw [hh,<- Heap.size_push s.heap { cls:=.type "dict",data:=.dict #[] }]
  exact Heap.get?_push_size _ rfl
 have look:∀ n c,((t,s.heap.objs.size + 1) :: fj X.env scope.names []).lookup n = some c -> (n = t /\ c = s.heap.objs.size + 1) \/ (n ≠ t /\ (fj X.env scope.names []).lookup n = some c):=fun n c h=>by
  rw [List.lookup_cons] at h
  cases q:n == t with
  | true=>rw [q] at h;cases h;exact .inl ⟨by simpa using q,rfl⟩
  | false=>rw [q] at h;exact .inr ⟨fun e=>by rw [e] at q;simp at q,h⟩
 have sub:∀ n c,(fj X.env scope.names []).lookup n = some c -> X.env.cells.lookup n = some c:=rY fun n c h=>by simp at h
 have clt:∀ n c,(fj X.env scope.names []).lookup n = some c -> c < s.heap.objs.size:=fun n c h=>by
  obtain ⟨v,q⟩:=I.cell n c (sub n c h)
  exact q.lt
 have has:∀ x,(x,NameKind.free) ∈ scope.names -> ∃ c,(fj X.env scope.names []).lookup x = some c:=fun x hx=>
  rX (.inl ⟨hx,I.ok.has x (ck.free _ hx rfl)⟩)
 refine ⟨⟨I.ok.mod,ck.kind,I.ok.glob,I.ok.blt,Nat.le_refl _,fun x y c h1 h2=>?inj,fun x hx=>?has,fun x c hx hl=>?cab,I.ok.hd,I.ok.frames,.inl rfl,fun b hb=>?exf,I.bs,?bsz,fun b o e hb=>?noex,fun b hb=>?exfs,I.stack,I.stkFree⟩,
  rfl,I.bare,Un.kept hk,⟨_,hn,fun i x v h1 h2 h3=>?loc⟩,fun x c h=>?cell,I.hok.fresh (Nat.le_refl _),fun x c h=>?freeC,fun p hp=>?pin,I.hok.kept hk,?len⟩
 case inj=>
  rcases look x c h1 with ⟨e1,e2⟩ | ⟨e1,e2⟩ <;> rcases look y c h2 with ⟨e3,e4⟩ | ⟨e3,e4⟩
  ·rw [e1,e3]
  ·have z:c < s.heap.objs.size:=clt y c e4
   rw [e2] at z
   exact absurd z (Nat.not_lt.mpr (Nat.le_succ _))
  ·have z:c < s.heap.objs.size:=clt x c e2
   rw [e4] at z
   exact absurd z (Nat.not_lt.mpr (Nat.le_succ _))
  ·exact I.ok.inj x y c (sub x c e2) (sub y c e4)
 case freeC=>
  rcases look x c h with ⟨e1,e2⟩ | ⟨e1,e2⟩
  ·rw [e2];exact I.hok.fresh (Nat.le_succ _)
  ·exact I.freeC x c (sub x c e2)
 case has=>
  have hb:(x,NameKind.free) ∈ scope.names \/ (x,NameKind.cell) ∈ scope.names:=by
   rcases hx with hx | hx
   ·exact kn (.inl rfl) hx
   ·exact kn (.inr rfl) hx
  by_cases e:x = t
  ·exact ⟨s.heap.objs.size + 1,by subst e;show List.lookup x ((x,_) :: _) = _;rw [List.lookup_cons,beq_self_eq_true]⟩
  ·rcases hb with hb | hb
   ·obtain ⟨c,hc⟩:=has x hb
    refine ⟨c,?_⟩
    show List.lookup x ((t,_) :: _) = _
    rw [List.lookup_cons,show (x == t) = false by simpa using e]
    exact hc
   ·exact absurd (ck.cell1 _ hb rfl) e
 case cab=>
  have e:x = t:=by
   have hx':(x == t) = true:=hx
   simpa using hx'
  rcases look x c hl with ⟨_,e2⟩ | ⟨e1,_⟩
  ·rw [e2];exact Nat.le_succ _
  ·exact absurd e e1
 case exf=>
  obtain ⟨f0,f1,f2,f3,f4,f5⟩:=hf b hb
  refine ⟨Nat.ne_of_lt (hfo b hb),fun x c e=>?_⟩
  rcases look x c e with ⟨_,e2⟩ | ⟨_,e2⟩
  ·intro z
   have w:=hfo b hb
   rw [<- z,e2] at w
   exact absurd w (Nat.not_lt.mpr (Nat.le_succ _))
  ·exact f4 x c (sub x c e2)
 case bsz=>exact Nat.le_trans I.ok.bsz I.sz
 case noex=>
  obtain ⟨f0,f1,f2,f3,f4,f5⟩:=hf b hb
  rcases f3 with f3 | f3
  ·exact I.ok.noex b o e f3
  ·exact absurd (Nat.lt_of_lt_of_le (Heap.lt_size e) (Nat.le_trans I.ok.bsz f3)) (Nat.lt_irrefl _)
 case exfs=>
  obtain ⟨f0,f1,f2,f3,f4,f5⟩:=hf b hb
  intro z
  rcases List.mem_cons.mp (I.stkSub b z) with e | e
  ·exact f1 e
  ·exact f2 e
 case loc=>
  have hl:N.length = js.length:=ck.len.symm
  have hi:i < js.length:=by
   have:=(List.getElem?_eq_some_iff.mp h1).1
   have e:(cxD t X N scope ⟨(t,s.heap.objs.size + 1) :: fj X.env scope.names [],s.heap.objs.size,s,H,fp,pins⟩).N = N:=rfl
   rw [e] at this
   lia
  have hN:N[i]? = some x:=h1
  have hj:js[i]? = some js[i]:=List.getElem?_eq_getElem hi
  unfold inn at h2
  rw [List.getElem?_map,hj] at h2
  cases q:js[i] with
  | none=>rw [q] at h2;cases h2
  | some j=>
   rw [q] at h2 hj
   have h2':(σ[j]?).join = some v:=Option.some.inj h2
   have hσ:σ[j]? = some (some v):=by
    cases e:σ[j]? with
    | none=>rw [e] at h2';cases h2'
    | some o=>rw [e] at h2';exact congrArg some h2'
   have hm:(x,some j) ∈ N.zip js:=by
    refine List.mem_of_getElem? (i:=i) ?_
    rw [List.getElem?_zip_eq_some]
    exact ⟨hN,hj⟩
   have hc:=List.all_eq_true.mp ck.ix _ hm
   simp only [Bool.and_eq_true,decide_eq_true_eq] at hc
   obtain ⟨c1,c2⟩:=hc
   have hfr:(x,NameKind.free) ∈ scope.names:=PySem.mem_of_lookup c2
   have hvis:X.env.scope.names.lookup x = some .cell \/ X.env.scope.names.lookup x = some .free:=ck.free _ hfr rfl
   obtain ⟨m0,hn0,hl0⟩:=I.loc
   obtain ⟨u,r,l⟩:=hl0 j x v c1 hσ (hvis.elim (fun z=>.inr (.inl z)) fun z=>.inr (.inr z))
   refine ⟨u,r,.inr ⟨?_,?_⟩⟩
   ·exact mX c2
   ·rcases l with ⟨k1,_⟩ | ⟨_,c,k1,k2⟩
    ·have k1':X.env.scope.names.lookup x = some .local:=k1
     rcases hvis with z | z
     ·rw [z] at k1';cases k1'
     ·rw [z] at k1';cases k1'
    ·obtain ⟨c',hc'⟩:=has x hfr
     have e:=sub x c' hc'
     rw [k1] at e
     cases e
     obtain ⟨oc,ho,hd⟩:=k2
     refine ⟨c,?_,oc,hk _ _ ho,hd⟩
     have ne:x ≠ t:=fun e=>by rw [e,ck.tl] at c2;cases c2
     show List.lookup x ((t,_) :: _) = _
     rw [List.lookup_cons,show (x == t) = false by simpa using ne]
     exact hc'
 case cell=>
  rcases look x c h with ⟨e1,e2⟩ | ⟨e1,e2⟩
  ·exact ⟨none,_,by rw [e2];exact hcell,rfl⟩
  ·obtain ⟨v,oc,ho,hd⟩:=I.cell x c (sub x c e2)
   exact ⟨v,oc,hk _ _ ho,hd⟩
 case pin=>
  have hp':p ∈ X.pn ++ pins:=by simpa [cxD,cxC] using hp
  obtain ⟨p1,p2,p3,p4,p5⟩:=I.pin p hp'
  refine ⟨hk _ _ p1,p2,Nat.ne_of_lt (Heap.lt_size p1),fun z=>?_,p5⟩
  rcases List.mem_cons.mp (I.stkSub _ z) with e | e
  ·exact p3 e
  ·exact p4 e
 case len=>
  show (inn js σ).length = N.length
  unfold inn
  rw [List.length_map]
  exact ck.len
variable {tg iter elt:Expr} {ifs:List Expr} {pos:Pos} {wi:TI} {g:TG} {tt:TIf} {te:TE}
theorem zI  {E:Value -> Shared -> Prop} {R:Result -> Shared -> Prop} {it:Addr} {fp:List Addr}    {W:Nat -> Nat -> Hp -> Prop} {n:Nat}
  (hc:X.calm = true) (T:Turn X.prog X.w X.K tg J fp it tn) (hz:∀ b ∈ fp,∀ H',H' b = none -> mf (cxD t X N scope z) [] H' b)
  (hg:PG (cxD t X N scope z) tg g) (hs:qG js g) (ht:PIf (cxD t X N scope z) ifs tt) (he:PE (cxD t X N scope z) elt te)
  (turn:∀ i m H,W i m H -> (J.stop i H /\ ∀ s',Inv (cxD t X N scope z) [] (inn js σ) H s' -> R (.ok .next) s') \/ (J.go i H /\ ∀ x H',J.yld i H x H' -> g x (inn js σ) H' fun σ2 H2=>tt σ2 H2 fun b H3=>
   if b = true then te σ2 H3 fun y H4=>∃ ys,H4 D = some (.lst ys) /\ ys.length < sizeLine /\ ∃ m',m' < m /\ W (i + 1) m' (upd H4 D (.lst (ys ++ [y]))) else ∃ m',m' < m /\ W (i + 1) m' H3))
   {H1:Hp} (I1:Inv (cxD t X N scope z) [] (inn js σ) H1 s1) (t1:tn 0 s1.heap) (f1:∀ b ∈ fp,H1 b = none) (w1:W 0 n H1) :
  codeAny (model X.prog X.w) X.A (.compLoop (.ListComp elt [⟨tg,iter,ifs,0⟩] scope pos) 0 (.ref it) (.ref D) (compEnvC scope z.cl z.C X.env)) R s1:=by
 refine codeAny_loop (c:=.compLoop (.ListComp elt [⟨tg,iter,ifs,0⟩] scope pos) 0 (.ref it) (.ref D) (compEnvC scope z.cl z.C X.env)) rfl
  (fun k s'=>∃ i H',Inv (cxD t X N scope z) [] (inn js σ) H' s' /\ tn i s'.heap /\ (∀ b ∈ fp,H' b = none) /\ W i k H') ?_ n ⟨0,H1,I1,t1,f1,w1⟩
 rintro k s2 ⟨i,H2,I2,t2,f2,w2⟩
 show wpAny (model X.prog X.w) X.A ((compTurn (.ListComp elt [⟨tg,iter,ifs,0⟩] scope pos) 0 (.ref it) (.ref D) (compEnvC scope z.cl z.C X.env)).onRaise fun x=>do noteFrame x (compEnvC scope z.cl z.C X.env);theTreesLotGoes x) _ _ s2
 refine wpAny_noted ?_
 rw [compTurn_list]
 refine wpAny_bind (wpAny_standAt ?_)
 rcases turn i k H2 w2 with ⟨stop,fin⟩ | ⟨go,step⟩
 ·refine wpAny_bind (thn (T.done (cxD t X N scope z) rfl rfl rfl hc i [] s2 (inn js σ) H2 _ I2 (fun b hb=>hz b hb H2 (f2 b hb)) t2 stop) fun r s3 h3=>?_)
  obtain ⟨rfl,I3⟩:=h3
  exact wpAny_pure (fin s3 I3)
 ·refine wpAny_bind (thn (T.item (cxD t X N scope z) rfl rfl rfl hc i [] s2 (inn js σ) H2 _ I2 (fun b hb=>hz b hb H2 (f2 b hb)) t2 go) fun r s3 h3=>?_)
  obtain ⟨u,rfl,h3⟩:=h3
  refine wpAny_bind (thn h3 fun _ s4 h4=>?_)
  obtain ⟨x,H4,I4,r4,y4,t4,f4⟩:=h4
  have P4:=I4.pinned (fun b hb=>hz b hb H4 (f4 b hb)) (T.obj _ _ t4)
  have ff:∀ {e:Value} {s':Shared},(cxD t X N scope z).xe e s' -> False:=fun h=>h
  refine wpAny_bind (wpAny_mono (hg _ s4 (inn js σ) H4 x u _ P4 r4 (hs σ x (inn js σ) H4 _ (Lev.refl _) (step x H4 y4))) (fun _ s5 h5=>?_) fun _ _ h=>(ff h).elim)
  obtain ⟨σ5,H5,I5,lev,q5⟩:=h5
  refine wpAny_bind (wpAny_mono (ht _ s5 σ5 H5 _ I5 q5) (fun ok s6 h6=>?_) fun _ _ h=>(ff h).elim)
  obtain ⟨H6,I6,q6⟩:=h6
  have again:∀ {s7:Shared} {H7:Hp},Inv (cxD t X N scope z) ([] ++ mQ fp s4.heap) σ5 H7 s7 -> (∃ m',m' < k /\ W (i + 1) m' H7) -> ∃ m,m < k /\ ∃ i H',Inv (cxD t X N scope z) [] (inn js σ) H' s7 /\ tn i s7.heap /\ (∀ b ∈ fp,H' b = none) /\ W i m H':=fun {s7 H7} I7 h7=>by
   obtain ⟨m',hm,w7⟩:=h7
   refine ⟨m',hm,i + 1,H7,(I7.unpinned).weak lev.1 lev.2,T.keep _ _ _ t4 fun b hb o e=>(I7.pin (b,o) (List.mem_append_right _ (List.mem_append_right _ (eF hb e)))).1,fun b hb=>?_,w7⟩
   obtain ⟨o,e,d⟩:=T.obj _ _ t4 b hb
   exact (I7.pin (b,o) (List.mem_append_right _ (List.mem_append_right _ (eF hb e)))).2.1
  cases ok with
  | false=>
   rw [if_neg (by decide)] at q6
   exact wpAny_pure ⟨rfl,again I6 q6⟩
  | true=>
   rw [if_pos rfl] at q6
   refine wpAny_bind (wpAny_bind (wpAny_mono (he _ s6 σ5 H6 _ I6 q6) (fun y s7 h7=>?_) fun _ _ h=>(ff h).elim))
   obtain ⟨vy,H7,I7,r7,ys,hD,hl,q7⟩:=h7
   refine wpAny_bind (wpAny_mono (pG (X:=cxD t X N scope z) _ s7 σ5 H7 (.ref D) [vy] (.ref D) [y] (fun _ H'=>∃ m',m' < k /\ W (i + 1) m' H') I7 rfl (.cons r7 .nil) ⟨D,ys,vy,rfl,rfl,hD,hl,q7⟩) (fun _ s8 h8=>?_) fun _ _ h=>(ff h).elim)
   obtain ⟨_,H8,I8,_,q8⟩:=h8
   exact wpAny_pure (wpAny_pure ⟨rfl,again I8 q8⟩)
theorem xO   {RR:Value -> Addr -> Result -> Shared -> Prop} {Q:VK}   (ck:CmpOkC XN sc scope N js t) (hXN:X.N = XN) (hsc:X.env.scope = sc) (hc:X.calm = true)
  (hg:∀ z,PG (cxD t X N scope z) tg g) (hs:qG js g) (ht:∀ z,PIf (cxD t X N scope z) ifs tt) (he:∀ z,PE (cxD t X N scope z) elt te)
  (h2:PIE X pins σ tg (fun J H1=>∀ D,H1 D = none -> ∃ W:Nat -> Nat -> Hp -> Prop,(∃ m,W 0 m (upd H1 D (.lst []))) /\ ∀ i m H,W i m H ->
   (J.stop i H /\ Q (.ref D) H) \/ (J.go i H /\ ∀ x H',J.yld i H x H' -> g x (inn js σ) H' fun σ2 H2=>tt σ2 H2 fun b H3=>
    if b = true then te σ2 H3 fun y H4=>∃ ys,H4 D = some (.lst ys) /\ ys.length < sizeLine /\ ∃ m',m' < m /\ W (i + 1) m' (upd H4 D (.lst (ys ++ [y]))) else ∃ m',m' < m /\ W (i + 1) m' H3)) itv s2)
  (hRR:∀ D C s' H' m o,Inv X (pins ++ [(C,o)]) σ H' s' -> s'.heap.Ns C m -> (X.s₀.heap.objs.size <= C /\ C ≠ X.env.locals /\ (∀ x c,X.env.cells.lookup x = some c -> c ≠ C) /\ ∀ p ∈ X.pn ++ pins,p.1 ≠ C) -> H' C = none -> Q (.ref D) H' -> RR (.ref D) C (.ok .next) s') :
  wpAny (model X.prog X.w) X.A (newList []) (fun acc s₃=>wpAny (model X.prog X.w) X.A (newFunctionEnv scope X.env.globals (fj X.env scope.names []) [] X.env.qual none .none (some X.env)) (fun cenv s₄=>
   codeAny (model X.prog X.w) X.A (.compStart (.ListComp elt [⟨tg,iter,ifs,0⟩] scope pos) 0 itv acc { cenv with scope:=relabel scope X.env }) (RR acc cenv.locals) s₄) E s₃) E s2:=by
 obtain ⟨it,fp,tn,J,H2,rfl,I2,T,t2,f2,q2⟩:=h2
 have fo:∀ b ∈ fp,b < s2.heap.objs.size:=fun b hb=>by
  obtain ⟨o,e,_⟩:=T.obj _ _ t2 b hb
  exact Heap.lt_size e
 have hD:H2 s2.heap.objs.size = none:=I2.fresh
 obtain ⟨W,⟨n,w0⟩,turn⟩:=q2 _ hD
 refine wpAny_newObj_type (GO ck ?_)
 generalize hh1:((s2.heap.push { cls:=.type "list",data:=.seq ([]:List Value).toArray }).push { cls:=.type "dict",data:=.dict #[] }).push { cls:=.type "cell",data:=.cell none } = h1
 have I3:Inv X pins σ (upd H2 s2.heap.objs.size (.lst [])) { s2 with heap:=s2.heap.push { cls:=.type "list",data:=.seq ([]:List Value).toArray },toks:=s2.toks }:=I2.lnew (its:=[]) .nil (Nat.zero_le _)
 have f3:∀ b ∈ fp,mf X pins (upd H2 s2.heap.objs.size (.lst [])) b:=fun b hb=>by
  obtain ⟨g0,g1⟩:=f2 b hb
  exact ⟨by rw [aF (Nat.ne_of_lt (fo b hb))];exact g0,g1⟩
 have sz:(s2.heap.push { cls:=.type "list",data:=.seq ([]:List Value).toArray }).objs.size = s2.heap.objs.size + 1:=Heap.size_push _ _
 have kept:∀ b o,(s2.heap.push { cls:=.type "list",data:=.seq ([]:List Value).toArray }).get? b = some o -> h1.get? b = some o:=fun b o e=>by
  rw [<- hh1];exact Heap.get?_push_of_some _ (Heap.get?_push_of_some _ e)
 have I4:=CA (tk:=s2.toks) ck hXN hsc I3 f3 (fun b hb=>by show b < (s2.heap.push _).objs.size;rw [sz];exact Nat.lt_succ_of_lt (fo b hb)) hh1.symm
 have t4:tn 0 h1:=T.keep _ _ _ t2 fun b hb o e=>kept b o (Heap.get?_push_of_some _ e)
 have fz:∀ b ∈ fp,∀ H',H' b = none -> mf (cxD t X N scope ⟨(t,(s2.heap.push { cls:=.type "list",data:=.seq ([]:List Value).toArray }).objs.size + 1) :: fj X.env scope.names [],(s2.heap.push { cls:=.type "list",data:=.seq ([]:List Value).toArray }).objs.size,{ s2 with heap:=s2.heap.push { cls:=.type "list",data:=.seq ([]:List Value).toArray },toks:=s2.toks },upd H2 s2.heap.objs.size (.lst []),fp,pins⟩) [] H' b:=fun b hb H' hn=>by
  obtain ⟨g0,g1,g2,g3,g4,g5⟩:=f3 b hb
  refine ⟨hn,(I4.ok.exf b hb).1,I4.ok.exfs b hb,.inl hb,(I4.ok.exf b hb).2,fun p hp=>?_⟩
  exact g5 p (by simpa [cxD,cxC] using hp)
 have loop:=zI (X:=X) (t:=t) (σ:=σ) (N:=N) (scope:=scope) (js:=js) (iter:=iter) (pos:=pos) (E:=E) (R:=RR (.ref s2.heap.objs.size) (s2.heap.push { cls:=.type "list",data:=.seq ([]:List Value).toArray }).objs.size) (D:=s2.heap.objs.size) (W:=W) (n:=n)
  hc T fz (hg _) hs (ht _) (he _) (fun i m H w=>(turn i m H w).imp (fun a=>⟨a.1,fun s' Y=>?_⟩) id) I4 t4 (fun b hb=>(f3 b hb).1) w0
 ·exact codeAny_compStart_list loop (T.self _ 0 _ _ _ t4 loop)
 ·have bb:=Y.base
  have J0:Inv X pins σ H s':=I3.call' Y.os bb Y.hok Y.bare fun b hb=>by
   obtain ⟨g0,g1,g2,g3,g4,g5⟩:=f3 b hb
   exact ⟨g3,g1,g4,g5⟩
  obtain ⟨mC,nC,_⟩:=Y.loc
  obtain ⟨oC,eC,dC⟩:∃ o,s'.heap.get? (s2.heap.push { cls:=.type "list",data:=.seq ([]:List Value).toArray }).objs.size = some o /\ ∀ v,o.data ≠ .cell v:=by
   obtain ⟨o,es,ep,ho,hd,_⟩:=nC
   exact ⟨o,ho,fun v z=>by rw [hd] at z;cases z⟩
  have lC:X.s₀.heap.objs.size <= (s2.heap.push { cls:=.type "list",data:=.seq ([]:List Value).toArray }).objs.size:=I3.sz
  have cC:(s2.heap.push { cls:=.type "list",data:=.seq ([]:List Value).toArray }).objs.size ≠ X.env.locals:=Nat.ne_of_gt I3.lt
  have kC:∀ x c,X.env.cells.lookup x = some c -> c ≠ (s2.heap.push { cls:=.type "list",data:=.seq ([]:List Value).toArray }).objs.size:=fun x c e=>by
   obtain ⟨v,q⟩:=I3.cell x c e
   exact Nat.ne_of_lt q.lt
  have pC:∀ p ∈ X.pn ++ pins,p.1 ≠ (s2.heap.push { cls:=.type "list",data:=.seq ([]:List Value).toArray }).objs.size:=fun p hp=>Nat.ne_of_lt (Heap.lt_size (I3.pin p hp).1)
  have J1:Inv X (pins ++ [((s2.heap.push { cls:=.type "list",data:=.seq ([]:List Value).toArray }).objs.size,oC)]) σ H s':=J0.pins_of fun p hp=>by
   rcases List.mem_append.mp hp with hp | hp
   ·exact J0.pin p (List.mem_append_right _ hp)
   ·rw [List.mem_singleton.mp hp]
    exact ⟨eC,Y.free,cC,I3.nofs (Nat.le_refl _),dC⟩
  exact hRR _ _ s' H mC oC J1 nC ⟨lC,cC,kC,pC⟩ Y.free a.2
theorem E2  (ck:CmpOkC XN sc scope N js t) (hi:PI X tg iter wi) (hg:∀ z,PG (cxD t X N scope z) tg g) (hs:qG js g) (ht:∀ z,PIf (cxD t X N scope z) ifs tt) (he:∀ z,PE (cxD t X N scope z) elt te)
  (hXN:X.N = XN:=by rfl) (hsc:X.env.scope = sc:=by rfl) (hc:X.calm = true:=by rfl) (hf:∀ x,foldedSetIterable iter X.env x = pure x:=by intro _;rfl) :
  PE X (.ListComp elt [⟨tg,iter,ifs,0⟩] scope pos) (vR js wi g tt te):=by
 intro pins s σ H Q I h
 rw [eval_ListComp]
 have hcl:closureFor scope X.env = pure (fj X.env scope.names []):=ml fun y hy hk=>I.ok.has y.1 (by
  have:=ck.free y hy hk
  rw [<- hsc] at this
  exact this)
 refine wpAny_comprehension_free (use:=none) rfl hf hcl ck.kind ck.loc (thn (hi pins s σ H _ I h) fun v s1 h1=>thn h1 fun itv s2 h2=>?_)
 refine xO (RR:=fun acc C=>compPost (model X.prog X.w) X.A X.xe none (EP X pins σ Q) acc C) ck hXN hsc hc hg hs ht he h2 ?_
 intro D C s' H' m o J nC hC fC q
 refine ⟨m,nC,fun h' sb=>⟨.ref D,H',?_,rfl,q⟩⟩
 have J0:Inv X pins σ H' s':=J.unpinned
 exact J0.turned (t':=s'.toks) (it:=C) (fun b o hb e=>sb.extBut b o hb e) fC hC.2.1 (.inr hC.1) hC.2.2.1 hC.2.2.2
end
end L2
namespace RevT
open PySem PySem.Calls PyProof.Rows
theorem slot_next:Slot "reversed" "__next__" "reversed.__next__" := .of (owner := "reversed") (n := "__next__") (by rw [typeLookup_type,builtinLookup_eq_fast];kernel_rfl) (by decide +kernel) (by decide +kernel) (by decide +kernel) (by first | exact .inl (by decide +kernel) | exact .inr (by decide +kernel)) (by rw [isSubtype_type];kernel_rfl)
theorem sf:entryFor table "reversed.__next__" = some Builtin.«reversed.__next__»:=entryFor_of_tree (by kernel_rfl)
theorem uY (a:Value):argsOk "reversed.__next__" ⟨[a],[]⟩:=by unfold argsOk;kernel_rfl
theorem vP:Slot "reversed" "__iter__" "reversed.__iter__" := .of (owner := "reversed") (n := "__iter__") (by rw [typeLookup_type,builtinLookup_eq_fast];kernel_rfl) (by decide +kernel) (by decide +kernel) (by decide +kernel) (by first | exact .inl (by decide +kernel) | exact .inr (by decide +kernel)) (by rw [isSubtype_type];kernel_rfl)
theorem B3 (a:Value):argsOk "reversed.__iter__" ⟨[a],[]⟩:=by unfold argsOk;kernel_rfl
theorem zL:entryFor table "reversed.__iter__" = some Builtin.«dict_keyiterator.__iter__»:=entryFor_alias (id' := "dict_keyiterator.__iter__") (by kernel_rfl) (by first | rfl | decide +kernel | (unfold String.splitOn;simp +decide [String.splitOnAux])) (by decide +kernel) (by kernel_rfl)
theorem Jh:typeLookup (.type "tuple") "__reversed__" = pure none:=by rw [typeLookup_type,builtinLookup_eq_fast];kernel_rfl
theorem Bf:typeLookup (.type "tuple") "__getitem__" = pure (some (.builtin "tuple.__getitem__")):=by rw [typeLookup_type,builtinLookup_eq_fast];kernel_rfl
theorem GP:isSubtype (.type "tuple") (.type "dict") = pure false:=by rw [isSubtype_type];kernel_rfl
theorem sub_self:isSubtype (.type "reversed") (.type "reversed") = pure true:=by rw [isSubtype_type];kernel_rfl
noncomputable def tV (t:Addr) (i:Int):Obj:={ cls:=.type "reversed",data:=.fields #[.ref t,rawInt i] }
def IsRev (h:Heap) (a t:Addr) (i:Int):Prop:=∃ o,h.get? a = some o /\ o.cls = .type "reversed" /\ o.data = .fields #[.ref t,rawInt i]
section
variable {prog:Program} {w:World} {A:Around} {E:Value -> Shared -> Prop} {s:Shared}
theorem IsRev.typeIs  {i:Int} (x:IsRev s.heap a t i):s.TypeIs (.ref a) "reversed" := let ⟨o,ho,hc,_⟩:=x;⟨o,ho,hc⟩
theorem CW {it:Addr} {i:Nat}  {x:Value} {Q:Option Value -> Shared -> Prop} (hit:IsRev s.heap it t (i:Int)) (ht:IsTup s.heap t items) (hx:items[i]? = some x) (hi:(i:Int) < 2 ^ 62)
  (hQ:∀ h' tk,IsRev h' it t ((i:Int) - 1) -> Heap.SameBut it s.heap h' -> Q (some x) { s with heap:=h',toks:=tk }):wpAny (model prog w) A (pyNext (.ref it)) Q E s:=by
 obtain ⟨o,ho,hc,hd⟩:=id hit
 unfold pyNext
 refine wpAny_bind (wpAny_attempt (wpAny_callSpecial?_slot (name:=Str.ofString "__next__") hit.typeIs slot_next (wpAny_call_entry slot_next hit.typeIs sf ?_ (uY _))))
 unfold Builtin.«reversed.__next__»
 refine wpAny_bind (wpAny_of_eq (a:=(Value.ref it,[])) rfl ?_)
 try dsimp only
 refine wpAny_bind (wpAny_field ho hd (x:=.ref t) rfl ?_)
 refine wpAny_bind (wpAny_field ho hd (x:=rawInt (i:Int)) rfl ?_)
 show wpAny _ _ (if (i:Int) < 0 then _ else _) _ _ s
 rw [if_neg (by lia)]
 refine wpAny_bind (wpAny_specialOf ht.typeIs Bf ?_)
 rw [if_neg (show ¬ ((some (Value.builtin "tuple.__getitem__")).isNone = true) from Bool.false_ne_true)]
 refine wpAny_bind (wpAny_mkInt ?_)
 have p63:(2:Int) ^ 63 = 9223372036854775808:=by decide
 have p62:(2:Int) ^ 62 = 4611686018427387904:=by decide
 have hsz:=(Array.getElem?_eq_some_iff.mp hx).1
 have hix:seqIndex? (i:Int) items.size = some i:=by
  unfold seqIndex?
  simp
  lia
 refine wpAny_bind (wpAny_attempt (getItem_tuple (s:={ s with toks:=s.toks + 1 }) (j:=i) ht (by lia) (by lia) hix hx ?_))
 dsimp only
 refine wpAny_bind (wpAny_field (s:={ s with toks:=s.toks + 1 }) ho hd (x:=rawInt (i:Int)) rfl ?_)
 show wpAny _ _ (setField (.ref it) 1 (rawInt ((i:Int) - 1)) >>= _) _ _ _
 refine wpAny_bind (wpAny_setField (s:={ s with toks:=s.toks + 1 }) ho hd (by simp) ?_)
 refine wpAny_pure ⟨x,rfl,wpAny_pure (hQ _ _ ?_ (Heap.SameBut.update ..))⟩
 exact ⟨_,Heap.get?_update_self _ ho (Obj.isFreed_of_fields (Obj.data_mapFields hd _)),(Obj.cls_mapFields ..).trans hc,by rw [Obj.data_mapFields hd];simp⟩
theorem ES {it:Addr} {Q:Option Value -> Shared -> Prop} (hh:A.handled = none) (hit:IsRev s.heap it t (-1)) (hQ:∀ h',Heap.ExtBut it s.heap h' -> Q none { s with heap:=h' }):wpAny (model prog w) A (pyNext (.ref it)) Q E s:=by
 obtain ⟨o,ho,hc,hd⟩:=id hit
 unfold pyNext
 refine wpAny_bind (wpAny_attempt (wpAny_callSpecial?_slot (name:=Str.ofString "__next__") hit.typeIs slot_next (wpAny_call_entry slot_next hit.typeIs sf ?_ (uY _))))
 unfold Builtin.«reversed.__next__»
 refine wpAny_bind (wpAny_of_eq (a:=(Value.ref it,[])) rfl ?_)
 try dsimp only
 refine wpAny_bind (wpAny_field ho hd (x:=.ref t) rfl ?_)
 refine wpAny_bind (wpAny_field ho hd (x:=rawInt (-1)) rfl ?_)
 show wpAny _ _ (if (-1:Int) < 0 then _ else _) _ _ s
 rw [if_pos (by decide)]
 refine wpAny_bind (wpAny_rule ?_)
 refine wpAny_bind ?_
 refine wpAny_bind (wpAny_setField ho hd (by simp) ?_)
 have ho':=Heap.get?_update_self (h:=s.heap) (Obj.mapFields (·.setIfInBounds 1 (rawInt (-1)))) ho (Obj.isFreed_of_fields (Obj.data_mapFields hd _))
 have hd':=Obj.data_mapFields hd (·.setIfInBounds 1 (rawInt (-1)))
 refine wpAny_setField (s:={ s with heap:=s.heap.update it (Obj.mapFields (·.setIfInBounds 1 (rawInt (-1)))) }) ho' hd' (by simp) ?_
 first
 | show wpAny _ _ (newExc (.type "StopIteration") [] >>= _) _ _ _
 | (refine wpAny_bind ?_;show wpAny _ _ (newExc (.type "StopIteration") [] >>= _) _ _ _)
 refine wpAny_bind ?_
 simp only [newExc,newTuple]
 refine wpAny_bind (wpAny_newObj_type ?_ (by size_fits))
 refine wpAny_bind (m:=firstArgMember _ _) (wpAny_of_eq (a:=Value.none) (by first | rfl | (simp only [firstArgMember];rfl)) ?_)
 refine wpAny_newObj_type ?_ (by size_fits)
 simp only [raiseNew]
 refine wpAny_bind (wpAny_handled ?_)
 first | rw [show A.in1.handled = none from hh] | rw [hh]
 refine wpAny_bind (wpAny_pure (wpAny_throw ?_))
 refine wpAny_bind (wpAny_isInstance (T := "StopIteration") (b:=true) ⟨_,Heap.get?_push_size _ rfl,rfl⟩ isSubtype_stop ?_)
 exact wpAny_pure (hQ _ ((((Heap.SameBut.update ..).trans (Heap.SameBut.update ..)).extBut.push _).push _))
theorem vt {it:Addr} {i:Int} {Q:Value -> Shared -> Prop} (hit:IsRev s.heap it t i) (h:Q (.ref it) s):wpAny (model prog w) A (pyIter (.ref it)) Q E s:=by
 refine wpAny_pyIter_slot hit.typeIs vP (wpAny_call_entry vP hit.typeIs zL ?_ (B3 _))
 show wpAny _ _ (ret (.ref it)) _ _ s
 exact wpAny_pure ⟨_,rfl, "reversed",_,hit.typeIs,slot_next.lookup,h⟩
end
theorem Br:mroOf (.type "reversed") = pure [.type "reversed",.type "object"]:=by rw [mroOf_type];kernel_rfl
theorem ED:typeLookup (.type "reversed") "__new__" = pure (some (.builtin "reversed.__new__")):=by rw [typeLookup_type,builtinLookup_eq_fast];kernel_rfl
theorem Dh:Slot "reversed" "__init__" "object.__init__" := .of (owner := "object") (n := "__init__") (by rw [typeLookup_type,builtinLookup_eq_fast];kernel_rfl) (by decide +kernel) (by decide +kernel) (by decide +kernel) (by first | exact .inl (by decide +kernel) | exact .inr (by decide +kernel)) (by rw [isSubtype_type];kernel_rfl)
theorem zC:TypeCalled "reversed" "reversed.__new__" "object.__init__" := ⟨by decide +kernel,by decide +kernel,⟨_,_,Br⟩,madeBy_type Br ED (by decide +kernel),by decide +kernel,by rw [isSubtype_type];kernel_rfl,Dh⟩
theorem xf (a:Value):checkTypeCall "reversed" ⟨[a],[]⟩ = pure ():=by kernel_rfl
theorem yz (a:Value):checkBuiltinCall "reversed.__new__" ⟨[.type "reversed",a],[]⟩ = pure ():=by kernel_rfl
theorem Ck:entryFor table "reversed.__new__" = some Builtin.«reversed.__new__»:=entryFor_of_tree (by kernel_rfl)
theorem wH (a:Value):Builtin.SmallTypes.newClass "reversed" ⟨[.type "reversed",a],[]⟩ = pure (.type "reversed",[a]):=by
 unfold Builtin.SmallTypes.newClass
 simp only [isType,sub_self,pure_bind,Bool.not_true,Bool.false_eq_true,if_false]
theorem CP (t:Addr) (items:Array Value) (hz:(items.size:Int) < 2 ^ 63):Meets (Builtin.«reversed.__new__» ⟨[.type "reversed",.ref t],[]⟩) (fun _ R s=>IsTup s.heap t items /\ R (.ok (.ret (.ref s.heap.objs.size))) { s with heap:=s.heap.push (tV t ((items.size:Int) - 1)),toks:=s.toks + 1 + 1 }):=
 .of_wp fun prog w A R s h=>by
  obtain ⟨ht,h⟩:=h
  unfold Builtin.«reversed.__new__»
  refine wpAny_bind (wpAny_of_eq (wH _) ?_)
  try dsimp only
  refine wpAny_bind (wpAny_of_eq (a:=()) (by first | rfl | kernel_rfl) ?_)
  refine wpAny_bind (wpAny_of_eq (a:=()) (by first | rfl | kernel_rfl) ?_)
  try dsimp only
  refine wpAny_bind (wpAny_specialOf ht.typeIs Jh ?_)
  try dsimp only
  refine wpAny_bind (wpAny_bind (wpAny_isInstance (T := "tuple") (b:=false) ht.typeIs GP ?_))
  rw [if_neg Bool.false_ne_true]
  refine wpAny_bind (wpAny_specialOf ht.typeIs Bf ?_)
  refine (show wpAny _ _ (pure true) _ _ _ from wpAny_pure ?_)
  show wpAny _ _ (if (!true) = true then _ else _) _ _ _
  rw [if_neg (by decide)]
  refine wpAny_bind (len_tuple ht hz ?_)
  show wpAny _ _ (Builtin.SmallTypes.newRecord (.type "reversed") [.ref t,rawInt ((items.size:Int) - 1)] >>= _) _ _ _
  refine wpAny_bind (wpAny_newObj_type (data:=.fields #[.ref t,rawInt ((items.size:Int) - 1)]) ?_ (by size_fits))
  exact wpAny_pure ⟨_,rfl,h⟩
theorem DW {prog:Program}    {s:Shared}   {Q:Value -> Shared -> Prop} (ht:IsTup s.heap t items) (hz:(items.size:Int) < 2 ^ 63)
  (h:Q (.ref s.heap.objs.size) { s with heap:=s.heap.push (tV t ((items.size:Int) - 1)),toks:=s.toks + 1 + 1 }):wpAny (model prog w) A (call (.type "reversed") [.ref t]) Q E s:=
 callType_new zC (by decide) (xf _) (yz _) (fun obj=>F.args_object_init_2 obj _) Ck (CP t items hz) ⟨ht,⟨_,Heap.get?_push_size _ rfl,rfl⟩,h⟩
end RevT
namespace L2
open PySem PySem.Spec PyProof.Rows
noncomputable def Itv (K:W.Frag) (a:Addr) (xs:List V):It:=
 ⟨fun i H=>SqT K H a xs /\ ∃ x,xs.reverse[i]? = some x,fun i H x H'=>H' = H /\ xs.reverse[i]? = some x,fun i H=>SqT K H a xs /\ xs.length = i⟩
noncomputable def KY (K:W.Frag) (ta:TA):TI:=fun σ H R=>ta σ H fun vs H1=>∃ a xs,vs = [.ref a] /\ SqT K H1 a xs /\ R (Itv K a xs) H1
section
variable {X:Cx} {tg:Expr}
theorem FZ {P:Program} {w:World} {K:W.Frag} (a it:Addr) (xs:List V):Turn P w K tg (Itv K a xs) [it] it (fun i h=>RevT.IsRev h it a ((xs.length:Int) - 1 - (i:Nat))) where
 mem:=by simp
 obj:=fun i h st b hb=>by
  rw [List.mem_singleton.mp hb]
  obtain ⟨o,e,c,d⟩:=st
  exact ⟨o,e,fun v z=>by rw [d] at z;cases z⟩
 keep:=fun i h h' st k=>by
  obtain ⟨o,e,r⟩:=st
  exact ⟨o,k it (by simp) _ e,r⟩
 item:=by
  intro X hP hw hK hc i pins s σ H E I hf st hg
  subst hP hw hK
  obtain ⟨hq,x,hx⟩:=hg
  obtain ⟨its,rv,p,hz⟩:=I.tuple hq
  have hi:i < xs.length:=by have:=(List.getElem?_eq_some_iff.mp hx).1;simpa using this
  have hx':xs[xs.length - 1 - i]? = some x:=by rw [List.getElem?_reverse hi] at hx;exact hx
  obtain ⟨u,hu,ru⟩:=rv.get hx'
  obtain ⟨f0,f1,f2,f3,f4,f5⟩:=hf it (by simp)
  have e:(xs.length:Int) - 1 - (i:Nat) = ((xs.length - 1 - i:Nat):Int):=by lia
  have hn:(sizeLine:Nat) < 2 ^ 60:=by rw [sizeLine_eq];decide
  have p62:(2:Int) ^ 62 = 4611686018427387904:=by decide
  rw [e] at st
  refine RevT.CW st p (x:=u) (by simpa using hu) (by lia) fun h' tk st' sb=>?_
  have I1:Inv X pins σ H { s with heap:=h',toks:=tk }:=I.turned (fun b o hb e=>(sb.2 b hb).trans e) f0 f1 f3 f4 f5
  have st2:RevT.IsRev h' it a ((xs.length:Int) - 1 - ((i + 1:Nat):Int)):=by
   have e2:(xs.length:Int) - 1 - ((i + 1:Nat):Int) = ((xs.length - 1 - i:Nat):Int) - 1:=by lia
   rw [e2];exact st'
  obtain ⟨o,e,c,d⟩:=id st'
  exact ⟨u,rfl,Be (s:={ s with heap:=h',toks:=tk }) e c d (by decide) ⟨x,H,I1,ru,⟨rfl,hx⟩,st2,fun b hb=>(hf b hb).1⟩⟩
 done:=by
  intro X hP hw hK hc i pins s σ H E I hf st hg
  subst hP hw hK
  obtain ⟨hq,hx⟩:=hg
  obtain ⟨f0,f1,f2,f3,f4,f5⟩:=hf it (by simp)
  have e:(xs.length:Int) - 1 - (i:Nat) = -1:=by lia
  rw [e] at st
  exact RevT.ES (I.ok.hd hc) st fun h' eb=>⟨rfl,I.turned (t':=s.toks) (fun b o hb e=>eb b o hb e) f0 f1 f3 f4 f5⟩
 self:=fun _ _ _ _ _ st h=>RevT.vt st h
theorem Jz {a:Expr} {ta:TA} {p pos:Pos} (hg:Gl X "reversed") (hm:X.mg "reversed" = none) (ha:PA X [a] ta) (hs:starEach [a] X.env = [(false,eval a X.env)]:=by rfl):PI X tg (.Call (.Name "reversed" p) [a] [] pos) (KY X.K ta):=by
 intro pins s σ H R I h
 refine Call_ (pq I hg hm xJ (PyProof.Rows.callWith_type1 (thn (ha pos pins s σ H _ I h) fun us s1 h1=>?_) hs rfl))
 obtain ⟨vs,H1,I1,r1,t,xs,rfl,hq,q⟩:=h1
 obtain ⟨u,rfl,rx⟩:=F2 r1
 cases rx
 obtain ⟨its,rv,p,hz⟩:=I1.tuple hq
 have hlen:=rv.length
 have hn:=mG
 refine RevT.DW p (by simp only [List.size_toArray] <;> lia) ?_
 have I2:Inv X pins σ H1 { s1 with heap:=s1.heap.push (RevT.tV t ((its.toArray.size:Int) - 1)),toks:=s1.toks + 1 + 1 }:=I1.kept fun b o e=>Heap.get?_push_of_some _ e
 have st:RevT.IsRev (s1.heap.push (RevT.tV t ((its.toArray.size:Int) - 1))) s1.heap.objs.size t ((xs.length:Int) - 1 - ((0:Nat):Int)):=by
  refine ⟨_,Heap.get?_push_size _ rfl,rfl,?_⟩
  have e:(xs.length:Int) - 1 - ((0:Nat):Int) = (its.toArray.size:Int) - 1:=by simp [hlen]
  rw [e];rfl
 refine RevT.vt (s:={ s1 with heap:=s1.heap.push (RevT.tV t ((its.toArray.size:Int) - 1)),toks:=s1.toks + 1 + 1 }) st ?_
 refine ⟨s1.heap.objs.size,[s1.heap.objs.size],_,_,H1,rfl,I2,FZ t _ xs,st,fun b hb=>?_,q⟩
 rw [List.mem_singleton.mp hb]
 exact I1.fpOk (Nat.le_refl _) I1.fresh
end
end L2
namespace M
open PySem L2
section
variable {K:W.Frag} {S S' H H':Hp}
noncomputable def LA:List D -> Option (List D)
 | [.tup l]=>some l.reverse | _=>none
@[simp] noncomputable def vY (a:XA):XA:=fun ρ=>(a ρ).bind LA
theorem KZ   (h:SAP K t a):SI K (KY K t) (vY a):=fun ρ σ S H R l r x k=>by
 unfold vY at x
 cases q:a ρ with
 | none=>rw [q] at x;cases x
 | some ds=>
  rw [q] at x
  dsimp only [Option.bind] at x
  unfold LA at x
  split at x
  ·rename_i l'
   cases x
   refine h ρ σ S H _ _ r q fun vs S1 H1 z1 d1=>?_
   cases d1 with
   | cons a1 d1=>
    cases d1
    rcases a1 with a1 | ⟨l2,_,_,e,_⟩
    ·obtain ⟨p,xs,rfl,h1,h2⟩:=gF a1
     refine ⟨p,xs,rfl,aJ z1.sub h1,k _ S1 H1 z1 fun S' H' s1 s2=>⟨fun i d hd=>?_,aJ (s1.trans s2) h1,by rw [List.length_reverse];exact h2.length.symm⟩⟩
     have hi:i < l'.length:=by have:=(List.getElem?_eq_some_iff.mp hd).1;simpa using this
     rw [List.getElem?_reverse hi] at hd
     obtain ⟨y,e1,e2⟩:=h2.get hd
     have hl:=h2.length
     have e3:xs.reverse[i]? = some y:=by rw [List.getElem?_reverse (by lia)];rw [<- e1];congr 2;lia
     refine ⟨⟨aJ (s1.trans s2) h1,y,e3⟩,fun x H'' hy=>⟨hy.1,?_⟩⟩
     have:=hy.2
     rw [e3] at this
     cases this
     exact e2.mono s1
    ·cases e
  ·cases x
end
end M
namespace L2
open PySem
structure IsC (K:W.Frag) (C:Addr):Prop where
 cl:Cls K C
 ha:W.findIn K (.ref C) "__class__" = some (some (.builtin "object.__class__"))
 hn:W.specialIn K (.builtin "object.__class__") "__get__" = some (some (.builtin "getset_descriptor.__get__"))
 htk:W.takesIn K (.builtin "object.__class__") = some true
 hm:W.mroIn K C (.type "object") = some true
def xm (K:W.Frag) (ans:List (Str × Bool)) (T:Addr):Prop:=∀ N b,ans.lookup N = some b -> ∀ C,W.nsIn K mainGlobals N = some (some (.ref C)) -> IsC K C /\ W.kitOne K (.ref C) (.ref T) = some b
noncomputable def HU (K:W.Frag) (ans:List (Str × Bool)) (T:Addr):List V -> Hp -> VK -> Prop:=fun xs H Q=>∃ a C dx fs N b,xs = [.ref a,.ref T] /\ W.nsIn K mainGlobals N = some (some (.ref C)) /\ H a = some (.ins C dx fs) /\ ans.lookup N = some b /\ Q (.bl b) H
noncomputable def BG (K:W.Frag) (ans:List (Str × Bool)) (N:Str) (ta:TE):TE:=fun σ H Q=>∀ T,W.nsIn K mainGlobals N = some (some (.ref T)) -> tCB (HU K ans T) (fh ta (fh (tC (.ref T)) oM)) σ H Q
section
variable {X:Cx} {e:Expr} {pos p p':Pos} {ta:TE} {T:Addr} {N:Str} {ans:List (Str × Bool)}
theorem B9 (hc:xm X.K ans T):CallR X (.builtin "isinstance") (HU X.K ans T):=by
 intro pins s σ H xs us Q I r h
 obtain ⟨a,C,dx,fs,M,b,rfl,hC,ea,hb,q⟩:=h
 obtain ⟨u,v,rfl,r1,r2⟩:=Vals.two r
 obtain ⟨c,e⟩:=hc M b hb C hC
 have ev:v = Value.ref T:=r2
 subst ev
 exact i6 I r1 (.ins ea c.cl c.ha c.hn c.htk c.hm) e fun tk=>⟨.bl b,H,I.tok _,rfl,q⟩
theorem G2 (hN:W.nsIn X.K mainGlobals N = some (some (.ref T))) (hc:xm X.K ans T) (hg:Gl X "isinstance") (hm:X.mg "isinstance" = none) (gT:Gl X N) (mT:X.mg N = some (.ref T)) (he:PE X e ta) (hdb:(N == ("__debug__" : Str)) = false:=by decide)
  (h1:starEach [e,.Name N p'] X.env = (false,eval e X.env) :: starEach [.Name N p'] X.env:=by rfl) (h2:starEach [.Name N p'] X.env = (false,eval (.Name N p') X.env) :: starEach [] X.env:=by rfl) (hpl:(backTo pos (starEach [.Name N p'] X.env)).any (·.1) = false:=by rfl) :
  PE X (.Call (.Name "isinstance" p) [e,.Name N p'] [] pos) (BG X.K ans N ta):=fun a b c d q I h=>
 cz (B9 hc) hg hm lL (ap he (ap (BA (v:=.ref T) gT mT rfl hdb) aM h2) h1) (by decide) (by decide) h1 hpl a b c d q I (h T hN)
theorem GZ (h:∃ T:Addr,W.nsIn X.K mainGlobals N = some (some (.ref T)) /\ X.mg N = some (.ref T) /\ xm X.K ans T) (hg:Gl X "isinstance") (hm:X.mg "isinstance" = none) (gT:Gl X N) (he:PE X e ta) (hdb:(N == ("__debug__" : Str)) = false:=by decide)
  (h1:starEach [e,.Name N p'] X.env = (false,eval e X.env) :: starEach [.Name N p'] X.env:=by rfl) (h2:starEach [.Name N p'] X.env = (false,eval (.Name N p') X.env) :: starEach [] X.env:=by rfl) (hpl:(backTo pos (starEach [.Name N p'] X.env)).any (·.1) = false:=by rfl) :
  PE X (.Call (.Name "isinstance" p) [e,.Name N p'] [] pos) (BG X.K ans N ta):=by
 obtain ⟨T,k1,k2,k3⟩:=h
 exact G2 k1 k3 hg hm gT k2 he hdb h1 h2 hpl
theorem Ge:xm K [] T:=fun N b h=>by cases h
theorem nH  {b0:Bool} (h0:∀ C,W.nsIn K mainGlobals N = some (some (.ref C)) -> IsC K C /\ W.kitOne K (.ref C) (.ref T) = some b0) (h:xm K ans T):xm K ((N,b0) :: ans) T:=fun M b hl C hC=>by
 rw [List.lookup] at hl
 split at hl
 ·rename_i hb
  have e:M = N:=by simpa using hb
  subst e
  cases hl
  exact h0 C hC
 ·exact h M b hl C hC
end
end L2
namespace M
open PySem L2
section
variable {K:W.Frag} {S S' H H':Hp}
@[simp] noncomputable def BP (ans:List (Str × Bool)) (e:XE):XE:=fun ρ=>(e ρ).bind fun d=>match d with | .ins N _ _=>(ans.lookup N).map .bl | _=>none
theorem JU {ans:List (Str × Bool)}  {ta:TE}  (h:SE K ta e):SE K (BG K ans N ta) (BP ans e):=fun ρ σ S H Q d r x k=>by
 unfold BP at x
 intro T hT
 cases q:e ρ with
 | none=>rw [q] at x;cases x
 | some d0=>
  rw [q] at x
  dsimp only [Option.bind] at x
  cases d0 <;> try (cases x;done)
  rename_i M ns l
  dsimp only at x
  cases ql:ans.lookup M with
  | none=>rw [ql] at x;cases x
  | some b=>
   rw [ql] at x
   cases x
   refine h ρ σ S H _ _ r q fun v S1 H1 z1 d1=>?_
   obtain ⟨p,C,dx,fs,rfl,hC,h1,h2,h3⟩:=den_ins.mp d1
   exact ⟨p,C,dx,fs,M,b,rfl,hC,z1.sub _ _ h1,ql,k _ S1 H1 z1 (den_bl.mpr rfl)⟩
end
end M
namespace L2
open PySem PySem.Spec PyProof.Rows Builtin Builtin.ObjectAttr Builtin.Getset_descriptor
section
variable {prog:Program} {w:World} {A:Around} {E:Value -> Shared -> Prop} {s:Shared} {K:W.Frag} {C a:Addr}
end
end L2
namespace L2
open PySem PySem.Spec PyProof.Rows
section
variable {H H':Hp} {B h0 h h':Heap} {fs:List Addr}
end
section
variable {X:Cx} {pins:List (Addr × Obj)} {σ:St} {H:Hp} {s:Shared} {E:XK} {B:Heap} {e:Addr} {cls a0:Value}
end
section
variable {P:Program} {w:World} {K:W.Frag} {mg:Str -> Option Value} {base:Heap} {N:List Str} {qual:Str} {scope:Scope} {f:Addr} {cdv:Value} {A:Around} {outer:List Env} {s:Shared} {H:Hp} {E:XK}
end
section
variable {X:Cx} {E:XK} {x:Str} {e:Expr} {te:TE} {np cpos pos:Pos}
end
section
variable {X:Cx} {pins:List (Addr × Obj)} {σ:St} {H H':Hp} {s s':Shared} {e:Addr}
end
section
variable {X:Cx} {body suite:List Stmt} {b0:Stmt} {x n:Str} {i:Nat} {L:List Str} {tb:XK -> TS} {ts:TS} {np hp pos:Pos}
end
section
variable {X:Cx} {e:Expr} {pos p p':Pos} {i:Nat} {N:Str} {ans:List (Str × Bool)} {vv:V} {u:Value}
end
end L2
namespace M
open PySem L2
section
variable {K:W.Frag} {S S' H H':Hp}
inductive RO where
 | rz (N:Str) | nx (ρ:Env)
noncomputable abbrev XR:=Env -> Option RO
variable {E:XK}
@[simp] noncomputable def NC:XR:=fun ρ=>some (.nx ρ)
@[simp] noncomputable def Ms (N:Str):XR:=fun _=>some (.rz N)
@[simp] noncomputable def Pf (c:XT) (m n:XR):XR:=fun ρ=>(c ρ).bind fun b=>if b = true then m ρ else n ρ
@[simp] noncomputable def OD (m n:XR):XR:=fun ρ=>(m ρ).bind fun o=>match o with | .nx ρ'=>n ρ' | .rz N=>some (.rz N)
@[simp] noncomputable def ND (m:XR):XR:=fun ρ=>(m ρ).bind fun o=>match o with | .nx _=>none | .rz N=>some (.rz N)
@[simp] noncomputable def xrE (m:Env -> Option Str):XR:=fun ρ=>(m ρ).map .rz
@[simp] noncomputable def NA (m:List D -> Option Str) (a:XA):Env -> Option Str:=fun ρ=>(a ρ).bind m
noncomputable def HN (N:Str):List (List (Str × Bool)) -> Option (List Bool)
 | []=>some []
 | a :: l=>(a.lookup N).bind fun b=>(HN N l).map fun bs=>b :: bs
noncomputable def Ek (i:Nat) (N:Str):List (Nat × List (List (Str × Bool))) -> Env -> Option Env
 | [],ρ=>some ρ
 | p :: l,ρ=>if p.1 = i then none else (HN N p.2).bind fun bs=>if bs.length <= 1000 then Ek i N l (ρ.set p.1 (.sh (.lst (bs.map .bl)))) else none
@[simp] noncomputable def Pc (L:List Str) (i:Nat) (m:XR) (l:List (Nat × List (List (Str × Bool)))):XS:=fun ρ=>if i < ρ.length then (m ρ).bind fun o=>match o with
 | .rz N=>if L.contains N then (Ek i N l (ρ.map fun _=>.un)).map fun ρ'=>.nx (ρ'.set i .un) else none
 | .nx ρ'=>some (.nx ρ') else none
end
end M
namespace L2
open PySem PySem.Spec PyProof.Rows
section
variable {X:Cx} {tg:Expr}
end
end L2
namespace M
open PySem L2
section
variable {K:W.Frag} {S S' H H':Hp}
noncomputable def MN:List D -> Option (List D)
 | [.int i,.int j]=>some (dQ i (j - i).toNat)
 | _=>none
@[simp] noncomputable def Ox (a:XA):XA:=fun ρ=>(a ρ).bind MN
end
end M
namespace L2
open PySem PySem.Spec PyProof.Rows
section
variable {X:Cx} {tg:Expr}
end
end L2
namespace M
open PySem L2
section
variable {K:W.Frag} {S S' H H':Hp}
noncomputable def Kb (x:Str):List D:=x.cps.toList.map fun c=>D.str ⟨#[c]⟩
noncomputable def sgD:D -> Option (List D)
 | .str x=>some (Kb x)
 | _=>none
@[simp] noncomputable def O7 (e:XE):XA:=fun ρ=>(e ρ).bind sgD
noncomputable def MB (d:D) (lo hi:Option Int):Option D:=match d with
 | .str x=>if x.length <= LIM then some (.str (Txt.slice x lo hi)) else none
 | _=>none
@[simp] noncomputable def Pb (a:XE) (lo hi:XO):XE:=fun ρ=>(a ρ).bind fun d=>(lo ρ).bind fun l=>(hi ρ).bind fun h=>MB d l h
end
end M
namespace L2
open PySem
end L2
namespace L2
open PySem PySem.Spec PyProof.Rows
section
variable {X:Cx}
inductive PJ (X:Cx):List Expr -> List TE -> Prop
 | nil:PJ X [] []
 | cons {e:Expr} {t:TE} {es:List Expr} {ts:List TE}:PE X e t -> PJ X es ts -> PJ X (e :: es) (t :: ts)
end
end L2
namespace M
open PySem L2
section
variable {K:W.Frag} {S S' H H':Hp}
noncomputable def fvD:D -> Option D
 | .int i=>if i.natAbs.log2 < 1920 then some (.str (toString i)) else none
 | .str y=>if y.length <= LIM then some (.str y) else none
 | _=>none
@[simp] noncomputable def xFv (e:XE):XE:=fun ρ=>(e ρ).bind fvD
inductive SJ (K:W.Frag):List TE -> List XE -> Prop
 | nil:SJ K [] []
 | cons {t:TE} {a:XE} {ts:List TE} {as:List XE}:SPk K t a -> SJ K ts as -> SJ K (t :: ts) (a :: as)
end
end M
namespace L2
open PySem PySem.Spec PyProof.Rows
section
variable {M:Model} {A:Around} {Ex:Value -> Shared -> Prop} {s:Shared}
end
section
variable {P:Program} {w:World} {K:W.Frag} {mg:Str -> Option Value} {base:Heap} {N:List Str} {qual:Str} {scope:Scope} {f:Addr} {cdv:Value} {A:Around} {outer:List Env} {s:Shared} {H:Hp} {E:XK}
end
section
variable {X:Cx} {pins:List (Addr × Obj)} {σ:St} {H:Hp} {s:Shared} {XN N:List Str} {sc scope:Scope} {js:List (Option Nat)}
variable {tg iter elt:Expr} {ifs:List Expr} {pos:Pos} {wi:TI} {g:TG} {tt:TIf} {te:TE} {E:XK}
end
section
variable {X:Cx}
end
end L2
namespace M
open PySem L2
section
variable {K:W.Frag} {S S' H H':Hp} {E:XK}
@[simp] noncomputable def Pg (m:XS):XR:=fun ρ=>match m ρ with | some (.nx ρ')=>some (.nx ρ') | _=>none
@[simp] noncomputable def Ph (n:Env -> Option Str) (m:XS):XR:=fun ρ=>match n ρ with | some N=>some (.rz N) | none=>(match m ρ with | some (.nx ρ')=>some (.nx ρ') | _=>none)
@[simp] noncomputable def Ny (m:Env -> Option Str):Env -> Option Str:=m
@[simp] noncomputable def Nz (e:XE) (m:Env -> Option Str):Env -> Option Str:=fun ρ=>(e ρ).bind fun _=>m ρ
@[simp] noncomputable def Pe (n:Env -> Option Str) (e:XE) (m:Env -> Option Str):Env -> Option Str:=fun ρ=>match n ρ with | some N=>some N | none=>(e ρ).bind fun _=>m ρ
@[simp] noncomputable def OB (i:Nat) (m:Env -> Option Str):Env -> Option Str:=fun ρ=>match ρ[i]? with | some (.ow (.lst _))=>m ρ | _=>none
noncomputable def D1 (g:XG) (c:XT) (e:XE) (n:Env -> Option Str) (ρ0:Env):List D -> Option Str
 | []=>none
 | d :: l=>(g d ρ0).bind fun ρ1=>(c ρ1).bind fun b=>if b = true then (match n ρ1 with | some N=>some N | none=>(e ρ1).bind fun _=>D1 g c e n ρ0 l) else D1 g c e n ρ0 l
@[simp] noncomputable def NB (js:List (Option Nat)) (w:XA) (g:XG) (c:XT) (e:XE) (n:Env -> Option Str):Env -> Option Str:=fun ρ=>(w ρ).bind fun l=>if l.length <= LIM then D1 g c e n (wA js ρ) l else none
noncomputable def HP (g:XG) (m:XR):List D -> Env -> Option RO
 | [],ρ=>some (.nx ρ)
 | d :: l,ρ=>(g d ρ).bind fun ρ1=>(m ρ1).bind fun o=>match o with | .nx ρ2=>HP g m l ρ2 | .rz N=>some (.rz N)
@[simp] noncomputable def OC (e:XA) (g:XG) (m:XR):XR:=fun ρ=>(e ρ).bind fun l=>HP g m l ρ
end
end M
namespace L2
open PySem
theorem usS {us:List Value} {n:Nat} (h:us.length = n + 1):∃ a v,us = a :: v /\ v.length = n:=by
 cases us with
 | nil=>cases h
 | cons a v=>exact ⟨a,v,rfl,Nat.succ.inj h⟩
theorem us1 {us:List Value} (h:us.length = 1):∃ a0,us = [a0]:=by
 obtain ⟨a0,v0,rfl,h0⟩:=usS h
 cases v0 with
 | nil=>exact ⟨a0,rfl⟩
 | cons a v=>cases h0
theorem us2 {us:List Value} (h:us.length = 2):∃ a0 a1,us = [a0,a1]:=by
 obtain ⟨a0,v0,rfl,h0⟩:=usS h
 obtain ⟨a1,v1,rfl,h1⟩:=usS h0
 cases v1 with
 | nil=>exact ⟨a0,a1,rfl⟩
 | cons a v=>cases h1
theorem us3 {us:List Value} (h:us.length = 3):∃ a0 a1 a2,us = [a0,a1,a2]:=by
 obtain ⟨a0,v0,rfl,h0⟩:=usS h
 obtain ⟨a1,v1,rfl,h1⟩:=usS h0
 obtain ⟨a2,v2,rfl,h2⟩:=usS h1
 cases v2 with
 | nil=>exact ⟨a0,a1,a2,rfl⟩
 | cons a v=>cases h2
theorem us5 {us:List Value} (h:us.length = 5):∃ a0 a1 a2 a3 a4,us = [a0,a1,a2,a3,a4]:=by
 obtain ⟨a0,v0,rfl,h0⟩:=usS h
 obtain ⟨a1,v1,rfl,h1⟩:=usS h0
 obtain ⟨a2,v2,rfl,h2⟩:=usS h1
 obtain ⟨a3,v3,rfl,h3⟩:=usS h2
 obtain ⟨a4,v4,rfl,h4⟩:=usS h3
 cases v4 with
 | nil=>exact ⟨a0,a1,a2,a3,a4,rfl⟩
 | cons a v=>cases h4
theorem jW:qE K [] P:=fun _ h=>by cases h
theorem aP  {P:Addr -> Prop}  {Ns:List Str} {c:Addr} (h:W.nsIn K mainGlobals N = some (some (.ref c))) (p:P c) (r:qE K Ns P):qE K (N :: Ns) P:=fun M hM C hC=>by
 rcases List.mem_cons.mp hM with rfl | hM
 ·rw [h] at hC
  cases hC
  exact p
 ·exact r M hM C hC
end L2
namespace L2
open PySem PySem.Spec PyProof.Rows
section
variable {κ:Type} [DecidableEq κ]
noncomputable def nc (kvs:List (κ × V)) (k:κ):Option V:=(kvs.find? fun kv=>decide (kv.1 = k)).map (·.2)
noncomputable def pM (kvs:List (κ × V)) (k:κ) (v:V):List (κ × V):=
 if (kvs.any fun kv=>decide (kv.1 = k)) = true then kvs.map (fun kv=>if kv.1 = k then (kv.1,v) else kv) else kvs ++ [(k,v)]
theorem oP {p:κ × V} {r:List (κ × V)} {k:κ} (e:p.1 = k):nc (p :: r) k = some p.2:=by simp [nc,List.find?_cons,e]
theorem kE {p:κ × V} {r:List (κ × V)} {k:κ} (e:¬ p.1 = k):nc (p :: r) k = nc r k:=by simp [nc,List.find?_cons,e]
theorem zg (k:κ):∀ kvs:List (κ × V),(kvs.any fun kv=>decide (kv.1 = k)) = (nc kvs k).isSome
 | []=>rfl
 | p :: r=>by
  rw [List.any_cons]
  by_cases e:p.1 = k
  ·simp only [oP e,decide_eq_true e,Bool.true_or,Option.isSome_some]
  ·rw [kE e,decide_eq_false e,Bool.false_or];exact zg k r
theorem qu (kvs:List (κ × V)) (k:κ) (v:V):(pM kvs k v).length <= kvs.length + 1:=by
 unfold pM
 split
 ·rw [List.length_map];lia
 ·rw [List.length_append,List.length_cons,List.length_nil];lia
theorem Fj {kvs:List (κ × V)}  (v:V) (h:nc kvs k = none):pM kvs k v = kvs ++ [(k,v)]:=by
 unfold pM
 rw [zg,h]
 exact if_neg (by decide)
theorem RelO.getD     (r:RelO o u) (rd:RelV d d'):RelV (o.getD d) (u.getD d'):=by
 cases o with
 | none=>cases u with
  | none=>exact rd
  | some _=>exact (show False from r).elim
 | some _=>cases u with
  | none=>exact (show False from r).elim
  | some _=>exact r
theorem KV.val {kvs:List (κ × V)}  (r:KV kvs vs) (k:κ):RelO (nc kvs k) (valueAt vs k):=by
 unfold KV at r
 induction r with
 | nil=>exact True.intro
 | @cons p q ps qs h t ih=>
  obtain ⟨h1,h2⟩:=h
  by_cases e:p.1 = k
  ·have e':q.1 = k:=h1.symm.trans e
   have b:valueAt (q :: qs) k = some q.2:=by simp [valueAt,List.find?_cons,e']
   rw [oP e,b];exact h2
  ·have e':¬ q.1 = k:=fun z=>e (h1.trans z)
   have b:valueAt (q :: qs) k = valueAt qs k:=by simp [valueAt,List.find?_cons,e']
   rw [kE e,b];exact ih
theorem KV.any {kvs:List (κ × V)}  (r:KV kvs vs) (k:κ):(kvs.any fun kv=>decide (kv.1 = k)) = vs.any fun kv=>decide (kv.1 = k):=by
 unfold KV at r
 induction r with
 | nil=>rfl
 | cons h t ih=>rw [List.any_cons,List.any_cons,ih,h.1]
theorem KV.repl {kvs:List (κ × V)}  (r:KV kvs vs) (k:κ)   (ry:RelV y u) :
  KV (kvs.map fun kv=>if kv.1 = k then (kv.1,y) else kv) (vs.map fun kv=>if kv.1 = k then (kv.1,u) else kv):=by
 unfold KV at r ⊢
 induction r with
 | nil=>exact .nil
 | @cons p q ps qs h t ih=>
  rw [List.map_cons,List.map_cons]
  refine .cons ?_ ih
  obtain ⟨h1,h2⟩:=h
  by_cases e:p.1 = k
  ·rw [if_pos e,if_pos (h1.symm.trans e)];exact ⟨h1,ry⟩
  ·rw [if_neg e,if_neg (fun z=>e (h1.trans z))];exact ⟨h1,h2⟩
theorem KV.put {kvs:List (κ × V)}  (r:KV kvs vs) (k:κ)   (ry:RelV y u):KV (pM kvs k y) (stored vs k u):=by
 unfold pM stored
 rw [r.any k]
 by_cases e:(vs.any fun kv=>decide (kv.1 = k)) = true
 ·rw [if_pos e,if_pos e];exact r.repl k ry
 ·rw [if_neg e,if_neg e];exact Paired.snoc r ⟨rfl,ry⟩
theorem KV.length {kvs:List (κ × V)}  (r:KV kvs vs):kvs.length = vs.length:=Paired.length r
end
theorem Ev     (r:RelV (kV k) u):(cF P w).is k u = true:=by
 cases k with
 | inl i=>obtain ⟨t,e⟩:=(show ∃ t,u = Value.int i t from r);subst e;exact yu P w i t
 | inr x=>obtain ⟨t,e⟩:=(show ∃ t,u = Value.str x t from r);subst e;exact yv P w x t
theorem vq:∀ {ks:List Key} {us:List Value},Vals (ks.map kV) us -> ItemsAre (cF P w) ks us
 | [],_,r=>by rw [List.map_nil] at r;cases r;exact .nil
 | k :: ks,_,r=>by
  rw [List.map_cons] at r
  cases r with
  | cons h t=>exact .cons (Ev h) (vq t)
noncomputable abbrev KT (H:Hp):List (List Key × V) -> List (List Key × Addr × Value) -> Prop:=Paired fun p q=>p.1 = q.1 /\ H q.2.1 = some (.tup (p.1.map kV)) /\ RelV p.2 q.2.2
theorem KT.val  {kvs:List (List Key × V)} {xs:List (List Key × Addr × Value)} (r:KT H kvs xs) (k:List Key):RelO (nc kvs k) ((atKey xs k).map (·.2)):=by
 induction r with
 | nil=>exact True.intro
 | @cons p q ps qs h t ih=>
  obtain ⟨h1,_,h2⟩:=h
  by_cases e:p.1 = k
  ·have e':q.1 = k:=h1.symm.trans e
   have b:atKey (q :: qs) k = some q.2:=by simp [atKey,List.find?_cons,e']
   rw [oP e,b];exact h2
  ·have e':¬ q.1 = k:=fun z=>e (h1.trans z)
   have b:atKey (q :: qs) k = atKey qs k:=by simp [atKey,List.find?_cons,e']
   rw [kE e,b];exact ih
section
variable {P:Program} {w:World} {H:Hp} {h:Heap} {a:Addr}
theorem yS  (ok:HOk P w H h) (e:Rd H a u):ObjOk P w H h a u:=e.ok ok
theorem D6 {kvs:List (Key × V)} (ok:HOk P w H h) (e:Rd H a (.dK kvs)):kvs.length <= sizeLine /\ (a == sysModules) = false /\ ∃ vs,KV kvs vs /\ h.DictOf (cF P w) a vs:=
 show ObjOk P w H h a (.dK kvs) from yS ok e
theorem KM {kvs:List (Key × V)} (ok:HOk P w H h) (e:H a = some (.dK kvs)):kvs.length <= sizeLine /\ (a == sysModules) = false /\ ∃ vs,KV kvs vs /\ h.DictOf (cF P w) a vs:=D6 ok (.inl e)
theorem Ew {ks:List Key} (ok:HOk P w H h) (e:H a = some (.tup (ks.map kV))):(tupleKind (cF P w)).is h ks a:=by
 obtain ⟨_,its,r,o,h1,h2,n,h3,_⟩:=(show ObjOk P w H h a (.tup (ks.map kV)) from ok a _ e)
 exact ⟨o,its.toArray,n,h1,h2,h3,by simpa using vq r⟩
theorem HH {kvs:List (List Key × V)} (ok:HOk P w H h) (e:Rd H a (.dT kvs)):kvs.length <= sizeLine /\ (a == sysModules) = false /\
  ∃ xs,KT H kvs xs /\ h.DictOfH (tupleKind (cF P w)) a xs:=by
 obtain ⟨z,y,xs,r,o,es,ep,h1,h2,h3,h4,h5⟩:=(show ObjOk P w H h a (.dT kvs) from yS ok e)
 refine ⟨z,y,xs,r,o,es,ep,h1,h2,h3,h4,fun x hx=>?_,h5⟩
 have all:∀ {l:List (List Key × V)} {m:List (List Key × Addr × Value)},KT H l m -> ∀ x ∈ m,(tupleKind (cF P w)).is h x.1 x.2.1:=by
  intro l m q
  induction q with
  | nil=>intro x hx;exact nomatch hx
  | @cons p q ps qs hq t ih=>
   intro x hx
   rcases List.mem_cons.mp hx with e | hx
   ·subst e
    exact Ew ok (by rw [<- hq.1];exact hq.2.1)
   ·exact ih x hx
 exact all r x hx
end
def Ky (H:Hp) (a:Addr) (y:V) (r:Option V):Prop:=
 (∃ kvs k,Rd H a (.dK kvs) /\ y = kV k /\ r = nc kvs k) \/ ∃ kvs k b,Rd H a (.dT kvs) /\ y = .ref b /\ H b = some (.tup (k.map kV)) /\ r = nc kvs k
section
variable {X:Cx} {pins:List (Addr × Obj)} {σ:St} {H:Hp} {s:Shared} {a:Addr} {y v:V} {u r:Value} {o:Option V} {A:Around} {E:Value -> Shared -> Prop}
theorem Inv.big (I:Inv X pins σ H s):sysModules < s.heap.objs.size:=by
 have h:mainGlobals < s.heap.objs.size:=(I.mod.glob.keeps I.bk).lt
 exact Nat.lt_trans (by decide) h
theorem Gp {h':Heap} {t':Nat}  (I:Inv X pins σ H s) (mu:Mut (H a)) (hs:Heap.SameBut a s.heap h') (he:∃ q,h'.get? a = some q) (new:ObjOk X.prog X.w (upd H a ob) h' a ob) :
  Inv X pins σ (upd H a ob) { s with heap:=h',toks:=t' }:=
 I.write (x:=a) (e:=a) mu (.inl rfl) (fun b q hb z=>(hs.2 b hb).trans z) he new
theorem IJ   {H':Hp} {h':Heap} {kvs:List (Key × V)}  (z:kvs.length <= sizeLine) (hd:(a == sysModules) = false) (rel:KV kvs vs) (dd:h'.DictOf (cF P w) a vs) :
  ObjOk P w H' h' a (.dK kvs):=⟨z,hd,vs,rel,dd⟩
end
section
variable {X:Cx} {pins:List (Addr × Obj)} {σ:St} {H:Hp} {s:Shared} {a:Addr} {kvs:List (Key × V)} {k:Key} {u:Value} {A:Around} {E:Value -> Shared -> Prop}
end
section
variable {X:Cx} {o i e value:Expr} {pos pos' tpos:Pos} {td ty tv:TE}
end
theorem D5    (h:Heap) (hb:sysModules < h.objs.size):ObjOk P w H (h.push { cls:=.type "dict",data:=.dict #[] }) h.objs.size (.dK []):=
 ⟨Nat.zero_le _,beq_eq_false_iff_ne.mpr (Ne.symm (Nat.ne_of_lt hb)),[],.nil,Heap.DictOf.new h⟩
section
variable {X:Cx} {pos:Pos}
end
structure M2 (X:Cx) (o:Expr) (m:Str) (apos:Pos) (e f:Expr) (cpos:Pos):Prop where
 base:attributeBase o m X.env (eval o X.env) = eval o X.env
 few:((backTo cpos (starEach [e,f] X.env)).all (fun x=>!x.1) && (backToKw cpos (keywordEach [] X.env)).all (fun x=>x.1.isSome)
  && decide (([e,f]:List Expr).length + ([]:List Keyword).length + (if ([]:List Keyword).isEmpty then 0 else 1) < 30)) = true
 line:(apos.endLine == cpos.line) = true
 trees:backTo cpos (starEach [e,f] X.env) = [(false,eval e X.env),(false,eval f X.env)]
def IsD (H:Hp) (a:Addr):Prop:=(∃ kvs,Rd H a (.dK kvs)) \/ ∃ kvs,Rd H a (.dT kvs)
theorem IZ  {pins:List (Addr × Obj)}     (I:Inv X pins σ H s) (d:IsD H a) :
  s.TypeIs (.ref a) "dict" /\ (∀ b,Value.ref a = .ref b -> ∃ ob,s.heap.get? b = some ob /\ ob.dict = none) /\ (a == sysModules) = false:=by
 rcases d with ⟨kvs,e⟩ | ⟨kvs,e⟩
 ·obtain ⟨_,hd,vs,_,dd⟩:=D6 I.hok e
  refine ⟨dd.typeIs,fun b q=>?_,hd⟩
  cases q
  obtain ⟨ob,_,_,h1,h2,_⟩:=dd
  exact ⟨ob,h1,h2.2.1⟩
 ·obtain ⟨_,hd,xs,_,dd⟩:=HH I.hok e
  refine ⟨dd.typeIs,fun b q=>?_,hd⟩
  cases q
  obtain ⟨ob,_,_,h1,h2,_⟩:=dd
  exact ⟨ob,h1,h2.2.1⟩
section
variable {X:Cx} {pins:List (Addr × Obj)} {σ:St} {H:Hp} {s:Shared} {a:Addr} {y d:V} {u r:Value} {o:Option V} {A:Around} {E:Value -> Shared -> Prop}
theorem II {Q:Value -> Shared -> Prop} (hu:A.units + 1 < cLine) (I:Inv X pins σ H s) (g:Ky H a y o) (ry:RelV y u) (rd:RelV d r) (h:∀ w' s',Inv X pins σ H s' -> RelV (o.getD d) w' -> Q w' s') :
  wpAny (model X.prog X.w) A (call (.builtin "dict.get") [.ref a,u,r]) Q E s:=by
 rcases g with ⟨kvs,k,e,ey,l⟩ | ⟨kvs,k,b,e,ey,eb,l⟩
 ·subst ey
  obtain ⟨z,hd,vs,rel,dd⟩:=D6 I.hok e
  refine call_meetsIn PySem.F.slot_dict_get dd.typeIs PySem.F.entry_dict_get (PySem.F.args_dict_get_3 _ _ _) (meets_dict_get_default (cF X.prog X.w) a (Ev ry) hd r) ⟨_,dd.mapOf,h _ _ (I.tok _) ?_⟩
  rw [l]
  exact (rel.val k).getD rd
 ·subst ey
  cases (show u = Value.ref b from ry)
  obtain ⟨z,hd,xs,rel,dd⟩:=HH I.hok e
  refine call_meetsIn PySem.F.slot_dict_get dd.typeIs PySem.F.entry_dict_get (PySem.F.args_dict_get_3 _ _ _) (meetsH_dict_get_default (tupleKind (cF X.prog X.w)) a b hd r) ⟨tupleKind_room_in1 hu,k,xs,Ew I.hok eb,dd,h _ _ (I.tok _) ?_⟩
  rw [l]
  exact (rel.val k).getD rd
end
noncomputable def FS (td ty tx:TE):TE:=fun σ H Q=>td σ H fun x H1=>∃ a,x = .ref a /\ IsD H1 a /\ ty σ H1 fun y H2=>tx σ H2 fun z H3=>∃ o,Ky H3 a y o /\ Q (o.getD z) H3
section
variable {X:Cx} {o e f:Expr} {apos cpos:Pos} {td ty tx:TE}
theorem E3 (hu:X.A.units + 1 < cLine) (ho:PE X o td) (he:PE X e ty) (hf:PE X f tx) (m:M2 X o "get" apos e f cpos):PE X (.Call (.Attribute o "get" apos) [e,f] [] cpos) (FS td ty tx):=by
 intro pins s σ H Q I h
 refine wpAny_Call_method m.base m.few m.line PySem.F.plainAttrs_dict PySem.F.slot_dict_get PySem.F.type_dict_get (thn (ho pins s σ H _ I h) fun u s1 hpt9=>?_)
 obtain ⟨x,H1,I1,rx,a,ex,d,q1⟩:=hpt9
 subst ex
 obtain rfl:u = Value.ref a:=rx
 obtain ⟨t1,t2,_⟩:=IZ I1 d
 refine ⟨t1,t2,?_⟩
 rw [m.trees]
 refine Calls.callWith_builtin rfl (Calls.evalArgs_plain (Calls.spliced_cons (thn (he pins s1 σ H1 _ I1 q1) fun iv s2 ⟨y,H2,I2,ry,q2⟩=>
  Calls.spliced_cons (thn (hf pins s2 σ H2 _ I2 q2) fun fv s3 ⟨z,H3,I3,rz,ov,g,q3⟩=>Calls.spliced_nil ?_))))
 exact II hu I3 g ry rz fun w' s4 I4 rw'=>⟨_,H3,I4,rw',q3⟩
end
end L2
namespace PySem
namespace DX
theorem ma:isSubtype (.type "AttributeError") (.type "AttributeError") = pure true:=by rw [isSubtype_type];kernel_rfl
theorem zS:((Manifest.find? "AttributeError").elim false fun t=>t.mro.contains "StopIteration" || t.mro.contains "SystemExit") = false:=by first | rfl | kernel_rfl | decide +kernel
section
variable {prog:Program} {w:World} {A:Around} {E:Value -> Shared -> Prop} {s:Shared} {a:Addr} {its:Array Value} {n:Nat} {α:Type}
theorem Dc {msg nm:Str}  (hh:A.handled = none) (hm:msg.length <= sizeLine) (hq:∀ h' tk' e oe,(∀ b o,s.heap.get? b = some o -> h'.get? b = some o) -> h'.get? e = some oe -> oe.cls = .type "AttributeError" -> E (.ref e) { s with heap:=h',toks:=tk' }) :
  wpAny (model prog w) A (raiseAttrError (.ref a) nm msg:Sem α) Q E s:=by
 unfold raiseAttrError
 refine wpAny_bind (wpAny_mkStr (wpAny_bind ?_) hm)
 unfold newExc newTuple
 refine wpAny_bind (wpAny_newObj_type ?_ (by size_fits))
 refine wpAny_bind (m:=firstArgMember _ _) (wpAny_of_eq (a:=Value.none) (by simp only [firstArgMember,zS];rfl) ?_)
 refine wpAny_newObj_type ?_ (by size_fits)
 refine wpAny_bind (wpAny_mkText ?_)
 refine wpAny_bind ?_
 have f1:=ma
 unfold noteAttr lacksNameAndObj
 have ho:=Heap.get?_push_size (s.heap.push { cls:=.type "tuple",data:=.seq [Value.str msg s.toks].toArray }) (o:={ cls:=.type "AttributeError",data:=.fields (#[.ref s.heap.objs.size,.none,.none,.none,.bool false,.none] ++ ownMembersOf (.type "AttributeError") [Value.str msg s.toks]) }) rfl
 have hT:({ s with heap:=(s.heap.push { cls:=.type "tuple",data:=.seq [Value.str msg s.toks].toArray }).push { cls:=.type "AttributeError",data:=.fields (#[.ref s.heap.objs.size,.none,.none,.none,.bool false,.none] ++ ownMembersOf (.type "AttributeError") [Value.str msg s.toks]) } }:Shared).TypeIs (.ref (s.heap.push { cls:=.type "tuple",data:=.seq [Value.str msg s.toks].toArray }).objs.size) "AttributeError" := ⟨_,ho,rfl⟩
 repeat (any_goals (first | assumption | wp_step))
 unfold raiseNew
 refine wpAny_bind (wpAny_handled ?_)
 rw [hh]
 first
  | refine wpAny_throw ?_
  | refine wpAny_bind (wpAny_pure (wpAny_throw ?_))
 have hu:=Heap.get?_update_self (Obj.mapFields fun vs=>vs.extract 0 6 ++ #[Value.str nm s.toks,.ref a]) ho (Obj.isFreed_of_fields (Obj.data_mapFields rfl _))
 refine hq _ _ _ _ (fun b o hb=>?_) (Heap.get?_update_self _ ho (Obj.isFreed_of_fields (Obj.data_mapFields rfl _))) (Obj.cls_mapFields _ _)
 rw [Heap.get?_update_other _ _ (Nat.ne_of_gt (Nat.lt_of_lt_of_le (Heap.lt_size hb) (by simp)))]
 exact Heap.get?_push_of_some _ (Heap.get?_push_of_some _ hb)
end
theorem se:entryFor table "dict.update.loop" = some Builtin.«dict.update.loop»:=entryFor_of_tree (by kernel_rfl)
theorem jt:plainId "dict.update.loop" = true:=by decide +kernel
end DX
end PySem
namespace L2
open PySem PySem.Spec PyProof.Rows
section
variable {X:Cx} {pins:List (Addr × Obj)} {σ:St} {H:Hp} {s:Shared} {a b:Addr} {kvs:List (List Key × V)} {k:List Key} {v:V} {r:Value} {A:Around} {E:Value -> Shared -> Prop}
end
section
variable {X:Cx} {pins:List (Addr × Obj)} {σ:St} {A:Around} {a l it:Addr} {xs:List V}
end
theorem un1 {A:Around} (h:A.units + 64 < cLine):A.units + 1 < cLine:=Nat.lt_of_le_of_lt (Nat.add_le_add_left (by decide) _) h
end L2
namespace M
open PySem L2
section
variable {K:W.Frag} {S S' H H':Hp}
noncomputable def kyD:D -> Option (List Int)
 | .tup l=>bh l
 | _=>none
noncomputable def Il (ks:List (List Int)) (q:List Int):List (List Int):=if ks.contains q then ks else ks ++ [q]
@[simp] noncomputable def Oa (k:XE):Env -> Option O:=fun ρ=>(k ρ).bind fun d=>(kyD d).map fun q=>.dic [q]
@[simp] noncomputable def N9:Env -> Option O:=fun _=>some (.dic [])
noncomputable def HG (ρ:Env) (i:Nat):Option (List (List Int)):=match ρ[i]? with
 | some (.ow (.dic ks))=>some ks
 | some (.sh (.dic ks))=>some ks
 | some (.sh (.dif ks))=>some ks
 | some (.ow (.hd _ ks []))=>some ks
 | _=>none
@[simp] noncomputable def O4 (neg:Bool) (k:XE) (i:Nat):XE:=fun ρ=>(k ρ).bind fun d=>(kyD d).bind fun q=>(HG ρ i).map fun ks=>.bl (if neg then !(ks.contains q) else ks.contains q)
@[simp] noncomputable def Om (i:Nat) (k:XE):XS:=fun ρ=>match ρ[i]? with
 | some (.ow (.dic ks))=>(k ρ).bind fun d=>(kyD d).bind fun q=>if ks.length < LIM then some (.nx (ρ.set i (.ow (.dic (Il ks q))))) else none
 | _=>none
noncomputable def Ar:List D -> Option (List (List Int))
 | []=>some []
 | .tup [d,.bl true] :: l=>(kyD d).bind fun q=>(Ar l).map fun qs=>q :: qs
 | _=>none
@[simp] noncomputable def OA (i:Nat) (e:XA):XS:=fun ρ=>match ρ[i]? with
 | some (.ow (.dic ks))=>(e ρ).bind fun l=>(Ar l).bind fun qs=>if ks.length + l.length < LIM then some (.nx (ρ.set i (.ow (.dic (qs.foldl Il ks))))) else none
 | _=>none
end
end M
namespace L2
open PySem PySem.Spec PyProof.Rows M
section
variable {X:Cx}
end
end L2
namespace M
open PySem L2
section
variable {K:W.Frag}
end
end M
namespace L2
open PySem PySem.Spec PyProof.Rows
section
variable {X:Cx} {tg:Expr}
end
end L2
namespace M
open PySem L2
section
variable {K:W.Frag} {S H:Hp}
noncomputable def Kh (a c:Int) (n:Nat):List D:=(List.range n).map fun i:Nat=>D.int (a + (i:Int) * c)
noncomputable def LF:List D -> Option (List D)
 | [.int a,.int j,.int c]=>ifC (c ≠ 0 /\ (-1000000 < c /\ c < 1000000) /\ Builtin.Range.small a j c = true) (some (Kh a c (Builtin.Range.rangeSize a j c).toNat)) none
 | _=>none
@[simp] noncomputable def Oy (a:XA):XA:=fun ρ=>(a ρ).bind LF
end
end M
namespace L2
open PySem PySem.Spec PyProof.Rows
section
variable {X:Cx}
end
end L2
namespace M
open PySem L2
section
variable {K:W.Frag}
noncomputable def K4:D -> Option (List D)
 | .int j=>ifC (0 <= j /\ j < 1000000) (some ((List.range j.toNat).map fun i:Nat=>D.int (i:Int))) none
 | _=>none
@[simp] noncomputable def Nu (a:XE):XA:=fun ρ=>(a ρ).bind K4
end
end M
namespace L2
open PySem PySem.Spec PyProof.Rows
section
variable {X:Cx} {pins:List (Addr × Obj)} {σ:List (Option V)} {H H':Hp} {s:Shared} {h':Heap}
end
section
variable {X:Cx}
end
end L2
namespace M
open PySem L2
section
variable {K:W.Frag} {S S' H H':Hp}
noncomputable def enL (k:Nat):List D -> List D
 | []=>[]
 | d :: l=>.tup [.int (k:Int),d] :: enL (k + 1) l
@[simp] noncomputable def O2 (a:XE):XA:=fun ρ=>(a ρ).bind fun d=>match d with | .lst l=>some (enL 0 l) | _=>none
end
end M
namespace L2
open PySem PySem.Spec PyProof.Rows M
section
variable {X:Cx}
end
end L2
namespace M
open PySem L2
section
variable {K:W.Frag}
end
section
variable {K:W.Frag} {S S' H H':Hp}
@[simp] noncomputable def O8 (i:Nat) (p:XP):XA:=fun ρ=>match ρ[i]? with
 | some (.ow o)=>(p ρ).bind fun is=>match dE o is with | some (.lst l)=>shs l | _=>none
 | _=>none
end
end M
namespace TL
open PySem PyProof.Rows
section
variable {prog:Program} {w:World} {A:Around} {E:Value -> Shared -> Prop} {s:Shared}
end
end TL
namespace L2
open PySem PySem.Spec PyProof.Rows
section
variable {X:Cx}
end
end L2
namespace M
open PySem L2
section
variable {K:W.Frag}
end
end M
namespace L2
open PySem PySem.Spec PyProof.Rows
section
variable {X:Cx}
end
end L2
namespace M
open PySem L2
section
variable {K:W.Frag}
end
end M
namespace TL
open PySem PyProof.Rows
section
variable {prog:Program} {w:World} {A:Around} {R:Result -> Shared -> Prop} {I:Addr} {fp wr:List Addr} {n:Nat} {P:Nat -> Value -> Prop} {St:Nat -> Heap -> Prop} {h0:Heap}
end
section
variable {prog:Program} {w:World} {A:Around} {E:Value -> Shared -> Prop} {s:Shared}
end
end TL
namespace L2
open PySem PySem.Spec PyProof.Rows
section
variable {X:Cx}
end
end L2
namespace M
open PySem L2
section
variable {K:W.Frag}
end
section
variable {K:W.Frag} {S S' H H':Hp}
end
section
variable {K:W.Frag}
@[simp] noncomputable def Nq (f g:D -> D -> Option D) (a b c:XE):XE:=fun ρ=>(a ρ).bind fun x=>(b ρ).bind fun y=>(f x y).bind fun z=>match z with
 | .bl true=>(c ρ).bind fun w=>g y w
 | .bl false=>some (.bl false)
 | _=>none
end
end M
namespace L2
open PySem
section
variable {X:Cx}
end
end L2
namespace M
open PySem L2
section
variable {K:W.Frag}
end
end M
namespace DL
open PySem
section
variable {prog:Program} {w:World} {A:Around} {E:Value -> Shared -> Prop} {s:Shared}
end
end DL
namespace L2
open PySem
section
variable {X:Cx}
end
end L2
namespace M
open PySem L2
section
variable {K:W.Frag}
@[simp] noncomputable def Oh (i:Nat):XE:=fun ρ=>(HG ρ i).map fun ks=>.int (ks.length:Nat)
end
end M
namespace DY
open PySem
section
variable {prog:Program} {w:World} {K:Type} [DecidableEq K] {knd:HeapKind prog w K} {A:Around} {E:Value -> Shared -> Prop} {s:Shared}
end
end DY
namespace L2
open PySem PySem.Spec PyProof.Rows
section
variable {X:Cx} {pins:List (Addr × Obj)} {σ:St} {H:Hp} {s:Shared} {a b:Addr} {kvs:List (List Key × V)} {k:List Key} {v:V} {A:Around} {E:Value -> Shared -> Prop}
end
section
variable {X:Cx} {pins:List (Addr × Obj)} {σ:St} {H:Hp} {s:Shared} {a:Addr} {o:Obj} {kvs:List (List Key × V)}
end
end L2
namespace M
open PySem L2
section
variable {K:W.Frag} {S S' H H':Hp}
mutual
noncomputable def km:D -> Bool
 | .dic _=>false
 | .dif _=>false
 | .dkv _ _=>false
 | .lst l=>noDics l
 | .tup l=>noDics l
 | .scr l=>noDics l
 | .mtp l=>noDics l
 | .ins _ _ l=>noDics l
 | _=>true
noncomputable def noDics:List D -> Bool
 | []=>true
 | d :: l=>km d && noDics l
end
mutual
theorem Den.less {a:Addr} {o:Obj} {kvs:List (List Key × V)} (hs:∀ b,b ≠ a -> S' b = S b) (ha:S a = some (.frz o (.dT kvs))):∀ {d:D} {v:V},km d = true -> Den K S d v -> Den K S' d v
 | .dic _,_,n,_=>by unfold km at n;cases n
 | .dif _,_,n,_=>by unfold km at n;cases n
 | .dkv _ _,_,n,_=>by unfold km at n;cases n
 | .non,_,_,h=>by unfold Den at *;exact h
 | .bl _,_,_,h=>by unfold Den at *;exact h
 | .int _,_,_,h=>by unfold Den at *;exact h
 | .str _,_,_,h=>by unfold Den at *;exact h
 | .ty _,_,_,h=>by unfold Den at *;exact h
 | .lst l,_,n,h=>by
  unfold km at n
  obtain ⟨p,xs,e,h1,h2⟩:=den_lst.mp h
  refine den_lst.mpr ⟨p,xs,e,?_,Dens.less hs ha n h2⟩
  rcases h1 with h1 | ⟨q,h1⟩
  ·exact .inl (by rw [hs p fun z=>by subst z;rw [ha] at h1;cases h1];exact h1)
  ·exact .inr ⟨q,by rw [hs p fun z=>by subst z;rw [ha] at h1;cases h1];exact h1⟩
 | .tup l,_,n,h=>by
  unfold km at n
  obtain ⟨p,xs,e,h1,h2⟩:=den_tup.mp h
  exact den_tup.mpr ⟨p,xs,e,(show S' p = some (.tup xs) by rw [hs p fun z=>by subst z;rw [show S p = some (.tup xs) from h1] at ha;cases ha];exact h1),Dens.less hs ha n h2⟩
 | .scr l,_,n,h=>by
  unfold km at n
  obtain ⟨p,xs,e,h1,h2⟩:=den_scr.mp h
  refine den_scr.mpr ⟨p,xs,e,?_,Dens.less hs ha n h2⟩
  rcases h1 with (h1 | ⟨q,h1⟩) | h1
  ·exact .inl (.inl (by rw [hs p fun z=>by subst z;rw [ha] at h1;cases h1];exact h1))
  ·exact .inl (.inr ⟨q,by rw [hs p fun z=>by subst z;rw [ha] at h1;cases h1];exact h1⟩)
  ·exact .inr h1
 | .mtp l,_,n,h=>by
  unfold km at n
  obtain ⟨p,xs,e,h1,h2⟩:=den_mtp.mp h
  refine den_mtp.mpr ⟨p,xs,e,?_,Dens.less hs ha n h2⟩
  rcases h1 with (h1 | ⟨q,h1⟩) | h1
  ·exact .inl (.inl (by rw [hs p fun z=>by subst z;rw [ha] at h1;cases h1];exact h1))
  ·exact .inl (.inr ⟨q,by rw [hs p fun z=>by subst z;rw [ha] at h1;cases h1];exact h1⟩)
  ·exact .inr h1
 | .ins _ _ l,_,n,h=>by
  unfold km at n
  obtain ⟨p,C,dx,fs,e,h0,h1,h2,h3⟩:=den_ins.mp h
  exact den_ins.mpr ⟨p,C,dx,fs,e,h0,by rw [hs p fun z=>by subst z;rw [ha] at h1;cases h1];exact h1,h2,Dens.less hs ha n h3⟩
theorem Dens.less {a:Addr} {o:Obj} {kvs:List (List Key × V)} (hs:∀ b,b ≠ a -> S' b = S b) (ha:S a = some (.frz o (.dT kvs))):∀ {ds:List D} {xs:List V},noDics ds = true -> Dens K S ds xs -> Dens K S' ds xs
 | [],_,_,h=>by rw [h.nil_of];exact .nil
 | _ :: _,_,n,h=>by
  unfold noDics at n
  obtain ⟨n1,n2⟩:=Bool.and_eq_true_iff.mp n
  obtain ⟨y,ys,rfl,a,b⟩:=h.cons_of
  exact .cons (Den.less hs ha n1 a) (Dens.less hs ha n2 b)
end
noncomputable def ksO:Sl -> Option (List (List Int))
 | .ow (.dic ks)=>some ks
 | .ow (.hd _ ks [])=>some ks
 | _=>none
noncomputable def reD (ks:List (List Int)):Sl -> Sl
 | .ow (.dic _)=>.ow (.dic ks)
 | .ow (.hd p _ [])=>.ow (.hd p ks [])
 | s=>s
@[simp] theorem Mh (ks:List (List Int)):ksO (.ow (.dic ks)) = some ks:=rfl
@[simp] theorem MF (p:Addr) (ks:List (List Int)):ksO (.ow (.hd p ks [])) = some ks:=rfl
@[simp] theorem Mn (ks ks':List (List Int)):reD ks (.ow (.dic ks')) = .ow (.dic ks):=rfl
@[simp] theorem MM (p:Addr) (ks ks':List (List Int)):reD ks (.ow (.hd p ks' [])) = .ow (.hd p ks []):=rfl
section
variable {A:Hp} {Λ:Nat -> Option Addr} {Φ:Nat -> List Addr} {ρ:Env} {σ:St} {i:Nat} {s:Sl} {ks:List (List Int)}
end
@[simp] noncomputable def Oi (i:Nat) (e:XE):XE:=fun ρ=>((ρ[i]?).bind ksO).bind fun ks=>(e (ρ.set i (.sh (.dif ks)))).bind fun d=>if km d = true then some d else none
@[simp] noncomputable def Nv (i:Nat) (e:XA):XA:=fun ρ=>((ρ[i]?).bind ksO).bind fun ks=>(e (ρ.set i (.sh (.dif ks)))).bind fun l=>if noDics l = true then some l else none
noncomputable def MC (ks:List (List Int)) (q:List Int):List (List Int):=ks.filter fun k=>decide (k ≠ q)
@[simp] noncomputable def Ol (i:Nat) (k:XE):XS:=fun ρ=>(ρ[i]?).bind fun s=>(ksO s).bind fun ks=>(k ρ).bind fun d=>(kyD d).bind fun q=>if ks.contains q = true then some (.nx (ρ.set i (reD (MC ks q) s))) else none
@[simp] noncomputable def Nr (e:XA):Env -> Option O:=fun ρ=>(e ρ).bind fun l=>(Ar l).bind fun qs=>if l.length < LIM then some (.dic (qs.foldl Il [])) else none
end
section
variable {K:W.Frag} {S S' H H':Hp}
@[simp] noncomputable def Nt (i:Nat):XA:=fun ρ=>match ρ[i]? with | some (.sh (.dif ks))=>some (ks.map fun k=>.tup (k.map .int)) | _=>none
noncomputable abbrev HM:=Addr -> List (List Int) -> List D -> Option (O × List (List Int))
@[simp] noncomputable def Oo (j:Nat):XS:=fun ρ=>match ρ[j]?,(ρ[0]?:Option Sl) with
 | some (.ow o),some (.ow (.hd p ks []))=>if j = 0 then none else some (.ro (.hd p ks [o]))
 | _,_=>none
noncomputable def KW (m:HM) (ks:List (List Int)) (ds:List D):Option (O × List (List Int)):=by
 classical exact if h:∃ r,∀ p,m p ks ds = some r then some h.choose else none
@[simp] noncomputable def Oc (j i:Nat) (m:HM) (a:XA):XS:=fun ρ=>match ρ[j]? with
 | some (.ow (.lst l))=>(ρ[i]?).bind fun s=>(ksO s).bind fun ks=>(a ρ).bind fun ds=>(KW m ks ds).bind fun r=>match r with
  | (.lst l',ks')=>(shs l').bind fun ds'=>if l.length + l'.length <= LIM then some (.nx ((ρ.set i (reD ks' s)).set j (.ow (.lst (l ++ ds'.map .sh))))) else none
  | _=>none
 | _=>none
end
end M
namespace L2
open PySem
theorem Gj:bootBuiltins "dict" = some (.type "dict"):=by decide +kernel
end L2
namespace M
open PySem L2
end M
namespace L2
open PySem PySem.Spec PyProof.Rows
section
variable {X:Cx} {tg:Expr}
end
end L2
namespace M
open PySem L2
section
variable {K:W.Frag} {S S' H H':Hp}
noncomputable def LB:List D -> Option (List D)
 | [.lst l]=>some l.reverse | _=>none
@[simp] noncomputable def Ov (a:XA):XA:=fun ρ=>(a ρ).bind LB
end
end M
namespace L2
open PySem PySem.Spec PyProof.Rows
section
variable {X:Cx} {CX:CXT} {k:Nat} {f:Addr} {fd:FuncData} {ps:List Str} {sp:Sp} {E:XK} {x y:Str} {p cpos pos pos':Pos} {e:Expr} {es:List Expr} {t:TA}
end
section
variable {X:Cx} {body suite:List Stmt} {b0:Stmt} {x n:Str} {i:Nat} {L:List Str} {tx:XK -> St -> Hp -> Prop} {tu ts:TS} {np hp pos:Pos}
end
end L2
namespace M
open PySem L2
section
variable {K:W.Frag} {S S' H H':Hp}
@[simp] noncomputable def Oz (L:List Str) (i:Nat) (n:List D -> Option Str) (a:XA) (m:XS) (l:List (Nat × List (List (Str × Bool)))):XS:=fun ρ=>if i < ρ.length then (match (a ρ).bind n with
 | some N=>if L.contains N then (Ek i N l (ρ.set i .un)).map fun ρ'=>.nx (ρ'.set i .un) else none
 | none=>(match m ρ with | some (.nx ρ')=>some (.nx ρ') | _=>none)) else none
end
end M
namespace L2
open PySem PySem.Spec PyProof.Rows
end L2
namespace M
open PySem L2
section
variable {K:W.Frag} {S S' H H':Hp}
@[simp] noncomputable def Og (i:Nat) (m:XS):XS:=fun ρ=>match (ρ[i]?).bind ksO with | some ks=>m (ρ.set i (.sh (.dif ks))) | none=>m ρ
@[simp] noncomputable def Od (i:Nat) (x:XG) (m:XS):XS:=gq (Nt i) x m
end
end M
namespace L2
open PySem
section
variable {X:Cx}
end
end L2
namespace M
open PySem L2
section
variable {K:W.Frag}
end
end M
namespace DY
open PySem
section
variable {prog:Program} {w:World} {A:Around} {E:Value -> Shared -> Prop} {s:Shared} {d I:Addr} {es:Array DictEntry} {ep:Nat}
end
section
variable {prog:Program} {w:World} {A:Around} {s:Shared} {R:Result -> Shared -> Prop} {d:Addr} {es:Array DictEntry} {ep:Nat}
end
section
variable {prog:Program} {w:World} {A:Around} {E:Value -> Shared -> Prop} {s:Shared} {d:Addr} {es:Array DictEntry} {ep:Nat}
end
end DY
namespace L2
open PySem PySem.Spec PyProof.Rows
section
variable {X:Cx}
end
end L2
namespace M
open PySem L2
section
variable {K:W.Frag} {S H:Hp}
end
section
variable {K:W.Frag} {S S' H H':Hp}
end
section
variable {K:W.Frag} {S S' H H':Hp}
@[simp] noncomputable def Oq (e:XE) (j:Nat):XS:=fun ρ=>match ρ[j]? with
 | some (.ow (.lst l))=>(e ρ).bind fun d=>some (.ro (.tup [.sh d,.lst l]))
 | _=>none
@[simp] noncomputable def Mq (m:List D -> Option O) (e:D) (a:XA):Env -> Option O:=fun ρ=>(a ρ).bind fun ds=>m (ds ++ [e])
end
section
variable {K:W.Frag} {S H:Hp}
@[simp] noncomputable def O6 (i:Nat) (k:Int):XE:=fun ρ=>match ρ[i]? with
 | some (.ow (.tup os))=>match atI os k with
  | some (.sh d)=>some d
  | some (.lst l)=>(shs l).map D.lst
  | _=>none
 | _=>none
@[simp] noncomputable def O5 (i:Nat) (k:Int):XE:=fun ρ=>match ρ[i]? with
 | some (.ow (.tup os))=>match atI os k with
  | some (.sh d)=>some d
  | _=>none
 | _=>none
noncomputable def K3:List D -> Bool
 | []=>true
 | .tup l :: r=>(bh l).isSome && K3 r
 | _ :: _=>false
@[simp] noncomputable def Np (m:List D -> Option O) (a:XA):XE:=fun ρ=>((a ρ).bind m).bind fun o=>match o with
 | .lst os=>(shs os).bind fun l=>if K3 l then some (.lst l) else none
 | _=>none
end
section
variable {K:W.Frag} {S H:Hp}
@[simp] noncomputable def N7 (j i:Nat) (m:HM) (a:XA):XS:=fun ρ=>match ρ[j]? with
 | some (.ow (.lst l))=>(shs l).bind fun ls=>(ρ[i]?).bind fun s=>(ksO s).bind fun ks=>(a ρ).bind fun ds=>(KW m ks ds).bind fun r=>match r with
  | (.lst l',ks')=>(shs l').bind fun ds'=>if ls.length + ds'.length <= LIM then some (.nx ((ρ.set i (reD ks' s)).set j (.ow (.lst ((ls ++ ds').map .sh))))) else none
  | _=>none
 | _=>none
end
end M
namespace L2
open PySem
section
variable {X:Cx}
end
end L2
namespace M
open PySem L2
section
variable {K:W.Frag}
@[simp] noncomputable def Pa (a:XE) (lo hi:XO):XA:=fun ρ=>(a ρ).bind fun d=>(lo ρ).bind fun l=>(hi ρ).bind fun h=>match d with | .lst x=>some (eB x l h) | _=>none
end
end M
namespace PySem
namespace DX
theorem uC:typeLookup (.type "tuple") "keys" = pure none:=by rw [typeLookup_type,builtinLookup_eq_fast];kernel_rfl
theorem yi:typeLookup (.type "tuple") "__getattr__" = pure none:=by rw [typeLookup_type,builtinLookup_eq_fast];kernel_rfl
section
variable {prog:Program} {w:World} {A:Around} {E:Value -> Shared -> Prop} {s:Shared} {a:Addr} {its:Array Value} {n:Nat} {sl:Array (Option Value)}
theorem sL {tk:Tok} {Q:Fin -> Shared -> Prop} (hh:A.handled = none) (hx:s.heap.get? a = some { cls:=.type "tuple",dict:=none,data:=.seq its n,slots:=sl }) (hq:∀ h' tk' e oe,(∀ b o,s.heap.get? b = some o -> h'.get? b = some o) -> h'.get? e = some oe -> oe.cls = .type "AttributeError" -> E (.ref e) { s with heap:=h',toks:=tk' }) :
  wpAny (model prog w) A (Builtin.«object.__getattribute__» ⟨[.ref a,.str "keys" tk],[]⟩) Q E s:=by
 obtain ⟨h,g,d,t,os⟩:=s
 have hT:(⟨h,g,d,t,os⟩:Shared).TypeIs (.ref a) "tuple" := ⟨_,hx,rfl⟩
 have f4:=uC
 repeat (any_goals (first | assumption | wp_step))
 all_goals (try dsimp only)
 repeat (any_goals (first | assumption | wp_step))
 exact Dc hh (by rw [sizeLine_eq];decide +kernel) hq
theorem zY {Q:Option Value -> Shared -> Prop} (hh:A.handled = none) (hx:s.heap.get? a = some { cls:=.type "tuple",dict:=none,data:=.seq its n,slots:=sl }) (hq:∀ h' tk',(∀ b o,s.heap.get? b = some o -> h'.get? b = some o) -> Q none { s with heap:=h',toks:=tk' }) :
  wpAny (model prog w) A (getAttr? (.ref a) "keys") Q E s:=by
 obtain ⟨h,g,d,t,os⟩:=s
 have hT:(⟨h,g,d,t,os⟩:Shared).TypeIs (.ref a) "tuple" := ⟨_,hx,rfl⟩
 have f2:=F.slot_tuple_getattribute.lookup
 have f3:=F.slot_tuple_getattribute.bind (.ref a)
 have f5:=yi
 have f6:=ma
 unfold getAttr? getAttrBy? getAttrBy getAttrByItsOwn callGetattribute boundAndCalled
 repeat (any_goals (first | assumption | wp_step))
 refine codeAny_call_builtin F.slot_tuple_getattribute.plain F.entry_tuple_ga (F.slot_tuple_getattribute.check _ _ _ _ _ _ _ _ hT (F.args_tuple_getattribute_2 _ _) (sL (by exact hh) hx fun h' tk' e oe hk he hc=>?_))
 have hTe:(⟨h',g,d,tk',os⟩:Shared).TypeIs (.ref e) "AttributeError" := ⟨oe,he,hc⟩
 dsimp only
 unfold getattributeRaised
 refine wpAny_bind (wpAny_isInstance (T := "AttributeError") (b:=true) hTe f6 ?_)
 rw [if_pos rfl]
 refine wpAny_bind ?_
 unfold hookBehind
 rw [if_neg (by decide)]
 refine wpAny_of_eq f5 ?_
 unfold hookOrError
 dsimp only
 unfold attributeErrorLeaves
 simp only [Bool.not_false,if_true]
 first
  | refine wpAny_throw ?_
  | refine wpAny_bind (wpAny_throw ?_)
 refine wpAny_bind (wpAny_isInstance (T := "AttributeError") (b:=true) hTe f6 ?_)
 rw [if_pos rfl]
 exact wpAny_pure (hq h' tk' hk)
end
end DX
end PySem
namespace L2
open PySem PySem.Spec PyProof.Rows
section
variable {X:Cx} {pins:List (Addr × Obj)} {σ:St} {H:Hp} {s:Shared} {a b:Addr} {kvs:List (Key × V)} {k:Key} {v:V} {u r:Value} {A:Around} {E:Value -> Shared -> Prop}
theorem D4 {Q:Unit -> Shared -> Prop} (I:Inv X pins σ H s) (e:H a = some (.dK kvs)) (ry:RelV (kV k) u) (l:kvs.length < sizeLine) (rv:RelV v r)
  (h:∀ s',Inv X pins σ (upd H a (.dK (pM kvs k v))) s' -> Q () s'):wpAny (model X.prog X.w) A (dictSet a u r) Q E s:=by
 obtain ⟨z,hd,vs,rel,dd⟩:=KM I.hok e
 have hz:vs.length <= sizeLine:=by rw [<- rel.length];exact z
 have hl:(pM kvs k v).length <= sizeLine:=by have:=qu kvs k v;lia
 refine wpAny_dictSet_pairs (hsz:=hz) (Ev ry) dd fun h' dd' hs=>h _ ?_
 have he:∃ q,h'.get? a = some q:=let ⟨q,_,_,hq,_⟩:=dd';⟨q,hq⟩
 exact Gp I (by rw [e];exact True.intro) hs he (IJ hl hd (rel.put k rv) dd')
end
noncomputable def rJ (kvs es:List (Key × V)):List (Key × V):=es.foldl (fun acc kv=>pM acc kv.1 kv.2) kvs
theorem zh {k:Key}:∀ {kvs:List (Key × V)},k ∉ kvs.map (·.1) -> nc kvs k = none
 | [],_=>rfl
 | p :: kvs,h=>by
  rw [kE (fun e=>h (by rw [<- e];exact List.mem_cons_self))]
  exact zh fun z=>h (List.mem_cons_of_mem _ z)
theorem tS:∀ {es kvs:List (Key × V)},(kvs.map (·.1) ++ es.map (·.1)).Nodup -> rJ kvs es = kvs ++ es
 | [],kvs,_=>by rw [List.append_nil];rfl
 | e :: es,kvs,h=>by
  have h1:e.1 ∉ kvs.map (·.1):=fun z=>by
   have:=(List.nodup_append.mp h).2.2 e.1 z e.1 List.mem_cons_self
   exact this rfl
  show rJ (pM kvs e.1 e.2) es = _
  rw [Fj e.2 (zh h1),tS (by rw [List.map_append,List.append_assoc];exact h),List.append_assoc]
  rfl
noncomputable def Fn:List V -> Hp -> VK -> Prop:=fun vs H Q=>∃ l,∃ es:List (Addr × Key × V),vs = [.ref l] /\ H l = some (.tup (es.map fun e=>.ref e.1)) /\ (∀ e ∈ es,H e.1 = some (.tup [kV e.2.1,e.2.2])) /\ (es.map fun e=>e.2.1).Nodup /\
 es.length < sizeLine /\ ∀ p,H p = none -> Q (.ref p) (upd H p (.dK (es.map (·.2))))
section
variable {X:Cx} {pins:List (Addr × Obj)} {σ:St} {A:Around} {a l it:Addr} {xs:List V}
theorem vU {R:Result -> Shared -> Prop} (hh:A.in1.handled = none):∀ (es:List (Addr × Key × V)) (i:Nat) (kvs:List (Key × V)) (H:Hp) (s:Shared),Inv X pins σ H s -> H a = some (.dK kvs) ->
  mf X pins H it -> s.heap.IsTupleIter it l i -> H l = some (.tup xs) -> xs.drop i = es.map (fun e=>V.ref e.1) -> (∀ e ∈ es,H e.1 = some (.tup [kV e.2.1,e.2.2])) -> kvs.length + es.length < sizeLine ->
  (∀ s',Inv X pins σ (upd H a (.dK (rJ kvs (es.map (·.2))))) s' -> R (.ok (.ret .none)) s') ->
  codeAny (model X.prog X.w) A (.builtin "dict.update.loop" ⟨[.ref a,.ref it,rawInt i,.none],[]⟩) R s
 | [],i,kvs,H,s,I,ea,fo,hit,el,hd,_,_,hR=>by
  obtain ⟨its,rl,pl,_⟩:=I.tuple (.inl (.inl el))
  have hx:its.toArray[i]? = none:=by
   have h1:xs.length <= i:=by
    have:=congrArg List.length hd
    rw [List.length_drop] at this
    simpa [Nat.sub_eq_zero_iff_le] using this
   have:=rl.length
   simp
   lia
  refine codeAny_builtin DX.se ?_
  rw [Around.under_plainId DX.jt _]
  show wpAny _ A.in1 (pyNext (.ref it) >>= _) _ _ s
  refine wpAny_bind (wpAny_pyNext_tuple_end hh hit (show s.heap.IsTuple l its.toArray from pl) hx fun h' he=>?_)
  show wpAny _ A.in1 (Builtin.Dict.addKeywords a [] >>= _) _ _ _
  refine wpAny_bind (wpAny_pure (wpAny_pure (hR _ ?_)))
  have e0:upd H a (.dK (rJ kvs (([]:List (Addr × Key × V)).map (·.2)))) = H:=by
   funext c
   unfold upd
   split
   ·rename_i z;rw [z,ea];rfl
   ·rfl
  rw [e0]
  exact I.turned (t':=s.toks) (it:=it) (fun b o hb e=>he b o hb e) fo.1 fo.2.1 fo.2.2.2.1 fo.2.2.2.2.1 fo.2.2.2.2.2
 | e :: es,i,kvs,H,s,I,ea,fo,hit,el,hd,he,hl,hR=>by
  obtain ⟨its,rl,pl,_⟩:=I.tuple (.inl (.inl el))
  have e1:=he e List.mem_cons_self
  have hxi:xs[i]? = some (V.ref e.1):=by
   have:=congrArg (fun l:List V=>l[0]?) hd
   simpa [List.getElem?_drop] using this
  obtain ⟨u,hui,ru⟩:=rl.get hxi
  cases (show u = Value.ref e.1 from ru)
  refine codeAny_builtin DX.se ?_
  rw [Around.under_plainId DX.jt _]
  show wpAny _ A.in1 (pyNext (.ref it) >>= _) _ _ s
  refine wpAny_bind (wpAny_pyNext_tuple_item hit (show s.heap.IsTuple l its.toArray from pl) (x:=.ref e.1) (by simpa using hui) fun h' hit' hs=>?_)
  have I1:Inv X pins σ H { s with heap:=h' }:=I.turned (t':=s.toks) (it:=it) (fun b o hb e=>hs.extBut b o hb e) fo.1 fo.2.1 fo.2.2.2.1 fo.2.2.2.2.1 fo.2.2.2.2.2
  have P1:=I1.pinned (fp:=[it]) (fun b hb=>by rw [List.mem_singleton.mp hb];exact fo) (fun b hb=>by
   rw [List.mem_singleton.mp hb]
   obtain ⟨o,ho,_,hd⟩:=hit'
   exact ⟨o,ho,fun v z=>by rw [hd] at z;cases z⟩)
  obtain ⟨its2,rl2,pl2,_⟩:=I1.tuple (.inl (.inl e1))
  obtain ⟨u1,u2,e3,r1,r2⟩:=Vals.two rl2
  subst e3
  have body:wpAny (model X.prog X.w) A.in1 (dictSet a u1 u2) (fun _ s'=>Inv X (pins ++ mQ [it] h') σ (upd H a (.dK (pM kvs e.2.1 e.2.2))) s') (fun e s'=>R (.error e) s') { s with heap:=h' }:=
   D4 P1 ea r1 (by rw [List.length_cons] at hl;lia) r2 fun s' I'=>I'
  refine wpAny_bind (wpAny_holding (wpAny_bind ?_))
  refine wpAny_tryCatch (m:=Builtin.Dict.pairItems (.ref e.1)) ?_
  obtain ⟨ot,hot,hct,nt,hdt⟩:=pl2
  unfold Builtin.Dict.pairItems
  refine wpAny_bind (wpAny_typeOf (T := "tuple") ⟨ot,hot,hct⟩ ?_)
  rw [if_pos (by decide)]
  refine wpAny_bind (wpAny_seqItems hot hdt (wpAny_pure ?_))
  show wpAny _ A.in1 (holding [u1,u2] (dictSet a u1 u2)) _ _ _
  refine wpAny_holding (wpAny_mono body (fun _ s' I'=>?_) fun _ _ z=>z)
  have na:it ≠ a:=fun z=>by have f0:=fo.1;rw [z,ea] at f0;cases f0
  have nl:l ≠ a:=HQ el ea (fun z=>nomatch z)
  refine wpAny_pure ⟨plainId_quiet DX.jt _,?_⟩
  show codeAny (model X.prog X.w) A (.builtin "dict.update.loop" ⟨[.ref a,.ref it,rawInt ((i + 1:Nat):Int),.none],[]⟩) R s'
  have tn:∀ c ys,H c = some (.tup ys) -> upd H a (.dK (pM kvs e.2.1 e.2.2)) c = some (.tup ys):=fun c ys z=>by rw [aF (HQ z ea (fun z=>nomatch z))];exact z
  refine vU hh es (i + 1) (pM kvs e.2.1 e.2.2) _ s' I'.unpinned aB ⟨by rw [aF na];exact fo.1,fo.2⟩ ?_ (by rw [aF nl];exact el) ?_ (fun e' h'=>?_) ?_ fun s2 I2=>hR s2 ?_
  ·obtain ⟨o,ho,hc2,hd2⟩:=hit'
   exact ⟨o,(I'.pin (it,o) (List.mem_append_right _ (List.mem_append_right _ (eF (List.mem_singleton.mpr rfl) ho)))).1,hc2,hd2⟩
  ·have:=congrArg List.tail hd
   rw [List.tail_drop] at this
   exact this
  ·exact tn _ _ (he e' (List.mem_cons_of_mem _ h'))
  ·have:=qu kvs e.2.1 e.2.2
   rw [List.length_cons] at hl
   lia
  ·rw [BL] at I2
   exact I2
end
theorem zu {X:Cx} (hc:X.calm = true):CallR X (.type "dict") Fn:=by
 intro pins s σ H xs us Q I r h
 obtain ⟨l,es,rfl,el,he,nd,hl,q⟩:=h
 obtain ⟨u,rfl,ru⟩:=r.one
 cases (show u = Value.ref l from ru)
 have hn:=I.hok.fresh (Nat.le_refl s.heap.objs.size)
 have I1:=I.laid (a:=s.heap.objs.size) (o:=.dK []) (h':=s.heap.push { cls:=.type "dict",data:=.dict #[] }) (t':=s.toks) (fun _ _ q=>Heap.get?_push_of_some _ q) (Nat.le_refl _) (D5 s.heap I.big)
 have ek:∀ {b u},H b = some u -> upd H s.heap.objs.size (.dK []) b = some u:=fun {b u} z=>by rw [aF (aL z hn)];exact z
 obtain ⟨hll,its,rl,ot,hot,hct,nt,hdt,hnt⟩:=(show ObjOk X.prog X.w (upd H s.heap.objs.size (.dK [])) (s.heap.push { cls:=.type "dict",data:=.dict #[] }) l (.tup (es.map fun e=>V.ref e.1)) from I1.hok l _ (ek el))
 obtain ⟨ocls,odict,odata,oslots⟩:=ot
 simp only at hct hdt hnt
 subst hct hdt hnt
 refine callType_codes (Q₁:=fun obj s₁=>obj = .ref s.heap.objs.size /\ s₁ = { s with heap:=s.heap.push { cls:=.type "dict",data:=.dict #[] } }) F.kt_called_dict (F.kt_typeCall_dict_1 _) F.entry_dict_init (kt_code_dict_new _ ⟨rfl,rfl⟩) ?_
 rintro obj s₁ ⟨rfl,rfl⟩
 have hTa:({ s with heap:=s.heap.push { cls:=.type "dict",data:=.dict #[] } }:Shared).TypeIs (.ref s.heap.objs.size) "dict" := ⟨_,Heap.get?_push_size _ rfl,rfl⟩
 have hTl:({ s with heap:=s.heap.push { cls:=.type "dict",data:=.dict #[] } }:Shared).TypeIs (.ref l) "tuple" := ⟨_,hot,rfl⟩
 have hh:X.A.in1.handled = none:=I.ok.hd hc
 refine ⟨hTa,F.args_dict_init_2 _ _,?_⟩
 unfold Builtin.«dict.__init__»;refine wpAny_bind ?_
 unfold Builtin.Dict.selfAndRest;refine wpAny_bind (wpAny_notOrdered_dict hTa ?_)
 show wpAny _ _ (pure (s.heap.objs.size,[Value.ref l])) _ _ _;refine wpAny_pure ?_
 show wpAny _ _ (Builtin.Dict.updateFrom "dict.__init__" s.heap.objs.size (.ref l) [] .none) _ _ _
 unfold Builtin.Dict.updateFrom;refine wpAny_bind (wpAny_typeOf hTl ?_);rw [if_pos (by decide)]
 refine wpAny_bind (DX.zY hh hot fun h' tk' hk=>?_)
 rw [if_pos (show (none:Option Value).isNone = true from rfl)];refine wpAny_bind (wpAny_rule ?_)
 have I2:Inv X pins σ (upd H s.heap.objs.size (.dK [])) { s with heap:=h',toks:=tk' }:=I1.kept (t':=tk') hk
 obtain ⟨its1,rl1,pl1,_⟩:=I2.tuple (.inl (.inl (ek el)))
 refine wpAny_bind (wpAny_pyIter_tuple (show h'.IsTuple l its1.toArray from pl1) ?_)
 have I3:Inv X pins σ (upd H s.heap.objs.size (.dK [])) { s with heap:=h'.push { cls:=.type "tuple_iterator",data:=.fields #[.ref l,.int 0 0] },toks:=tk' }:=I2.kept (t':=tk') fun b o e=>Heap.get?_push_of_some _ e
 refine wpAny_pure ⟨plainId_quiet DX.jt _,?_⟩
 refine vU (A:=X.A.in1) (xs:=es.map fun e=>V.ref e.1) (pins:=pins) (σ:=σ) hh es 0 [] _ _ I3 aB (I2.fpOk (Nat.le_refl _) (I2.hok.fresh (Nat.le_refl _))) ⟨_,Heap.get?_push_size _ rfl,rfl,rfl⟩ (ek el) (by rw [List.drop_zero]) (fun e h'=>ek (he e h')) (by simpa using hl) fun s' I'=>?_
 rw [BL,tS (kvs:=[]) (by rw [List.map_nil,List.nil_append,List.map_map];exact nd),List.nil_append] at I'
 exact ⟨rfl,.ref s.heap.objs.size,_,I',rfl,q _ hn⟩
end L2
namespace M
open PySem L2
noncomputable def gk:List D -> Option (List (Int × D))
 | []=>some []
 | .tup [.int k,d] :: l=>(gk l).map fun r=>(k,d) :: r
 | _=>none
noncomputable def xD:List D -> Option D
 | [.tup l]=>(gk l).bind fun kvs=>if kvs.length <= LIM /\ (kvs.map (·.1)).Nodup then some (.dkv (kvs.map fun kv=>Sum.inl kv.1) (kvs.map (·.2))) else none
 | _=>none
noncomputable def nW:List Key -> List D -> Key -> Option D
 | k' :: ks,d :: l,k=>if k' = k then some d else nW ks l k
 | _,_,_=>none
section
variable {K:W.Frag} {S S' H H':Hp}
theorem tH:∀ {l:List D} {kvs:List (Int × D)} {xs:List V},gk l = some kvs -> Dens K S l xs -> ∃ es:List (Addr × Key × V),xs = es.map (fun e=>V.ref e.1) /\ (∀ e ∈ es,S e.1 = some (.tup [kV e.2.1,e.2.2])) /\ (es.map fun e=>e.2.1) = kvs.map (fun kv=>Sum.inl kv.1) /\ Dens K S (kvs.map (·.2)) (es.map fun e=>e.2.2)
 | [],kvs,xs,q,h=>by
  cases q
  rw [h.nil_of]
  exact ⟨[],rfl,(fun _ z=>by cases z),rfl,.nil⟩
 | d :: l,kvs,xs,q,h=>by
  obtain ⟨y,ys,rfl,h1,h2⟩:=h.cons_of
  unfold gk at q
  split at q
  ·contradiction
  ·rename_i k d' l' e
   cases e
   cases q2:gk l with
   | none=>rw [q2] at q;cases q
   | some r=>
    rw [q2] at q
    cases q
    obtain ⟨es,rfl,e2,e3,e4⟩:=tH q2 h2
    obtain ⟨p,ws,rfl,g1,g2⟩:=den_tup.mp h1
    obtain ⟨w1,wr,rfl,g3,g4⟩:=g2.cons_of
    obtain ⟨w2,wr2,rfl,g5,g6⟩:=g4.cons_of
    rw [g6.nil_of] at g1
    rw [den_int.mp g3] at g1
    refine ⟨(p,Sum.inl k,w2) :: es,rfl,fun e he=>?_,by rw [List.map_cons,e3];rfl,.cons g5 e4⟩
    rcases List.mem_cons.mp he with rfl | he
    ·exact g1
    ·exact e2 e he
  ·cases q
theorem Ir:SRB K Fn xD:=fun S H vs ds g Q s d q k=>by
 unfold xD at q
 split at q
 ·rename_i l
  obtain ⟨v,rfl,d1⟩:=cR d
  have d':Den K S (.tup l) v:=d1.elim id fun ⟨_,_,_,e,_⟩=>by cases e
  obtain ⟨p,xs,rfl,h1,h2⟩:=den_tup.mp d'
  cases q1:gk l with
  | none=>rw [q1] at q;cases q
  | some kvs=>
   rw [q1] at q
   dsimp only [Option.bind] at q
   split at q
   ·rename_i hc
    cases q
    obtain ⟨es,rfl,e2,e3,e4⟩:=tH q1 h2
    have hlen:es.length = kvs.length:=by have:=congrArg List.length e3;simpa using this
    refine ⟨p,es,rfl,s _ _ h1,fun e he=>s _ _ (e2 e he),?_,by rw [hlen];exact Nat.lt_of_le_of_lt hc.1 iE,fun q hq=>?_⟩
    ·rw [e3]
     have:=hc.2
     rw [List.nodup_iff_pairwise_ne,List.pairwise_map] at this ⊢
     exact this.imp fun h e=>h (Sum.inl.inj e)
    ·have z:=Ext.new (o:=.dK (es.map (·.2))) s hq
     refine k _ _ _ z (den_dkv.mpr ⟨q,_,rfl,.inl aB,by rw [List.map_map];exact e3,?_⟩)
     rw [List.map_map]
     exact e4.mono z.sh
   ·cases q
 ·cases q
theorem vC {k:Key}:∀ {kvs:List (Key × V)} {l:List D},Dens K S l (kvs.map (·.2)) -> (∀ d,nW (kvs.map (·.1)) l k = some d -> ∃ v,nc kvs k = some v /\ Den K S d v) /\ (nW (kvs.map (·.1)) l k = none -> nc kvs k = none)
 | [],l,h=>⟨(fun d e=>by cases l <;> cases e),fun _=>rfl⟩
 | p :: kvs,[],h=>by have:=h.nil_of;cases this
 | p :: kvs,d :: l,h=>by
  obtain ⟨y,ys,e,h1,h2⟩:=h.cons_of
  cases e
  obtain ⟨i1,i2⟩:=vC (k:=k) h2
  rw [List.map_cons]
  unfold nW
  by_cases e:p.1 = k
  ·rw [if_pos e,oP e]
   exact ⟨(fun d' z=>by cases z;exact ⟨_,rfl,h1⟩),fun z=>by cases z⟩
  ·rw [if_neg e,kE e]
   exact ⟨i1,i2⟩
@[simp] noncomputable def zj (a k x:XE):XE:=fun ρ=>(a ρ).bind fun d=>match d with
 | .dkv ks l=>(k ρ).bind fun e=>(match e with | .int i=>(x ρ).map fun f=>(nW ks l (.inl i)).getD f | _=>none)
 | _=>none
theorem JT {td ty tx:TE} {a k x:XE} (ha:SPk K td a) (hk:SE K ty k) (hx:SE K tx x):SE K (FS td ty tx) (zj a k x):=fun ρ σ S H Q g r y c=>by
 unfold zj at y
 cases q:a ρ with
 | none=>rw [q] at y;cases y
 | some d=>
  rw [q] at y
  dsimp only [Option.bind] at y
  cases d <;> try (cases y;done)
  rename_i ks l
  dsimp only at y
  cases q2:k ρ with
  | none=>rw [q2] at y;cases y
  | some e=>
   rw [q2] at y
   dsimp only at y
   cases e <;> try (cases y;done)
   rename_i i
   dsimp only at y
   cases q3:x ρ with
   | none=>rw [q3] at y;cases y
   | some f=>
    rw [q3] at y
    cases y
    refine ha ρ σ S H _ _ r q fun v S1 H1 z1 d1=>?_
    have d':Den K S1 (.dkv ks l) v:=d1.elim id fun ⟨_,_,_,e,_⟩=>by cases e
    obtain ⟨p,kvs,rfl,h1,h2,h3⟩:=den_dkv.mp d'
    subst h2
    refine ⟨p,rfl,.inl ⟨kvs,bH z1.sub h1⟩,hk ρ σ S1 H1 _ _ (r.ext z1) q2 fun v2 S2 H2 z2 d2=>hx ρ σ S2 H2 _ _ ((r.ext z1).ext z2) q3 fun v3 S3 H3 z3 d3=>?_⟩
    have z23:=z2.trans z3
    refine ⟨nc kvs (.inl i),.inl ⟨kvs,.inl i,bH z23.sub (bH z23.sh h1),by rw [den_int.mp d2];rfl,rfl⟩,c _ S3 H3 (z1.trans z23) ?_⟩
    obtain ⟨l1,l2⟩:=vC (k:=.inl i) (h3.mono z23.sh)
    cases ql:nW (kvs.map (·.1)) l (.inl i) with
    | none=>rw [l2 ql];exact d3
    | some d4=>
     obtain ⟨v4,e4,e5⟩:=l1 d4 ql
     rw [e4]
     exact e5
end
end M
namespace Rw
noncomputable abbrev R:=List (Int × Int)
def Mem (r:R) (x:Int):Prop:=∃ p ∈ r,p.1 <= x /\ x <= p.2
def Ok (r:R):Prop:=∀ p ∈ r,p.1 <= p.2
def aV (r:R):Prop:=Ok r /\ r.Pairwise fun p q=>p.2 + 2 <= q.1
theorem aY (x:Int):¬ Mem [] x:=by rintro ⟨p,h,_⟩;cases h
theorem mem_cons (p:Int × Int) (r:R) (x:Int):Mem (p :: r) x ↔ (p.1 <= x /\ x <= p.2) \/ Mem r x:=by
 constructor
 ·rintro ⟨q,h,e⟩
  rcases List.mem_cons.mp h with rfl | h
  ·exact .inl e
  ·exact .inr ⟨q,h,e⟩
 ·rintro (e | ⟨q,h,e⟩)
  ·exact ⟨p,List.mem_cons_self,e⟩
  ·exact ⟨q,List.mem_cons_of_mem _ h,e⟩
theorem mem_append (r t:R) (x:Int):Mem (r ++ t) x ↔ Mem r x \/ Mem t x:=by
 constructor
 ·rintro ⟨q,h,e⟩
  rcases List.mem_append.mp h with h | h
  ·exact .inl ⟨q,h,e⟩
  ·exact .inr ⟨q,h,e⟩
 ·rintro (⟨q,h,e⟩ | ⟨q,h,e⟩)
  ·exact ⟨q,List.mem_append_left _ h,e⟩
  ·exact ⟨q,List.mem_append_right _ h,e⟩
theorem EI {r t:R} (h:r.Perm t) (x:Int):Mem r x ↔ Mem t x:=
 ⟨fun ⟨q,m,e⟩=>⟨q,h.mem_iff.mp m,e⟩,fun ⟨q,m,e⟩=>⟨q,h.mem_iff.mpr m,e⟩⟩
theorem mem_filter (r:R) (x:Int):Mem (r.filter fun p=>decide (p.1 <= p.2)) x ↔ Mem r x:=by
 constructor
 ·rintro ⟨q,m,e⟩
  exact ⟨q,(List.mem_filter.mp m).1,e⟩
 ·rintro ⟨q,m,e⟩
  exact ⟨q,List.mem_filter.mpr ⟨m,by simp;lia⟩,e⟩
theorem gt:aV []:=⟨fun _ h=>(by cases h),.nil⟩
theorem canon_cons {p:Int × Int} {r:R}:aV (p :: r) ↔ p.1 <= p.2 /\ (∀ q ∈ r,p.2 + 2 <= q.1) /\ aV r:=by
 constructor
 ·rintro ⟨h1,h2⟩
  have h3:=List.pairwise_cons.mp h2
  exact ⟨h1 p List.mem_cons_self,h3.1,fun q hq=>h1 q (List.mem_cons_of_mem _ hq),h3.2⟩
 ·rintro ⟨h1,h2,h3,h4⟩
  refine ⟨fun q hq=>?_,List.pairwise_cons.mpr ⟨h2,h4⟩⟩
  rcases List.mem_cons.mp hq with rfl | hq
  ·exact h1
  ·exact h3 q hq
theorem c7 {p:Int × Int} {r:R} (c:aV (p :: r)) {x:Int} (h:Mem r x):p.2 + 2 <= x:=by
 obtain ⟨q,m,e,_⟩:=h
 have:=(canon_cons.mp c).2.1 q m
 lia
theorem u8 {p:Int × Int} {r:R} (c:aV (p :: r)) {x:Int} (h:Mem (p :: r) x):p.1 <= x:=by
 rcases (mem_cons p r x).mp h with h | h
 ·exact h.1
 ·have:=c7 c h
  have:=(canon_cons.mp c).1
  lia
theorem AO:∀ {r t:R},aV r -> aV t -> (∀ x,Mem r x ↔ Mem t x) -> r = t
 | [],[],_,_,_=>rfl
 | [],q :: t,_,ct,h=>by
  have:=(h q.1).mpr ((mem_cons ..).mpr (.inl ⟨Int.le_refl _,(canon_cons.mp ct).1⟩))
  exact (aY _ this).elim
 | p :: r,[],cr,_,h=>by
  have:=(h p.1).mp ((mem_cons ..).mpr (.inl ⟨Int.le_refl _,(canon_cons.mp cr).1⟩))
  exact (aY _ this).elim
 | p :: r,q :: t,cr,ct,h=>by
  have hp:=(canon_cons.mp cr).1
  have hq:=(canon_cons.mp ct).1
  have a1:q.1 <= p.1:=u8 ct ((h p.1).mp ((mem_cons ..).mpr (.inl ⟨Int.le_refl _,hp⟩)))
  have a2:p.1 <= q.1:=u8 cr ((h q.1).mpr ((mem_cons ..).mpr (.inl ⟨Int.le_refl _,hq⟩)))
  have e1:p.1 = q.1:=by lia
  have n1:¬ Mem (p :: r) (p.2 + 1):=fun m=>by
   rcases (mem_cons ..).mp m with m | m
   ·lia
   ·have:=c7 cr m;lia
  have n2:¬ Mem (q :: t) (q.2 + 1):=fun m=>by
   rcases (mem_cons ..).mp m with m | m
   ·lia
   ·have:=c7 ct m;lia
  have e2:p.2 = q.2:=by
   by_cases l1:p.2 < q.2
   ·exact (n1 ((h _).mpr ((mem_cons ..).mpr (.inl ⟨by lia,by lia⟩)))).elim
   ·by_cases l2:q.2 < p.2
    ·exact (n2 ((h _).mp ((mem_cons ..).mpr (.inl ⟨by lia,by lia⟩)))).elim
    ·lia
  have e:p = q:=by
   obtain ⟨a,b⟩:=p
   obtain ⟨c,d⟩:=q
   simp only at e1 e2
   rw [e1,e2]
  subst e
  have ih:r = t:=AO (canon_cons.mp cr).2.2 (canon_cons.mp ct).2.2 fun x=>by
   constructor
   ·intro m
    rcases (mem_cons ..).mp ((h x).mp ((mem_cons ..).mpr (.inr m))) with k | k
    ·have:=c7 cr m;lia
    ·exact k
   ·intro m
    rcases (mem_cons ..).mp ((h x).mpr ((mem_cons ..).mpr (.inr m))) with k | k
    ·have:=c7 ct m;lia
    ·exact k
  rw [ih]
noncomputable def step (acc:R) (p:Int × Int):R:=
 match acc.getLast? with
 | none=>[p]
 | some q=>if p.1 <= q.2 + 1 then acc.dropLast ++ [(q.1,if p.2 > q.2 then p.2 else q.2)] else acc ++ [p]
noncomputable def lP (l:R):R:=l.foldl step []
theorem ud (p:Int × Int):step [] p = [p]:=rfl
theorem gv (t:R) (q p:Int × Int):step (t ++ [q]) p = if p.1 <= q.2 + 1 then t ++ [(q.1,if p.2 > q.2 then p.2 else q.2)] else t ++ [q] ++ [p]:=by
 unfold step
 simp
theorem canon_snoc {t:R} {q:Int × Int}:aV (t ++ [q]) ↔ aV t /\ q.1 <= q.2 /\ ∀ p ∈ t,p.2 + 2 <= q.1:=by
 constructor
 ·rintro ⟨h1,h2⟩
  have h3:=List.pairwise_append.mp h2
  exact ⟨⟨fun p hp=>h1 p (List.mem_append_left _ hp),h3.1⟩,h1 q (List.mem_append_right _ List.mem_cons_self),fun p hp=>h3.2.2 p hp q List.mem_cons_self⟩
 ·rintro ⟨⟨h1,h2⟩,h3,h4⟩
  refine ⟨fun p hp=>?_,List.pairwise_append.mpr ⟨h2,.cons (fun _ h=>(by cases h)) .nil,fun p hp x hx=>?_⟩⟩
  ·rcases List.mem_append.mp hp with hp | hp
   ·exact h1 p hp
   ·rw [List.mem_singleton.mp hp];exact h3
  ·rw [List.mem_singleton.mp hx];exact h4 p hp
theorem BF {acc:R} {p:Int × Int} (c:aV acc) (hp:p.1 <= p.2) (lo:∀ q ∈ acc,q.1 <= p.1) :
  aV (step acc p) /\ (∀ x,Mem (step acc p) x ↔ Mem acc x \/ (p.1 <= x /\ x <= p.2)) /\ (∀ q ∈ step acc p,q.1 <= p.1):=by
 rcases List.eq_nil_or_concat acc with rfl | ⟨t,q,rfl⟩
 ·rw [ud]
  refine ⟨canon_cons.mpr ⟨hp,fun _ h=>(by cases h),gt⟩,fun x=>?_,fun q hq=>?_⟩
  ·rw [mem_cons]
   constructor
   ·rintro (h | h)
    ·exact .inr h
    ·exact .inl h
   ·rintro (h | h)
    ·exact .inr h
    ·exact .inl h
  ·rw [List.mem_singleton.mp hq];exact Int.le_refl _
 ·rw [List.concat_eq_append] at *
  obtain ⟨ct,hq,ht⟩:=canon_snoc.mp c
  have lq:q.1 <= p.1:=lo q (List.mem_append_right _ List.mem_cons_self)
  rw [gv]
  by_cases h:p.1 <= q.2 + 1
  ·rw [if_pos h]
   have m:∀ z,(if p.2 > q.2 then p.2 else q.2) = z -> q.2 <= z /\ p.2 <= z /\ (z = p.2 \/ z = q.2):=fun z e=>by
    split at e <;> lia
   obtain ⟨m1,m2,m3⟩:=m _ rfl
   generalize (if p.2 > q.2 then p.2 else q.2) = z at *
   refine ⟨canon_snoc.mpr ⟨ct,by dsimp only;lia,ht⟩,fun x=>?_,fun s hs=>?_⟩
   ·rw [mem_append,mem_append,mem_cons,mem_cons]
    dsimp only
    constructor
    ·rintro (k | k | k)
     ·exact .inl (.inl k)
     ·by_cases hx:x <= q.2
      ·exact .inl (.inr (.inl ⟨k.1,hx⟩))
      ·right;lia
     ·exact (aY _ k).elim
    ·rintro ((k | k | k) | k)
     ·exact .inl k
     ·right;left;lia
     ·exact (aY _ k).elim
     ·right;left;lia
   ·rcases List.mem_append.mp hs with hs | hs
    ·exact lo s (List.mem_append_left _ hs)
    ·rw [List.mem_singleton.mp hs];exact lq
  ·rw [if_neg h]
   refine ⟨canon_snoc.mpr ⟨c,hp,fun s hs=>?_⟩,fun x=>?_,fun s hs=>?_⟩
   ·rcases List.mem_append.mp hs with hs | hs
    ·have:=ht s hs;lia
    ·rw [List.mem_singleton.mp hs];lia
   ·rw [mem_append,mem_cons]
    constructor
    ·rintro (k | k | k)
     ·exact .inl k
     ·exact .inr k
     ·exact (aY _ k).elim
    ·rintro (k | k)
     ·exact .inl k
     ·exact .inr (.inl k)
   ·rcases List.mem_append.mp hs with hs | hs
    ·exact lo s hs
    ·rw [List.mem_singleton.mp hs];exact Int.le_refl _
theorem Ba:∀ (l:R) (acc:R),aV acc -> Ok l -> l.Pairwise (fun p q=>p.1 <= q.1) -> (∀ q ∈ acc,∀ p ∈ l,q.1 <= p.1) ->
  aV (l.foldl step acc) /\ ∀ x,Mem (l.foldl step acc) x ↔ Mem acc x \/ Mem l x
 | [],acc,c,_,_,_=>⟨c,fun x=>⟨fun h=>.inl h,fun h=>h.elim id fun k=>(aY _ k).elim⟩⟩
 | p :: l,acc,c,o,w,lo=>by
  obtain ⟨w1,w2⟩:=List.pairwise_cons.mp w
  obtain ⟨c1,m1,l1⟩:=BF c (o p List.mem_cons_self) fun q hq=>lo q hq p List.mem_cons_self
  obtain ⟨c2,m2⟩:=Ba l (step acc p) c1 (fun q hq=>o q (List.mem_cons_of_mem _ hq)) w2 fun q hq s hs=>by
   have:=l1 q hq
   have:=w1 s hs
   lia
  refine ⟨c2,fun x=>?_⟩
  show Mem (l.foldl step (step acc p)) x ↔ _
  rw [m2,m1,mem_cons,or_assoc]
def IsRow (ps r:R):Prop:=aV r /\ ∀ x,Mem r x ↔ Mem ps x
theorem EM {l ps:R} (o:Ok l) (w:l.Pairwise fun p q=>p.1 <= q.1) (h:∀ x,Mem l x ↔ Mem ps x):IsRow ps (lP l):=by
 obtain ⟨c,m⟩:=Ba l [] gt o w fun _ h=>(by cases h)
 exact ⟨c,fun x=>by
  show Mem (l.foldl step []) x ↔ _
  rw [m x,<- h x]
  exact ⟨fun k=>k.elim (fun z=>(aY _ z).elim) id,.inr⟩⟩
theorem IsRow.eq {ps qs r t:R} (h:IsRow ps r) (k:IsRow qs t) (e:∀ x,Mem ps x ↔ Mem qs x):r = t:=
 AO h.1 k.1 fun x=>(h.2 x).trans ((e x).trans (k.2 x).symm)
noncomputable def l8 (r:R) (lo hi:Int):R:=r.map fun p=>(p.1 + lo,p.2 + hi)
theorem CQ (r:R) (lo hi x:Int):Mem (l8 r lo hi) x ↔ ∃ p ∈ r,p.1 + lo <= x /\ x <= p.2 + hi:=by
 constructor
 ·rintro ⟨q,m,e⟩
  obtain ⟨p,hp,rfl⟩:=List.mem_map.mp m
  exact ⟨p,hp,e⟩
 ·rintro ⟨p,hp,e⟩
  exact ⟨_,List.mem_map.mpr ⟨p,hp,rfl⟩,e⟩
theorem FI {r:R} (o:Ok r) {lo hi:Int} (hl:lo <= hi):Ok (l8 r lo hi):=fun q m=>by
 obtain ⟨p,hp,rfl⟩:=List.mem_map.mp m
 have:=o p hp
 dsimp only
 lia
end Rw
namespace Rw
noncomputable def c9:R -> R -> R
 | [],_=>[]
 | _ :: _,[]=>[]
 | p :: s,q :: t=>(if max p.1 q.1 <= min p.2 q.2 then [(max p.1 q.1,min p.2 q.2)] else []) ++ (if p.2 < q.2 then c9 s (q :: t) else c9 (p :: s) t)
termination_by s t=>s.length + t.length
theorem dc (s:R):c9 s [] = []:=by cases s <;> simp [c9]
theorem dM (t:R):c9 [] t = []:=by simp [c9]
theorem A5:∀ (n:Nat) (s t:R),s.length + t.length = n -> ∀ r ∈ c9 s t,(∃ p ∈ s,p.1 <= r.1 /\ r.2 <= p.2) /\ (∃ q ∈ t,q.1 <= r.1 /\ r.2 <= q.2) /\ r.1 <= r.2:=by
 intro n
 induction n using Nat.strongRecOn with
 | ind n ih=>
  intro s t hn r hr
  match s,t with
  | [],t=>rw [dM] at hr;cases hr
  | p :: s,[]=>rw [dc] at hr;cases hr
  | p :: s,q :: t=>
   rw [c9] at hr
   rcases List.mem_append.mp hr with hr | hr
   ·split at hr
    ·rename_i h
     rw [List.mem_singleton.mp hr]
     refine ⟨⟨p,List.mem_cons_self,?_,?_⟩,⟨q,List.mem_cons_self,?_,?_⟩,h⟩ <;> dsimp only <;> lia
    ·cases hr
   ·split at hr
    ·obtain ⟨⟨p',h1,h2⟩,h3⟩:=ih (s.length + (q :: t).length) (by simp at hn ⊢;lia) s (q :: t) rfl r hr
     exact ⟨⟨p',List.mem_cons_of_mem _ h1,h2⟩,h3⟩
    ·obtain ⟨h1,⟨q',h2,h3⟩,h4⟩:=ih ((p :: s).length + t.length) (by simp at hn ⊢;lia) (p :: s) t rfl r hr
     exact ⟨h1,⟨q',List.mem_cons_of_mem _ h2,h3⟩,h4⟩
theorem D0:∀ (n:Nat) (s t:R),s.length + t.length = n -> aV s -> aV t -> ∀ x,Mem (c9 s t) x ↔ Mem s x /\ Mem t x:=by
 intro n
 induction n using Nat.strongRecOn with
 | ind n ih=>
  intro s t hn cs ct x
  match s,t with
  | [],t=>rw [dM];exact ⟨fun h=>(aY _ h).elim,fun h=>(aY _ h.1).elim⟩
  | p :: s,[]=>rw [dc];exact ⟨fun h=>(aY _ h).elim,fun h=>(aY _ h.2).elim⟩
  | p :: s,q :: t=>
   have hp:=(canon_cons.mp cs).1
   have hq:=(canon_cons.mp ct).1
   have cs':=(canon_cons.mp cs).2.2
   have ct':=(canon_cons.mp ct).2.2
   have first:Mem (if max p.1 q.1 <= min p.2 q.2 then [(max p.1 q.1,min p.2 q.2)] else []) x ↔ (p.1 <= x /\ x <= p.2) /\ (q.1 <= x /\ x <= q.2):=by
    split
    ·rw [mem_cons]
     constructor
     ·rintro (h | h)
      ·dsimp only at h;lia
      ·exact (aY _ h).elim
     ·intro h
      left
      dsimp only
      lia
    ·constructor
     ·intro h;exact (aY _ h).elim
     ·intro h;lia
   rw [c9,mem_append,first]
   split
   ·rename_i hlt
    rw [ih (s.length + (q :: t).length) (by simp at hn ⊢;lia) s (q :: t) rfl cs' ct x,mem_cons p s,mem_cons q t]
    constructor
    ·rintro (h | ⟨h1,h2⟩)
     ·exact ⟨.inl h.1,.inl h.2⟩
     ·exact ⟨.inr h1,h2⟩
    ·rintro ⟨h1 | h1,h2 | h2⟩
     ·exact .inl ⟨h1,h2⟩
     ·have:=c7 ct h2;lia
     ·exact .inr ⟨h1,.inl h2⟩
     ·exact .inr ⟨h1,.inr h2⟩
   ·rename_i hge
    rw [ih ((p :: s).length + t.length) (by simp at hn ⊢;lia) (p :: s) t rfl cs ct' x,mem_cons p s,mem_cons q t]
    constructor
    ·rintro (h | ⟨h1,h2⟩)
     ·exact ⟨.inl h.1,.inl h.2⟩
     ·exact ⟨h1,.inr h2⟩
    ·rintro ⟨h1 | h1,h2 | h2⟩
     ·exact .inl ⟨h1,h2⟩
     ·exact .inr ⟨.inl h1,h2⟩
     ·have:=c7 cs h1;lia
     ·exact .inr ⟨.inr h1,h2⟩
theorem zF:∀ (n:Nat) (s t:R),s.length + t.length = n -> aV s -> aV t -> aV (c9 s t):=by
 intro n
 induction n using Nat.strongRecOn with
 | ind n ih=>
  intro s t hn cs ct
  match s,t with
  | [],t=>rw [dM];exact gt
  | p :: s,[]=>rw [dc];exact gt
  | p :: s,q :: t=>
   have cs':=(canon_cons.mp cs).2.2
   have ct':=(canon_cons.mp ct).2.2
   rw [c9]
   have rest:aV (if p.2 < q.2 then c9 s (q :: t) else c9 (p :: s) t) /\ ∀ r ∈ (if p.2 < q.2 then c9 s (q :: t) else c9 (p :: s) t),min p.2 q.2 + 2 <= r.1:=by
    split
    ·rename_i hlt
     refine ⟨ih (s.length + (q :: t).length) (by simp at hn ⊢;lia) s (q :: t) rfl cs' ct,fun r hr=>?_⟩
     obtain ⟨⟨p',h1,h2,_⟩,_⟩:=A5 _ s (q :: t) rfl r hr
     have:=(canon_cons.mp cs).2.1 p' h1
     lia
    ·rename_i hge
     refine ⟨ih ((p :: s).length + t.length) (by simp at hn ⊢;lia) (p :: s) t rfl cs ct',fun r hr=>?_⟩
     obtain ⟨_,⟨q',h1,h2,_⟩,_⟩:=A5 _ (p :: s) t rfl r hr
     have:=(canon_cons.mp ct).2.1 q' h1
     lia
   split
   ·rename_i h
    exact canon_cons.mpr ⟨h,rest.2,rest.1⟩
   ·rw [List.nil_append];exact rest.1
theorem xN:∀ (n:Nat) (s t:R),s.length + t.length = n -> (c9 s t).length <= s.length + t.length:=by
 intro n
 induction n using Nat.strongRecOn with
 | ind n ih=>
  intro s t hn
  match s,t with
  | [],t=>rw [dM];simp
  | p :: s,[]=>rw [dc];simp
  | p :: s,q :: t=>
   rw [c9,List.length_append]
   have h1:(if max p.1 q.1 <= min p.2 q.2 then [(max p.1 q.1,min p.2 q.2)] else []).length <= 1:=by split <;> simp
   have h2:(if p.2 < q.2 then c9 s (q :: t) else c9 (p :: s) t).length + 1 <= (p :: s).length + (q :: t).length:=by
    split
    ·have:=ih (s.length + (q :: t).length) (by simp at hn ⊢;lia) s (q :: t) rfl
     simp at this ⊢;lia
    ·have:=ih ((p :: s).length + t.length) (by simp at hn ⊢;lia) (p :: s) t rfl
     simp at this ⊢;lia
   lia
noncomputable def Jp:List Int -> R
 | a :: b :: t=>(a,b - 1) :: Jp t
 | _=>[]
def Ig (r t u:R):Prop:=aV u /\ ∀ x,Mem u x ↔ (Mem r x /\ Mem t x)
noncomputable def ke (P:Int -> Prop) (L:Int):Nat -> Int
 | 0=>0
 | n + 1=>ke P L n + (by classical exact if P (L + n) then 1 else 0)
end Rw
namespace P
open PySem L2 M
noncomputable abbrev NS:List Str:=["Box", "Cross", "Shape", "Sum"]
noncomputable abbrev an_Form:List (Str × Bool):=[("Box",true),("Cross",true),("Shape",true),("Sum",true)]
noncomputable def gE:XS:=aH (xIf (xB (xOp dLt (af 1) (xCB kZ (ab (af 0) aj)))) (a8 (xOp dIx (af 0) (af 1))) dZ) (a8 (xC (.int 0)))
noncomputable def im:List D -> Option O:=fnO 2 gE
noncomputable def aZ:List D -> Option D:=fun ds=>(im ds).map O.d
noncomputable def bJ:XS:=xIf (rk (xB (xOp dGt (xFl (xCB kZ (ab (oU 1) aj))) (xC (.int 0)))) (rk (xB (xOp (dEq false) (xFl (xOp dIx (xOp dIx (oU 1) (xUn dN (xC (.int 1)))) (xC (.int 0)))) (af 2))) (xB (xOp dLe (af 3) (xOp bC (xFl (xOp dIx (xOp dIx (xOp dIx (xOp dIx (oU 1) (xUn dN (xC (.int 1)))) (xC (.int 1))) (xUn dN (xC (.int 1)))) (xC (.int 1)))) (xC (.int 1))))))) (aH (F6 1 (xPi (xPi xPv (xUn dN (xC (.int 1)))) (xC (.int 1))) 5) (kH 1 (xPi (xPi xPv (xUn dN (xC (.int 1)))) (xC (.int 1))) (xSh (aQ (ab (xOp dIx (af 5) (xC (.int 0))) (ab (xCB rS (ab (xOp dIx (af 5) (xC (.int 1))) (ab (af 4) aj))) aj)))))) (xIf (rk (xB (xOp dGt (xFl (xCB kZ (ab (oU 1) aj))) (xC (.int 0)))) (xB (xOp (dEq false) (xFl (xOp dIx (xOp dIx (oU 1) (xUn dN (xC (.int 1)))) (xC (.int 0)))) (af 2)))) (kH 1 (xPi (xPi xPv (xUn dN (xC (.int 1)))) (xC (.int 1))) (xSh (aQ (ab (am 3) (ab (am 4) aj))))) (kH 1 xPv (BV (nj (xSh (am 2)) (nj (BQ (nj (xSh (aQ (ab (am 3) (ab (am 4) aj)))) zk)) zk)))))
noncomputable def jh:XS:=aH (oQ (pW aj) 1) (aH (gq (xIt (xL (DA ii (ab (af 0) aj)))) (aO (ak (ag 2) (ak (ag 3) (ak (ag 4) aK)))) (bJ)) (AS 1 (a8 (xCB dA (ab (xL (bQ [none,none] (xIt (am 1)) (aO (ak (ag 0) (ak (ag 1) aK))) cA (aQ (ab (am 0) (ab (xCB dA (ab (af 1) aj)) aj))))) aj)))))
noncomputable def kj:List D -> Option O:=fnO 6 jh
noncomputable def gK:List D -> Option D:=fun ds=>(kj ds).map O.d
noncomputable def kJ:XS:=aH (br (xOp eW (xOp eD (xOp df (af 0) (xC (.int 48271))) (xC (.int 2147483647))) (xC (.int 37))) (ag 2)) (aH (br (xOp bC (xOp df (xOp hE (xOp eD (xOp eW (af 2) (xC (.int 9))) (xC (.int 19))) (xC (.int 9))) (af 1)) (xOp eD (xOp eW (af 2) (xC (.int 2000))) (xC (.int 2)))) (ag 3)) (a8 (aQ (ab (xOp hE (xOp eD (af 2) (xC (.int 9))) (xC (.int 4))) (ab (am 3) (ab (xOp bC (af 3) (xOp df (xOp eD (xOp eW (af 2) (xC (.int 171))) (xC (.int 10))) (af 1))) aj))))))
noncomputable def mH:List D -> Option O:=fnO 4 kJ
noncomputable def ft:List D -> Option D:=fun ds=>(mH ds).map O.d
noncomputable def hW:XS:=aH (br (xL (bQ [none,some 5,some 6] (xIt (zj (af 2) (am 3) (aQ aj))) (ag 0) (rk (xB (xOp dLe (xOp dIx (af 0) (xC (.int 0))) (af 1))) (xB (xOp dLe (af 2) (xOp dIx (af 0) (xC (.int 1)))))) (am 0))) (ag 7)) (xIf (xB (xOp (dEq false) (xCB kZ (ab (af 7) aj)) (xC (.int 0)))) (a8 (xC (.bl false))) dZ)
noncomputable def fN:XS:=gq (xIt (am 4)) (aO (ak (ag 5) (ak (ag 6) aK))) (hW)
noncomputable def iR:XS:=aH (br (xCB xD (ab (af 1) aj)) (ag 2)) (aH (gq (xIt (am 0)) (aO (ak (ag 3) (ak (ag 4) aK))) (fN)) (a8 (xC (.bl true))))
noncomputable def s9:List D -> Option O:=fnO 8 iR
noncomputable def i7:List D -> Option D:=fun ds=>(s9 ds).map O.d
noncomputable def nD:XS:=aH (xIf (xB (xOp (dEq false) (af 0) (aQ aj))) (a8 (xC .non)) dZ) (aH (br (xCB xF (ab (xL (bQ [none,none] (xIt (af 0)) (aO (ak (ag 0) (ak (ag 1) aK))) cA (xOp dIx (xOp dIx (af 1) (xC (.int 0))) (xC (.int 0))))) aj)) (ag 1)) (aH (br (xCB xE (ab (xL (bQ [none,none] (xIt (af 0)) (aO (ak (ag 0) (ak (ag 1) aK))) cA (xOp dIx (xOp dIx (af 1) (xUn dN (xC (.int 1)))) (xC (.int 1))))) aj)) (ag 2)) (a8 (aQ (ab (am 1) (ab (xOp dIx (xOp dIx (af 0) (xC (.int 0))) (xC (.int 0))) (ab (am 2) (ab (xOp dIx (xOp dIx (af 0) (xUn dN (xC (.int 1)))) (xC (.int 0))) aj))))))))
noncomputable def pD:List D -> Option O:=fnO 3 nD
noncomputable def sU:List D -> Option D:=fun ds=>(pD ds).map O.d
noncomputable def cI:XT:=xB (xOp dLt (af 2) (af 3))
noncomputable def cH:XS:=aH (br (xOp eW (xOp bC (af 2) (af 3)) (xC (.int 2))) (ag 4)) (xIf (xB (xOp dLe (xOp dIx (xOp dIx (af 0) (af 4)) (xC (.int 0))) (af 1))) (br (xOp bC (af 4) (xC (.int 1))) (ag 2)) (br (am 4) (ag 3)))
noncomputable def fG:XS:=aH (br (xC (.int 0)) (ag 2)) (aH (br (xCB kZ (ab (af 0) aj)) (ag 3)) (aH (eL (cI) (cH)) (a8 (am 2))))
noncomputable def gM:List D -> Option O:=fnO 5 fG
noncomputable def dU:List D -> Option D:=fun ds=>(gM ds).map O.d
noncomputable def eS:XS:=aH (br (xL (bQ [none] (xIt (af 0)) (ag 0) (xB (xOp (dEq false) (xCB kZ (ab (af 0) aj)) (xC (.int 1)))) (xOp dIx (af 0) (xC (.int 0))))) (ag 1)) (aH (br (xCB dA (ab (xL (bQ [none,some 1] (xi (ab (xC (.int 4)) aj)) (ag 0) cA (xCB B6 (ab (xL (bQ [none,some 0] (xIt (af 1)) (ag 0) cA (xOp dIx (af 0) (af 1)))) aj)))) aj)) (ag 2)) (a8 (xOp bC (aQ (ab (aQ (ab (am 2) aj)) aj)) (xCB dA (ab (xL (bQ [none] (xIt (af 0)) (ag 0) (xB (xOp dGt (xCB kZ (ab (af 0) aj)) (xC (.int 1)))) (am 0))) aj)))))
noncomputable def fU:List D -> Option O:=fnO 3 eS
noncomputable def gL:List D -> Option D:=fun ds=>(fU ds).map O.d
noncomputable def b9:XT:=rk (xB (xOp dLt (af 3) (xCB kZ (ab (af 0) aj)))) (xB (xOp dLt (af 4) (xCB kZ (ab (af 1) aj))))
noncomputable def bA:XS:=aH (br (xCB rS (ab (xOp dIx (xOp dIx (af 0) (af 3)) (xC (.int 0))) (ab (xOp dIx (xOp dIx (af 1) (af 4)) (xC (.int 0))) aj))) (ag 5)) (aH (br (xCB uZ (ab (xOp dIx (xOp dIx (af 0) (af 3)) (xC (.int 1))) (ab (xOp dIx (xOp dIx (af 1) (af 4)) (xC (.int 1))) aj))) (ag 6)) (aH (xIf (xB (xOp dLe (af 5) (af 6))) (kH 2 xPv (xSh (aQ (ab (am 5) (ab (am 6) aj))))) dZ) (xIf (xB (xOp dLt (xOp dIx (xOp dIx (af 0) (af 3)) (xC (.int 1))) (xOp dIx (xOp dIx (af 1) (af 4)) (xC (.int 1))))) (Dz 3 (xC (.int 1)) vf) (Dz 4 (xC (.int 1)) vf))))
noncomputable def fZ:XS:=aH (oQ (pW aj) 2) (aH (br (xC (.int 0)) (ag 3)) (aH (br (xC (.int 0)) (ag 4)) (aH (eL (b9) (bA)) (a8 (xCB dA (ab (af 2) aj))))))
noncomputable def iJ:List D -> Option O:=fnO 7 fZ
noncomputable def gh:List D -> Option D:=fun ds=>(iJ ds).map O.d
noncomputable def ie:XS:=a8 (xCB dA (ab (xL (bQ [none,none,some 1] (xIt (af 0)) (aO (ak (ag 0) (ak (ag 1) aK))) cA (aQ (ab (xOp bC (af 0) (af 2)) (ab (xOp bC (af 1) (af 2)) aj))))) aj))
noncomputable def jq:List D -> Option O:=fnO 2 ie
noncomputable def il:List D -> Option D:=fun ds=>(jq ds).map O.d
noncomputable def eA:XS:=xIf (rk (uk (af 1)) (xB (xOp dLe (af 2) (xOp bC (xOp dIx (xOp dIx (af 1) (xUn dN (xC (.int 1)))) (xC (.int 1))) (xC (.int 1)))))) (BU 1 xPv (xUn dN (xC (.int 1))) (aQ (ab (xOp dIx (xOp dIx (af 1) (xUn dN (xC (.int 1)))) (xC (.int 0))) (ab (xCB rS (ab (xOp dIx (xOp dIx (af 1) (xUn dN (xC (.int 1)))) (xC (.int 1))) (ab (af 3) aj))) aj)))) (kH 1 xPv (xSh (aQ (ab (am 2) (ab (am 3) aj)))))
noncomputable def nG:XS:=aH (oQ (pW aj) 1) (aH (gq (xIt (xL (DA ii (ab (xL (bQ [none,none] (xIt (af 0)) (aO (ak (ag 0) (ak (ag 1) aK))) (xB (xOp dLe (af 0) (af 1))) (aQ (ab (am 0) (ab (am 1) aj))))) aj)))) (aO (ak (ag 2) (ak (ag 3) aK))) (eA)) (a8 (xCB dA (ab (af 1) aj))))
noncomputable def pF:List D -> Option O:=fnO 4 nG
noncomputable def kc:List D -> Option D:=fun ds=>(pF ds).map O.d
noncomputable def cU:XS:=a8 (xCB dA (ab (xL (bQ [none,none] (xIt (af 0)) (aO (ak (ag 0) (ak (ag 1) aK))) (xB (xOp (dEq true) (af 1) (aQ aj))) (aQ (ab (am 0) (ab (am 1) aj))))) aj))
noncomputable def eI:List D -> Option O:=fnO 1 cU
noncomputable def bn:List D -> Option D:=fun ds=>(eI ds).map O.d
noncomputable def dq:XS:=BO 1 xPv (xL (bQ [none,none,some 2] (xIt (af 3)) (aO (ak (ag 0) (ak (ag 1) aK))) cA (aQ (ab (am 2) (ab (am 0) (ab (am 1) aj))))))
noncomputable def eT:XS:=aH (oQ (pW aj) 1) (aH (gq (xIt (am 0)) (aO (ak (ag 2) (ak (ag 3) aK))) (dq)) (F7 1))
noncomputable def ez:List D -> Option O:=fnO 4 eT
noncomputable def bD:List D -> Option D:=fun ds=>(ez ds).map O.d
noncomputable def wF:List D -> Option D:=yc (xB (xOp dLt (xCB A0 (ab (af 1) (ab (af 2) (ab (af 3) (ab (af 4) aj))))) (xC (.int 0)))) (aQ (ab (aQ (ab (aQ (ab (xUn dN (af 1)) (ab (xUn dN (af 2)) (ab (am 3) (ab (am 4) aj))))) aj)) aj))
noncomputable def n4:List D -> Option D:=yc (xB (xOp dLt (af 1) (xC (.int 0)))) (aQ (ab (aQ (ab (aQ (ab (xUn dN (af 1)) (ab (xC (.int 0)) (ab (am 1) (ab (xC (.int 0)) aj))))) (ab (aQ (ab (xC (.int 0)) (ab (xUn dN (af 1)) (ab (xC (.int 0)) (ab (am 1) aj))))) aj))) aj))
noncomputable def Ai:List D -> Option D:=K1 (av gL (ab (xOp bC (nk NS "parts" (am 1)) (nk NS "parts" (am 2))) aj))
noncomputable def d9:XS:=a8 (xSl (af 0) (oT (xCB rS (ab (xC (.int 0)) (ab (xOp hE (av dU (ab (am 0) (ab (am 1) aj))) (xC (.int 1))) aj)))) (oT (av dU (ab (am 0) (ab (am 2) aj)))))
noncomputable def fx:List D -> Option O:=fnO 3 d9
noncomputable def aX:List D -> Option D:=fun ds=>(fx ds).map O.d
noncomputable def bu:XS:=xIf (rk (uk (af 1)) (xB (xOp (dEq false) (xOp dIx (af 1) (xUn dN (xC (.int 1)))) (aQ (ab (am 2) (ab (xOp dIx (xOp dIx (af 1) (xUn dN (xC (.int 1)))) (xC (.int 1))) (ab (am 3) (ab (xOp hE (af 4) (xC (.int 1))) aj)))))))) (BU 1 xPv (xUn dN (xC (.int 1))) (aQ (ab (am 2) (ab (xOp dIx (xOp dIx (af 1) (xUn dN (xC (.int 1)))) (xC (.int 1))) (ab (am 3) (ab (am 4) aj)))))) (kH 1 xPv (xSh (aQ (ab (am 2) (ab (am 4) (ab (am 3) (ab (am 4) aj)))))))
noncomputable def ic:XS:=aH (oQ (pW aj) 1) (aH (gq (xIt (xL (DA ii (ab (xL (bQ [none,none,none] (xIt (av bD (ab (am 0) aj))) (aO (ak (ag 0) (ak (ag 1) (ak (ag 2) aK)))) cA (aQ (ab (am 1) (ab (am 2) (ab (am 0) aj)))))) aj)))) (aO (ak (ag 2) (ak (ag 3) (ak (ag 4) aK)))) (bu)) (a8 (xCB dA (ab (af 1) aj))))
noncomputable def jn:List D -> Option O:=fnO 5 ic
noncomputable def j8:List D -> Option D:=fun ds=>(jn ds).map O.d
noncomputable def rn:XS:=a8 (xCB dA (ab (xL (bQ [none,none,some 2,some 1] (xIt (af 0)) (aO (ak (ag 0) (ak (ag 1) aK))) cA (aQ (ab (xOp bC (af 0) (af 2)) (ab (av il (ab (am 1) (ab (am 3) aj))) aj))))) aj))
noncomputable def tf:List D -> Option O:=fnO 3 rn
noncomputable def rD:List D -> Option D:=fun ds=>(tf ds).map O.d
noncomputable def bz:XS:=aH (xIf (xOr (xh (uk (oU 1))) (xB (xOp (dEq true) (xFl (xOp dIx (xOp dIx (oU 1) (xUn dN (xC (.int 1)))) (xC (.int 0)))) (af 2)))) (kH 1 xPv (BV (nj (xSh (am 2)) (nj (BQ zk) zk)))) dZ) (kH 1 (xPi (xPi xPv (xUn dN (xC (.int 1)))) (xC (.int 1))) (xSh (aQ (ab (am 3) (ab (am 4) aj)))))
noncomputable def fY:XS:=aH (oQ (pW aj) 1) (aH (gq (xIt (xL (DA ii (ab (xL (bQ [none,none,none] (xIt (af 0)) (aO (ak (ag 0) (ak (ag 1) (ak (ag 2) aK)))) (xB (xOp dLe (af 1) (af 2))) (aQ (ab (am 0) (ab (am 1) (ab (am 2) aj)))))) aj)))) (aO (ak (ag 2) (ak (ag 3) (ak (ag 4) aK)))) (bz)) (AS 1 (a8 (xCB dA (ab (xL (bQ [none,none] (xIt (am 1)) (aO (ak (ag 0) (ak (ag 1) aK))) cA (aQ (ab (am 0) (ab (av kc (ab (am 1) aj)) aj))))) aj)))))
noncomputable def iI:List D -> Option O:=fnO 5 fY
noncomputable def fb:List D -> Option D:=fun ds=>(iI ds).map O.d
noncomputable def iT:XS:=aH (br (av dU (ab (am 0) (ab (am 1) aj))) (ag 2)) (aH (xIf (rk (xB (xOp dGt (af 2) (xC (.int 0)))) (xB (xOp (dEq false) (xOp dIx (xOp dIx (af 0) (xOp hE (af 2) (xC (.int 1)))) (xC (.int 0))) (af 1)))) (a8 (xOp dIx (xOp dIx (af 0) (xOp hE (af 2) (xC (.int 1)))) (xC (.int 1)))) dZ) (a8 (aQ aj)))
noncomputable def ja:List D -> Option O:=fnO 3 iT
noncomputable def i8:List D -> Option D:=fun ds=>(ja ds).map O.d
noncomputable def f7:XS:=a8 (av kc (ab (xL (bQ [none,none,some 1,some 2] (xIt (af 0)) (aO (ak (ag 0) (ak (ag 1) aK))) cA (aQ (ab (xOp hE (af 0) (af 2)) (ab (xOp hE (af 1) (af 3)) aj))))) aj))
noncomputable def iK:List D -> Option O:=fnO 3 f7
noncomputable def gi:List D -> Option D:=fun ds=>(iK ds).map O.d
noncomputable def n5:List D -> Option D:=yc (xB (xOp (dEq false) (af 1) (aQ aj))) (aQ (ab (av j8 (ab (am 1) aj)) aj))
noncomputable def nF:XS:=a8 (av bn (ab (xL (bQ [none,none,some 1] (xIt (af 0)) (aO (ak (ag 0) (ak (ag 1) aK))) cA (aQ (ab (am 0) (ab (av gh (ab (am 1) (ab (av i8 (ab (am 2) (ab (am 0) aj))) aj))) aj))))) aj))
noncomputable def pE:List D -> Option O:=fnO 2 nF
noncomputable def nY:List D -> Option D:=fun ds=>(pE ds).map O.d
noncomputable def wf:XS:=a8 (av fb (ab (xOp bC (av bD (ab (am 0) aj)) (av bD (ab (am 1) aj))) aj))
noncomputable def wG:List D -> Option O:=fnO 2 wf
noncomputable def Ac:List D -> Option D:=fun ds=>(wG ds).map O.d
noncomputable def kL:XS:=aH (br (av aX (ab (am 0) (ab (xOp bC (xOp dIx (af 1) (xC (.int 1))) (xOp dIx (af 2) (xC (.int 1)))) (ab (xOp bC (xOp dIx (af 1) (xC (.int 3))) (xOp dIx (af 2) (xC (.int 3)))) aj)))) (ag 3)) (a8 (av bn (ab (xL (bQ [none,none,some 1,some 2] (xIt (af 3)) (aO (ak (ag 0) (ak (ag 1) aK))) cA (aQ (ab (am 0) (ab (av aX (ab (am 1) (ab (xOp bC (xOp dIx (af 2) (xC (.int 0))) (xOp dIx (af 3) (xC (.int 0)))) (ab (xOp bC (xOp dIx (af 2) (xC (.int 2))) (xOp dIx (af 3) (xC (.int 2)))) aj)))) aj))))) aj)))
noncomputable def mI:List D -> Option O:=fnO 4 kL
noncomputable def pr:List D -> Option D:=fun ds=>(mI ds).map O.d
noncomputable def cJ:XT:=xB (xOp dLt (af 2) (af 1))
noncomputable def d7:XS:=aH (br (xCB uZ (ab (xOp bC (af 2) (xC (.int 1))) (ab (xOp hE (af 1) (af 2)) aj))) (ag 3)) (aH (br (av nY (ab (am 0) (ab (av rD (ab (am 0) (ab (xC (.int 0)) (ab (xUn dN (af 3)) aj)))) aj))) (ag 0)) (Dz 2 (af 3) vf))
noncomputable def fH:XS:=aH (br (xC (.int 0)) (ag 2)) (aH (eL (cJ) (d7)) (a8 (am 0)))
noncomputable def gN:List D -> Option O:=fnO 4 fH
noncomputable def fL:List D -> Option D:=fun ds=>(gN ds).map O.d
noncomputable def cK:XT:=xB (xOp dLt (af 2) (af 1))
noncomputable def d8:XS:=aH (br (xCB uZ (ab (xOp bC (af 2) (xC (.int 1))) (ab (xOp hE (af 1) (af 2)) aj))) (ag 3)) (aH (br (av Ac (ab (am 0) (ab (av rD (ab (am 0) (ab (xC (.int 0)) (ab (am 3) aj)))) aj))) (ag 0)) (Dz 2 (af 3) vf))
noncomputable def fI:XS:=aH (br (xC (.int 0)) (ag 2)) (aH (eL (cK) (d8)) (a8 (am 0)))
noncomputable def gO:List D -> Option O:=fnO 4 fI
noncomputable def fM:List D -> Option D:=fun ds=>(gO ds).map O.d
noncomputable def d6:XS:=kH 4 xPv (xSh (aQ (ab (xOp hE (xOp eD (xOp eW (af 3) (xOp bC (xOp df (xC (.int 7)) (af 5)) (xC (.int 3)))) (xC (.int 5))) (xC (.int 2))) (ab (xOp df (xOp eD (xOp eW (af 3) (xOp bC (xOp df (xC (.int 11)) (af 5)) (xC (.int 2)))) (xC (.int 7))) (af 1)) (ab (xOp df (xOp eD (xOp eW (af 3) (xOp bC (xOp df (xC (.int 11)) (af 5)) (xC (.int 2)))) (xC (.int 7))) (af 1)) aj)))))
noncomputable def dJ:XS:=aH (br (xOp eD (xOp eW (xOp eD (xOp df (af 0) (xC (.int 48271))) (xC (.int 2147483647))) (xC (.int 37))) (xC (.int 3))) (ag 2)) (aH (br (xOp eW (xOp eD (xOp df (af 0) (xC (.int 69621))) (xC (.int 2147483629))) (xC (.int 37))) (ag 3)) (aH (xIf (xB (xOp (dEq false) (af 2) (xC (.int 0)))) (a8 (qD "Box" "parts" wF (ab (xOp df (xOp eD (af 3) (xC (.int 4))) (af 1)) (ab (xOp eD (xOp eW (af 3) (xC (.int 4))) (xC (.int 3))) (ab (xOp bC (xOp df (xOp eD (xOp eW (af 3) (xC (.int 12))) (xC (.int 4))) (af 1)) (xOp eD (xOp eW (af 3) (xC (.int 48))) (xC (.int 2)))) (ab (xOp eD (xOp eW (af 3) (xC (.int 96))) (xC (.int 3))) aj)))))) dZ) (aH (xIf (xB (xOp (dEq false) (af 2) (xC (.int 1)))) (a8 (qD "Cross" "parts" n4 (ab (xOp eD (af 3) (xC (.int 3))) aj))) dZ) (aH (oQ (pW (ab (aQ (ab (xOp hE (xOp eD (af 3) (xC (.int 5))) (xC (.int 2))) (ab (xOp hE (xOp eD (xOp eW (af 3) (xC (.int 5))) (xC (.int 7))) (xC (.int 3))) (ab (xOp bC (xOp hE (xOp eD (xOp eW (af 3) (xC (.int 5))) (xC (.int 7))) (xC (.int 3))) (xOp df (xOp eD (xOp eW (af 3) (xC (.int 35))) (xC (.int 3))) (af 1))) aj)))) aj)) 4) (aH (gq (xi (ab (xOp eD (xOp eW (af 3) (xC (.int 105))) (xC (.int 3))) aj)) (ag 5) (d6)) (AS 4 (a8 (qD "Shape" "parts" n5 (ab (av gK (ab (am 4) aj)) aj)))))))))
noncomputable def kl:List D -> Option O:=fnO 6 dJ
noncomputable def dS:List D -> Option D:=fun ds=>(kl ds).map O.d
noncomputable def bB:XS:=aH (br (xL (bQ [none,none,none,some 1] (xIt (av bD (ab (am 0) aj))) (aO (ak (ag 0) (ak (ag 1) (ak (ag 2) aK)))) cA (aQ (ab (xOp bC (af 0) (xOp dIx (af 3) (xC (.int 1)))) (ab (xOp bC (af 1) (xOp dIx (af 3) (xC (.int 0)))) (ab (xOp bC (af 2) (xOp dIx (af 3) (xC (.int 2)))) aj)))))) (ag 2)) (aH (xIf (xB (xOp (dEq false) (xOp dIx (af 1) (xC (.int 1))) (xOp dIx (af 1) (xC (.int 3))))) (a8 (am 2)) dZ) (a8 (av bD (ab (av fM (ab (av fb (ab (am 2) aj)) (ab (xOp hE (xOp dIx (af 1) (xC (.int 3))) (xOp dIx (af 1) (xC (.int 1)))) aj))) aj))))
noncomputable def bZ:List D -> Option O:=fnO 3 bB
noncomputable def cD:List D -> Option D:=fun ds=>(bZ ds).map O.d
noncomputable def cB:XS:=aH (br (av bn (ab (xL (bQ [none,none,some 1] (xIt (af 0)) (aO (ak (ag 0) (ak (ag 1) aK))) cA (aQ (ab (xOp hE (af 0) (xOp dIx (af 2) (xC (.int 1)))) (ab (av gi (ab (am 1) (ab (xOp dIx (af 2) (xC (.int 0))) (ab (xOp dIx (af 2) (xC (.int 2))) aj)))) aj))))) aj)) (ag 2)) (a8 (av fL (ab (am 2) (ab (xOp hE (xOp dIx (af 1) (xC (.int 3))) (xOp dIx (af 1) (xC (.int 1)))) aj))))
noncomputable def dB:List D -> Option O:=fnO 3 cB
noncomputable def cE:List D -> Option D:=fun ds=>(dB ds).map O.d
noncomputable def dH:XS:=aH (br (av dS (ab (av aZ (ab (am 0) (ab (xC (.int 1)) aj))) (ab (am 1) aj))) (ag 2)) (aH (xIf (xB (xOp (dEq false) (xOp eD (xOp eW (av aZ (ab (am 0) (ab (xC (.int 0)) aj))) (xC (.int 3))) (xC (.int 3))) (xC (.int 1)))) (a8 (qD "Sum" "parts" Ai (ab (am 2) (ab (av dS (ab (av aZ (ab (am 0) (ab (xC (.int 2)) aj))) (ab (am 1) aj))) aj)))) dZ) (a8 (am 2)))
noncomputable def ki:List D -> Option O:=fnO 3 dH
noncomputable def iG:List D -> Option D:=fun ds=>(ki ds).map O.d
noncomputable def bX:XS:=BO 2 xPv (av cD (ab (am 0) (ab (am 3) aj)))
noncomputable def cT:XS:=aH (oQ (pW aj) 2) (aH (gq (xIt (am 1)) (ag 3) (bX)) (AS 2 (a8 (av fb (ab (am 2) aj)))))
noncomputable def eG:List D -> Option O:=fnO 4 cT
noncomputable def e9:List D -> Option D:=fun ds=>(eG ds).map O.d
noncomputable def aW:XS:=aH (xIf (xB (xOp (dEq false) (af 2) (aQ aj))) (a8 (aQ aj)) dZ) (br (av nY (ab (am 2) (ab (av cE (ab (av pr (ab (am 0) (ab (av sU (ab (am 2) aj)) (ab (am 3) aj)))) (ab (am 3) aj))) aj))) (ag 2))
noncomputable def bK:XS:=aH (br (av cE (ab (am 0) (ab (xOp dIx (af 1) (xUn dN (xC (.int 1)))) aj))) (ag 2)) (aH (gq (xIt (xSl (af 1) BR (oT (xUn dN (xC (.int 1)))))) (ag 3) (aW)) (a8 (am 2)))
noncomputable def cG:List D -> Option O:=fnO 4 bK
noncomputable def cW:List D -> Option D:=fun ds=>(cG ds).map O.d
noncomputable def b7:XS:=br (av e9 (ab (am 1) (ab (am 2) aj))) (ag 1)
noncomputable def cZ:XS:=aH (gq (vY (ab (nk NS "parts" (am 0)) aj)) (ag 2) (b7)) (a8 (am 1))
noncomputable def jF:List D -> Option O:=fnO 3 cZ
noncomputable def aE:List D -> Option D:=fun ds=>(jF ds).map O.d
noncomputable def b8:XS:=br (av cW (ab (am 1) (ab (am 2) aj))) (ag 1)
noncomputable def c6:XS:=aH (gq (xIt (nk NS "parts" (am 0))) (ag 2) (b8)) (a8 (am 1))
noncomputable def jG:List D -> Option O:=fnO 3 c6
noncomputable def aI:List D -> Option D:=fun ds=>(jG ds).map O.d
noncomputable def dF:XS:=a8 (bx NS "smaller" aI (am 0) (ab (bx NS "greater" aE (am 0) (ab (am 1) aj)) aj))
noncomputable def kg:List D -> Option O:=fnO 2 dF
noncomputable def bR:List D -> Option D:=fun ds=>(kg ds).map O.d
noncomputable def dG:XS:=a8 (bx NS "greater" aE (am 0) (ab (bx NS "smaller" aI (am 0) (ab (am 1) aj)) aj))
noncomputable def kh:List D -> Option O:=fnO 2 dG
noncomputable def bS:List D -> Option D:=fun ds=>(kh ds).map O.d
noncomputable def kI:XS:=BS (xLT (pW (ab (bx NS "smaller" aI (am 0) (ab (am 1) aj)) (ab (bx NS "greater" aE (am 0) (ab (am 1) aj)) (ab (bx NS "opened" bS (am 0) (ab (am 1) aj)) (ab (bx NS "closed" bR (am 0) (ab (am 1) aj)) aj))))))
noncomputable def yw:List D -> Option O:=fnO 2 kI
noncomputable def wD:List D -> Option D:=fun ds=>(yw ds).map O.d
noncomputable def v8:XS:=xIf (xh (uk (xCB wj (ab (af 7) (ab (xC (.ty "tuple")) aj))))) (a8 (xC (.bl false))) dZ
noncomputable def wa:XS:=xIf (xh (uk (av i7 (ab (xOp dIx (af 6) (af 9)) (ab (xOp dIx (af 8) (af 9)) aj))))) (a8 (xC (.bl false))) dZ
noncomputable def xx:XS:=aH (br (xOp dIx (xL (pW (ab (xC (.int 1)) (ab (xC (.int 1)) (ab (xOp bC (xOp Go (xC (.int 10)) (xC (.int 40))) (xC (.int 7))) aj))))) (xOp eD (av aZ (ab (am 0) (ab (xC (.int 0)) aj))) (xC (.int 3)))) (ag 1)) (aH (br (xL (bQ [none,some 1] (xIt (xSl (af 0) (oT (xC (.int 3))) (oT (xC (.int 19))))) (ag 0) cA (av ft (ab (am 0) (ab (am 1) aj))))) (ag 2)) (aH (xIf (xB (xOp (dEq false) (xOp eD (xOp eW (av aZ (ab (am 0) (ab (xC (.int 0)) aj))) (xC (.int 9))) (xC (.int 2))) (xC (.int 1)))) (br (xOp bC (af 2) (xL (bQ [none,some 1] (xi (ab (xUn dN (xC (.int 2))) (ab (xC (.int 2)) aj))) (ag 0) cA (aQ (ab (am 0) (ab (xOp df (xUn dN (xC (.int 9))) (af 1)) (ab (xOp df (xC (.int 9)) (af 1)) aj))))))) (ag 2)) dZ) (aH (br (av gK (ab (am 2) aj)) (ag 3)) (aH (br (av gK (ab (xOp bC (af 2) (xL (bQ [none,some 1] (xIt (xSl (af 0) (oT (xC (.int 3))) (oT (xC (.int 7))))) (ag 0) cA (av ft (ab (xOp bC (xOp eW (af 0) (xC (.int 3))) (xC (.int 5))) (ab (am 1) aj)))))) aj)) (ag 4)) (aH (br (av iG (ab (am 0) (ab (am 1) aj))) (ag 5)) (aH (xIf (xh (uk (BP an_Form (am 5)))) (a8 (xC (.bl false))) dZ) (aH (br (av wD (ab (am 5) (ab (am 3) aj))) (ag 6)) (aH (gq (xIt (am 6)) (ag 7) (v8)) (aH (xIf (xOr (xB (xOp (dEq true) (xOp dIx (af 6) (xC (.int 2))) (bx NS "greater" aE (am 5) (ab (xOp dIx (af 6) (xC (.int 0))) aj)))) (xB (xOp (dEq true) (xOp dIx (af 6) (xC (.int 3))) (bx NS "smaller" aI (am 5) (ab (xOp dIx (af 6) (xC (.int 1))) aj))))) (a8 (xC (.bl false))) dZ) (aH (xIf (xOr (xh (uk (av i7 (ab (xOp dIx (af 6) (xC (.int 2))) (ab (am 3) aj))))) (xh (uk (av i7 (ab (am 3) (ab (xOp dIx (af 6) (xC (.int 3))) aj)))))) (a8 (xC (.bl false))) dZ) (aH (xIf (xOr (xB (xOp (dEq true) (bx NS "opened" bS (am 5) (ab (xOp dIx (af 6) (xC (.int 2))) aj)) (xOp dIx (af 6) (xC (.int 2))))) (xB (xOp (dEq true) (bx NS "closed" bR (am 5) (ab (xOp dIx (af 6) (xC (.int 3))) aj)) (xOp dIx (af 6) (xC (.int 3)))))) (a8 (xC (.bl false))) dZ) (aH (br (av wD (ab (am 5) (ab (am 4) aj))) (ag 8)) (aH (gq (xi (ab (xC (.int 4)) aj)) (ag 9) (wa)) (a8 (F4 (xOp (dEq false) (bx NS "opened" bS (am 5) (ab (aQ aj) aj)) (aQ aj)) (xOp (dEq false) (bx NS "closed" bR (am 5) (ab (aQ aj) aj)) (aQ aj)))))))))))))))))
noncomputable def EN:List D -> Option O:=fnO 10 xx
noncomputable def K5:List D -> Option D:=fun ds=>(EN ds).map O.d
local macro_rules | `(tactic| and_intros)=>`(tactic| repeat' first | (with_reducible first | refine' JU (N := "Form") ?_ | exact Ir | exact KH | exact KI | exact Iu | exact Iv | exact Iw | exact Iy | exact DT | exact KJ | exact Gi | exact IR _ | exact KR | exact Jf | exact K9 _ | exact HZ | exact Ls | exact Lu _ | exact MI | exact He | exact MJ | exact ML | exact JK | exact Lv | exact Lx | exact yQ | exact Ly | exact Lz | exact JY | exact FD | exact J5 _ | exact qB _ | exact gX _ | exact J9 _ | exact LY | exact fW | exact FO | exact Ke | exact Kf | apply SE.t | apply SF.e | apply SF.t | apply SQ.fl | apply STr.e | apply IQ | apply KS | apply KZ | apply IV | apply IW | apply K0 | apply IX | apply GM | apply MG | apply LH | apply JN | apply JO | apply LJ | apply JP | apply LK | apply LL | apply LM | apply LN | apply JR | apply JS | apply FB | apply LP | apply LQ | apply JT | apply MO | apply LS | apply JV | apply LU | apply FE | apply LV | apply MP | apply JZ | apply J2 | apply LW | apply J4 | apply LX | apply J6 | apply MQ | apply wT | apply J7 | apply l7 | apply J8 | apply FF | apply Hg | apply ba | apply oG | apply Hn | apply Ho | apply SE.p | apply SPk.q | apply SI.p) | exact s_c rfl | apply sO | exact fun _ _ h=>wC h | refine' AA (E:=E0) ?_ ?_ | refine' JX (Ns:=NS) ?_ ?_ ?_ | refine' JW (Ns:=NS) ?_ ?_ ?_ | exact List.Mem.head _ | exact List.Mem.tail _ (List.Mem.head _) | decide +kernel)
noncomputable abbrev je (K:W.Frag):Sp:=jJ K NS "parts" 1 Eo
noncomputable abbrev y8 (K:W.Frag):Sp:=bW K 2 im
noncomputable abbrev yM (K:W.Frag):{ t:TS // SS K t gE }:=⟨_,by delta gE;and_intros⟩
noncomputable abbrev y9 (K:W.Frag):Sp:=bW K 1 kj
noncomputable abbrev yN (K:W.Frag):{ t:TS // SS K t jh }:=⟨_,by delta jh bJ;and_intros⟩
noncomputable abbrev AH (K:W.Frag):Sp:=bW K 2 mH
noncomputable abbrev As (K:W.Frag):{ t:TS // SS K t kJ }:=⟨_,by delta kJ;and_intros⟩
noncomputable abbrev AI (K:W.Frag):Sp:=bW K 2 s9
noncomputable abbrev Au (K:W.Frag):{ t:TS // SS K t iR }:=⟨_,by delta iR fN hW;and_intros⟩
noncomputable abbrev Dj (K:W.Frag):Sp:=bW K 1 pD
noncomputable abbrev C7 (K:W.Frag):{ t:TS // SS K t nD }:=⟨_,by delta nD;and_intros⟩
noncomputable abbrev ua (K:W.Frag):Sp:=bW K 2 gM
noncomputable abbrev tP (K:W.Frag):{ t:TS // SS K t fG }:=⟨_,by delta fG cH cI;and_intros⟩
noncomputable abbrev rg (K:W.Frag):Sp:=bW K 1 fU
noncomputable abbrev qZ (K:W.Frag):{ t:TS // SS K t eS }:=⟨_,by delta eS;and_intros⟩
noncomputable abbrev uM (K:W.Frag):Sp:=bW K 2 iJ
noncomputable abbrev uI (K:W.Frag):{ t:TS // SS K t fZ }:=⟨_,by delta fZ bA b9;and_intros⟩
noncomputable abbrev wY (K:W.Frag):Sp:=bW K 2 jq
noncomputable abbrev wP (K:W.Frag):{ t:TS // SS K t ie }:=⟨_,by delta ie;and_intros⟩
noncomputable abbrev Dp (K:W.Frag):Sp:=bW K 1 pF
noncomputable abbrev Da (K:W.Frag):{ t:TS // SS K t nG }:=⟨_,by delta nG eA;and_intros⟩
noncomputable abbrev m8 (K:W.Frag):Sp:=bW K 1 eI
noncomputable abbrev mS (K:W.Frag):{ t:TS // SS K t cU }:=⟨_,by delta cU;and_intros⟩
noncomputable abbrev rh (K:W.Frag):Sp:=bW K 1 ez
noncomputable abbrev q9 (K:W.Frag):{ t:TS // SS K t eT }:=⟨_,by delta eT dq;and_intros⟩
noncomputable abbrev jK (K:W.Frag):Sp:=jJ K NS "parts" 4 wF
noncomputable abbrev iu (K:W.Frag):Sp:=jJ K NS "parts" 1 n4
noncomputable abbrev jN (K:W.Frag):Sp:=jJ K NS "parts" 2 Ai
noncomputable abbrev pQ (K:W.Frag):Sp:=bW K 3 fx
noncomputable abbrev pK (K:W.Frag):{ t:TS // SS K t d9 }:=⟨_,by delta d9;and_intros⟩
noncomputable abbrev wW (K:W.Frag):Sp:=bW K 1 jn
noncomputable abbrev wO (K:W.Frag):{ t:TS // SS K t ic }:=⟨_,by delta ic bu;and_intros⟩
noncomputable abbrev FN (K:W.Frag):Sp:=bW K 3 tf
noncomputable abbrev Ff (K:W.Frag):{ t:TS // SS K t rn }:=⟨_,by delta rn;and_intros⟩
noncomputable abbrev uL (K:W.Frag):Sp:=bW K 1 iI
noncomputable abbrev uH (K:W.Frag):{ t:TS // SS K t fY }:=⟨_,by delta fY bz;and_intros⟩
noncomputable abbrev Dm (K:W.Frag):Sp:=bW K 2 ja
noncomputable abbrev C9 (K:W.Frag):{ t:TS // SS K t iT }:=⟨_,by delta iT;and_intros⟩
noncomputable abbrev uN (K:W.Frag):Sp:=bW K 3 iK
noncomputable abbrev uJ (K:W.Frag):{ t:TS // SS K t f7 }:=⟨_,by delta f7;and_intros⟩
noncomputable abbrev iw (K:W.Frag):Sp:=jJ K NS "parts" 1 n5
noncomputable abbrev Dk (K:W.Frag):Sp:=bW K 2 pE
noncomputable abbrev C8 (K:W.Frag):{ t:TS // SS K t nF }:=⟨_,by delta nF;and_intros⟩
noncomputable abbrev Hm (K:W.Frag):Sp:=bW K 2 wG
noncomputable abbrev G6 (K:W.Frag):{ t:TS // SS K t wf }:=⟨_,by delta wf;and_intros⟩
noncomputable abbrev AJ (K:W.Frag):Sp:=bW K 3 mI
noncomputable abbrev Av (K:W.Frag):{ t:TS // SS K t kL }:=⟨_,by delta kL;and_intros⟩
noncomputable abbrev ub (K:W.Frag):Sp:=bW K 2 gN
noncomputable abbrev tQ (K:W.Frag):{ t:TS // SS K t fH }:=⟨_,by delta fH d7 cJ;and_intros⟩
noncomputable abbrev uc (K:W.Frag):Sp:=bW K 2 gO
noncomputable abbrev tR (K:W.Frag):{ t:TS // SS K t fI }:=⟨_,by delta fI d8 cK;and_intros⟩
noncomputable abbrev t9 (K:W.Frag):Sp:=bW K 2 kl
noncomputable abbrev tO (K:W.Frag):{ t:TS // SS K t dJ }:=⟨_,by delta dJ d6;and_intros⟩
noncomputable abbrev lu (K:W.Frag):Sp:=bW K 2 bZ
noncomputable abbrev ll (K:W.Frag):{ t:TS // SS K t bB }:=⟨_,by delta bB;and_intros⟩
noncomputable abbrev lv (K:W.Frag):Sp:=bW K 2 dB
noncomputable abbrev ln (K:W.Frag):{ t:TS // SS K t cB }:=⟨_,by delta cB;and_intros⟩
noncomputable abbrev t8 (K:W.Frag):Sp:=bW K 2 ki
noncomputable abbrev tN (K:W.Frag):{ t:TS // SS K t dH }:=⟨_,by delta dH;and_intros⟩
noncomputable abbrev m7 (K:W.Frag):Sp:=bW K 2 eG
noncomputable abbrev mR (K:W.Frag):{ t:TS // SS K t cT }:=⟨_,by delta cT bX;and_intros⟩
noncomputable abbrev m9 (K:W.Frag):Sp:=bW K 2 cG
noncomputable abbrev mU (K:W.Frag):{ t:TS // SS K t bK }:=⟨_,by delta bK aW;and_intros⟩
noncomputable abbrev jL (K:W.Frag):Sp:=bW K 2 jF
noncomputable abbrev qX (K:W.Frag):{ t:TS // SS K t cZ }:=⟨_,by delta cZ b7;and_intros⟩
noncomputable abbrev jM (K:W.Frag):Sp:=bW K 2 jG
noncomputable abbrev qY (K:W.Frag):{ t:TS // SS K t c6 }:=⟨_,by delta c6 b8;and_intros⟩
noncomputable abbrev kA (K:W.Frag):Sp:=bW K 2 kg
noncomputable abbrev tK (K:W.Frag):{ t:TS // SS K t dF }:=⟨_,by delta dF;and_intros⟩
noncomputable abbrev kB (K:W.Frag):Sp:=bW K 2 kh
noncomputable abbrev tL (K:W.Frag):{ t:TS // SS K t dG }:=⟨_,by delta dG;and_intros⟩
noncomputable abbrev FM (K:W.Frag):Sp:=bW K 2 yw
noncomputable abbrev Fe (K:W.Frag):{ t:TS // SS K t kI }:=⟨_,by delta kI;and_intros⟩
noncomputable abbrev wX (K:W.Frag):Sp:=bW K 1 EN
noncomputable abbrev JA (K:W.Frag):{ t:TS // SS K t xx }:=⟨_,by delta xx wa v8;and_intros⟩
end P
namespace P
open PySem L2 M Rw
noncomputable def uB (p:Int × Int):List Int:=[p.1,p.2]
theorem yf:∀ r:R,keys (r.map prD) = some (r.map uB)
 | []=>rfl
 | p :: r=>by
  rw [List.map_cons,keys,yf r]
  rfl
theorem Et:∀ {r:R},r ≠ [] -> bh (r.map prD) = none
 | [],h=>absurd rfl h
 | p :: r,_=>rfl
noncomputable def Bw:List Int -> Int × Int
 | [a,b]=>(a,b)
 | _=>(0,0)
noncomputable def l9 (ps:R):R:=(gY (ps.map uB)).map Bw
theorem t7 (ps:R):(l9 ps).map uB = gY (ps.map uB):=by
 unfold l9
 rw [List.map_map]
 have h:∀ k ∈ gY (ps.map uB),(uB ∘ Bw) k = k:=fun k hk=>by
  have:=(gZ _).mem_iff.mp hk
  obtain ⟨p,_,rfl⟩:=List.mem_map.mp this
  rfl
 rw [List.map_congr_left h,List.map_id']
theorem g7 (ps:R):(l9 ps).Perm ps:=by
 have h:=(gZ (ps.map uB)).map Bw
 rw [List.map_map] at h
 have e:(Bw ∘ uB) = id:=rfl
 rw [e,List.map_id] at h
 exact h
theorem FL (ps:R):(l9 ps).Pairwise fun p q=>p.1 <= q.1:=by
 have h:=oE (ps.map uB)
 rw [<- t7,List.pairwise_map] at h
 refine h.imp fun {p q} e=>?_
 have e':(if q.1 = p.1 then HT.bN [q.2] [p.2] else decide (q.1 < p.1)) = false:=e
 by_cases hq:q.1 = p.1
 ·lia
 ·rw [if_neg hq] at e'
  have:=of_decide_eq_false e'
  lia
theorem xG (ps:R) (h:ps.length < 15000000):ii [Ab ps] = some ((l9 ps).map prD):=by
 show (if (ps.map prD).length < 15000000 then _ else _) = _
 rw [if_pos (by rw [List.length_map];exact h)]
 by_cases e:ps = []
 ·subst e
  have e0:l9 [] = []:=List.length_eq_zero_iff.mp (by rw [(g7 []).length_eq];rfl)
  have e1:qC [] = []:=List.length_eq_zero_iff.mp (by rw [(mZ []).length_eq];rfl)
  show some ((qC []).map D.int) = _
  rw [e0,e1]
  rfl
 ·rw [Et e]
  dsimp only
  rw [yf]
  have:(l9 ps).map prD = (gY (ps.map uB)).map uP:=by
   rw [<- t7,List.map_map]
   rfl
  rw [this]
  rfl
noncomputable def o9 (p:Int × Int):Bool:=decide (p.1 <= p.2)
noncomputable def ko (ps:R):R:=lP (l9 (ps.filter o9))
theorem eM (ps:R):IsRow ps (ko ps):=by
 refine EM ?_ (FL _) fun x=>?_
 ·intro p hp
  have:=(g7 _).mem_iff.mp hp
  simpa [o9] using (List.mem_filter.mp this).2
 ·rw [EI (g7 _)]
  exact mem_filter ps x
theorem zb (acc:R) (p:Int × Int):(step acc p).length <= acc.length + 1:=by
 rcases List.eq_nil_or_concat acc with rfl | ⟨t,q,rfl⟩
 ·simp [Rw.step]
 ·rw [List.concat_eq_append,gv]
  split <;> simp
theorem pB:∀ (l acc:R),(l.foldl step acc).length <= acc.length + l.length
 | [],acc=>by simp
 | p :: l,acc=>by
  have h1:=pB l (step acc p)
  have h2:=zb acc p
  rw [List.foldl_cons,List.length_cons]
  lia
theorem vM (ps:R):(ko ps).length <= ps.length:=by
 have h1:=pB (l9 (ps.filter o9)) []
 have h2:=(g7 (ps.filter o9)).length_eq
 have h3:=List.length_filter_le o9 ps
 unfold ko lP
 simp only [List.length_nil] at h1
 lia
theorem az {n:Nat} (h:n <= 15500000):n <= LIM:=Nat.le_trans h (by rw [fk];decide)
theorem gd {n:Nat} (h:n <= 15500000):n < LIM:=Nat.lt_of_le_of_lt h (by rw [fk];decide)
theorem FY (a b:Int):D.tup [.int a,.int b] = prD (a,b):=rfl
theorem vj:∀ ps:R,ps.filterMap (fun p=>if p.1 <= p.2 then some (prD p) else none) = (ps.filter o9).map prD
 | []=>rfl
 | p :: t=>by
  rw [List.filterMap_cons,List.filter_cons,vj t]
  by_cases h:p.1 <= p.2
  ·simp [o9,h]
  ·simp [o9,h]
theorem Ch (ps:R):bm (aO (ak (ag 0) (ak (ag 1) aK))) (xB (xOp dLe (af 0) (af 1))) (aQ (ab (am 0) (ab (am 1) aj))) [.un,.un] (ps.map prD) = some ((ps.filter o9).map prD):=by
 rw [fO prD (fun p=>if p.1 <= p.2 then some (prD p) else none) ps,vj]
 intro p _
 by_cases h:p.1 <= p.2 <;> simp [dD,h]
theorem Ah (pre:R) (p:Int × Int):lP (pre ++ [p]) = step (lP pre) p:=by
 unfold lP
 rw [List.foldl_append]
 rfl
theorem EL (pre:R):(lP pre).length <= pre.length:=by
 have:=pB pre []
 unfold lP
 simpa using this
theorem gu {α:Type} {l:List α} {i:Nat} {x:α} (h:l[i]? = some x):l.drop i = x :: l.drop (i + 1):=by
 obtain ⟨h1,rfl⟩:=List.getElem?_eq_some_iff.mp h
 exact List.drop_eq_getElem_cons h1
theorem HE {r:R} {i:Nat} {p:Int × Int} (h:r[i]? = some p):atI (r.map prD) (i:Int) = some (prD p):=ji (by rw [List.getElem?_map,h];rfl)
theorem Cg (p q:Int × Int) (s t:R):c9 (p :: s) (q :: t) = (if max p.1 q.1 <= min p.2 q.2 then [(max p.1 q.1,min p.2 q.2)] else []) ++ (if p.2 < q.2 then c9 s (q :: t) else c9 (p :: s) t):=by rw [c9]
theorem mx (a b:Int):(if b > a then b else a) = max a b:=by split <;> lia
theorem mn (a b:Int):(if b < a then b else a) = min a b:=by split <;> lia
theorem pj {r t:R} (cr:aV r) (ct:aV t):Ig r t (c9 r t):=⟨zF _ r t rfl cr ct,fun x=>D0 _ r t rfl cr ct x⟩
theorem Er (n:Nat):dQ 0 n = (List.range n).map fun k:Nat=>D.int (k:Int):=by
 apply List.ext_getElem?
 intro i
 cases q:(dQ 0 n)[i]? with
 | none=>
  have:=List.getElem?_eq_none_iff.mp q
  rw [pi] at this
  rw [List.getElem?_eq_none (by rw [List.length_map,List.length_range];exact this)]
 | some d=>
  obtain ⟨h1,rfl⟩:=pe n 0 i d q
  rw [List.getElem?_map,List.getElem?_range h1]
  simp
theorem kO {α β:Type} (f:α -> β) (xs:List α) (lo hi:Option Int):eB (xs.map f) lo hi = (eB xs lo hi).map f:=by
 unfold eB
 rw [List.length_map,<- List.map_drop,<- List.map_take]
theorem A7 {α:Type} (xs:List α) (lo hi:Option Int):(eB xs lo hi).length <= HT.sIx xs.length xs.length hi - HT.sIx xs.length 0 lo:=by
 unfold eB
 rw [List.length_take]
 lia
theorem aR {m n:XS} {ρ ρ':M.Env} (h:m ρ = some (.nx ρ')):aH m n ρ = n ρ':=by unfold aH;rw [h]
theorem p9 {n:Nat} {x:XS} {ds:List D} {d:D} (h:x (ds.map .sh ++ List.replicate (n - ds.length) .un) = some (.rt d)):(fnO n x ds).map O.d = some d:=by unfold fnO;rw [h];simp
theorem kU {n d:Nat} {v:Int} (h:0 <= v):HT.sIx n d (some v) = min v.toNat n:=by
 show (if v < 0 then _ else _) = _
 rw [if_neg (by lia)]
theorem yU (s0:Sl) (acc:R) (a b:Int) (h:acc.length <= 15000000):eA [s0,owl (acc.map prD),.sh (.int a),.sh (.int b)] = some (.nx [s0,owl ((step acc (a,b)).map prD),.sh (.int a),.sh (.int b)]):=by
 rcases List.eq_nil_or_concat acc with rfl | ⟨t,q,rfl⟩
 ·simp [eA,Rw.step,prD]
 ·rw [List.concat_eq_append] at *
  rw [gv]
  have hl:t.length + 1 <= 15000000:=by simpa using h
  have hlim:t.length + 1 < LIM:=gd (by lia)
  have at1:atI (t.map prD ++ [prD q]) (-1) = some (prD q):=iU _ _
  by_cases hc:a <= q.2 + 1
  ·simp [eA,at1,hc,sJ,FY]
  ·simp [eA,at1,hc,hlim,FY]
theorem qA (ps:R) (h:ps.length < 15000000):kc [Ab ps] = some (a9 (ko ps)):=by
 have hf:=List.length_filter_le o9 ps
 have hs:=(g7 (ps.filter o9)).length_eq
 have key:∃ ρ',e8 (aO (ak (ag 2) (ak (ag 3) aK))) eA ((l9 (ps.filter o9)).map prD) [.sh (Ab ps),.ow (.lst []),.un,.un] = some (.nx ρ') /\ ∃ va vb,ρ' = [.sh (Ab ps),owl ((ko ps).map prD),va,vb]:=by
  refine cj prD (fun pre ρ=>∃ va vb,ρ = [.sh (Ab ps),owl ((lP pre).map prD),va,vb]) _ _ ⟨_,_,rfl⟩ ?_
  rintro pre p post _ e ⟨va,vb,rfl⟩
  have hp:pre.length <= 15000000:=by
   have:=congrArg List.length e
   rw [List.length_append] at this
   lia
  refine ⟨_,_,rfl,.inl (yU _ (lP pre) p.1 p.2 (by have:=EL pre;lia)),.sh (.int p.1),.sh (.int p.2),by rw [Ah]⟩
 obtain ⟨ρ',k1,va,vb,rfl⟩:=key
 have hc:=Ch ps
 have hb:=xG (ps.filter o9) (by lia)
 have hl:ps.length <= LIM:=az (by lia)
 simp [kc,pF,fnO,nG,hl,hc,hb,k1]
noncomputable abbrev Tri:=Int × Int × Int
noncomputable abbrev aC (t:Tri):D:=.tup [.int t.1,.int t.2.1,.int t.2.2]
noncomputable abbrev Pic:=List (Int × R)
noncomputable abbrev pyD (q:Int × R):D:=.tup [.int q.1,a9 q.2]
noncomputable abbrev ah (p:Pic):D:=.tup (p.map pyD)
def iB (ts:List Tri) (x y:Int):Prop:=∃ t ∈ ts,t.1 = y /\ t.2.1 <= x /\ x <= t.2.2
def aw (p:Pic) (x y:Int):Prop:=∃ q ∈ p,q.1 = y /\ Mem q.2 x
def ao (p:Pic):Prop:=(∀ q ∈ p,aV q.2 /\ q.2 ≠ []) /\ p.Pairwise fun a b=>a.1 < b.1
theorem bi (x y:Int):¬ aw [] x y:=by rintro ⟨_,h,_⟩;cases h
theorem a6 (q:Int × R) (p:Pic) (x y:Int):aw (q :: p) x y ↔ (q.1 = y /\ Mem q.2 x) \/ aw p x y:=by
 constructor
 ·rintro ⟨s,h,e⟩
  rcases List.mem_cons.mp h with rfl | h
  ·exact .inl e
  ·exact .inr ⟨s,h,e⟩
 ·rintro (e | ⟨s,h,e⟩)
  ·exact ⟨q,List.mem_cons_self,e⟩
  ·exact ⟨s,List.mem_cons_of_mem _ h,e⟩
theorem eN (p q:Pic) (x y:Int):aw (p ++ q) x y ↔ aw p x y \/ aw q x y:=by
 constructor
 ·rintro ⟨s,h,e⟩
  rcases List.mem_append.mp h with h | h
  ·exact .inl ⟨s,h,e⟩
  ·exact .inr ⟨s,h,e⟩
 ·rintro (⟨s,h,e⟩ | ⟨s,h,e⟩)
  ·exact ⟨s,List.mem_append_left _ h,e⟩
  ·exact ⟨s,List.mem_append_right _ h,e⟩
theorem pT (t:Tri) (ts:List Tri) (x y:Int):iB (t :: ts) x y ↔ (t.1 = y /\ t.2.1 <= x /\ x <= t.2.2) \/ iB ts x y:=by
 constructor
 ·rintro ⟨s,h,e⟩
  rcases List.mem_cons.mp h with rfl | h
  ·exact .inl e
  ·exact .inr ⟨s,h,e⟩
 ·rintro (e | ⟨s,h,e⟩)
  ·exact ⟨t,List.mem_cons_self,e⟩
  ·exact ⟨s,List.mem_cons_of_mem _ h,e⟩
theorem eO (a b:List Tri) (x y:Int):iB (a ++ b) x y ↔ iB a x y \/ iB b x y:=by
 constructor
 ·rintro ⟨s,h,e⟩
  rcases List.mem_append.mp h with h | h
  ·exact .inl ⟨s,h,e⟩
  ·exact .inr ⟨s,h,e⟩
 ·rintro (⟨s,h,e⟩ | ⟨s,h,e⟩)
  ·exact ⟨s,List.mem_append_left _ h,e⟩
  ·exact ⟨s,List.mem_append_right _ h,e⟩
theorem vS {a b:List Tri} (h:a.Perm b) (x y:Int):iB a x y ↔ iB b x y:=
 ⟨fun ⟨q,m,e⟩=>⟨q,h.mem_iff.mp m,e⟩,fun ⟨q,m,e⟩=>⟨q,h.mem_iff.mpr m,e⟩⟩
theorem gP:ao []:=⟨fun _ h=>(by cases h),.nil⟩
theorem pcanon_cons {q:Int × R} {p:Pic}:ao (q :: p) ↔ (aV q.2 /\ q.2 ≠ []) /\ (∀ s ∈ p,q.1 < s.1) /\ ao p:=by
 constructor
 ·rintro ⟨h1,h2⟩
  have h3:=List.pairwise_cons.mp h2
  exact ⟨h1 q List.mem_cons_self,h3.1,fun s hs=>h1 s (List.mem_cons_of_mem _ hs),h3.2⟩
 ·rintro ⟨h1,h2,h3,h4⟩
  refine ⟨fun s hs=>?_,List.pairwise_cons.mpr ⟨h2,h4⟩⟩
  rcases List.mem_cons.mp hs with rfl | hs
  ·exact h1
  ·exact h3 s hs
theorem ij {r:R} (c:aV r) (h:r ≠ []):∃ x,Mem r x:=by
 cases r with
 | nil=>exact absurd rfl h
 | cons p r=>exact ⟨p.1,(mem_cons ..).mpr (.inl ⟨Int.le_refl _,(canon_cons.mp c).1⟩)⟩
theorem ox:∀ {p q:Pic},ao p -> ao q -> (∀ x y,aw p x y ↔ aw q x y) -> p = q
 | [],[],_,_,_=>rfl
 | [],b :: q,_,cq,h=>by
  obtain ⟨⟨c1,c2⟩,_⟩:=pcanon_cons.mp cq
  obtain ⟨x,hx⟩:=ij c1 c2
  exact (bi _ _ ((h x b.1).mpr ((a6 ..).mpr (.inl ⟨rfl,hx⟩)))).elim
 | a :: p,[],cp,_,h=>by
  obtain ⟨⟨c1,c2⟩,_⟩:=pcanon_cons.mp cp
  obtain ⟨x,hx⟩:=ij c1 c2
  exact (bi _ _ ((h x a.1).mp ((a6 ..).mpr (.inl ⟨rfl,hx⟩)))).elim
 | a :: p,b :: q,cp,cq,h=>by
  obtain ⟨⟨ca,na⟩,la,cp'⟩:=pcanon_cons.mp cp
  obtain ⟨⟨cb,nb⟩,lb,cq'⟩:=pcanon_cons.mp cq
  obtain ⟨xa,ha⟩:=ij ca na
  obtain ⟨xb,hb⟩:=ij cb nb
  have ey:a.1 = b.1:=by
   have h1:b.1 <= a.1:=by
    rcases (a6 ..).mp ((h xa a.1).mp ((a6 ..).mpr (.inl ⟨rfl,ha⟩))) with ⟨e,_⟩ | ⟨s,hs,e,_⟩
    ·lia
    ·have:=lb s hs;lia
   have h2:a.1 <= b.1:=by
    rcases (a6 ..).mp ((h xb b.1).mpr ((a6 ..).mpr (.inl ⟨rfl,hb⟩))) with ⟨e,_⟩ | ⟨s,hs,e,_⟩
    ·lia
    ·have:=la s hs;lia
   lia
  have er:a.2 = b.2:=AO ca cb fun x=>by
   have hx:=h x a.1
   rw [a6,a6] at hx
   have n1:¬ aw p x a.1:=by rintro ⟨s,hs,e,_⟩;have:=la s hs;lia
   have n2:¬ aw q x a.1:=by rintro ⟨s,hs,e,_⟩;have:=lb s hs;lia
   constructor
   ·intro hm
    rcases hx.mp (.inl ⟨rfl,hm⟩) with z | z
    ·exact z.2
    ·exact absurd z n2
   ·intro hm
    rcases hx.mpr (.inl ⟨ey.symm,hm⟩) with z | z
    ·exact z.2
    ·exact absurd z n1
  have eab:a = b:=by
   obtain ⟨a1,a2⟩:=a
   obtain ⟨b1,b2⟩:=b
   simp only at ey er
   rw [ey,er]
  subst eab
  have ih:p = q:=ox cp' cq' fun x y=>by
   have hx:=h x y
   rw [a6,a6] at hx
   constructor
   ·intro hm
    rcases hx.mp (.inr hm) with z | z
    ·obtain ⟨s,hs,e,_⟩:=hm;have:=la s hs;lia
    ·exact z
   ·intro hm
    rcases hx.mpr (.inr hm) with z | z
    ·obtain ⟨s,hs,e,_⟩:=hm;have:=lb s hs;lia
    ·exact z
  rw [ih]
noncomputable def sK (t:Tri):List Int:=[t.1,t.2.1,t.2.2]
noncomputable def wI:List Int -> Tri
 | [a,b,c]=>(a,b,c)
 | _=>(0,0,0)
theorem vx:∀ r:List Tri,keys (r.map aC) = some (r.map sK)
 | []=>rfl
 | p :: r=>by rw [List.map_cons,keys,vx r];rfl
theorem Cz:∀ {r:List Tri},r ≠ [] -> bh (r.map aC) = none
 | [],h=>absurd rfl h
 | _ :: _,_=>rfl
noncomputable def bw (ts:List Tri):List Tri:=(gY (ts.map sK)).map wI
theorem m6 (ts:List Tri):(bw ts).map sK = gY (ts.map sK):=by
 unfold bw
 rw [List.map_map]
 have h:∀ k ∈ gY (ts.map sK),(sK ∘ wI) k = k:=fun k hk=>by
  have:=(gZ _).mem_iff.mp hk
  obtain ⟨p,_,rfl⟩:=List.mem_map.mp this
  rfl
 rw [List.map_congr_left h,List.map_id']
theorem bU (ts:List Tri):(bw ts).Perm ts:=by
 have h:=(gZ (ts.map sK)).map wI
 rw [List.map_map] at h
 have e:(wI ∘ sK) = id:=rfl
 rw [e,List.map_id] at h
 exact h
theorem y7 (ts:List Tri):(bw ts).Pairwise fun p q=>p.1 <= q.1:=by
 have h:=oE (ts.map sK)
 rw [<- m6,List.pairwise_map] at h
 refine h.imp fun {p q} e=>?_
 have e':(if q.1 = p.1 then HT.bN [q.2.1,q.2.2] [p.2.1,p.2.2] else decide (q.1 < p.1)) = false:=e
 by_cases hq:q.1 = p.1
 ·lia
 ·rw [if_neg hq] at e'
  have:=of_decide_eq_false e'
  lia
theorem jk (ts:List Tri) (h:ts.length < 15000000):ii [.lst (ts.map aC)] = some ((bw ts).map aC):=by
 show (if (ts.map aC).length < 15000000 then _ else _) = _
 rw [if_pos (by rw [List.length_map];exact h)]
 by_cases e:ts = []
 ·subst e
  have e0:bw [] = []:=List.length_eq_zero_iff.mp (by rw [(bU []).length_eq];rfl)
  have e1:qC [] = []:=List.length_eq_zero_iff.mp (by rw [(mZ []).length_eq];rfl)
  show some ((qC []).map D.int) = _
  rw [e0,e1]
  rfl
 ·rw [Cz e]
  dsimp only
  rw [vx]
  have:(bw ts).map aC = (gY (ts.map sK)).map uP:=by
   rw [<- m6,List.map_map]
   rfl
  rw [this]
  rfl
noncomputable def bg (t:Tri):Bool:=decide (t.2.1 <= t.2.2)
theorem zd (ts:List Tri) (x y:Int):iB (ts.filter bg) x y ↔ iB ts x y:=by
 constructor
 ·rintro ⟨q,m,e⟩
  exact ⟨q,(List.mem_filter.mp m).1,e⟩
 ·rintro ⟨q,m,e⟩
  exact ⟨q,List.mem_filter.mpr ⟨m,by simp [bg];lia⟩,e⟩
theorem sw:∀ ps:List Tri,ps.filterMap (fun p=>if p.2.1 <= p.2.2 then some (aC p) else none) = (ps.filter bg).map aC
 | []=>rfl
 | p :: t=>by
  rw [List.filterMap_cons,List.filter_cons,sw t]
  by_cases h:p.2.1 <= p.2.2
  ·simp [bg,h]
  ·simp [bg,h]
theorem zG (ps:List Tri):bm (aO (ak (ag 0) (ak (ag 1) (ak (ag 2) aK)))) (xB (xOp dLe (af 1) (af 2))) (aQ (ab (am 0) (ab (am 1) (ab (am 2) aj)))) [.un,.un,.un] (ps.map aC) = some ((ps.filter bg).map aC):=by
 rw [fO aC (fun p=>if p.2.1 <= p.2.2 then some (aC p) else none) ps,sw]
 intro p _
 by_cases h:p.2.1 <= p.2.2 <;> simp [dD,h]
noncomputable def jE (gs:Pic) (t:Tri):Pic:=match gs.getLast? with
 | none=>[(t.1,[t.2])]
 | some g=>if g.1 = t.1 then gs.dropLast ++ [(g.1,g.2 ++ [t.2])] else gs ++ [(t.1,[t.2])]
theorem Cs (t:Tri):jE [] t = [(t.1,[t.2])]:=rfl
theorem mE (gs:Pic) (g:Int × R) (t:Tri):jE (gs ++ [g]) t = if g.1 = t.1 then gs ++ [(g.1,g.2 ++ [t.2])] else gs ++ [g] ++ [(t.1,[t.2])]:=by
 unfold jE
 simp
noncomputable def dP (ts:List Tri):Pic:=ts.foldl jE []
theorem sC (pre:List Tri) (t:Tri):dP (pre ++ [t]) = jE (dP pre) t:=by
 unfold dP
 rw [List.foldl_append]
 rfl
structure GOk (gs:Pic) (ts:List Tri):Prop where
 ne:∀ g ∈ gs,g.2 ≠ [] /\ Ok g.2
 up:gs.Pairwise fun a b=>a.1 < b.1
 mem:∀ x y,aw gs x y ↔ iB ts x y
 le:∀ g ∈ gs,∃ t ∈ ts,g.1 = t.1
 len:(gs.map fun g=>g.2.length).sum = ts.length
theorem Eh {gs:Pic} {ts:List Tri} {t:Tri} (o:GOk gs ts) (ht:t.2.1 <= t.2.2) (hb:∀ s ∈ ts,s.1 <= t.1):GOk (jE gs t) (ts ++ [t]):=by
 have tm:∀ x y,iB (ts ++ [t]) x y ↔ iB ts x y \/ (t.1 = y /\ t.2.1 <= x /\ x <= t.2.2):=fun x y=>by
  rw [eO,pT]
  constructor
  ·rintro (h | h | ⟨_,h,_⟩)
   ·exact .inl h
   ·exact .inr h
   ·cases h
  ·rintro (h | h)
   ·exact .inl h
   ·exact .inr (.inl h)
 have okt:Ok [t.2]:=fun p hp=>by rw [List.mem_singleton.mp hp];exact ht
 rcases List.eq_nil_or_concat gs with rfl | ⟨gs0,g,rfl⟩
 ·rw [Cs]
  have e0:ts = []:=List.length_eq_zero_iff.mp (by have:=o.len;simpa using this.symm)
  subst e0
  refine ⟨fun g hg=>?_,List.pairwise_singleton _ _,fun x y=>?_,fun g hg=>⟨t,by simp,by rw [List.mem_singleton.mp hg]⟩,by simp⟩
  ·rw [List.mem_singleton.mp hg];exact ⟨by simp,okt⟩
  ·rw [tm,a6,mem_cons]
   constructor
   ·rintro (⟨h1,h2 | h2⟩ | h)
    ·exact .inr ⟨h1,h2⟩
    ·exact (aY _ h2).elim
    ·exact (bi _ _ h).elim
   ·rintro (⟨_,h,_⟩ | h)
    ·cases h
    ·exact .inl ⟨h.1,.inl h.2⟩
 ·rw [List.concat_eq_append] at *
  have up:=List.pairwise_append.mp o.up
  rw [mE]
  have glast:g.1 <= t.1:=by
   obtain ⟨s,hs,e⟩:=o.le g (by simp)
   have:=hb s hs
   lia
  by_cases h:g.1 = t.1
  ·rw [if_pos h]
   refine ⟨fun q hq=>?_,?_,fun x y=>?_,fun q hq=>?_,?_⟩
   ·rcases List.mem_append.mp hq with hq | hq
    ·exact o.ne q (List.mem_append_left _ hq)
    ·rw [List.mem_singleton.mp hq]
     refine ⟨by simp,fun p hp=>?_⟩
     rcases List.mem_append.mp hp with hp | hp
     ·exact (o.ne g (by simp)).2 p hp
     ·exact okt p hp
   ·refine List.pairwise_append.mpr ⟨up.1,List.pairwise_singleton _ _,fun a ha b hb=>?_⟩
    rw [List.mem_singleton.mp hb]
    exact up.2.2 a ha g (by simp)
   ·rw [tm,<- o.mem,eN,eN,a6,a6]
    dsimp only
    rw [mem_append,mem_cons]
    have n0:=bi x y
    have n1:=aY x
    constructor
    ·rintro (k | ⟨k1,k2 | k2 | k2⟩ | k)
     ·exact .inl (.inl k)
     ·exact .inl (.inr (.inl ⟨k1,k2⟩))
     ·exact .inr ⟨by lia,k2⟩
     ·exact absurd k2 n1
     ·exact absurd k n0
    ·rintro ((k | ⟨k1,k2⟩ | k) | ⟨k1,k2⟩)
     ·exact .inl k
     ·exact .inr (.inl ⟨k1,.inl k2⟩)
     ·exact absurd k n0
     ·exact .inr (.inl ⟨by lia,.inr (.inl k2)⟩)
   ·rcases List.mem_append.mp hq with hq | hq
    ·obtain ⟨s,hs,e⟩:=o.le q (List.mem_append_left _ hq)
     exact ⟨s,List.mem_append_left _ hs,e⟩
    ·rw [List.mem_singleton.mp hq]
     exact ⟨t,by simp,h⟩
   ·have:=o.len
    simp only [List.map_append,List.sum_append,List.map_cons,List.map_nil,List.sum_cons,List.sum_nil,List.length_append,List.length_cons,List.length_nil] at this ⊢
    lia
  ·rw [if_neg h]
   refine ⟨fun q hq=>?_,?_,fun x y=>?_,fun q hq=>?_,?_⟩
   ·rcases List.mem_append.mp hq with hq | hq
    ·exact o.ne q hq
    ·rw [List.mem_singleton.mp hq];exact ⟨by simp,okt⟩
   ·refine List.pairwise_append.mpr ⟨o.up,List.pairwise_singleton _ _,fun a ha b hb'=>?_⟩
    rw [List.mem_singleton.mp hb']
    rcases List.mem_append.mp ha with ha | ha
    ·have:=up.2.2 a ha g (by simp)
     dsimp only
     lia
    ·rw [List.mem_singleton.mp ha];dsimp only;lia
   ·rw [tm,<- o.mem,eN,a6]
    dsimp only
    rw [mem_cons]
    have n0:=bi x y
    have n1:=aY x
    constructor
    ·rintro (k | ⟨k1,k2 | k2⟩ | k)
     ·exact .inl k
     ·exact .inr ⟨k1,k2⟩
     ·exact absurd k2 n1
     ·exact absurd k n0
    ·rintro (k | ⟨k1,k2⟩)
     ·exact .inl k
     ·exact .inr (.inl ⟨k1,.inl k2⟩)
   ·rcases List.mem_append.mp hq with hq | hq
    ·obtain ⟨s,hs,e⟩:=o.le q hq
     exact ⟨s,List.mem_append_left _ hs,e⟩
    ·rw [List.mem_singleton.mp hq]
     exact ⟨t,by simp,rfl⟩
   ·have:=o.len
    simp only [List.map_append,List.sum_append,List.map_cons,List.map_nil,List.sum_cons,List.sum_nil,List.length_append,List.length_cons,List.length_nil] at this ⊢
    lia
theorem yb:∀ (post pre:List Tri),(∀ t ∈ pre ++ post,t.2.1 <= t.2.2) -> (pre ++ post).Pairwise (fun p q=>p.1 <= q.1) -> GOk (dP pre) pre -> GOk (dP (pre ++ post)) (pre ++ post)
 | [],pre,_,_,o=>by rw [List.append_nil];exact o
 | t :: post,pre,h1,h2,o=>by
  have e:pre ++ t :: post = (pre ++ [t]) ++ post:=by simp
  rw [e] at h1 h2 ⊢
  refine yb post (pre ++ [t]) h1 h2 ?_
  rw [sC]
  have h3:=List.pairwise_append.mp h2
  have h4:=List.pairwise_append.mp h3.1
  exact Eh o (h1 t (by simp)) fun s hs=>h4.2.2 s hs t (by simp)
theorem vm {ts:List Tri} (h1:∀ t ∈ ts,t.2.1 <= t.2.2) (h2:ts.Pairwise fun p q=>p.1 <= q.1):GOk (dP ts) ts:=
 yb ts [] h1 h2 ⟨fun _ h=>(by cases h),.nil,fun x y=>⟨fun h=>(bi _ _ h).elim,fun ⟨_,h,_⟩=>by cases h⟩,fun _ h=>(by cases h),rfl⟩
noncomputable def bP (ts:List Tri):Pic:=(dP (bw (ts.filter bg))).map fun g=>(g.1,ko g.2)
theorem kx (ts:List Tri):GOk (dP (bw (ts.filter bg))) (bw (ts.filter bg)):=vm (fun t ht=>by
 have:=(bU _).mem_iff.mp ht
 simpa [bg] using (List.mem_filter.mp this).2) (y7 _)
theorem Fx {ps:R} (h:ps ≠ []) (o:Ok ps):ko ps ≠ []:=fun e=>by
 cases ps with
 | nil=>exact h rfl
 | cons p ps=>
  have:=((eM (p :: ps)).2 p.1).mpr ((mem_cons ..).mpr (.inl ⟨Int.le_refl _,o p List.mem_cons_self⟩))
  rw [e] at this
  exact aY _ this
theorem bE (ts:List Tri):ao (bP ts) /\ ∀ x y,aw (bP ts) x y ↔ iB ts x y:=by
 have o:=kx ts
 refine ⟨⟨fun q hq=>?_,?_⟩,fun x y=>?_⟩
 ·obtain ⟨g,hg,rfl⟩:=List.mem_map.mp hq
  obtain ⟨h1,h2⟩:=o.ne g hg
  exact ⟨(eM g.2).1,Fx h1 h2⟩
 ·unfold bP
  rw [List.pairwise_map]
  exact o.up
 ·rw [<- zd ts,<- vS (bU _),<- o.mem]
  constructor
  ·rintro ⟨q,hq,e,hm⟩
   obtain ⟨g,hg,rfl⟩:=List.mem_map.mp hq
   exact ⟨g,hg,e,((eM g.2).2 x).mp hm⟩
  ·rintro ⟨g,hg,e,hm⟩
   exact ⟨_,List.mem_map.mpr ⟨g,hg,rfl⟩,e,((eM g.2).2 x).mpr hm⟩
noncomputable def ai (p:Pic):List Tri:=p.flatMap fun q=>q.2.map fun s=>(q.1,s)
theorem a7 (q:Int × R) (p:Pic):ai (q :: p) = (q.2.map fun s=>(q.1,s)) ++ ai p:=rfl
theorem g8 (p:Pic) (x y:Int):iB (ai p) x y ↔ aw p x y:=by
 constructor
 ·rintro ⟨t,ht,e,h⟩
  obtain ⟨q,hq,hs⟩:=List.mem_flatMap.mp ht
  obtain ⟨s,hs2,rfl⟩:=List.mem_map.mp hs
  exact ⟨q,hq,e,s,hs2,h⟩
 ·rintro ⟨q,hq,e,s,hs,h⟩
  exact ⟨(q.1,s),List.mem_flatMap.mpr ⟨q,hq,List.mem_map.mpr ⟨s,hs,rfl⟩⟩,e,h⟩
theorem tJ {ts:List Tri} {p:Pic} (c:ao p) (h:∀ x y,iB ts x y ↔ aw p x y):bP ts = p:=
 ox (bE ts).1 c fun x y=>((bE ts).2 x y).trans (h x y)
mutual
theorem xS:∀ (n:Nat) (d:D),okD n d = true -> eqD d d = true
 | _,.non,_=>by simp [eqD]
 | _,.bl _,_=>by simp [eqD]
 | _,.int _,_=>by simp [eqD]
 | _,.str _,_=>by simp [eqD]
 | 0,.lst _,h=>by simp [okD] at h
 | n + 1,.lst l,h=>by rw [eqD];exact eqDs_refl n l (by simpa [okD] using h)
 | 0,.tup _,h=>by simp [okD] at h
 | n + 1,.tup l,h=>by rw [eqD];exact eqDs_refl n l (by simpa [okD] using h)
 | 0,.mtp _,h=>by simp [okD] at h
 | n + 1,.mtp l,h=>by rw [eqD];exact eqDs_refl n l (by simpa [okD] using h)
 | n,.ty _,h=>by cases n <;> simp [okD] at h
 | n,.scr _,h=>by cases n <;> simp [okD] at h
 | n,.ins _ _ _,h=>by cases n <;> simp [okD] at h
 | n,.dic _,h=>by cases n <;> simp [okD] at h
theorem eqDs_refl:∀ (n:Nat) (l:List D),okDs n l = true -> eqDs l l = true
 | _,[],_=>by simp [eqDs]
 | n,d :: l,h=>by
  rw [okDs,Bool.and_eq_true] at h
  rw [eqDs,xS n d h.1,eqDs_refl n l h.2]
  rfl
end
theorem yD {α:Type} {n:Nat} {f:α -> D}:∀ (l:List α),(∀ a ∈ l,okD n (f a) = true) -> okDs n (l.map f) = true
 | [],_=>by simp [okDs]
 | a :: l,h=>by rw [List.map_cons,okDs,h a List.mem_cons_self,yD l fun b hb=>h b (List.mem_cons_of_mem _ hb)];rfl
theorem nK {d:D} (neg:Bool) (h:okD 50 d = true):dEq neg d d = some (.bl (!neg)):=by
 unfold dEq
 rw [if_pos ⟨h,h⟩,xS 50 d h]
 cases neg <;> rfl
theorem n8 (p:Pic):okD 50 (ah p) = true:=by
 rw [okD]
 refine yD p fun q _=>?_
 simp only [okD,okDs]
 rw [tj 46 q.2]
 rfl
noncomputable def grO (g:Int × R):O:=.tup [.sh (.int g.1),.lst (g.2.map (O.sh ∘ prD))]
noncomputable def grD (g:Int × R):D:=.tup [.int g.1,Ab g.2]
theorem KU (g:Int × R):(grO g).d = grD g:=by simp [grO,grD]
theorem Ej:∀ gs:Pic,O.ds (gs.map grO) = gs.map grD
 | []=>by simp
 | g :: gs=>by rw [List.map_cons,B1,KU,Ej gs];rfl
theorem Cr (gs:Pic) (t:Tri):(jE gs t).length <= gs.length + 1:=by
 rcases List.eq_nil_or_concat gs with rfl | ⟨gs0,g,rfl⟩
 ·simp [jE]
 ·rw [List.concat_eq_append,mE]
  split <;> simp
theorem vk:∀ ts:List Tri,(dP ts).length <= ts.length:=by
 intro ts
 have key:∀ (l:List Tri) (gs:Pic),(l.foldl jE gs).length <= gs.length + l.length:=by
  intro l
  induction l with
  | nil=>intro gs;simp
  | cons t l ih=>
   intro gs
   have h1:=ih (jE gs t)
   have h2:=Cr gs t
   rw [List.foldl_cons,List.length_cons]
   lia
 have:=key ts []
 unfold dP
 simpa using this
theorem wN (s0:Sl) (gs:Pic) (t:Tri) (h:gs.length <= 15000000) (hg:∀ g ∈ gs,g.2.length <= 15000000):bz [s0,.ow (.lst (gs.map grO)),.sh (.int t.1),.sh (.int t.2.1),.sh (.int t.2.2)] = some (.nx [s0,.ow (.lst ((jE gs t).map grO)),.sh (.int t.1),.sh (.int t.2.1),.sh (.int t.2.2)]):=by
 rcases List.eq_nil_or_concat gs with rfl | ⟨gs0,g,rfl⟩
 ·simp [bz,jE,grO]
 ·rw [List.concat_eq_append] at *
  rw [mE]
  have hl:gs0.length + 1 <= 15000000:=by simpa using h
  have hlim:gs0.length + 1 < LIM:=gd (by lia)
  have hg2:g.2.length < LIM:=gd (by have:=hg g (by simp);lia)
  by_cases hc:g.1 = t.1
  ·simp [bz,hc,hg2,grO]
  ·simp [bz,hc,hlim,grO]
theorem mF:∀ {l:List Nat} {n:Nat},n ∈ l -> n <= l.sum
 | [],_,h=>by cases h
 | m :: l,n,h=>by
  rw [List.sum_cons]
  rcases List.mem_cons.mp h with rfl | h
  ·lia
  ·have:=mF h;lia
theorem fT (ts:List Tri) (h:ts.length < 15000000):fb [.lst (ts.map aC)] = some (ah (bP ts)):=by
 have hf:=List.length_filter_le bg ts
 have hs:=(bU (ts.filter bg)).length_eq
 have og:=kx ts
 have key:∃ ρ',e8 (aO (ak (ag 2) (ak (ag 3) (ak (ag 4) aK)))) bz ((bw (ts.filter bg)).map aC) [.sh (.lst (ts.map aC)),.ow (.lst []),.un,.un,.un] = some (.nx ρ') /\ ∃ va vb vc,ρ' = [.sh (.lst (ts.map aC)),.ow (.lst ((dP (bw (ts.filter bg))).map grO)),va,vb,vc]:=by
  refine cj aC (fun pre ρ=>∃ va vb vc,ρ = [.sh (.lst (ts.map aC)),.ow (.lst ((dP pre).map grO)),va,vb,vc]) _ _ ⟨_,_,_,rfl⟩ ?_
  rintro pre t post _ e ⟨va,vb,vc,rfl⟩
  have hp:pre.length <= 15000000:=by
   have:=congrArg List.length e
   rw [List.length_append] at this
   lia
  have gl:=vk pre
  have gp:GOk (dP pre) pre:=by
   refine vm (fun s hs=>?_) ?_
   ·have:=(bU _).mem_iff.mp (show s ∈ bw (ts.filter bg) by rw [e];simp [hs])
    simpa [bg] using (List.mem_filter.mp this).2
   ·have:=y7 (ts.filter bg)
    rw [e] at this
    exact (List.pairwise_append.mp this).1
  have gg:∀ g ∈ dP pre,g.2.length <= 15000000:=fun g hg=>by
   have h1:=gp.len
   have h2:g.2.length <= ((dP pre).map fun g=>g.2.length).sum:=mF (List.mem_map.mpr ⟨g,hg,rfl⟩)
   lia
  refine ⟨_,_,rfl,.inl (wN _ (dP pre) t (by lia) gg),.sh (.int t.1),.sh (.int t.2.1),.sh (.int t.2.2),by rw [sC]⟩
 obtain ⟨ρ',k1,va,vb,vc,rfl⟩:=key
 have hc:=zG ts
 have hb:=jk (ts.filter bg) (by lia)
 have hl:ts.length <= LIM:=az (by lia)
 have gl:=vk (bw (ts.filter bg))
 have hl2:(dP (bw (ts.filter bg))).length <= LIM:=az (by lia)
 have c2:bm (aO (ak (ag 0) (ak (ag 1) aK))) cA (aQ (ab (am 0) (ab (av kc (ab (am 1) aj)) aj))) [.un,.un] ((dP (bw (ts.filter bg))).map grD) = some ((bP ts).map pyD):=by
  rw [aS grD (fun g=>pyD (g.1,ko g.2))]
  ·unfold bP
   rw [List.map_map]
   rfl
  ·intro g hg
   have h1:g.2.length < 15000000:=by
    have h2:g.2.length <= ((dP (bw (ts.filter bg))).map fun g=>g.2.length).sum:=mF (List.mem_map.mpr ⟨g,hg,rfl⟩)
    have:=og.len
    lia
   have h3:=qA g.2 h1
   simp [dD,grD,h3]
 simp [fb,iI,fnO,fY,hl,hc,hb,k1,frz,Ej,hl2,c2]
theorem oH (p q:Pic):ai (p ++ q) = ai p ++ ai q:=by unfold ai;rw [List.flatMap_append]
theorem dY {p:Pic} {q:Int × R} (h:q ∈ p):q.2.length <= (ai p).length:=by
 induction p with
 | nil=>cases h
 | cons s p ih=>
  rw [a7,List.length_append,List.length_map]
  rcases List.mem_cons.mp h with rfl | h
  ·lia
  ·have:=ih h;lia
theorem mJ (p:Pic) (h:(ai p).length <= 15500000):ez [ah p] = some (.lst ((ai p).map (O.sh ∘ aC))):=by
 obtain ⟨ρ',k1,v2,v3,rfl⟩:=cj (g:=aO (ak (ag 2) (ak (ag 3) aK))) (m:=dq) pyD (fun pre ρ=>∃ v2 v3,ρ = [.sh (ah p),.ow (.lst ((ai pre).map (O.sh ∘ aC))),v2,v3]) p [.sh (ah p),.ow (.lst []),.un,.un] ⟨_,_,rfl⟩ (by
  rintro pre q post _ e ⟨v2,v3,rfl⟩
  have hlen:(ai pre).length + q.2.length <= 15500000:=by
   rw [e,oH,a7,List.length_append,List.length_append,List.length_map] at h
   lia
  have hl:(ai pre).length + q.2.length <= LIM:=az hlen
  have hl2:q.2.length <= LIM:=az (by lia)
  have hc:bm (aO (ak (ag 0) (ak (ag 1) aK))) cA (aQ (ab (am 2) (ab (am 0) (ab (am 1) aj)))) [.un,.un,.sh (.int q.1)] (q.2.map prD) = some (q.2.map fun s=>aC (q.1,s)):=aS prD _ q.2 fun s _=>by simp [dD]
  refine ⟨_,[.sh (ah p),.ow (.lst ((ai (pre ++ [q])).map (O.sh ∘ aC))),.sh (.int q.1),.sh (a9 q.2)],rfl,.inl ?_,_,_,rfl⟩
  have es:ai (pre ++ [q]) = ai pre ++ q.2.map fun s=>(q.1,s):=by rw [oH,a7];simp [ai]
  rw [es]
  simp [dq,hl,hl2,hc])
 simp [ez,fnO,eT,k1]
theorem bO (p:Pic) (h:(ai p).length <= 15500000):bD [ah p] = some (.lst ((ai p).map aC)):=by
 unfold bD
 rw [mJ p h]
 simp
theorem Di (ts:List Tri):(bw ts).Pairwise fun p q=>p.1 < q.1 \/ (p.1 = q.1 /\ p.2.1 <= q.2.1):=by
 have h:=oE (ts.map sK)
 rw [<- m6,List.pairwise_map] at h
 refine h.imp fun {p q} e=>?_
 have e':(if q.1 = p.1 then (if q.2.1 = p.2.1 then HT.bN [q.2.2] [p.2.2] else decide (q.2.1 < p.2.1)) else decide (q.1 < p.1)) = false:=e
 by_cases hq:q.1 = p.1
 ·rw [if_pos hq] at e'
  by_cases hr:q.2.1 = p.2.1
  ·exact .inr ⟨hq.symm,by lia⟩
  ·rw [if_neg hr] at e'
   have:=of_decide_eq_false e'
   exact .inr ⟨hq.symm,by lia⟩
 ·rw [if_neg hq] at e'
  have:=of_decide_eq_false e'
  exact .inl (by lia)
noncomputable def qp (gs:Pic) (t:Tri):Pic:=match gs.getLast? with
 | some g=>if g.1 = t.1 then gs.dropLast ++ [(g.1,step g.2 t.2)] else gs ++ [(t.1,[t.2])]
 | none=>[(t.1,[t.2])]
theorem CI (t:Tri):qp [] t = [(t.1,[t.2])]:=rfl
theorem sN (gs:Pic) (g:Int × R) (t:Tri):qp (gs ++ [g]) t = if g.1 = t.1 then gs ++ [(g.1,step g.2 t.2)] else gs ++ [g] ++ [(t.1,[t.2])]:=by
 unfold qp
 simp
noncomputable def sM (ts:List Tri):Pic:=ts.foldl qp []
theorem vz (pre:List Tri) (t:Tri):sM (pre ++ [t]) = qp (sM pre) t:=by unfold sM;rw [List.foldl_append];rfl
theorem Hq (acc:R) (p:Int × Int):step acc p ≠ []:=by
 rcases List.eq_nil_or_concat acc with rfl | ⟨t,q,rfl⟩
 ·rw [ud];simp
 ·rw [List.concat_eq_append,gv]
  split <;> simp
theorem za {acc:R} {p q:Int × Int} (h:q ∈ step acc p):q.1 = p.1 \/ ∃ q' ∈ acc,q'.1 = q.1:=by
 rcases List.eq_nil_or_concat acc with rfl | ⟨t,z,rfl⟩
 ·rw [ud,List.mem_singleton] at h
  subst h;exact .inl rfl
 ·rw [List.concat_eq_append] at h ⊢
  rw [gv] at h
  split at h
  ·rcases List.mem_append.mp h with h | h
   ·exact .inr ⟨q,List.mem_append_left _ h,rfl⟩
   ·rw [List.mem_singleton] at h
    subst h
    exact .inr ⟨z,by simp,rfl⟩
  ·rcases List.mem_append.mp h with h | h
   ·exact .inr ⟨q,h,rfl⟩
   ·rw [List.mem_singleton] at h
    subst h;exact .inl rfl
structure LOk (gs:Pic) (pre:List Tri):Prop where
 can:ao gs
 mem:∀ x y,aw gs x y ↔ iB pre x y
 fst:∀ g ∈ gs,∀ q ∈ g.2,∃ t ∈ pre,t.1 = g.1 /\ t.2.1 = q.1
 row:∀ g ∈ gs,∃ t ∈ pre,t.1 = g.1
 len:gs.length <= pre.length
 lens:∀ g ∈ gs,g.2.length <= pre.length
theorem ug (t:Tri) (x y:Int):iB [t] x y ↔ t.1 = y /\ t.2.1 <= x /\ x <= t.2.2:=by
 rw [pT]
 constructor
 ·rintro (h | ⟨_,h,_⟩)
  ·exact h
  ·cases h
 ·exact .inl
theorem oo (q:Int × R) (x y:Int):aw [q] x y ↔ q.1 = y /\ Mem q.2 x:=by
 rw [a6]
 constructor
 ·rintro (h | h)
  ·exact h
  ·exact (bi _ _ h).elim
 ·exact .inl
theorem Bo (p:Int × Int) (x:Int):Mem [p] x ↔ p.1 <= x /\ x <= p.2:=by
 rw [mem_cons]
 constructor
 ·rintro (h | h)
  ·exact h
  ·exact (aY _ h).elim
 ·exact .inl
theorem u9 {p:Int × Int} (h:p.1 <= p.2):aV [p]:=canon_cons.mpr ⟨h,fun _ h=>(by cases h),gt⟩
theorem Ez {gs:Pic} {pre:List Tri} {t:Tri} (o:LOk gs pre) (ht:t.2.1 <= t.2.2) (hb:∀ s ∈ pre,s.1 < t.1 \/ (s.1 = t.1 /\ s.2.1 <= t.2.1)):LOk (qp gs t) (pre ++ [t]):=by
 have hle:∀ g ∈ gs,g.1 <= t.1:=fun g hg=>by
  obtain ⟨s,hs,e⟩:=o.row g hg
  have:=hb s hs
  lia
 rcases List.eq_nil_or_concat gs with rfl | ⟨gs0,g,rfl⟩
 ·rw [CI]
  refine ⟨pcanon_cons.mpr ⟨⟨u9 ht,by simp⟩,fun _ h=>(by cases h),gP⟩,fun x y=>?_,fun g hg q hq=>?_,fun g hg=>?_,by simp,fun g hg=>?_⟩
  ·rw [oo,eO,<- o.mem,ug,Bo]
   exact ⟨.inr,fun h=>h.elim (fun h=>(bi _ _ h).elim) id⟩
  ·rw [List.mem_singleton] at hg
   subst hg
   rw [List.mem_singleton] at hq
   subst hq
   exact ⟨t,by simp,rfl,rfl⟩
  ·rw [List.mem_singleton] at hg
   subst hg
   exact ⟨t,by simp,rfl⟩
  ·rw [List.mem_singleton] at hg
   subst hg
   simp
 ·rw [List.concat_eq_append] at o hle ⊢
  rw [sN]
  have hg0:g ∈ gs0 ++ [g]:=by simp
  have cg:=o.can.1 g hg0
  have pw:=List.pairwise_append.mp o.can.2
  by_cases c:g.1 = t.1
  ·rw [if_pos c]
   have lo:∀ q ∈ g.2,q.1 <= t.2.1:=fun q hq=>by
    obtain ⟨s,hs,e1,e2⟩:=o.fst g hg0 q hq
    have:=hb s hs
    lia
   obtain ⟨s1,s2,s3⟩:=BF cg.1 (p:=t.2) ht lo
   refine ⟨⟨fun q hq=>?_,?_⟩,fun x y=>?_,fun g' hg q hq=>?_,fun g' hg=>?_,?_,fun g' hg=>?_⟩
   ·rcases List.mem_append.mp hq with hq | hq
    ·exact o.can.1 q (List.mem_append_left _ hq)
    ·rw [List.mem_singleton] at hq
     subst hq
     exact ⟨s1,Hq _ _⟩
   ·refine List.pairwise_append.mpr ⟨pw.1,List.pairwise_singleton _ _,fun a ha b hb=>?_⟩
    rw [List.mem_singleton] at hb
    subst hb
    exact pw.2.2 a ha g (by simp)
   ·have:=o.mem x y
    rw [eN,oo] at this
    rw [eN,oo,eO,<- this,ug]
    dsimp only
    rw [s2 x]
    constructor
    ·rintro (h | ⟨h1,h2 | h2⟩)
     ·exact .inl (.inl h)
     ·exact .inl (.inr ⟨h1,h2⟩)
     ·exact .inr ⟨c.symm.trans h1,h2⟩
    ·rintro ((h | ⟨h1,h2⟩) | ⟨h1,h2⟩)
     ·exact .inl h
     ·exact .inr ⟨h1,.inl h2⟩
     ·exact .inr ⟨c.trans h1,.inr h2⟩
   ·rcases List.mem_append.mp hg with hg | hg
    ·obtain ⟨s,hs,e⟩:=o.fst g' (List.mem_append_left _ hg) q hq
     exact ⟨s,List.mem_append_left _ hs,e⟩
    ·rw [List.mem_singleton] at hg
     subst hg
     rcases za hq with e | ⟨q',hq',e⟩
     ·exact ⟨t,by simp,c.symm,e.symm⟩
     ·obtain ⟨s,hs,e1,e2⟩:=o.fst g hg0 q' hq'
      exact ⟨s,List.mem_append_left _ hs,e1,e2.trans e⟩
   ·rcases List.mem_append.mp hg with hg | hg
    ·obtain ⟨s,hs,e⟩:=o.row g' (List.mem_append_left _ hg)
     exact ⟨s,List.mem_append_left _ hs,e⟩
    ·rw [List.mem_singleton] at hg
     subst hg
     exact ⟨t,by simp,c.symm⟩
   ·have:=o.len
    rw [List.length_append] at this ⊢
    rw [List.length_append]
    simp at this ⊢
    lia
   ·rw [List.length_append,List.length_singleton]
    rcases List.mem_append.mp hg with hg | hg
    ·have:=o.lens g' (List.mem_append_left _ hg)
     lia
    ·rw [List.mem_singleton] at hg
     subst hg
     have:=o.lens g hg0
     have:=zb g.2 t.2
     dsimp only
     lia
  ·rw [if_neg c]
   have hlt:∀ a ∈ gs0 ++ [g],a.1 < t.1:=fun a ha=>by
    have h1:=hle g hg0
    rcases List.mem_append.mp ha with ha | ha
    ·have:=pw.2.2 a ha g (by simp)
     lia
    ·rw [List.mem_singleton] at ha
     subst ha
     lia
   refine ⟨⟨fun q hq=>?_,?_⟩,fun x y=>?_,fun g' hg q hq=>?_,fun g' hg=>?_,?_,fun g' hg=>?_⟩
   ·rcases List.mem_append.mp hq with hq | hq
    ·exact o.can.1 q hq
    ·rw [List.mem_singleton] at hq
     subst hq
     exact ⟨u9 ht,by simp⟩
   ·refine List.pairwise_append.mpr ⟨o.can.2,List.pairwise_singleton _ _,fun a ha b hb=>?_⟩
    rw [List.mem_singleton] at hb
    subst hb
    exact hlt a ha
   ·rw [eN,o.mem,oo,eO,ug,Bo]
   ·rcases List.mem_append.mp hg with hg | hg
    ·obtain ⟨s,hs,e⟩:=o.fst g' hg q hq
     exact ⟨s,List.mem_append_left _ hs,e⟩
    ·rw [List.mem_singleton] at hg
     subst hg
     rw [List.mem_singleton] at hq
     subst hq
     exact ⟨t,by simp,rfl,rfl⟩
   ·rcases List.mem_append.mp hg with hg | hg
    ·obtain ⟨s,hs,e⟩:=o.row g' hg
     exact ⟨s,List.mem_append_left _ hs,e⟩
    ·rw [List.mem_singleton] at hg
     subst hg
     exact ⟨t,by simp,rfl⟩
   ·have:=o.len
    rw [List.length_append,List.length_append (bs:=[t])]
    simp at this ⊢
    lia
   ·rw [List.length_append,List.length_singleton]
    rcases List.mem_append.mp hg with hg | hg
    ·have:=o.lens g' hg
     lia
    ·rw [List.mem_singleton] at hg
     subst hg
     simp
theorem Bi:∀ (post pre:List Tri),(∀ t ∈ pre ++ post,t.2.1 <= t.2.2) -> (pre ++ post).Pairwise (fun p q=>p.1 < q.1 \/ (p.1 = q.1 /\ p.2.1 <= q.2.1)) -> LOk (sM pre) pre -> LOk (sM (pre ++ post)) (pre ++ post)
 | [],pre,_,_,o=>by rw [List.append_nil];exact o
 | t :: post,pre,h1,h2,o=>by
  have e:pre ++ t :: post = (pre ++ [t]) ++ post:=by simp
  rw [e] at h1 h2 ⊢
  refine Bi post (pre ++ [t]) h1 h2 ?_
  rw [vz]
  refine Ez o (h1 t (by simp)) fun s hs=>?_
  exact (List.pairwise_append.mp (List.pairwise_append.mp h2).1).2.2 s hs t (by simp)
theorem GN:LOk (sM []) []:=⟨gP,fun x y=>⟨fun h=>(bi _ _ h).elim,fun ⟨_,h,_⟩=>(by cases h)⟩,fun _ h=>(by cases h),fun _ h=>(by cases h),Nat.le_refl _,fun _ h=>(by cases h)⟩
theorem j7 {ts pre post:List Tri} (hg:∀ t ∈ ts,t.2.1 <= t.2.2) (e:bw ts = pre ++ post):LOk (sM pre) pre:=by
 have h1:∀ t ∈ pre ++ post,t.2.1 <= t.2.2:=fun t ht=>hg t ((bU ts).mem_iff.mp (by rw [e];exact ht))
 have h2:=Di ts
 rw [e] at h2
 exact Bi pre [] (fun t ht=>h1 t (List.mem_append_left _ ht)) (List.pairwise_append.mp h2).1 GN
theorem Ey {ts:List Tri} (hg:∀ t ∈ ts,t.2.1 <= t.2.2):sM (bw ts) = bP ts:=by
 have o:=j7 hg (pre:=bw ts) (post:=[]) (by simp)
 exact (tJ o.can fun x y=>by rw [o.mem,vS (bU ts)]).symm
theorem pp (s0:Sl) (gs:Pic) (t:Tri) (v5:Sl) (h:gs.length <= 15000000) (hg:∀ g ∈ gs,g.2.length <= 15000000 /\ g.2 ≠ []):∃ w5,bJ [s0,.ow (.lst (gs.map grO)),.sh (.int t.1),.sh (.int t.2.1),.sh (.int t.2.2),v5] = some (.nx [s0,.ow (.lst ((qp gs t).map grO)),.sh (.int t.1),.sh (.int t.2.1),.sh (.int t.2.2),w5]):=by
 rcases List.eq_nil_or_concat gs with rfl | ⟨gs0,g,rfl⟩
 ·exact ⟨v5,by simp [bJ,qp,grO]⟩
 ·rw [List.concat_eq_append] at *
  rw [sN]
  have hl:gs0.length + 1 <= 15000000:=by simpa using h
  have hlim:gs0.length + 1 < LIM:=gd (by lia)
  have hp:(0:Int) < gs0.length + 1:=by lia
  obtain ⟨y,r⟩:=g
  obtain ⟨hr1,hr2⟩:=hg (y,r) (by simp)
  dsimp only at hr1 hr2 ⊢
  rcases List.eq_nil_or_concat r with rfl | ⟨r0,q,rfl⟩
  ·exact absurd rfl hr2
  ·rw [List.concat_eq_append] at *
   have hr3:r0.length + 1 <= 15000000:=by simpa using hr1
   have hr4:r0.length + 1 < LIM:=gd (by lia)
   have hr5:r0.length < LIM:=gd (by lia)
   by_cases hc:y = t.1
   ·rw [if_pos hc,gv]
    by_cases hd:t.2.1 <= q.2 + 1
    ·rw [if_pos hd]
     exact ⟨.sh (prD q),by simp [bJ,hc,hd,hp,hr5,grO]⟩
    ·rw [if_neg hd]
     exact ⟨v5,by simp [bJ,hc,hd,hp,hr4,grO]⟩
   ·rw [if_neg hc]
    exact ⟨v5,by simp [bJ,hc,hp,hlim,grO]⟩
theorem iH (ts:List Tri) (hg:∀ t ∈ ts,t.2.1 <= t.2.2) (h:ts.length < 15000000):gK [.lst (ts.map aC)] = some (ah (bP ts)):=by
 have hs:=(bU ts).length_eq
 have key:∃ ρ',e8 (aO (ak (ag 2) (ak (ag 3) (ak (ag 4) aK)))) bJ ((bw ts).map aC) [.sh (.lst (ts.map aC)),.ow (.lst []),.un,.un,.un,.un] = some (.nx ρ') /\ ∃ va vb vc vd,ρ' = [.sh (.lst (ts.map aC)),.ow (.lst ((sM (bw ts)).map grO)),va,vb,vc,vd]:=by
  refine cj aC (fun pre ρ=>∃ va vb vc vd,ρ = [.sh (.lst (ts.map aC)),.ow (.lst ((sM pre).map grO)),va,vb,vc,vd]) _ _ ⟨_,_,_,_,rfl⟩ ?_
  rintro pre t post _ e ⟨va,vb,vc,vd,rfl⟩
  have hp:pre.length <= 15000000:=by
   have:=congrArg List.length e
   rw [List.length_append] at this
   lia
  have o:=j7 hg e
  obtain ⟨w5,hw⟩:=pp (.sh (.lst (ts.map aC))) (sM pre) t vd (by have:=o.len;lia) fun g hg=>⟨by have:=o.lens g hg;lia,(o.can.1 g hg).2⟩
  exact ⟨_,_,rfl,.inl hw,.sh (.int t.1),.sh (.int t.2.1),.sh (.int t.2.2),w5,by rw [vz]⟩
 obtain ⟨ρ',k1,va,vb,vc,vd,rfl⟩:=key
 have o:=j7 hg (pre:=bw ts) (post:=[]) (by simp)
 rw [Ey hg] at k1 o
 have hb:=jk ts h
 have hl:ts.length <= LIM:=az (by lia)
 have hl2:(bP ts).length <= LIM:=az (by have:=o.len;lia)
 have c2:bm (aO (ak (ag 0) (ak (ag 1) aK))) cA (aQ (ab (am 0) (ab (xCB dA (ab (af 1) aj)) aj))) [.un,.un] ((bP ts).map grD) = some ((bP ts).map pyD):=by
  rw [aS grD (fun g=>pyD g)]
  intro g hg'
  have hl3:g.2.length <= LIM:=az (by have:=o.lens g hg';lia)
  simp [dD,grD,hl3]
 simp [gK,kj,fnO,jh,hl,hb,k1,frz,Ej,hl2,c2]
theorem fw {α:Type} (l:List α) (k:α -> Int) (enc:α -> D) (x:Int) (he:∀ a,dIx (enc a) (.int 0) = some (.int (k a))) (hl:l.length <= 15500000) (pw:l.Pairwise fun a b=>k a < k b) :
  ∃ n:Nat,n <= l.length /\ dU [.tup (l.map enc),.int x] = some (.int n) /\ ∀ (i:Nat) a,l[i]? = some a -> (k a <= x ↔ i < n):=by
 have lt:∀ (i j:Nat) a b,l[i]? = some a -> l[j]? = some b -> i < j -> k a < k b:=fun i j a b hi hj hij=>by
  obtain ⟨h1,rfl⟩:=List.getElem?_eq_some_iff.mp hi
  obtain ⟨h2,rfl⟩:=List.getElem?_eq_some_iff.mp hj
  exact List.pairwise_iff_getElem.mp pw i j h1 h2 hij
 obtain ⟨ρ',k1,n,v3,v4,rfl,h1,h2⟩:=jA (c:=cI) (m:=cH)
  (fun ρ=>∃ (lo hi:Nat) (v4:Sl),ρ = [.sh (.tup (l.map enc)),.sh (.int x),.sh (.int lo),.sh (.int hi),v4] /\ lo <= hi /\ hi <= l.length /\ (∀ (i:Nat) a,l[i]? = some a -> i < lo -> k a <= x) /\ ∀ (i:Nat) a,l[i]? = some a -> hi <= i -> x < k a)
  (fun ρ=>match ρ with | [_,_,.sh (.int lo),.sh (.int hi),_]=>(hi - lo).toNat | _=>0)
  (fun ρ=>∃ (n:Nat) (v3 v4:Sl),ρ = [.sh (.tup (l.map enc)),.sh (.int x),.sh (.int n),v3,v4] /\ n <= l.length /\ ∀ (i:Nat) a,l[i]? = some a -> (k a <= x ↔ i < n))
  (by
   rintro _ ⟨lo,hi,v4,rfl,h1,h2,h3,h4⟩
   by_cases hc:lo < hi
   ·right
    have hc':(lo:Int) < hi:=by lia
    obtain ⟨a,ha⟩:∃ a,l[(lo + hi) / 2]? = some a:=⟨_,List.getElem?_eq_getElem (by lia)⟩
    have em:((lo:Int) + hi) / 2 = (((lo + hi) / 2:Nat):Int):=by lia
    have ea:atI (l.map enc) (((lo:Int) + hi) / 2) = some (enc a):=by rw [em];exact ji (by rw [List.getElem?_map,ha];rfl)
    refine ⟨by simp [cI,hc'],?_⟩
    by_cases ck:k a <= x
    ·refine ⟨[.sh (.tup (l.map enc)),.sh (.int x),.sh (.int (((lo + hi) / 2 + 1:Nat):Int)),.sh (.int hi),.sh (.int (((lo:Int) + hi) / 2))],?_,⟨(lo + hi) / 2 + 1,hi,_,rfl,by lia,h2,fun i b hb hi'=>?_,h4⟩,by dsimp only;lia⟩
     ·simp [cH,ea,he,ck]
     ·by_cases z:i = (lo + hi) / 2
      ·subst z;rw [ha] at hb;cases hb;exact ck
      ·have:=lt i _ b a hb ha (by lia);lia
    ·refine ⟨[.sh (.tup (l.map enc)),.sh (.int x),.sh (.int lo),.sh (.int (((lo + hi) / 2:Nat):Int)),.sh (.int (((lo:Int) + hi) / 2))],?_,⟨lo,(lo + hi) / 2,_,rfl,by lia,by lia,h3,fun i b hb hi'=>?_⟩,by dsimp only;lia⟩
     ·simp [cH,ea,he,ck]
     ·by_cases z:i = (lo + hi) / 2
      ·subst z;rw [ha] at hb;cases hb;lia
      ·have:=lt _ i a b ha hb (by lia);lia
   ·left
    have hc':¬ (lo:Int) < hi:=by lia
    have e:lo = hi:=by lia
    subst e
    refine ⟨by simp [cI],lo,_,_,rfl,h2,fun i a ha=>⟨fun hk=>?_,fun hi'=>h3 i a ha hi'⟩⟩
    by_cases z:i < lo
    ·exact z
    ·have:=h4 i a ha (by lia);lia)
  [.sh (.tup (l.map enc)),.sh (.int x),.sh (.int 0),.sh (.int l.length),.un]
  ⟨0,l.length,_,rfl,Nat.zero_le _,Nat.le_refl _,fun i a _ h=>absurd h (Nat.not_lt_zero _),fun i a ha h=>by have:=(List.getElem?_eq_some_iff.mp ha).1;lia⟩
 refine ⟨n,h1,?_,h2⟩
 simp [dU,gM,fnO,fG,k1]
noncomputable def bj (p:Pic) (y:Int):R:=match p.find? fun q=>decide (q.1 = y) with | some q=>q.2 | none=>[]
theorem gQ {p:Pic} (c:ao p) {q:Int × R} (hq:q ∈ p):bj p q.1 = q.2:=by
 unfold bj
 cases e:p.find? fun s=>decide (s.1 = q.1) with
 | none=>
  have:=List.find?_eq_none.mp e q hq
  simp at this
 | some s=>
  have h1:=List.find?_some e
  have h2:=List.mem_of_find?_eq_some e
  have h3:s.1 = q.1:=of_decide_eq_true h1
  have:s = q:=by
   obtain ⟨i,hi⟩:=List.getElem?_of_mem h2
   obtain ⟨j,hj⟩:=List.getElem?_of_mem hq
   obtain ⟨li,ei⟩:=List.getElem?_eq_some_iff.mp hi
   obtain ⟨lj,ej⟩:=List.getElem?_eq_some_iff.mp hj
   have pw:=List.pairwise_iff_getElem.mp c.2
   by_cases z:i < j
   ·have:=pw i j li lj z;rw [ei,ej] at this;lia
   ·by_cases z2:j < i
    ·have:=pw j i lj li z2;rw [ei,ej] at this;lia
    ·have:i = j:=by lia
     subst this
     rw [hi] at hj;exact Option.some.inj hj
  rw [this]
theorem jw {p:Pic} {y:Int} (h:∀ q ∈ p,q.1 ≠ y):bj p y = []:=by
 unfold bj
 have:p.find? (fun q=>decide (q.1 = y)) = none:=List.find?_eq_none.mpr fun q hq=>by simpa using h q hq
 rw [this]
theorem ip {p:Pic} (c:ao p) (y:Int):aV (bj p y):=by
 by_cases h:∃ q ∈ p,q.1 = y
 ·obtain ⟨q,hq,rfl⟩:=h
  rw [gQ c hq];exact (c.1 q hq).1
 ·rw [jw fun q hq e=>h ⟨q,hq,e⟩];exact gt
theorem kT {p:Pic} (c:ao p) (x y:Int):Mem (bj p y) x ↔ aw p x y:=by
 constructor
 ·intro h
  by_cases k:∃ q ∈ p,q.1 = y
  ·obtain ⟨q,hq,rfl⟩:=k
   rw [gQ c hq] at h
   exact ⟨q,hq,rfl,h⟩
  ·rw [jw fun q hq e=>k ⟨q,hq,e⟩] at h
   exact (aY _ h).elim
 ·rintro ⟨q,hq,rfl,h⟩
  rw [gQ c hq];exact h
theorem ym (p:Pic) (y:Int) (c:ao p) (h:p.length <= 15500000):i8 [ah p,.int y] = some (a9 (bj p y)):=by
 obtain ⟨n,h1,h2,h3⟩:=fw p (·.1) pyD y (fun a=>by simp) h c.2
 by_cases hn:n = 0
 ·subst hn
  have e:bj p y = []:=jw fun q hq e=>by
   obtain ⟨j,ej⟩:=List.getElem?_of_mem hq
   exact absurd ((h3 j q ej).mp (by lia)) (Nat.not_lt_zero _)
  simp at h2
  simp [i8,ja,fnO,iT,h2,e]
 ·obtain ⟨q,hq⟩:∃ q,p[n - 1]? = some q:=⟨_,List.getElem?_eq_getElem (by lia)⟩
  have en:(n:Int) - 1 = ((n - 1:Nat):Int):=by lia
  have ea:atI (p.map pyD) ((n:Int) - 1) = some (pyD q):=by rw [en];exact ji (by rw [List.getElem?_map,hq];rfl)
  have hn':(0:Int) < n:=by lia
  have hn2:0 < n:=by lia
  by_cases hy:q.1 = y
  ·have e:bj p y = q.2:=by rw [<- hy];exact gQ c (List.mem_of_getElem? hq)
   simp [i8,ja,fnO,iT,h2,hn,hn',hn2,ea,hy,e]
  ·have e:bj p y = []:=jw fun s hs e=>by
    obtain ⟨j,ej⟩:=List.getElem?_of_mem hs
    have hj:=(h3 j s ej).mp (by lia)
    by_cases z:j = n - 1
    ·subst z;rw [hq] at ej;cases ej;exact hy e
    ·obtain ⟨l1,e1⟩:=List.getElem?_eq_some_iff.mp ej
     obtain ⟨l2,e2⟩:=List.getElem?_eq_some_iff.mp hq
     have:=List.pairwise_iff_getElem.mp c.2 j (n - 1) l1 l2 (by lia)
     rw [e1,e2] at this
     have:=(h3 _ _ hq).mpr (by lia)
     lia
   simp [i8,ja,fnO,iT,h2,hn,hn',hn2,ea,hy,e]
theorem qP (r t:R) (h:r.length + t.length <= 15000000):gh [a9 r,a9 t] = some (a9 (c9 r t)):=by
 have hlen:=xN _ r t rfl
 have key:∃ ρ',eL b9 bA [.sh (a9 r),.sh (a9 t),.ow (.lst []),.sh (.int 0),.sh (.int 0),.un,.un] = some (.nx ρ') /\ ∃ v3 v4 v5 v6,ρ' = [.sh (a9 r),.sh (a9 t),owl ((c9 r t).map prD),v3,v4,v5,v6]:=by
  refine jA (fun ρ=>∃ (acc:R) (i j:Nat) (v5 v6:Sl),ρ = [.sh (a9 r),.sh (a9 t),owl (acc.map prD),.sh (.int i),.sh (.int j),v5,v6] /\ i <= r.length /\ j <= t.length /\ acc ++ c9 (r.drop i) (t.drop j) = c9 r t)
   (fun ρ=>match ρ with | [_,_,_,.sh (.int i),.sh (.int j),_,_]=>(r.length + t.length - i - j).toNat | _=>0) _ ?_ _ ⟨[],0,0,.un,.un,rfl,Nat.zero_le _,Nat.zero_le _,rfl⟩
  rintro _ ⟨acc,i,j,v5,v6,rfl,hi,hj,e⟩
  have hacc:acc.length <= 15000000:=by
   have:=congrArg List.length e
   rw [List.length_append] at this
   lia
  have hlim:acc.length < LIM:=gd (by lia)
  cases qi:r[i]? with
  | none=>
   have hi':i = r.length:=by have:=List.getElem?_eq_none_iff.mp qi;lia
   subst hi'
   rw [List.drop_of_length_le (Nat.le_refl _),dM,List.append_nil] at e
   subst e
   exact .inl ⟨by simp [b9],_,_,_,_,rfl⟩
  | some p=>
   have hi':=(List.getElem?_eq_some_iff.mp qi).1
   have ei:(i:Int) < r.length:=by lia
   cases qj:t[j]? with
   | none=>
    have hj':j = t.length:=by have:=List.getElem?_eq_none_iff.mp qj;lia
    subst hj'
    rw [List.drop_of_length_le (Nat.le_refl _),dc,List.append_nil] at e
    subst e
    exact .inl ⟨by simp [b9,ei],_,_,_,_,rfl⟩
   | some q=>
    have hj':=(List.getElem?_eq_some_iff.mp qj).1
    have ej:(j:Int) < t.length:=by lia
    have a1:=HE qi
    have a2:=HE qj
    rw [gu qi,gu qj,Cg] at e
    refine .inr ⟨by simp [b9,ei,ej],?_⟩
    by_cases c1:max p.1 q.1 <= min p.2 q.2
    ·rw [if_pos c1] at e
     by_cases c2:p.2 < q.2
     ·rw [if_pos c2,<- gu qj] at e
      exact ⟨[.sh (a9 r),.sh (a9 t),owl ((acc ++ [(max p.1 q.1,min p.2 q.2)]).map prD),.sh (.int ((i + 1:Nat):Int)),.sh (.int j),.sh (.int (max p.1 q.1)),.sh (.int (min p.2 q.2))],by simp [bA,a1,a2,mx,mn,c1,c2,hlim],⟨_,i + 1,j,_,_,rfl,hi',hj,by rw [List.append_assoc];exact e⟩,by dsimp only;lia⟩
     ·rw [if_neg c2,<- gu qi] at e
      exact ⟨[.sh (a9 r),.sh (a9 t),owl ((acc ++ [(max p.1 q.1,min p.2 q.2)]).map prD),.sh (.int i),.sh (.int ((j + 1:Nat):Int)),.sh (.int (max p.1 q.1)),.sh (.int (min p.2 q.2))],by simp [bA,a1,a2,mx,mn,c1,c2,hlim],⟨_,i,j + 1,_,_,rfl,hi,hj',by rw [List.append_assoc];exact e⟩,by dsimp only;lia⟩
    ·rw [if_neg c1,List.nil_append] at e
     by_cases c2:p.2 < q.2
     ·rw [if_pos c2,<- gu qj] at e
      exact ⟨[.sh (a9 r),.sh (a9 t),owl (acc.map prD),.sh (.int ((i + 1:Nat):Int)),.sh (.int j),.sh (.int (max p.1 q.1)),.sh (.int (min p.2 q.2))],by simp [bA,a1,a2,mx,mn,c1,c2,hlim],⟨_,i + 1,j,_,_,rfl,hi',hj,e⟩,by dsimp only;lia⟩
     ·rw [if_neg c2,<- gu qi] at e
      exact ⟨[.sh (a9 r),.sh (a9 t),owl (acc.map prD),.sh (.int i),.sh (.int ((j + 1:Nat):Int)),.sh (.int (max p.1 q.1)),.sh (.int (min p.2 q.2))],by simp [bA,a1,a2,mx,mn,c1,c2,hlim],⟨_,i,j + 1,_,_,rfl,hi,hj',e⟩,by dsimp only;lia⟩
 obtain ⟨ρ',k1,v3,v4,v5,v6,rfl⟩:=key
 simp [gh,iJ,fnO,fZ,k1]
noncomputable def f9 (q:Int × R):Bool:=!decide (q.2 = [])
theorem wt:∀ l:Pic,l.filterMap (fun q=>if q.2 = [] then none else some (pyD q)) = (l.filter f9).map pyD
 | []=>rfl
 | q :: l=>by
  by_cases h:q.2 = []
  ·simp [h,f9,<- wt l]
  ·simp [h,f9,<- wt l]
theorem dg (l:Pic) (h:l.length <= 15000000):bn [.lst (l.map pyD)] = some (ah (l.filter f9)):=by
 have hl:l.length <= LIM:=az (by lia)
 have hf:=List.length_filter_le f9 l
 have hl2:(l.filter f9).length <= LIM:=az (by lia)
 have hc:bm (aO (ak (ag 0) (ak (ag 1) aK))) (xB (xOp (dEq true) (af 1) (aQ aj))) (aQ (ab (am 0) (ab (am 1) aj))) [.un,.un] (l.map pyD) = some ((l.filter f9).map pyD):=by
  rw [fO pyD (fun q=>if q.2 = [] then none else some (pyD q)) l,wt]
  intro q _
  have d:dEq true (a9 q.2) (.tup []) = some (.bl (!decide (q.2 = []))):=Gn true q.2 []
  by_cases hq:q.2 = []
  ·simp [hq] at d
   simp [dD,hq,d]
  ·simp [hq] at d
   simp [dD,hq,d]
 simp [bn,eI,fnO,cU,hl,hc,hl2]
noncomputable def u7 (f:R -> R -> R) (p q:Pic):Pic:=(p.map fun s=>(s.1,f s.2 (bj q s.1))).filter f9
noncomputable def cmP (p q:Pic):Pic:=u7 c9 p q
theorem xK {f:R -> R -> R} {p q:Pic} (cp:ao p) (h:∀ s ∈ p,aV (f s.2 (bj q s.1))):ao (u7 f p q):=by
 refine ⟨fun s hs=>?_,?_⟩
 ·obtain ⟨h1,h2⟩:=List.mem_filter.mp hs
  obtain ⟨z,hz,rfl⟩:=List.mem_map.mp h1
  exact ⟨h z hz,by simpa [f9] using h2⟩
 ·refine List.Pairwise.filter _ ?_
  rw [List.pairwise_map]
  exact cp.2
theorem B7 {f:R -> R -> R} {p q:Pic} (x y:Int):aw (u7 f p q) x y ↔ ∃ s ∈ p,s.1 = y /\ Mem (f s.2 (bj q s.1)) x:=by
 constructor
 ·rintro ⟨s,hs,h1,h2⟩
  obtain ⟨z,hz,rfl⟩:=List.mem_map.mp (List.mem_filter.mp hs).1
  exact ⟨z,hz,h1,h2⟩
 ·rintro ⟨z,hz,h1,h2⟩
  refine ⟨(z.1,f z.2 (bj q z.1)),List.mem_filter.mpr ⟨List.mem_map.mpr ⟨z,hz,rfl⟩,?_⟩,h1,h2⟩
  unfold f9
  rw [Bool.not_eq_true',decide_eq_false_iff_not]
  intro e
  dsimp only at e
  rw [e] at h2
  exact aY _ h2
theorem ve {p q:Pic} (cp:ao p) (cq:ao q):ao (cmP p q):=xK cp fun s hs=>(pj (cp.1 s hs).1 (ip cq _)).1
theorem A3 {p q:Pic} (cp:ao p) (cq:ao q) (x y:Int):aw (cmP p q) x y ↔ aw p x y /\ aw q x y:=by
 unfold cmP
 rw [B7]
 constructor
 ·rintro ⟨s,hs,rfl,h2⟩
  rw [(pj (cp.1 s hs).1 (ip cq _)).2,kT cq] at h2
  exact ⟨⟨s,hs,rfl,h2.1⟩,h2.2⟩
 ·rintro ⟨⟨s,hs,rfl,h1⟩,h2⟩
  exact ⟨s,hs,rfl,by rw [(pj (cp.1 s hs).1 (ip cq _)).2,kT cq];exact ⟨h1,h2⟩⟩
theorem lQ {p:Pic} (y:Int):(bj p y).length <= (ai p).length:=by
 unfold bj
 cases h:p.find? fun q=>decide (q.1 = y) with
 | none=>exact Nat.zero_le _
 | some q=>exact dY (List.mem_of_find?_eq_some h)
theorem qz {p q:Pic} (cq:ao q) (h1:p.length <= 15000000) (h2:q.length <= 15000000) (h:(ai p).length + (ai q).length <= 15000000):nY [ah p,ah q] = some (ah (cmP p q)):=by
 have hl:p.length <= LIM:=az (by lia)
 have hc:bm (aO (ak (ag 0) (ak (ag 1) aK))) cA (aQ (ab (am 0) (ab (av gh (ab (am 1) (ab (av i8 (ab (am 2) (ab (am 0) aj))) aj))) aj))) [.un,.un,.sh (ah q)] (p.map pyD) = some ((p.map fun s=>(s.1,c9 s.2 (bj q s.1))).map pyD):=by
  rw [List.map_map]
  exact aS pyD (fun s=>pyD (s.1,c9 s.2 (bj q s.1))) p fun s hs=>by
   have a1:=ym q s.1 cq (by lia)
   have a2:=qP s.2 (bj q s.1) (by have:=dY hs;have:=lQ (p:=q) s.1;lia)
   simp [dD,a1,a2]
 have hm:=dg (p.map fun s=>(s.1,c9 s.2 (bj q s.1))) (by rw [List.length_map];exact h1)
 rw [List.map_map] at hm hc
 simp [nY,pE,fnO,nF,hl,hc,hm,cmP,u7]
theorem fg:∀ p:Pic,ai (p.filter f9) = ai p
 | []=>rfl
 | q :: p=>by
  rw [List.filter_cons]
  by_cases h:q.2 = []
  ·have:f9 q = false:=by simp [f9,h]
   rw [this,a7,h]
   exact fg p
  ·have:f9 q = true:=by simp [f9,h]
   rw [this,if_pos rfl,a7,a7,fg p]
theorem sX (r:R) (by':Int) (h:r.length <= 15000000):il [a9 r,.int by'] = some (a9 (l8 r by' by')):=by
 have hl:r.length <= LIM:=az (by lia)
 have hc:bm (aO (ak (ag 0) (ak (ag 1) aK))) cA (aQ (ab (xOp bC (af 0) (af 2)) (ab (xOp bC (af 1) (af 2)) aj))) [.un,.un,.sh (.int by')] (r.map prD) = some (r.map fun p=>prD (p.1 + by',p.2 + by')):=aS prD _ r fun p _=>by simp [dD]
 simp [il,jq,fnO,ie,hl,hc,l8]
noncomputable def mvP (p:Pic) (dx dy:Int):Pic:=p.map fun q=>(q.1 + dy,l8 q.2 dx dx)
theorem sW (p:Pic) (dx dy:Int) (h:p.length <= 15000000) (hr:∀ q ∈ p,q.2.length <= 15000000):rD [ah p,.int dx,.int dy] = some (ah (mvP p dx dy)):=by
 have hl:p.length <= LIM:=az (by lia)
 have hc:bm (aO (ak (ag 0) (ak (ag 1) aK))) cA (aQ (ab (xOp bC (af 0) (af 2)) (ab (av il (ab (am 1) (ab (am 3) aj))) aj))) [.un,.un,.sh (.int dy),.sh (.int dx)] (p.map pyD) = some (p.map fun q=>pyD (q.1 + dy,l8 q.2 dx dx)):=aS pyD _ p fun q hq=>by
  have:=sX q.2 dx (hr q hq)
  simp [dD,this]
 simp [rD,tf,fnO,rn,hl,hc,mvP]
theorem yZ {r:R} (c:aV r) (d:Int):aV (l8 r d d):=by
 refine ⟨FI c.1 (Int.le_refl _),?_⟩
 unfold l8
 rw [List.pairwise_map]
 exact c.2.imp fun {p q} h=>by dsimp only;lia
theorem EH (r:R) (d x:Int):Mem (l8 r d d) x ↔ Mem r (x - d):=by
 rw [CQ]
 constructor
 ·rintro ⟨p,hp,h1,h2⟩;exact ⟨p,hp,by lia,by lia⟩
 ·rintro ⟨p,hp,h1,h2⟩;exact ⟨p,hp,by lia,by lia⟩
theorem CV {p:Pic} (c:ao p) (dx dy:Int):ao (mvP p dx dy):=by
 refine ⟨fun q hq=>?_,?_⟩
 ·obtain ⟨s,hs,rfl⟩:=List.mem_map.mp hq
  obtain ⟨h1,h2⟩:=c.1 s hs
  refine ⟨yZ h1 dx,fun e=>h2 ?_⟩
  exact List.map_eq_nil_iff.mp e
 ·unfold mvP
  rw [List.pairwise_map]
  exact c.2.imp fun {a b} h=>by dsimp only;lia
theorem Bv (p:Pic) (dx dy x y:Int):aw (mvP p dx dy) x y ↔ aw p (x - dx) (y - dy):=by
 constructor
 ·rintro ⟨q,hq,h1,h2⟩
  obtain ⟨s,hs,rfl⟩:=List.mem_map.mp hq
  dsimp only at h1 h2
  exact ⟨s,hs,by lia,(EH _ _ _).mp h2⟩
 ·rintro ⟨s,hs,h1,h2⟩
  exact ⟨_,List.mem_map.mpr ⟨s,hs,rfl⟩,by dsimp only;lia,(EH _ _ _).mpr h2⟩
noncomputable abbrev Blk:=Int × Int × Int × Int
noncomputable abbrev bI (b:Blk):D:=.tup [.int b.1,.int b.2.1,.int b.2.2.1,.int b.2.2.2]
def kY (b:Blk) (dx dy:Int):Prop:=b.1 <= dx /\ dx <= b.2.2.1 /\ b.2.1 <= dy /\ dy <= b.2.2.2
def BOk (b:Blk):Prop:=b.1 <= b.2.2.1 /\ b.2.1 <= b.2.2.2
theorem EO (p:Pic) (dx dy:Int):(ai (mvP p dx dy)).length = (ai p).length:=by
 unfold mvP ai
 rw [List.length_flatMap,List.length_flatMap,List.map_map]
 congr 1
 apply List.map_congr_left
 intro q _
 simp [l8]
theorem fy (ts:List Tri):(ai (bP ts)).length <= ts.length:=by
 have o:=kx ts
 have h1:∀ gs:Pic,(ai (gs.map fun g=>(g.1,ko g.2))).length <= (gs.map fun g=>g.2.length).sum:=by
  intro gs
  induction gs with
  | nil=>simp [ai]
  | cons g gs ih=>
   have:=vM g.2
   rw [List.map_cons,a7,List.length_append,List.length_map,List.map_cons,List.sum_cons]
   dsimp only
   lia
 have h2:=h1 (dP (bw (ts.filter bg)))
 have h3:=o.len
 have h4:=(bU (ts.filter bg)).length_eq
 have h5:=List.length_filter_le bg ts
 have h6:ai (bP ts) = ai ((dP (bw (ts.filter bg))).map fun g=>(g.1,ko g.2)):=rfl
 rw [h6]
 lia
theorem wR {p:Pic} (c:ao p):p.length <= (ai p).length:=by
 induction p with
 | nil=>exact Nat.le_refl _
 | cons q p ih=>
  obtain ⟨⟨_,h1⟩,_,h2⟩:=pcanon_cons.mp c
  have:=ih h2
  have:=List.length_pos_iff.mpr h1
  rw [a7,List.length_append,List.length_map,List.length_cons]
  lia
theorem wZ {p:Pic} (c:ao p):∀ t ∈ ai p,t.2.1 <= t.2.2:=by
 intro t ht
 obtain ⟨q,hq,h⟩:=List.mem_flatMap.mp ht
 obtain ⟨s,hs,rfl⟩:=List.mem_map.mp h
 exact (c.1 q hq).1.1 s hs
noncomputable def joP (p q:Pic):Pic:=bP (ai p ++ ai q)
theorem CF (p q:Pic):ao (joP p q):=(bE _).1
theorem GG (p q:Pic) (x y:Int):aw (joP p q) x y ↔ aw p x y \/ aw q x y:=by
 unfold joP
 rw [(bE _).2,eO,g8,g8]
theorem CM (p q:Pic) (h:(ai p).length + (ai q).length < 15000000):Ac [ah p,ah q] = some (ah (joP p q)):=by
 have h1:=bO p (by lia)
 have h2:=bO q (by lia)
 have hl:(ai p).length + (ai q).length <= LIM:=az (by lia)
 have hm:=fT (ai p ++ ai q) (by rw [List.length_append];exact h)
 rw [List.map_append] at hm
 simp [Ac,wG,fnO,wf,h1,h2,AQ,hl,hm,joP]
theorem Ja (p q:Pic):(ai (joP p q)).length <= (ai p).length + (ai q).length:=by
 have:=fy (ai p ++ ai q)
 rwa [List.length_append] at this
theorem pA (p:Pic) (c:ao p) (n:Nat) (hs:(2 * n + 1) * (ai p).length <= 5000000):∃ q:Pic,fM [ah p,.int (n:Int)] = some (ah q) /\ ao q /\ (ai q).length <= (2 * n + 1) * (ai p).length /\ ∀ x y,aw q x y ↔ ∃ j:Int,0 <= j /\ j <= n /\ aw p x (y - j):=by
 obtain ⟨ρ',k1,q,v2,v3,rfl,a1,a3,a4⟩:=jA (c:=cK) (m:=d8)
  (fun ρ=>∃ (q:Pic) (k:Nat) (v3:Sl),ρ = [.sh (ah q),.sh (.int (n:Int)),.sh (.int (k:Int)),v3] /\ k <= n /\ ao q /\ ((ai q).length <= (k + 1) * (ai p).length \/ (k = n /\ (ai q).length <= (2 * n + 1) * (ai p).length)) /\ ∀ x y,aw q x y ↔ ∃ j:Int,0 <= j /\ j <= k /\ aw p x (y - j))
  (fun ρ=>match ρ with | [_,.sh (.int n),.sh (.int k),_]=>(n - k).toNat | _=>0)
  (fun ρ=>∃ (q:Pic) (v2 v3:Sl),ρ = [.sh (ah q),.sh (.int (n:Int)),v2,v3] /\ ao q /\ (ai q).length <= (2 * n + 1) * (ai p).length /\ ∀ x y,aw q x y ↔ ∃ j:Int,0 <= j /\ j <= n /\ aw p x (y - j))
  (by
   rintro _ ⟨q,k,v3,rfl,hk,c',hsz,hm⟩
   by_cases hc:k < n
   ·right
    have hc':(k:Int) < n:=by lia
    refine ⟨by simp [cK,hc'],?_⟩
    have hsz':(ai q).length <= (k + 1) * (ai p).length:=hsz.elim id fun h=>by lia
    generalize hst:(if (n:Int) - k < (k:Int) + 1 then (n:Int) - k else (k:Int) + 1) = st
    have hst1:1 <= st /\ st <= k + 1 /\ st <= n - k /\ (st = k + 1 \/ st = n - k):=by rw [<- hst];split <;> lia
    have e1:(k + 1) * (ai p).length <= (2 * n + 1) * (ai p).length:=Nat.mul_le_mul_right _ (by lia)
    have lq:(ai q).length <= 5000000:=by lia
    have rq:=wR c'
    have mv:=sW q 0 st (by lia) fun z hz=>by have:=dY hz;lia
    have smv:=EO q 0 st
    have jo:=CM q (mvP q 0 st) (by lia)
    have sjo:=Ja q (mvP q 0 st)
    have ek:(((k + st.toNat:Nat)):Int) = (k:Int) + st:=by lia
    refine ⟨[.sh (ah (joP q (mvP q 0 st))),.sh (.int (n:Int)),.sh (.int ((k + st.toNat:Nat):Int)),.sh (.int st)],?_,⟨joP q (mvP q 0 st),k + st.toNat,_,rfl,by lia,CF _ _,?_,fun x y=>?_⟩,by dsimp only;lia⟩
    ·rw [ek]
     simp [d8,hst,mv,jo]
    ·rcases hst1.2.2.2 with e | e
     ·left
      have e2:(k + st.toNat + 1) * (ai p).length = (k + 1) * (ai p).length + (k + 1) * (ai p).length:=by
       rw [<- Nat.add_mul]
       congr 1
       lia
      lia
     ·right
      have e2:(k + 1) * (ai p).length + (k + 1) * (ai p).length <= (2 * n + 1) * (ai p).length:=by
       rw [<- Nat.add_mul]
       exact Nat.mul_le_mul_right _ (by lia)
      exact ⟨by lia,by lia⟩
    ·rw [GG,Bv,hm,hm,show x - 0 = x by lia]
     constructor
     ·rintro (⟨j,j0,j1,g⟩ | ⟨j,j0,j1,g⟩)
      ·exact ⟨j,j0,by lia,g⟩
      ·exact ⟨st + j,by lia,by lia,by rwa [show y - (st + j) = y - st - j by lia]⟩
     ·rintro ⟨j,j0,j1,g⟩
      by_cases hj:j <= k
      ·exact .inl ⟨j,j0,hj,g⟩
      ·exact .inr ⟨j - st,by lia,by lia,by rwa [show y - st - (j - st) = y - j by lia]⟩
   ·left
    have ek:k = n:=by lia
    subst ek
    refine ⟨by simp [cK],q,_,_,rfl,c',?_,hm⟩
    rcases hsz with h | h
    ·have:(k + 1) * (ai p).length <= (2 * k + 1) * (ai p).length:=Nat.mul_le_mul_right _ (by lia)
     lia
    ·exact h.2)
  [.sh (ah p),.sh (.int (n:Int)),.sh (.int 0),.un] ⟨p,0,.un,rfl,by lia,c,.inl (by lia),fun x y=>⟨fun h=>⟨0,by lia,by lia,by rwa [show y - 0 = y by lia]⟩,fun ⟨j,j0,j1,h⟩=>by rwa [show y - j = y by lia] at h⟩⟩
 exact ⟨q,by simp [fM,gO,fnO,fI,k1],a1,a3,a4⟩
noncomputable def eP (b:Blk) (t:Tri):Tri:=(t.1 + b.2.1,t.2.1 + b.1,t.2.2 + b.2.2.1)
theorem uj {p:Pic} (c:ao p) {b:Blk} (hb:b.1 <= b.2.2.1) (x y:Int):iB ((ai p).map (eP b)) x y ↔ ∃ dx,b.1 <= dx /\ dx <= b.2.2.1 /\ aw p (x - dx) (y - b.2.1):=by
 constructor
 ·rintro ⟨_,ht0,h1,h2,h3⟩
  obtain ⟨t,ht,rfl⟩:=List.mem_map.mp ht0
  have ok:=wZ c t ht
  simp only [eP] at h1 h2 h3
  refine ⟨max b.1 (x - t.2.2),by lia,by lia,?_⟩
  exact (g8 _ _ _).mp ⟨t,ht,by lia,by lia,by lia⟩
 ·rintro ⟨dx,d1,d2,h⟩
  obtain ⟨t,ht,h1,h2,h3⟩:=(g8 _ _ _).mpr h
  exact ⟨_,List.mem_map.mpr ⟨t,ht,rfl⟩,by simp only [eP];lia,by simp only [eP];lia,by simp only [eP];lia⟩
def GrB (p:Pic) (b:Blk) (x y:Int):Prop:=∃ dx dy,kY b dx dy /\ aw p (x - dx) (y - dy)
theorem jO (p:Pic) (c:ao p) (b:Blk) (hb:BOk b) (n:Nat) (hn:b.2.2.2 - b.2.1 = n) (hs:(2 * n + 1) * (ai p).length <= 5000000):∃ ts:List Tri,cD [ah p,bI b] = some (.lst (ts.map aC)) /\ (∀ t ∈ ts,t.2.1 <= t.2.2) /\ ts.length <= (2 * n + 1) * (ai p).length /\ ∀ x y,iB ts x y ↔ GrB p b x y:=by
 have e1:(ai p).length <= (2 * n + 1) * (ai p).length:=Nat.le_mul_of_pos_left _ (by lia)
 have hl:(ai p).length <= LIM:=az (by lia)
 have h1:=bO p (by lia)
 have hc:bm (aO (ak (ag 0) (ak (ag 1) (ak (ag 2) aK)))) cA (aQ (ab (xOp bC (af 0) (xOp dIx (af 3) (xC (.int 1)))) (ab (xOp bC (af 1) (xOp dIx (af 3) (xC (.int 0)))) (ab (xOp bC (af 2) (xOp dIx (af 3) (xC (.int 2)))) aj)))) [.un,.un,.un,.sh (bI b)] ((ai p).map aC) = some (((ai p).map (eP b)).map aC):=by
  rw [List.map_map]
  exact aS aC (aC ∘ eP b) (ai p) fun q hq=>by simp [dD,atI,ixN,eP]
 have hw:∀ t ∈ (ai p).map (eP b),t.2.1 <= t.2.2:=by
  intro t ht
  obtain ⟨s,hs,rfl⟩:=List.mem_map.mp ht
  have:=wZ c s hs
  have:=hb.1
  simp only [eP]
  lia
 by_cases h0:b.2.1 = b.2.2.2
 ·refine ⟨(ai p).map (eP b),?_,hw,by rw [List.length_map];exact e1,fun x y=>?_⟩
  ·generalize ((ai p).map (eP b)).map aC = zs at hc
   simp [cD,bZ,fnO,bB,h1,hl,hc,atI,ixN,h0]
  ·rw [uj c hb.1]
   constructor
   ·rintro ⟨dx,d1,d2,h⟩
    exact ⟨dx,b.2.1,⟨d1,d2,by lia,by lia⟩,h⟩
   ·rintro ⟨dx,dy,⟨d1,d2,d3,d4⟩,h⟩
    refine ⟨dx,d1,d2,?_⟩
    rwa [show b.2.1 = dy by lia]
 ·have lw:(ai (bP ((ai p).map (eP b)))).length <= (ai p).length:=by
   have:=fy ((ai p).map (eP b))
   rwa [List.length_map] at this
  have e2:(2 * n + 1) * (ai (bP ((ai p).map (eP b)))).length <= (2 * n + 1) * (ai p).length:=Nat.mul_le_mul_left _ lw
  obtain ⟨q,a1,a2,a3,a4⟩:=pA (bP ((ai p).map (eP b))) (bE _).1 n (by lia)
  have hp:=fT ((ai p).map (eP b)) (by rw [List.length_map];lia)
  have h2:=bO q (by lia)
  have a1':fM [ah (bP ((ai p).map (eP b))),.int (b.2.2.2 - b.2.1)] = some (ah q):=by rw [hn];exact a1
  refine ⟨ai q,?_,wZ a2,by lia,fun x y=>?_⟩
  ·generalize bP ((ai p).map (eP b)) = w at hp a1'
   generalize ((ai p).map (eP b)).map aC = zs at hc hp
   simp [cD,bZ,fnO,bB,h1,hl,hc,atI,ixN,h0,hp,a1',h2]
  ·rw [g8,a4]
   constructor
   ·rintro ⟨j,j0,j1,h⟩
    rw [(bE _).2,uj c hb.1] at h
    obtain ⟨dx,d1,d2,h⟩:=h
    exact ⟨dx,b.2.1 + j,⟨d1,d2,by lia,by lia⟩,by rwa [show y - (b.2.1 + j) = y - j - b.2.1 by lia]⟩
   ·rintro ⟨dx,dy,⟨d1,d2,d3,d4⟩,h⟩
    refine ⟨dy - b.2.1,by lia,by lia,?_⟩
    rw [(bE _).2,uj c hb.1]
    exact ⟨dx,d1,d2,by rwa [show y - (dy - b.2.1) - b.2.1 = y - dy by lia]⟩
noncomputable def bq (b:Blk):Nat:=2 * (b.2.2.2 - b.2.1).toNat + 1
noncomputable def au (bs:List Blk):Nat:=(bs.map bq).sum
def GrP (p:Pic) (bs:List Blk) (x y:Int):Prop:=∃ b ∈ bs,GrB p b x y
theorem bL (as bs:List Blk):au (as ++ bs) = au as + au bs:=by unfold au;rw [List.map_append,List.sum_append]
theorem ka (p:Pic) (c:ao p) (bs:List Blk) (hb:∀ b ∈ bs,BOk b) (hs:au bs * (ai p).length <= 5000000):∃ q:Pic,e9 [ah p,.tup (bs.map bI)] = some (ah q) /\ ao q /\ (ai q).length <= au bs * (ai p).length /\ ∀ x y,aw q x y ↔ GrP p bs x y:=by
 obtain ⟨ρ',k1,ts,v3,rfl,b1,b2⟩:=cj (g:=ag 3) (m:=bX) bI (fun pre ρ=>∃ (ts:List Tri) (v3:Sl),ρ = [.sh (ah p),.sh (.tup (bs.map bI)),.ow (.lst (ts.map (O.sh ∘ aC))),v3] /\ ts.length <= au pre * (ai p).length /\ ∀ x y,iB ts x y ↔ GrP p pre x y) bs [.sh (ah p),.sh (.tup (bs.map bI)),.ow (.lst []),.un] ⟨[],_,rfl,by simp [au],fun x y=>⟨fun ⟨_,h,_⟩=>(by cases h),fun ⟨_,h,_⟩=>(by cases h)⟩⟩ (by
  rintro pre b post _ e ⟨ts,v3,rfl,l1,l2⟩
  have hbb:=hb b (by rw [e];simp)
  have hh:au pre + bq b <= au bs:=by
   rw [e,bL]
   have:au (b :: post) = bq b + au post:=rfl
   lia
  have hh2:(au pre + bq b) * (ai p).length <= au bs * (ai p).length:=Nat.mul_le_mul_right _ hh
  rw [Nat.add_mul] at hh2
  obtain ⟨us,c1,c2,c3,c4⟩:=jO p c b hbb (b.2.2.2 - b.2.1).toNat (by have:=hbb.2;lia) (by show bq b * _ <= _;lia)
  have c3':us.length <= bq b * (ai p).length:=c3
  have hl:ts.length + us.length <= LIM:=az (by lia)
  refine ⟨_,[.sh (ah p),.sh (.tup (bs.map bI)),.ow (.lst ((ts ++ us).map (O.sh ∘ aC))),.sh (bI b)],rfl,.inl ?_,ts ++ us,_,rfl,?_,fun x y=>?_⟩
  ·simp [bX,c1,hl]
  ·rw [List.length_append,bL,Nat.add_mul]
   have:au [b] = bq b:=by simp [au]
   rw [this]
   lia
  ·rw [eO,l2,c4]
   unfold GrP
   simp only [List.mem_append,List.mem_singleton]
   constructor
   ·rintro (⟨z,hz,h⟩ | h)
    ·exact ⟨z,.inl hz,h⟩
    ·exact ⟨b,.inr rfl,h⟩
   ·rintro ⟨z,hz | rfl,h⟩
    ·exact .inl ⟨z,hz,h⟩
    ·exact .inr h)
 have hp:=fT ts (by lia)
 have hl:=fy ts
 refine ⟨bP ts,?_,(bE _).1,by lia,fun x y=>by rw [(bE _).2,b2]⟩
 simp [e9,eG,fnO,cT,k1,hp,frz]
noncomputable def rT (acc:List Blk) (t:Tri):List Blk:=match acc.getLast? with
 | some l=>if l.1 = t.1 /\ l.2.2.1 = t.2.1 /\ l.2.2.2 = t.2.2 - 1 then acc.dropLast ++ [(t.1,l.2.1,t.2.1,t.2.2)] else acc ++ [(t.1,t.2.2,t.2.1,t.2.2)]
 | none=>[(t.1,t.2.2,t.2.1,t.2.2)]
theorem B5 (t:Tri):rT [] t = [(t.1,t.2.2,t.2.1,t.2.2)]:=rfl
theorem rV (acc:List Blk) (l:Blk) (t:Tri):rT (acc ++ [l]) t = if l.1 = t.1 /\ l.2.2.1 = t.2.1 /\ l.2.2.2 = t.2.2 - 1 then acc ++ [(t.1,l.2.1,t.2.1,t.2.2)] else acc ++ [l] ++ [(t.1,t.2.2,t.2.1,t.2.2)]:=by
 unfold rT
 rw [List.getLast?_append]
 simp
noncomputable def qH (ts:List Tri):List Blk:=ts.foldl rT []
theorem u6 (pre:List Tri) (t:Tri):qH (pre ++ [t]) = rT (qH pre) t:=by unfold qH;rw [List.foldl_append];rfl
theorem Gm (b c:Blk):dEq false (bI b) (bI c) = some (.bl (decide (b = c))):=by
 have h:∀ b:Blk,okD 50 (bI b) = true:=fun b=>by simp [okD,okDs]
 unfold dEq
 rw [if_pos ⟨h b,h c⟩]
 obtain ⟨b1,b2,b3,b4⟩:=b
 obtain ⟨c1,c2,c3,c4⟩:=c
 simp [eqD,eqDs,Prod.ext_iff]
 by_cases h1:b1 = c1 <;> by_cases h2:b2 = c2 <;> by_cases h3:b3 = c3 <;> by_cases h4:b4 = c4 <;> simp [h1,h2,h3,h4]
theorem IB (l:Blk) (a b y:Int):l = (a,l.2.1,b,y) ↔ l.1 = a /\ l.2.2.1 = b /\ l.2.2.2 = y:=by
 obtain ⟨b1,b2,b3,b4⟩:=l
 simp [Prod.ext_iff]
theorem xI (s0:Sl) (acc:List Blk) (t:Tri) (h:acc.length <= 15000000):bu [s0,owl (acc.map bI),.sh (.int t.1),.sh (.int t.2.1),.sh (.int t.2.2)] = some (.nx [s0,owl ((rT acc t).map bI),.sh (.int t.1),.sh (.int t.2.1),.sh (.int t.2.2)]):=by
 rcases List.eq_nil_or_concat acc with rfl | ⟨r,l,rfl⟩
 ·simp [bu,B5]
 ·rw [List.concat_eq_append] at *
  rw [rV]
  have hl:r.length + 1 <= 15000000:=by simpa using h
  have hlim:r.length + 1 < LIM:=gd (by lia)
  have at1:atI (r.map bI ++ [bI l]) (-1) = some (bI l):=iU _ _
  have ix1:atI [D.int l.1,.int l.2.1,.int l.2.2.1,.int l.2.2.2] 1 = some (.int l.2.1):=by simp [atI,ixN]
  have de:=Gm l (t.1,l.2.1,t.2.1,t.2.2 - 1)
  have ee:=IB l t.1 t.2.1 (t.2.2 - 1)
  by_cases hc:l.1 = t.1 /\ l.2.2.1 = t.2.1 /\ l.2.2.2 = t.2.2 - 1
  ·rw [if_pos hc]
   rw [decide_eq_true (ee.mpr hc)] at de
   simp [bu,at1,ix1,de,sJ]
  ·rw [if_neg hc]
   rw [decide_eq_false fun z=>hc (ee.mp z)] at de
   simp [bu,at1,ix1,de,hlim]
structure BsOk (bs:List Blk) (ts:List Tri):Prop where
 ok:∀ b ∈ bs,BOk b
 mem:∀ x y,(∃ b ∈ bs,kY b x y) ↔ ∃ t ∈ ts,t.1 <= x /\ x <= t.2.1 /\ y = t.2.2
 len:au bs + bs.length = 2 * ts.length
theorem o5 (bs:List Blk) (b:Blk) (x y:Int):(∃ c ∈ bs ++ [b],kY c x y) ↔ (∃ c ∈ bs,kY c x y) \/ kY b x y:=by
 constructor
 ·rintro ⟨c,hc,h⟩
  rcases List.mem_append.mp hc with hc | hc
  ·exact .inl ⟨c,hc,h⟩
  ·rw [List.mem_singleton] at hc;subst hc;exact .inr h
 ·rintro (⟨c,hc,h⟩ | h)
  ·exact ⟨c,List.mem_append_left _ hc,h⟩
  ·exact ⟨b,List.mem_append_right _ (List.mem_singleton.mpr rfl),h⟩
theorem ze (ts:List Tri) (t:Tri) (x y:Int):(∃ s ∈ ts ++ [t],s.1 <= x /\ x <= s.2.1 /\ y = s.2.2) ↔ (∃ s ∈ ts,s.1 <= x /\ x <= s.2.1 /\ y = s.2.2) \/ (t.1 <= x /\ x <= t.2.1 /\ y = t.2.2):=by
 constructor
 ·rintro ⟨c,hc,h⟩
  rcases List.mem_append.mp hc with hc | hc
  ·exact .inl ⟨c,hc,h⟩
  ·rw [List.mem_singleton] at hc;subst hc;exact .inr h
 ·rintro (⟨c,hc,h⟩ | h)
  ·exact ⟨c,List.mem_append_left _ hc,h⟩
  ·exact ⟨t,List.mem_append_right _ (List.mem_singleton.mpr rfl),h⟩
theorem cQ (b:Blk):au [b] = bq b:=by simp [au]
theorem DS {bs:List Blk} {ts:List Tri} {t:Tri} (o:BsOk bs ts) (ht:t.1 <= t.2.1):BsOk (rT bs t) (ts ++ [t]):=by
 have new:∀ x y,kY (t.1,t.2.2,t.2.1,t.2.2) x y ↔ t.1 <= x /\ x <= t.2.1 /\ y = t.2.2:=fun x y=>by
  unfold kY
  dsimp only
  constructor
  ·rintro ⟨h1,h2,h3,h4⟩;exact ⟨h1,h2,by lia⟩
  ·rintro ⟨h1,h2,h3⟩;exact ⟨h1,h2,by lia,by lia⟩
 have hn:bq (t.1,t.2.2,t.2.1,t.2.2) = 1:=by simp [bq]
 have app:BsOk (bs ++ [(t.1,t.2.2,t.2.1,t.2.2)]) (ts ++ [t]):=by
  refine ⟨fun b hb=>?_,fun x y=>by rw [o5,ze,o.mem,new],?_⟩
  ·rcases List.mem_append.mp hb with hb | hb
   ·exact o.ok b hb
   ·rw [List.mem_singleton] at hb;subst hb;exact ⟨ht,Int.le_refl _⟩
  ·have:=o.len
   rw [bL,cQ,hn,List.length_append,List.length_append,List.length_singleton,List.length_singleton]
   lia
 rcases List.eq_nil_or_concat bs with rfl | ⟨r,l,rfl⟩
 ·exact app
 ·rw [List.concat_eq_append] at *
  rw [rV]
  by_cases hc:l.1 = t.1 /\ l.2.2.1 = t.2.1 /\ l.2.2.2 = t.2.2 - 1
  ·rw [if_pos hc]
   have lo:=o.ok l (by simp)
   refine ⟨fun b hb=>?_,fun x y=>?_,?_⟩
   ·rcases List.mem_append.mp hb with hb | hb
    ·exact o.ok b (List.mem_append_left _ hb)
    ·rw [List.mem_singleton] at hb;subst hb
     have:=lo.2
     exact ⟨ht,by dsimp only;lia⟩
   ·rw [ze,<- o.mem,o5,o5,or_assoc]
    refine or_congr Iff.rfl ?_
    have:=lo.2
    unfold kY
    dsimp only
    constructor
    ·rintro ⟨h1,h2,h3,h4⟩
     by_cases e:y = t.2.2
     ·exact .inr ⟨h1,h2,e⟩
     ·exact .inl ⟨by lia,by lia,h3,by lia⟩
    ·rintro (⟨h1,h2,h3,h4⟩ | ⟨h1,h2,h3⟩)
     ·exact ⟨by lia,by lia,h3,by lia⟩
     ·exact ⟨h1,h2,by lia,by lia⟩
   ·have h1:=o.len
    have h2:=lo.2
    have h3:bq (t.1,l.2.1,t.2.1,t.2.2) = bq l + 2:=by unfold bq;dsimp only;lia
    rw [bL,cQ,List.length_append,List.length_singleton] at h1
    rw [bL,cQ,h3,List.length_append,List.length_append,List.length_singleton,List.length_singleton]
    lia
  ·rw [if_neg hc]
   exact app
theorem A1:∀ (post pre:List Tri),(∀ t ∈ pre ++ post,t.1 <= t.2.1) -> BsOk (qH pre) pre -> BsOk (qH (pre ++ post)) (pre ++ post)
 | [],pre,_,o=>by rw [List.append_nil];exact o
 | t :: post,pre,h,o=>by
  have e:pre ++ t :: post = (pre ++ [t]) ++ post:=by simp
  rw [e] at h ⊢
  refine A1 post (pre ++ [t]) h ?_
  rw [u6]
  exact DS o (h t (by simp))
theorem xH {ts:List Tri} (h:∀ t ∈ ts,t.1 <= t.2.1):BsOk (qH ts) ts:=by
 have:=A1 ts [] (by simpa using h) ⟨fun _ h=>(by cases h),fun x y=>⟨fun ⟨_,h,_⟩=>(by cases h),fun ⟨_,h,_⟩=>(by cases h)⟩,rfl⟩
 simpa using this
noncomputable def eg (p:Pic):List Blk:=qH (bw ((ai p).map fun t=>(t.2.1,t.2.2,t.1)))
theorem j9 (p:Pic) (c:ao p) (h:(ai p).length < 15000000):j8 [ah p] = some (.tup ((eg p).map bI)) /\ (∀ b ∈ eg p,BOk b) /\ au (eg p) <= 2 * (ai p).length /\ ∀ x y,(∃ b ∈ eg p,kY b x y) ↔ aw p x y:=by
 have hperm:=bU ((ai p).map fun t=>(t.2.1,t.2.2,t.1))
 have hlen:(bw ((ai p).map fun t=>(t.2.1,t.2.2,t.1))).length = (ai p).length:=by rw [hperm.length_eq,List.length_map]
 have hok:∀ t ∈ bw ((ai p).map fun t=>(t.2.1,t.2.2,t.1)),t.1 <= t.2.1:=by
  intro t ht
  obtain ⟨s,hs,rfl⟩:=List.mem_map.mp (hperm.mem_iff.mp ht)
  exact wZ c s hs
 have o:=xH hok
 have ol:=o.len
 refine ⟨?_,o.ok,by have:=o.len;show au (qH _) <= _;lia,fun x y=>?_⟩
 ·obtain ⟨ρ',k1,v2,v3,v4,rfl⟩:=cj (g:=aO (ak (ag 2) (ak (ag 3) (ak (ag 4) aK)))) (m:=bu) aC (fun pre ρ=>∃ v2 v3 v4,ρ = [.sh (ah p),owl ((qH pre).map bI),v2,v3,v4]) (bw ((ai p).map fun t=>(t.2.1,t.2.2,t.1))) [.sh (ah p),.ow (.lst []),.un,.un,.un] ⟨_,_,_,rfl⟩ (by
   rintro pre t post _ e ⟨v2,v3,v4,rfl⟩
   have hp:pre.length <= (ai p).length:=by
    rw [<- hlen,e,List.length_append];lia
   have opre:=xH (ts:=pre) fun t ht=>hok t (by rw [e];exact List.mem_append_left _ ht)
   have:=opre.len
   have h1:(qH pre).length <= au (qH pre):=by
    have:∀ bs:List Blk,bs.length <= au bs:=by
     intro bs
     induction bs with
     | nil=>exact Nat.zero_le _
     | cons b bs ih=>
      have e2:au (b :: bs) = bq b + au bs:=rfl
      rw [e2,List.length_cons]
      unfold bq
      lia
    exact this _
   refine ⟨_,_,rfl,.inl (xI _ (qH pre) t (by lia)),.sh (.int t.1),.sh (.int t.2.1),.sh (.int t.2.2),by rw [u6]⟩)
  have h1:=bO p (by lia)
  have hl:(ai p).length <= LIM:=az (by lia)
  have hc:bm (aO (ak (ag 0) (ak (ag 1) (ak (ag 2) aK)))) cA (aQ (ab (am 1) (ab (am 2) (ab (am 0) aj)))) [.un,.un,.un] ((ai p).map aC) = some (((ai p).map fun t=>(t.2.1,t.2.2,t.1)).map aC):=by
   rw [List.map_map]
   exact aS aC (aC ∘ fun t=>(t.2.1,t.2.2,t.1)) (ai p) fun q hq=>by simp [dD]
  have hb:=jk ((ai p).map fun t=>(t.2.1,t.2.2,t.1)) (by rw [List.length_map];exact h)
  have k2:e8 (aO (ak (ag 2) (ak (ag 3) (ak (ag 4) aK)))) bu ((bw ((ai p).map fun t=>(t.2.1,t.2.2,t.1))).map aC) [.sh (ah p),.ow (.lst []),.un,.un,.un] = some (.nx [.sh (ah p),owl ((eg p).map bI),v2,v3,v4]):=k1
  generalize eg p = bs at k2
  generalize (bw ((ai p).map fun t=>(t.2.1,t.2.2,t.1))).map aC = zs at k2 hb
  generalize ((ai p).map fun t=>(t.2.1,t.2.2,t.1)).map aC = ws at hb hc
  simp [j8,jn,fnO,ic,h1,hl,hc,hb,k2]
 ·unfold eg
  rw [o.mem,<- g8]
  constructor
  ·rintro ⟨t,ht,h1,h2,h3⟩
   obtain ⟨s,hs,rfl⟩:=List.mem_map.mp (hperm.mem_iff.mp ht)
   exact ⟨s,hs,h3.symm,h1,h2⟩
  ·rintro ⟨s,hs,h1,h2,h3⟩
   exact ⟨_,hperm.mem_iff.mpr (List.mem_map.mpr ⟨s,hs,rfl⟩),h2,h3,h1.symm⟩
noncomputable abbrev fc (bs:List Blk):D:=.tup (bs.map bI)
noncomputable abbrev cu (ps:List (List Blk)):D:=.tup (ps.map fc)
noncomputable abbrev ar (N:Str) (ps:List (List Blk)):D:=.ins N ["parts"] [cu ps]
def B2 (bs:List Blk) (x y:Int):Prop:=∃ b ∈ bs,kY b x y
noncomputable def Off:List (List Blk) -> Int -> Int -> Prop
 | [],x,y=>x = 0 /\ y = 0
 | bs :: r,x,y=>∃ u v,B2 bs u v /\ Off r (x - u) (y - v)
noncomputable def dW:List (List Blk) -> Nat
 | []=>1
 | bs :: r=>au bs * dW r
def FOk (ps:List (List Blk)):Prop:=∀ bs ∈ ps,bs ≠ [] /\ ∀ b ∈ bs,BOk b
theorem ju:∀ (a b:List (List Blk)),dW (a ++ b) = dW a * dW b
 | [],b=>(Nat.one_mul _).symm
 | x :: a,b=>by rw [List.cons_append,dW,dW,ju a b,Nat.mul_assoc]
theorem vn {bs:List Blk} (h:bs ≠ []):1 <= au bs:=by
 cases bs with
 | nil=>exact absurd rfl h
 | cons b bs=>
  have e:au (b :: bs) = bq b + au bs:=rfl
  rw [e]
  unfold bq
  lia
theorem vK:∀ {ps:List (List Blk)},FOk ps -> 1 <= dW ps
 | [],_=>Nat.le_refl _
 | bs :: r,h=>by
  have h1:=vn (h bs List.mem_cons_self).1
  have h2:=vK (ps:=r) fun x hx=>h x (List.mem_cons_of_mem _ hx)
  rw [dW]
  exact Nat.mul_pos h1 h2
theorem GC (p:Pic) (bs:List Blk) (x y:Int):GrP p bs x y ↔ ∃ u v,B2 bs u v /\ aw p (x - u) (y - v):=by
 constructor
 ·rintro ⟨b,hb,dx,dy,h1,h2⟩
  exact ⟨dx,dy,⟨b,hb,h1⟩,h2⟩
 ·rintro ⟨dx,dy,⟨b,hb,h1⟩,h2⟩
  exact ⟨b,hb,dx,dy,h1,h2⟩
noncomputable def shr (r:R) (lo hi:Int):R:=ko (r.map fun p=>(p.1 - lo,p.2 - hi))
theorem qQ (r:R) (lo hi:Int) (h:r.length <= 5000000):gi [a9 r,.int lo,.int hi] = some (a9 (shr r lo hi)):=by
 have hl:r.length <= LIM:=az (by lia)
 have hc:bm (aO (ak (ag 0) (ak (ag 1) aK))) cA (aQ (ab (xOp hE (af 0) (af 2)) (ab (xOp hE (af 1) (af 3)) aj))) [.un,.un,.sh (.int lo),.sh (.int hi)] (r.map prD) = some (r.map fun p=>prD (p.1 - lo,p.2 - hi)):=aS prD _ r fun p _=>by simp [dD]
 have hm:=qA (r.map fun p=>(p.1 - lo,p.2 - hi)) (by rw [List.length_map];lia)
 rw [Ab,List.map_map] at hm
 have e:(prD ∘ fun p:Int × Int=>(p.1 - lo,p.2 - hi)) = fun p=>prD (p.1 - lo,p.2 - hi):=rfl
 rw [e] at hm
 try simp at hm
 try simp at hc
 simp [gi,iK,fnO,f7,hl,hc,hm,shr]
theorem BE (r:R) (lo hi x:Int):Mem (shr r lo hi) x ↔ ∃ p ∈ r,p.1 <= x + lo /\ x + hi <= p.2:=by
 unfold shr
 rw [(eM _).2 x]
 constructor
 ·rintro ⟨q,hq,h1,h2⟩
  obtain ⟨p,hp,rfl⟩:=List.mem_map.mp hq
  dsimp only at h1 h2
  exact ⟨p,hp,by lia,by lia⟩
 ·rintro ⟨p,hp,h1,h2⟩
  exact ⟨_,List.mem_map.mpr ⟨p,hp,rfl⟩,by dsimp only;lia,by dsimp only;lia⟩
theorem Dg (r:R) (lo hi:Int):aV (shr r lo hi):=(eM _).1
theorem Hj (r:R) (lo hi:Int):(shr r lo hi).length <= r.length:=by
 have:=vM (r.map fun p=>(p.1 - lo,p.2 - hi))
 rw [List.length_map] at this
 exact this
def Ie (P:Int -> Int -> Prop) (b:Blk) (x y:Int):Prop:=∀ dx dy,kY b dx dy -> P (x + dx) (y + dy)
theorem kN {r:R} (c:aV r) {i j:Nat} {p q:Int × Int} (hi:r[i]? = some p) (hj:r[j]? = some q) (hij:i < j):p.2 + 2 <= q.1:=by
 obtain ⟨h1,rfl⟩:=List.getElem?_eq_some_iff.mp hi
 obtain ⟨h2,rfl⟩:=List.getElem?_eq_some_iff.mp hj
 exact List.pairwise_iff_getElem.mp c.2 i j h1 h2 hij
theorem yG {r:R} (c:aV r) {u v:Int} (h:u <= v) (hm:∀ z,u <= z -> z <= v -> Mem r z):∃ s ∈ r,s.1 <= u /\ v <= s.2:=by
 obtain ⟨s,hs,h1,h2⟩:=hm u (Int.le_refl _) h
 refine ⟨s,hs,h1,?_⟩
 by_cases hv:v <= s.2
 ·exact hv
 ·obtain ⟨t,ht,k1,k2⟩:=hm (s.2 + 1) (by lia) (by lia)
  obtain ⟨i,hi⟩:=List.getElem?_of_mem hs
  obtain ⟨j,hj⟩:=List.getElem?_of_mem ht
  rcases Nat.lt_trichotomy i j with hij | hij | hij
  ·have:=kN c hi hj hij
   lia
  ·subst hij
   rw [hi] at hj
   cases hj
   lia
  ·have:=kN c hj hi hij
   have:=c.1 s hs
   lia
def Kz (p:Pic) (u v y:Int):Prop:=∃ q ∈ p,q.1 = y /\ ∃ s ∈ q.2,s.1 <= u /\ v <= s.2
theorem El {p:Pic} (c:ao p) {u v y:Int} (h:u <= v):Kz p u v y ↔ ∀ z,u <= z -> z <= v -> aw p z y:=by
 constructor
 ·rintro ⟨q,hq,e,s,hs,h1,h2⟩ z k1 k2
  exact ⟨q,hq,e,s,hs,by lia,by lia⟩
 ·intro hm
  have hr:=ip c y
  obtain ⟨s,hs,h1,h2⟩:=yG hr h fun z k1 k2=>(kT c z y).mpr (hm z k1 k2)
  obtain ⟨q,hq,e,_⟩:=hm u (Int.le_refl _) h
  refine ⟨q,hq,e,s,?_,h1,h2⟩
  rw [<- e,gQ c hq] at hs
  exact hs
noncomputable def uD (p:Pic) (b:Blk):Pic:=(p.map fun q=>(q.1 - b.2.1,shr q.2 b.1 b.2.2.1)).filter f9
theorem Aj {p:Pic} (c:ao p) (b:Blk):ao (uD p b):=by
 refine ⟨fun q hq=>?_,?_⟩
 ·obtain ⟨h1,h2⟩:=List.mem_filter.mp hq
  obtain ⟨z,hz,rfl⟩:=List.mem_map.mp h1
  exact ⟨Dg _ _ _,by simpa [f9] using h2⟩
 ·refine List.Pairwise.filter _ ?_
  rw [List.pairwise_map]
  exact c.2.imp fun {s t} h=>by dsimp only;lia
theorem yx {p:Pic} (c:ao p) {b:Blk} (hb:b.1 <= b.2.2.1) (x y:Int):aw (uD p b) x y ↔ ∀ dx,b.1 <= dx -> dx <= b.2.2.1 -> aw p (x + dx) (y + b.2.1):=by
 have h1:aw (uD p b) x y ↔ Kz p (x + b.1) (x + b.2.2.1) (y + b.2.1):=by
  constructor
  ·rintro ⟨q,hq,e,hm⟩
   obtain ⟨z,hz,rfl⟩:=List.mem_map.mp (List.mem_filter.mp hq).1
   dsimp only at e hm
   obtain ⟨s,hs,k1,k2⟩:=(BE _ _ _ _).mp hm
   exact ⟨z,hz,by lia,s,hs,k1,k2⟩
  ·rintro ⟨z,hz,e,s,hs,k1,k2⟩
   have hm:Mem (shr z.2 b.1 b.2.2.1) x:=(BE _ _ _ _).mpr ⟨s,hs,k1,k2⟩
   refine ⟨(z.1 - b.2.1,shr z.2 b.1 b.2.2.1),List.mem_filter.mpr ⟨List.mem_map.mpr ⟨z,hz,rfl⟩,?_⟩,by dsimp only;lia,hm⟩
   unfold f9
   rw [Bool.not_eq_true',decide_eq_false_iff_not]
   intro e'
   dsimp only at e'
   rw [e'] at hm
   exact aY _ hm
 rw [h1,El c (by lia)]
 constructor
 ·intro h dx k1 k2
  exact h (x + dx) (by lia) (by lia)
 ·intro h z k1 k2
  have:=h (z - x) (by lia) (by lia)
  rwa [show x + (z - x) = z by lia] at this
theorem jy {f:Int × R -> Int × R}:∀ p:Pic,(∀ q ∈ p,(f q).2.length <= q.2.length) -> (ai (p.map f)).length <= (ai p).length
 | [],_=>Nat.le_refl _
 | q :: p,h=>by
  have h1:=jy p fun s hs=>h s (List.mem_cons_of_mem _ hs)
  have h2:=h q List.mem_cons_self
  rw [List.map_cons,a7,a7,List.length_append,List.length_append,List.length_map,List.length_map]
  lia
theorem ER (p:Pic) (b:Blk):(uD p b).length <= p.length /\ (ai (uD p b)).length <= (ai p).length:=by
 unfold uD
 rw [fg]
 refine ⟨?_,jy p fun q _=>Hj _ _ _⟩
 have:=List.length_filter_le f9 (p.map fun q=>(q.1 - b.2.1,shr q.2 b.1 b.2.2.1))
 rwa [List.length_map] at this
theorem yW:∀ (q p:Pic),p.Pairwise (fun s t=>s.1 < t.1) -> (p.map fun s=>(bj q s.1).length).sum <= (ai q).length
 | [],p,_=>by
  have:∀ p:Pic,(p.map fun s=>(bj [] s.1).length).sum = 0:=by
   intro p
   induction p with
   | nil=>rfl
   | cons s p ih=>rw [List.map_cons,List.sum_cons,ih];rfl
  rw [this]
  exact Nat.zero_le _
 | t :: q,p,hp=>by
  have ih:=yW q p hp
  have key:∀ p:Pic,p.Pairwise (fun s t=>s.1 < t.1) -> (p.map fun s=>(bj (t :: q) s.1).length).sum <= t.2.length + (p.map fun s=>(bj q s.1).length).sum /\ ((∀ s ∈ p,t.1 ≠ s.1) -> (p.map fun s=>(bj (t :: q) s.1).length).sum <= (p.map fun s=>(bj q s.1).length).sum):=by
   intro p
   induction p with
   | nil=>intro _;simp
   | cons s p ihp=>
    intro hp
    obtain ⟨k1,k2⟩:=List.pairwise_cons.mp hp
    obtain ⟨i1,i2⟩:=ihp k2
    have er:bj (t :: q) s.1 = if t.1 = s.1 then t.2 else bj q s.1:=by
     unfold bj
     rw [List.find?_cons]
     by_cases h:t.1 = s.1 <;> simp [h]
    simp only [List.map_cons,List.sum_cons,er]
    by_cases h:t.1 = s.1
    ·rw [if_pos h]
     refine ⟨?_,fun hn=>absurd h (hn s List.mem_cons_self)⟩
     have:=i2 fun z hz e=>by have:=k1 z hz;lia
     lia
    ·rw [if_neg h]
     refine ⟨by lia,fun hn=>?_⟩
     have:=i2 fun z hz=>hn z (List.mem_cons_of_mem _ hz)
     lia
  have:=(key p hp).1
  rw [a7,List.length_append,List.length_map]
  lia
theorem DZ {p q:Pic} (cp:ao p):(ai (cmP p q)).length <= (ai p).length + (ai q).length:=by
 have h1:=yW q p cp.2
 have key:∀ p:Pic,(ai (p.map fun s=>(s.1,c9 s.2 (bj q s.1)))).length <= (ai p).length + (p.map fun s=>(bj q s.1).length).sum:=by
  intro p
  induction p with
  | nil=>simp [ai]
  | cons s p ih=>
   have:=xN _ s.2 (bj q s.1) rfl
   rw [List.map_cons,a7,a7,List.length_append,List.length_append,List.length_map,List.length_map,List.map_cons,List.sum_cons]
   dsimp only
   lia
 unfold cmP u7
 rw [fg]
 have:=key p
 lia
theorem A4 (p q:Pic):(cmP p q).length <= p.length:=by
 unfold cmP u7
 have:=List.length_filter_le f9 (p.map fun s=>(s.1,c9 s.2 (bj q s.1)))
 rwa [List.length_map] at this
theorem pz (p:Pic) (c:ao p) (n:Nat) (hp:p.length <= 5000000) (hs:(2 * n + 1) * (ai p).length <= 5000000):∃ q:Pic,fL [ah p,.int (n:Int)] = some (ah q) /\ ao q /\ q.length <= p.length /\ (ai q).length <= (2 * n + 1) * (ai p).length /\ ∀ x y,aw q x y ↔ ∀ j:Int,0 <= j -> j <= n -> aw p x (y + j):=by
 obtain ⟨ρ',k1,q,v2,v3,rfl,a1,a2,a3,a4⟩:=jA (c:=cJ) (m:=d7)
  (fun ρ=>∃ (q:Pic) (k:Nat) (v3:Sl),ρ = [.sh (ah q),.sh (.int (n:Int)),.sh (.int (k:Int)),v3] /\ k <= n /\ ao q /\ q.length <= p.length /\ ((ai q).length <= (k + 1) * (ai p).length \/ (k = n /\ (ai q).length <= (2 * n + 1) * (ai p).length)) /\ (k = 0 -> (ai q).length <= (ai p).length) /\ ∀ x y,aw q x y ↔ ∀ j:Int,0 <= j -> j <= k -> aw p x (y + j))
  (fun ρ=>match ρ with | [_,.sh (.int n),.sh (.int k),_]=>(n - k).toNat | _=>0)
  (fun ρ=>∃ (q:Pic) (v2 v3:Sl),ρ = [.sh (ah q),.sh (.int (n:Int)),v2,v3] /\ ao q /\ q.length <= p.length /\ (ai q).length <= (2 * n + 1) * (ai p).length /\ ∀ x y,aw q x y ↔ ∀ j:Int,0 <= j -> j <= n -> aw p x (y + j))
  (by
   rintro _ ⟨q,k,v3,rfl,hk,c',hl,hsz,h0,hm⟩
   by_cases hc:k < n
   ·right
    have hc':(k:Int) < n:=by lia
    refine ⟨by simp [cJ,hc'],?_⟩
    have hsz':(ai q).length <= (k + 1) * (ai p).length:=hsz.elim id fun h=>by lia
    generalize hst:(if (n:Int) - k < (k:Int) + 1 then (n:Int) - k else (k:Int) + 1) = st
    have hst1:1 <= st /\ st <= k + 1 /\ st <= n - k /\ (st = k + 1 \/ st = n - k):=by rw [<- hst];split <;> lia
    have e1:(k + 1) * (ai p).length <= (2 * n + 1) * (ai p).length:=Nat.mul_le_mul_right _ (by lia)
    have lq:(ai q).length <= 5000000:=by lia
    have mv:=sW q 0 (-st) (by lia) fun z hz=>by have:=dY hz;lia
    have cmv:=CV c' 0 (-st)
    have lmv:(mvP q 0 (-st)).length = q.length:=by unfold mvP;rw [List.length_map]
    have smv:=EO q 0 (-st)
    have cm:=qz (p:=q) (q:=mvP q 0 (-st)) cmv (by lia) (by lia) (by lia)
    have scm:=DZ (p:=q) (q:=mvP q 0 (-st)) c'
    have rcm:=A4 q (mvP q 0 (-st))
    have ek:(((k + st.toNat:Nat)):Int) = (k:Int) + st:=by lia
    refine ⟨[.sh (ah (cmP q (mvP q 0 (-st)))),.sh (.int (n:Int)),.sh (.int ((k + st.toNat:Nat):Int)),.sh (.int st)],?_,⟨cmP q (mvP q 0 (-st)),k + st.toNat,_,rfl,by lia,ve c' cmv,by lia,?_,fun z=>by lia,fun x y=>?_⟩,by dsimp only;lia⟩
    ·rw [ek]
     simp [d7,hst,mv,cm]
    ·rcases hst1.2.2.2 with e | e
     ·left
      have e2:(k + st.toNat + 1) * (ai p).length = (k + 1) * (ai p).length + (k + 1) * (ai p).length:=by
       rw [<- Nat.add_mul]
       congr 1
       lia
      lia
     ·right
      have e2:(k + 1) * (ai p).length + (k + 1) * (ai p).length <= (2 * n + 1) * (ai p).length:=by
       rw [<- Nat.add_mul]
       exact Nat.mul_le_mul_right _ (by lia)
      exact ⟨by lia,by lia⟩
    ·rw [A3 c' cmv,Bv,hm,hm,show x - 0 = x by lia,show y - -st = y + st by lia]
     constructor
     ·rintro ⟨g1,g2⟩ j j0 j1
      by_cases hj:j <= k
      ·exact g1 j j0 hj
      ·have:=g2 (j - st) (by lia) (by lia)
       rwa [show y + st + (j - st) = y + j by lia] at this
     ·intro g
      refine ⟨fun j j0 j1=>g j j0 (by lia),fun j j0 j1=>?_⟩
      have:=g (st + j) (by lia) (by lia)
      rwa [show y + (st + j) = y + st + j by lia] at this
   ·left
    have ek:k = n:=by lia
    subst ek
    refine ⟨by simp [cJ],q,_,_,rfl,c',hl,?_,hm⟩
    rcases hsz with h | h
    ·have:(k + 1) * (ai p).length <= (2 * k + 1) * (ai p).length:=Nat.mul_le_mul_right _ (by lia)
     lia
    ·exact h.2)
  [.sh (ah p),.sh (.int (n:Int)),.sh (.int 0),.un] ⟨p,0,.un,rfl,by lia,c,Nat.le_refl _,.inl (by lia),fun _=>Nat.le_refl _,fun x y=>⟨fun h j j0 j1=>by rwa [show y + j = y by lia],fun h=>by have:=h 0 (by lia) (by lia);rwa [show y + 0 = y by lia] at this⟩⟩
 exact ⟨q,by simp [fL,gN,fnO,fH,k1],a1,a2,a3,a4⟩
theorem fi (p:Pic) (c:ao p) (b:Blk) (hb:BOk b) (n:Nat) (hn:b.2.2.2 - b.2.1 = n) (hp:p.length <= 5000000) (hs:(2 * n + 1) * (ai p).length <= 5000000) (hr:∀ q ∈ p,q.2.length <= 5000000):∃ q:Pic,cE [ah p,bI b] = some (ah q) /\ ao q /\ q.length <= p.length /\ (ai q).length <= (2 * n + 1) * (ai p).length /\ ∀ x y,aw q x y ↔ Ie (aw p) b x y:=by
 have hl:p.length <= LIM:=az (by lia)
 have hc:bm (aO (ak (ag 0) (ak (ag 1) aK))) cA (aQ (ab (xOp hE (af 0) (xOp dIx (af 2) (xC (.int 1)))) (ab (av gi (ab (am 1) (ab (xOp dIx (af 2) (xC (.int 0))) (ab (xOp dIx (af 2) (xC (.int 2))) aj)))) aj))) [.un,.un,.sh (bI b)] (p.map pyD) = some ((p.map fun q=>(q.1 - b.2.1,shr q.2 b.1 b.2.2.1)).map pyD):=by
  rw [List.map_map]
  exact aS pyD (fun q=>pyD (q.1 - b.2.1,shr q.2 b.1 b.2.2.1)) p fun q hq=>by
   have a:=qQ q.2 b.1 b.2.2.1 (hr q hq)
   simp [dD,a,atI,ixN]
 have hm:=dg (p.map fun q=>(q.1 - b.2.1,shr q.2 b.1 b.2.2.1)) (by rw [List.length_map];lia)
 have hnl:=ER p b
 have e1:(2 * n + 1) * (ai (uD p b)).length <= (2 * n + 1) * (ai p).length:=Nat.mul_le_mul_left _ hnl.2
 obtain ⟨q,a1,a2,a3,a4,a5⟩:=pz (uD p b) (Aj c b) n (by lia) (by lia)
 refine ⟨q,?_,a2,by lia,by lia,fun x y=>?_⟩
 ·have a1':fL [ah (uD p b),.int (b.2.2.2 - b.2.1)] = some (ah q):=by rw [hn];exact a1
  have hm':bn [.lst ((p.map fun q=>(q.1 - b.2.1,shr q.2 b.1 b.2.2.1)).map pyD)] = some (ah (uD p b)):=hm
  generalize (p.map fun q=>(q.1 - b.2.1,shr q.2 b.1 b.2.2.1)).map pyD = zs at hc hm'
  simp [cE,dB,fnO,cB,hl,hc,hm',a1',atI,ixN]
 ·rw [a5]
  constructor
  ·intro h dx dy hd
   have h1:=(yx c hb.1 x (y + (dy - b.2.1))).mp (h (dy - b.2.1) (by have:=hd.2.2.1;lia) (by have:=hd.2.2.2;lia)) dx hd.1 hd.2.1
   rwa [show y + (dy - b.2.1) + b.2.1 = y + dy by lia] at h1
  ·intro h j j0 j1
   rw [yx c hb.1]
   intro dx d0 d1
   have:=h dx (j + b.2.1) ⟨d0,d1,by lia,by lia⟩
   rwa [show y + (j + b.2.1) = y + j + b.2.1 by lia] at this
theorem sS {α:Type} (l:List α) (k:α -> Int) (enc:α -> D) (f g:Int) (he:∀ a,dIx (enc a) (.int 0) = some (.int (k a))) (hl:l.length <= 15500000) (pw:l.Pairwise fun a b=>k a < k b) :
  ∃ l':List α,aX [.tup (l.map enc),.int f,.int g] = some (.tup (l'.map enc)) /\ l'.Sublist l /\ ∀ a ∈ l,k a <= g -> (∀ b ∈ l,k a < k b -> f < k b) -> a ∈ l':=by
 obtain ⟨n1,a1,b1,c1⟩:=fw l k enc f he hl pw
 obtain ⟨n2,a2,b2,c2⟩:=fw l k enc g he hl pw
 refine ⟨eB l (some ((n1 - 1:Nat):Int)) (some (n2:Int)),?_,?_,fun a ha hg hb=>?_⟩
 ·have e1:(if ((n1:Int) - 1) > 0 then (n1:Int) - 1 else 0) = ((n1 - 1:Nat):Int):=by split <;> lia
  have e1':(if 1 < n1 then (n1:Int) - 1 else 0) = ((n1 - 1:Nat):Int):=by split <;> lia
  have e1'':(if (1:Int) < (n1:Int) then (n1:Int) - 1 else 0) = ((n1 - 1:Nat):Int):=by split <;> lia
  simp [aX,fx,fnO,d9,b1,b2,kO,e1,e1',e1'',dSl]
 ·unfold eB
  exact (List.take_sublist _ _).trans (List.drop_sublist _ _)
 ·obtain ⟨i,hi⟩:=List.getElem?_of_mem ha
  have hil:=(List.getElem?_eq_some_iff.mp hi).1
  have h2:=(c2 i a hi).mp hg
  have h1:n1 - 1 <= i:=by
   by_cases h:n1 - 1 <= i
   ·exact h
   ·exfalso
    obtain ⟨b,hb'⟩:∃ b,l[i + 1]? = some b:=⟨_,List.getElem?_eq_getElem (show i + 1 < l.length by lia)⟩
    have h3:=(c1 (i + 1) b hb').mpr (by lia)
    obtain ⟨l1,e1⟩:=List.getElem?_eq_some_iff.mp hi
    obtain ⟨l2,e2⟩:=List.getElem?_eq_some_iff.mp hb'
    have h4:=List.pairwise_iff_getElem.mp pw i (i + 1) l1 l2 (by lia)
    rw [e1,e2] at h4
    have:=hb b (List.mem_of_getElem? hb') h4
    lia
  unfold eB
  rw [kU (by lia),kU (by lia),Int.toNat_natCast,Int.toNat_natCast,Nat.min_eq_left (by lia:n1 - 1 <= l.length),Nat.min_eq_left a2]
  refine List.mem_of_getElem? (i:=i - (n1 - 1)) ?_
  rw [List.getElem?_take_of_lt (by lia),List.getElem?_drop,show n1 - 1 + (i - (n1 - 1)) = i by lia]
  exact hi
theorem Fy {r:R} (c:aV r) (h:r.length <= 15500000) (f g:Int):∃ r':R,aX [a9 r,.int f,.int g] = some (a9 r') /\ r'.Sublist r /\ ∀ x,f <= x -> x <= g -> Mem r x -> Mem r' x:=by
 have pw:r.Pairwise fun a b=>a.1 < b.1:=by
  refine List.Pairwise.imp_of_mem ?_ c.2
  intro p q hp _ h
  have:=c.1 p hp
  lia
 obtain ⟨r',h1,h2,h3⟩:=sS r (·.1) prD f g (fun a=>by simp) h pw
 refine ⟨r',h1,h2,fun x hf hg ⟨q,hq,k1,k2⟩=>⟨q,h3 q hq (by lia) fun b hb hlt=>?_,k1,k2⟩⟩
 obtain ⟨i,hi⟩:=List.getElem?_of_mem hq
 obtain ⟨j,hj⟩:=List.getElem?_of_mem hb
 rcases Nat.lt_trichotomy i j with hij | hij | hij
 ·have:=kN c hi hj hij
  lia
 ·subst hij
  rw [hi] at hj
  cases hj
  lia
 ·have:=kN c hj hi hij
  have:=c.1 b hb
  have:=c.1 q hq
  lia
theorem Cf {r r':R} (c:aV r) (s:r'.Sublist r):aV r':=⟨fun q hq=>c.1 q (s.subset hq),c.2.sublist s⟩
theorem Bp:∀ (l:List Int),∀ x ∈ l,i9 l <= x
 | [],_,h=>by cases h
 | [a],x,h=>by rw [List.mem_singleton.mp h];exact Int.le_refl _
 | a :: b :: l,x,h=>by
  rw [vF]
  rcases List.mem_cons.mp h with rfl | h
  ·lia
  ·have:=Bp (b :: l) x h
   lia
theorem Bj:∀ (l:List Int),∀ x ∈ l,x <= kf l
 | [],_,h=>by cases h
 | [a],x,h=>by rw [List.mem_singleton.mp h];exact Int.le_refl _
 | a :: b :: l,x,h=>by
  have e:kf (a :: b :: l) = max a (kf (b :: l)):=rfl
  rw [e]
  rcases List.mem_cons.mp h with rfl | h
  ·lia
  ·have:=Bj (b :: l) x h
   lia
noncomputable def qy (p:Pic):List Int:=p.map fun q=>(q.2.head?.getD (0,0)).1
noncomputable def j5 (p:Pic):List Int:=p.map fun q=>(q.2.getLast?.getD (0,0)).2
theorem Cj (p:Pic) (hn:∀ q ∈ p,q.2 ≠ []):bm (aO (ak (ag 0) (ak (ag 1) aK))) cA (xOp dIx (xOp dIx (af 1) (xC (.int 0))) (xC (.int 0))) [.un,.un] (p.map pyD) = some ((qy p).map D.int):=by
 unfold qy
 rw [List.map_map]
 refine aS pyD _ p fun q hq=>?_
 obtain ⟨y,r⟩:=q
 cases r with
 | nil=>exact absurd rfl (hn _ hq)
 | cons a r=>
  have f0:atI (prD a :: r.map prD) 0 = some (prD a):=ji (j:=0) rfl
  have f1:atI [D.int a.1,D.int a.2] 0 = some (.int a.1):=ji (j:=0) rfl
  simp [dD,f0,f1]
theorem zH (p:Pic) (hn:∀ q ∈ p,q.2 ≠ []):bm (aO (ak (ag 0) (ak (ag 1) aK))) cA (xOp dIx (xOp dIx (af 1) (xUn dN (xC (.int 1)))) (xC (.int 1))) [.un,.un] (p.map pyD) = some ((j5 p).map D.int):=by
 unfold j5
 rw [List.map_map]
 refine aS pyD _ p fun q hq=>?_
 obtain ⟨y,r⟩:=q
 rcases List.eq_nil_or_concat r with rfl | ⟨r0,a,rfl⟩
 ·exact absurd rfl (hn _ hq)
 ·have f0:atI ((r0 ++ [a]).map prD) (-1) = some (prD a):=by
   unfold atI
   rw [List.length_map,List.length_append,List.length_singleton,sJ]
   simp
  have f1:atI [D.int a.1,D.int a.2] 1 = some (.int a.2):=ji (j:=1) rfl
  rw [List.map_append] at f0
  simp at f0
  simp [dD,f0,f1]
theorem zD {r:R} (c:aV r) {q:Int × Int} (hq:q ∈ r):(r.head?.getD (0,0)).1 <= q.1:=by
 cases r with
 | nil=>cases hq
 | cons a r=>
  rcases List.mem_cons.mp hq with rfl | hq
  ·exact Int.le_refl _
  ·have:=(canon_cons.mp c).2.1 q hq
   have:=(canon_cons.mp c).1
   show a.1 <= q.1
   lia
theorem zE {r:R} (c:aV r) {q:Int × Int} (hq:q ∈ r):q.2 <= (r.getLast?.getD (0,0)).2:=by
 rcases List.eq_nil_or_concat r with rfl | ⟨r0,a,rfl⟩
 ·cases hq
 ·rw [List.concat_eq_append] at *
  have e:((r0 ++ [a]).getLast?.getD (0,0)) = a:=by simp
  rw [e]
  rcases List.mem_append.mp hq with hq | hq
  ·obtain ⟨_,h1,h2⟩:=canon_snoc.mp c
   have:=h2 q hq
   lia
  ·rw [List.mem_singleton.mp hq]
   exact Int.le_refl _
theorem yl (p:Pic) (c:ao p) (hne:p ≠ []) (h:p.length <= 15000000):∃ l t r b:Int,sU [ah p] = some (.tup [.int l,.int t,.int r,.int b]) /\ ∀ x y,aw p x y -> l <= x /\ x <= r /\ t <= y /\ y <= b:=by
 have hn:∀ q ∈ p,q.2 ≠ []:=fun q hq=>(c.1 q hq).2
 have c1:=Cj p hn
 have c2:=zH p hn
 have hl:p.length <= LIM:=az (by lia)
 have hpos:0 < p.length:=List.length_pos_iff.mpr hne
 have l1:(qy p).length = p.length:=by unfold qy;rw [List.length_map]
 have l2:(j5 p).length = p.length:=by unfold j5;rw [List.length_map]
 have hml:xF [.lst ((qy p).map D.int)] = some (.int (i9 (qy p))):=by
  unfold xF
  simp only [iZ,Option.bind_some]
  rw [if_pos (by lia)]
 have hmh:xE [.lst ((j5 p).map D.int)] = some (.int (kf (j5 p))):=by
  unfold xE
  simp only [iZ,Option.bind_some]
  rw [if_pos (by lia)]
 obtain ⟨q0,h0⟩:∃ q,p[0]? = some q:=⟨_,List.getElem?_eq_getElem hpos⟩
 obtain ⟨q1,h1⟩:∃ q,p.getLast? = some q:=by
  cases e:p.getLast? with
  | none=>exact absurd (List.getLast?_eq_none_iff.mp e) hne
  | some q=>exact ⟨q,rfl⟩
 have f0:atI (p.map pyD) 0 = some (pyD q0):=ji (j:=0) (by rw [List.getElem?_map,h0];rfl)
 have f1:atI (p.map pyD) (-1) = some (pyD q1):=by
  obtain ⟨Y,rfl⟩:=List.getLast?_eq_some_iff.mp h1
  rw [List.map_append]
  exact iU _ _
 have g0:∀ (y:Int) (d:D),atI [D.int y,d] 0 = some (.int y):=fun y d=>ji (j:=0) rfl
 have d0:dEq false (ah p) (.tup []) = some (.bl false):=by
  cases p with
  | nil=>exact absurd rfl hne
  | cons q p=>
   unfold dEq
   rw [if_pos ⟨n8 _,by simp [okD,okDs]⟩]
   simp [eqD,eqDs]
 refine ⟨i9 (qy p),q0.1,kf (j5 p),q1.1,?_,fun x y hm=>?_⟩
 ·generalize hP:p.map pyD = Pd at *
  have hPl:Pd.length <= LIM:=by rw [<- hP,List.length_map];exact hl
  simp [sU,pD,fnO,nD,hP,d0,c1,c2,hPl,hml,hmh,f0,f1,g0]
 ·obtain ⟨q,hq,rfl,s,hs,k1,k2⟩:=hm
  have cq:=(c.1 q hq).1
  have e1:=Bp (qy p) _ (List.mem_map.mpr ⟨q,hq,rfl⟩)
  have e2:=Bj (j5 p) _ (List.mem_map.mpr ⟨q,hq,rfl⟩)
  have e3:=zD cq hs
  have e4:=zE cq hs
  refine ⟨by lia,by lia,?_,?_⟩
  ·cases p with
   | nil=>exact absurd rfl hne
   | cons a p=>
    cases h0
    rcases List.mem_cons.mp hq with rfl | hq
    ·exact Int.le_refl _
    ·have:=(pcanon_cons.mp c).2.1 q hq
     lia
  ·obtain ⟨Y,rfl⟩:=List.getLast?_eq_some_iff.mp h1
   rcases List.mem_append.mp hq with hq | hq
   ·have:=(List.pairwise_append.mp c.2).2.2 q hq q1 (by simp)
    lia
   ·rw [List.mem_singleton.mp hq]
    exact Int.le_refl _
theorem Ht {l m:List Nat} (h:l.Sublist m):l.sum <= m.sum:=by
 induction h with
 | slnil=>exact Nat.le_refl _
 | cons a _ ih=>rw [List.sum_cons];lia
 | cons_cons a _ ih=>rw [List.sum_cons,List.sum_cons];lia
theorem yV (p:Pic) (c:ao p) (hr:∀ q ∈ p,q.2.length <= 5000000) (f g:Int):∃ part:Int × R -> R,∀ q ∈ p,aX [a9 q.2,.int f,.int g] = some (a9 (part q)) /\ (part q).Sublist q.2 /\ ∀ x,f <= x -> x <= g -> Mem q.2 x -> Mem (part q) x:=by
 have h:∀ q:Int × R,∃ r:R,q ∈ p -> aX [a9 q.2,.int f,.int g] = some (a9 r) /\ r.Sublist q.2 /\ ∀ x,f <= x -> x <= g -> Mem q.2 x -> Mem r x:=fun q=>by
  by_cases hq:q ∈ p
  ·obtain ⟨r,h1⟩:=Fy (c.1 q hq).1 (by have:=hr q hq;lia) f g
   exact ⟨r,fun _=>h1⟩
  ·exact ⟨[],fun z=>absurd z hq⟩
 exact ⟨fun q=>(h q).choose,fun q hq=>(h q).choose_spec hq⟩
theorem wE (p:Pic) (c:ao p) (hp:p.length <= 5000000) (hr:∀ q ∈ p,q.2.length <= 5000000) (l t r b:Int) (k:Blk):∃ q:Pic,pr [ah p,.tup [.int l,.int t,.int r,.int b],bI k] = some (ah q) /\ ao q /\ q.length <= p.length /\ (ai q).length <= (ai p).length /\ (∀ s ∈ q,s.2.length <= 5000000) /\ (∀ x y,aw q x y -> aw p x y) /\
  ∀ x y,l + k.1 <= x -> x <= r + k.2.2.1 -> t + k.2.1 <= y -> y <= b + k.2.2.2 -> aw p x y -> aw q x y:=by
 obtain ⟨p',h1,h2,h3⟩:=sS p (·.1) pyD (t + k.2.1) (b + k.2.2.2) (fun a=>by simp) (by lia) c.2
 have c':ao p':=⟨fun q hq=>c.1 q (h2.subset hq),c.2.sublist h2⟩
 obtain ⟨part,hpart⟩:=yV p c hr (l + k.1) (r + k.2.2.1)
 have hl':p'.length <= p.length:=h2.length_le
 have hlim:p'.length <= LIM:=az (by lia)
 have hc:bm (aO (ak (ag 0) (ak (ag 1) aK))) cA (aQ (ab (am 0) (ab (av aX (ab (am 1) (ab (xOp bC (xOp dIx (af 2) (xC (.int 0))) (xOp dIx (af 3) (xC (.int 0)))) (ab (xOp bC (xOp dIx (af 2) (xC (.int 2))) (xOp dIx (af 3) (xC (.int 2)))) aj)))) aj))) [.un,.un,.sh (.tup [.int l,.int t,.int r,.int b]),.sh (bI k)] (p'.map pyD) = some ((p'.map fun q=>(q.1,part q)).map pyD):=by
  rw [List.map_map]
  exact aS pyD (fun q=>pyD (q.1,part q)) p' fun q hq=>by
   have a:=(hpart q (h2.subset hq)).1
   simp [dD,a,atI,ixN]
 have hm:=dg (p'.map fun q=>(q.1,part q)) (by rw [List.length_map];lia)
 have hsub:∀ q ∈ p',(part q).Sublist q.2:=fun q hq=>(hpart q (h2.subset hq)).2.1
 refine ⟨(p'.map fun q=>(q.1,part q)).filter f9,?_,⟨fun q hq=>?_,?_⟩,?_,?_,fun s hs=>?_,fun x y h=>?_,fun x y x0 x1 y0 y1 h=>?_⟩
 ·have a1:atI [D.int l,.int t,.int r,.int b] 1 = some (.int t):=rfl
  have a3:atI [D.int l,.int t,.int r,.int b] 3 = some (.int b):=rfl
  have b1:atI [D.int k.1,.int k.2.1,.int k.2.2.1,.int k.2.2.2] 1 = some (.int k.2.1):=rfl
  have b3:atI [D.int k.1,.int k.2.1,.int k.2.2.1,.int k.2.2.2] 3 = some (.int k.2.2.2):=rfl
  generalize hz:(p'.map fun q=>(q.1,part q)).map pyD = zs at hc hm
  generalize hz2:p'.map pyD = ps at h1 hc
  have hps:ps.length <= LIM:=by rw [<- hz2,List.length_map];exact hlim
  simp [pr,mI,fnO,kL,a1,a3,b1,b3,h1,hps,hc,hm,t0]
 ·obtain ⟨k1,k2⟩:=List.mem_filter.mp hq
  obtain ⟨z,hz,rfl⟩:=List.mem_map.mp k1
  exact ⟨Cf (c'.1 z hz).1 (hsub z hz),by simpa [f9] using k2⟩
 ·refine List.Pairwise.filter _ ?_
  rw [List.pairwise_map]
  exact c'.2
 ·have:=List.length_filter_le f9 (p'.map fun q=>(q.1,part q))
  rw [List.length_map] at this
  lia
 ·rw [fg]
  have e1:=jy (f:=fun q=>(q.1,part q)) p' fun q hq=>(hsub q hq).length_le
  have e2:(ai p').length <= (ai p).length:=by
   unfold ai
   rw [List.length_flatMap,List.length_flatMap]
   exact Ht (h2.map _)
  lia
 ·obtain ⟨z,hz,rfl⟩:=List.mem_map.mp (List.mem_filter.mp hs).1
  have:=(hsub z hz).length_le
  have:=hr z (h2.subset hz)
  dsimp only
  lia
 ·obtain ⟨q,hq,e,s,hs,k1,k2⟩:=h
  obtain ⟨z,hz,rfl⟩:=List.mem_map.mp (List.mem_filter.mp hq).1
  exact ⟨z,h2.subset hz,e,s,(hsub z hz).subset hs,k1,k2⟩
 ·obtain ⟨q,hq,rfl,hmm⟩:=h
  have hq':q ∈ p':=h3 q hq y1 fun b' hb hlt=>by lia
  have hmem:=(hpart q hq).2.2 x x0 x1 hmm
  refine ⟨(q.1,part q),List.mem_filter.mpr ⟨List.mem_map.mpr ⟨q,hq',rfl⟩,?_⟩,rfl,hmem⟩
  unfold f9
  rw [Bool.not_eq_true',decide_eq_false_iff_not]
  intro e'
  dsimp only at e'
  rw [e'] at hmem
  exact aY _ hmem
def B0 (p:Pic) (bs:List Blk) (x y:Int):Prop:=∀ b ∈ bs,Ie (aw p) b x y
theorem mw (p:Pic):dEq false (ah p) (.tup []) = some (.bl (decide (p = []))):=by
 cases p with
 | nil=>rw [decide_eq_true rfl];exact nK false (d:=.tup []) (by simp [okD,okDs])
 | cons q p=>
  rw [decide_eq_false (by simp)]
  unfold dEq
  rw [if_pos ⟨n8 _,by simp [okD,okDs]⟩]
  simp [eqD,eqDs]
theorem G7 {p:Pic} {x y:Int} (h:aw p x y):p ≠ []:=fun e=>by rw [e] at h;exact bi _ _ h
theorem AE (p:Pic) (c:ao p) (hp:p.length <= 5000000) (hr:∀ q ∈ p,q.2.length <= 5000000) (s1 v3:Sl) (q:Pic) (cq:ao q) (hq:q.length <= p.length) (b:Blk) (hb:BOk b) (hs:(ai q).length + bq b * (ai p).length <= 5000000) (hne:q ≠ []) :
  ∃ q':Pic,aW [.sh (ah p),s1,.sh (ah q),.sh (bI b)] = some (.nx [.sh (ah p),s1,.sh (ah q'),.sh (bI b)]) /\ ao q' /\ q'.length <= p.length /\ (ai q').length <= (ai q).length + bq b * (ai p).length /\ ∀ x y,aw q' x y ↔ aw q x y /\ Ie (aw p) b x y:=by
 obtain ⟨l,t,r,bt,h1,h2⟩:=yl q cq hne (by lia)
 obtain ⟨z,z1,z2,z3,z4,z5,z6,z7⟩:=wE p c hp hr l t r bt b
 obtain ⟨n,hn⟩:∃ n:Nat,b.2.2.2 - b.2.1 = n:=⟨(b.2.2.2 - b.2.1).toNat,by have:=hb.2;lia⟩
 have eh:bq b = 2 * n + 1:=by unfold bq;rw [hn];simp
 have e1:(2 * n + 1) * (ai z).length <= bq b * (ai p).length:=by rw [eh];exact Nat.mul_le_mul_left _ z4
 obtain ⟨w,w1,w2,w3,w4,w5⟩:=fi z z2 b hb n hn (by lia) (by lia) z5
 have cm:=qz (p:=q) (q:=w) w2 (by lia) (by lia) (by lia)
 have d0:=mw q
 rw [decide_eq_false hne] at d0
 refine ⟨cmP q w,?_,ve cq w2,?_,?_,fun x y=>?_⟩
 ·simp [aW,d0,h1,z1,w1,cm]
 ·have:=A4 q w
  lia
 ·have:=DZ (p:=q) (q:=w) cq
  lia
 ·rw [A3 cq w2,w5]
  constructor
  ·rintro ⟨g1,g2⟩
   exact ⟨g1,fun dx dy hd=>z6 _ _ (g2 dx dy hd)⟩
  ·rintro ⟨g1,g2⟩
   obtain ⟨x0,x1,y0,y1⟩:=h2 x y g1
   refine ⟨g1,fun dx dy hd=>z7 _ _ ?_ ?_ ?_ ?_ (g2 dx dy hd)⟩
   ·have:=hd.1;lia
   ·have:=hd.2.1;lia
   ·have:=hd.2.2.1;lia
   ·have:=hd.2.2.2;lia
theorem kd (p:Pic) (c:ao p) (bs:List Blk) (hne:bs ≠ []) (hb:∀ b ∈ bs,BOk b) (hp:p.length <= 5000000) (hr:∀ q ∈ p,q.2.length <= 5000000) (hl:bs.length <= 5000000) (hs:au bs * (ai p).length <= 5000000) :
  ∃ q:Pic,cW [ah p,.tup (bs.map bI)] = some (ah q) /\ ao q /\ q.length <= p.length /\ (ai q).length <= au bs * (ai p).length /\ ∀ x y,aw q x y ↔ B0 p bs x y:=by
 obtain ⟨cs,b0,rfl⟩:∃ cs b0,bs = cs ++ [b0]:=by
  rcases List.eq_nil_or_concat bs with h | ⟨cs,b0,h⟩
  ·exact absurd h hne
  ·exact ⟨cs,b0,by rw [h,List.concat_eq_append]⟩
 have hh:au (cs ++ [b0]) = au cs + bq b0:=by rw [bL,cQ]
 rw [hh,Nat.add_mul] at hs
 obtain ⟨n,hn⟩:∃ n:Nat,b0.2.2.2 - b0.2.1 = n:=⟨(b0.2.2.2 - b0.2.1).toNat,by have:=(hb b0 (by simp)).2;lia⟩
 have eh:bq b0 = 2 * n + 1:=by unfold bq;rw [hn];simp
 obtain ⟨q0,w1,w2,w3,w4,w5⟩:=fi p c b0 (hb b0 (by simp)) n hn hp (by rw [<- eh];lia) hr
 rw [<- eh] at w4
 have ec:eB ((cs ++ [b0]).map bI) none (some (-1)) = cs.map bI:=by
  rw [kO]
  congr 1
  unfold eB
  have e1:HT.sIx (cs ++ [b0]).length 0 none = 0:=rfl
  have e2:HT.sIx (cs ++ [b0]).length (cs ++ [b0]).length (some (-1)) = cs.length:=by
   rw [List.length_append,List.length_singleton]
   unfold HT.sIx
   simp
   lia
  rw [e1,e2]
  simp
 have at1:atI ((cs ++ [b0]).map bI) (-1) = some (bI b0):=by rw [List.map_append];exact iU _ _
 obtain ⟨o,k1,k2⟩:=vD (g:=ag 3) (m:=aW) bI (fun pre ρ=>∃ (q:Pic) (v3:Sl),ρ = [.sh (ah p),.sh (.tup ((cs ++ [b0]).map bI)),.sh (ah q),v3] /\ ao q /\ q.length <= p.length /\ (ai q).length <= (au pre + bq b0) * (ai p).length /\ ∀ x y,aw q x y ↔ B0 p (pre ++ [b0]) x y)
  (fun d=>d = .tup [] /\ ∀ x y,¬ B0 p (cs ++ [b0]) x y) (fun _=>False) cs [.sh (ah p),.sh (.tup ((cs ++ [b0]).map bI)),.sh (ah q0),.un]
  ⟨q0,_,rfl,w2,w3,by have:au [] = 0:=rfl;rw [this,Nat.zero_add];exact w4,fun x y=>by rw [w5];unfold B0;simp⟩ (by
  rintro pre b post _ e ⟨q,v3,rfl,cq,lq,sq,mq⟩
  have hbm:b ∈ cs:=by rw [e];simp
  have hpre:au pre + bq b <= au cs:=by
   rw [e,bL]
   have:au (b :: post) = bq b + au post:=rfl
   lia
  have hmul:(au pre + bq b0) * (ai p).length + bq b * (ai p).length <= 5000000:=by
   have:(au pre + bq b0) * (ai p).length + bq b * (ai p).length = (au pre + bq b) * (ai p).length + bq b0 * (ai p).length:=by
    rw [Nat.add_mul,Nat.add_mul]
    lia
   rw [this]
   have:=Nat.mul_le_mul_right (ai p).length hpre
   lia
  by_cases hq0:q = []
  ·subst hq0
   refine ⟨_,.rt (.tup []),rfl,?_,rfl,fun x y h=>?_⟩
   ·have d0:=mw []
    rw [decide_eq_true rfl] at d0
    simp [aW,d0]
   ·refine bi x y ((mq x y).mpr fun b' hb'=>h b' ?_)
    rw [e]
    rcases List.mem_append.mp hb' with h' | h'
    ·simp [h']
    ·simp [List.mem_singleton.mp h']
  ·obtain ⟨q',t1,t2,t3,t4,t5⟩:=AE p c hp hr (.sh (.tup ((cs ++ [b0]).map bI))) (.sh (bI b)) q cq lq b (hb b (List.mem_append_left _ hbm)) (by lia) hq0
   refine ⟨_,_,rfl,t1,q',_,rfl,t2,t3,?_,fun x y=>?_⟩
   ·rw [bL,cQ]
    have:(au pre + bq b + bq b0) * (ai p).length = (au pre + bq b0) * (ai p).length + bq b * (ai p).length:=by
     rw [Nat.add_mul,Nat.add_mul,Nat.add_mul]
     lia
    lia
   ·rw [t5,mq]
    unfold B0
    constructor
    ·rintro ⟨g1,g2⟩ b' hb'
     rcases List.mem_append.mp hb' with h' | h'
     ·rcases List.mem_append.mp h' with h' | h'
      ·exact g1 b' (List.mem_append_left _ h')
      ·rw [List.mem_singleton.mp h'];exact g2
     ·exact g1 b' (List.mem_append_right _ h')
    ·intro g
     refine ⟨fun b' hb'=>g b' ?_,g b (by simp)⟩
     rcases List.mem_append.mp hb' with h' | h'
     ·simp [h']
     ·simp [List.mem_singleton.mp h'])
 have hlim:(cs ++ [b0]).length <= LIM:=az (by lia)
 cases o with
 | nx ρ'=>
  rcases k2 with ⟨q,v3,rfl,cq,lq,sq,mq⟩ | h
  ·refine ⟨q,?_,cq,lq,by rw [hh];exact sq,mq⟩
   generalize (cs ++ [b0]).map bI = Bs at *
   simp [cW,cG,fnO,bK,at1,w1,dSl,ec,t0,k1]
  ·exact h.elim
 | rt d=>
  obtain ⟨rfl,hno⟩:=k2
  refine ⟨[],?_,gP,Nat.zero_le _,Nat.zero_le _,fun x y=>⟨fun h=>(bi _ _ h).elim,fun h=>(hno x y h).elim⟩⟩
  generalize (cs ++ [b0]).map bI = Bs at *
  simp [cW,cG,fnO,bK,at1,w1,dSl,ec,t0,k1]
 | ct _=>exact k2.elim
 | bk _=>exact k2.elim
 | ro _=>exact k2.elim
theorem Ec (p:Pic) (bs:List Blk) (x y:Int):B0 p bs x y ↔ ∀ u v,B2 bs u v -> aw p (x + u) (y + v):=by
 constructor
 ·rintro h u v ⟨b,hb,hm⟩
  exact h b hb u v hm
 ·intro h b hb u v hm
  exact h u v ⟨b,hb,hm⟩
def xp (p:Pic) (ps:List (List Blk)) (x y:Int):Prop:=∀ u v,Off ps u v -> aw p (x + u) (y + v)
theorem yB (ps:List (List Blk)) (bs:List Blk) (x y:Int):Off (ps ++ [bs]) x y ↔ ∃ u v,Off ps u v /\ B2 bs (x - u) (y - v):=by
 induction ps generalizing x y with
 | nil=>
  constructor
  ·rintro ⟨u,v,h1,h2,h3⟩
   exact ⟨0,0,⟨rfl,rfl⟩,by rwa [show x - 0 = u by lia,show y - 0 = v by lia]⟩
  ·rintro ⟨u,v,⟨rfl,rfl⟩,h⟩
   exact ⟨x - 0,y - 0,h,by lia,by lia⟩
 | cons a ps ih=>
  constructor
  ·rintro ⟨u,v,h1,h2⟩
   obtain ⟨u',v',h3,h4⟩:=(ih _ _).mp h2
   exact ⟨u + u',v + v',⟨u,v,h1,by rwa [show u + u' - u = u' by lia,show v + v' - v = v' by lia]⟩,by rwa [show x - (u + u') = x - u - u' by lia,show y - (v + v') = y - v - v' by lia]⟩
  ·rintro ⟨u,v,⟨u',v',h1,h3⟩,h2⟩
   exact ⟨u',v',h1,(ih _ _).mpr ⟨u - u',v - v',h3,by rwa [show x - u' - (u - u') = x - u by lia,show y - v' - (v - v') = y - v by lia]⟩⟩
def EC (ps:List (List Blk)):Prop:=∀ bs ∈ ps,bs.length <= 5000000
theorem nX (N:Str) (hN:NS.contains N = true) (ps:List (List Blk)) (hf:FOk ps) (hlo:EC ps) (p:Pic) (c:ao p) (hp:p.length <= 5000000) (hs:dW ps * (ai p).length <= 5000000):∃ q:Pic,aI [ar N ps,ah p] = some (ah q) /\ ao q /\ q.length <= p.length /\ (ai q).length <= dW ps * (ai p).length /\ ∀ x y,aw q x y ↔ xp p ps x y:=by
 obtain ⟨ρ',k1,q,v2,rfl,b1,b0,b2,b3⟩:=cj (g:=ag 2) (m:=b8) fc (fun pre ρ=>∃ (q:Pic) (v2:Sl),ρ = [.sh (ar N ps),.sh (ah q),v2] /\ ao q /\ q.length <= p.length /\ (ai q).length <= dW pre * (ai p).length /\ ∀ x y,aw q x y ↔ xp p pre x y) ps [.sh (ar N ps),.sh (ah p),.un] ⟨p,_,rfl,c,Nat.le_refl _,by simp [dW],fun x y=>⟨fun h u v ⟨hu,hv⟩=>by subst hu hv;simpa using h,fun h=>by simpa using h 0 0 ⟨rfl,rfl⟩⟩⟩ (by
  rintro pre bs post _ e ⟨q,v2,rfl,cq,lq,l1,l2⟩
  have hbs:=hf bs (by rw [e];simp)
  have hpost:FOk post:=fun x hx=>hf x (by rw [e];simp [hx])
  have hp1:=vK hpost
  have ep:dW (pre ++ [bs]) = dW pre * au bs:=by rw [ju];simp [dW]
  have hp2:dW (pre ++ [bs]) * (ai p).length <= dW ps * (ai p).length:=by
   have e':ps = (pre ++ [bs]) ++ post:=by rw [e];simp
   rw [e',ju (pre ++ [bs]) post]
   exact Nat.mul_le_mul_right _ (Nat.le_mul_of_pos_right _ hp1)
  have hp3:au bs * (ai q).length <= dW (pre ++ [bs]) * (ai p).length:=by
   rw [ep,Nat.mul_comm (dW pre) (au bs),Nat.mul_assoc]
   exact Nat.mul_le_mul_left _ l1
  have hh:=vn hbs.1
  have hq1:(ai q).length <= au bs * (ai q).length:=Nat.le_mul_of_pos_left _ hh
  obtain ⟨q',c1,c2,c3,c4,c5⟩:=kd q cq bs hbs.1 hbs.2 (by lia) (fun z hz=>by have:=dY hz;lia) (hlo bs (by rw [e];simp)) (by lia)
  refine ⟨_,[.sh (ar N ps),.sh (ah q'),.sh (fc bs)],rfl,.inl ?_,q',_,rfl,c2,by lia,by lia,fun x y=>?_⟩
  ·simp [b8,c1]
  ·rw [c5,Ec]
   unfold xp
   constructor
   ·intro h u v ho
    obtain ⟨u',v',h1,h2⟩:=(yB pre bs u v).mp ho
    have:=(l2 _ _).mp (h _ _ h2) u' v' h1
    rwa [show x + (u - u') + u' = x + u by lia,show y + (v - v') + v' = y + v by lia] at this
   ·intro h u v hu
    rw [l2]
    intro u' v' h1
    have:=h (u + u') (v + v') ((yB pre bs _ _).mpr ⟨u',v',h1,by rwa [show u + u' - u' = u by lia,show v + v' - v' = v by lia]⟩)
    rwa [show x + (u + u') = x + u + u' by lia,show y + (v + v') = y + v + v' by lia] at this)
 refine ⟨q,?_,b1,b0,b2,b3⟩
 have ef:nk NS "parts" (am 0) [.sh (ar N ps),.sh (ah p),.un] = some (cu ps):=by
  show (if NS.contains N then uA ["parts"] [cu ps] "parts" else none) = _
  rw [if_pos hN]
  rfl
 have ex:c6 [.sh (ar N ps),.sh (ah p),.un] = some (.rt (ah q)):=by
  unfold c6
  have e1:gq (xIt (nk NS "parts" (am 0))) (ag 2) b8 [.sh (ar N ps),.sh (ah p),.un] = some (.nx [.sh (ar N ps),.sh (ah q),v2]):=by
   unfold gq xIt
   rw [ef]
   exact k1
  rw [aR e1]
  rfl
 exact p9 (n:=3) (ds:=[ar N ps,ah p]) ex
def Cov (n:Nat) (P:Int -> Int -> Prop):Prop:=∃ ts:List Tri,ts.length <= n /\ ∀ x y,iB ts x y ↔ P x y
theorem A6 {q:Pic} (c:ao q) {n:Nat} {P:Int -> Int -> Prop} (hP:∀ x y,aw q x y ↔ P x y) (h:Cov n P):(ai q).length <= n:=by
 obtain ⟨ts,hl,hm⟩:=h
 have e:bP ts = q:=tJ c fun x y=>(hm x y).trans (hP x y).symm
 have:=fy ts
 rw [e] at this
 lia
theorem D2 (p:Pic):Cov (ai p).length (aw p):=⟨ai p,Nat.le_refl _,fun x y=>g8 p x y⟩
theorem Cov.mono {n m:Nat} {P:Int -> Int -> Prop} (h:Cov n P) (hm:n <= m):Cov m P:=let ⟨ts,a,b⟩:=h;⟨ts,Nat.le_trans a hm,b⟩
theorem Cov.congr {n:Nat} {P Q:Int -> Int -> Prop} (h:Cov n P) (e:∀ x y,P x y ↔ Q x y):Cov n Q:=let ⟨ts,a,b⟩:=h;⟨ts,a,fun x y=>(b x y).trans (e x y)⟩
def GrF (p:Pic) (ps:List (List Blk)) (x y:Int):Prop:=∃ u v,Off ps u v /\ aw p (x - u) (y - v)
theorem wx (N:Str) (hN:NS.contains N = true) (ps:List (List Blk)) (hf:FOk ps) (p:Pic) (c:ao p) (hs:∀ post bs pre,ps = post ++ bs :: pre -> ∃ n,Cov n (GrF p pre) /\ au bs * n <= 5000000) :
  ∃ q:Pic,aE [ar N ps,ah p] = some (ah q) /\ ao q /\ ∀ x y,aw q x y ↔ GrF p ps x y:=by
 obtain ⟨ρ',k1,q,v2,rfl,b1,b3⟩:=cj (g:=ag 2) (m:=b7) fc (fun pre ρ=>∃ (q:Pic) (v2:Sl),ρ = [.sh (ar N ps),.sh (ah q),v2] /\ ao q /\ ∀ x y,aw q x y ↔ GrF p pre.reverse x y) ps.reverse [.sh (ar N ps),.sh (ah p),.un] ⟨p,_,rfl,c,fun x y=>⟨fun h=>⟨0,0,⟨rfl,rfl⟩,by simpa using h⟩,fun ⟨u,v,⟨hu,hv⟩,h⟩=>by subst hu hv;simpa using h⟩⟩ (by
  rintro pre bs post _ e ⟨q,v2,rfl,cq,l2⟩
  have e':ps = post.reverse ++ (bs :: pre.reverse):=by
   have:=congrArg List.reverse e
   rw [List.reverse_reverse] at this
   rw [this]
   simp
  have hbs:=hf bs (by rw [e'];simp)
  obtain ⟨n,hcov,hn⟩:=hs _ _ _ e'
  have hl:=A6 cq l2 hcov
  have hp3:au bs * (ai q).length <= au bs * n:=Nat.mul_le_mul_left _ hl
  obtain ⟨q',c1,c2,c3,c4⟩:=ka q cq bs hbs.2 (by lia)
  have er:(pre ++ [bs]).reverse = bs :: pre.reverse:=by simp
  refine ⟨_,[.sh (ar N ps),.sh (ah q'),.sh (fc bs)],rfl,.inl ?_,q',_,rfl,c2,fun x y=>?_⟩
  ·simp [b7,c1]
  ·rw [er,c4,GC]
   constructor
   ·rintro ⟨u,v,h1,h2⟩
    obtain ⟨u',v',h3,h4⟩:=(l2 _ _).mp h2
    exact ⟨u + u',v + v',⟨u,v,h1,by rwa [show u + u' - u = u' by lia,show v + v' - v = v' by lia]⟩,by rwa [show x - (u + u') = x - u - u' by lia,show y - (v + v') = y - v - v' by lia]⟩
   ·rintro ⟨u,v,⟨u',v',h1,h3⟩,h2⟩
    exact ⟨u',v',h1,(l2 _ _).mpr ⟨u - u',v - v',h3,by rwa [show x - u' - (u - u') = x - u by lia,show y - v' - (v - v') = y - v by lia]⟩⟩)
 refine ⟨q,?_,b1,fun x y=>by rw [b3,List.reverse_reverse]⟩
 have ef:nk NS "parts" (am 0) [.sh (ar N ps),.sh (ah p),.un] = some (cu ps):=by
  show (if NS.contains N then uA ["parts"] [cu ps] "parts" else none) = _
  rw [if_pos hN]
  rfl
 rw [List.map_reverse] at k1
 have er:vY (ab (nk NS "parts" (am 0)) aj) [.sh (ar N ps),.sh (ah p),.un] = some (ps.map fc).reverse:=by
  unfold vY ab aj
  rw [ef]
  rfl
 have ex:cZ [.sh (ar N ps),.sh (ah p),.un] = some (.rt (ah q)):=by
  unfold cZ
  have e1:gq (vY (ab (nk NS "parts" (am 0)) aj)) (ag 2) b7 [.sh (ar N ps),.sh (ah p),.un] = some (.nx [.sh (ar N ps),.sh (ah q),v2]):=by
   unfold gq
   rw [er]
   exact k1
  rw [aR e1]
  rfl
 exact p9 (n:=3) (ds:=[ar N ps,ah p]) ex
noncomputable def nJ (b c:Blk):Blk:=(b.1 + c.1,b.2.1 + c.2.1,b.2.2.1 + c.2.2.1,b.2.2.2 + c.2.2.2)
noncomputable def aG (ps:List (List Blk)):List Blk:=ps.filterMap fun bs=>if bs.length = 1 then bs.head? else none
noncomputable def oO (ss:List Blk):Blk:=ss.foldr nJ (0,0,0,0)
noncomputable def ke (ps:List (List Blk)):List (List Blk):=ps.filter fun bs=>decide (1 < bs.length)
noncomputable def lz (ps:List (List Blk)):List (List Blk):=[oO (aG ps)] :: ke ps
theorem DQ {b c:Blk} (hb:BOk b) (hc:BOk c) (x y:Int):kY (nJ b c) x y ↔ ∃ u v,kY b u v /\ kY c (x - u) (y - v):=by
 obtain ⟨h1,h2⟩:=hb
 obtain ⟨h3,h4⟩:=hc
 unfold kY nJ
 dsimp only
 constructor
 ·rintro ⟨k1,k2,k3,k4⟩
  exact ⟨max b.1 (x - c.2.2.1),max b.2.1 (y - c.2.2.2),⟨by lia,by lia,by lia,by lia⟩,by lia,by lia,by lia,by lia⟩
 ·rintro ⟨u,v,⟨a1,a2,a3,a4⟩,b1,b2,b3,b4⟩
  exact ⟨by lia,by lia,by lia,by lia⟩
theorem Gh {b c:Blk} (hb:BOk b) (hc:BOk c):BOk (nJ b c):=by
 obtain ⟨h1,h2⟩:=hb
 obtain ⟨h3,h4⟩:=hc
 exact ⟨by unfold nJ;dsimp only;lia,by unfold nJ;dsimp only;lia⟩
theorem BK:∀ {ss:List Blk},(∀ b ∈ ss,BOk b) -> BOk (oO ss)
 | [],_=>⟨Int.le_refl _,Int.le_refl _⟩
 | b :: ss,h=>Gh (h b List.mem_cons_self) (BK fun c hc=>h c (List.mem_cons_of_mem _ hc))
theorem jc (b:Blk) (x y:Int):B2 [b] x y ↔ kY b x y:=by
 constructor
 ·rintro ⟨c,hc,h⟩
  rw [List.mem_singleton] at hc
  subst hc
  exact h
 ·intro h
  exact ⟨b,List.mem_singleton.mpr rfl,h⟩
theorem AC {ps:List (List Blk)} (h:FOk ps):∀ b ∈ aG ps,BOk b:=by
 intro b hb
 obtain ⟨bs,h1,h2⟩:=List.mem_filterMap.mp hb
 split at h2
 ·exact (h bs h1).2 b (List.mem_of_mem_head? h2)
 ·cases h2
theorem Hu {ps:List (List Blk)} (h:FOk ps):FOk (lz ps):=by
 intro bs hbs
 rcases List.mem_cons.mp hbs with rfl | hbs
 ·exact ⟨by simp,fun b hb=>by rw [List.mem_singleton] at hb;subst hb;exact BK (AC h)⟩
 ·exact h bs (List.mem_filter.mp hbs).1
theorem oI (ns:List Int):B6 [.lst (ns.map D.int)] = some (.int ns.sum):=by
 have:bh (ns.map D.int) = some ns:=by
  induction ns with
  | nil=>rfl
  | cons n ns ih=>simp [bh,ih]
 simp [B6,this]
theorem Ds (ss:List Blk):oO ss = ((ss.map fun b=>b.1).sum,(ss.map fun b=>b.2.1).sum,(ss.map fun b=>b.2.2.1).sum,(ss.map fun b=>b.2.2.2).sum):=by
 induction ss with
 | nil=>rfl
 | cons b ss ih=>
  show nJ b (oO ss) = _
  rw [ih]
  simp [nJ]
theorem Bn:∀ ps:List (List Blk),ps.filterMap (fun bs=>if 1 < bs.length then some (fc bs) else none) = (ke ps).map fc
 | []=>rfl
 | bs :: r=>by
  have ih:=Bn r
  unfold ke at ih ⊢
  by_cases h:1 < bs.length <;> simp [h,ih]
theorem nZ (ps:List (List Blk)) (hl:ps.length <= 5000000):gL [cu ps] = some (cu (lz ps)):=by
 have l1:ps.length <= LIM:=az (by lia)
 have hs:(aG ps).length <= ps.length:=List.length_filterMap_le _ _
 have l2:(aG ps).length <= LIM:=az (by lia)
 have l3:(ke ps).length <= ps.length:=List.length_filter_le _ _
 have l4:1 + (ke ps).length <= LIM:=az (by lia)
 have l5:(ke ps).length + 1 <= LIM:=az (by lia)
 have c1:bm (ag 0) (xB (xOp (dEq false) (xCB kZ (ab (af 0) aj)) (xC (.int 1)))) (xOp dIx (af 0) (xC (.int 0))) [.un] (ps.map fc) = some ((aG ps).map bI):=by
  rw [fO fc (fun bs=>if bs.length = 1 then (bs.head?).map bI else none) ps fun bs _=>by
   by_cases h:bs.length = 1
   ·obtain ⟨b,rfl⟩:=List.length_eq_one_iff.mp h
    simp [dD,atI,ixN]
   ·have h':¬ ((bs.length:Int) = 1):=by lia
    simp [dD,h,h']]
  congr 1
  unfold aG
  rw [List.map_filterMap]
  congr 1
  funext bs
  by_cases h:bs.length = 1 <;> simp [h]
 have c3:bm (ag 0) (xB (xOp dGt (xCB kZ (ab (af 0) aj)) (xC (.int 1)))) (am 0) [.un] (ps.map fc) = some ((ke ps).map fc):=by
  rw [fO fc (fun bs=>if 1 < bs.length then some (fc bs) else none) ps fun bs _=>by
   by_cases h:1 < bs.length
   ·have h':(1:Int) < bs.length:=by lia
    simp [dD,h,h']
   ·have h':¬ ((1:Int) < bs.length):=by lia
    simp [dD,h,h']]
  exact congrArg some (Bn ps)
 have inner:∀ (k:Int) (f:Blk -> Int),(∀ b:Blk,atI [D.int b.1,.int b.2.1,.int b.2.2.1,.int b.2.2.2] k = some (.int (f b))) -> bm (ag 0) cA (xOp dIx (af 0) (af 1)) [.un,.sh (.int k)] ((aG ps).map bI) = some (((aG ps).map f).map D.int):=by
  intro k f hf
  rw [List.map_map]
  exact aS bI (D.int ∘ f) (aG ps) fun b _=>by
   have:=hf b
   simp [dD,this]
 have e4:dQ 0 4 = ([0,1,2,3]:List Int).map D.int:=rfl
 have tog:=Ds (aG ps)
 have c2:bm (ag 0) cA (xCB B6 (ab (xL (bQ [none,some 0] (xIt (af 1)) (ag 0) cA (xOp dIx (af 0) (af 1)))) aj)) [.un,.sh (.lst ((aG ps).map bI))] (dQ 0 4) = some [.int (oO (aG ps)).1,.int (oO (aG ps)).2.1,.int (oO (aG ps)).2.2.1,.int (oO (aG ps)).2.2.2]:=by
  rw [e4,tog]
  dsimp only
  rw [aS D.int (fun k=>if k = 0 then .int ((aG ps).map fun b=>b.1).sum else if k = 1 then .int ((aG ps).map fun b=>b.2.1).sum else if k = 2 then .int ((aG ps).map fun b=>b.2.2.1).sum else .int ((aG ps).map fun b=>b.2.2.2).sum) [0,1,2,3] fun k hk=>by
   have i0:=inner 0 (fun b=>b.1) fun b=>rfl
   have i1:=inner 1 (fun b=>b.2.1) fun b=>rfl
   have i2:=inner 2 (fun b=>b.2.2.1) fun b=>rfl
   have i3:=inner 3 (fun b=>b.2.2.2) fun b=>rfl
   have s0:=oI ((aG ps).map fun b=>b.1)
   have s1:=oI ((aG ps).map fun b=>b.2.1)
   have s2:=oI ((aG ps).map fun b=>b.2.2.1)
   have s3:=oI ((aG ps).map fun b=>b.2.2.2)
   generalize ((aG ps).map fun b=>b.1).map D.int = z0 at i0 s0
   generalize ((aG ps).map fun b=>b.2.1).map D.int = z1 at i1 s1
   generalize ((aG ps).map fun b=>b.2.2.1).map D.int = z2 at i2 s2
   generalize ((aG ps).map fun b=>b.2.2.2).map D.int = z3 at i3 s3
   simp only [List.mem_cons,List.not_mem_nil,or_false] at hk
   rcases hk with rfl | rfl | rfl | rfl
   ·simp [dD,l2,i0,s0]
   ·simp [dD,l2,i1,s1]
   ·simp [dD,l2,i2,s2]
   ·simp [dD,l2,i3,s3]]
  rfl
 have es:cu (lz ps) = .tup ([.tup [bI (oO (aG ps))]] ++ (ke ps).map fc):=rfl
 rw [es]
 have lm:((ke ps).map fc).length = (ke ps).length:=List.length_map ..
 generalize (ke ps).map fc = ms at c3 lm
 have l6:1 + ms.length <= LIM:=by lia
 have hr:De [.int 4] = some (dQ 0 4):=Ma (by decide)
 have lf:(dQ 0 4).length <= LIM:=az (by decide)
 have lt:4 <= LIM:=az (by decide)
 have lo:1 <= LIM:=az (by decide)
 generalize oO (aG ps) = tb at c2
 generalize dQ 0 4 = four at c2 hr lf
 generalize (aG ps).map bI = zs at c1 c2
 simp [gL,fU,fnO,eS,c1,l1,hr,lf,c2,c3,F1,l6,lt,lo]
def GrS (P:Int -> Int -> Prop) (Q:Int -> Int -> Prop) (x y:Int):Prop:=∃ u v,Q u v /\ P (x - u) (y - v)
theorem rp {n k:Nat} {P Q:Int -> Int -> Prop} (hP:Cov n P) (hQ:Cov k Q):Cov (n * k) (GrS P Q):=by
 obtain ⟨ts,l1,m1⟩:=hP
 obtain ⟨us,l2,m2⟩:=hQ
 refine ⟨(ts.filter bg).flatMap fun t=>(us.filter bg).map fun u=>(t.1 + u.1,t.2.1 + u.2.1,t.2.2 + u.2.2),?_,fun x y=>?_⟩
 ·rw [List.length_flatMap]
  have h1:=List.length_filter_le bg ts
  have h2:=List.length_filter_le bg us
  have h3:((ts.filter bg).map fun t:Tri=>((us.filter bg).map fun u:Tri=>((t.1 + u.1,t.2.1 + u.2.1,t.2.2 + u.2.2):Tri)).length).sum = (ts.filter bg).length * (us.filter bg).length:=by
   generalize ts.filter bg = l
   induction l with
   | nil=>simp
   | cons a l ih=>rw [List.map_cons,List.sum_cons,ih,List.length_map,List.length_cons,Nat.succ_mul];lia
  rw [h3]
  exact Nat.mul_le_mul (by lia) (by lia)
 ·constructor
  ·rintro ⟨t,ht,e,h1,h2⟩
   obtain ⟨a,ha,h⟩:=List.mem_flatMap.mp ht
   obtain ⟨b,hb,rfl⟩:=List.mem_map.mp h
   obtain ⟨ha1,ha2⟩:=List.mem_filter.mp ha
   obtain ⟨hb1,hb2⟩:=List.mem_filter.mp hb
   have ga:=of_decide_eq_true ha2
   have gb:=of_decide_eq_true hb2
   dsimp only at e h1 h2
   refine ⟨max b.2.1 (x - a.2.2),b.1,(m2 _ _).mp ⟨b,hb1,rfl,by lia,by lia⟩,(m1 _ _).mp ⟨a,ha1,by lia,by lia,by lia⟩⟩
  ·rintro ⟨u,v,hq,hp⟩
   obtain ⟨b,hb,e1,b1,b2⟩:=(m2 _ _).mpr hq
   obtain ⟨a,ha,e2,a1,a2⟩:=(m1 _ _).mpr hp
   exact ⟨_,List.mem_flatMap.mpr ⟨a,List.mem_filter.mpr ⟨ha,decide_eq_true (by lia)⟩,List.mem_map.mpr ⟨b,List.mem_filter.mpr ⟨hb,decide_eq_true (by lia)⟩,rfl⟩⟩,by dsimp only;lia,by dsimp only;lia,by dsimp only;lia⟩
def WOk (bs:List Blk) (k:Nat):Prop:=au bs <= 2 * k /\ 1 <= k /\ Cov k (B2 bs)
noncomputable def WsLe:List (List Blk) -> Nat -> Prop
 | [],n=>1 <= n
 | bs :: r,n=>∃ k m,WOk bs k /\ WsLe r m /\ k * m <= n
theorem WsLe.mono:∀ {ps:List (List Blk)} {n m:Nat},WsLe ps n -> n <= m -> WsLe ps m
 | [],_,_,h,k=>Nat.le_trans h k
 | _ :: _,_,_,⟨a,b,h1,h2,h3⟩,k=>⟨a,b,h1,h2,Nat.le_trans h3 k⟩
theorem WsLe.cov:∀ {ps:List (List Blk)} {n:Nat},WsLe ps n -> Cov n (Off ps)
 | [],n,h=>⟨[(0,0,0)],h,fun x y=>by
   rw [pT]
   show _ ↔ x = 0 /\ y = 0
   constructor
   ·rintro (⟨h1,h2,h3⟩ | ⟨_,h,_⟩)
    ·dsimp only at h1 h2 h3;lia
    ·cases h
   ·rintro ⟨rfl,rfl⟩;exact .inl ⟨rfl,Int.le_refl _,Int.le_refl _⟩⟩
 | bs :: r,n,hpt0=>by
  obtain ⟨a,b,h1,h2,h3⟩:=hpt0
  have:=rp h2.cov h1.2.2
  exact (this.mono (by rw [Nat.mul_comm];exact h3)).congr fun x y=>Iff.rfl
theorem WsLe.split:∀ {post pre:List (List Blk)} {bs:List Blk} {n:Nat},WsLe (post ++ bs :: pre) n -> ∃ m,WsLe pre m /\ au bs * m <= 2 * n
 | [],pre,bs,n,⟨a,b,h1,h2,h3⟩=>⟨b,h2,by
   have:au bs * b <= 2 * a * b:=Nat.mul_le_mul_right _ h1.1
   rw [Nat.mul_assoc] at this
   lia⟩
 | c :: post,pre,bs,n,hpt0=>by
  obtain ⟨a,b,h1,h2,h3⟩:=hpt0
  obtain ⟨m,k1,k2⟩:=WsLe.split (post:=post) h2
  refine ⟨m,k1,?_⟩
  have:b <= a * b:=Nat.le_mul_of_pos_left _ h1.2.1
  lia
theorem Ct (N:Str) (hN:NS.contains N = true) (ps:List (List Blk)) (hf:FOk ps) (p:Pic) (c:ao p) {m n:Nat} (hc:Cov m (aw p)) (hw:WsLe ps n) (hs:m * n <= 2500000) :
  ∃ q:Pic,aE [ar N ps,ah p] = some (ah q) /\ ao q /\ ∀ x y,aw q x y ↔ GrF p ps x y:=
 wx N hN ps hf p c fun post bs pre e=>by
  rw [e] at hw
  obtain ⟨k,h1,h2⟩:=hw.split
  refine ⟨m * k,rp hc h1.cov,?_⟩
  have:au bs * (m * k) = m * (au bs * k):=by rw [<- Nat.mul_assoc,Nat.mul_comm (au bs),Nat.mul_assoc]
  have h4:m * (au bs * k) <= m * (2 * n):=Nat.mul_le_mul_left _ h2
  have h5:m * (2 * n) = 2 * (m * n):=by rw [<- Nat.mul_assoc,Nat.mul_comm m,Nat.mul_assoc]
  lia
theorem yC:∀ {ps:List (List Blk)},FOk ps -> ∃ u v,Off ps u v
 | [],_=>⟨0,0,rfl,rfl⟩
 | bs :: r,h=>by
  obtain ⟨u,v,k⟩:=yC (ps:=r) fun x hx=>h x (List.mem_cons_of_mem _ hx)
  obtain ⟨hne,hb⟩:=h bs List.mem_cons_self
  obtain ⟨b,r',rfl⟩:=List.exists_cons_of_ne_nil hne
  have ok:=hb b List.mem_cons_self
  exact ⟨b.1 + u,b.2.1 + v,b.1,b.2.1,⟨b,List.mem_cons_self,Int.le_refl _,ok.1,Int.le_refl _,ok.2⟩,by rwa [show b.1 + u - b.1 = u by lia,show b.2.1 + v - b.2.1 = v by lia]⟩
theorem gj {N:Str} (hN:NS.contains N = true) {ps:List (List Blk)} {m:Str} {f:List D -> Option D} {e:XE} {as:XA} {ρ:M.Env} {ds:List D} {d:D} (hm:(["parts"]:List Str).contains m = false) (h0:e ρ = some (ar N ps)) (ha:as ρ = some ds) (h:f (ar N ps :: ds) = some d):bx NS m f e as ρ = some d:=by
 unfold bx
 rw [h0,ha]
 show (if NS.contains N && !(["parts"]:List Str).contains m then f (ar N ps :: ds) else none) = _
 rw [hN,hm]
 exact h
theorem eV {f:List D -> Option D} {a:XA} {ρ:M.Env} {ds:List D} {d:D} (ha:a ρ = some ds) (h:f ds = some d):av f a ρ = some d:=by unfold av;rw [ha];exact h
theorem cV {a:XE} {r:XA} {ρ:M.Env} {d:D} {ds:List D} (h:a ρ = some d) (k:r ρ = some ds):ab a r ρ = some (d :: ds):=by unfold ab;rw [h,k];rfl
theorem fQ {e:XE} {d:D} {i:Nat} {ρ:M.Env} (h:e ρ = some d):br e (ag i) ρ = some (.nx (ρ.set i (.sh d))):=by unfold br;rw [h];rfl
theorem Bz {f:D -> D -> Option D} {a b:XE} {ρ:M.Env} {x y z:D} (ha:a ρ = some x) (hb:b ρ = some y) (h:f x y = some z):xOp f a b ρ = some z:=by unfold xOp;rw [ha,hb];exact h
theorem GS {r:R} (c:aV r) {lo hi:Int} (h:lo <= hi) (hm:∀ x,lo <= x -> x <= hi -> Mem r x):∃ q ∈ r,q.1 <= lo /\ hi <= q.2:=by
 obtain ⟨q,hq,h1,h2⟩:=hm lo (Int.le_refl _) h
 refine ⟨q,hq,h1,?_⟩
 apply Classical.byContradiction
 intro hn
 obtain ⟨q',hq',g1,g2⟩:=hm (q.2 + 1) (by lia) (by lia)
 obtain ⟨i,hi',e1⟩:=List.getElem_of_mem hq
 obtain ⟨j,hj',e2⟩:=List.getElem_of_mem hq'
 have pw:=List.pairwise_iff_getElem.mp c.2
 rcases Nat.lt_trichotomy i j with g | g | g
 ·have:=pw i j hi' hj' g
  rw [e1,e2] at this
  lia
 ·subst g
  rw [e1] at e2
  subst e2
  lia
 ·have:=pw j i hj' hi' g
  rw [e1,e2] at this
  lia
theorem vJ:∀ b:Pic,gk (b.map pyD) = some (b.map fun q=>(q.1,a9 q.2))
 | []=>rfl
 | q :: b=>by
  rw [List.map_cons,List.map_cons]
  show (gk (b.map pyD)).map _ = _
  rw [vJ b]
  rfl
noncomputable abbrev mr (b:Pic):D:=.dkv (b.map fun q=>Sum.inl q.1) (b.map fun q=>a9 q.2)
theorem Gq {b:Pic} (c:ao b) (hl:b.length <= LIM):xD [ah b] = some (mr b):=by
 show (gk (b.map pyD)).bind _ = _
 rw [vJ]
 dsimp only [Option.bind]
 rw [if_pos ⟨by rw [List.length_map];exact hl,by
  rw [List.map_map,List.nodup_iff_pairwise_ne,List.pairwise_map]
  exact c.2.imp fun {a b} h e=>by have:a.1 = b.1:=e;lia⟩,List.map_map,List.map_map]
 rfl
theorem yj:∀ {b:Pic},ao b -> ∀ {q:Int × R},q ∈ b -> nW (b.map fun q=>Sum.inl q.1) (b.map fun q=>a9 q.2) (.inl q.1) = some (a9 q.2)
 | [],_,_,h=>by cases h
 | p :: b,c,q,h=>by
  obtain ⟨_,c2,c3⟩:=pcanon_cons.mp c
  rw [List.map_cons,List.map_cons]
  unfold nW
  rcases List.mem_cons.mp h with rfl | h
  ·rw [if_pos rfl]
  ·rw [if_neg fun e=>by have:=c2 q h;have:p.1 = q.1:=Sum.inl.inj e;lia]
   exact yj c3 h
theorem yn {a b:Pic} (ca:ao a) (cb:ao b) (hb:b.length <= LIM) (hr:∀ q ∈ b,q.2.length <= LIM) (h:∀ x y,aw a x y -> aw b x y):i7 [ah a,ah b] = some (.bl true):=by
 have hd:=Gq cb hb
 have inner:∀ q ∈ a,∀ v5 v6 v7:Sl,∃ w5 w6 w7,fN [.sh (ah a),.sh (ah b),.sh (mr b),.sh (.int q.1),.sh (a9 q.2),v5,v6,v7] = some (.nx [.sh (ah a),.sh (ah b),.sh (mr b),.sh (.int q.1),.sh (a9 q.2),w5,w6,w7]):=fun q hq v5 v6 v7=>by
  generalize ah a = A
  generalize ah b = B
  obtain ⟨ρ',k1,w5,w6,w7,rfl⟩:=cj (g:=aO (ak (ag 5) (ak (ag 6) aK))) (m:=hW) prD (fun pre ρ=>∃ w5 w6 w7:Sl,ρ = [.sh A,.sh B,.sh (mr b),.sh (.int q.1),.sh (a9 q.2),w5,w6,w7]) q.2 [.sh A,.sh B,.sh (mr b),.sh (.int q.1),.sh (a9 q.2),v5,v6,v7] ⟨v5,v6,v7,rfl⟩ (by
   rintro pre s post _ e ⟨w5,w6,w7,rfl⟩
   have hs:s ∈ q.2:=by rw [e];simp
   have hs1:s.1 <= s.2:=(ca.1 q hq).1.1 s hs
   have hin:∀ x,s.1 <= x -> x <= s.2 -> Mem (bj b q.1) x:=fun x h1 h2=>(kT cb x q.1).mpr (h x q.1 ⟨q,hq,rfl,s,hs,h1,h2⟩)
   obtain ⟨qb,hqb,e1,_⟩:∃ qb ∈ b,qb.1 = q.1 /\ True:=by
    obtain ⟨qb,h1,h2,_⟩:=h s.1 q.1 ⟨q,hq,rfl,s,hs,Int.le_refl _,hs1⟩
    exact ⟨qb,h1,h2,trivial⟩
   have hrow:bj b q.1 = qb.2:=by rw [<- e1];exact gQ cb hqb
   rw [hrow] at hin
   obtain ⟨t,ht,t1,t2⟩:=GS (cb.1 qb hqb).1 hs1 hin
   have hlk:=yj cb hqb
   rw [e1] at hlk
   have hlim:=hr qb hqb
   have hcomp:bm (ag 0) (rk (xB (xOp dLe (xOp dIx (af 0) (xC (.int 0))) (af 1))) (xB (xOp dLe (af 2) (xOp dIx (af 0) (xC (.int 1)))))) (am 0) [.un,.sh (.int s.1),.sh (.int s.2)] (qb.2.map prD) = some (qb.2.filterMap fun t=>if t.1 <= s.1 /\ s.2 <= t.2 then some (prD t) else none):=fO prD _ qb.2 fun t _=>by
    by_cases g1:t.1 <= s.1 <;> by_cases g2:s.2 <= t.2 <;> simp [dD,g1,g2,atI,ixN]
   have hne:(qb.2.filterMap fun t=>if t.1 <= s.1 /\ s.2 <= t.2 then some (prD t) else none) ≠ []:=fun z=>by
    have:prD t ∈ (qb.2.filterMap fun t=>if t.1 <= s.1 /\ s.2 <= t.2 then some (prD t) else none):=List.mem_filterMap.mpr ⟨t,ht,if_pos ⟨t1,t2⟩⟩
    rw [z] at this
    cases this
   generalize (qb.2.filterMap fun t=>if t.1 <= s.1 /\ s.2 <= t.2 then some (prD t) else none) = L at *
   refine ⟨[.sh A,.sh B,.sh (mr b),.sh (.int q.1),.sh (a9 q.2),.sh (.int s.1),.sh (.int s.2),w7],[.sh A,.sh B,.sh (mr b),.sh (.int q.1),.sh (a9 q.2),.sh (.int s.1),.sh (.int s.2),.sh (.lst L)],rfl,.inl ?_,_,_,_,rfl⟩
   have hst:xL (bQ [none,some 5,some 6] (xIt (zj (af 2) (am 3) (aQ aj))) (ag 0) (rk (xB (xOp dLe (xOp dIx (af 0) (xC (.int 0))) (af 1))) (xB (xOp dLe (af 2) (xOp dIx (af 0) (xC (.int 1)))))) (am 0)) [.sh A,.sh B,.sh (mr b),.sh (.int q.1),.sh (a9 q.2),.sh (.int s.1),.sh (.int s.2),w7] = some (.lst L):=by
    have hg:xIt (zj (af 2) (am 3) (aQ aj)) [.sh A,.sh B,.sh (mr b),.sh (.int q.1),.sh (a9 q.2),.sh (.int s.1),.sh (.int s.2),w7] = some (qb.2.map prD):=by
     show (((if ([]:List D).length <= LIM then some (D.tup []) else none).map fun f=>(nW (b.map fun q=>Sum.inl q.1) (b.map fun q=>a9 q.2) (.inl q.1)).getD f).bind t0) = _
     rw [if_pos (show ([]:List D).length <= LIM from Nat.zero_le _),hlk]
     rfl
    unfold xL bQ
    rw [hg]
    dsimp only [Option.bind]
    rw [if_pos (by rw [List.length_map];exact hlim)]
    show (bm _ _ _ [.un,.sh (.int s.1),.sh (.int s.2)] (qb.2.map prD)).map D.lst = _
    rw [hcomp]
    rfl
   unfold hW
   rw [aR (fQ hst)]
   generalize mr b = db
   generalize a9 q.2 = rq
   simp [hne])
  refine ⟨w5,w6,w7,?_⟩
  unfold fN gq xIt am
  exact k1
 obtain ⟨ρ',k1,w3,w4,w5,w6,w7,rfl⟩:=cj (g:=aO (ak (ag 3) (ak (ag 4) aK))) (m:=fN) pyD (fun pre ρ=>∃ w3 w4 w5 w6 w7:Sl,ρ = [.sh (ah a),.sh (ah b),.sh (mr b),w3,w4,w5,w6,w7]) a [.sh (ah a),.sh (ah b),.sh (mr b),.un,.un,.un,.un,.un] ⟨_,_,_,_,_,rfl⟩ (by
  rintro pre q post _ e ⟨w3,w4,w5,w6,w7,rfl⟩
  obtain ⟨x5,x6,x7,hx⟩:=inner q (by rw [e];simp) w5 w6 w7
  exact ⟨[.sh (ah a),.sh (ah b),.sh (mr b),.sh (.int q.1),.sh (a9 q.2),w5,w6,w7],_,rfl,.inl hx,_,_,_,_,_,rfl⟩)
 have ex:iR [.sh (ah a),.sh (ah b),.un,.un,.un,.un,.un,.un] = some (.rt (.bl true)):=by
  unfold iR
  rw [aR (ρ':=[.sh (ah a),.sh (ah b),.sh (mr b),.un,.un,.un,.un,.un]) (fQ (by
   show (xD [ah b]) = _
   exact hd))]
  rw [aR (ρ':=[.sh (ah a),.sh (ah b),.sh (mr b),w3,w4,w5,w6,w7]) (by
   unfold gq xIt am
   exact k1)]
  rfl
 exact p9 (n:=8) (ds:=[ah a,ah b]) ex
structure PF (ps:List (List Blk)) (bs:List Blk):Prop where
 eq:ps = [bs]
 ne:bs ≠ []
 ok:∀ b ∈ bs,BOk b
 hi:au bs <= 10
 wo:WOk bs 5
theorem Gw {bs:List Blk} (h:bs ≠ []) (hb:∀ b ∈ bs,BOk b):FOk [bs]:=fun z hz=>by
 rw [List.mem_singleton] at hz
 subst hz
 exact ⟨h,hb⟩
theorem CJ (bs:List Blk):bs.length <= au bs:=by
 induction bs with
 | nil=>exact Nat.zero_le _
 | cons b bs ih=>
  have e:au (b :: bs) = bq b + au bs:=rfl
  rw [e,List.length_cons]
  unfold bq
  lia
theorem vX {b:Blk} (h:BOk b) {H:Nat} (hH:b.2.2.2 - b.2.1 <= H):WOk [b] (H + 1):=by
 refine ⟨by rw [cQ];unfold bq;lia,by lia,⟨(List.range (H + 1)).filterMap fun i:Nat=>if b.2.1 + i <= b.2.2.2 then some (b.2.1 + i,b.1,b.2.2.1) else none,?_,fun x y=>?_⟩⟩
 ·exact Nat.le_trans (List.length_filterMap_le _ _) (by simp)
 ·rw [jc]
  constructor
  ·rintro ⟨t,ht,e,h1,h2⟩
   obtain ⟨i,hi,e2⟩:=List.mem_filterMap.mp ht
   split at e2
   ·cases e2
    dsimp only at e h1 h2
    exact ⟨h1,h2,by lia,by lia⟩
   ·cases e2
  ·rintro ⟨h1,h2,h3,h4⟩
   refine ⟨(y,b.1,b.2.2.1),List.mem_filterMap.mpr ⟨(y - b.2.1).toNat,List.mem_range.mpr (by lia),?_⟩,rfl,h1,h2⟩
   rw [if_pos (by lia),show b.2.1 + ((y - b.2.1).toNat:Int) = y by lia]
noncomputable def jl (a:Int):List Blk:=[(-a,0,a,0),(0,-a,0,a)]
theorem E9 {a:Int} (h0:0 <= a) (h2:a <= 2):PF [jl a] (jl a):=by
 have hh:au (jl a) <= 10:=by
  have e:au (jl a) = bq (-a,0,a,0) + (bq (0,-a,0,a) + 0):=rfl
  rw [e]
  unfold bq
  dsimp only
  lia
 refine ⟨rfl,by simp [jl],fun b hb=>?_,hh,hh,by lia,?_⟩
 ·rcases List.mem_cons.mp hb with rfl | hb
  ·exact ⟨show -a <= a by lia,Int.le_refl _⟩
  ·rw [List.mem_singleton.mp hb]
   exact ⟨Int.le_refl _,show -a <= a by lia⟩
 ·refine ⟨(List.range 5).filterMap fun i:Nat=>if -a <= (i:Int) - 2 /\ (i:Int) - 2 <= a then some ((i:Int) - 2,if (i:Int) - 2 = 0 then -a else 0,if (i:Int) - 2 = 0 then a else 0) else none,Nat.le_trans (List.length_filterMap_le _ _) (by simp),fun x y=>?_⟩
  constructor
  ·rintro ⟨t,ht,e,h1,h2⟩
   obtain ⟨i,hi,e2⟩:=List.mem_filterMap.mp ht
   split at e2
   ·rename_i hc
    cases e2
    dsimp only at e h1 h2
    by_cases hz:(i:Int) - 2 = 0
    ·rw [if_pos hz] at h1 h2
     exact ⟨(-a,0,a,0),by simp [jl],h1,h2,by dsimp only;lia,by dsimp only;lia⟩
    ·rw [if_neg hz] at h1 h2
     exact ⟨(0,-a,0,a),by simp [jl],h1,h2,by dsimp only;lia,by dsimp only;lia⟩
   ·cases e2
  ·rintro ⟨b,hb,h1,h2,h3,h4⟩
   have hy:-a <= y /\ y <= a:=by
    rcases List.mem_cons.mp hb with rfl | hb
    ·dsimp only at h3 h4;lia
    ·rw [List.mem_singleton.mp hb] at h3 h4;dsimp only at h3 h4;lia
   have hx:(if y = 0 then -a else 0) <= x /\ x <= (if y = 0 then a else 0):=by
    rcases List.mem_cons.mp hb with rfl | hb
    ·dsimp only at h1 h2 h3 h4
     rw [if_pos (by lia),if_pos (by lia)]
     exact ⟨h1,h2⟩
    ·rw [List.mem_singleton.mp hb] at h1 h2
     dsimp only at h1 h2
     split <;> lia
   refine ⟨(y,if y = 0 then -a else 0,if y = 0 then a else 0),List.mem_filterMap.mpr ⟨(y + 2).toNat,List.mem_range.mpr (by lia),?_⟩,rfl,hx.1,hx.2⟩
   rw [show (((y + 2).toNat:Nat):Int) - 2 = y by lia,if_pos hy]
theorem Jw {l u r d:Int} (h1:0 <= l) (h2:0 <= u /\ u <= 2) (h3:0 <= r) (h4:0 <= d /\ d <= 2):PF [[(-l,-u,r,d)]] [(-l,-u,r,d)]:=by
 have ok:BOk (-l,-u,r,d):=⟨show -l <= r by lia,show -u <= d by lia⟩
 refine ⟨rfl,by simp,fun b hb=>by rw [List.mem_singleton.mp hb];exact ok,?_,vX (H:=4) ok (show d - -u <= (4:Nat) by lia)⟩
 rw [cQ]
 unfold bq
 dsimp only
 lia
theorem Fa {q:Pic} (c:ao q) (hne:q ≠ []) (hl:(ai q).length <= 3):PF [eg q] (eg q):=by
 obtain ⟨_,b1,b2,b3⟩:=j9 q c (by lia)
 refine ⟨rfl,fun z=>?_,b1,by lia,by lia,by lia,?_⟩
 ·obtain ⟨s,r,e⟩:=List.exists_cons_of_ne_nil hne
  have hs:=c.1 s (by rw [e];exact List.mem_cons_self)
  obtain ⟨t,r',e'⟩:=List.exists_cons_of_ne_nil hs.2
  have ht:t ∈ s.2:=by rw [e'];exact List.mem_cons_self
  obtain ⟨b,hb,_⟩:=(b3 t.1 s.1).mpr ⟨s,by rw [e];exact List.mem_cons_self,rfl,t,ht,Int.le_refl _,hs.1.1 t ht⟩
  rw [z] at hb
  cases hb
 ·exact ((D2 q).mono (show (ai q).length <= 5 by lia)).congr fun x y=>(b3 x y).symm
theorem PF.len {ps:List (List Blk)} {bs:List Blk} (f:PF ps bs):bs.length <= 10:=Nat.le_trans (CJ bs) f.hi
theorem PF.fok {ps:List (List Blk)} {bs:List Blk} (f:PF ps bs):FOk ps:=by rw [f.eq];exact Gw f.ne f.ok
structure GF (ps:List (List Blk)):Prop where
 ok:FOk ps
 lo:EC ps
 ph:dW ps <= 100
 ws:WsLe ps 25
theorem kG {bs:List Blk} {k:Nat} (h:WOk bs k):WsLe [bs] k:=⟨k,1,h,Nat.le_refl 1,by lia⟩
theorem PF.gf {ps:List (List Blk)} {bs:List Blk} (f:PF ps bs):GF ps:=by
 refine ⟨f.fok,fun z hz=>?_,?_,?_⟩
 ·rw [f.eq,List.mem_singleton] at hz
  subst hz
  have:=f.len
  lia
 ·rw [f.eq]
  show au bs * 1 <= 100
  have:=f.hi
  lia
 ·rw [f.eq]
  exact (kG f.wo).mono (by lia)
theorem oZ (b:Blk):nJ b (0,0,0,0) = b:=by unfold nJ;simp
theorem En {b c:Blk} (hb:BOk b) (hc:BOk c):bq (nJ b c) + 1 = bq b + bq c:=by
 have:=hb.2
 have:=hc.2
 unfold bq nJ
 dsimp only
 lia
theorem Ki {ps qs:List (List Blk)} {bs cs:List Blk} (f:PF ps bs) (g:PF qs cs):GF (lz (ps ++ qs)):=by
 have hfok:FOk (ps ++ qs):=fun z hz=>(List.mem_append.mp hz).elim (f.fok z) (g.fok z)
 have zok:BOk (0,0,0,0):=⟨Int.le_refl _,Int.le_refl _⟩
 have zw:WOk [((0,0,0,0):Blk)] 1:=vX (H:=0) zok (by decide)
 have hz1:au [((0,0,0,0):Blk)] = 1:=rfl
 have e:ps ++ qs = [bs,cs]:=by rw [f.eq,g.eq];rfl
 have hl1:=f.len
 have hl2:=g.len
 have p1:=f.hi
 have p2:=g.hi
 have lo:EC (lz (ps ++ qs)):=fun z hz=>by
  rcases List.mem_cons.mp hz with rfl | hz
  ·show 1 <= _;lia
  ·have:=(List.mem_filter.mp hz).1
   rw [e] at this
   rcases List.mem_cons.mp this with rfl | h
   ·lia
   ·rw [List.mem_singleton.mp h];lia
 suffices dW (lz (ps ++ qs)) <= 100 /\ WsLe (lz (ps ++ qs)) 25 from ⟨Hu hfok,lo,this.1,this.2⟩
 rw [e]
 have hp:=Nat.mul_le_mul p1 p2
 have cR:∀ {bs:List Blk},bs ≠ [] -> ¬ 1 < bs.length -> ∃ b,bs = [b]:=fun {bs} h k=>List.length_eq_one_iff.mp (by have:=List.length_pos_iff.mpr h;lia)
 by_cases h1:1 < bs.length <;> by_cases h2:1 < cs.length
 ·have es:lz [bs,cs] = [[(0,0,0,0)],bs,cs]:=by
   have n1:¬ bs.length = 1:=by lia
   have n2:¬ cs.length = 1:=by lia
   simp [lz,aG,ke,oO,h1,h2,n1,n2]
  rw [es]
  refine ⟨?_,⟨1,25,zw,⟨5,5,f.wo,kG g.wo,by lia⟩,by lia⟩⟩
  show au [((0,0,0,0):Blk)] * (au bs * (au cs * 1)) <= 100
  rw [hz1,Nat.mul_one,Nat.one_mul]
  lia
 ·obtain ⟨c,rfl⟩:=cR g.ne h2
  have es:lz [bs,[c]] = [[c],bs]:=by
   have n1:¬ bs.length = 1:=by lia
   simp [lz,aG,ke,oO,h1,n1,oZ]
  rw [es]
  refine ⟨?_,⟨5,5,g.wo,kG f.wo,by lia⟩⟩
  show au [c] * (au bs * 1) <= 100
  rw [Nat.mul_one,Nat.mul_comm]
  lia
 ·obtain ⟨b,rfl⟩:=cR f.ne h1
  have es:lz [[b],cs] = [[b],cs]:=by
   have n2:¬ cs.length = 1:=by lia
   simp [lz,aG,ke,oO,h2,n2,oZ]
  rw [es]
  refine ⟨?_,⟨5,5,f.wo,kG g.wo,by lia⟩⟩
  show au [b] * (au cs * 1) <= 100
  rw [Nat.mul_one]
  lia
 ·obtain ⟨b,rfl⟩:=cR f.ne h1
  obtain ⟨c,rfl⟩:=cR g.ne h2
  have es:lz [[b],[c]] = [[nJ b c]]:=by simp [lz,aG,ke,oO,oZ]
  rw [es]
  have bo:=f.ok b (by simp)
  have co:=g.ok c (by simp)
  have hh:=En bo co
  rw [cQ] at p1 p2
  refine ⟨?_,kG ⟨by rw [cQ];lia,by lia,?_⟩⟩
  ·show au [nJ b c] * 1 <= 100
   rw [cQ]
   lia
  ·have:=rp f.wo.2.2 g.wo.2.2
   exact this.congr fun x y=>by
    rw [jc,DQ bo co]
    constructor
    ·rintro ⟨u,v,q1,q2⟩
     exact ⟨x - u,y - v,(jc ..).mp q2,by rw [show x - (x - u) = u by lia,show y - (y - v) = v by lia];exact (jc ..).mp q1⟩
    ·rintro ⟨u,v,q1,q2⟩
     exact ⟨x - u,y - v,(jc ..).mpr q2,by rw [show x - (x - u) = u by lia,show y - (y - v) = v by lia];exact (jc ..).mpr q1⟩
section
variable {ps:List (List Blk)} {N:Str} {p q:Pic}
theorem GF.smaller (f:GF ps) (hN:NS.contains N = true) (c:ao p) {n:Nat} (hn:(ai p).length <= n) (h:100 * n <= 5000000):∃ q:Pic,aI [ar N ps,ah p] = some (ah q) /\ ao q /\ (ai q).length <= 100 * n /\ ∀ x y,aw q x y ↔ xp p ps x y:=by
 have hm:=Nat.mul_le_mul f.ph hn
 have hr:=wR c
 obtain ⟨q,a1,a2,_,a4,a5⟩:=nX N hN ps f.ok f.lo p c (by lia) (by lia)
 exact ⟨q,a1,a2,by lia,a5⟩
theorem GF.greater (f:GF ps) (hN:NS.contains N = true) (c:ao p) {n:Nat} (hn:(ai p).length <= n) (h:n * 25 <= 2500000):∃ q:Pic,aE [ar N ps,ah p] = some (ah q) /\ ao q /\ (ai q).length <= n * 25 /\ ∀ x y,aw q x y ↔ GrF p ps x y:=by
 have cv:=(D2 p).mono hn
 obtain ⟨q,a1,a2,a3⟩:=Ct N hN ps f.ok p c cv f.ws (by lia)
 exact ⟨q,a1,a2,A6 a2 a3 (rp cv f.ws.cov),a3⟩
theorem nT {p q:Pic} (h:∀ x y,aw p x y -> aw q x y) (x y:Int) (k:xp p ps x y):xp q ps x y:=fun u v ho=>h _ _ (k u v ho)
theorem ww {p q:Pic} (h:∀ x y,aw p x y -> aw q x y) (x y:Int) (k:GrF p ps x y):GrF q ps x y:=let ⟨u,v,ho,k⟩:=k;⟨u,v,ho,h _ _ k⟩
end
structure Four (n:Nat) (N:Str) (ps:List (List Blk)) (p s g o c:Pic):Prop where
 sm:aI [ar N ps,ah p] = some (ah s)
 gr:aE [ar N ps,ah p] = some (ah g)
 os:aE [ar N ps,ah s] = some (ah o)
 cs:aI [ar N ps,ah g] = some (ah c)
 cas:ao s
 cag:ao g
 cao:ao o
 cac:ao c
 les:(ai s).length <= 100 * n
 leg:(ai g).length <= n * 25
 leo:(ai o).length <= 100 * n * 25
 lec:(ai c).length <= 100 * (n * 25)
 mes:∀ x y,aw s x y ↔ xp p ps x y
 meg:∀ x y,aw g x y ↔ GrF p ps x y
 meo:∀ x y,aw o x y ↔ GrF s ps x y
 mec:∀ x y,aw c x y ↔ xp g ps x y
theorem wu {n:Nat} {N:Str} {ps:List (List Blk)} {p:Pic} (f:GF ps) (hN:NS.contains N = true) (cp:ao p) (hp:(ai p).length <= n) (hn:n <= 24):∃ s g o c,Four n N ps p s g o c:=by
 obtain ⟨s,s1,s2,s3,s4⟩:=f.smaller hN cp hp (by lia)
 obtain ⟨g,g1,g2,g3,g4⟩:=f.greater hN cp hp (by lia)
 obtain ⟨o,o1,o2,o3,o4⟩:=f.greater hN s2 s3 (by lia)
 obtain ⟨c,c1,c2,c3,c4⟩:=f.smaller hN g2 g3 (by lia)
 exact ⟨s,g,o,c,s1,g1,o1,c1,s2,g2,o2,c2,s3,g3,o3,c3,s4,g4,o4,c4⟩
section
variable {n:Nat} {N:Str} {ps:List (List Blk)} {p s g o c:Pic}
theorem Four.op (F:Four n N ps p s g o c) (x y:Int) (h:aw o x y):aw p x y:=by
 obtain ⟨u,v,ho,k⟩:=(F.meo x y).mp h
 have:=(F.mes _ _).mp k u v ho
 rwa [show x - u + u = x by lia,show y - v + v = y by lia] at this
theorem Four.cl (F:Four n N ps p s g o c) (x y:Int) (h:aw p x y):aw c x y:=(F.mec x y).mpr fun u v ho=>(F.meg _ _).mpr ⟨u,v,ho,by rwa [show x + u - u = x by lia,show y + v - v = y by lia]⟩
theorem Four.op2 (F:Four n N ps p s g o c) (f:GF ps) (hN:NS.contains N = true) (h:n <= 20):aI [ar N ps,ah o] = some (ah s):=by
 obtain ⟨t,t1,t2,_,t4⟩:=f.smaller hN F.cao F.leo (by lia)
 rw [t1,ox t2 F.cas fun x y=>?_]
 rw [t4]
 constructor
 ·exact fun k=>(F.mes x y).mpr (nT F.op x y k)
 ·exact fun k u v ho=>(F.meo _ _).mpr ⟨u,v,ho,by rwa [show x + u - u = x by lia,show y + v - v = y by lia]⟩
theorem Four.cl2 (F:Four n N ps p s g o c) (f:GF ps) (hN:NS.contains N = true) (h:n <= 24):aE [ar N ps,ah c] = some (ah g):=by
 obtain ⟨t,t1,t2,_,t4⟩:=f.greater hN F.cac F.lec (by lia)
 rw [t1,ox t2 F.cag fun x y=>?_]
 rw [t4]
 constructor
 ·rintro ⟨u,v,ho,k⟩
  have:=(F.mec _ _).mp k u v ho
  rwa [show x - u + u = x by lia,show y - v + v = y by lia] at this
 ·exact fun k=>ww F.cl x y ((F.meg x y).mp k)
end
theorem Bq {N:Str} {ps:List (List Blk)} {mi:List D -> Option D} {a:XA} {ρ:M.Env} {ds:List D} (ha:a ρ = some ds) (hi:mi ds = some (cu ps)):qD N "parts" mi a ρ = some (ar N ps):=by
 unfold qD;rw [ha];dsimp only [Option.bind];rw [hi];rfl
theorem CS (l u r d:Int) (h1:0 <= l) (h2:0 <= u) (h3:0 <= r) (h4:0 <= d):wF [.int l,.int u,.int r,.int d] = some (cu [[(-l,-u,r,d)]]):=by
 have hm:∃ m:Int,A0 [.int l,.int u,.int r,.int d] = some (.int m) /\ 0 <= m:=by
  exact ⟨min l (min u (min r d)),rfl,Int.le_min.mpr ⟨h1,Int.le_min.mpr ⟨h2,Int.le_min.mpr ⟨h3,h4⟩⟩⟩⟩
 obtain ⟨m,hm,m0⟩:=hm
 have m1:¬ m < 0:=by lia
 simp [wF,yc,hm,m1]
theorem yp (a:Int) (h:0 <= a):n4 [.int a] = some (cu [jl a]):=by
 have h1:¬ a < 0:=by lia
 have l4:4 <= LIM:=az (by lia)
 simp [n4,yc,h1,jl]
theorem yq (p:Pic) (c:ao p) (hp:p ≠ []) (h:(ai p).length < 15000000):n5 [ah p] = some (cu [eg p]):=by
 obtain ⟨h1,_⟩:=j9 p c h
 have d0:=mw p
 rw [decide_eq_false hp] at d0
 have l1:1 <= LIM:=az (by lia)
 generalize ah p = z at *
 generalize hb:(eg p).map bI = bl at *
 simp [n5,yc,d0,h1,l1]
 exact hb.symm
theorem CT (N M:Str) (hN:NS.contains N = true) (hM:NS.contains M = true) (ps qs:List (List Blk)) (h:ps.length + qs.length <= 5000000):Ai [ar N ps,ar M qs] = some (cu (lz (ps ++ qs))):=by
 have hl:(ps.map fc).length + (qs.map fc).length <= LIM:=az (by rw [List.length_map,List.length_map];lia)
 have hm:=nZ (ps ++ qs) (by rw [List.length_append];exact h)
 have e1:nk NS "parts" (am 1) [.lo,.sh (ar N ps),.sh (ar M qs)] = some (cu ps):=by
  show (if NS.contains N then uA ["parts"] [cu ps] "parts" else none) = _
  rw [if_pos hN]
  rfl
 have e2:nk NS "parts" (am 2) [.lo,.sh (ar N ps),.sh (ar M qs)] = some (cu qs):=by
  show (if NS.contains M then uA ["parts"] [cu qs] "parts" else none) = _
  rw [if_pos hM]
  rfl
 have e3:xOp bC (nk NS "parts" (am 1)) (nk NS "parts" (am 2)) [.lo,.sh (ar N ps),.sh (ar M qs)] = some (cu (ps ++ qs)):=by
  unfold xOp
  rw [e1,e2]
  show bC (cu ps) (cu qs) = _
  rw [F1,if_pos hl,<- List.map_append]
 exact eV (cV e3 rfl) hm
theorem yL {ts:List Tri} (hne:ts ≠ []) (hg:∀ t ∈ ts,t.2.1 <= t.2.2):bP ts ≠ []:=by
 cases ts with
 | nil=>exact absurd rfl hne
 | cons t ts=>exact G7 (((bE (t :: ts)).2 t.2.1 t.1).mpr ⟨t,List.mem_cons_self,rfl,Int.le_refl _,hg t List.mem_cons_self⟩)
def isF (N:Str):Prop:=N = "Box" \/ N = "Cross" \/ N = "Shape" \/ N = "Sum"
theorem isF.ns {N:Str} (h:isF N):NS.contains N = true:=by rcases h with rfl | rfl | rfl | rfl <;> decide
theorem j6 {c:XT} {a:XS} {ρ:M.Env} (h:c ρ = some false):xIf c a dZ ρ = some (.nx ρ):=by unfold xIf;rw [h];rfl
theorem zW {c:XT} {e:XE} {n:XS} {ρ:M.Env} {d:D} (h:c ρ = some true) (k:e ρ = some d):aH (xIf c (a8 e) dZ) n ρ = some (.rt d):=by
 unfold aH xIf;rw [h];unfold a8;rw [k];rfl
theorem kb (c u:Int) (hu:0 < u):∃ (N:Str) (ps:List (List Blk)) (bs:List Blk),isF N /\ dS [.int c,.int u] = some (ar N ps) /\ PF ps bs:=by
 have l2:2 <= LIM:=az (by lia)
 have l3:3 <= LIM:=az (by lia)
 have l1:1 <= LIM:=az (by lia)
 have d0:df (.int c) (.int 48271) = some (.int (c * 48271)):=aU (.inr (by decide))
 have d1:df (.int c) (.int 69621) = some (.int (c * 69621)):=aU (.inr (by decide))
 obtain ⟨w,hw⟩:∃ w:Int,c * 48271 % 2147483647 / 37 % 3 = w:=⟨_,rfl⟩
 obtain ⟨m,hm⟩:∃ m:Int,c * 69621 % 2147483629 / 37 = m:=⟨_,rfl⟩
 have hw3:w = 0 \/ w = 1 \/ w = 2:=by lia
 have di:∀ (n:XS),aH (br (xOp eD (xOp eW (xOp eD (xOp df (af 0) (xC (.int 48271))) (xC (.int 2147483647))) (xC (.int 37))) (xC (.int 3))) (ag 2)) (aH (br (xOp eW (xOp eD (xOp df (af 0) (xC (.int 69621))) (xC (.int 2147483629))) (xC (.int 37))) (ag 3)) n) [.sh (.int c),.sh (.int u),.un,.un,.un,.un] = n [.sh (.int c),.sh (.int u),.sh (.int w),.sh (.int m),.un,.un]:=fun n=>by
  rw [aR (fQ (d:=.int w) (by simp [d0,hw])),aR (fQ (d:=.int m) (by simp [d1,hm]))]
  rfl
 have fin:∀ d,dJ [.sh (.int c),.sh (.int u),.un,.un,.un,.un] = some (.rt d) -> dS [.int c,.int u] = some d:=fun d h=>p9 (n:=6) (ds:=[.int c,.int u]) h
 unfold dJ at fin
 simp only [di] at fin
 clear di d0 d1 hw hm
 by_cases w0:w = 0
 ·subst w0
  have e1:df (.int (m % 4)) (.int u) = some (.int (m % 4 * u)):=aU (.inl ⟨by lia,by lia⟩)
  have e2:df (.int (m / 12 % 4)) (.int u) = some (.int (m / 12 % 4 * u)):=aU (.inl ⟨by lia,by lia⟩)
  have g1:0 <= m % 4 * u:=Int.mul_nonneg (by lia) (by lia)
  have g2:0 <= m / 12 % 4 * u:=Int.mul_nonneg (by lia) (by lia)
  refine ⟨"Box",_,_,.inl rfl,fin _ (zW (by simp) (Bq (ds:=[.int (m % 4 * u),.int (m / 4 % 3),.int (m / 12 % 4 * u + m / 48 % 2),.int (m / 96 % 3)]) (by simp [e1,e2]) (CS _ _ _ _ g1 (by lia) (by lia) (by lia)))),Jw g1 (by lia) (by lia) (by lia)⟩
 by_cases w1:w = 1
 ·subst w1
  refine ⟨"Cross",_,_,.inr (.inl rfl),fin _ ?_,E9 (a:=m % 3) (by lia) (by lia)⟩
  rw [aR (j6 (by simp))]
  exact zW (by simp) (Bq (ds:=[.int (m % 3)]) (by simp) (yp _ (by lia)))
 ·have h35:df (.int (m / 35 % 3)) (.int u) = some (.int (m / 35 % 3 * u)):=aU (.inl ⟨by lia,by lia⟩)
  have g35:0 <= m / 35 % 3 * u:=Int.mul_nonneg (by lia) (by lia)
  obtain ⟨n,hn⟩:∃ n:Nat,m / 105 % 3 = (n:Int):=⟨(m / 105 % 3).toNat,by lia⟩
  obtain ⟨ρ',k1,ts,v5,rfl,e1,e2,e3⟩:=cj (g:=ag 5) (m:=d6) (fun k:Nat=>D.int (k:Int)) (fun pre ρ=>∃ (ts:List Tri) (v5:Sl),ρ = [.sh (.int c),.sh (.int u),.sh (.int w),.sh (.int m),owl (ts.map aC),v5] /\ ts ≠ [] /\ ts.length = pre.length + 1 /\ ∀ t ∈ ts,t.2.1 <= t.2.2) (List.range n) [.sh (.int c),.sh (.int u),.sh (.int w),.sh (.int m),owl ([((m % 5 - 2,m / 5 % 7 - 3,m / 5 % 7 - 3 + m / 35 % 3 * u):Tri)].map aC),.un]
   ⟨[(m % 5 - 2,m / 5 % 7 - 3,m / 5 % 7 - 3 + m / 35 % 3 * u)],_,rfl,by simp,rfl,fun t ht=>by rw [List.mem_singleton.mp ht];dsimp only;lia⟩ (by
   rintro pre k post _ e ⟨ts,v5,rfl,t1,t2,t3⟩
   have hk:k < n:=List.mem_range.mp (by rw [e];simp)
   have hpl:pre.length < n:=by have:=congrArg List.length e;simp at this;lia
   have d1:df (.int 11) (.int (k:Int)) = some (.int (11 * (k:Int))):=aU (.inl (by decide))
   have d2:df (.int 7) (.int (k:Int)) = some (.int (7 * (k:Int))):=aU (.inl (by decide))
   have d3:eW (.int m) (.int (11 * (k:Int) + 2)) = some (.int (m / (11 * (k:Int) + 2))):=aU ⟨by lia,by lia⟩
   have d4:eW (.int m) (.int (7 * (k:Int) + 3)) = some (.int (m / (7 * (k:Int) + 3))):=aU ⟨by lia,by lia⟩
   have d5:df (.int (m / (11 * (k:Int) + 2) % 7)) (.int u) = some (.int (m / (11 * (k:Int) + 2) % 7 * u)):=aU (.inl ⟨by lia,by lia⟩)
   have hlim:ts.length < LIM:=gd (by lia)
   refine ⟨_,[.sh (.int c),.sh (.int u),.sh (.int w),.sh (.int m),owl ((ts ++ [((m / (7 * (k:Int) + 3) % 5 - 2,m / (11 * (k:Int) + 2) % 7 * u,m / (11 * (k:Int) + 2) % 7 * u):Tri)]).map aC),.sh (.int k)],rfl,.inl ?_,_,_,rfl,by simp,by simp [t2],fun t ht=>?_⟩
   ·generalize m / (11 * (k:Int) + 2) = m1 at *
    generalize m / (7 * (k:Int) + 3) = m2 at *
    simp [d6,d1,d2,d3,d4,d5,hlim,l3]
   ·rcases List.mem_append.mp ht with ht | ht
    ·exact t3 t ht
    ·rw [List.mem_singleton.mp ht];exact Int.le_refl _)
  rw [List.length_range] at e2
  have hn3:n < 3:=by lia
  have hr:De [.int (n:Int)] = some ((List.range n).map fun i:Nat=>D.int (i:Int)):=by
   rw [<- Er]
   exact aU ⟨by lia,by lia⟩
  have hp:=iH ts e3 (by lia)
  have cp:=(bE ts).1
  have lp:=fy ts
  refine ⟨"Shape",_,_,.inr (.inr (.inl rfl)),fin _ ?_,Fa cp (yL e1 e3) (by lia)⟩
  rw [aR (j6 (by simp [w0])),aR (j6 (by simp [w1]))]
  rw [aR (ρ':=[.sh (.int c),.sh (.int u),.sh (.int w),.sh (.int m),owl ([((m % 5 - 2,m / 5 % 7 - 3,m / 5 % 7 - 3 + m / 35 % 3 * u):Tri)].map aC),.un]) (by simp [h35,l1,l3])]
  rw [aR (ρ':=[.sh (.int c),.sh (.int u),.sh (.int w),.sh (.int m),owl (ts.map aC),v5]) (by
   have hi:xi (ab (xOp eD (xOp eW (af 3) (xC (.int 105))) (xC (.int 3))) aj) [.sh (.int c),.sh (.int u),.sh (.int w),.sh (.int m),owl ([((m % 5 - 2,m / 5 % 7 - 3,m / 5 % 7 - 3 + m / 35 % 3 * u):Tri)].map aC),.un] = some ((List.range n).map fun i:Nat=>D.int (i:Int)):=by
    rw [<- hr,<- hn]
    generalize owl ([((m % 5 - 2,m / 5 % 7 - 3,m / 5 % 7 - 3 + m / 35 % 3 * u):Tri)].map aC) = ow
    simp
   unfold gq
   rw [hi]
   exact k1)]
  have hfz:frz 4 [.sh (.int c),.sh (.int u),.sh (.int w),.sh (.int m),owl (ts.map aC),v5] = [.sh (.int c),.sh (.int u),.sh (.int w),.sh (.int m),.sh (.lst (ts.map aC)),v5]:=by
   generalize ts.map aC = tl
   simp [frz]
  show AS 4 _ _ = _
  unfold AS
  rw [hfz]
  unfold a8
  rw [Bq (ps:=[eg (bP ts)]) (ds:=[ah (bP ts)]) (cV (eV (ds:=[.lst (ts.map aC)]) rfl hp) rfl) (yq _ cp (yL e1 e3) (by lia))]
  rfl
theorem kW (ns:List Int) (k:Nat):∃ v:Int,aZ [.scr (ns.map D.int),.int (k:Int)] = some (.int v):=by
 by_cases h:k < ns.length
 ·have h':(k:Int) < ns.length:=by lia
  have ac:atI (ns.map D.int) (k:Int) = some (.int ns[k]):=ji (by rw [List.getElem?_map,List.getElem?_eq_getElem h];rfl)
  exact ⟨ns[k],by simp [aZ,im,fnO,gE,h',ac]⟩
 ·have h':¬ (k:Int) < ns.length:=by lia
  exact ⟨0,by simp [aZ,im,fnO,gE,h']⟩
theorem sV (ns:List Int) (u:Int) (hu:0 < u):∃ (N:Str) (ps:List (List Blk)),isF N /\ iG [.scr (ns.map D.int),.int u] = some (ar N ps) /\ GF ps:=by
 obtain ⟨c0,hc0⟩:∃ v:Int,aZ [.scr (ns.map D.int),.int 0] = some (.int v):=kW ns 0
 obtain ⟨c1,hc1⟩:∃ v:Int,aZ [.scr (ns.map D.int),.int 1] = some (.int v):=kW ns 1
 obtain ⟨c2,hc2⟩:∃ v:Int,aZ [.scr (ns.map D.int),.int 2] = some (.int v):=kW ns 2
 obtain ⟨N,ps,bs,hN,h1,pf⟩:=kb c1 u hu
 obtain ⟨M,qs,cs,hM,h2,qf⟩:=kb c2 u hu
 generalize D.scr (ns.map D.int) = sc at *
 have fin:∀ d,dH [.sh sc,.sh (.int u),.un] = some (.rt d) -> iG [sc,.int u] = some d:=fun d h=>p9 (n:=3) (ds:=[sc,.int u]) h
 have st:∀ n:XS,aH (br (av dS (ab (av aZ (ab (am 0) (ab (xC (.int 1)) aj))) (ab (am 1) aj))) (ag 2)) n [.sh sc,.sh (.int u),.un] = n [.sh sc,.sh (.int u),.sh (ar N ps)]:=fun n=>by
  rw [aR (fQ (eV (ds:=[.int c1,.int u]) (cV (eV (ds:=[sc,.int 1]) rfl hc1) rfl) h1))]
  rfl
 unfold dH at fin
 simp only [st] at fin
 by_cases h:c0 / 3 % 3 = 1
 ·refine ⟨"Sum",_,.inr (.inr (.inr rfl)),fin _ (zW ?_ (Bq (ds:=[ar N ps,ar M qs]) (cV rfl (cV (eV (ds:=[.int c2,.int u]) (cV (eV (ds:=[sc,.int 2]) rfl hc2) rfl) h2) rfl)) (CT N M hN.ns hM.ns ps qs (by rw [pf.eq,qf.eq];show 1 + 1 <= 5000000;lia)))),Ki pf qf⟩
  generalize ar N ps = F
  simp [hc0,h]
 ·refine ⟨N,ps,hN,fin _ ?_,pf.gf⟩
  rw [aR (j6 (by
   generalize ar N ps = F
   simp [hc0,h]))]
  rfl
theorem gw {a b:Pic} (ca:ao a) (cb:ao b) {n:Nat} (hb:(ai b).length <= n) (hn:n <= 70000) (h:∀ x y,aw a x y -> aw b x y):i7 [ah a,ah b] = some (.bl true):=by
 have hr:=wR cb
 refine yn ca cb (az (by lia)) (fun q hq=>az ?_) h
 have:=lQ (p:=b) q.1
 rw [gQ cb hq] at this
 lia
section
variable {n:Nat} {N:Str} {ps:List (List Blk)} {p s g o c:Pic}
theorem pJ (hN:NS.contains N = true) {p s o:Pic} (h1:aI [ar N ps,ah p] = some (ah s)) (h2:aE [ar N ps,ah s] = some (ah o)):bS [ar N ps,ah p] = some (ah o):=by
 have ex:dG [.sh (ar N ps),.sh (ah p)] = some (.rt (ah o)):=by
  unfold dG a8
  rw [gj hN (ps:=ps) (ds:=[ah s]) (by decide) rfl (cV (gj hN (ps:=ps) (ds:=[ah p]) (by decide) rfl rfl h1) rfl) h2]
  rfl
 exact p9 (n:=2) (ds:=[ar N ps,ah p]) ex
theorem o6 (hN:NS.contains N = true) {p g c:Pic} (h1:aE [ar N ps,ah p] = some (ah g)) (h2:aI [ar N ps,ah g] = some (ah c)):bR [ar N ps,ah p] = some (ah c):=by
 have ex:dF [.sh (ar N ps),.sh (ah p)] = some (.rt (ah c)):=by
  unfold dF a8
  rw [gj hN (ps:=ps) (ds:=[ah g]) (by decide) rfl (cV (gj hN (ps:=ps) (ds:=[ah p]) (by decide) rfl rfl h1) rfl) h2]
  rfl
 exact p9 (n:=2) (ds:=[ar N ps,ah p]) ex
theorem Four.told (F:Four n N ps p s g o c) (hN:NS.contains N = true):wD [ar N ps,ah p] = some (.lst [ah s,ah g,ah o,ah c]):=by
 have l4:4 <= LIM:=az (by lia)
 have e1:bx NS "smaller" aI (am 0) (ab (am 1) aj) [.sh (ar N ps),.sh (ah p)] = some (ah s):=gj hN (ps:=ps) (ds:=[ah p]) (by decide) rfl rfl F.sm
 have e2:bx NS "greater" aE (am 0) (ab (am 1) aj) [.sh (ar N ps),.sh (ah p)] = some (ah g):=gj hN (ps:=ps) (ds:=[ah p]) (by decide) rfl rfl F.gr
 have e3:bx NS "opened" bS (am 0) (ab (am 1) aj) [.sh (ar N ps),.sh (ah p)] = some (ah o):=gj hN (ps:=ps) (ds:=[ah p]) (by decide) rfl rfl (pJ hN F.sm F.os)
 have e4:bx NS "closed" bR (am 0) (ab (am 1) aj) [.sh (ar N ps),.sh (ah p)] = some (ah c):=gj hN (ps:=ps) (ds:=[ah p]) (by decide) rfl rfl (o6 hN F.gr F.cs)
 generalize ar N ps = Fd at *
 generalize ah p = P0 at *
 generalize ah s = P1 at *
 generalize ah g = P2 at *
 generalize ah o = P3 at *
 generalize ah c = P4 at *
 have ex:kI [.sh Fd,.sh P0] = some (.ro (.lst [.sh P1,.sh P2,.sh P3,.sh P4])):=by
  unfold kI BS xLT pW
  rw [cV e1 (cV e2 (cV e3 (cV e4 rfl)))]
  simp [l4]
 show (fnO 2 kI [Fd,P0]).map O.d = _
 unfold fnO
 rw [show [Fd,P0].map Sl.sh ++ List.replicate (2 - [Fd,P0].length) Sl.un = [.sh Fd,.sh P0] from rfl,ex]
 rfl
end
theorem kR {q:Pic} (c:ao q) (h:∀ x y,¬ aw q x y):q = []:=ox c gP fun x y=>⟨fun k=>(h x y k).elim,fun k=>(bi _ _ k).elim⟩
theorem D3 (ns:List Int):(eB ns (some 3) (some 19)).length <= 16:=by
 have h:=A7 ns (some 3) (some 19)
 rw [kU (by decide),kU (by decide)] at h
 have e1:(19:Int).toNat = 19:=rfl
 have e2:(3:Int).toNat = 3:=rfl
 rw [e1,e2] at h
 lia
theorem HF (ns:List Int):(eB ns (some 3) (some 7)).length <= 4:=by
 have h:=A7 ns (some 3) (some 7)
 rw [kU (by decide),kU (by decide)] at h
 have e1:(7:Int).toNat = 7:=rfl
 have e2:(3:Int).toNat = 3:=rfl
 rw [e1,e2] at h
 lia
theorem zi (c u:Int) (hu:0 < u):∃ t:Tri,ft [.int c,.int u] = some (aC t) /\ t.2.1 <= t.2.2:=by
 have l3:3 <= LIM:=az (by lia)
 obtain ⟨m,hm⟩:∃ m:Int,c * 48271 % 2147483647 / 37 = m:=⟨_,rfl⟩
 have h1:df (.int (m / 9 % 19 - 9)) (.int u) = some (.int ((m / 9 % 19 - 9) * u)):=aU (.inl ⟨by lia,by lia⟩)
 have h2:df (.int (m / 171 % 10)) (.int u) = some (.int (m / 171 % 10 * u)):=aU (.inl ⟨by lia,by lia⟩)
 have h3:0 <= m / 171 % 10 * u:=Int.mul_nonneg (by lia) (by lia)
 refine ⟨(m % 9 - 4,(m / 9 % 19 - 9) * u + m / 2000 % 2,(m / 9 % 19 - 9) * u + m / 2000 % 2 + m / 171 % 10 * u),?_,by dsimp only;lia⟩
 have h0:df (.int c) (.int 48271) = some (.int (c * 48271)):=aU (.inr (by decide))
 simp [ft,mH,fnO,kJ,hm,h1,h2,l3]
theorem Dy (ns:List Int) (u:Int) (hu:0 < u):∃ ts us:List Tri,bm (ag 0) cA (av ft (ab (am 0) (ab (am 1) aj))) [.un,.sh (.int u)] (eB (ns.map D.int) (some 3) (some 19)) = some (ts.map aC) /\ ts.length <= 16 /\ (∀ t ∈ ts,t.2.1 <= t.2.2) /\
  bm (ag 0) cA (av ft (ab (xOp bC (xOp eW (af 0) (xC (.int 3))) (xC (.int 5))) (ab (am 1) aj))) [.un,.sh (.int u)] (eB (ns.map D.int) (some 3) (some 7)) = some (us.map aC) /\ us.length <= 4 /\ ∀ t ∈ us,t.2.1 <= t.2.2:=by
 obtain ⟨T,hT⟩:∃ T:Int -> Tri,∀ c,ft [.int c,.int u] = some (aC (T c)) /\ (T c).2.1 <= (T c).2.2:=⟨fun c=>(zi c u hu).choose,fun c=>(zi c u hu).choose_spec⟩
 refine ⟨(eB ns (some 3) (some 19)).map T,(eB ns (some 3) (some 7)).map fun c=>T (c / 3 + 5),?_,by rw [List.length_map];exact D3 ns,fun t ht=>?_,?_,by rw [List.length_map];exact HF ns,fun t ht=>?_⟩
 ·rw [kO,List.map_map]
  exact aS D.int (aC ∘ T) _ fun c _=>by
   have:=(hT c).1
   simp [dD,this]
 ·obtain ⟨c,_,rfl⟩:=List.mem_map.mp ht
  exact (hT c).2
 ·rw [kO,List.map_map]
  exact aS D.int (aC ∘ fun c=>T (c / 3 + 5)) _ fun c _=>by
   have:=(hT (c / 3 + 5)).1
   simp [dD,this]
 ·obtain ⟨c,_,rfl⟩:=List.mem_map.mp ht
  exact (hT _).2
theorem Kt (u:Int) (hu:0 < u):∃ us:List Tri,bm (ag 0) cA (aQ (ab (am 0) (ab (xOp df (xUn dN (xC (.int 9))) (af 1)) (ab (xOp df (xC (.int 9)) (af 1)) aj)))) [.un,.sh (.int u)] (([-2,-1,0,1]:List Int).map D.int) = some (us.map aC) /\ us.length <= 4 /\ ∀ t ∈ us,t.2.1 <= t.2.2:=by
 have l3:3 <= LIM:=az (by lia)
 refine ⟨([-2,-1,0,1]:List Int).map fun y=>(y,-9 * u,9 * u),?_,by simp,fun t ht=>?_⟩
 ·have d1:df (.int (-9)) (.int u) = some (.int (-9 * u)):=aU (.inl (by decide))
  have d2:df (.int 9) (.int u) = some (.int (9 * u)):=aU (.inl (by decide))
  rw [List.map_map]
  exact aS D.int (aC ∘ fun y=>(y,-9 * u,9 * u)) _ fun y _=>by simp [dD,d1,d2,l3]
 ·obtain ⟨y,_,rfl⟩:=List.mem_map.mp ht
  dsimp only
  lia
theorem EF (ns:List Int) (hns:ns.length <= 63):K5 [.scr (ns.map D.int)] = some (.bl true):=by
 have l3:3 <= LIM:=az (by lia)
 obtain ⟨P40,hP40⟩:∃ P:Int,(10:Int) ^ (40:Int).toNat = P:=⟨_,rfl⟩
 have p40:Go (.int 10) (.int 40) = some (.int P40):=by rw [<- hP40];exact L9 (by decide)
 have h40:0 < P40:=by rw [<- hP40];decide
 clear hP40
 obtain ⟨f,hf⟩:∃ f:Int,aZ [.scr (ns.map D.int),.int 0] = some (.int f):=kW ns 0
 obtain ⟨u,hu,eu⟩:∃ u:Int,0 < u /\ atI [D.int 1,.int 1,.int (P40 + 7)] (f % 3) = some (.int u):=by
  have:f % 3 = 0 \/ f % 3 = 1 \/ f % 3 = 2:=by lia
  rcases this with e | e | e <;> rw [e]
  ·exact ⟨1,by lia,rfl⟩
  ·exact ⟨1,by lia,rfl⟩
  ·exact ⟨P40 + 7,by lia,rfl⟩
 obtain ⟨T,V,hT,lT,gT,hV,lV,gV⟩:=Dy ns u hu
 obtain ⟨us,hU,lU,gU⟩:=Kt u hu
 obtain ⟨N,ps,hF,hform,gf⟩:=sV ns u hu
 have hN:=hF.ns
 obtain ⟨ts,hts,lts,gts⟩:∃ ts:List Tri,ts = (if f / 9 % 2 = 1 then T ++ us else T) /\ ts.length <= 20 /\ ∀ t ∈ ts,t.2.1 <= t.2.2:=by
  refine ⟨_,rfl,?_,?_⟩
  ·split
   ·rw [List.length_append];lia
   ·lia
  ·split
   ·intro t ht
    rcases List.mem_append.mp ht with ht | ht
    ·exact gT t ht
    ·exact gU t ht
   ·exact gT
 have gtv:∀ t ∈ ts ++ V,t.2.1 <= t.2.2:=fun t ht=>(List.mem_append.mp ht).elim (gts t) (gV t)
 have ltv:(ts ++ V).length <= 24:=by rw [List.length_append];lia
 have hp:=iH ts gts (by lia)
 have hq:=iH (ts ++ V) gtv (by lia)
 have cp:=(bE ts).1
 have cq:=(bE (ts ++ V)).1
 have e0:=fy ts
 have e1:=fy (ts ++ V)
 have hpq:∀ x y,aw (bP ts) x y -> aw (bP (ts ++ V)) x y:=fun x y h=>by
  obtain ⟨t,ht,r⟩:=((bE ts).2 x y).mp h
  exact ((bE (ts ++ V)).2 x y).mpr ⟨t,List.mem_append_left _ ht,r⟩
 obtain ⟨s,g,o,c,A⟩:=wu (n:=20) gf hN cp (by lia) (by lia)
 obtain ⟨s',g',o',c',B⟩:=wu (n:=24) gf hN cq (by lia) (by lia)
 obtain ⟨sn,gn,on,cn,Z⟩:=wu (n:=0) (p:=[]) gf hN gP (Nat.le_refl _) (by lia)
 -- of nothing
 obtain ⟨a0,b0,hab⟩:=yC gf.ok
 have sn0:sn = []:=kR Z.cas fun x y h=>bi _ _ ((Z.mes x y).mp h a0 b0 hab)
 have gn0:gn = []:=kR Z.cag fun x y h=>by
  obtain ⟨_,_,_,k⟩:=(Z.meg x y).mp h
  exact bi _ _ k
 have on0:on = []:=kR Z.cao fun x y h=>by
  obtain ⟨_,_,_,k⟩:=(Z.meo x y).mp h
  rw [sn0] at k
  exact bi _ _ k
 have cn0:cn = []:=kR Z.cac fun x y h=>by
  have k:=(Z.mec x y).mp h a0 b0 hab
  rw [gn0] at k
  exact bi _ _ k
 have zo:=pJ hN Z.sm Z.os
 have zc:=o6 hN Z.gr Z.cs
 rw [on0] at zo
 rw [cn0] at zc
 have hA:=A.told hN
 have hB:=B.told hN
 have ho2:=pJ hN (A.op2 gf hN (Nat.le_refl _)) A.os
 have hc2:=o6 hN (A.cl2 gf hN (by lia)) A.cs
 have w1:=gw A.cao cp (n:=20) (by lia) (by lia) A.op
 have w2:=gw cp A.cac A.lec (by lia) A.cl
 have v0:=gw A.cas B.cas B.les (by lia) fun x y h=>(B.mes x y).mpr (nT hpq x y ((A.mes x y).mp h))
 have mg:∀ x y,aw g x y -> aw g' x y:=fun x y h=>(B.meg x y).mpr (ww hpq x y ((A.meg x y).mp h))
 have v1:=gw A.cag B.cag B.leg (by lia) mg
 have v2:=gw A.cao B.cao B.leo (by lia) fun x y h=>(B.meo x y).mpr (ww (fun x y h=>(B.mes x y).mpr (nT hpq x y ((A.mes x y).mp h))) x y ((A.meo x y).mp h))
 have v3:=gw A.cac B.cac B.lec (by lia) fun x y h=>(B.mec x y).mpr (nT mg x y ((A.mec x y).mp h))
 have do':dEq true (ah o) (ah o) = some (.bl false):=nK true (n8 o)
 have dc':dEq true (ah c) (ah c) = some (.bl false):=nK true (n8 c)
 have dn:dEq false (ah []) (.tup []) = some (.bl true):=nK false (n8 [])
 have isi:an_Form.lookup N = some true:=by rcases hF with rfl | rfl | rfl | rfl <;> rfl
 have ti:∀ p:Pic,wj [ah p,.ty "tuple"] = some (.bl true):=fun p=>rfl
 have i1:=ti s
 have i2:=ti g
 have i3:=ti o
 have i4:=ti c
 have hr4:De [.int 4] = some [.int 0,.int 1,.int 2,.int 3]:=aU ⟨by decide,by decide⟩
 have hrm:De [.int (-2),.int 2] = some (([-2,-1,0,1]:List Int).map D.int):=by
  first
   | exact aU ⟨by decide,by decide⟩
   | exact aU (by decide)
   | rfl
 have lc1:(eB (ns.map D.int) (some 3) (some 19)).length <= LIM:=az (by rw [kO,List.length_map];have:=D3 ns;lia)
 have lc2:(eB (ns.map D.int) (some 3) (some 7)).length <= LIM:=az (by rw [kO,List.length_map];have:=HF ns;lia)
 have lc3:(([-2,-1,0,1]:List Int).map D.int).length <= LIM:=az (by simp)
 have la1:(T.map aC).length + (us.map aC).length <= LIM:=az (by rw [List.length_map,List.length_map];lia)
 have la2:(ts.map aC).length + (V.map aC).length <= LIM:=az (by rw [List.length_map,List.length_map];lia)
 generalize ([-2,-1,0,1]:List Int).map D.int = Yd at *
 generalize bP (ts ++ V) = q at *
 generalize bP ts = p at *
 have m5:∀ {m:Str} {fm:List D -> Option D} {e:XE} {ρ:M.Env} {a b:D},(["parts"]:List Str).contains m = false -> ρ[5]? = some (.sh (ar N ps)) -> e ρ = some a -> fm [ar N ps,a] = some b -> bx NS m fm (am 5) (ab e aj) ρ = some b:=fun {m fm e ρ a b} h1 h2 h3 h4=>gj hN (ps:=ps) (ds:=[a]) h1 (by unfold am;rw [h2]) (cV h3 rfl) h4
 have ex:xx [.sh (.scr (ns.map D.int)),.un,.un,.un,.un,.un,.un,.un,.un,.un] = some (.rt (.bl true)):=by
  unfold xx
  rw [aR (ρ':=[.sh (.scr (ns.map D.int)),.sh (.int u),.un,.un,.un,.un,.un,.un,.un,.un]) (fQ (by
   generalize D.scr (ns.map D.int) = sc at *
   simp [p40,l3,hf,eu]))]
  rw [aR (ρ':=[.sh (.scr (ns.map D.int)),.sh (.int u),.sh (.lst (T.map aC)),.un,.un,.un,.un,.un,.un,.un]) (fQ (by
   simp [dSl,t0,lc1,hT]))]
  rw [aR (ρ':=[.sh (.scr (ns.map D.int)),.sh (.int u),.sh (.lst (ts.map aC)),.un,.un,.un,.un,.un,.un,.un]) (by
   generalize D.scr (ns.map D.int) = sc at *
   rw [hts]
   by_cases h9:f / 9 % 2 = 1
   ·rw [if_pos h9,List.map_append]
    have hadd:bC (.lst (T.map aC)) (.lst (us.map aC)) = some (.lst (T.map aC ++ us.map aC)):=by rw [AQ,if_pos la1]
    generalize T.map aC = Td at *
    generalize us.map aC = Ud at *
    simp [hf,h9,hrm,lc3,hU,hadd]
   ·rw [if_neg h9]
    generalize T.map aC = Td at *
    simp [hf,h9])]
  rw [aR (ρ':=[.sh (.scr (ns.map D.int)),.sh (.int u),.sh (.lst (ts.map aC)),.sh (ah p),.un,.un,.un,.un,.un,.un]) (fQ (eV (ds:=[.lst (ts.map aC)]) rfl hp))]
  rw [aR (ρ':=[.sh (.scr (ns.map D.int)),.sh (.int u),.sh (.lst (ts.map aC)),.sh (ah p),.sh (ah q),.un,.un,.un,.un,.un]) (fQ (eV (ds:=[.lst ((ts ++ V).map aC)]) (cV (by
   have hadd:bC (.lst (ts.map aC)) (.lst (V.map aC)) = some (.lst ((ts ++ V).map aC)):=by rw [AQ,if_pos la2,List.map_append]
   generalize ts.map aC = Td at *
   generalize (ts ++ V).map aC = Wd at *
   generalize ah p = P0
   simp [dSl,t0,lc2,hV,hadd]) rfl) hq))]
  rw [aR (ρ':=[.sh (.scr (ns.map D.int)),.sh (.int u),.sh (.lst (ts.map aC)),.sh (ah p),.sh (ah q),.sh (ar N ps),.un,.un,.un,.un]) (fQ (eV (ds:=[.scr (ns.map D.int),.int u]) rfl hform))]
  generalize D.scr (ns.map D.int) = sc at *
  generalize D.lst (ts.map aC) = tl at *
  rw [aR (j6 (by
   have:BP an_Form (am 5) [.sh sc,.sh (.int u),.sh tl,.sh (ah p),.sh (ah q),.sh (ar N ps),.un,.un,.un,.un] = some (.bl true):=by
    show (an_Form.lookup N).map D.bl = _
    rw [isi]
    rfl
   unfold xh uk
   rw [this]
   rfl))]
  rw [aR (ρ':=[.sh sc,.sh (.int u),.sh tl,.sh (ah p),.sh (ah q),.sh (ar N ps),.sh (.lst [ah s,ah g,ah o,ah c]),.un,.un,.un]) (fQ (eV (ds:=[ar N ps,ah p]) rfl hA))]
  rw [aR (ρ':=[.sh sc,.sh (.int u),.sh tl,.sh (ah p),.sh (ah q),.sh (ar N ps),.sh (.lst [ah s,ah g,ah o,ah c]),.sh (ah c),.un,.un]) (by
   generalize ar N ps = F
   generalize ah s = S0 at *
   generalize ah g = G0 at *
   generalize ah o = O0 at *
   generalize ah c = C0 at *
   generalize ah p = P0
   generalize ah q = Q0
   simp [e8,v8,t0,i1,i2,i3,i4])]
  have at0:∀ a b c d:D,atI [a,b,c,d] 0 = some a:=fun _ _ _ _=>rfl
  have at1:∀ a b c d:D,atI [a,b,c,d] 1 = some b:=fun _ _ _ _=>rfl
  have at2:∀ a b c d:D,atI [a,b,c,d] 2 = some c:=fun _ _ _ _=>rfl
  have at3:∀ a b c d:D,atI [a,b,c,d] 3 = some d:=fun _ _ _ _=>rfl
  rw [aR (j6 (by
   have q1:bx NS "greater" aE (am 5) (ab (xOp dIx (af 6) (xC (.int 0))) aj) [.sh sc,.sh (.int u),.sh tl,.sh (ah p),.sh (ah q),.sh (ar N ps),.sh (.lst [ah s,ah g,ah o,ah c]),.sh (ah c),.un,.un] = some (ah o):=m5 (by decide) rfl (Bz (x:=.lst [ah s,ah g,ah o,ah c]) (y:=.int 0) rfl rfl (at0 ..)) A.os
   have q2:bx NS "smaller" aI (am 5) (ab (xOp dIx (af 6) (xC (.int 1))) aj) [.sh sc,.sh (.int u),.sh tl,.sh (ah p),.sh (ah q),.sh (ar N ps),.sh (.lst [ah s,ah g,ah o,ah c]),.sh (ah c),.un,.un] = some (ah c):=m5 (by decide) rfl (Bz (x:=.lst [ah s,ah g,ah o,ah c]) (y:=.int 1) rfl rfl (at1 ..)) A.cs
   generalize ar N ps = F at *
   generalize ah s = S0 at *
   generalize ah g = G0 at *
   generalize ah o = O0 at *
   generalize ah c = C0 at *
   generalize ah p = P0 at *
   generalize ah q = Q0 at *
   simp [-bx,q1,q2,at2,at3,do',dc']))]
  rw [aR (j6 (by
   generalize ar N ps = F at *
   generalize ah s = S0 at *
   generalize ah g = G0 at *
   generalize ah o = O0 at *
   generalize ah c = C0 at *
   generalize ah p = P0 at *
   generalize ah q = Q0 at *
   simp [at2,at3,w1,w2]))]
  rw [aR (j6 (by
   have q1:bx NS "opened" bS (am 5) (ab (xOp dIx (af 6) (xC (.int 2))) aj) [.sh sc,.sh (.int u),.sh tl,.sh (ah p),.sh (ah q),.sh (ar N ps),.sh (.lst [ah s,ah g,ah o,ah c]),.sh (ah c),.un,.un] = some (ah o):=m5 (by decide) rfl (Bz (x:=.lst [ah s,ah g,ah o,ah c]) (y:=.int 2) rfl rfl (at2 ..)) ho2
   have q2:bx NS "closed" bR (am 5) (ab (xOp dIx (af 6) (xC (.int 3))) aj) [.sh sc,.sh (.int u),.sh tl,.sh (ah p),.sh (ah q),.sh (ar N ps),.sh (.lst [ah s,ah g,ah o,ah c]),.sh (ah c),.un,.un] = some (ah c):=m5 (by decide) rfl (Bz (x:=.lst [ah s,ah g,ah o,ah c]) (y:=.int 3) rfl rfl (at3 ..)) hc2
   generalize ar N ps = F at *
   generalize ah s = S0 at *
   generalize ah g = G0 at *
   generalize ah o = O0 at *
   generalize ah c = C0 at *
   generalize ah p = P0 at *
   generalize ah q = Q0 at *
   simp [-bx,q1,q2,at2,at3,do',dc']))]
  rw [aR (ρ':=[.sh sc,.sh (.int u),.sh tl,.sh (ah p),.sh (ah q),.sh (ar N ps),.sh (.lst [ah s,ah g,ah o,ah c]),.sh (ah c),.sh (.lst [ah s',ah g',ah o',ah c']),.un]) (fQ (eV (ds:=[ar N ps,ah q]) rfl hB))]
  have q1:∀ v9:Sl,bx NS "opened" bS (am 5) (ab (aQ aj) aj) [.sh sc,.sh (.int u),.sh tl,.sh (ah p),.sh (ah q),.sh (ar N ps),.sh (.lst [ah s,ah g,ah o,ah c]),.sh (ah c),.sh (.lst [ah s',ah g',ah o',ah c']),v9] = some (ah []):=fun v9=>m5 (by decide) rfl (by simp) zo
  have q2:∀ v9:Sl,bx NS "closed" bR (am 5) (ab (aQ aj) aj) [.sh sc,.sh (.int u),.sh tl,.sh (ah p),.sh (ah q),.sh (ar N ps),.sh (.lst [ah s,ah g,ah o,ah c]),.sh (ah c),.sh (.lst [ah s',ah g',ah o',ah c']),v9] = some (ah []):=fun v9=>m5 (by decide) rfl (by simp) zc
  generalize ar N ps = F at *
  generalize ah s = S0 at *
  generalize ah g = G0 at *
  generalize ah o = O0 at *
  generalize ah c = C0 at *
  generalize ah s' = S1 at *
  generalize ah g' = G1 at *
  generalize ah o' = O1 at *
  generalize ah c' = C1 at *
  generalize ah p = P0 at *
  generalize ah q = Q0 at *
  rw [aR (ρ':=[.sh sc,.sh (.int u),.sh tl,.sh P0,.sh Q0,.sh F,.sh (.lst [S0,G0,O0,C0]),.sh C0,.sh (.lst [S1,G1,O1,C1]),.sh (.int 3)]) (by
   simp [hr4,e8,wa,at0,at1,at2,at3,v0,v1,v2,v3])]
  generalize ah [] = Z0 at *
  simp [-bx,q1,q2,dn]
 exact p9 (n:=10) (ds:=[.scr (ns.map D.int)]) ex
end P
namespace L2
open PySem PySem.Spec PyProof.Rows M
structure Fd (K:W.Frag) (x:Str) (st:Stmt) (f:Addr) (fd:FuncData):Prop where
 a:W.nsIn K mainGlobals x = some (some (.ref f))
 F:Fun K x x st f fd
structure Bk (P:Program) (w:World) (K:W.Frag) (mg:Str -> Option Value) (base:Heap) (n:Nat) (x:Str) (ps:List Str) (sp:Sp) (f:Addr) (fd:FuncData):Prop where
 G:FnOk P w K mg base CX0 n f fd ps sp
 m:mg x = some (.ref f)
 k:W.keepIn K (.ref f) = true
 b:Binds K fd ps []
structure Bm (P:Program) (w:World) (K:W.Frag) (mg:Str -> Option Value) (base:Heap) (n:Nat) (x:Str) (Ns ps:List Str) (sp:Sp) (f:Addr) (fd:FuncData):Prop where
 G:FnOk P w K mg base CX0 n f fd ps sp
 b:Binds K fd ps []
 cm:qE K Ns fun C=>Cls K C /\ Meth K C x f
structure Bc (P:Program) (w:World) (K:W.Frag) (mg:Str -> Option Value) (base:Heap) (n:Nat) (x:Str) (ps:List Str) (sp:Sp) (c f:Addr) (fd:FuncData):Prop where
 G:FnOk P w K mg base CX0 n f fd ps sp
 b:Binds K fd ps []
 n:W.nsIn K mainGlobals x = some (some (.ref c))
 M:Mk K c f
 g:mg x = some (.ref c)
structure Bb (P:Program) (w:World) (K:W.Frag) (mg:Str -> Option Value) (base:Heap) (n:Nat) (x:Str) (ps:List Str) (sp:Sp) (c f:Addr) (fd:FuncData):Prop where
 G:FnOk P w K mg base CX0 n f fd ps sp
 b:Binds K fd ps []
 cf:ClsFn K c "__init__" f
 g:mg x = some (.ref c)
section
variable {X:Cx} {a b e o:Expr} {es:List Expr} {ta tb te:TE} {t:TA} {p pos pos' apos:Pos} {x:Str} {n k:Nat} {ps:List Str} {sp:Sp} {c f:Addr} {fd:FuncData}
theorem pgn (i:Nat) (hN:X.N.Nodup) (hi:X.N[i]? = some x:=by rfl) (hx:Loc X.env.scope x:=by exact .inl rfl) (hf:X.fn x = true \/ X.env.scope.names.lookup x = some .local:=by first | exact .inl rfl | exact .inr rfl | assumption):PG X (.Name x pos) (gH i):=oj hN hi hx hf
theorem pgc {N:List Str} {scope:Scope} {z:CxZ} (i:Nat) (hN:N.Nodup:=by decide +kernel) (hi:(cxC X N scope z).N[i]? = some x:=by rfl) (hx:Loc (cxC X N scope z).env.scope x:=by exact .inl rfl) (hf:(cxC X N scope z).fn x = true \/ (cxC X N scope z).env.scope.names.lookup x = some .local:=by first | exact .inl rfl | exact .inr rfl | assumption):PG (cxC X N scope z) (.Name x pos) (gH i):=oj hN hi hx hf
theorem pst (i:Nat) (hN:X.N.Nodup) (he:PE X e te) (hi:X.N[i]? = some x:=by rfl) (hx:Loc X.env.scope x:=by exact .inl rfl) (hs:swapsWith e (some (.Name x pos')) pos.line X.env = pure false:=by rfl) (hf:X.fn x = true \/ X.env.scope.names.lookup x = some .local:=by first | exact .inl rfl | exact .inr rfl | assumption) :
  PS X (.Assign [.Name x pos'] e pos) (uO te (gH i)):=Ax hN hi hx he hs hf
theorem pix (ha:PE X a ta) (hb:PE X b tb) (hs:AW b:=by exact fun _ _=>rfl):PE X (.Subscript a b pos) (tOp (rIx X.K) ta tb):=Lb I0 ha hb hs
theorem ptc {op:CmpOp} {r:R2} (ho:OpR X (compareOp op) r) (ha:PE X a ta) (hb:PE X b tb) (hm:behindInMarks op b = false:=by exact ET _):PT X (.Compare a [op] [b] pos) (BI (tOp r ta tb)):=Ha ho ha hb hm
theorem pcl (F:Bk X.prog X.w X.K X.mg X.base n x ps sp f fd) (hr:Room k X.A) (ha:PA X (e :: es) t) (hn:n <= k:=by decide) (hg:Gl X x:=by rfl) (hdb:(x == ("__debug__" : Str)) = false:=by decide)
  (he:starEach (e :: es) X.env = (false,eval e X.env) :: starEach es X.env:=by rfl) (hpl:(backTo pos (starEach es X.env)).any (·.1) = false:=by rfl):PE X (.Call (.Name x p) (e :: es) [] pos) (oJ sp [] E0 t):=GW F.G (hr.mono hn) hg F.m F.k F.b .nil tI ha hdb he hpl
theorem pmk (F:Bc X.prog X.w X.K X.mg X.base n x ps sp c f fd) (hr:Room k X.A) (ha:PA X (e :: es) t) (hn:n + 1 <= k:=by decide) (hg:Gl X x:=by rfl) (hdb:(x == ("__debug__" : Str)) = false:=by decide)
  (he:starEach (e :: es) X.env = (false,eval e X.env) :: starEach es X.env:=by rfl) (hpl:(backTo pos (starEach es X.env)).any (·.1) = false:=by rfl):PE X (.Call (.Name x p) (e :: es) [] pos) (w8 X.K x sp t):=E4 F.n F.M F.G (hr.mono hn) hg F.g F.b tI ha hdb he hpl
theorem pmt {pl:Sem Bool} {Ns:List Str} (F:Bm X.prog X.w X.K X.mg X.base n x Ns ps sp f fd) (hr:Room k X.A) (he:PE X o ta) (ha:PA X (e :: es) t) (hn:n <= k:=by decide)
  (hst:starEach (e :: es) X.env = (false,eval e X.env) :: starEach es X.env:=by rfl) (hpl:(backTo pos (starEach es X.env)).any (·.1) = false:=by rfl)
  (ht:eval (.Call (.Attribute o x apos) (e :: es) [] pos) X.env = (do
   let ov ← eval o X.env
   standAt apos.atName
   let (f,first) ← holding [ov] (getMethod ov x pl)
   callWith pos f first (backTo pos (starEach (e :: es) X.env)) (backToKw pos (keywordEach [] X.env))):=by rfl) :
  PE X (.Call (.Attribute o x apos) (e :: es) [] pos) (w9 X.K Ns x sp ta t):=E5 F.cm F.G (hr.mono hn) F.b tI he ha hst hpl ht
theorem pec {XN N:List Str} {sc scope:Scope} {js:List (Option Nat)} {tg iter elt:Expr} {ifs:List Expr} {wi:TI} {g:TG} {tt:TIf} (ck:CmpOk XN sc scope N js) (hi:PI X tg iter wi:=by and_intros) (hg:∀ z,PG (cxC X N scope z) tg g:=by intro _;and_intros) (hs:qG js g:=by and_intros) (ht:∀ z,PIf (cxC X N scope z) ifs tt:=by intro _;and_intros) (he:∀ z,PE (cxC X N scope z) elt te:=by intro _;and_intros)
  (hXN:X.N = XN:=by rfl) (hsc:X.env.scope = sc:=by rfl) (hc:X.calm = true:=by rfl) (hf:∀ x,foldedSetIterable iter X.env x = pure x:=by intro _;rfl) :
  PE X (.ListComp elt [⟨tg,iter,ifs,0⟩] scope pos) (vR js wi g tt te):=GY ck hi hg hs ht he hXN hsc hc hf
end
theorem Fd.ok {P:Program} {w:World} {K:W.Frag} {mg:Str -> Option Value} {base:Heap} {x:Str} {st:Stmt} {f:Addr} {fd:FuncData} {N ps:List Str} {k n j:Nat} {y:XS} (F:Fd K x st f fd) (T:∀ y v,W.nsIn K mainGlobals y = some (some v) -> mg y = some v) (p:{ t:TS // SS K t y })
  (hb:N.Nodup -> ∀ (cdv:Value) (A:Around) (outer:List PySem.Env) (s:Shared) (H:Hp) (E:XK),Room k (A.deeper (envOfC x (aq st) s.heap.objs.size f cdv)) ->
   PSs (xP CX0 P w K mg base N x (aq st) f cdv A outer s H E).nox (ik st) p.1:=by
   bv_omega
   and_intros)
  (hN:N.length = n:=by rfl) (hj:ps.length = j:=by rfl) (S:FnScope N ps (aq st):=by ac_rfl)
  (hB:∀ (kV doc pm:Value) (an:Option Addr) (cdv ct:Value) (us:List Value),us.length = ps.length -> bindArgs (W.fnOf x x (nL st) (ik st) (aq st) .none kV doc pm an cdv ct) ⟨us,[]⟩ = pure (ps.zip us):=by
   intro _ _ _ _ _ _ us hl
   first
    | (cases us0 hl;rfl)
    | (obtain ⟨_,rfl⟩:=us1 hl;rfl)
    | (obtain ⟨_,_,rfl⟩:=us2 hl;rfl)
    | (obtain ⟨_,_,_,rfl⟩:=us3 hl;rfl)
    | (obtain ⟨_,_,_,_,rfl⟩:=us4 hl;rfl)
    | (obtain ⟨_,_,_,_,_,rfl⟩:=us5 hl;rfl)) :
  Bk P w K mg base (k + 1) x ps (bW K j (fnO n y)) f fd:=by
 refine ⟨F.F.ok S (fun vs H Q E h=>h.1.trans hj.symm) fun cdv A outer s H vs Q E hr h=>?_,T x _ F.a,F.F.kp,F.F.binds hB⟩
 exact ⟨_,hb S.nd cdv A outer s H E hr,M.yS p.2 hN h⟩
theorem Fun.okm {P:Program} {w:World} {K:W.Frag} {mg:Str -> Option Value} {base:Heap} {x qual:Str} {st:Stmt} {f:Addr} {fd:FuncData} {N ps:List Str} {k n j:Nat} {y:XS} (F:Fun K x qual st f fd) (p:{ t:TS // SS K t y })
  (hb:N.Nodup -> ∀ (cdv:Value) (A:Around) (outer:List PySem.Env) (s:Shared) (H:Hp) (E:XK),Room k (A.deeper (envOfC qual (aq st) s.heap.objs.size f cdv)) ->
   PSs (xP CX0 P w K mg base N qual (aq st) f cdv A outer s H E).nox (ik st) p.1:=by
   bv_omega
   and_intros)
  (hN:N.length = n:=by rfl) (hj:ps.length = j:=by rfl) (S:FnScope N ps (aq st):=by ac_rfl) :
  FnOk P w K mg base CX0 (k + 1) f fd ps (bW K j (fnO n y)):=
 F.ok S (fun vs H Q E h=>h.1.trans hj.symm) fun cdv A outer s H vs Q E hr h=>⟨_,hb S.nd cdv A outer s H E hr,M.yS p.2 hN h⟩
end L2
namespace Lw
open PySem PySem.W L2 M P
set_option autoImplicit true
noncomputable def top (i : Nat) : Stmt := PySem.Challenge.pw_shapethin_k35_opened_and_closed.main.body.getD i (.Pass ⟨0, 0, 0, 0⟩)
noncomputable abbrev tZ:Stmt:=top 5
noncomputable abbrev lY:Stmt:=top 6
noncomputable abbrev oz:Stmt:=top 7
noncomputable abbrev ku:Stmt:=top 8
noncomputable abbrev jx:Stmt:=top 9
noncomputable abbrev gm:Stmt:=top 11
noncomputable abbrev gW:Stmt:=top 12
noncomputable abbrev yY:Stmt:=top 13
noncomputable abbrev fe:Stmt:=top 14
noncomputable abbrev FC:Stmt:=top 15
noncomputable abbrev tX:Stmt:=top 16
noncomputable abbrev oy:Stmt:=top 17
noncomputable abbrev wS:Stmt:=top 18
noncomputable abbrev kt:Stmt:=top 20
noncomputable abbrev dh:Stmt:=top 21
noncomputable abbrev l0:Stmt:=top 22
noncomputable abbrev lZ:Stmt:=top 23
noncomputable abbrev eJ:Stmt:=top 24
noncomputable abbrev iq:Stmt:=top 25
noncomputable abbrev eK:Stmt:=top 26
noncomputable abbrev ir:Stmt:=top 27
noncomputable abbrev pO:Stmt:=top 28
noncomputable abbrev jI:Stmt:=top 29
noncomputable abbrev tW:Stmt:=top 36
noncomputable abbrev vO:Stmt:=top 37
noncomputable abbrev mY:Stmt:=top 38
noncomputable abbrev lX:Stmt:=top 39
noncomputable abbrev lW:Stmt:=top 40
noncomputable abbrev pN:Stmt:=top 41
noncomputable abbrev BD:Stmt:=top 42
noncomputable abbrev yX:Stmt:=top 43
noncomputable abbrev fV:Stmt:=gc (top 30) 0
noncomputable abbrev kq:Stmt:=gc (top 30) 2
noncomputable abbrev kr:Stmt:=gc (top 30) 3
noncomputable abbrev lS:Stmt:=gc (top 30) 4
noncomputable abbrev lR:Stmt:=gc (top 30) 5
noncomputable abbrev gR:Stmt:=gc (top 31) 0
noncomputable abbrev fA:Stmt:=gc (top 32) 0
noncomputable abbrev fB:Stmt:=gc (top 33) 0
noncomputable abbrev gS:Stmt:=gc (top 34) 0
structure Txt (P:Program) (w:World) (K:Frag) (mg:Str -> Option Value) (base:Heap):Prop where
 mo:∀ x v,nsIn K mainGlobals x = some (some v) -> mg x = some v
 dict:mg "dict" = none
 isinstance:mg "isinstance" = none
 len:mg "len" = none
 max:mg "max" = none
 min:mg "min" = none
 range:mg "range" = none
 reversed:mg "reversed" = none
 sorted:mg "sorted" = none
 sum:mg "sum" = none
 tuple:mg "tuple" = none
 cN:qE K NS fun C=>Cls K C /\ NoAttr K C "parts"
 is_Form:∃ T:Addr,nsIn K mainGlobals "Form" = some (some (.ref T)) /\ mg "Form" = some (.ref T) /\ xm K an_Form T
section
variable (P:Program) (w:World) (K:Frag) (mg:Str -> Option Value) (base:Heap)
noncomputable abbrev rP:=Bk P w K mg base 1 "row_of" ["pairs"] (Dp K)
noncomputable abbrev iA:=Bk P w K mg base 1 "count_up_to" ["pairs", "number"] (ua K)
noncomputable abbrev nA:=Bk P w K mg base 1 "row_common" ["one", "other"] (uM K)
noncomputable abbrev p0:=Bk P w K mg base 1 "row_moved" ["row", "by"] (wY K)
noncomputable abbrev eR:=Bk P w K mg base 1 "stretches_of" ["picture"] (rh K)
noncomputable abbrev cS:=Bk P w K mg base 1 "rows_with_cells" ["rows"] (m8 K)
noncomputable abbrev xr:=Bk P w K mg base 1 "box_of" ["picture"] (Dj K)
noncomputable abbrev jV:=Bk P w K mg base 1 "parts_of_sum" ["parts"] (rg K)
noncomputable abbrev mh:=Bk P w K mg base 1 "_law_cell_at" ["_law_script", "_law_k"] (y8 K)
noncomputable abbrev uT:=Bk P w K mg base 1 "_law_triple" ["_law_cell", "_law_unit"] (AH K)
noncomputable abbrev mj:=Bk P w K mg base 1 "_law_picture" ["_law_triples"] (y9 K)
noncomputable abbrev uU:=Bk P w K mg base 1 "_law_within" ["_law_one", "_law_other"] (AI K)
noncomputable abbrev nz:=Bb P w K mg base 1 "Form" ["self", "parts"] (je K)
noncomputable abbrev nB:=Bk P w K mg base 2 "row_shrunk" ["row", "low", "high"] (uN K)
noncomputable abbrev fX:=Bk P w K mg base 2 "picture_of" ["stretches"] (uL K)
noncomputable abbrev xu:=Bk P w K mg base 2 "row_at" ["picture", "y"] (Dm K)
noncomputable abbrev we:=Bk P w K mg base 2 "moved" ["picture", "dx", "dy"] (FN K)
noncomputable abbrev pZ:=Bk P w K mg base 2 "blocks_of" ["picture"] (wW K)
noncomputable abbrev jC:=Bk P w K mg base 2 "begun_between" ["pairs", "first", "last"] (pQ K)
noncomputable abbrev HC:=Bc P w K mg base 2 "Box" ["self", "left", "up", "right", "down"] (jK K)
noncomputable abbrev AX:=Bc P w K mg base 2 "Cross" ["self", "arm"] (iu K)
noncomputable abbrev HD:=Bc P w K mg base 2 "Sum" ["self", "one", "other"] (jN K)
noncomputable abbrev DK:=Bk P w K mg base 3 "join" ["one", "other"] (Hm K)
noncomputable abbrev rO:=Bk P w K mg base 3 "common" ["one", "other"] (Dk K)
noncomputable abbrev uV:=Bk P w K mg base 3 "reached" ["picture", "box", "block"] (AJ K)
noncomputable abbrev AZ:=Bc P w K mg base 3 "Shape" ["self", "picture"] (iw K)
noncomputable abbrev lK:=Bk P w K mg base 4 "spread_down" ["picture", "by"] (uc K)
noncomputable abbrev lJ:=Bk P w K mg base 4 "shrunk_down" ["picture", "by"] (ub K)
noncomputable abbrev gC:=Bk P w K mg base 5 "greater_by_block" ["picture", "block"] (lu K)
noncomputable abbrev gD:=Bk P w K mg base 5 "smaller_by_block" ["picture", "block"] (lv K)
noncomputable abbrev lI:=Bk P w K mg base 5 "_law_plain_form" ["_law_cell", "_law_unit"] (t9 K)
noncomputable abbrev hX:=Bk P w K mg base 6 "greater_by_part" ["picture", "blocks"] (m7 K)
noncomputable abbrev hZ:=Bk P w K mg base 6 "smaller_by_part" ["picture", "blocks"] (m9 K)
noncomputable abbrev lH:=Bk P w K mg base 6 "_law_drawn_form" ["_law_script", "_law_unit"] (t8 K)
noncomputable abbrev cX:=Bm P w K mg base 7 "greater" NS ["self", "picture"] (jL K)
noncomputable abbrev cY:=Bm P w K mg base 7 "smaller" NS ["self", "picture"] (jM K)
noncomputable abbrev iz:=Bm P w K mg base 8 "opened" NS ["self", "picture"] (kB K)
noncomputable abbrev iy:=Bm P w K mg base 8 "closed" NS ["self", "picture"] (kA K)
noncomputable abbrev AY:=Bk P w K mg base 9 "_law_four" ["_law_form", "_law_picture_here"] (FM K)
noncomputable abbrev KD:=Bk P w K mg base 10 "law" ["_law_script"] (wX K)
end
section
variable {P:Program} {w:World} {K:Frag} {mg:Str -> Option Value} {base:Heap}
local macro_rules | `(tactic| ac_rfl)=>`(tactic| exact ⟨rfl,rfl,rfl,by decide +kernel,rfl,by decide +kernel,by decide +kernel⟩)
seal CallR OpR PA PE PG PGs PI PIf PIp PO PS Ii PSs PT PW qG xw UnR binaryOp compareOp Bd gH Gy IP Gz Fm rAppend Fn Hc rExtM rI rI0 Fo rIx Fp rPop Ft JI tU rU Kj FQ uO Kl tB tBM Km tC tCB oJ vR fh uf FT Kn Hv BG Hw w8 w9 BH oM xc Ko tOp tOr FV FW Hx tSl BI Hy tUn pS AK unaryOp
set_option hygiene false in
local macro_rules | `(tactic| and_intros)=>`(tactic| repeat' first | exact pv _ | refine ap ?_ ?_ | exact aM | exact mP | refine bG ?_ | refine aA ?_ ?_ | refine pix ?_ ?_ | refine iL ?_ | refine pcl (by assumption) hr ?_ | refine iM ?_ | refine pst _ nd ?_ | refine wM ?_ | refine yJ ?_ ?_ ?_ | refine yK ?_ ?_ | refine Fb ?_ ?_ | exact rL | refine ptc ?_ ?_ ?_ | refine FP ?_ ?_ zT | exact oi | exact Jk | exact uh | refine Jy rfl ?_ | exact G4 | refine yO ?_ ?_ ?_ | exact GT | exact pgn _ nd | exact rH | exact oq | exact Jo | refine Kg ?_ | exact Hr | exact EX hr.units | exact Jl | refine pmt (by assumption) hr ?_ ?_ | refine Js ?_ | refine E1 PySem.F.plainAttrs_list PySem.F.slot_list_append PySem.F.type_list_append pG ?_ ?_ | refine cz Ca (by rfl) T.len IC ?_ | exact K8 | exact La | refine mV PassesOwn.never rfl ?_ ?_ ?_ | refine Fl ?_ ?_ | refine PW.pt (Fl ?_ ?_) | exact EY | refine G9 ?_ | refine Hb ?_ | exact Jm hr.units | refine G5 ?_ | refine JE ?_ | refine PW.pt (HR ?_ ?_) | exact K7 | refine cz (Cb rfl) (by rfl) T.max DU ?_ | refine dw bv (by rfl) T.tuple eU ?_ | refine E6 MR ?_ ?_ ?_ | refine pmk (by assumption) hr ?_ | refine JC nd rfl (.inl rfl) ?_ IY | refine Fg PassesOwn.never ?_ ?_ | refine HR ?_ ?_ | refine JG ?_ | refine cz (Cc rfl) (by rfl) T.min zt ?_ | exact oj nd rfl (.inr rfl) | refine C5 (by rfl) T.range ?_ | refine GX ?_ ?_ ?_ (ET _) | refine wL T.cN ?_ rfl | refine Jx ?_ ?_ FG | refine JB ?_ ?_ | exact Jn | refine Jq ?_ ?_ | exact GV (v:=.ty "tuple") (by rfl) T.tuple eU rfl | refine E1 PySem.F.plainAttrs_list PySem.F.slot_list_extend PySem.F.type_list_extend Bu ?_ ?_ | refine Jr PySem.F.plainAttrs_list PySem.F.slot_list_pop PySem.F.type_list_pop Jg ?_ | refine cz B8 (by rfl) T.isinstance lL ?_ | refine cz f8 (by rfl) T.sorted kM ?_ | refine dw (zu rfl) (by rfl) T.dict Gj ?_ | refine E3 (un1 hr.units) ?_ ?_ ?_ ⟨rfl,rfl,rfl,rfl⟩ | refine GZ T.is_Form (by rfl) T.isinstance (by rfl) ?_ | exact Jt | exact oj (show List.Nodup (["side", "single"]:List Str) from by decide +kernel) rfl (.inr rfl) | refine C6 (by rfl) T.range ?_ | refine Jz (by rfl) T.reversed ?_ | exact G8 | exact pgc _ | refine kS ?_ | refine Fh ?_ (fun _=>rfl) | refine Ju ?_ | refine Ax nd rfl (.inr rfl) ?_)
set_option hygiene false in
local macro_rules | `(tactic| bv_omega)=>`(tactic| (intro nd _ _ _ _ _ _ hr;(conv=>arg 2;whnf);(with_reducible conv=>arg 3;whnf)))
theorem pP:FnScope ["self", "parts"] ["self", "parts"] (aq fV):=by ac_rfl
theorem rc:FnScope ["self", "left", "up", "right", "down"] ["self", "left", "up", "right", "down"] (aq gR):=by ac_rfl
theorem oA:FnScope ["self", "arm"] ["self", "arm"] (aq fA):=by ac_rfl
theorem re:FnScope ["self", "one", "other"] ["self", "one", "other"] (aq gS):=by ac_rfl
theorem oB:FnScope ["self", "picture"] ["self", "picture"] (aq fB):=by ac_rfl
theorem pH (F:Fun K "__init__" "Form.__init__" fV f fd) (T:Txt P w K mg base):FnOk P w K mg base CX0 1 f fd ["self", "parts"] (je K):=by
 refine F.ok pP (fun vs H Q E h=>h.1) (fun cdv A outer s H vs Q E hr h=>?_)
 exact ⟨_,bG (JD (pv 0) (pv 1) rfl),Ep T.cN h⟩
theorem yE (F:Fd K "_law_cell_at" tW f fd) (T:Txt P w K mg base):mh P w K mg base f fd:=F.ok (N:=["_law_script", "_law_k"]) T.mo (yM K)
theorem yF (F:Fd K "_law_picture" mY f fd) (T:Txt P w K mg base):mj P w K mg base f fd:=F.ok (N:=["_law_triples", "_law_rows", "_law_y", "_law_low", "_law_high", "_law_last"]) T.mo (yN K) (by bv_omega;exact aA (by and_intros) (aA (by and_intros) (bG (iM (dw bv (by rfl) T.tuple eU (ap (pec (show CmpOk ["_law_triples", "_law_rows", "_law_y", "_law_low", "_law_high", "_law_last"] (aq mY) _ ["_law_y", "_law_row"] [none,none] from c8)) aM))))))
theorem Al (F:Fd K "_law_triple" vO f fd) (T:Txt P w K mg base):uT P w K mg base f fd:=F.ok (N:=["_law_cell", "_law_unit", "_law_mixed", "_law_low"]) T.mo (As K)
theorem Am (F:Fd K "_law_within" pN f fd) (T:Txt P w K mg base):uU P w K mg base f fd:=F.ok (N:=["_law_one", "_law_other", "_law_rows", "_law_y", "_law_row", "_law_low", "_law_high", "_law_there"]) T.mo (Au K) (by bv_omega;exact aA (by and_intros) (aA (mV PassesOwn.never rfl (by and_intros) (by and_intros) (bG (mV PassesOwn.never rfl (by and_intros) (by and_intros) (aA (wQ (i:=7) (hN:=nd) (hi0:=rfl) (hx:=Or.inl rfl) (ck:=(show CmpOk ["_law_one", "_law_other", "_law_rows", "_law_y", "_law_row", "_law_low", "_law_high", "_law_there"] (aq pN) _ ["_law_stretch", "_law_low", "_law_high"] [none,some 5,some 6] from c8)) (hi:=(by and_intros)) (hg:=fun _=>(by and_intros)) (hs:=rL) (ht:=fun _=>(by and_intros)) (he:=fun _=>(pv 0))) (by and_intros))))) (by and_intros)))
theorem CZ (F:Fd K "box_of" oy f fd) (T:Txt P w K mg base):xr P w K mg base f fd:=F.ok (N:=["picture", "left", "right"]) T.mo (C7 K) (by bv_omega;exact aA (by and_intros) (aA (pst 1 nd (cz (zA rfl) (by rfl) T.min zt (ap (pec (show CmpOk ["picture", "left", "right"] (aq oy) _ ["y", "row"] [none,none] from c8)) aM))) (aA (pst 2 nd (cz (zz rfl) (by rfl) T.max DU (ap (pec (show CmpOk ["picture", "left", "right"] (aq oy) _ ["y", "row"] [none,none] from c8)) aM))) (by and_intros))))
theorem tE (F:Fd K "count_up_to" lY f fd) (T:Txt P w K mg base):iA P w K mg base f fd:=F.ok (N:=["pairs", "number", "low", "high", "middle"]) T.mo (tP K)
theorem qV (F:Fd K "parts_of_sum" dh f fd) (T:Txt P w K mg base):jV P w K mg base f fd:=F.ok (N:=["parts", "single", "together"]) T.mo (qZ K) (by bv_omega;exact aA (Ax (i:=1) nd rfl (.inr rfl) (pec (show CmpOk ["parts", "single", "together"] (aq dh) _ ["blocks"] [none] from c8))) (aA (pst 2 nd (dw bv (by rfl) T.tuple eU (ap (E2 (show CmpOkC ["parts", "single", "together"] (aq dh) _ ["side", "single"] [none,some 1] "side" from IG) (by and_intros) (fun _=>(by and_intros)) rL (fun _=>rH) (fun _=>(cz (Ce rfl) (by rfl) T.sum IE (ap (pec (show CmpOk ["side", "single"] ({kind:=.function,names:=[(".0",.local),("side",.cell),("sum",.globalImplicit),("single",.cell)],isGenerator:=false,isCoroutine:=false}:Scope) _ ["block", "side"] [none,some 0] from c8)) aM)))) aM))) (bG (iM (yJ oi (by and_intros) (dw bv (by rfl) T.tuple eU (ap (pec (show CmpOk ["parts", "single", "together"] (aq dh) _ ["blocks"] [none] from c8)) aM)))))))
theorem uF (F:Fd K "row_common" oz f fd) (T:Txt P w K mg base):nA P w K mg base f fd:=F.ok (N:=["one", "other", "shared", "here", "there", "a", "b"]) T.mo (uI K)
theorem wK (F:Fd K "row_moved" ku f fd) (T:Txt P w K mg base):p0 P w K mg base f fd:=F.ok (N:=["row", "by"]) T.mo (wP K) (by bv_omega;exact bG (iM (dw bv (by rfl) T.tuple eU (ap (pec (show CmpOk ["row", "by"] (aq ku) _ ["a", "b", "by"] [none,none,some 1] from c8)) aM))))
theorem C4 (F:Fd K "row_of" tZ f fd) (T:Txt P w K mg base):rP P w K mg base f fd:=F.ok (N:=["pairs", "stretches", "a", "b"]) T.mo (Da K) (by bv_omega;exact aA (by and_intros) (aA (mV PassesOwn.never rfl (wM (cz f8 (by rfl) T.sorted kM (ap (pec (show CmpOk ["pairs", "stretches", "a", "b"] (aq tZ) _ ["a", "b"] [none,none] from c8)) aM))) (by and_intros) (by and_intros)) (by and_intros)))
theorem mN (F:Fd K "rows_with_cells" fe f fd) (T:Txt P w K mg base):cS P w K mg base f fd:=F.ok (N:=["rows"]) T.mo (mS K) (by bv_omega;exact bG (iM (dw bv (by rfl) T.tuple eU (ap (pec (show CmpOk ["rows"] (aq fe) _ ["y", "row"] [none,none] from c8)) aM))))
theorem qW (F:Fd K "stretches_of" gW f fd) (T:Txt P w K mg base):eR P w K mg base f fd:=F.ok (N:=["picture", "stretches", "y", "row"]) T.mo (q9 K) (by bv_omega;exact aA (by and_intros) (aA (mV PassesOwn.never rfl (by and_intros) (by and_intros) (bG (kS (E1 PySem.F.plainAttrs_list PySem.F.slot_list_extend PySem.F.type_list_extend Bu (pv 1) (ap (pec (show CmpOk ["picture", "stretches", "y", "row"] (aq gW) _ ["a", "b", "y"] [none,none,some 2] from c8)) aM))))) (by and_intros)))
theorem qR (F:Fun K "__init__" "Box.__init__" gR f fd) (T:Txt P w K mg base) (AB_Form:nz P w K mg base c_Form f_Form___init__ du):FnOk P w K mg base CX0 2 f fd ["self", "left", "up", "right", "down"] (jK K):=by
 refine F.ok rc (fun vs H Q E h=>h.1) (fun cdv A outer s H vs Q E hr h=>?_)
 exact ⟨_,aA (yO (ptc EY (cz (Cd rfl) (by rfl) T.min zt (ap (pv 1) (ap (pv 2) (ap (pv 3) (ap (pv 4) aM))))) mP) pL oq) (bG (kS (jr AB_Form.cf (by rfl) AB_Form.g AB_Form.G (hr.mono (by decide)) AB_Form.b tI (ap (pv 0) (ap (iL (ap (iL (ap (iL (ap (yK uh (pv 1)) (ap (yK uh (pv 2)) (ap (pv 3) (ap (pv 4) aM))))) aM)) aM)) aM))))),sF (wT (SE.p (FE JK ((LL Ix (oG (gX 1) (oG (gX 2) (oG (gX 3) (oG (gX 4) FO))))).p) ((s_c rfl).p)))) (l7 (ba (l7 (ba (l7 (ba (FF yQ (gX 1)) (ba (FF yQ (gX 2)) (ba (qB 3) (ba (qB 4) fW))))) fW)) fW)) rfl h⟩
theorem n9 (F:Fun K "__init__" "Cross.__init__" fA f fd) (T:Txt P w K mg base) (AB_Form:nz P w K mg base c_Form f_Form___init__ du):FnOk P w K mg base CX0 2 f fd ["self", "arm"] (iu K):=by
 refine F.ok oA (fun vs H Q E h=>h.1) (fun cdv A outer s H vs Q E hr h=>?_)
 exact ⟨_,aA (yO (ptc EY (pv 1) mP) pL oq) (bG (kS (jr AB_Form.cf (by rfl) AB_Form.g AB_Form.G (hr.mono (by decide)) AB_Form.b tI (ap (pv 0) (ap (iL (ap (iL (ap (iL (ap (yK uh (pv 1)) (ap mP (ap (pv 1) (ap mP aM))))) (ap (iL (ap mP (ap (yK uh (pv 1)) (ap mP (ap (pv 1) aM))))) aM))) aM)) aM))))),sF (wT (SE.p (FE JK (gX 1) ((s_c rfl).p)))) (l7 (ba (l7 (ba (l7 (ba (FF yQ (gX 1)) (ba (s_c rfl) (ba (qB 1) (ba (s_c rfl) fW))))) (ba (l7 (ba (s_c rfl) (ba (FF yQ (gX 1)) (ba (s_c rfl) (ba (qB 1) fW))))) fW))) fW)) rfl h⟩
theorem qU (F:Fun K "__init__" "Sum.__init__" gS f fd) (T:Txt P w K mg base) (gz:jV P w K mg base sj qN) (AB_Form:nz P w K mg base c_Form f_Form___init__ du):FnOk P w K mg base CX0 2 f fd ["self", "one", "other"] (jN K):=by
 refine F.ok re (fun vs H Q E h=>h.1) (fun cdv A outer s H vs Q E hr h=>?_)
 exact ⟨_,bG (kS (jr AB_Form.cf (by rfl) AB_Form.g AB_Form.G (hr.mono (by decide)) AB_Form.b tI (ap (pv 0) (ap (pcl gz hr (ap (yJ oi (wL T.cN (pv 1) rfl) (wL T.cN (pv 2) rfl)) aM)) aM)))),Cw (AA (E:=E0) (ba (FE HZ ((FB (qB 1)).p) ((FB (qB 2)).p)) fW) (sO (fun _ _ h=>wC h))) rfl h⟩
theorem pI (F:Fd K "begun_between" jI f fd) (T:Txt P w K mg base) (fF:iA P w K mg base lN jZ):jC P w K mg base f fd:=F.ok (N:=["pairs", "first", "last"]) T.mo (pK K)
theorem wJ (F:Fd K "blocks_of" kt f fd) (T:Txt P w K mg base) (b6:eR P w K mg base gG fS):pZ P w K mg base f fd:=F.ok (N:=["picture", "blocks", "a", "b", "y"]) T.mo (wO K) (by bv_omega;exact aA (by and_intros) (aA (mV PassesOwn.never rfl (wM (cz f8 (by rfl) T.sorted kM (ap (pec (show CmpOk ["picture", "blocks", "a", "b", "y"] (aq kt) _ ["y", "a", "b"] [none,none,none] from c8)) aM))) (by and_intros) (by and_intros)) (by and_intros)))
theorem EW (F:Fd K "moved" wS f fd) (T:Txt P w K mg base) (pY:p0 P w K mg base xW wq):we P w K mg base f fd:=F.ok (N:=["picture", "dx", "dy"]) T.mo (Ff K) (by bv_omega;exact bG (iM (dw bv (by rfl) T.tuple eU (ap (pec (show CmpOk ["picture", "dx", "dy"] (aq wS) _ ["y", "row", "dy", "dx"] [none,none,some 2,some 1] from c8)) aM))))
theorem uE (F:Fd K "picture_of" gm f fd) (T:Txt P w K mg base) (jQ:rP P w K mg base xX vi):fX P w K mg base f fd:=F.ok (N:=["stretches", "pairs_by_row", "y", "a", "b"]) T.mo (uH K) (by bv_omega;exact aA (by and_intros) (aA (mV PassesOwn.never rfl (wM (cz f8 (by rfl) T.sorted kM (ap (pec (show CmpOk ["stretches", "pairs_by_row", "y", "a", "b"] (aq gm) _ ["y", "a", "b"] [none,none,none] from c8)) aM))) (by and_intros) (by and_intros)) (bG (iM (dw bv (by rfl) T.tuple eU (ap (pec (show CmpOk ["stretches", "pairs_by_row", "y", "a", "b"] (aq gm) _ ["y", "pairs"] [none,none] from c8)) aM))))))
theorem C3 (F:Fd K "row_at" yY f fd) (T:Txt P w K mg base) (fF:iA P w K mg base lN jZ):xu P w K mg base f fd:=F.ok (N:=["picture", "y", "begun"]) T.mo (C9 K)
theorem uG (F:Fd K "row_shrunk" jx f fd) (T:Txt P w K mg base) (jQ:rP P w K mg base xX vi):nB P w K mg base f fd:=F.ok (N:=["row", "low", "high"]) T.mo (uJ K) (by bv_omega;exact bG (iM (pcl jQ hr (ap (pec (show CmpOk ["row", "low", "high"] (aq jx) _ ["a", "b", "low", "high"] [none,none,some 1,some 2] from c8)) aM))))
theorem oh (F:Fun K "__init__" "Shape.__init__" fB f fd) (T:Txt P w K mg base) (jP:pZ P w K mg base xU wp) (AB_Form:nz P w K mg base c_Form f_Form___init__ du):FnOk P w K mg base CX0 3 f fd ["self", "picture"] (iw K):=by
 refine F.ok oB (fun vs H Q E h=>h.1) (fun cdv A outer s H vs Q E hr h=>?_)
 exact ⟨_,aA (yO (ptc (EX hr.units) (pv 1) (iL aM)) pL oq) (bG (kS (jr AB_Form.cf (by rfl) AB_Form.g AB_Form.G (hr.mono (by decide)) AB_Form.b tI (ap (pv 0) (ap (iL (ap (pcl jP hr (ap (pv 1) aM)) aM)) aM))))),sF (wT (SE.p (FE (Lu false) (gX 1) ((l7 fW).p)))) (l7 (ba (AA (E:=E0) (ba (qB 1) fW) (sO (fun _ _ h=>wC h))) fW)) rfl h⟩
theorem C2 (F:Fd K "common" tX f fd) (T:Txt P w K mg base) (aN:cS P w K mg base eZ eE) (nr:nA P w K mg base wm uy) (xk:xu P w K mg base Ea Cq):rO P w K mg base f fd:=F.ok (N:=["one", "other"]) T.mo (C8 K) (by bv_omega;exact bG (iM (pcl aN hr (ap (pec (show CmpOk ["one", "other"] (aq tX) _ ["y", "row", "other"] [none,none,some 1] from c8)) aM))))
theorem GR (F:Fd K "join" FC f fd) (T:Txt P w K mg base) (dm:fX P w K mg base jm iC) (b6:eR P w K mg base gG fS):DK P w K mg base f fd:=F.ok (N:=["one", "other"]) T.mo (G6 K)
theorem An (F:Fd K "reached" pO f fd) (T:Txt P w K mg base) (jB:jC P w K mg base qK o7) (aN:cS P w K mg base eZ eE):uV P w K mg base f fd:=F.ok (N:=["picture", "box", "block", "rows"]) T.mo (Av K) (by bv_omega;exact aA (by and_intros) (bG (iM (pcl aN hr (ap (pec (show CmpOk ["picture", "box", "block", "rows"] (aq pO) _ ["y", "row", "box", "block"] [none,none,some 1,some 2] from c8)) aM)))))
theorem tF (F:Fd K "shrunk_down" lZ f fd) (T:Txt P w K mg base) (nq:rO P w K mg base xV vh) (rm:we P w K mg base A9 xY):lJ P w K mg base f fd:=F.ok (N:=["picture", "by", "done", "step"]) T.mo (tQ K)
theorem tG (F:Fd K "spread_down" l0 f fd) (T:Txt P w K mg base) (DD:DK P w K mg base IL Gu) (rm:we P w K mg base A9 xY):lK P w K mg base f fd:=F.ok (N:=["picture", "by", "done", "step"]) T.mo (tR K)
theorem tz (F:Fd K "_law_plain_form" lX f fd) (T:Txt P w K mg base) (gx:mj P w K mg base si p8) (A_Box:HC P w K mg base c_Box eX qL) (A_Cross:AX P w K mg base c_Cross dr nQ) (A_Shape:AZ P w K mg base c_Shape dt nR):lI P w K mg base f fd:=F.ok (N:=["_law_cell", "_law_unit", "_law_way", "_law_more", "_law_cells", "_law_k"]) T.mo (tO K)
theorem lg (F:Fd K "greater_by_block" eJ f fd) (T:Txt P w K mg base) (b6:eR P w K mg base gG fS) (lG:lK P w K mg base ux sv) (dm:fX P w K mg base jm iC):gC P w K mg base f fd:=F.ok (N:=["picture", "block", "wide"]) T.mo (ll K) (by bv_omega;exact aA (wQ (i:=2) (hN:=nd) (hi0:=rfl) (hx:=Or.inl rfl) (ck:=(show CmpOk ["picture", "block", "wide"] (aq eJ) _ ["y", "a", "b", "block"] [none,none,none,some 1] from c8)) (hi:=(by and_intros)) (hg:=fun _=>(by and_intros)) (hs:=(by and_intros)) (ht:=fun _=>rH) (he:=fun _=>(by and_intros))) (by and_intros))
theorem lh (F:Fd K "smaller_by_block" eK f fd) (T:Txt P w K mg base) (aN:cS P w K mg base eZ eE) (nu:nB P w K mg base wn uz) (lF:lJ P w K mg base uw su):gD P w K mg base f fd:=F.ok (N:=["picture", "block", "narrow"]) T.mo (ln K) (by bv_omega;exact aA (pst 2 nd (pcl aN hr (ap (pec (show CmpOk ["picture", "block", "narrow"] (aq eK) _ ["y", "row", "block"] [none,none,some 1] from c8)) aM))) (by and_intros))
theorem tw (F:Fd K "_law_drawn_form" lW f fd) (T:Txt P w K mg base) (lB:lI P w K mg base uv sr) (jg:mh P w K mg base sg p7) (A_Sum:HD P w K mg base c_Sum eY qM):lH P w K mg base f fd:=F.ok (N:=["_law_script", "_law_unit", "_law_form"]) T.mo (tN K)
theorem mM (F:Fd K "greater_by_part" iq f fd) (T:Txt P w K mg base) (gy:gC P w K mg base my k7) (dm:fX P w K mg base jm iC):hX P w K mg base f fd:=F.ok (N:=["picture", "blocks", "stretches", "block"]) T.mo (mR K)
theorem mO (F:Fd K "smaller_by_part" ir f fd) (T:Txt P w K mg base) (gA:gD P w K mg base mz k8) (nq:rO P w K mg base xV vh) (uS:uV P w K mg base Co zR) (xj:xr P w K mg base D9 Cp):hZ P w K mg base f fd:=F.ok (N:=["picture", "blocks", "kept", "block"]) T.mo (mU K)
theorem qS (F:Fun K "greater" "Form.greater" kq f fd) (T:Txt P w K mg base) (hG:hX P w K mg base nO mB):FnOk P w K mg base CX0 7 f fd ["self", "picture"] (jL K):=F.okm (N:=["self", "picture", "blocks"]) (qX K)
theorem qT (F:Fun K "smaller" "Form.smaller" kr f fd) (T:Txt P w K mg base) (hJ:hZ P w K mg base nP mD):FnOk P w K mg base CX0 7 f fd ["self", "picture"] (jM K):=F.okm (N:=["self", "picture", "blocks"]) (qY K)
theorem tp (F:Fun K "closed" "Form.closed" lR f fd) (T:Txt P w K mg base) (bf:cY P w K mg base f_Form_smaller et) (bd:cX P w K mg base f_Form_greater eo):FnOk P w K mg base CX0 8 f fd ["self", "picture"] (kA K):=F.okm (N:=["self", "picture"]) (tK K)
theorem tq (F:Fun K "opened" "Form.opened" lS f fd) (T:Txt P w K mg base) (bd:cX P w K mg base f_Form_greater eo) (bf:cY P w K mg base f_Form_smaller et):FnOk P w K mg base CX0 8 f fd ["self", "picture"] (kB K):=F.okm (N:=["self", "picture"]) (tL K)
theorem EV (F:Fd K "_law_four" BD f fd) (T:Txt P w K mg base) (fD:iy P w K mg base f_Form_closed jX) (fE:iz P w K mg base f_Form_opened jY) (bd:cX P w K mg base f_Form_greater eo) (bf:cY P w K mg base f_Form_smaller et):AY P w K mg base f fd:=F.ok (N:=["_law_form", "_law_picture_here"]) T.mo (Fe K)
theorem Ji (F:Fd K "law" yX f fd) (T:Txt P w K mg base) (jg:mh P w K mg base sg p7) (uQ:uT P w K mg base Cm zP) (gx:mj P w K mg base si p8) (lA:lH P w K mg base uu sk) (AV:AY P w K mg base Gs Eb) (uR:uU P w K mg base Cn zQ) (bd:cX P w K mg base f_Form_greater eo) (bf:cY P w K mg base f_Form_smaller et) (fE:iz P w K mg base f_Form_opened jY) (fD:iy P w K mg base f_Form_closed jX):KD P w K mg base f fd:=F.ok (N:=["_law_script", "_law_unit", "_law_triples", "_law_picture_here", "_law_more", "_law_form", "_law_made", "_law_found", "_law_there", "_law_k"]) T.mo (JA K) (by bv_omega;exact aA (by and_intros) (aA (wQ (i:=2) (hN:=nd) (hi0:=rfl) (hx:=Or.inl rfl) (ck:=(show CmpOk ["_law_script", "_law_unit", "_law_triples", "_law_picture_here", "_law_more", "_law_form", "_law_made", "_law_found", "_law_there", "_law_k"] (aq yX) _ ["_law_cell", "_law_unit"] [none,some 1] from c8)) (hi:=(by and_intros)) (hg:=fun _=>(by and_intros)) (hs:=rL) (ht:=fun _=>rH) (he:=fun _=>(by and_intros))) (aA (yO (by and_intros) (bG (pst 2 nd (yJ oi (pv 2) (pec (show CmpOk ["_law_script", "_law_unit", "_law_triples", "_law_picture_here", "_law_more", "_law_form", "_law_made", "_law_found", "_law_there", "_law_k"] (aq yX) _ ["_law_y", "_law_unit"] [none,some 1] from c8))))) oq) (aA (by and_intros) (aA (pst 4 nd (pcl gx hr (ap (yJ oi (pv 2) (pec (show CmpOk ["_law_script", "_law_unit", "_law_triples", "_law_picture_here", "_law_more", "_law_form", "_law_made", "_law_found", "_law_there", "_law_k"] (aq yX) _ ["_law_cell", "_law_unit"] [none,some 1] from c8))) aM))) (by and_intros))))))
end
theorem Im {l:OpenLaw} {w:World} {K:Frag} {h:Heap} {mg:Str -> Option Value} {fa:Addr} (X:K.In h) (G:h.Ns mainGlobals mg) (hfa:mg "law" = some (.ref fa))
  (n_Box:nsIn K mainGlobals "Box" = some (some (.ref c_Box)))
  (n_Cross:nsIn K mainGlobals "Cross" = some (some (.ref c_Cross)))
  (n_Shape:nsIn K mainGlobals "Shape" = some (some (.ref c_Shape)))
  (n_Sum:nsIn K mainGlobals "Sum" = some (some (.ref c_Sum)))
  (n_Form:nsIn K mainGlobals "Form" = some (some (.ref c_Form)))
  (DB:findIn K (.ref c_Form) "__init__" = some (some (.ref f_Form___init__)))
  (DC:isFn K (.ref f_Form___init__) = true)
  (DM:findIn K (.ref c_Box) "greater" = some (some (.ref f_Form_greater)))
  (e6:isFn K (.ref f_Form_greater) = true)
  (DN:findIn K (.ref c_Box) "smaller" = some (some (.ref f_Form_smaller)))
  (e7:isFn K (.ref f_Form_smaller) = true)
  (F9:findIn K (.ref c_Box) "opened" = some (some (.ref f_Form_opened)))
  (fK:isFn K (.ref f_Form_opened) = true)
  (F8:findIn K (.ref c_Box) "closed" = some (some (.ref f_Form_closed)))
  (fJ:isFn K (.ref f_Form_closed) = true)
  (rQ:findIn K (.ref c_Box) "__init__" = some (some (.ref eX)))
  (sD:isFn K (.ref eX) = true)
  (oW:findIn K (.ref c_Cross) "__init__" = some (some (.ref dr)))
  (pb:isFn K (.ref dr) = true)
  (oX:findIn K (.ref c_Shape) "__init__" = some (some (.ref dt)))
  (pd:isFn K (.ref dt) = true)
  (rR:findIn K (.ref c_Sum) "__init__" = some (some (.ref eY)))
  (sE:isFn K (.ref eY) = true)
  (fP:Fun K "__init__" "Form.__init__" fV f_Form___init__ du)
  (cc:Fun K "greater" "Form.greater" kq f_Form_greater eo)
  (ci:Fun K "smaller" "Form.smaller" kr f_Form_smaller et)
  (cO:Fun K "opened" "Form.opened" lS f_Form_opened jY)
  (cM:Fun K "closed" "Form.closed" lR f_Form_closed jX)
  (jR:Fun K "__init__" "Box.__init__" gR eX qL)
  (iP:Fun K "__init__" "Cross.__init__" fA dr nQ)
  (iQ:Fun K "__init__" "Shape.__init__" fB dt nR)
  (jS:Fun K "__init__" "Sum.__init__" gS eY qM)
  (DI:Fd K "row_of" tZ xX vi)
  (uq:Fd K "count_up_to" lY lN jZ)
  (wc:Fd K "row_common" oz wm uy)
  (xo:Fd K "row_moved" ku xW wq)
  (wd:Fd K "row_shrunk" jx wn uz)
  (wb:Fd K "picture_of" gm jm iC)
  (rN:Fd K "stretches_of" gW gG fS)
  (DH:Fd K "row_at" yY Ea Cq)
  (nw:Fd K "rows_with_cells" fe eZ eE)
  (Ic:Fd K "join" FC IL Gu)
  (DF:Fd K "common" tX xV vh)
  (DE:Fd K "box_of" oy D9 Cp)
  (Gb:Fd K "moved" wS A9 xY)
  (xn:Fd K "blocks_of" kt xU wp)
  (rM:Fd K "parts_of_sum" dh sj qN)
  (ut:Fd K "spread_down" l0 ux sv)
  (ur:Fd K "shrunk_down" lZ uw su)
  (md:Fd K "greater_by_block" eJ my k7)
  (nv:Fd K "greater_by_part" iq nO mB)
  (me:Fd K "smaller_by_block" eK mz k8)
  (ny:Fd K "smaller_by_part" ir nP mD)
  (BZ:Fd K "reached" pO Co zR)
  (qF:Fd K "begun_between" jI qK o7)
  (zm:Fd K "_law_cell_at" tW sg p7)
  (BW:Fd K "_law_triple" vO Cm zP)
  (zn:Fd K "_law_picture" mY si p8)
  (uo:Fd K "_law_plain_form" lX uv sr)
  (um:Fd K "_law_drawn_form" lW uu sk)
  (BX:Fd K "_law_within" pN Cn zQ)
  (Ga:Fd K "_law_four" BD Gs Eb)
  (DG:Fd K "law" yX NK IM)
  (pg_Box:plainGet K c_Box Str.empty = true)
  (hd_Box:hasDictIn K c_Box = true)
  (po_Box:plainOver K c_Box = true)
  (sa_Box:findIn K (.ref c_Box) "__setattr__" = some (some (.builtin "object.__setattr__")))
  (mk_Box:makesIn K c_Box = true)
  (kc_Box:keepIn K (.ref c_Box) = true)
  (np_Box:findIn K (.ref c_Box) "parts" = some none)
  (mm_Box_greater:findIn K (.ref c_Box) "greater" = some (some (.ref f_Form_greater)))
  (mm_Box_smaller:findIn K (.ref c_Box) "smaller" = some (some (.ref f_Form_smaller)))
  (mm_Box_opened:findIn K (.ref c_Box) "opened" = some (some (.ref f_Form_opened)))
  (mm_Box_closed:findIn K (.ref c_Box) "closed" = some (some (.ref f_Form_closed)))
  (pg_Cross:plainGet K c_Cross Str.empty = true)
  (hd_Cross:hasDictIn K c_Cross = true)
  (po_Cross:plainOver K c_Cross = true)
  (sa_Cross:findIn K (.ref c_Cross) "__setattr__" = some (some (.builtin "object.__setattr__")))
  (mk_Cross:makesIn K c_Cross = true)
  (kc_Cross:keepIn K (.ref c_Cross) = true)
  (np_Cross:findIn K (.ref c_Cross) "parts" = some none)
  (mm_Cross_greater:findIn K (.ref c_Cross) "greater" = some (some (.ref f_Form_greater)))
  (mm_Cross_smaller:findIn K (.ref c_Cross) "smaller" = some (some (.ref f_Form_smaller)))
  (mm_Cross_opened:findIn K (.ref c_Cross) "opened" = some (some (.ref f_Form_opened)))
  (mm_Cross_closed:findIn K (.ref c_Cross) "closed" = some (some (.ref f_Form_closed)))
  (pg_Shape:plainGet K c_Shape Str.empty = true)
  (hd_Shape:hasDictIn K c_Shape = true)
  (po_Shape:plainOver K c_Shape = true)
  (sa_Shape:findIn K (.ref c_Shape) "__setattr__" = some (some (.builtin "object.__setattr__")))
  (mk_Shape:makesIn K c_Shape = true)
  (kc_Shape:keepIn K (.ref c_Shape) = true)
  (np_Shape:findIn K (.ref c_Shape) "parts" = some none)
  (mm_Shape_greater:findIn K (.ref c_Shape) "greater" = some (some (.ref f_Form_greater)))
  (mm_Shape_smaller:findIn K (.ref c_Shape) "smaller" = some (some (.ref f_Form_smaller)))
  (mm_Shape_opened:findIn K (.ref c_Shape) "opened" = some (some (.ref f_Form_opened)))
  (mm_Shape_closed:findIn K (.ref c_Shape) "closed" = some (some (.ref f_Form_closed)))
  (pg_Sum:plainGet K c_Sum Str.empty = true)
  (hd_Sum:hasDictIn K c_Sum = true)
  (po_Sum:plainOver K c_Sum = true)
  (sa_Sum:findIn K (.ref c_Sum) "__setattr__" = some (some (.builtin "object.__setattr__")))
  (mk_Sum:makesIn K c_Sum = true)
  (kc_Sum:keepIn K (.ref c_Sum) = true)
  (np_Sum:findIn K (.ref c_Sum) "parts" = some none)
  (mm_Sum_greater:findIn K (.ref c_Sum) "greater" = some (some (.ref f_Form_greater)))
  (mm_Sum_smaller:findIn K (.ref c_Sum) "smaller" = some (some (.ref f_Form_smaller)))
  (mm_Sum_opened:findIn K (.ref c_Sum) "opened" = some (some (.ref f_Form_opened)))
  (mm_Sum_closed:findIn K (.ref c_Sum) "closed" = some (some (.ref f_Form_closed)))
  (ig:specialIn K (.builtin "object.__class__") "__get__" = some (some (.builtin "getset_descriptor.__get__")))
  (it:takesIn K (.builtin "object.__class__") = some true)
  (ia_Box:findIn K (.ref c_Box) "__class__" = some (some (.builtin "object.__class__")))
  (im_Box:mroIn K c_Box (.type "object") = some true)
  (io_Box_Form:kitOne K (.ref c_Box) (.ref c_Form) = some true)
  (ia_Cross:findIn K (.ref c_Cross) "__class__" = some (some (.builtin "object.__class__")))
  (im_Cross:mroIn K c_Cross (.type "object") = some true)
  (io_Cross_Form:kitOne K (.ref c_Cross) (.ref c_Form) = some true)
  (ia_Shape:findIn K (.ref c_Shape) "__class__" = some (some (.builtin "object.__class__")))
  (im_Shape:mroIn K c_Shape (.type "object") = some true)
  (io_Shape_Form:kitOne K (.ref c_Shape) (.ref c_Form) = some true)
  (ia_Sum:findIn K (.ref c_Sum) "__class__" = some (some (.builtin "object.__class__")))
  (im_Sum:mroIn K c_Sum (.type "object") = some true)
  (io_Sum_Form:kitOne K (.ref c_Sum) (.ref c_Form) = some true)
  (bs_Form:specialIn K (.ref c_Form) "__getattribute__" = some (some (.builtin "type.__getattribute__")))
  (br_Form:readsIn K c_Form (.type "type") = true)
  (bf_Form:findCls K (.ref c_Form) (.type "type") "__init__" = some (.val (.ref f_Form___init__)))
  (z_dict:nsIn K mainGlobals "dict" = some none)
  (z_isinstance:nsIn K mainGlobals "isinstance" = some none)
  (z_len:nsIn K mainGlobals "len" = some none)
  (z_max:nsIn K mainGlobals "max" = some none)
  (z_min:nsIn K mainGlobals "min" = some none)
  (z_range:nsIn K mainGlobals "range" = some none)
  (z_reversed:nsIn K mainGlobals "reversed" = some none)
  (z_sorted:nsIn K mainGlobals "sorted" = some none)
  (z_sum:nsIn K mainGlobals "sum" = some none)
  (z_tuple:nsIn K mainGlobals "tuple" = some none)
  : ∃ fd:FuncData,(∀ (s:Shared) (v:Value),BindsTo s fd ⟨[v],[]⟩ [("_law_script",v)]) /\ ∀ base:Heap,K.In base -> base.Ns mainGlobals mg -> FnOk l.prog w K mg base CX0 10 fa fd ["_law_script"] (wX K):=by
 have e:=hfa.symm.trans (mg_of X G DG.a)
 cases e
 have qI:qE K NS fun C=>Cls K C /\ Meth K C "greater" f_Form_greater:=aP n_Box ⟨⟨pg_Box,hd_Box,po_Box,sa_Box⟩,⟨mm_Box_greater,e6,cc.kp⟩⟩ (aP n_Cross ⟨⟨pg_Cross,hd_Cross,po_Cross,sa_Cross⟩,⟨mm_Cross_greater,e6,cc.kp⟩⟩ (aP n_Shape ⟨⟨pg_Shape,hd_Shape,po_Shape,sa_Shape⟩,⟨mm_Shape_greater,e6,cc.kp⟩⟩ (aP n_Sum ⟨⟨pg_Sum,hd_Sum,po_Sum,sa_Sum⟩,⟨mm_Sum_greater,e6,cc.kp⟩⟩ (jW))))
 have qJ:qE K NS fun C=>Cls K C /\ Meth K C "smaller" f_Form_smaller:=aP n_Box ⟨⟨pg_Box,hd_Box,po_Box,sa_Box⟩,⟨mm_Box_smaller,e7,ci.kp⟩⟩ (aP n_Cross ⟨⟨pg_Cross,hd_Cross,po_Cross,sa_Cross⟩,⟨mm_Cross_smaller,e7,ci.kp⟩⟩ (aP n_Shape ⟨⟨pg_Shape,hd_Shape,po_Shape,sa_Shape⟩,⟨mm_Shape_smaller,e7,ci.kp⟩⟩ (aP n_Sum ⟨⟨pg_Sum,hd_Sum,po_Sum,sa_Sum⟩,⟨mm_Sum_smaller,e7,ci.kp⟩⟩ (jW))))
 have r8:qE K NS fun C=>Cls K C /\ Meth K C "opened" f_Form_opened:=aP n_Box ⟨⟨pg_Box,hd_Box,po_Box,sa_Box⟩,⟨mm_Box_opened,fK,cO.kp⟩⟩ (aP n_Cross ⟨⟨pg_Cross,hd_Cross,po_Cross,sa_Cross⟩,⟨mm_Cross_opened,fK,cO.kp⟩⟩ (aP n_Shape ⟨⟨pg_Shape,hd_Shape,po_Shape,sa_Shape⟩,⟨mm_Shape_opened,fK,cO.kp⟩⟩ (aP n_Sum ⟨⟨pg_Sum,hd_Sum,po_Sum,sa_Sum⟩,⟨mm_Sum_opened,fK,cO.kp⟩⟩ (jW))))
 have rZ:qE K NS fun C=>Cls K C /\ Meth K C "closed" f_Form_closed:=aP n_Box ⟨⟨pg_Box,hd_Box,po_Box,sa_Box⟩,⟨mm_Box_closed,fJ,cM.kp⟩⟩ (aP n_Cross ⟨⟨pg_Cross,hd_Cross,po_Cross,sa_Cross⟩,⟨mm_Cross_closed,fJ,cM.kp⟩⟩ (aP n_Shape ⟨⟨pg_Shape,hd_Shape,po_Shape,sa_Shape⟩,⟨mm_Shape_closed,fJ,cM.kp⟩⟩ (aP n_Sum ⟨⟨pg_Sum,hd_Sum,po_Sum,sa_Sum⟩,⟨mm_Sum_closed,fJ,cM.kp⟩⟩ (jW))))
 have is_Form:∃ T:Addr,nsIn K mainGlobals "Form" = some (some (.ref T)) /\ mg "Form" = some (.ref T) /\ xm K an_Form T:=⟨c_Form,n_Form,mg_of X G n_Form,nH (fun C hC=>by rw [n_Box] at hC;cases hC;exact ⟨⟨⟨pg_Box,hd_Box,po_Box,sa_Box⟩,ia_Box,ig,it,im_Box⟩,io_Box_Form⟩) (nH (fun C hC=>by rw [n_Cross] at hC;cases hC;exact ⟨⟨⟨pg_Cross,hd_Cross,po_Cross,sa_Cross⟩,ia_Cross,ig,it,im_Cross⟩,io_Cross_Form⟩) (nH (fun C hC=>by rw [n_Shape] at hC;cases hC;exact ⟨⟨⟨pg_Shape,hd_Shape,po_Shape,sa_Shape⟩,ia_Shape,ig,it,im_Shape⟩,io_Shape_Form⟩) (nH (fun C hC=>by rw [n_Sum] at hC;cases hC;exact ⟨⟨⟨pg_Sum,hd_Sum,po_Sum,sa_Sum⟩,ia_Sum,ig,it,im_Sum⟩,io_Sum_Form⟩) (Ge))))⟩
 have M_Box:Mk K c_Box eX:=⟨mk_Box,rQ,sD,kc_Box⟩
 have M_Cross:Mk K c_Cross dr:=⟨mk_Cross,oW,pb,kc_Cross⟩
 have M_Shape:Mk K c_Shape dt:=⟨mk_Shape,oX,pd,kc_Shape⟩
 have M_Sum:Mk K c_Sum eY:=⟨mk_Sum,rR,sE,kc_Sum⟩
 have cf_Form:ClsFn K c_Form "__init__" f_Form___init__:=⟨bs_Form,br_Form,bf_Form,fP.kp⟩
 obtain ⟨_,_,_,_,_,_,_,_,_,hfd,_⟩:=DG.F.ex
 refine ⟨IM,fun s v=>.of_eq (by rw [hfd];rfl),fun base _ _=>?_⟩
 have T:Txt l.prog w K mg base:=⟨fun _ _=>mg_of X G,mg_none_of X G z_dict,mg_none_of X G z_isinstance,mg_none_of X G z_len,mg_none_of X G z_max,mg_none_of X G z_min,mg_none_of X G z_range,mg_none_of X G z_reversed,mg_none_of X G z_sorted,mg_none_of X G z_sum,mg_none_of X G z_tuple,aP n_Box ⟨⟨pg_Box,hd_Box,po_Box,sa_Box⟩,np_Box⟩ (aP n_Cross ⟨⟨pg_Cross,hd_Cross,po_Cross,sa_Cross⟩,np_Cross⟩ (aP n_Shape ⟨⟨pg_Shape,hd_Shape,po_Shape,sa_Shape⟩,np_Shape⟩ (aP n_Sum ⟨⟨pg_Sum,hd_Sum,po_Sum,sa_Sum⟩,np_Sum⟩ (jW)))),is_Form⟩
 have AB_Form:nz l.prog w K mg base _ _ _:=⟨pH fP T,fP.binds fun _ _ _ _ _ _ us hl=>by obtain ⟨_,_,rfl⟩:=us2 hl;rfl,cf_Form,mg_of X G n_Form⟩
 have jg:=yE zm T
 have gx:=yF zn T
 have uQ:=Al BW T
 have uR:=Am BX T
 have xj:=CZ DE T
 have fF:=tE uq T
 have gz:=qV rM T
 have nr:=uF wc T
 have pY:=wK xo T
 have jQ:=C4 DI T
 have aN:=mN nw T
 have b6:=qW rN T
 have A_Box:HC l.prog w K mg base _ _ _:=⟨qR jR T AB_Form,jR.binds fun _ _ _ _ _ _ us hl=>by obtain ⟨_,_,_,_,_,rfl⟩:=us5 hl;rfl,n_Box,M_Box,mg_of X G n_Box⟩
 have A_Cross:AX l.prog w K mg base _ _ _:=⟨n9 iP T AB_Form,iP.binds fun _ _ _ _ _ _ us hl=>by obtain ⟨_,_,rfl⟩:=us2 hl;rfl,n_Cross,M_Cross,mg_of X G n_Cross⟩
 have A_Sum:HD l.prog w K mg base _ _ _:=⟨qU jS T gz AB_Form,jS.binds fun _ _ _ _ _ _ us hl=>by obtain ⟨_,_,_,rfl⟩:=us3 hl;rfl,n_Sum,M_Sum,mg_of X G n_Sum⟩
 have jB:=pI qF T fF
 have jP:=wJ xn T b6
 have rm:=EW Gb T pY
 have dm:=uE wb T jQ
 have xk:=C3 DH T fF
 have nu:=uG wd T jQ
 have A_Shape:AZ l.prog w K mg base _ _ _:=⟨oh iQ T jP AB_Form,iQ.binds fun _ _ _ _ _ _ us hl=>by obtain ⟨_,_,rfl⟩:=us2 hl;rfl,n_Shape,M_Shape,mg_of X G n_Shape⟩
 have nq:=C2 DF T aN nr xk
 have DD:=GR Ic T dm b6
 have uS:=An BZ T jB aN
 have lF:=tF ur T nq rm
 have lG:=tG ut T DD rm
 have lB:=tz uo T gx A_Box A_Cross A_Shape
 have gy:=lg md T b6 lG dm
 have gA:=lh me T aN nu lF
 have lA:=tw um T lB jg A_Sum
 have hG:=mM nv T gy dm
 have hJ:=mO ny T gA nq uS xj
 have bd:cX l.prog w K mg base _ _:=⟨qS cc T hG,cc.binds fun _ _ _ _ _ _ us hl=>by obtain ⟨_,_,rfl⟩:=us2 hl;rfl,qI⟩
 have bf:cY l.prog w K mg base _ _:=⟨qT ci T hJ,ci.binds fun _ _ _ _ _ _ us hl=>by obtain ⟨_,_,rfl⟩:=us2 hl;rfl,qJ⟩
 have fD:iy l.prog w K mg base _ _:=⟨tp cM T bf bd,cM.binds fun _ _ _ _ _ _ us hl=>by obtain ⟨_,_,rfl⟩:=us2 hl;rfl,rZ⟩
 have fE:iz l.prog w K mg base _ _:=⟨tq cO T bd bf,cO.binds fun _ _ _ _ _ _ us hl=>by obtain ⟨_,_,rfl⟩:=us2 hl;rfl,r8⟩
 have AV:=EV Ga T fD fE bd bf
 exact (Ji DG T jg uQ gx lA AV uR bd bf fE fD).G
theorem Nl {l:OpenLaw} {q:Program} {loose:List Str} {XP:(Str -> Option Value) -> Heap -> Prop} {YP:World -> Heap -> Prop} {d:DefRec} {K:Params -> Frag} (hn:l.most = some 63) (hdf:d.params.defaults = [])
  (hY:∀ (w:World) (h:Heap),YP w h -> (K w.params).In h)
  (F:∀ (w:World) (mg:Str -> Option Value) (fa:Addr) (h:Heap),(K w.params).In h -> h.Ns mainGlobals mg -> mg d.name = some (.ref fa) ->
   ∃ fd:FuncData,(∀ (s:Shared) (u:Value),BindsTo s fd ⟨[u],[]⟩ [("_law_script",u)]) /\ ∀ base:Heap,(K w.params).In base -> base.Ns mainGlobals mg -> FnOk l.prog w (K w.params) mg base CX0 10 fa fd ["_law_script"] (wX (K w.params))) :
  WalkO q loose XP YP l.row.toRowW d [] (fun f vs=>PySem.call f vs):=
 L2.HA (n:=63) (k:=10) (x := "_law_script") (CX:=fun _=>CX0) (sp:=fun w=>wX (K w.params)) hn (by decide) hdf ⟨rfl,by decide,by decide⟩ hY F (fun _ H a ns hl _ hS=>M.Dq hS (EF ns hl)) fun _ _ _ _ _ z=>z
end Lw
open PySem PySem.W PyProof.Rows
set_option maxRecDepth 100000 in
set_option maxHeartbeats 0 in
theorem PySem.Challenge.cw_shapethin_k35_opened_and_closed_holds : PySem.Challenge.rw_shapethin_k35_opened_and_closed.Holds := by
 w_on;refine holds_law Hd.e2 fun said=>?_
 refine holds_open (q:=Hd.q) (XP:=XL Hd.q []) (YP:=Hook.says Hd.H) (N:=100000) Hd.e1 (Hook.of Hd.H) (Hook.keeps Hd.H) (fun s e=>xl_of s (Bool.and_eq_true_iff.mp e).1) XL.keeps (by rfl) (by rfl) (by rfl) (fun s e=>recFacts_of (Bool.and_eq_true_iff.mp e).2) (by rfl) (by assumption) (by decide +kernel) ⟨rfl,rfl,rfl,rfl,rfl,by decide +kernel⟩ ?hw ?hc
 case hw=>w_witness2
 refine Lw.Nl (l := PySem.Challenge.rw_shapethin_k35_opened_and_closed) rfl rfl (fun w h Y => kIn_of Y) ?F
 case F=>
  intro w mg fa h KX G hmg
  refine' Lw.Im KX G hmg ?x0 ?x1 ?x2 ?x3 ?x4 ?x5 ?x6 ?x7 ?x8 ?x9 ?x10 ?x11 ?x12 ?x13 ?x14 ?x15 ?x16 ?x17 ?x18 ?x19 ?x20 ?x21 ?x22 ?x23 ?x24 ?x25 ?x26 ?x27 ?x28 ?x29 ?x30 ?x31 ?x32 ?x33 ?x34 ?x35 ?x36 ?x37 ?x38 ?x39 ?x40 ?x41 ?x42 ?x43 ?x44 ?x45 ?x46 ?x47 ?x48 ?x49 ?x50 ?x51 ?x52 ?x53 ?x54 ?x55 ?x56 ?x57 ?x58 ?x59 ?x60 ?x61 ?x62 ?x63 ?x64 ?x65 ?x66 ?x67 ?x68 ?x69 ?x70 ?x71 ?x72 ?x73 ?x74 ?x75 ?x76 ?x77 ?x78 ?x79 ?x80 ?x81 ?x82 ?x83 ?x84 ?x85 ?x86 ?x87 ?x88 ?x89 ?x90 ?x91 ?x92 ?x93 ?x94 ?x95 ?x96 ?x97 ?x98 ?x99 ?x100 ?x101 ?x102 ?x103 ?x104 ?x105 ?x106 ?x107 ?x108 ?x109 ?x110 ?x111 ?x112 ?x113 ?x114 ?x115 ?x116 ?x117 ?x118 ?x119 ?x120 ?x121 ?x122 ?x123 ?x124 ?x125 ?x126 ?x127 ?x128 ?x129 ?x130 ?x131 ?x132 ?x133
  case x0 | x1 | x2 | x3 | x4 | x5 | x6 | x7 | x8 | x9 | x10 | x11 | x12 | x13 | x14 | x15 | x16 | x17 | x18 | x19 | x20 | x21 | x22=>k_is
  case x23 | x24 | x25 | x26 | x27 | x28 | x29 | x30 | x31=>exact L2.Eg (by k_is) (by k_is) (by k_is)
  case x32 | x33 | x34 | x35 | x36 | x37 | x38 | x39 | x40 | x41 | x42 | x43 | x44 | x45 | x46 | x47 | x48 | x49 | x50 | x51 | x52 | x53 | x54 | x55 | x56 | x57 | x58 | x59 | x60 | x61 | x62=>exact ⟨by k_is,L2.Eg (by k_is) (by k_is) (by k_is)⟩
  case x63 | x64 | x65 | x66 | x67 | x68 | x69 | x70 | x71 | x72 | x73 | x74 | x75 | x76 | x77 | x78 | x79 | x80 | x81 | x82 | x83 | x84 | x85 | x86 | x87 | x88 | x89 | x90 | x91 | x92 | x93 | x94 | x95 | x96 | x97 | x98 | x99 | x100 | x101 | x102 | x103 | x104 | x105 | x106 | x107 | x108 | x109 | x110=>k_is
  case x111=>kit_is
  case x112 | x113=>k_is
  case x114=>kit_is
  case x115 | x116=>k_is
  case x117=>kit_is
  case x118 | x119=>k_is
  case x120=>kit_is
  case x121 | x122 | x123 | x124 | x125 | x126 | x127 | x128 | x129 | x130 | x131 | x132 | x133=>k_is

import PyProof.Rows.All
import Wide.All
import OpenK.AllK
import Wide.FinOn
import Lean
import PyProof.EqAt
import PyProof.EqKinds
import PyProof.TupleCall
import PySem.Challenge.RW_shapethin_k24_drawn_and_read
set_option genSizeOf false
set_option bootstrap.genMatcherCode false
set_option compiler.extract_closed false
set_option linter.all false
set_option maxHeartbeats 4000000
set_option maxRecDepth 100000
namespace Hd
open PySem PySem.W PySem.Calls PyProof.Rows
noncomputable def Gq (stp:SharedT -> Thread -> Option (SharedT × Thread)) (ok:Thread -> Bool):Nat -> SharedT -> Thread -> Option SharedT
 | 0,_,_=>none
 | n + 1,s,t=>match through t with
  | true=>some s
  | false=>match ok t with
   | false=>none
   | true=>match stp s t with
    | some (s',t')=>Gq stp ok n s' t'
    | none=>none
theorem v7 {tb:String -> Option Builtin} {p:Program} {w:World} {n₀:Nat} {ann:Option Value}:∀ (n:Nat) (s:SharedT) (t:Thread) (r:SharedT),Gq (stepT (denote tb) p w) (stepOk n₀ ann) n s t = some r -> topRun tb p w n₀ ann n s.abs t = some r.abs
 | 0,_,_,_,h=>by cases h
 | n + 1,s,t,r,h=>by
  unfold Gq at h
  unfold topRun
  cases ht:through t with
  | true=>rw [ht] at h;cases h;rfl
  | false=>
   rw [ht] at h
   cases hk:stepOk n₀ ann t with
   | false=>rw [hk] at h;cases h
   | true=>
    rw [hk] at h
    cases hs:stepT (denote tb) p w s t with
    | none=>rw [hs] at h;cases h
    | some x=>
     obtain ⟨s',t'⟩:=x
     rw [hs] at h
     rw [stepT_spec hs]
     exact v7 n s' t' r h
noncomputable def G0:List Obj -> Nat -> BT -> BT
 | [],_,t=>t
 | o :: l,n,t=>G0 l (n + 1) (t.ins n o)
noncomputable def T0 (P:Params):BT:=G0 (boot_heap P).objs.toList 0 .nil
theorem Lk (P:Params):absHeap (T0 P) 11 (boot_heap P).life = boot_heap P:=by kernel_rfl
theorem sz (P:Params):((boot_heap P).isNs mainGlobals,(boot_heap P).objs.size,(boot_heap P).nsMap mainGlobals "__annotations__") = (true,11,some (.ref 6)):=by kernel_rfl
noncomputable def S0 (w:World) (os:OsState):SharedT:=⟨T0 w.params,11,(boot_heap w.params).life,Array.mk [],boot_drawn,boot_toks,os⟩
theorem HK {p q:Program} {loose:List Str} {Xt:Shared -> Bool} {α:Type} {Yf:Shared -> α} {Ya:World -> α} {N M:Nat} {g0:Bool}
  (open_:∀ w:World,(fencedOpening treeTable p w N).map (fun s=>(s.heap,s.gens,s.drawn,s.toks)) = some (boot_heap w.params,Array.mk [],boot_drawn,boot_toks)) (le:Nat.ble M N = true)
  (big:∀ w:World,(fun os=>(Gq (stepT (denote treeTable) p w) (stepOk 11 (some (.ref 6))) M (S0 w os) (topStub p)).map fun r=>((staticsOk (importedModules p.main.body) (boot_heap w.params) r.abs.heap && namesBound p r.abs.heap && gensDone r.abs && laidKept (boot_heap w.params) r.abs.heap),
    openSeen q loose (importedModules p.main.body) Xt g0 r.abs,Yf r.abs)) = fun _=>some (true,openGood q loose,Ya w)):LeftO p q loose Xt Yf Ya N g0:=fun w=>by
 obtain ⟨⟨h,gs,d,k,os⟩,e,e'⟩:=Option.map_eq_some_iff.mp (open_ w)
 obtain ⟨rfl,rfl,rfl,rfl⟩:h = boot_heap w.params /\ gs = Array.mk [] /\ d = boot_drawn /\ k = boot_toks:=by simpa using e'
 obtain ⟨z1,z2,z3⟩:_ /\ _ /\ _:=by simpa only [Prod.mk.injEq] using sz w.params
 obtain ⟨r,hr,hb⟩:=Option.map_eq_some_iff.mp (congrFun (big w) os)
 obtain ⟨l1,l2,l3⟩:_ /\ _ /\ _:=by simpa only [Prod.mk.injEq] using hb
 have ha:(S0 w os).abs = ⟨boot_heap w.params,Array.mk [],boot_drawn,boot_toks,os⟩:=by
  unfold S0 SharedT.abs
  dsimp only
  rw [Lk]
 have t:=topRun_mono (N - M) _ _ _ _ (v7 _ _ _ _ hr)
 rw [show M + (N - M) = N by have:=Nat.le_of_ble_eq_true le;lia,ha] at t
 have t2:topFrom treeTable p w N ⟨boot_heap w.params,Array.mk [],boot_drawn,boot_toks,os⟩ = some r.abs:=by
  unfold topFrom
  dsimp only
  rw [z1,z2,z3,t]
  show (match staticsOk (importedModules p.main.body) (boot_heap w.params) r.abs.heap && namesBound p r.abs.heap && gensDone r.abs && laidKept (boot_heap w.params) r.abs.heap with | true=>_ | false=>_) = _
  rw [l1]
 unfold openEnds
 rw [e]
 show (topFrom treeTable p w N _).map _ = _
 rw [t2]
 exact congrArg some (Prod.ext l2 l3)
theorem HL {p q:Program} {loose:List Str} {Xt:Shared -> Bool} {α:Type} {Yf:Shared -> α} {Ya:World -> α} {g0:Bool}
  (open_:∀ w:World,(fencedOpening treeTable p w 100000).map (fun s=>(s.heap,s.gens,s.drawn,s.toks)) = some (boot_heap w.params,Array.mk [],boot_drawn,boot_toks))
  (big:∀ w:World,(fun os=>(Gq (Fast.tw10156331382660048174 (Fast.tw11892475500146522536 Fast.tw14364793385576792824) p w) (Fast.tw6613529449190102663 11 (some (.ref 6))) 100000 (S0 w os) (topStub p)).map fun r=>((staticsOk (Fast.tw5923862056798008813 p.main.body) (boot_heap w.params) r.abs.heap && namesBound p r.abs.heap && gensDone r.abs && laidKept (boot_heap w.params) r.abs.heap),
    Fast.tw4187177175401517315 q loose (Fast.tw5923862056798008813 p.main.body) Xt g0 r.abs,Yf r.abs)) = fun _=>some (true,openGood q loose,Ya w)):LeftO p q loose Xt Yf Ya 100000 g0:=by
 rw [<- Fast.te10156331382660048174,<- Fast.te11892475500146522536,<- Fast.te14364793385576792824,<- Fast.te6613529449190102663,<- Fast.te5923862056798008813,<- Fast.te4187177175401517315] at big
 exact HK open_ rfl big
theorem Ix {l:OpenLaw} (h:Fast.tw9446332074065402090 l = true):l.wellSaid = true:=by
 rw [Fast.te9446332074065402090]
 exact h
end Hd
set_option Elab.async false
section
open PySem PySem.W PyProof.Rows
noncomputable def Hd.q : Program := view PySem.Challenge.pw_shapethin_k24_drawn_and_read [1, 2, 3, 5, 6, 7, 9, 10, 11, 12, 14, 15, 16, 17, 19, 21, 22, 23, 24, 25, 26, 27, 28, 29]
local macro_rules | `(tactic| o_head $_)=>`(tactic| assumption)
set_option maxHeartbeats 0 in
theorem Hd.e0 : PySem.Challenge.rw_shapethin_k24_drawn_and_read.row.Holds -> PySem.Challenge.rw_shapethin_k24_drawn_and_read.row.Holds := by intro h; w_on; k_head
noncomputable def Hd.as:List Addr:=(Hd.e0.heap_1 { strHash:=fun _=>0,shareClass:=fun _=>0,mergeTok:=id,idOf:=fun _=>0,idOfShared:=fun _ _=>0,followText:=fun _=>true,idOfImm:=fun _=>0 }).map (·.1)
theorem Hd.ae (P:Params):Hd.as = (Hd.e0.heap_1 P).map (·.1):=by kernel_rfl
noncomputable abbrev Hd.H:Hook:=kHook Hd.e0.heap_1 Hd.as Hd.ae
set_option maxHeartbeats 0 in
theorem Hd.e1 : LeftO PySem.Challenge.rw_shapethin_k24_drawn_and_read.row.prog Hd.q ["read_drawn"] (fun s => xlAt Hd.q [] s && recOk (RowW.records (OpenRow.toRowW (OpenLaw.row PySem.Challenge.rw_shapethin_k24_drawn_and_read))) s) (fun s => (Hook.obs Hd.H s, Nat.ble 300 s.toks)) (fun w => (Hook.val Hd.H w, true)) 100000 := Hd.HL (boot_open (by rfl) rfl (fun s => rfl)) (by intro w; kernel_rfl)
set_option maxHeartbeats 0 in
theorem Hd.e2 : PySem.Challenge.rw_shapethin_k24_drawn_and_read.wellSaid = true := Hd.Ix (by kernel_rfl)
end
set_option Elab.async false
set_option linter.all false
set_option maxRecDepth 100000
namespace L2
open PySem PySem.Spec PyProof.Rows
noncomputable abbrev wB:=Sum Int Str
noncomputable def Jg:wB -> Value -> Bool
 | .inl k,v=>Value.isInt k v
 | .inr x,v=>Value.isStrOf x v
noncomputable def Ng (w:World):wB -> Int
 | .inl k=>hashInt k
 | .inr x=>hashStr w x
theorem cM:∀ {k:wB} {v:Value},Jg k v = true -> (∃ i t,k = Sum.inl i /\ v = Value.int i t) \/ (∃ x t,k = Sum.inr x /\ v = Value.str x t)
 | .inl i,v,h=>by
  obtain ⟨t,e⟩:=Value.isInt_shape (k:=i) (v:=v) h
  exact .inl ⟨i,t,rfl,e⟩
 | .inr x,v,h=>by
  obtain ⟨t,e⟩:=Value.isStrOf_shape (x:=x) (v:=v) h
  exact .inr ⟨x,t,rfl,e⟩
theorem J4 (a b:Int):decide ((Sum.inl a:wB) = Sum.inl b) = (a == b):=by
 by_cases e:a = b
 ·subst e;simp
 ·have h:¬ (Sum.inl a:wB) = Sum.inl b:=fun q=>e (Sum.inl.inj q)
  rw [decide_eq_false h]
  exact (beq_eq_false_iff_ne.mpr e).symm
theorem Kc (a b:Str):decide ((Sum.inr a:wB) = Sum.inr b) = decide (a = b):=by
 by_cases e:a = b
 ·subst e;simp
 ·have h:¬ (Sum.inr a:wB) = Sum.inr b:=fun q=>e (Sum.inr.inj q)
  rw [decide_eq_false h,decide_eq_false e]
theorem Ka (a:Int) (b:Str):decide ((Sum.inl a:wB) = Sum.inr b) = false:=decide_eq_false (fun q=>nomatch q)
theorem Kb (a:Str) (b:Int):decide ((Sum.inr a:wB) = Sum.inl b) = false:=decide_eq_false (fun q=>nomatch q)
noncomputable def xo (prog:Program) (w:World):PySem.KeyKind prog w wB where
 is:=Jg
 hash:=Ng w
 inj:=fun v a b ha hb=>by
  rcases cM ha with ⟨i,t,rfl,rfl⟩ | ⟨x,t,rfl,rfl⟩
  ·rcases cM hb with ⟨j,u,rfl,e⟩ | ⟨y,u,rfl,e⟩
   ·injection e with e1 _;rw [e1]
   ·exact nomatch e
  ·rcases cM hb with ⟨j,u,rfl,e⟩ | ⟨y,u,rfl,e⟩
   ·exact nomatch e
   ·injection e with e1 _;rw [e1]
 byValue:=fun k v h=>by
  rcases cM h with ⟨i,t,rfl,rfl⟩ | ⟨x,t,rfl,rfl⟩ <;> rfl
 pyHash:=fun hv h=>by
  rcases cM hv with ⟨i,t,rfl,rfl⟩ | ⟨x,t,rfl,rfl⟩
  ·exact wpAny_pyHash_int h
  ·exact wpAny_pyHash_str h
 eqBool:=fun hu hv h=>by
  rcases cM hu with ⟨i,t,rfl,rfl⟩ | ⟨x,t,rfl,rfl⟩
  ·rcases cM hv with ⟨j,u,rfl,rfl⟩ | ⟨y,u,rfl,rfl⟩
   ·rw [J4] at h;exact wpAny_eqBool_int h
   ·rw [Ka] at h;exact SeqAt.EqAt.int_str i t y u _ _ _ _ h
  ·rcases cM hv with ⟨j,u,rfl,rfl⟩ | ⟨y,u,rfl,rfl⟩
   ·rw [Kb] at h;exact SeqAt.EqAt.str_int x t j u _ _ _ _ h
   ·rw [Kc] at h;exact wpAny_eqBool_str h
 «strs»:=fun k x t v h=>by
  rcases cM h with ⟨i,u,rfl,e⟩ | ⟨y,u,rfl,e⟩
  ·exact nomatch e
  ·injection e with e1 _
   subst e1
   cases v <;> rfl
inductive V where
 | non | bl (b:Bool) | int (i:Int) | str (x:Str) | byt (b:Array UInt8) | flt (b:UInt64) | ref (a:Addr) | ty (n:String)
 deriving DecidableEq
noncomputable def RelV:V -> Value -> Prop
 | .non,u=>u = Value.none
 | .bl b,u=>u = Value.bool b
 | .int i,u=>∃ t,u = Value.int i t
 | .str x,u=>∃ t,u = Value.str x t
 | .byt b,u=>∃ t,u = Value.bytes b t
 | .flt b,u=>∃ t,u = Value.float b t
 | .ref a,u=>u = Value.ref a
 | .ty n,u=>u = Value.type n
noncomputable abbrev Vals:List V -> List Value -> Prop:=Paired RelV
theorem Vals.length {xs:List V} {us:List Value} (r:Vals xs us):xs.length = us.length:=Paired.length r
theorem Vals.get:∀ {xs:List V} {us:List Value} {i:Nat} {x:V},Vals xs us -> xs[i]? = some x -> ∃ u,us[i]? = some u /\ RelV x u
 | _,_,_,_,.nil,e=>by simp at e
 | _,_,0,_,.cons r _,e=>by simp at e;subst e;exact ⟨_,rfl,r⟩
 | _,_,i + 1,x,.cons _ t,e=>by
  obtain ⟨u,h1,h2⟩:=Vals.get (i:=i) (x:=x) t (by simpa using e)
  exact ⟨u,by simpa using h1,h2⟩
theorem Vals.set {x:V} {u:Value} (r:RelV x u):∀ {xs:List V} {us:List Value} (i:Nat),Vals xs us -> Vals (xs.set i x) (us.set i u)
 | _,_,_,.nil=>.nil
 | _,_,0,.cons _ t=>.cons r t
 | _,_,i + 1,.cons q t=>.cons q (Vals.set r i t)
theorem Vals.append:∀ {xs ys:List V} {us ws:List Value},Vals xs us -> Vals ys ws -> Vals (xs ++ ys) (us ++ ws)
 | _,_,_,_,.nil,s=>s
 | _,_,_,_,.cons r t,s=>.cons r (Vals.append t s)
noncomputable def JF:Option V -> Option Value -> Prop
 | some v,some u=>RelV v u
 | none,none=>True
 | _,_=>False
noncomputable def KV {κ:Type}:List (κ × V) -> List (κ × Value) -> Prop:=Paired fun (p:κ × V) (q:κ × Value)=>p.1 = q.1 /\ RelV p.2 q.2
noncomputable def kV:wB -> V
 | .inl i=>.int i
 | .inr x=>.str x
inductive HO where
  | lst (xs:List V)
  | tup (xs:List V)
  | dK (kvs:List (wB × V)) | dT (kvs:List (List wB × V))
  | set (S:Int -> Bool) (n:Nat)
  | ins (C dx:Addr) (fs:List (Str × V))
  | own (x:Addr)
  | xd (fs:List (Str × V))
  | met (f x:Addr)
  | rng (lo hi:Int)
  | frz (o:Obj) (u:HO)
  | tbl (ps:Array Value)
  | ext (φ:Heap -> Prop)
noncomputable abbrev Hp:=Addr -> Option HO
noncomputable def d8 (H:Hp) (a:Addr) (o:HO):Hp:=fun b=>if b = a then some o else H b
theorem a7 {H:Hp} {a:Addr} {o:HO}:d8 H a o a = some o:=by unfold d8;rw [if_pos rfl]
theorem aS {H:Hp} {a b:Addr} {o:HO} (h:b ≠ a):d8 H a o b = H b:=by unfold d8;rw [if_neg h]
theorem aP {H:Hp} {a b:Addr} {o:HO} (h:H a = some o) (h':H b = none):a ≠ b:=by
 intro e;subst e;rw [h] at h';cases h'
section
variable (P:Program) (w:World)
noncomputable def ObjOk (H:Hp) (h:Heap) (a:Addr):HO -> Prop
 | .lst xs=>xs.length <= sizeLine /\ ∃ (its:List Value) (n:Nat),Vals xs its /\ h.get? a = some { cls:=.type "list",data:=.seq its.toArray n }
 | .tup xs=>xs.length <= sizeLine /\ ∃ its:List Value,Vals xs its /\ IsTup h a its.toArray
 | .dK kvs=>kvs.length <= sizeLine /\ (a == sysModules) = false /\ ∃ vs,KV kvs vs /\ h.DictOf (xo P w) a vs
 | .dT kvs=>kvs.length <= sizeLine /\ (a == sysModules) = false /\ ∃ xs:List (List wB × Addr × Value),
   Paired (fun (p:List wB × V) (q:List wB × Addr × Value)=>p.1 = q.1 /\ H q.2.1 = some (.tup (p.1.map kV)) /\ RelV p.2 q.2.2) kvs xs /\
   ∃ o es ep,h.get? a = some o /\ o.ExactDict /\ o.data = .dict es ep /\ es.toList = xs.map (entryOfKey (tupleKind (xo P w))) /\ (xs.map (·.1)).Nodup
 | .set S n=>h.SetOf (intKind P w) a S n
 | .ins C dx fs=>H dx = some (.own a) /\ fs.length <= 1000 /\ dx ≠ a /\ h.get? a = some (W.instObj C dx) /\
   ∃ mA,h.Ns1 dx mA /\ (∀ f,JF (fs.lookup f) (mA f)) /\ PySem.Within mA (fs.map (·.1))
 | .own _=>∃ o,h.get? a = some o
 | .xd fs=>∃ mA,h.Ns1 a mA /\ ∀ f,JF (fs.lookup f) (mA f)
 | .rng lo hi=>∃ t u v,h.get? a = some { cls:=.type "range",data:=.fields #[.int lo t,.int hi u,.int 1 v] }
 | .frz o u=>h.get? a = some o /\ ObjOk H h a u
 | .tbl ps=>h.get? a = some { cls:=.none,data:=.fields ps }
 | .met f x=>h.get? a = some (W.methodObj (.ref f) (.ref x))
 | .ext φ=>φ h /\ (∃ o,h.get? a = some o) /\ ∀ h1 h2:Heap,φ h1 -> (∀ o,h1.get? a = some o -> h2.get? a = some o) -> φ h2
def HOk (H:Hp) (h:Heap):Prop:=∀ a o,H a = some o -> ObjOk P w H h a o
end
section
variable {P:Program} {w:World} {H H':Hp} {h h':Heap} {a:Addr} {o:HO}
theorem ObjOk.lt (x:ObjOk P w H h a o):a < h.objs.size:=by
 cases o with
 | lst xs=>obtain ⟨_,_,_,_,e⟩:=x;exact Heap.lt_size e
 | tup xs=>obtain ⟨_,_,_,p⟩:=x;exact p.lt
 | dK kvs=>obtain ⟨_,_,_,_,o,_,_,e,_⟩:=x;exact Heap.lt_size e
 | dT kvs=>obtain ⟨_,_,_,_,o,_,_,e,_⟩:=x;exact Heap.lt_size e
 | set S n=>obtain ⟨o,_,_,_,e,_⟩:=x;exact Heap.lt_size e
 | ins C dx fs=>obtain ⟨_,_,_,e,_⟩:=x;exact Heap.lt_size e
 | own y=>obtain ⟨_,e⟩:=x;exact Heap.lt_size e
 | xd fs=>obtain ⟨_,⟨_,_,_,e,_⟩,_⟩:=x;exact Heap.lt_size e
 | rng lo hi=>obtain ⟨_,_,_,e⟩:=x;exact Heap.lt_size e
 | frz ob u=>obtain ⟨e,_⟩:=x;exact Heap.lt_size e
 | tbl ps=>exact Heap.lt_size (show h.get? a = some _ from x)
 | met f y=>exact Heap.lt_size (show h.get? a = some _ from x)
 | ext φ=>obtain ⟨_,⟨_,e⟩,_⟩:=x;exact Heap.lt_size e
theorem Paired.mapP {α β:Type} {F G:α -> β -> Prop}:∀ {l₁:List α} {l₂:List β},Paired F l₁ l₂ -> (∀ a b,F a b -> G a b) -> Paired G l₁ l₂
 | _,_,.nil,_=>.nil
 | _,_,.cons r t,f=>.cons (f _ _ r) (Paired.mapP t f)
theorem ObjOk.stay (x:ObjOk P w H h a o) (k:∀ b u,(b = a \/ H b = some (.own a)) -> h.get? b = some u -> h'.get? b = some u)
  (ho:∀ b,H b = some (.own a) -> H' b = some (.own a)) (ht:∀ b xs,H b = some (.tup xs) -> H' b = some (.tup xs)):ObjOk P w H' h' a o:=by
 induction o with
 | lst xs=>obtain ⟨z,its,n,r,e⟩:=x;exact ⟨z,its,n,r,k _ _ (.inl rfl) e⟩
 | tup xs=>obtain ⟨z,its,r,ob,e,c⟩:=x;exact ⟨z,its,r,ob,k _ _ (.inl rfl) e,c⟩
 | dK kvs=>obtain ⟨z,y,vs,r,ob,es,ep,e,c⟩:=x;exact ⟨z,y,vs,r,ob,es,ep,k _ _ (.inl rfl) e,c⟩
 | dT kvs=>
  obtain ⟨z,y,xs,r,ob,es,ep,e,c⟩:=x
  exact ⟨z,y,xs,Paired.mapP r fun p q z=>⟨z.1,ht _ _ z.2.1,z.2.2⟩,ob,es,ep,k _ _ (.inl rfl) e,c⟩
 | set S n=>obtain ⟨ob,es,ep,t,e,c⟩:=x;exact ⟨ob,es,ep,t,k _ _ (.inl rfl) e,c⟩
 | ins C dx fs=>
  obtain ⟨d,z,ne,e,mA,⟨od,es,ep,e2,c⟩,r⟩:=x
  exact ⟨ho _ d,z,ne,k _ _ (.inl rfl) e,mA,⟨od,es,ep,k _ _ (.inr d) e2,c⟩,r⟩
 | own y=>obtain ⟨ob,e⟩:=x;exact ⟨ob,k _ _ (.inl rfl) e⟩
 | xd fs=>obtain ⟨mA,⟨od,es,ep,e,c⟩,r⟩:=x;exact ⟨mA,⟨od,es,ep,k _ _ (.inl rfl) e,c⟩,r⟩
 | rng lo hi=>obtain ⟨t,u,v,e⟩:=x;exact ⟨t,u,v,k _ _ (.inl rfl) e⟩
 | frz ob u ih=>obtain ⟨e,q⟩:=x;exact ⟨k _ _ (.inl rfl) e,ih q⟩
 | tbl ps=>
  have e:h.get? a = some { cls:=.none,data:=.fields ps }:=x
  show h'.get? a = some { cls:=.none,data:=.fields ps }
  exact k a _ (.inl rfl) e
 | met f y=>
  have e:h.get? a = some (W.methodObj (.ref f) (.ref y)):=x
  show h'.get? a = some (W.methodObj (.ref f) (.ref y))
  exact k a _ (.inl rfl) e
 | ext φ=>obtain ⟨p,⟨o,e⟩,st⟩:=x;exact ⟨st _ _ p fun o q=>k _ _ (.inl rfl) q,⟨o,k _ _ (.inl rfl) e⟩,st⟩
theorem HOk.lt (x:HOk P w H h) (e:H a = some o):a < h.objs.size:=(x a o e).lt
theorem HOk.fresh (x:HOk P w H h) (e:h.objs.size <= a):H a = none:=by
 cases q:H a with
 | none=>rfl
 | some u=>exact absurd (Nat.lt_of_lt_of_le (x.lt q) e) (Nat.lt_irrefl _)
theorem HOk.kept (x:HOk P w H h) (k:∀ b u,h.get? b = some u -> h'.get? b = some u):HOk P w H h':=fun a o e=>
 (x a o e).stay (fun b u _ q=>k b u q) (fun _ q=>q) fun _ _ q=>q
theorem HOk.laid (x:HOk P w H h) (k:∀ b u,h.get? b = some u -> h'.get? b = some u) (hp:h.objs.size <= a) (new:ObjOk P w (d8 H a o) h' a o):HOk P w (d8 H a o) h':=fun b u e=>by
 have hn:=x.fresh hp
 by_cases hb:b = a
 ·subst hb;rw [a7] at e;cases e;exact new
 ·rw [aS hb] at e
  exact (x b u e).stay (fun c v _ q=>k c v q) (fun c q=>by rw [aS (aP q hn)];exact q) fun c xs q=>by rw [aS (aP q hn)];exact q
end
def Rd (H:Hp) (a:Addr) (u:HO):Prop:=H a = some u \/ ∃ o,H a = some (.frz o u)
theorem Rd.ok {P:Program} {w:World} {H:Hp} {h:Heap} {a:Addr} {u:HO} (r:Rd H a u) (x:HOk P w H h):ObjOk P w H h a u:=by
 rcases r with r | ⟨o,r⟩
 ·exact x a u r
 ·obtain ⟨_,q⟩:=x a _ r
  exact q
noncomputable def MA:Option HO -> Prop
 | some (.lst _)=>True
 | some (.dK _)=>True
 | some (.dT _)=>True
 | some (.set _ _)=>True
 | some (.ins _ _ _)=>True
 | some (.ext _)=>True
 | _=>False
section
variable {P:Program} {w:World} {H:Hp} {h h':Heap} {x e:Addr} {o':HO}
theorem HOk.write (ok:HOk P w H h) (mu:MA (H x)) (he:e = x \/ H e = some (.own x)) (k:∀ b u,b ≠ e -> h.get? b = some u -> h'.get? b = some u) (heo:∃ u,h'.get? e = some u)
  (new:ObjOk P w (d8 H x o') h' x o'):HOk P w (d8 H x o') h':=fun b u q=>by
 have nown:∀ c y,H c = some (.own y) -> c ≠ x:=fun c y r z=>by subst z;rw [r] at mu;exact mu
 have ntup:∀ c xs,H c = some (.tup xs) -> c ≠ x:=fun c xs r z=>by subst z;rw [r] at mu;exact mu
 by_cases hb:b = x
 ·subst hb;rw [a7] at q;cases q;exact new
 ·rw [aS hb] at q
  by_cases hbe:b = e
  ·have q':H b = some (.own x):=by
    rcases he with z | z
    ·exact absurd (hbe.trans z) hb
    ·rw [hbe];exact z
   rw [q] at q';cases q'
   obtain ⟨v,hv⟩:=heo
   exact ⟨v,by rw [hbe];exact hv⟩
  ·refine (ok b u q).stay (fun c v hc r=>k c v ?_ r) (fun c r=>by rw [aS (nown c b r)];exact r) fun c xs r=>by rw [aS (ntup c xs r)];exact r
   rcases hc with rfl | hc
   ·exact hbe
   ·rintro rfl
    rcases he with z | z
    ·exact nown c b hc z
    ·rw [hc] at z;cases z;exact hb rfl
end
structure Un (fs ex:List Addr) (H H':Hp) (h h':Heap):Prop where
 keep:∀ b o,h.get? b = some o -> H b = none -> b ∉ fs -> b ∉ ex -> h'.get? b = some o
 slot:∀ b o,h.get? b = some o -> H b = none -> b ∈ fs -> b ∉ ex -> ∃ sl,h'.get? b = some { o with slots:=sl }
 free:∀ b o,h.get? b = some o -> H b = none -> b ∉ ex -> H' b = none
 there:∀ b o,h.get? b = some o -> b ∉ ex -> ∃ o',h'.get? b = some o'
 tups:∀ b xs,H b = some (.tup xs) -> H' b = some (.tup xs)
 frzs:∀ b o u,H b = some (.frz o u) -> H' b = some (.frz o u)
 tbls:∀ b ps,H b = some (.tbl ps) -> ∃ more,H' b = some (.tbl (ps ++ more))
section
variable {fs fs' ex ex':List Addr} {H H1 H2:Hp} {h h1 h2 h':Heap} {a x e:Addr} {o:HO}
theorem Un.any (u:Un fs ex H H1 h h1) {b:Addr} {ob:Obj} (q:h.get? b = some ob) (n:H b = none) (hx:b ∉ ex):∃ sl,h1.get? b = some { ob with slots:=sl }:=by
 by_cases hb:b ∈ fs
 ·exact u.slot b ob q n hb hx
 ·exact ⟨ob.slots,u.keep b ob q n hb hx⟩
theorem Un.kept (k:∀ b u,h.get? b = some u -> h'.get? b = some u):Un fs ex H H h h':=
 ⟨fun b ob q _ _ _=>k b ob q,fun b ob q _ _ _=>⟨ob.slots,k b ob q⟩,fun _ _ _ n _=>n,fun b ob q _=>⟨ob,k b ob q⟩,fun _ _ q=>q,fun _ _ _ q=>q,fun _ ps q=>⟨#[],by rw [q];simp⟩⟩
theorem Un.refl:Un fs ex H H h h:=Un.kept fun _ _ q=>q
theorem Un.laid (k:∀ b u,h.get? b = some u -> h'.get? b = some u) (hp:h.objs.size <= a) (hn:H a = none):Un fs ex H (d8 H a o) h h' where
 keep:=fun b u q _ _ _=>k b u q
 slot:=fun b u q _ _ _=>⟨u.slots,k b u q⟩
 free:=fun b u q n _=>by rw [aS (Nat.ne_of_lt (Nat.lt_of_lt_of_le (Heap.lt_size q) hp))];exact n
 there:=fun b u q _=>⟨u,k b u q⟩
 tups:=fun b xs q=>by rw [aS (aP q hn)];exact q
 frzs:=fun b u xs q=>by rw [aS (aP q hn)];exact q
 tbls:=fun b ps q=>⟨#[],by rw [aS (aP q hn),q];simp⟩
theorem Un.write (mu:MA (H x)) (he:e = x \/ H e = some (.own x)) (k:∀ b u,b ≠ e -> h.get? b = some u -> h'.get? b = some u) (heo:∃ u,h'.get? e = some u):Un fs ex H (d8 H x o) h h':=by
 have hx:∀ b,H b = none -> b ≠ x:=fun b n z=>by subst z;rw [n] at mu;exact mu
 have hb:∀ b,H b = none -> b ≠ e:=fun b n z=>by
  subst z
  rcases he with r | r
  ·exact hx b n r
  ·rw [n] at r;cases r
 have hm:∀ b u,H b = some u -> ¬ MA (some u) -> b ≠ x:=fun b u q nm z=>by subst z;rw [q] at mu;exact nm mu
 refine ⟨fun b u q n _ _=>k b u (hb b n) q,fun b u q n _ _=>⟨u.slots,k b u (hb b n) q⟩,fun b u q n _=>by rw [aS (hx b n)];exact n,fun b u q _=>?_,
  fun b xs q=>by rw [aS (hm b _ q fun z=>z)];exact q,fun b u xs q=>by rw [aS (hm b _ q fun z=>z)];exact q,fun b ps q=>⟨#[],by rw [aS (hm b _ q fun z=>z),q];simp⟩⟩
 by_cases hbe:b = e
 ·subst hbe;exact heo
 ·exact ⟨u,k b u hbe q⟩
end
noncomputable def M0 (h:Heap) (H:Hp):List Addr:=(List.range h.objs.size).filter fun a=>(H a).isSome
noncomputable def w9 (h:Heap) (H:Hp):Heap:=W.hideAll h (M0 h H)
theorem DF (h:Heap) (H:Hp):(w9 h H).objs.size = h.objs.size:=W.hideAll_size _ _
theorem Fq {h:Heap} {H:Hp} {b:Addr} {o:Obj} (e:h.get? b = some o) (n:H b = none):(w9 h H).get? b = some o:=
 W.hideAll_get _ e fun hm=>by
  have q:(H b).isSome = true:=(List.mem_filter.mp hm).2
  rw [n] at q;simp at q
theorem HX {h:Heap} {H:Hp} {b:Addr} {o:Obj} (e:(w9 h H).get? b = some o):h.get? b = some o /\ H b = none:=by
 have e':h.get? b = some o:=W.of_hideAll (M0 h H) e
 refine ⟨e',?_⟩
 cases q:H b with
 | none=>rfl
 | some x=>
  have hm:b ∈ M0 h H:=List.mem_filter.mpr ⟨List.mem_range.mpr (Heap.lt_size e'),by simp [q]⟩
  have z:(w9 h H).get? b = none:=W.hideAll_none (M0 h H) hm
  rw [z] at e;cases e
noncomputable def Hj (g h:Heap) (L:Addr):List (Addr × Obj):=(List.range h.objs.size).filterMap fun a=>if a = L \/ (g.get? a).isSome = true then none else (h.get? a).map fun o=>(a,o)
noncomputable def eA (g h:Heap) (L d:Addr):List (Addr × Obj):=(Hj g h L).filter fun p=>decide (p.1 ≠ d)
structure Mod (K:W.Frag) (mg:Str -> Option Value) (base:Heap):Prop where
 kin:K.In base
 glob:base.Ns mainGlobals mg
 blt:∃ mb,base.Ns builtinsNs mb /\ ∀ x:Str,x ≠ "__name__" -> mb x = bootBuiltins x
 nolimit:base.NoLimit
noncomputable def NN:Nat:=300
theorem p7 {M:Model} {Γ:PySem.Ctx} {p:Pos} {t:PySem.Sem PySem.Fin} {fs:List Frame} {s s':Shared} {e:End} (h:Runs M Γ p t fs s e s'):s.toks <= s'.toks:=by
 induction h <;> first | exact Nat.le_refl _ | assumption | (simp only [Shared.setGen] at *;lia) | lia
theorem BK {M:Model} {Γ:PySem.Ctx} {p:Pos} {g:Nat} {r:Resume} {s s':Shared} {e:GenResult} (h:Wakes M Γ p g r s e s'):s.toks <= s'.toks:=by
 unfold Wakes at h
 split at h
 ·exact h.elim
 ·split at h
  ·obtain ⟨e1,s1,h,_,_,e⟩:=h;have q:=p7 h;rw [e];exact q
  ·rw [h.2];exact Nat.le_refl _
  ·rw [h.2];exact Nat.le_refl _
 ·obtain ⟨e1,s1,h,_,_,e⟩:=h;have q:=p7 h;rw [e];exact q
 ·rw [h.2];exact Nat.le_refl _
 ·rw [h.2];exact Nat.le_refl _
theorem IY {α:Type} {M:Model} {Γ:PySem.Ctx} (N:Nat) {t:PySem.Sem α} {Q:α -> Pos -> Shared -> Prop} {E:Value -> Pos -> Shared -> Prop} {p:Pos} {s:Shared} (hn:N <= s.toks)
  (h:PySem.Sem.wp M Γ t (fun a p s'=>N <= s'.toks -> Q a p s') (fun a p s'=>N <= s'.toks -> E a p s') p s):PySem.Sem.wp M Γ t Q E p s:=by
 induction t generalizing p s with
 | pure a=>exact h hn
 | raise a=>exact h hn
 | unsupported | finish | yield | fork | await | register=>exact h
 | rule tag k ih=>exact ih _ hn h
 | «at» p' k ih=>exact ih _ hn h
 | load a part k ih=>obtain ⟨o,ho,h⟩:=h;exact ⟨o,ho,ih _ hn h⟩
 | loadIfAlive a k ih=>exact ih _ hn h
 | point l k ih=>exact ih _ hn h
 | update a part f k ih=>exact ⟨h.1,ih _ hn h.2⟩
 | alloc o k ih=>exact ih _ hn h
 | fresh k ih=>exact ih _ (Nat.le_succ_of_le hn) h
 | ask k ih=>exact ih _ hn h
 | choose src n k ih=>exact ⟨h.1,ih _ hn h.2⟩
 | os q l k ih=>exact ih _ hn h
 | call c hh g l k ih=>obtain ⟨r,s',hr,h⟩:=h;exact ⟨r,s',hr,ih _ (Nat.le_trans hn (p7 hr)) h⟩
 | handled own k ih=>exact ih _ hn h
 | genState g k ih=>obtain ⟨o,ho,h⟩:=h;exact ⟨o,ho,ih _ hn h⟩
 | newGen c k ih=>exact ih _ hn h
 | resume g r l k ih=>obtain ⟨o,s',ho,h⟩:=h;exact ⟨o,s',ho,ih _ (Nat.le_trans hn (BK ho)) h⟩
 | stack k ih=>exact ih _ hn h
 | thread k ih=>exact ih _ hn h
theorem keep {α:Type} {M:Model} {A:Around} {t:PySem.Sem α} {Q:α -> Shared -> Prop} {E:Value -> Shared -> Prop} {s:Shared} (hn:NN <= s.toks)
  (h:wpAny M A t (fun a s'=>NN <= s'.toks -> Q a s') (fun a s'=>NN <= s'.toks -> E a s') s):wpAny M A t Q E s:=fun Γ p hΓ=>IY NN hn (h Γ p hΓ)
structure Cx where
 prog:Program
 w:World
 K:W.Frag
 mg:Str -> Option Value
 base:Heap
 A:Around
 N:List Str
 s₀:Shared
 H₀:Hp
 env:Env
 outer:List Env
 stack:List Env
 ex:List Addr
 fn:Str -> Bool
 calm:Bool
 pn:List (Addr × Obj)
 xe:Value -> Shared -> Prop
noncomputable def wZ (l:List Env):List Addr:=l.filterMap (·.frame)
noncomputable abbrev Cx.fs (X:Cx):List Addr:=wZ X.outer
def MJ (sc:Scope) (x:Str):Prop:=sc.names.lookup x = some .local \/ sc.names.lookup x = some .cell \/ sc.names.lookup x = some .free
def K3 (sc:Scope) (x:Str):Prop:=sc.names.lookup x = some .local \/ sc.names.lookup x = some .cell
def M5 (env:Env) (h:Heap) (m:Str -> Option Value) (x:Str) (u:Value):Prop:=
 (env.kindOf x = some .local /\ m x = some u) \/ ((env.kindOf x = some .cell \/ env.kindOf x = some .free) /\ ∃ c,env.cells.lookup x = some c /\ h.IsCell c (some u))
structure Cx.Ok (X:Cx):Prop where
 mod:Mod X.K X.mg X.base
 kind:X.env.scope.kind = .function
 glob:X.env.globals = mainGlobals
 blt:X.env.builtins = builtinsNs
 above:X.s₀.heap.objs.size <= X.env.locals
 inj:∀ x y c,X.env.cells.lookup x = some c -> X.env.cells.lookup y = some c -> x = y
 has:∀ x,(X.env.kindOf x = some .cell \/ X.env.kindOf x = some .free) -> ∃ c,X.env.cells.lookup x = some c
 cab:∀ x c,X.fn x = true -> X.env.cells.lookup x = some c -> X.s₀.heap.objs.size <= c
 hd:X.calm = true -> X.A.handled = none
 frames:X.A.frames = some X.stack
 stk:X.stack = X.outer \/ (X.stack = X.env :: X.outer /\ X.env.frame = some X.env.locals)
 exf:∀ b ∈ X.ex,b ≠ X.env.locals /\ ∀ x c,X.env.cells.lookup x = some c -> c ≠ b
 bs:∀ b o,X.base.get? b = some o -> X.s₀.heap.get? b = some o /\ X.H₀ b = none
 bsz:X.base.objs.size <= X.s₀.heap.objs.size
 noex:∀ b o,X.base.get? b = some o -> b ∉ X.ex
 exfs:∀ b ∈ X.ex,b ∉ X.fs
 funs:X.s₀.heap.FunFrames X.base X.outer
 frf:∀ b ∈ X.fs,X.H₀ b = none
structure Inv (X:Cx) (pins:List (Addr × Obj)) (σ:List (Option V)) (H:Hp) (s:Shared):Prop where
 ok:X.Ok
 os:s.os = X.s₀.os
 bare:AllBare s.gens
 base:Un X.fs X.ex X.H₀ H X.s₀.heap s.heap
 loc:∃ m,s.heap.Ns X.env.locals m /\ ∀ (i:Nat) (x:Str) (v:V),X.N[i]? = some x -> σ[i]? = some (some v) -> MJ X.env.scope x -> ∃ u,RelV v u /\ M5 X.env s.heap m x u
 cell:∀ x c,X.env.cells.lookup x = some c -> ∃ v,s.heap.IsCell c v
 free:H X.env.locals = none
 freeC:∀ x c,X.env.cells.lookup x = some c -> H c = none
 pin:∀ p ∈ X.pn ++ pins,s.heap.get? p.1 = some p.2 /\ H p.1 = none /\ p.1 ≠ X.env.locals /\ p.1 ∉ X.fs /\ ∀ v,p.2.data ≠ .cell v
 hok:HOk X.prog X.w H s.heap
 len:σ.length = X.N.length
 tk:NN <= s.toks
section
variable {X:Cx} {pins:List (Addr × Obj)} {σ:List (Option V)} {H H':Hp} {s:Shared} {h':Heap}
theorem Cx.Ok.nofr (ok:X.Ok) {b:Addr} {o:Obj} (e:X.base.get? b = some o):b ∉ X.fs:=fun hb=>by
 have:=(ok.funs.mem hb).1
 rw [e] at this;cases this
theorem Inv.bs (I:Inv X pins σ H s):∀ b o,X.base.get? b = some o -> s.heap.get? b = some o /\ H b = none:=fun b o e=>
 ⟨I.base.keep b o (I.ok.bs b o e).1 (I.ok.bs b o e).2 (I.ok.nofr e) (I.ok.noex b o e),I.base.free b o (I.ok.bs b o e).1 (I.ok.bs b o e).2 (I.ok.noex b o e)⟩
theorem Inv.bk (I:Inv X pins σ H s):∀ b o,X.base.get? b = some o -> s.heap.get? b = some o:=fun b o e=>(I.bs b o e).1
theorem Inv.mod (I:Inv X pins σ H s):Mod X.K X.mg X.base:=I.ok.mod
theorem Inv.kIn (I:Inv X pins σ H s):X.K.In s.heap:=I.ok.mod.kin.keeps I.bk
theorem Inv.fr (I:Inv X pins σ H s):∃ m,Fr X.base X.env.locals s.heap m:=
 let ⟨m,hn,_⟩:=I.loc
 ⟨m,hn,I.bk,Nat.le_trans I.ok.bsz I.ok.above⟩
theorem Inv.lt (I:Inv X pins σ H s):X.env.locals < s.heap.objs.size:=let ⟨_,hn,_⟩:=I.loc;hn.lt
theorem Inv.sz (I:Inv X pins σ H s):X.s₀.heap.objs.size <= s.heap.objs.size:=Nat.le_trans I.ok.above (Nat.le_of_lt I.lt)
theorem Inv.nofs (I:Inv X pins σ H s) {a:Addr} (h:s.heap.objs.size <= a):a ∉ X.fs:=fun hb=>by
 obtain ⟨_,o,ho,_⟩:=I.ok.funs.mem hb
 exact absurd (Nat.lt_of_lt_of_le (Heap.lt_size ho) (Nat.le_trans I.sz h)) (Nat.lt_irrefl _)
theorem Inv.cne (I:Inv X pins σ H s):∀ x c,X.env.cells.lookup x = some c -> c ≠ X.env.locals:=fun x c e z=>by
 obtain ⟨v,o,ho,hd⟩:=I.cell x c e
 obtain ⟨m,⟨o',es,ep,ho',hd',_⟩,_⟩:=I.loc
 rw [z,ho'] at ho;cases ho;rw [hd'] at hd;cases hd
theorem Inv.funs (I:Inv X pins σ H s):s.heap.FunFrames X.base X.outer:=by
 have all:∀ (l:List Env),(∀ b ∈ wZ l,b ∈ X.fs) -> X.s₀.heap.FunFrames X.base l -> s.heap.FunFrames X.base l:=by
  intro l
  induction l with
  | nil=>intro _ _;trivial
  | cons env r ih=>
   intro hs hl
   obtain ⟨hk,⟨L,o,hf,hn,ho,hd⟩,hr⟩:=hl
   have hL:L ∈ X.fs:=hs L (by unfold wZ;rw [List.filterMap_cons,hf];exact List.mem_cons_self)
   obtain ⟨sl,e⟩:=I.base.slot L o ho (I.ok.frf L hL) hL fun z=>I.ok.exfs L z hL
   exact ⟨hk,⟨L,_,hf,hn,e,hd⟩,ih (fun b hb=>hs b (by unfold wZ;rw [List.filterMap_cons,hf];exact List.mem_cons_of_mem _ hb)) hr⟩
 exact all X.outer (fun _ hb=>hb) I.ok.funs
theorem Inv.stack (I:Inv X pins σ H s):s.heap.FunFrames X.base X.stack:=by
 rcases I.ok.stk with e | ⟨e,hf⟩
 ·rw [e];exact I.funs
 ·rw [e]
  obtain ⟨m,hn,_⟩:=I.loc
  refine .cons (by rw [I.ok.kind];decide) hf hn ?_ I.funs
  exact Heap.get?_none_of_le (Nat.le_trans I.ok.bsz I.ok.above)
theorem Inv.stkSub (I:Inv X pins σ H s):∀ b ∈ wZ X.stack,b ∈ X.env.locals :: X.fs:=fun b hb=>by
 rcases I.ok.stk with e | ⟨e,hf⟩
 ·rw [e] at hb;exact List.mem_cons_of_mem _ hb
 ·rw [e] at hb
  unfold wZ at hb
  rw [List.filterMap_cons,hf] at hb
  exact hb
theorem Inv.stkFree (I:Inv X pins σ H s):∀ b ∈ wZ X.stack,H b = none:=fun b hb=>by
 rcases List.mem_cons.mp (I.stkSub b hb) with e | hb
 ·rw [e];exact I.free
 ·obtain ⟨_,o,ho,_⟩:=I.ok.funs.mem hb
  exact I.base.free b o ho (I.ok.frf b hb) fun z=>I.ok.exfs b z hb
theorem Inv.step {g':Array GenState} {t':Nat} {d':Drawn} {ch:List Addr} (I:Inv X pins σ H s)
  (hch:∀ b ∈ ch,(b ∈ X.ex \/ X.s₀.heap.objs.size <= b) /\ b ≠ X.env.locals /\ (∀ x c,X.env.cells.lookup x = some c -> c ≠ b) /\ ∀ p ∈ X.pn ++ pins,p.1 ≠ b)
  (keep:∀ b o,b ≠ X.env.locals -> b ∉ X.fs -> b ∉ ch -> s.heap.get? b = some o -> H b = none -> h'.get? b = some o)
  (slot:∀ b o,b ≠ X.env.locals -> b ∈ X.fs -> b ∉ ch -> s.heap.get? b = some o -> H b = none -> ∃ sl,h'.get? b = some { o with slots:=sl }) (free:∀ b o,b ∉ ch -> s.heap.get? b = some o -> H b = none -> H' b = none)
  (there:∀ b o,b ∉ ch -> s.heap.get? b = some o -> ∃ o',h'.get? b = some o')
  (tups:∀ b xs,H b = some (.tup xs) -> H' b = some (.tup xs)) (frzs:∀ b o u,H b = some (.frz o u) -> H' b = some (.frz o u)) (tbls:∀ b ps,H b = some (.tbl ps) -> ∃ more,H' b = some (.tbl (ps ++ more)))
  (ns:∀ m,s.heap.Ns X.env.locals m -> h'.Ns X.env.locals m) (hok:HOk X.prog X.w H' h') (hg:AllBare g') (ht:s.toks <= t' \/ NN <= t':=by first | assumption | exact .inl (by lia) | exact .inl (by dsimp only;lia) | exact .inr (by assumption) | exact .inr (L2.Inv.tk (by assumption)) | exact .inr (Nat.le_succ_of_le (by assumption)) | exact .inr (by dsimp only at *;lia)) :
  Inv X pins σ H' { s with heap:=h',gens:=g',drawn:=d',toks:=t' }:=by
 have neL:∀ b o,X.s₀.heap.get? b = some o -> b ≠ X.env.locals:=fun b o e=>Nat.ne_of_lt (Nat.lt_of_lt_of_le (Heap.lt_size e) I.ok.above)
 have neC:∀ b o,X.s₀.heap.get? b = some o -> b ∉ X.ex -> b ∉ ch:=fun b o e hx hb=>by
  rcases (hch b hb).1 with z | z
  ·exact hx z
  ·exact absurd (Nat.lt_of_lt_of_le (Heap.lt_size e) z) (Nat.lt_irrefl _)
 have cellK:∀ x c,X.env.cells.lookup x = some c -> ∀ v,s.heap.IsCell c v -> h'.IsCell c v:=fun x c e v hpt0=>by
  obtain ⟨o,ho,hd⟩:=hpt0
  have nch:c ∉ ch:=fun z=>(hch c z).2.2.1 x c e rfl
  by_cases hc:c ∈ X.fs
  ·obtain ⟨sl,q⟩:=slot c o (I.cne x c e) hc nch ho (I.freeC x c e)
   exact ⟨_,q,hd⟩
  ·exact ⟨o,keep c o (I.cne x c e) hc nch ho (I.freeC x c e),hd⟩
 refine ⟨I.ok,I.os,hg,⟨fun b o e n hb hx=>?_,fun b o e n hb hx=>?_,fun b o e n hx=>?_,fun b o e hx=>?_,fun b xs e=>tups b xs (I.base.tups b xs e),fun b o xs e=>frzs b o xs (I.base.frzs b o xs e),fun b ps e=>?_⟩,?_,fun x c e=>?_,?_,fun x c e=>?_,fun p hp=>?_,hok,I.len,ht.elim (Nat.le_trans I.tk) id⟩
 ·exact keep b o (neL b o e) hb (neC b o e hx) (I.base.keep b o e n hb hx) (I.base.free b o e n hx)
 ·obtain ⟨sl,e1⟩:=I.base.slot b o e n hb hx
  obtain ⟨sl',e2⟩:=slot b _ (neL b o e) hb (neC b o e hx) e1 (I.base.free b o e n hx)
  exact ⟨sl',e2⟩
 ·obtain ⟨o',e1⟩:=I.base.there b o e hx
  exact free b o' (neC b o e hx) e1 (I.base.free b o e n hx)
 ·obtain ⟨o',e1⟩:=I.base.there b o e hx
  exact there b o' (neC b o e hx) e1
 ·obtain ⟨m1,e1⟩:=I.base.tbls b ps e
  obtain ⟨m2,e2⟩:=tbls b _ e1
  exact ⟨m1 ++ m2,by rw [e2,Array.append_assoc]⟩
 ·obtain ⟨m,hn,hl⟩:=I.loc
  refine ⟨m,ns m hn,fun i x v e1 e2 e3=>?_⟩
  obtain ⟨u,r,l⟩:=hl i x v e1 e2 e3
  refine ⟨u,r,?_⟩
  rcases l with l | ⟨k,c,e,z⟩
  ·exact .inl l
  ·exact .inr ⟨k,c,e,cellK x c e _ z⟩
 ·obtain ⟨v,z⟩:=I.cell x c e
  exact ⟨v,cellK x c e v z⟩
 ·obtain ⟨m,⟨o,_,_,ho,_⟩,_⟩:=I.loc
  exact free _ o (fun z=>(hch _ z).2.1 rfl) ho I.free
 ·obtain ⟨v,o,ho,hd⟩:=I.cell x c e
  exact free c o (fun z=>(hch c z).2.2.1 x c e rfl) ho (I.freeC x c e)
 ·obtain ⟨e,n,ne,nf,d⟩:=I.pin p hp
  have nch:p.1 ∉ ch:=fun z=>(hch p.1 z).2.2.2 p hp rfl
  exact ⟨keep p.1 p.2 ne nf nch e n,free p.1 p.2 nch e n,ne,nf,d⟩
theorem Inv.un {t':Nat} (I:Inv X pins σ H s) (u:Un X.fs [] H H' s.heap h') (hok:HOk X.prog X.w H' h') (ht:s.toks <= t' \/ NN <= t':=by first | assumption | exact .inl (by lia) | exact .inl (by dsimp only;lia) | exact .inr (by assumption) | exact .inr (L2.Inv.tk (by assumption)) | exact .inr (Nat.le_succ_of_le (by assumption)) | exact .inr (by dsimp only at *;lia)):Inv X pins σ H' { s with heap:=h',toks:=t' }:=by
 obtain ⟨m,⟨o,es,ep,ho,r⟩,_⟩:=id I.loc
 obtain ⟨sl,hL⟩:=u.any ho I.free (by simp)
 exact I.step (g':=s.gens) (d':=s.drawn) (ch:=[]) (fun _ z=>nomatch z) (fun b o _ hb _ e n=>u.keep b o e n hb (by simp)) (fun b o _ hb _ e n=>u.slot b o e n hb (by simp)) (fun b o _ e n=>u.free b o e n (by simp)) (fun b o _ e=>u.there b o e (by simp)) u.tups u.frzs u.tbls (fun m' hm=>by
  obtain ⟨o',es',ep',ho',r'⟩:=hm
  rw [ho] at ho';cases ho'
  exact ⟨_,es',ep',hL,r'⟩) hok I.bare
theorem Inv.call {g':Array GenState} {t':Nat} {d':Drawn} {ch:List Addr} (I:Inv X pins σ H s) (u:Un (wZ X.stack) ch H H' s.heap h') (hok:HOk X.prog X.w H' h') (hg:AllBare g')
  (hch:∀ b ∈ ch,(b ∈ X.ex \/ X.s₀.heap.objs.size <= b) /\ b ≠ X.env.locals /\ (∀ x c,X.env.cells.lookup x = some c -> c ≠ b) /\ ∀ p ∈ X.pn ++ pins,p.1 ≠ b) (ht:s.toks <= t' \/ NN <= t':=by first | assumption | exact .inl (by lia) | exact .inl (by dsimp only;lia) | exact .inr (by assumption) | exact .inr (L2.Inv.tk (by assumption)) | exact .inr (Nat.le_succ_of_le (by assumption)) | exact .inr (by dsimp only at *;lia)) :
  Inv X pins σ H' { s with heap:=h',gens:=g',drawn:=d',toks:=t' }:=by
 obtain ⟨m,⟨o,es,ep,ho,r⟩,_⟩:=id I.loc
 obtain ⟨sl,hL⟩:=u.any ho I.free fun z=>(hch _ z).2.1 rfl
 exact I.step (ch:=ch) hch (fun b o hL hb hc e n=>u.keep b o e n (fun z=>(List.mem_cons.mp (I.stkSub b z)).elim hL hb) hc) (fun b o _ _ hc e n=>u.any e n hc) (fun b o hc e n=>u.free b o e n hc) (fun b o hc e=>u.there b o e hc) u.tups u.frzs u.tbls (fun m' hm=>by
  obtain ⟨o',es',ep',ho',r'⟩:=hm
  rw [ho] at ho';cases ho'
  exact ⟨_,es',ep',hL,r'⟩) hok hg
theorem Inv.turned {t':Nat} {it:Addr} (I:Inv X pins σ H s) (k:∀ b o,b ≠ it -> s.heap.get? b = some o -> h'.get? b = some o) (hn:H it = none) (hL:it ≠ X.env.locals)
  (h1:it ∈ X.ex \/ X.s₀.heap.objs.size <= it) (h2:∀ x c,X.env.cells.lookup x = some c -> c ≠ it) (h3:∀ p ∈ X.pn ++ pins,p.1 ≠ it) (ht:s.toks <= t' \/ NN <= t':=by first | assumption | exact .inl (by lia) | exact .inl (by dsimp only;lia) | exact .inr (by assumption) | exact .inr (L2.Inv.tk (by assumption)) | exact .inr (Nat.le_succ_of_le (by assumption)) | exact .inr (by dsimp only at *;lia)):Inv X pins σ H { s with heap:=h',toks:=t' }:=by
 have nit:∀ b u,H b = some u -> b ≠ it:=fun b u e z=>by rw [z,hn] at e;cases e
 refine I.step (g':=s.gens) (d':=s.drawn) (ch:=[it]) (fun b hb=>?_) (fun b o _ _ hc e _=>k b o (fun z=>hc (by simp [z])) e) (fun b o _ _ hc e _=>⟨o.slots,k b o (fun z=>hc (by simp [z])) e⟩) (fun _ _ _ _ n=>n)
  (fun b o hc e=>⟨o,k b o (fun z=>hc (by simp [z])) e⟩) (fun _ _ e=>e) (fun _ _ _ e=>e) (fun b ps e=>⟨#[],by rw [e];simp⟩) (fun m hm=>?_) (fun b u e=>?_) I.bare
 ·have e:b = it:=by simpa using hb
  subst e
  exact ⟨h1,hL,h2,h3⟩
 ·obtain ⟨o,es,ep,ho,r⟩:=hm
  exact ⟨o,es,ep,k _ o (Ne.symm hL) ho,r⟩
 ·refine (I.hok b u e).stay (fun c v hc q=>k c v ?_ q) (fun _ q=>q) fun _ _ q=>q
  rcases hc with z | z
  ·rw [z];exact nit b u e
  ·exact nit c _ z
theorem Inv.tok (I:Inv X pins σ H s) (t:Nat) (ht:s.toks <= t \/ NN <= t:=by first | assumption | exact .inl (by lia) | exact .inl (by dsimp only;lia) | exact .inr (by assumption) | exact .inr (L2.Inv.tk (by assumption)) | exact .inr (Nat.le_succ_of_le (by assumption)) | exact .inr (by dsimp only at *;lia)):Inv X pins σ H { s with toks:=t }:=I.un (h':=s.heap) (t':=t) Un.refl I.hok ht
theorem Inv.kept {t':Nat} (I:Inv X pins σ H s) (k:∀ b u,s.heap.get? b = some u -> h'.get? b = some u) (ht:s.toks <= t' \/ NN <= t':=by first | assumption | exact .inl (by lia) | exact .inl (by dsimp only;lia) | exact .inr (by assumption) | exact .inr (L2.Inv.tk (by assumption)) | exact .inr (Nat.le_succ_of_le (by assumption)) | exact .inr (by dsimp only at *;lia)):Inv X pins σ H { s with heap:=h',toks:=t' }:=I.un (Un.kept k) (I.hok.kept k) ht
theorem Inv.laid {a:Addr} {o:HO} {t':Nat} (I:Inv X pins σ H s) (k:∀ b u,s.heap.get? b = some u -> h'.get? b = some u) (hp:s.heap.objs.size <= a) (new:ObjOk X.prog X.w (d8 H a o) h' a o) (ht:s.toks <= t' \/ NN <= t':=by first | assumption | exact .inl (by lia) | exact .inl (by dsimp only;lia) | exact .inr (by assumption) | exact .inr (L2.Inv.tk (by assumption)) | exact .inr (Nat.le_succ_of_le (by assumption)) | exact .inr (by dsimp only at *;lia)) :
  Inv X pins σ (d8 H a o) { s with heap:=h',toks:=t' }:=I.un (Un.laid k hp (I.hok.fresh hp)) (I.hok.laid k hp new) ht
theorem Inv.write {x e:Addr} {o:HO} {t':Nat} (I:Inv X pins σ H s) (mu:MA (H x)) (he:e = x \/ H e = some (.own x)) (k:∀ b u,b ≠ e -> s.heap.get? b = some u -> h'.get? b = some u) (heo:∃ u,h'.get? e = some u)
  (new:ObjOk X.prog X.w (d8 H x o) h' x o) (ht:s.toks <= t' \/ NN <= t':=by first | assumption | exact .inl (by lia) | exact .inl (by dsimp only;lia) | exact .inr (by assumption) | exact .inr (L2.Inv.tk (by assumption)) | exact .inr (Nat.le_succ_of_le (by assumption)) | exact .inr (by dsimp only at *;lia)):Inv X pins σ (d8 H x o) { s with heap:=h',toks:=t' }:=I.un (Un.write mu he k heo) (I.hok.write mu he k heo new) ht
theorem Inv.weak {σ':List (Option V)} (I:Inv X pins σ H s) (hl:σ'.length = σ.length) (w:∀ (i:Nat) v,σ'[i]? = some (some v) -> σ[i]? = some (some v)):Inv X pins σ' H s:=
 ⟨I.ok,I.os,I.bare,I.base,let ⟨m,hn,hl'⟩:=I.loc;⟨m,hn,fun i x v e1 e2 e3=>hl' i x v e1 (w i v e2) e3⟩,I.cell,I.free,I.freeC,I.pin,I.hok,hl.trans I.len,I.tk⟩
theorem Inv.pins_of {pins':List (Addr × Obj)} (I:Inv X pins σ H s) (h:∀ p ∈ pins',s.heap.get? p.1 = some p.2 /\ H p.1 = none /\ p.1 ≠ X.env.locals /\ p.1 ∉ X.fs /\ ∀ v,p.2.data ≠ .cell v):Inv X pins' σ H s:=
 ⟨I.ok,I.os,I.bare,I.base,I.loc,I.cell,I.free,I.freeC,fun p hp=>(List.mem_append.mp hp).elim (fun z=>I.pin p (List.mem_append_left _ z)) (h p),I.hok,I.len,I.tk⟩
theorem tI {N:List Str} (hN:N.Nodup) {i j:Nat} {x:Str} (a:N[i]? = some x) (b:N[j]? = some x):i = j:=by
 obtain ⟨h1,e1⟩:=List.getElem?_eq_some_iff.mp a
 obtain ⟨h2,e2⟩:=List.getElem?_eq_some_iff.mp b
 exact (List.getElem_inj hN).mp (e1.trans e2.symm)
theorem EB {M:Model} {A:Around} {E:Value -> Shared -> Prop} {i:Nat} {x:Str} {v:V} {u:Value} {Q:Unit -> Shared -> Prop} (I:Inv X pins σ H s) (hN:X.N.Nodup) (hi:X.N[i]? = some x) (hx:K3 X.env.scope x) (r:RelV v u)
  (h:∀ s',Inv X pins (σ.set i (some v)) H s' -> (∃ a,Heap.SameBut a s.heap s'.heap /\ (a = X.env.locals \/ X.env.cells.lookup x = some a)) -> Q () s') (hf:X.fn x = true \/ X.env.scope.names.lookup x = some .local:=by first | exact .inl rfl | exact .inr rfl | assumption):wpAny M A (storeName X.env x u) Q E s:=by
 obtain ⟨m,hn,hl⟩:=id I.loc
 have hcls:(X.env.scope.kind == .class || (X.env.scope.kind == .module && X.env.locals != X.env.globals)) = false:=by rw [I.ok.kind];rfl
 have hiσ:i < σ.length:=by rw [I.len];exact (List.getElem?_eq_some_iff.mp hi).1
 have cne:=I.cne
 have tracked:∀ {a:Addr} {h':Heap},(∃ o,s.heap.get? a = some o /\ H a = none) -> Heap.SameBut a s.heap h' -> HOk X.prog X.w H h':=fun {a h'} ha hs b ob e=>by
  obtain ⟨_,_,hfree⟩:=ha
  refine (I.hok b ob e).stay (fun c w' hc q=>(hs.2 c ?_).trans q) (fun _ q=>q) fun _ _ q=>q
  rintro rfl
  rcases hc with rfl | hc
  ·rw [hfree] at e;cases e
  ·rw [hfree] at hc;cases hc
 rcases hx with hk | hk
 ·refine wpAny_storeName_local hk hn (fun h' hn' hs=>?_) hcls
  obtain ⟨oL,_,_,hoL,_⟩:=id hn
  refine h _ ⟨I.ok,I.os,I.bare,⟨fun b o e n hb hx=>?_,fun b o e n hb hx=>?_,I.base.free,fun b o e hx=>?_,I.base.tups,I.base.frzs,I.base.tbls⟩,⟨_,hn',fun j y v' e1 e2 e3=>?_⟩,fun y c e=>?_,I.free,I.freeC,fun p hp=>?_,tracked ⟨oL,hoL,I.free⟩ hs,by simpa using I.len,Nat.le_succ_of_le I.tk⟩ ⟨_,hs,.inl rfl⟩
  ·exact (hs.2 b (Nat.ne_of_lt (Nat.lt_of_lt_of_le (Heap.lt_size e) I.ok.above))).trans (I.base.keep b o e n hb hx)
  ·obtain ⟨sl,e1⟩:=I.base.slot b o e n hb hx
   exact ⟨sl,(hs.2 b (Nat.ne_of_lt (Nat.lt_of_lt_of_le (Heap.lt_size e) I.ok.above))).trans e1⟩
  ·obtain ⟨o',e1⟩:=I.base.there b o e hx
   exact ⟨o',(hs.2 b (Nat.ne_of_lt (Nat.lt_of_lt_of_le (Heap.lt_size e) I.ok.above))).trans e1⟩
  ·by_cases hj:j = i
   ·subst hj
    rw [hi] at e1;cases e1
    rw [List.getElem?_set_self hiσ] at e2
    cases e2
    exact ⟨u,r,.inl ⟨hk,by simp⟩⟩
   ·rw [List.getElem?_set_ne (Ne.symm hj)] at e2
    obtain ⟨u',r',q⟩:=hl j y v' e1 e2 e3
    refine ⟨u',r',?_⟩
    rcases q with ⟨k,e⟩ | ⟨k,c,e,z⟩
    ·refine .inl ⟨k,?_⟩
     have:y ≠ x:=fun e=>hj (tI hN e1 (e ▸ hi))
     simp [this,e]
    ·exact .inr ⟨k,c,e,z.sameBut hs (cne y c e)⟩
  ·obtain ⟨w',z⟩:=I.cell y c e
   exact ⟨w',z.sameBut hs (cne y c e)⟩
  ·obtain ⟨e,n,ne,nf,d⟩:=I.pin p hp
   exact ⟨(hs.2 p.1 ne).trans e,n,ne,nf,d⟩
 ·have hfn:X.fn x = true:=by
   rcases hf with z | z
   ·exact z
   ·rw [z] at hk;cases hk
  obtain ⟨c,hc⟩:=I.ok.has x (.inl hk)
  obtain ⟨w',z⟩:=I.cell x c hc
  refine wpAny_storeName_cell I.ok.kind hk hc z (fun h' hc' hs=>?_)
  obtain ⟨oc,hoc,hocd⟩:=id z
  refine h { s with heap:=h' } ⟨I.ok,I.os,I.bare,⟨fun b o e n hb hx=>?_,fun b o e n hb hx=>?_,I.base.free,fun b o e hx=>?_,I.base.tups,I.base.frzs,I.base.tbls⟩,⟨m,hn.sameBut hs (Ne.symm (cne x c hc)),fun j y v' e1 e2 e3=>?_⟩,fun y c' e=>?_,I.free,I.freeC,fun p hp=>?_,tracked ⟨oc,hoc,I.freeC x c hc⟩ hs,by simpa using I.len,I.tk⟩ ⟨c,hs,.inr hc⟩
  ·exact (hs.2 b (Nat.ne_of_lt (Nat.lt_of_lt_of_le (Heap.lt_size e) (I.ok.cab x c hfn hc)))).trans (I.base.keep b o e n hb hx)
  ·obtain ⟨sl,e1⟩:=I.base.slot b o e n hb hx
   exact ⟨sl,(hs.2 b (Nat.ne_of_lt (Nat.lt_of_lt_of_le (Heap.lt_size e) (I.ok.cab x c hfn hc)))).trans e1⟩
  ·obtain ⟨o',e1⟩:=I.base.there b o e hx
   exact ⟨o',(hs.2 b (Nat.ne_of_lt (Nat.lt_of_lt_of_le (Heap.lt_size e) (I.ok.cab x c hfn hc)))).trans e1⟩
  ·by_cases hj:j = i
   ·subst hj
    rw [hi] at e1;cases e1
    rw [List.getElem?_set_self hiσ] at e2
    cases e2
    exact ⟨u,r,.inr ⟨.inl hk,c,hc,hc'⟩⟩
   ·rw [List.getElem?_set_ne (Ne.symm hj)] at e2
    obtain ⟨u',r',q⟩:=hl j y v' e1 e2 e3
    refine ⟨u',r',?_⟩
    rcases q with q | ⟨k,c',e,z'⟩
    ·exact .inl q
    ·refine .inr ⟨k,c',e,z'.sameBut hs ?_⟩
     rintro rfl
     exact hj (tI hN e1 (I.ok.inj _ _ _ e hc ▸ hi))
  ·by_cases hcc:c' = c
   ·subst hcc;exact ⟨_,hc'⟩
   ·obtain ⟨w2,z2⟩:=I.cell y c' e
    exact ⟨w2,z2.sameBut hs hcc⟩
  ·obtain ⟨e,n,ne,nf,d⟩:=I.pin p hp
   refine ⟨(hs.2 p.1 ?_).trans e,n,ne,nf,d⟩
   intro q
   rw [q,hoc] at e
   have q':oc = p.2:=Option.some.inj e
   exact d w' (by rw [<- q'];exact hocd)
theorem lK {M:Model} {A:Around} {E:Value -> Shared -> Prop} {i:Nat} {x:Str} {v:V} {u:Value} {Q:Unit -> Shared -> Prop} (I:Inv X pins σ H s) (hN:X.N.Nodup) (hi:X.N[i]? = some x) (hx:K3 X.env.scope x) (r:RelV v u)
  (h:∀ s',Inv X pins (σ.set i (some v)) H s' -> Q () s') (hf:X.fn x = true \/ X.env.scope.names.lookup x = some .local:=by first | exact .inl rfl | exact .inr rfl | assumption):wpAny M A (storeName X.env x u) Q E s:=
 EB I hN hi hx r (fun s' I' _=>h s' I') hf
theorem Inv.call' {s':Shared} {ch:List Addr} (I:Inv X pins σ H s) (ho:s'.os = s.os) (u:Un (wZ X.stack) ch H H' s.heap s'.heap) (hok:HOk X.prog X.w H' s'.heap) (hg:AllBare s'.gens)
  (hch:∀ b ∈ ch,(b ∈ X.ex \/ X.s₀.heap.objs.size <= b) /\ b ≠ X.env.locals /\ (∀ x c,X.env.cells.lookup x = some c -> c ≠ b) /\ ∀ p ∈ X.pn ++ pins,p.1 ≠ b) (ht:s.toks <= s'.toks \/ NN <= s'.toks:=by first | assumption | exact .inl (by lia) | exact .inl (by dsimp only;lia) | exact .inr (by assumption) | exact .inr (L2.Inv.tk (by assumption)) | exact .inr (Nat.le_succ_of_le (by assumption)) | exact .inr (by dsimp only at *;lia)):Inv X pins σ H' s':=by
 obtain ⟨h',g',d',t',o'⟩:=s'
 have e:o' = s.os:=ho
 subst e
 exact I.call (g':=g') (t':=t') (d':=d') u hok hg hch ht
end
noncomputable abbrev XK:=Value -> Option Addr -> Hp -> Prop
noncomputable abbrev St:=List (Option V)
noncomputable abbrev VK:=V -> Hp -> Prop
noncomputable abbrev TE:=St -> Hp -> VK -> Prop
noncomputable abbrev TT:=St -> Hp -> (Bool -> Hp -> Prop) -> Prop
noncomputable abbrev TA:=St -> Hp -> (List V -> Hp -> Prop) -> Prop
structure Ends where
 nx:St -> Hp -> Prop
 rt:VK
 bk:St -> Hp -> Prop:=fun _ _=>False
 ct:St -> Hp -> Prop:=fun _ _=>False
noncomputable abbrev TS:=Ends -> St -> Hp -> Prop
def EP (X:Cx) (pins:List (Addr × Obj)) (σ:St) (Q:VK) (u:Value) (s':Shared):Prop:=∃ v H',Inv X pins σ H' s' /\ RelV v u /\ Q v H'
def TP (X:Cx) (pins:List (Addr × Obj)) (σ:St) (Q:Bool -> Hp -> Prop) (b:Bool) (s':Shared):Prop:=∃ H',Inv X pins σ H' s' /\ Q b H'
def AP (X:Cx) (pins:List (Addr × Obj)) (σ:St) (Q:List V -> Hp -> Prop) (us:List Value) (s':Shared):Prop:=∃ vs H',Inv X pins σ H' s' /\ Vals vs us /\ Q vs H'
def SP (X:Cx) (pins:List (Addr × Obj)) (D:Ends) (f:Flow) (s':Shared):Prop:=
 match f with
 | .next=>∃ σ' H',Inv X pins σ' H' s' /\ D.nx σ' H'
 | .brk=>∃ σ' H',Inv X pins σ' H' s' /\ D.bk σ' H'
 | .cont=>∃ σ' H',Inv X pins σ' H' s' /\ D.ct σ' H'
 | .ret u=>∃ v σ' H',Inv X pins σ' H' s' /\ RelV v u /\ D.rt v H'
def PE (X:Cx) (e:Expr) (t:TE):Prop:=
 ∀ (pins:List (Addr × Obj)) (s:Shared) (σ:St) (H:Hp) (Q:VK),Inv X pins σ H s -> t σ H Q -> wpAny (model X.prog X.w) X.A (eval e X.env) (EP X pins σ Q) X.xe s
def PT (X:Cx) (e:Expr) (t:TT):Prop:=
 ∀ (pins:List (Addr × Obj)) (s:Shared) (σ:St) (H:Hp) (Q:Bool -> Hp -> Prop),Inv X pins σ H s -> t σ H Q -> wpAny (model X.prog X.w) X.A (isTrue e X.env (eval e X.env)) (TP X pins σ Q) X.xe s
def PW (X:Cx) (e:Expr) (t:TT):Prop:=
 ∀ (whole:Sem Value) (pins:List (Addr × Obj)) (s:Shared) (σ:St) (H:Hp) (Q:Bool -> Hp -> Prop),Inv X pins σ H s -> t σ H Q -> wpAny (model X.prog X.w) X.A (isTrue e X.env whole) (TP X pins σ Q) X.xe s
theorem PW.pt {X:Cx} {e:Expr} {t:TT} (h:PW X e t):PT X e t:=h _
def PA (X:Cx) (es:List Expr) (t:TA):Prop:=
 ∀ (pos:Pos) (pins:List (Addr × Obj)) (s:Shared) (σ:St) (H:Hp) (Q:List V -> Hp -> Prop),Inv X pins σ H s -> t σ H Q -> wpAny (model X.prog X.w) X.A (spliced (backTo pos (starEach es X.env))) (AP X pins σ Q) X.xe s
def PS (X:Cx) (st:Stmt) (t:TS):Prop:=
 ∀ (pins:List (Addr × Obj)) (s:Shared) (σ:St) (H:Hp) (D:Ends),Inv X pins σ H s -> t D σ H -> wpAny (model X.prog X.w) X.A (exec st X.env) (SP X pins D) X.xe s
def PSs (X:Cx) (st:List Stmt) (t:TS):Prop:=
 ∀ (pins:List (Addr × Obj)) (s:Shared) (σ:St) (H:Hp) (D:Ends),Inv X pins σ H s -> t D σ H -> wpAny (model X.prog X.w) X.A (execs st X.env) (SP X pins D) X.xe s
theorem eE {α:Type} {t:Sem α} {Q Q':α -> Shared -> Prop} {M:Model} {A:Around} {E:Value -> Shared -> Prop} {s:Shared} (h:wpAny M A t Q E s) (hQ:∀ a s,Q a s -> Q' a s):wpAny M A t Q' E s:=wpAny_mono h hQ fun _ _ x=>x
section
variable {X:Cx}
noncomputable def ul (i:Nat):TE:=fun σ H Q=>∃ v,σ[i]? = some (some v) /\ Q v H
noncomputable def tC (v:V):TE:=fun _ H Q=>Q v H
theorem Kl {i:Nat} {x:Str} {pos:Pos} (hN:X.N[i]? = some x) (hv:MJ X.env.scope x) (hd:(x == ("__debug__" : Str)) = false:=by decide) (hcd:(x == ("__classdict__" : Str)) = false:=by decide):PE X (.Name x pos) (ul i):=by
 intro pins s σ H Q I h
 obtain ⟨v,e,h⟩:=h
 obtain ⟨m,hn,hl⟩:=I.loc
 obtain ⟨u,r,l⟩:=hl i x v hN e hv
 have fin:EP X pins σ Q u s:=⟨v,H,I,r,h⟩
 rcases l with ⟨hk,hm⟩ | ⟨hk,c,hc,hcell⟩
 ·exact wpAny_Name (wpAny_loadName_local I.ok.kind hk hn hm fin) hd
 ·rcases hk with hk | hk
  ·exact wpAny_Name (wpAny_loadName_cell I.ok.kind hk hc hcell fin) hd
  ·exact wpAny_Name (wpAny_loadName_free I.ok.kind hk hc hcell fin hcd) hd
theorem am {i j pos}:PE X (.Constant (.int i) j pos) (tC (.int i)):=fun _ _ _ H _ I h=>wpAny_Constant_int ⟨.int i,H,I.tok _,⟨_,rfl⟩,h⟩
theorem fD {b j pos}:PE X (.Constant (.bool b) j pos) (tC (.bl b)):=fun _ _ _ H _ I h=>Constant_bool ⟨.bl b,H,I,rfl,h⟩
theorem nK {j pos}:PE X (.Constant .none j pos) (tC .non):=fun _ _ _ H _ I h=>Constant_none ⟨.non,H,I,rfl,h⟩
theorem cB {x j pos}:PE X (.Constant (.str x) j pos) (tC (.str x)):=fun _ _ _ H _ I h=>Calls.Constant_str ⟨.str x,H,I.tok _,⟨_,rfl⟩,h⟩
def Gl (X:Cx) (x:Str):Prop:=X.env.kindOf x = some .globalImplicit
theorem ki {E:Value -> Shared -> Prop} {pins:List (Addr × Obj)} {s:Shared} {σ:St} {H:Hp} {x:Str} {u:Value} {pos:Pos} {Q:Value -> Shared -> Prop} (I:Inv X pins σ H s) (hg:Gl X x) (hm:X.mg x = some u) (h:Q u s)
  (hd:(x == ("__debug__" : Str)) = false:=by decide):wpAny (model X.prog X.w) X.A (eval (.Name x pos) X.env) Q E s:=
 Calls.Name_function_global I.ok.kind hg (Calls.loadGlobal_global (by rw [I.ok.glob];exact I.mod.glob.keeps I.bk) hm h) hd
theorem pN {E:Value -> Shared -> Prop} {pins:List (Addr × Obj)} {s:Shared} {σ:St} {H:Hp} {x:Str} {u:Value} {pos:Pos} {Q:Value -> Shared -> Prop} (I:Inv X pins σ H s) (hg:Gl X x) (hm:X.mg x = none) (hv:bootBuiltins x = some u) (h:Q u s)
  (hn:x ≠ "__name__" := by decide) (hd:(x == ("__debug__" : Str)) = false:=by decide):wpAny (model X.prog X.w) X.A (eval (.Name x pos) X.env) Q E s:=by
 obtain ⟨mb,h1,h2⟩:=I.mod.blt
 exact Calls.Name_function_global I.ok.kind hg (Calls.loadGlobal_builtin (by rw [I.ok.glob];exact I.mod.glob.keeps I.bk) hm (by rw [I.ok.blt];exact h1.keeps I.bk) ((h2 x hn).trans hv) h) hd
theorem me {x:Str} {v:V} {u:Value} {pos:Pos} (hg:Gl X x) (hm:X.mg x = some u) (r:RelV v u) (hd:(x == ("__debug__" : Str)) = false:=by decide):PE X (.Name x pos) (tC v):=
 fun _ _ _ H _ I h=>ki I hg hm ⟨v,H,I,r,h⟩ hd
theorem Cw {x:Str} {v:V} {u:Value} {pos:Pos} (hg:Gl X x) (hm:X.mg x = none) (hv:bootBuiltins x = some u) (r:RelV v u) (hn:x ≠ "__name__" := by decide) (hd:(x == ("__debug__" : Str)) = false:=by decide):PE X (.Name x pos) (tC v):=
 fun _ _ _ H _ I h=>pN I hg hm hv ⟨v,H,I,r,h⟩ hn hd
variable {a b:Expr} {ta tb:TE} {pos:Pos}
def PC (X:Cx) (op:CmpOp) (a b:Expr) (t:TE):Prop:=
 ∀ (pins:List (Addr × Obj)) (s:Shared) (σ:St) (H:Hp) (Q:VK),Inv X pins σ H s -> t σ H Q ->
  wpAny (model X.prog X.w) X.A (eval a X.env) (fun v s₁=>wpAny (model X.prog X.w) X.A (eval b X.env) (fun u s₂=>wpAny (model X.prog X.w) X.A (compareOp op v u) (EP X pins σ Q) X.xe s₂) X.xe s₁) X.xe s
noncomputable def tB (t:TE):TT:=fun σ H Q=>t σ H fun x H1=>∃ c,x = .bl c /\ Q c H1
variable {tA tB':TT} {eA:List Expr}
noncomputable def Mj (t u:TT):TT:=fun σ H Q=>t σ H fun c H1=>if c = true then u σ H1 Q else Q false H1
noncomputable def Ou (t u:TT):TT:=fun σ H Q=>t σ H fun c H1=>if c = true then Q true H1 else u σ H1 Q
noncomputable def Mo (t:TT):TT:=fun σ H Q=>t σ H fun c H1=>Q (!c) H1
theorem oT (ha:PT X a tA):PW X (.BoolOp .And [a] pos) tA:=by
 intro wh pins s σ H Q I h
 refine isTrue_and (eE (ha pins s σ H Q I h) fun c s1 e=>?_)
 cases c with
 | true=>exact isTrue_and_nil e
 | false=>exact e
theorem xG (ha:PT X a tA):PW X (.BoolOp .Or [a] pos) tA:=by
 intro wh pins s σ H Q I h
 refine isTrue_or (eE (ha pins s σ H Q I h) fun c s1 e=>?_)
 cases c with
 | false=>exact isTrue_or_nil e
 | true=>exact e
theorem t0 (ha:PT X a tA) (hb:PW X (.BoolOp .And (b :: eA) pos) tB'):PW X (.BoolOp .And (a :: b :: eA) pos) (Mj tA tB'):=by
 intro wh pins s σ H Q I h
 refine isTrue_and (eE (ha pins s σ H _ I h) fun c s1 hpt9=>?_)
 obtain ⟨H1,I1,q1⟩:=hpt9
 cases c with
 | true=>exact hb wh pins s1 σ H1 Q I1 q1
 | false=>exact ⟨H1,I1,q1⟩
theorem zE (ha:PT X a tA) (hb:PW X (.BoolOp .Or (b :: eA) pos) tB'):PW X (.BoolOp .Or (a :: b :: eA) pos) (Ou tA tB'):=by
 intro wh pins s σ H Q I h
 refine isTrue_or (eE (ha pins s σ H _ I h) fun c s1 hpt9=>?_)
 obtain ⟨H1,I1,q1⟩:=hpt9
 cases c with
 | true=>exact ⟨H1,I1,q1⟩
 | false=>exact hb wh pins s1 σ H1 Q I1 q1
theorem xE (ha:PT X a tA):PT X (.UnaryOp .Not a pos) (Mo tA):=by
 intro pins s σ H Q I h
 exact isTrue_not (ha pins s σ H (fun c H1=>Q (!c) H1) I h)
noncomputable def Ju (ta tb:TE):TE:=fun σ H Q=>ta σ H fun x H1=>∃ c,x = .bl c /\ if c = true then tb σ H1 Q else Q (.bl false) H1
theorem F3 {op} {t:TE} (h:PE X a t):PE X (.BoolOp op [a] pos) t:=fun pins s σ H Q I hw=>BoolOp_one (h pins s σ H Q I hw)
theorem xx (ha:PE X a ta) (hb:PE X (.BoolOp .And (b :: eA) pos) tb):PE X (.BoolOp .And (a :: b :: eA) pos) (Ju ta tb):=by
 intro pins s σ H Q I h
 refine BoolOp_and (eE (ha pins s σ H _ I h) fun v s1 hpt9=>?_)
 obtain ⟨x,H1,I1,r1,q1⟩:=hpt9
 obtain ⟨c,rfl,q1⟩:=q1
 cases r1
 refine wpAny_truthy_bool ?_
 cases c with
 | true=>exact hb pins s1 σ H1 Q I1 q1
 | false=>exact ⟨.bl false,H1,I1,rfl,q1⟩
noncomputable def Ot (t:TT) (ta tb:TE):TE:=fun σ H Q=>t σ H fun c H1=>if c = true then ta σ H1 Q else tb σ H1 Q
theorem F2 {c:Expr} (hc:PT X c tA) (ha:PE X a ta) (hb:PE X b tb):PE X (.IfExp c a b pos) (Ot tA ta tb):=by
 intro pins s σ H Q I h
 refine wpAny_IfExp (eE (hc pins s σ H _ I h) fun d s1 hpt9=>?_)
 obtain ⟨H1,I1,q1⟩:=hpt9
 cases d with
 | true=>exact ha pins s1 σ H1 Q I1 q1
 | false=>exact hb pins s1 σ H1 Q I1 q1
end
def SqL (K:W.Frag) (H:Hp) (a:Addr) (xs:List V):Prop:=
 Rd H a (.lst xs) \/
  ∃ (o:Obj) (its:Array Value) (n:Nat),K.lookup a = some o /\ o.cls = .type "list" /\ o.dict = none /\ o.data = .seq its n /\ its.size <= sizeLine /\ Vals xs its.toList
def SqT (K:W.Frag) (H:Hp) (a:Addr) (xs:List V):Prop:=
 Rd H a (.tup xs) \/
  ∃ (o:Obj) (its:Array Value) (n:Nat),K.lookup a = some o /\ o.cls = .type "tuple" /\ o.data = .seq its n /\ its.size <= sizeLine /\ Vals xs its.toList
noncomputable def Nb:Value -> Option V
 | .none=>some .non
 | .bool b=>some (.bl b)
 | .int i _=>some (.int i)
 | .str x _=>some (.str x)
 | .bytes b _=>some (.byt b)
 | .float b _=>some (.flt b)
 | .ref a=>some (.ref a)
 | .type n=>some (.ty n)
 | _=>none
theorem RelV.abs {x:V} {u:Value} (r:RelV x u):Nb u = some x:=by
 cases x with
 | non=>cases r;rfl
 | bl _=>cases r;rfl
 | int _=>obtain ⟨t,rfl⟩:=r;rfl
 | str _=>obtain ⟨t,rfl⟩:=r;rfl
 | byt _=>obtain ⟨t,rfl⟩:=r;rfl
 | flt _=>obtain ⟨t,rfl⟩:=r;rfl
 | ref _=>cases r;rfl
 | ty _=>cases r;rfl
theorem RelV.inj {x y:V} {u:Value} (r:RelV x u) (q:RelV y u):x = y:=Option.some.inj (r.abs.symm.trans q.abs)
theorem Vals.inj {xs ys:List V} {us:List Value} (h:Vals xs us) (k:Vals ys us):xs = ys:=by
 induction h generalizing ys with
 | nil=>cases k;rfl
 | cons r t ih=>
  cases k with
  | cons r' t'=>rw [r.inj r',ih t']
section
variable {X:Cx} {pins:List (Addr × Obj)} {σ:St} {H:Hp} {s:Shared} {a:Addr} {xs ys:List V}
theorem SqL.of {K:W.Frag} (h:H a = some (.lst xs)):SqL K H a xs:=.inl (.inl h)
theorem SqT.of {K:W.Frag} (h:H a = some (.tup xs)):SqT K H a xs:=.inl (.inl h)
theorem Inv.list (I:Inv X pins σ H s) (h:SqL X.K H a xs):∃ its:List Value,Vals xs its /\ PlainL s.heap a its.toArray /\ xs.length <= sizeLine:=by
 rcases h with h | ⟨o,its,n,hk,hc,hd,hs,hz,r⟩
 ·obtain ⟨z,its,n,r,e⟩:=h.ok I.hok
  exact ⟨its,r,⟨_,n,e,rfl,rfl,rfl⟩,z⟩
 ·refine ⟨its.toList,r,⟨o,n,I.kIn a o hk,hc,hd,by simpa using hs⟩,?_⟩
  have e:=r.length
  simp only [Array.length_toList] at e
  lia
theorem Inv.tuple (I:Inv X pins σ H s) (h:SqT X.K H a xs):∃ its:List Value,Vals xs its /\ IsTup s.heap a its.toArray /\ xs.length <= sizeLine:=by
 rcases h with h | ⟨o,its,n,hk,hc,hs,hz,r⟩
 ·obtain ⟨z,its,r,p⟩:=h.ok I.hok
  exact ⟨its,r,p,z⟩
 ·refine ⟨its.toList,r,⟨o,I.kIn a o hk,hc,n,by simpa using hs⟩,?_⟩
  have e:=r.length
  simp only [Array.length_toList] at e
  lia
theorem Inv.list_inj (I:Inv X pins σ H s) (h:SqL X.K H a xs) (h':SqL X.K H a ys):xs = ys:=by
 obtain ⟨its,r,⟨o,n,e,_,_,d⟩,_⟩:=I.list h
 obtain ⟨its',r',⟨o',n',e',_,_,d'⟩,_⟩:=I.list h'
 rw [e] at e';cases e'
 rw [d] at d'
 injection d' with d1 _
 have:its = its':=by simpa using congrArg Array.toList d1
 subst this
 exact r.inj r'
theorem Inv.tuple_inj (I:Inv X pins σ H s) (h:SqT X.K H a xs) (h':SqT X.K H a ys):xs = ys:=by
 obtain ⟨its,r,⟨o,e,_,n,d⟩,_⟩:=I.tuple h
 obtain ⟨its',r',⟨o',e',_,n',d'⟩,_⟩:=I.tuple h'
 rw [e] at e';cases e'
 rw [d] at d'
 injection d' with d1 _
 have:its = its':=by simpa using congrArg Array.toList d1
 subst this
 exact r.inj r'
end
noncomputable abbrev Cx.wish (X:Cx) (E:Value -> Shared -> Prop):Cx:={ X with xe:=E }
noncomputable abbrev Cx.nox (X:Cx):Cx:=X.wish fun _ _=>False
theorem Cx.Ok.wish {X:Cx} (ok:X.Ok) (E:Value -> Shared -> Prop):(X.wish E).Ok:=
 ⟨ok.mod,ok.kind,ok.glob,ok.blt,ok.above,ok.inj,ok.has,ok.cab,ok.hd,ok.frames,ok.stk,ok.exf,ok.bs,ok.bsz,ok.noex,ok.exfs,ok.funs,ok.frf⟩
theorem Cx.Ok.unwish {X:Cx} {E:Value -> Shared -> Prop} (ok:(X.wish E).Ok):X.Ok:=
 ⟨ok.mod,ok.kind,ok.glob,ok.blt,ok.above,ok.inj,ok.has,ok.cab,ok.hd,ok.frames,ok.stk,ok.exf,ok.bs,ok.bsz,ok.noex,ok.exfs,ok.funs,ok.frf⟩
section
variable {X:Cx} {pins:List (Addr × Obj)} {σ:St} {H:Hp} {s:Shared} {E:Value -> Shared -> Prop}
theorem Inv.wish (I:Inv X pins σ H s) (E:Value -> Shared -> Prop):Inv (X.wish E) pins σ H s:=⟨I.ok.wish E,I.os,I.bare,I.base,I.loc,I.cell,I.free,I.freeC,I.pin,I.hok,I.len,I.tk⟩
theorem Inv.unwish (I:Inv (X.wish E) pins σ H s):Inv X pins σ H s:=⟨I.ok.unwish,I.os,I.bare,I.base,I.loc,I.cell,I.free,I.freeC,I.pin,I.hok,I.len,I.tk⟩
theorem SP.unwish {D:Ends} {f:Flow} {s':Shared} (h:SP (X.wish E) pins D f s'):SP X pins D f s':=by
 cases f with
 | next=>obtain ⟨σ',H',I,q⟩:=h;exact ⟨σ',H',I.unwish,q⟩
 | brk=>obtain ⟨σ',H',I,q⟩:=h;exact ⟨σ',H',I.unwish,q⟩
 | cont=>obtain ⟨σ',H',I,q⟩:=h;exact ⟨σ',H',I.unwish,q⟩
 | ret u=>obtain ⟨v,σ',H',I,r,q⟩:=h;exact ⟨v,σ',H',I.unwish,r,q⟩
theorem PSs.nox {st:List Stmt} {t:TS} (h:PSs X.nox st t):PSs X st t:=fun pins s σ H D I hw=>
 wpAny_mono (h pins s σ H D (I.wish _) hw) (fun _ _ q=>q.unwish) fun _ _ z=>False.elim z
end
section
variable {X:Cx} {st:Stmt} {eA:List Stmt} {t u:TS} {e:Expr} {te:TE} {pos:Pos}
noncomputable def C0:TS:=fun D σ H=>D.nx σ H
noncomputable def IR (t u:TS):TS:=fun D σ H=>t { D with nx:=u D } σ H
theorem bI:PSs X [] C0:=fun _ _ σ H _ I h=>wpAny_execs_nil ⟨σ,H,I,h⟩
theorem ap (h1:PS X st t) (h2:PSs X eA u):PSs X (st :: eA) (IR t u):=by
 intro pins s σ H D I h
 refine wpAny_execs_cons (eE (h1 pins s σ H { D with nx:=u D } I h) fun f s1 q=>?_)
 cases f with
 | next=>
  obtain ⟨σ',H',I',q⟩:=q
  exact h2 pins s1 σ' H' D I' q
 | ret v=>exact q
 | brk=>exact q
 | cont=>exact q
theorem aA (h1:PS X st t):PSs X [st] t:=by
 intro pins s σ H D I h
 refine wpAny_execs_cons (eE (h1 pins s σ H D I h) fun f s1 q=>?_)
 cases f with
 | next=>exact wpAny_execs_nil q
 | ret v=>exact q
 | brk=>exact q
 | cont=>exact q
theorem Inv.quiet {pins:List (Addr × Obj)} {σ:St} {H:Hp} {s:Shared} (I:Inv X pins σ H s):interactive X.env = false:=by simp [interactive,I.ok.kind]
noncomputable def CZ (te:TE):TS:=fun D σ H=>te σ H fun _ H1=>D.nx σ H1
theorem et (he:PE X e te) (hs:swapsWith e none pos.line X.env = pure false:=by rfl):PS X (.Expr e pos) (CZ te):=by
 intro pins s σ H D I h
 exact wpAny_Expr_any (eE (he pins s σ H _ I h) fun v s1 ⟨x,H1,I1,r1,q1⟩=>⟨σ,H1,I1,q1⟩) I.quiet hs
noncomputable def IQ (te:TE):TS:=fun D σ H=>te σ H D.rt
theorem bu (he:PE X e te):PS X (.Return (some e) pos) (IQ te):=by
 intro pins s σ H D I h
 exact wpAny_Return_some (eE (he pins s σ H _ I h) fun v s1 ⟨x,H1,I1,r1,q1⟩=>⟨x,σ,H1,I1,r1,q1⟩)
noncomputable def KN (c:TT) (t u:TS):TS:=fun D σ H=>c σ H fun b H1=>if b = true then t D σ H1 else u D σ H1
theorem dc {c:Expr} {a b:List Stmt} {tc:TT} (hc:PT X c tc) (ha:PSs X a t) (hb:PSs X b u):PS X (.If c a b pos) (KN tc t u):=by
 intro pins s σ H D I h
 refine wpAny_If (eE (hc pins s σ H _ I h) fun d s1 hpt9=>?_)
 obtain ⟨H1,I1,q1⟩:=hpt9
 cases d with
 | true=>exact ha pins s1 σ H1 D I1 q1
 | false=>exact hb pins s1 σ H1 D I1 q1
noncomputable def BG:TS:=fun _ _ _=>False
theorem zC:PS X st BG:=fun _ _ _ _ _ _ h=>h.elim
end
noncomputable abbrev TG:=V -> St -> Hp -> (St -> Hp -> Prop) -> Prop
noncomputable abbrev De:=List V -> St -> Hp -> (St -> Hp -> Prop) -> Prop
def PG (X:Cx) (target:Expr) (t:TG):Prop:=
 ∀ (pins:List (Addr × Obj)) (s:Shared) (σ:St) (H:Hp) (v:V) (u:Value) (Q:St -> Hp -> Prop),Inv X pins σ H s -> RelV v u -> t v σ H Q ->
  wpAny (model X.prog X.w) X.A (assign target X.env u) (fun _ s'=>∃ σ' H',Inv X pins σ' H' s' /\ Q σ' H') X.xe s
def MD (X:Cx) (ts:List Expr) (t:De):Prop:=
 ∀ (pins:List (Addr × Obj)) (s:Shared) (σ:St) (H:Hp) (vs:List V) (us:List Value) (Q:St -> Hp -> Prop),Inv X pins σ H s -> Vals vs us -> t vs σ H Q ->
  wpAny (model X.prog X.w) X.A (assignInOrder ((assignEach ts X.env).map (·.2)) us) (fun _ s'=>∃ σ' H',Inv X pins σ' H' s' /\ Q σ' H') X.xe s
noncomputable abbrev JJ:=V -> V -> V -> Hp -> (Hp -> Prop) -> Prop
def Lh (X:Cx) (t:JJ):Prop:=
 ∀ (pins:List (Addr × Obj)) (s:Shared) (σ:St) (H:Hp) (o i v:V) (ov iv u:Value) (Q:Hp -> Prop),Inv X pins σ H s -> RelV o ov -> RelV i iv -> RelV v u -> t o i v H Q ->
  wpAny (model X.prog X.w) X.A (setItem ov iv u) (fun _ s'=>∃ H',Inv X pins σ H' s' /\ Q H') X.xe s
noncomputable abbrev Ll:=V -> V -> Hp -> VK -> Prop
def N8 (X:Cx) (op:Operator) (t:Ll):Prop:=
 ∀ (pins:List (Addr × Obj)) (s:Shared) (σ:St) (H:Hp) (x y:V) (v u:Value) (Q:VK),Inv X pins σ H s -> RelV x v -> RelV y u -> t x y H Q ->
  wpAny (model X.prog X.w) X.A (inplaceOp op v u) (EP X pins σ Q) X.xe s
section
variable {X:Cx} {pos:Pos}
noncomputable def jE (i:Nat):TG:=fun v σ H Q=>Q (σ.set i (some v)) H
theorem aV {i:Nat} {x:Str} (hN:X.N.Nodup) (hi:X.N[i]? = some x) (hx:K3 X.env.scope x) (hf:X.fn x = true \/ X.env.scope.names.lookup x = some .local:=by first | exact .inl rfl | exact .inr rfl | assumption):PG X (.Name x pos) (jE i):=by
 intro pins s σ H v u Q I r h
 exact wpAny_assign_Name (lK I hN hi hx r (fun s' I'=>⟨_,H,I',h⟩) hf)
noncomputable def JW:De:=fun vs σ H Q=>vs = [] /\ Q σ H
noncomputable def Fo (t:TG) (u:De):De:=fun vs σ H Q=>∃ v r,vs = v :: r /\ t v σ H fun σ' H'=>u r σ' H' Q
theorem gc:MD X [] JW:=by
 intro pins s σ H vs us Q I r h
 obtain ⟨e,h⟩:=h
 subst e
 cases r
 exact assignInOrder_nil ⟨σ,H,I,h⟩
theorem bj {e:Expr} {es:List Expr} {t:TG} {u:De} (h1:PG X e t) (h2:MD X es u)
  (hs:(assignEach (e :: es) X.env).map (·.2) = assign e X.env :: (assignEach es X.env).map (·.2):=by rfl):MD X (e :: es) (Fo t u):=by
 intro pins s σ H vs us Q I r h
 obtain ⟨v,vr,e1,h⟩:=h
 subst e1
 cases r with
 | cons r rr=>
  rw [hs]
  refine assignInOrder_cons (eE (h1 pins s σ H _ _ _ I r h) fun _ s1 hpt9=>?_)
  obtain ⟨σ1,H1,I1,q1⟩:=hpt9
  exact h2 pins s1 σ1 H1 _ _ Q I1 rr q1
noncomputable def JX (K:W.Frag) (n:Nat) (t:De):TG:=fun v σ H Q=>∃ a xs,v = .ref a /\ SqT K H a xs /\ xs.length = n /\ t xs σ H Q
theorem ju {es:List Expr} {k:Nat} {t:De} {n:Nat} (hc:X.calm = true) (h:MD X es t)
  (hn:(assignEach es X.env).length = n:=by rfl) (hst:(assignEach es X.env).findIdx? (·.1) = none:=by rfl):PG X (.Tuple es k pos) (JX X.K n t):=by
 intro pins s σ H v u Q I r hw
 obtain ⟨a,xs,e1,hq,hl,hw⟩:=hw
 subst e1
 cases r
 obtain ⟨its,rv,ht,hz⟩:=I.tuple hq
 refine assign_Tuple_tuple (I.ok.hd hc) ht (by simp [hn,<- hl,rv.length]) hst fun h' hx=>?_
 have I1:Inv X pins σ H { s with heap:=h' }:=I.kept (t':=s.toks) fun b o e=>hx b o (Nat.ne_of_lt (Heap.lt_size e)) e
 exact h pins _ σ H xs _ Q I1 (by simpa using rv) hw
noncomputable def LA (to ti:TE) (t:JJ):TG:=fun v σ H Q=>to σ H fun o H1=>ti σ H1 fun i H2=>t o i v H2 fun H3=>Q σ H3
theorem Bj {o i:Expr} {to ti:TE} {t:JJ} (ho:PE X o to) (hi:PE X i ti) (hs:Lh X t)
  (ha:∀ v,assign (.Subscript o i pos) X.env v = (do
   let ov ← holding [v] (eval o X.env)
   let iv ← holding [v,ov] (eval i X.env)
   standAt pos
   holding [v,ov,iv] (setItem ov iv v)
   release [v,ov,iv] []):=by intro _;rfl):PG X (.Subscript o i pos) (LA to ti t):=by
 intro pins s σ H v u Q I r h
 rw [ha]
 refine wpAny_bind (wpAny_holding (eE (ho pins s σ H _ I h) fun ov s1 hpt9=>?_))
 obtain ⟨x,H1,I1,r1,q1⟩:=hpt9
 refine wpAny_bind (wpAny_holding (eE (hi pins s1 σ H1 _ I1 q1) fun iv s2 hpt9=>?_))
 obtain ⟨y,H2,I2,r2,q2⟩:=hpt9
 refine wpAny_bind (wpAny_standAt (wpAny_bind (wpAny_holding (eE (hs pins s2 σ H2 x y v ov iv u _ I2 r1 r2 r q2) fun _ s3 hpt9=>?_))))
 obtain ⟨H3,I3,q3⟩:=hpt9
 exact wpAny_release ⟨σ,H3,I3,q3⟩
noncomputable def uZ (te:TE) (g:TG):TS:=fun D σ H=>te σ H fun x H1=>g x σ H1 D.nx
theorem xD {tg e:Expr} {te:TE} {g:TG} (he:PE X e te) (hg:PG X tg g) (hs:swapsWithSole [tg] e pos.line X.env = pure false:=by rfl) (hw:swappedStores [tg] e X.env = pure none:=by rfl)
  (h1:(assignEach [tg] X.env).map (·.2) = [assign tg X.env]:=by rfl):PS X (.Assign [tg] e pos) (uZ te g):=by
 intro pins s σ H D I h
 refine wpAny_Assign_stores (eE (he pins s σ H _ I h) fun v s1 hpt9=>?_) hs hw
 obtain ⟨x,H1,I1,r1,q1⟩:=hpt9
 rw [h1]
 exact eE (hg pins s1 σ H1 x v _ I1 r1 q1) fun _ s2 q=>q
theorem aO {i:Nat} {x:Str} {e:Expr} {te:TE} {pos':Pos} (hN:X.N.Nodup) (hi:X.N[i]? = some x) (hx:K3 X.env.scope x) (he:PE X e te) (hs:swapsWith e (some (.Name x pos')) pos.line X.env = pure false:=by rfl) (hf:X.fn x = true \/ X.env.scope.names.lookup x = some .local:=by first | exact .inl rfl | exact .inr rfl | assumption) :
  PS X (.Assign [.Name x pos'] e pos) (uZ te (jE i)):=by
 intro pins s σ H D I h
 refine wpAny_Assign_Name (eE (he pins s σ H _ I h) fun v s1 hpt9=>?_) hs
 obtain ⟨y,H1,I1,r1,q1⟩:=hpt9
 exact lK I1 hN hi hx r1 (fun s2 I2=>⟨_,H1,I2,q1⟩) hf
noncomputable def Ml (i:Nat) (te:TE) (ti:Ll):TS:=fun D σ H=>∃ x,σ[i]? = some (some x) /\ te σ H fun y H1=>ti x y H1 fun z H2=>D.nx (σ.set i (some z)) H2
theorem Km {i:Nat} {x:Str} {e:Expr} {te:TE} {op:Operator} {ti:Ll} {pos':Pos} (hN:X.N.Nodup) (hi:X.N[i]? = some x) (hx:K3 X.env.scope x) (he:PE X e te) (ho:N8 X op ti) (hf:X.fn x = true \/ X.env.scope.names.lookup x = some .local:=by first | exact .inl rfl | exact .inr rfl | assumption) :
  PS X (.AugAssign (.Name x pos') op e pos) (Ml i te ti):=by
 intro pins s σ H D I h
 obtain ⟨v,e1,h⟩:=h
 obtain ⟨m,hn,hl⟩:=I.loc
 have vis:MJ X.env.scope x:=by rcases hx with k | k;exact .inl k;exact .inr (.inl k)
 obtain ⟨u,r,l⟩:=hl i x v hi e1 vis
 refine wpAny_AugAssign_Name ?_
 have go:wpAny (model X.prog X.w) X.A (eval e X.env) (fun w s₂=>wpAny (model X.prog X.w) X.A (inplaceOp op u w) (fun r s₃=>wpAny (model X.prog X.w) X.A (storeName X.env x r) (fun _=>SP X pins D .next) X.xe s₃) X.xe s₂) X.xe s:=by
  refine eE (he pins s σ H _ I h) fun w s1 hpt9=>?_
  obtain ⟨y,H1,I1,r1,q1⟩:=hpt9
  refine eE (ho pins s1 σ H1 v y u w _ I1 r r1 q1) fun z s2 hpt9=>?_
  obtain ⟨zv,H2,I2,r2,q2⟩:=hpt9
  exact lK I2 hN hi hx r2 (fun s3 I3=>⟨_,H2,I3,q2⟩) hf
 rcases l with ⟨hk,hm⟩ | ⟨hk,c,hc,hcell⟩
 ·exact wpAny_loadName_local I.ok.kind hk hn hm go
 ·rcases hk with hk | hk
  ·exact wpAny_loadName_cell I.ok.kind hk hc hcell go
  ·rcases hx with k | k
   ·have:X.env.scope.names.lookup x = some .free:=hk
    rw [k] at this;cases this
   ·have:X.env.scope.names.lookup x = some .free:=hk
    rw [k] at this;cases this
noncomputable def Ol (f:Int -> Int -> Int):Ll:=fun x y H Q=>∃ i j,x = .int i /\ y = .int j /\ Q (.int (f i j)) H
theorem JZ:N8 X .Add (Ol fun i j=>i + j):=by
 intro pins s σ H x y v u Q I r1 r2 h
 obtain ⟨i,j,e1,e2,q⟩:=h
 subst e1;subst e2
 obtain ⟨t,rfl⟩:=r1
 obtain ⟨t',rfl⟩:=r2
 exact iadd_int ⟨.int _,H,I.tok _,⟨_,rfl⟩,q⟩
end
section
variable {X:Cx} {pos:Pos}
noncomputable def GW (c:TT) (tb:TS):TS:=fun D σ H=>∃ W:Nat -> St -> Hp -> Prop,(∃ m,W m σ H) /\ ∀ m σ H,W m σ H ->
 c σ H fun b H1=>if b = true then ∃ N:St -> Hp -> Prop,(∀ σ' H',N σ' H' -> ∃ m',m' < m /\ W m' σ' H') /\ tb { D with nx:=N,ct:=N,bk:=D.nx } σ H1 else D.nx σ H1
theorem F9 {c:Expr} {body:List Stmt} {tc:TT} {tb:TS} (hp:PassesOwn (model X.prog X.w) X.A X.env X.xe) (hc:PT X c tc) (hb:PSs X body tb):PS X (.While c body [] pos) (GW tc tb):=by
 intro pins s σ H D I h
 obtain ⟨W,⟨m0,w0⟩,turn⟩:=h
 refine wpAny_While (codeAny_whileLoop (fun n s'=>∃ σ' H',Inv X pins σ' H' s' /\ W n σ' H') ?_ m0 ⟨σ,H,I,w0⟩)
 rintro n s1 ⟨σ1,H1,I1,w1⟩
 refine wpAny_passesOwn hp (eE (hc pins s1 σ1 H1 _ I1 (turn n σ1 H1 w1)) fun b s2 hpt9=>?_)
 obtain ⟨H2,I2,q2⟩:=hpt9
 cases b with
 | true=>
  obtain ⟨N,hN,q2⟩:=q2
  rw [if_pos rfl]
  refine wpAny_passesOwn hp (eE (hb pins s2 σ1 H2 _ I2 q2) fun f s3 q3=>?_)
  cases f with
  | next=>
   obtain ⟨σ3,H3,I3,n3⟩:=q3
   obtain ⟨m',hm,w3⟩:=hN σ3 H3 n3
   exact ⟨m',hm,σ3,H3,I3,w3⟩
  | cont=>
   obtain ⟨σ3,H3,I3,n3⟩:=q3
   obtain ⟨m',hm,w3⟩:=hN σ3 H3 n3
   exact ⟨m',hm,σ3,H3,I3,w3⟩
  | brk=>exact q3
  | ret v=>exact q3
 | false=>
  rw [if_neg Bool.false_ne_true]
  exact wpAny_execs_nil ⟨σ1,H2,I2,q2⟩
end
structure It where
 go:Nat -> Hp -> Prop
 yld:Nat -> Hp -> V -> Hp -> Prop
 stop:Nat -> Hp -> Prop
def uu (X:Cx) (pins:List (Addr × Obj)) (H:Hp) (b:Addr):Prop:=
 H b = none /\ b ≠ X.env.locals /\ b ∉ X.fs /\ (b ∈ X.ex \/ X.s₀.heap.objs.size <= b) /\ (∀ x c,X.env.cells.lookup x = some c -> c ≠ b) /\ ∀ p ∈ X.pn ++ pins,p.1 ≠ b
theorem Inv.fpOk {X:Cx} {pins:List (Addr × Obj)} {σ:St} {H H':Hp} {s:Shared} {b:Addr} (I:Inv X pins σ H s) (hb:s.heap.objs.size <= b) (hn:H' b = none):uu X pins H' b:=by
 refine ⟨hn,Nat.ne_of_gt (Nat.lt_of_lt_of_le I.lt hb),I.nofs hb,.inr (Nat.le_trans I.sz hb),fun x c e z=>?_,fun p hp z=>?_⟩
 ·obtain ⟨v,q⟩:=I.cell x c e
  exact absurd (Nat.lt_of_lt_of_le q.lt (by rw [z];exact hb)) (Nat.lt_irrefl _)
 ·exact absurd (Nat.lt_of_lt_of_le (Heap.lt_size (I.pin p hp).1) (by rw [z];exact hb)) (Nat.lt_irrefl _)
structure Turn (P:Program) (w:World) (K:W.Frag) (tg:Expr) (J:It) (fp:List Addr) (it:Addr) (tn:Nat -> Heap -> Prop):Prop where
 mem:it ∈ fp
 obj:∀ i h,tn i h -> ∀ b ∈ fp,∃ o,h.get? b = some o /\ ∀ v,o.data ≠ .cell v
 keep:∀ i h h',tn i h -> (∀ b ∈ fp,∀ o,h.get? b = some o -> h'.get? b = some o) -> tn i h'
 item:∀ (X:Cx),X.prog = P -> X.w = w -> X.K = K -> X.calm = true -> ∀ (i:Nat) (pins:List (Addr × Obj)) (s:Shared) (σ:St) (H:Hp) (E:Value -> Shared -> Prop),Inv X pins σ H s -> (∀ b ∈ fp,uu X pins H b) -> tn i s.heap -> J.go i H ->
  wpAny (model P w) X.A (pyNext (.ref it)) (fun r s1=>∃ u,r = some u /\
   wpAny (model P w) X.A (letOwnedTupleGo tg (.ref it) u) (fun _ s2=>∃ x H',Inv X pins σ H' s2 /\ RelV x u /\ J.yld i H x H' /\ tn (i + 1) s2.heap /\ ∀ b ∈ fp,H' b = none) E s1) E s
 done:∀ (X:Cx),X.prog = P -> X.w = w -> X.K = K -> X.calm = true -> ∀ (i:Nat) (pins:List (Addr × Obj)) (s:Shared) (σ:St) (H:Hp) (E:Value -> Shared -> Prop),Inv X pins σ H s -> (∀ b ∈ fp,uu X pins H b) -> tn i s.heap -> J.stop i H ->
  wpAny (model P w) X.A (pyNext (.ref it)) (fun r s1=>r = none /\ Inv X pins σ H s1) E s
 self:∀ (A:Around) (i:Nat) (s:Shared) (Q:Value -> Shared -> Prop) (E:Value -> Shared -> Prop),tn i s.heap -> Q (.ref it) s -> wpAny (model P w) A (pyIter (.ref it)) Q E s
noncomputable abbrev TI:=St -> Hp -> (It -> Hp -> Prop) -> Prop
def ME (X:Cx) (pins:List (Addr × Obj)) (σ:St) (tg:Expr) (R:It -> Hp -> Prop) (itv:Value) (s2:Shared):Prop:=
 ∃ (it:Addr) (fp:List Addr) (tn:Nat -> Heap -> Prop) (J:It) (H':Hp),itv = .ref it /\ Inv X pins σ H' s2 /\ Turn X.prog X.w X.K tg J fp it tn /\ tn 0 s2.heap /\ (∀ b ∈ fp,uu X pins H' b) /\ R J H'
def PI (X:Cx) (tg iter:Expr) (wi:TI):Prop:=
 ∀ (pins:List (Addr × Obj)) (s:Shared) (σ:St) (H:Hp) (R:It -> Hp -> Prop),Inv X pins σ H s -> wi σ H R ->
  wpAny (model X.prog X.w) X.A (eval iter X.env) (fun v s1=>wpAny (model X.prog X.w) X.A (pyIter v) (ME X pins σ tg R) X.xe s1) X.xe s
theorem Ck {M:Model} {A:Around} {E:Value -> Shared -> Prop} {s:Shared} {tg:Expr} {it:Addr} {u:Value} {o:Obj} {n:String} {vs:Array Value} {Q:Unit -> Shared -> Prop} (ho:s.heap.get? it = some o) (hc:o.cls = .type n) (hd:o.data = .fields vs)
  (hn:["enumerate", "zip", "dict_itemiterator", "dict_reverseitemiterator", "odict_iterator", "itertools.zip_longest", "itertools.pairwise"].contains n = false) (hQ:Q () s):wpAny M A (letOwnedTupleGo tg (.ref it) u) Q E s:=by
 unfold letOwnedTupleGo
 cases tg <;> first
  | exact wpAny_pure hQ
  | (cases u <;> first
    | exact wpAny_pure hQ
    | (refine wpAny_bind (wpAny_load ho ?_)
       rw [hc,hd]
       show wpAny M A (if (["enumerate", "zip", "dict_itemiterator", "dict_reverseitemiterator", "odict_iterator", "itertools.zip_longest", "itertools.pairwise"].contains n && vs[0]? == some (rawInt _)) = true then _ else _) Q E s
       rw [if_neg (by intro h;rw [hn,Bool.false_and] at h;cases h)]
       exact wpAny_pure hQ))
noncomputable def N5 (K:W.Frag) (a:Addr):It:=
 ⟨fun i H=>∃ xs x,SqL K H a xs /\ xs[i]? = some x,fun i H x H'=>H' = H /\ ∀ xs,SqL K H a xs -> xs[i]? = some x,fun i H=>∃ xs,SqL K H a xs /\ xs.length <= i⟩
noncomputable def N6 (K:W.Frag) (a:Addr):It:=
 ⟨fun i H=>∃ xs x,SqT K H a xs /\ xs[i]? = some x,fun i H x H'=>H' = H /\ ∀ xs,SqT K H a xs -> xs[i]? = some x,fun i H=>∃ xs,SqT K H a xs /\ xs.length <= i⟩
noncomputable def JD (lo:Int) (n:Nat):It:=⟨fun i _=>i < n,fun i H x H'=>H' = H /\ x = .int (lo + i),fun i _=>n <= i⟩
theorem EF {P:Program} {w:World} {K:W.Frag} {tg:Expr} (a it:Addr):Turn P w K tg (N5 K a) [it] it (fun i h=>h.IsListIter it a i) where
 mem:=by simp
 obj:=fun i h st b hb=>by
  have e:b = it:=by simpa using hb
  subst e
  obtain ⟨o,e,c,d⟩:=st
  exact ⟨o,e,fun v z=>by rw [d] at z;cases z⟩
 keep:=fun i h h' st k=>st.at fun o e=>k it (by simp) o e
 item:=by
  intro X hP hw hK hc i pins s σ H E I hf st hg
  subst hP hw hK
  obtain ⟨xs,x,hq,hx⟩:=hg
  obtain ⟨its,rv,p,hz⟩:=I.list hq
  obtain ⟨u,hu,ru⟩:=rv.get hx
  obtain ⟨f0,f1,f2,f3,f4,f5⟩:=hf it (by simp)
  refine wpAny_pyNext_list_item st p.isList (x:=u) (by simpa using hu) fun h' st' sb=>?_
  have I1:Inv X pins σ H { s with heap:=h' }:=I.turned (t':=s.toks) (fun b o hb e=>(sb.2 b hb).trans e) f0 f1 f3 f4 f5
  obtain ⟨o,e,c,d⟩:=id st'
  exact ⟨u,rfl,Ck (s:={ s with heap:=h' }) e c d (by decide) ⟨x,H,I1,ru,⟨rfl,fun ys hy=>by rw [I.list_inj hy hq];exact hx⟩,st',fun b hb=>(hf b hb).1⟩⟩
 done:=by
  intro X hP hw hK hc i pins s σ H E I hf st hg
  subst hP hw hK
  obtain ⟨xs,hq,hx⟩:=hg
  obtain ⟨its,rv,p,hz⟩:=I.list hq
  obtain ⟨f0,f1,f2,f3,f4,f5⟩:=hf it (by simp)
  have hl:=rv.length
  exact wpAny_pyNext_list_end (I.ok.hd hc) st p.isList (by simp;lia) fun h' eb=>⟨rfl,I.turned (t':=s.toks) (fun b o hb e=>eb b o hb e) f0 f1 f3 f4 f5⟩
 self:=fun _ _ _ _ _ st h=>wpAny_pyIter_listiter st h
theorem BI {P:Program} {w:World} {K:W.Frag} {tg:Expr} (a it:Addr):Turn P w K tg (N6 K a) [it] it (fun i h=>h.IsTupleIter it a i) where
 mem:=by simp
 obj:=fun i h st b hb=>by
  have e:b = it:=by simpa using hb
  subst e
  obtain ⟨o,e,c,d⟩:=st
  exact ⟨o,e,fun v z=>by rw [d] at z;cases z⟩
 keep:=fun i h h' st k=>st.at fun o e=>k it (by simp) o e
 item:=by
  intro X hP hw hK hc i pins s σ H E I hf st hg
  subst hP hw hK
  obtain ⟨xs,x,hq,hx⟩:=hg
  obtain ⟨its,rv,p,hz⟩:=I.tuple hq
  obtain ⟨u,hu,ru⟩:=rv.get hx
  obtain ⟨f0,f1,f2,f3,f4,f5⟩:=hf it (by simp)
  refine wpAny_pyNext_tuple_item st (show s.heap.IsTuple a its.toArray from p) (x:=u) (by simpa using hu) fun h' st' sb=>?_
  have I1:Inv X pins σ H { s with heap:=h' }:=I.turned (t':=s.toks) (fun b o hb e=>(sb.2 b hb).trans e) f0 f1 f3 f4 f5
  obtain ⟨o,e,c,d⟩:=id st'
  exact ⟨u,rfl,Ck (s:={ s with heap:=h' }) e c d (by decide) ⟨x,H,I1,ru,⟨rfl,fun ys hy=>by rw [I.tuple_inj hy hq];exact hx⟩,st',fun b hb=>(hf b hb).1⟩⟩
 done:=by
  intro X hP hw hK hc i pins s σ H E I hf st hg
  subst hP hw hK
  obtain ⟨xs,hq,hx⟩:=hg
  obtain ⟨its,rv,p,hz⟩:=I.tuple hq
  obtain ⟨f0,f1,f2,f3,f4,f5⟩:=hf it (by simp)
  have hl:=rv.length
  exact wpAny_pyNext_tuple_end (I.ok.hd hc) st (show s.heap.IsTuple a its.toArray from p) (by simp;lia) fun h' eb=>⟨rfl,I.turned (t':=s.toks) (fun b o hb e=>eb b o hb e) f0 f1 f3 f4 f5⟩
 self:=fun _ _ _ _ _ st h=>wpAny_pyIter_tupleiter st h
theorem um {P:Program} {w:World} {K:PySem.W.Frag} {tg:Expr} (it:Addr) (lo:Int) (n:Nat):Turn P w K tg (JD lo n) [it] it (fun i h=>IsRangeIter h it (lo + (i:Nat) * 1) ((n:Int) - (i:Nat)) 1) where
 mem:=by simp
 obj:=fun i h st b hb=>by
  have e:b = it:=by simpa using hb
  subst e
  exact ⟨_,st,fun v z=>by
   have z':Data.fields _ = Data.cell v:=z
   cases z'⟩
 keep:=fun i h h' st k=>k it (by simp) _ st
 item:=by
  intro X hP hw hK hc i pins s σ H E I hf st hg
  subst hP hw hK
  obtain ⟨f0,f1,f2,f3,f4,f5⟩:=hf it (by simp)
  have W:=Walks.range (prog:=X.prog) (w:=X.w) (I.ok.hd hc) it lo 1 n
  refine keep I.tk (W.item i s _ _ hg st fun v h' tk hv st' kk hk=>?_)
  obtain ⟨t,rfl⟩:=hv
  have I1:Inv X pins σ H { s with heap:=h',toks:=tk }:=I.turned (fun b o hb e=>kk b o (by simpa using hb) e) f0 f1 f3 f4 f5
  refine ⟨_,rfl,Ck (s:={ s with heap:=h',toks:=tk }) (n := "range_iterator") st' rfl rfl (by decide) ⟨.int (lo + i),H,I1,⟨t,?_⟩,⟨rfl,rfl⟩,st',fun b hb=>(hf b hb).1⟩⟩
  rw [Int.mul_one]
 done:=by
  intro X hP hw hK hc i pins s σ H E I hf st hg
  subst hP hw hK
  obtain ⟨f0,f1,f2,f3,f4,f5⟩:=hf it (by simp)
  exact wpAny_pyNext_range_end (I.ok.hd hc) st (by have:n <= i:=hg;lia) fun h' eb=>⟨rfl,I.turned (t':=s.toks) (fun b o hb e=>eb b o hb e) f0 f1 f3 f4 f5⟩
 self:=fun _ _ _ _ _ st h=>wpAny_pyIter_rangeiter st h
section
variable {X:Cx} {tg:Expr}
theorem Gj {pins:List (Addr × Obj)} {σ:St} {H:Hp} {s:Shared} {R:It -> Hp -> Prop} {E:Value -> Shared -> Prop} {lo hi:Int} {t u v:Tok} {tk:Nat} (I:Inv X pins σ H s) (h1:-(2 ^ 62) <= lo) (h2:lo < 2 ^ 62) (h3:-(2 ^ 62) <= hi) (h4:hi < 2 ^ 62)
  (q:R (JD lo (hi - lo).toNat) H) (htk:s.toks <= tk \/ NN <= tk:=by first | assumption | exact .inl (by lia) | exact .inl (by dsimp only;lia) | exact .inr (by assumption) | exact .inr (L2.Inv.tk (by assumption)) | exact .inr (Nat.le_succ_of_le (by assumption)) | exact .inr (by dsimp only at *;lia)):wpAny (model X.prog X.w) X.A (pyIter (.ref s.heap.objs.size)) (ME X pins σ tg R) E { s with heap:=s.heap.push { cls:=.type "range",data:=.fields #[.int lo t,.int hi u,.int 1 v] },toks:=tk }:=by
 refine wpAny_pyIter_range (IsRange.new ..) (small_one h1 h2 h3 h4) ?_
 have I1:Inv X pins σ H { s with heap:=s.heap.push { cls:=.type "range",data:=.fields #[.int lo t,.int hi u,.int 1 v] },toks:=tk }:=I.kept fun b o e=>Heap.get?_push_of_some _ e
 refine ⟨(s.heap.push { cls:=.type "range",data:=.fields #[.int lo t,.int hi u,.int 1 v] }).objs.size,[(s.heap.push { cls:=.type "range",data:=.fields #[.int lo t,.int hi u,.int 1 v] }).objs.size],_,_,H,rfl,
  I1.kept (t':=tk) fun b o e=>Heap.get?_push_of_some _ e,um _ lo (hi - lo).toNat,?_,fun b hb=>?_,q⟩
 ·have e1:lo + ((0:Nat):Int) * 1 = lo:=by simp
  have e2:(((hi - lo).toNat:Nat):Int) - ((0:Nat):Int) = Builtin.Range.rangeSize lo hi 1:=by rw [rangeSize_one];split <;> lia
  show IsRangeIter _ _ (lo + ((0:Nat):Int) * 1) ((((hi - lo).toNat:Nat):Int) - ((0:Nat):Int)) 1
  rw [e1,e2]
  exact Heap.get?_push_size _ rfl
 ·have e:b = (s.heap.push { cls:=.type "range",data:=.fields #[.int lo t,.int hi u,.int 1 v] }).objs.size:=by simpa using hb
  subst e
  exact I1.fpOk (Nat.le_refl _) (I1.hok.fresh (Nat.le_refl _))
noncomputable def Je (ta:TA):TI:=fun σ H R=>ta σ H fun vs H1=>∃ j:Int,vs = [.int j] /\ -(2 ^ 62) <= j /\ j < 2 ^ 62 /\ R (JD 0 j.toNat) H1
theorem hU {a:Expr} {ta:TA} {p pos:Pos} (hg:Gl X "range") (hm:X.mg "range" = none) (ha:PA X [a] ta) (hs:starEach [a] X.env = [(false,eval a X.env)]:=by rfl):PI X tg (.Call (.Name "range" p) [a] [] pos) (Je ta):=by
 intro pins s σ H R I h
 refine Call_ (pN I hg hm boot_range (PyProof.Rows.callWith_type1 (eE (ha pos pins s σ H _ I h) fun us s1 hpt9=>?_) hs rfl))
 obtain ⟨vs,H1,I1,r1,q1⟩:=hpt9
 obtain ⟨j,e,q1,q2,q⟩:=q1
 subst e
 cases r1 with
 | cons r rr=>
  cases rr
  obtain ⟨t,rfl⟩:=r
  exact call_range_1 (Gj I1 (by lia) (by lia) q1 q2 (by simpa using q))
noncomputable def IM (wi:TI) (g:TG) (tb:TS):TS:=fun D σ H=>wi σ H fun J H1=>∃ W:Nat -> Nat -> St -> Hp -> Prop,(∃ m,W 0 m σ H1) /\ ∀ i m σ H,W i m σ H ->
 (J.stop i H /\ D.nx σ H) \/ (J.go i H /\ ∃ N:St -> Hp -> Prop,(∀ σ' H',N σ' H' -> ∃ m',m' < m /\ W (i + 1) m' σ' H') /\ ∀ x H',J.yld i H x H' -> g x σ H' fun σ2 H2=>tb { D with nx:=N,ct:=N,bk:=D.nx } σ2 H2)
noncomputable def tT (fp:List Addr) (h:Heap):List (Addr × Obj):=fp.filterMap fun b=>(h.get? b).map fun o=>(b,o)
theorem km {fp:List Addr} {h:Heap} {b:Addr} {o:Obj} (hb:b ∈ fp) (e:h.get? b = some o):(b,o) ∈ tT fp h:=List.mem_filterMap.mpr ⟨b,hb,by rw [e];rfl⟩
theorem D6 {fp:List Addr} {h:Heap} {p:Addr × Obj} (hp:p ∈ tT fp h):p.1 ∈ fp /\ h.get? p.1 = some p.2:=by
 obtain ⟨b,hb,e⟩:=List.mem_filterMap.mp hp
 cases q:h.get? b with
 | none=>rw [q] at e;cases e
 | some o=>
  rw [q] at e
  have e':(b,o) = p:=Option.some.inj e
  subst e'
  exact ⟨hb,q⟩
theorem Inv.pinned {pins:List (Addr × Obj)} {σ:St} {H:Hp} {s:Shared} {fp:List Addr} (I:Inv X pins σ H s) (hf:∀ b ∈ fp,uu X pins H b) (ho:∀ b ∈ fp,∃ o,s.heap.get? b = some o /\ ∀ v,o.data ≠ .cell v):Inv X (pins ++ tT fp s.heap) σ H s:=
 I.pins_of fun p hp=>(List.mem_append.mp hp).elim (fun z=>I.pin p (List.mem_append_right _ z)) fun z=>by
  obtain ⟨hb,e⟩:=D6 z
  obtain ⟨f0,f1,f2,_⟩:=hf p.1 hb
  obtain ⟨o,e',d⟩:=ho p.1 hb
  rw [e] at e';cases e'
  exact ⟨e,f0,f1,f2,d⟩
theorem Inv.unpinned {pins pl:List (Addr × Obj)} {σ:St} {H:Hp} {s:Shared} (I:Inv X (pins ++ pl) σ H s):Inv X pins σ H s:=I.pins_of fun p hp=>I.pin p (List.mem_append_right _ (List.mem_append_left _ hp))
theorem jx {iter:Expr} {body:List Stmt} {wi:TI} {g:TG} {tb:TS} {pos:Pos} (hp:PassesOwn (model X.prog X.w) X.A X.env X.xe) (hc:X.calm = true) (hi:PI X tg iter wi) (hg:PG X tg g) (hb:PSs X body tb)
  (hs:∀ x,foldedSetIterable iter X.env x = pure x:=by intro _;rfl):PS X (.For tg iter body [] pos) (IM wi g tb):=by
 intro pins s σ H D I h
 refine wpAny_For (eE (hi pins s σ H _ I h) fun v s1 h1=>eE h1 fun itv s2 h2=>?_) hs
 obtain ⟨it,fp,tn,J,H2,e,I2,T,st2,f2,W,⟨m0,w0⟩,turn⟩:=h2
 subst e
 -- what stays true of the iterator's objects through the loop
 have stat:∀ {H':Hp},(∀ b ∈ fp,H' b = none) -> ∀ b ∈ fp,uu X pins H' b:=fun hn b hb=>⟨hn b hb,(f2 b hb).2⟩
 refine codeAny_forLoop_any (fun n s'=>∃ i σ' H',Inv X pins σ' H' s' /\ tn i s'.heap /\ (∀ b ∈ fp,H' b = none) /\ W i n σ' H') ?_ m0 ⟨0,σ,H2,I2,st2,fun b hb=>(f2 b hb).1,w0⟩
 rintro n s3 ⟨i,σ3,H3,I3,st3,fr3,w3⟩
 rcases turn i n σ3 H3 w3 with ⟨stop,qn⟩ | ⟨go,N,hN,step⟩
 ·refine wpAny_passesOwn hp (eE (T.done X rfl rfl rfl hc i pins s3 σ3 H3 X.xe I3 (stat fr3) st3 stop) fun r s4 ⟨hr,I4⟩=>?_)
  subst hr
  exact wpAny_execs_nil ⟨σ3,H3,I4,qn⟩
 ·refine wpAny_passesOwn hp (eE (T.item X rfl rfl rfl hc i pins s3 σ3 H3 X.xe I3 (stat fr3) st3 go) fun r s4 ⟨u,hr,h4⟩=>?_)
  subst hr
  refine wpAny_passesOwn hp (eE h4 fun _ s5 hpt9=>?_)
  obtain ⟨x,H5,I5,r5,y5,st5,fr5⟩:=hpt9
  have I5':=I5.pinned (stat fr5) (T.obj _ _ st5)
  refine wpAny_passesOwn hp (eE (hg _ s5 σ3 H5 x u _ I5' r5 (step x H5 y5)) fun _ s6 hpt9=>?_)
  obtain ⟨σ6,H6,I6,q6⟩:=hpt9
  refine wpAny_passesOwn hp (eE (hb _ s6 σ6 H6 _ I6 q6) fun f s7 q7=>?_)
  have again:∀ {σ7:St} {H7:Hp},Inv X (pins ++ tT fp s5.heap) σ7 H7 s7 -> N σ7 H7 -> ∃ m,m < n /\ ∃ i σ' H',Inv X pins σ' H' s7 /\ tn i s7.heap /\ (∀ b ∈ fp,H' b = none) /\ W i m σ' H':=fun {σ7 H7} I7 n7=>by
   obtain ⟨m',hm,w7⟩:=hN σ7 H7 n7
   refine ⟨m',hm,i + 1,σ7,H7,I7.unpinned,T.keep _ _ _ st5 fun b hb o e=>(I7.pin (b,o) (List.mem_append_right _ (List.mem_append_right _ (km hb e)))).1,fun b hb=>?_,w7⟩
   obtain ⟨o,e,d⟩:=T.obj _ _ st5 b hb
   exact (I7.pin (b,o) (List.mem_append_right _ (List.mem_append_right _ (km hb e)))).2.1
  cases f with
  | next=>obtain ⟨σ7,H7,I7,n7⟩:=q7;exact again I7 n7
  | cont=>obtain ⟨σ7,H7,I7,n7⟩:=q7;exact again I7 n7
  | brk=>obtain ⟨σ7,H7,I7,q7⟩:=q7;exact ⟨σ7,H7,I7.unpinned,q7⟩
  | ret v=>obtain ⟨x7,σ7,H7,I7,r7,q7⟩:=q7;exact ⟨x7,σ7,H7,I7.unpinned,r7,q7⟩
end
noncomputable abbrev R2:=V -> V -> Hp -> VK -> Prop
def OpR (X:Cx) (f:Value -> Value -> Sem Value) (r:R2):Prop:=
 ∀ (pins:List (Addr × Obj)) (s:Shared) (σ:St) (H:Hp) (x y:V) (v u:Value) (Q:VK),Inv X pins σ H s -> RelV x v -> RelV y u -> r x y H Q ->
  wpAny (model X.prog X.w) X.A (f v u) (EP X pins σ Q) X.xe s
def Na (X:Cx) (f:Value -> Sem Value) (r:V -> Hp -> VK -> Prop):Prop:=
 ∀ (pins:List (Addr × Obj)) (s:Shared) (σ:St) (H:Hp) (x:V) (v:Value) (Q:VK),Inv X pins σ H s -> RelV x v -> r x H Q ->
  wpAny (model X.prog X.w) X.A (f v) (EP X pins σ Q) X.xe s
def CallR (X:Cx) (f:Value) (r:List V -> Hp -> VK -> Prop):Prop:=
 ∀ (pins:List (Addr × Obj)) (s:Shared) (σ:St) (H:Hp) (xs:List V) (us:List Value) (Q:VK),Inv X pins σ H s -> Vals xs us -> r xs H Q ->
  wpAny (model X.prog X.w) X.A (call f us) (EP X pins σ Q) X.xe s
def M9 (X:Cx) (r:V -> Hp -> (Bool -> Hp -> Prop) -> Prop):Prop:=
 ∀ (pins:List (Addr × Obj)) (s:Shared) (σ:St) (H:Hp) (x:V) (v:Value) (Q:Bool -> Hp -> Prop),Inv X pins σ H s -> RelV x v -> r x H Q ->
  wpAny (model X.prog X.w) X.A (truthy v) (TP X pins σ Q) X.xe s
noncomputable def KO (r:R2) (ta tb:TE):TE:=fun σ H Q=>ta σ H fun x H1=>tb σ H1 fun y H2=>r x y H2 Q
noncomputable def Ow (r:V -> Hp -> VK -> Prop) (ta:TE):TE:=fun σ H Q=>ta σ H fun x H1=>r x H1 Q
noncomputable def rI (C:Int -> Int -> Prop) (g:Int -> Int -> V):R2:=fun x y H Q=>∃ i j,x = .int i /\ y = .int j /\ C i j /\ Q (g i j) H
noncomputable def ER (g:Int -> Int -> V):R2:=fun x y H Q=>∃ i j,x = .int i /\ y = .int j /\ Q (g i j) H
noncomputable def rU (g:Int -> V):V -> Hp -> VK -> Prop:=fun x H Q=>∃ i,x = .int i /\ Q (g i) H
section
variable {X:Cx} {a b c:Expr} {ta tb tc:TE} {pos:Pos}
theorem JR (ha:PE X a ta) (hb:PE X b tb) {pins:List (Addr × Obj)} {s:Shared} {σ:St} {H:Hp} {R:V -> V -> Hp -> Prop} (I:Inv X pins σ H s)
  (h:ta σ H fun x H1=>tb σ H1 fun y H2=>R x y H2) {Q:Value -> Shared -> Prop} {f:Value -> Value -> Sem Value}
  (hf:∀ v u s2 x y H2,Inv X pins σ H2 s2 -> RelV x v -> RelV y u -> R x y H2 -> wpAny (model X.prog X.w) X.A (f v u) Q X.xe s2) :
  wpAny (model X.prog X.w) X.A (eval a X.env) (fun v s₁=>wpAny (model X.prog X.w) X.A (eval b X.env) (fun u s₂=>wpAny (model X.prog X.w) X.A (f v u) Q X.xe s₂) X.xe s₁) X.xe s:=by
 refine eE (ha pins s σ H _ I h) fun v s1 hpt9=>?_
 obtain ⟨x,H1,I1,r1,q1⟩:=hpt9
 refine eE (hb pins s1 σ H1 _ I1 q1) fun u s2 hpt9=>?_
 obtain ⟨y,H2,I2,r2,q2⟩:=hpt9
 exact hf v u s2 x y H2 I2 r1 r2 q2
theorem aG {op:Operator} {r:R2} (ho:OpR X (binaryOp op) r) (ha:PE X a ta) (hb:PE X b tb):PE X (.BinOp a op b pos) (KO r ta tb):=by
 intro pins s σ H Q I h
 exact wpAny_BinOp (JR ha hb I h fun v u s2 x y H2 I2 rx ry q=>ho pins s2 σ H2 x y v u Q I2 rx ry q)
theorem iU {op:UnaryOp} {r:V -> Hp -> VK -> Prop} (ho:Na X (unaryOp op) r) (ha:PE X a ta):PE X (.UnaryOp op a pos) (Ow r ta):=by
 intro pins s σ H Q I h
 exact UnaryOp_ (eE (ha pins s σ H _ I h) fun v s1 ⟨x,H1,I1,r1,q1⟩=>ho pins s1 σ H1 x v Q I1 r1 q1)
theorem MR {f:Value -> Value -> Sem Value} {C:Int -> Int -> Prop} {g:Int -> Int -> Int}
  (rule:∀ (i j:Int) (t u:Tok) (s:Shared) (Q:Value -> Shared -> Prop) (E:Value -> Shared -> Prop),C i j -> Q (.int (g i j) s.toks) { s with toks:=s.toks + 1 } -> wpAny (model X.prog X.w) X.A (f (.int i t) (.int j u)) Q E s) :
  OpR X f (rI C fun i j=>.int (g i j)):=by
 intro pins s σ H x y v u Q I rx ry h
 obtain ⟨i,j,rfl,rfl,hc,q⟩:=h
 obtain ⟨t,rfl⟩:=rx
 obtain ⟨t',rfl⟩:=ry
 exact rule i j t t' s _ _ hc ⟨.int (g i j),H,I.tok _,⟨_,rfl⟩,q⟩
theorem LH {f:Value -> Value -> Sem Value} {g:Int -> Int -> Int}
  (rule:∀ (i j:Int) (t u:Tok) (s:Shared) (Q:Value -> Shared -> Prop) (E:Value -> Shared -> Prop),Q (.int (g i j) s.toks) { s with toks:=s.toks + 1 } -> wpAny (model X.prog X.w) X.A (f (.int i t) (.int j u)) Q E s) :
  OpR X f (ER fun i j=>.int (g i j)):=by
 intro pins s σ H x y v u Q I rx ry h
 obtain ⟨i,j,rfl,rfl,q⟩:=h
 obtain ⟨t,rfl⟩:=rx
 obtain ⟨t',rfl⟩:=ry
 exact rule i j t t' s _ _ ⟨.int (g i j),H,I.tok _,⟨_,rfl⟩,q⟩
theorem Kg {f:Value -> Value -> Sem Value} {g:Int -> Int -> Bool}
  (rule:∀ (i j:Int) (t u:Tok) (s:Shared) (Q:Value -> Shared -> Prop) (E:Value -> Shared -> Prop),Q (.bool (g i j)) s -> wpAny (model X.prog X.w) X.A (f (.int i t) (.int j u)) Q E s) :
  OpR X f (ER fun i j=>.bl (g i j)):=by
 intro pins s σ H x y v u Q I rx ry h
 obtain ⟨i,j,rfl,rfl,q⟩:=h
 obtain ⟨t,rfl⟩:=rx
 obtain ⟨t',rfl⟩:=ry
 exact rule i j t t' s _ _ ⟨.bl (g i j),H,I,rfl,q⟩
def La (i j:Int):Prop:=0 < j /\ j < 1073741824
def JC (i j:Int):Prop:=0 <= j /\ j <= 1000000 /\ i.natAbs < 2 ^ 64
def CMul (i j:Int):Prop:=(-(2 ^ 64) < i /\ i < 2 ^ 64) \/ (-(2 ^ 64) < j /\ j < 2 ^ 64)
theorem CMul.ok {i j:Int} (h:CMul i j):IntMulOk i j:=by
 rcases h with ⟨h1,h2⟩ | ⟨h1,h2⟩
 ·exact .of_left (intBits_le_64 h1 h2)
 ·exact .of_right (intBits_le_64 h1 h2)
theorem op_add:OpR X (binaryOp .Add) (ER fun i j=>.int (i + j)):=LH fun _ _ _ _ _ _ _ q=>add_int q
theorem eG:OpR X (binaryOp .Sub) (ER fun i j=>.int (i - j)):=LH fun _ _ _ _ _ _ _ q=>sub_int q
theorem Bf:OpR X (binaryOp .Mult) (rI CMul fun i j=>.int (i * j)):=MR fun _ _ _ _ _ _ _ hc q=>mul_int q hc.ok
theorem gS:OpR X (binaryOp .FloorDiv) (rI La fun i j=>.int (i / j)):=MR fun i j _ _ _ _ _ hc q=>by
 have h1:(0:Int) < j:=hc.1
 have h2:j < 1073741824:=hc.2
 exact floordiv_int (by lia) (by rw [Int.fdiv_eq_ediv_of_nonneg i (by lia)];exact q) (.inl (PyProof.noPylong_small (by lia)))
theorem fB:OpR X (binaryOp .Mod) (rI (fun _ j=>0 < j) fun i j=>.int (i % j)):=MR fun i j _ _ _ _ _ hc q=>by
 have h1:(0:Int) < j:=hc
 exact mod_int' (by lia) (by rw [Int.fmod_eq_emod_of_nonneg i (by lia)];exact q)
theorem Bg:OpR X (binaryOp .Pow) (rI JC fun i j=>.int (i ^ j.toNat)):=MR fun _ _ _ _ _ _ _ hc q=>pow_int_small hc.1 hc.2.1 hc.2.2 q
theorem Pp {f:Value -> Sem Value} {g:Int -> Int}
  (rule:∀ (i:Int) (t:Tok) (s:Shared) (Q:Value -> Shared -> Prop) (E:Value -> Shared -> Prop),Q (.int (g i) s.toks) { s with toks:=s.toks + 1 } -> wpAny (model X.prog X.w) X.A (f (.int i t)) Q E s) :
  Na X f (rU fun i=>.int (g i)):=by
 intro pins s σ H x v Q I rx h
 obtain ⟨i,rfl,q⟩:=h
 obtain ⟨t,rfl⟩:=rx
 exact rule i t s _ _ ⟨.int (g i),H,I.tok _,⟨_,rfl⟩,q⟩
theorem fH:Na X (unaryOp .USub) (rU fun i=>.int (-i)):=Pp fun _ _ _ _ _ q=>neg_int q
end
section
variable {X:Cx} {a b c:Expr} {ta tb tc:TE} {pos:Pos}
theorem AR {pins:List (Addr × Obj)} {σ:St} {H:Hp} {s:Shared} {Q:VK} {k k':Bool} (I:Inv X pins σ H s) (q:Q (.bl k) H) (e:k = k'):EP X pins σ Q (.bool k') s:=by
 subst e
 exact ⟨.bl k,H,I,rfl,q⟩
theorem F0:OpR X (compareOp .Lt) (ER fun i j=>.bl (decide (i < j))):=Kg fun _ _ _ _ _ _ _ q=>lt_int q
theorem zo:OpR X (compareOp .LtE) (ER fun i j=>.bl (decide (i <= j))):=Kg fun _ _ _ _ _ _ _ q=>le_int q
theorem qI:OpR X (compareOp .Gt) (ER fun i j=>.bl (decide (j < i))):=Kg fun _ _ _ _ _ _ _ q=>gt_int q
theorem Eb:OpR X (compareOp .In) (fun x y H Q=>∃ i j,x = .str i /\ y = .str j /\ Q (.bl (!(Builtin.Str.occurrences j i 0 j.length 1).isEmpty)) H):=by
 intro pins s σ H x y v u Q I rx ry h
 obtain ⟨i,j,rfl,rfl,q⟩:=h
 obtain ⟨t,rfl⟩:=rx
 obtain ⟨t',rfl⟩:=ry
 exact in_str (AR I q rfl)
theorem FZ:OpR X (compareOp .Is) (fun x y H Q=>y = .non /\ Q (.bl (decide (x = .non))) H):=by
 intro pins s σ H x y v u Q I rx ry h
 obtain ⟨rfl,q⟩:=h
 cases ry
 refine is_none_gen (AR I q ?_)
 cases x <;> first
  | (cases rx;rfl)
  | (obtain ⟨t,rfl⟩:=rx;rfl)
theorem Ia:OpR X (compareOp .IsNot) (fun x y H Q=>y = .non /\ Q (.bl (!decide (x = .non))) H):=by
 intro pins s σ H x y v u Q I rx ry h
 obtain ⟨rfl,q⟩:=h
 cases ry
 refine isnot_none_gen (AR I q ?_)
 cases x <;> first
  | (cases rx;rfl)
  | (obtain ⟨t,rfl⟩:=rx;rfl)
theorem OpR.or {f:Value -> Value -> Sem Value} {r r':R2} (h:OpR X f r) (h':OpR X f r'):OpR X f (fun x y H Q=>r x y H Q \/ r' x y H Q):=by
 intro pins s σ H x y v u Q I rx ry q
 rcases q with q | q
 ·exact h pins s σ H x y v u Q I rx ry q
 ·exact h' pins s σ H x y v u Q I rx ry q
theorem a5 (b:Expr) {op:CmpOp} (h:op ≠ .In:=by decide) (h2:op ≠ .NotIn:=by decide):behindInMarks op b = false:=by
 have e1:(op == CmpOp.In) = false:=by cases op <;> first | rfl | exact absurd rfl h
 have e2:(op == CmpOp.NotIn) = false:=by cases op <;> first | rfl | exact absurd rfl h2
 cases b <;> simp [behindInMarks,e1,e2]
theorem gU {op:CmpOp} {r:R2} (ho:OpR X (compareOp op) r) (ha:PE X a ta) (hb:PE X b tb) (hm:behindInMarks op b = false):PE X (.Compare a [op] [b] pos) (KO r ta tb):=by
 intro pins s σ H Q I h
 exact wpAny_Compare1 (JR ha hb I h fun v u s2 x y H2 I2 rx ry q=>ho pins s2 σ H2 x y v u Q I2 rx ry q) hm
noncomputable def Jx (t:TE):TT:=fun σ H Q=>t σ H fun x H'=>∃ k,x = .bl k /\ Q k H'
theorem aW {op:CmpOp} {r:R2} (ho:OpR X (compareOp op) r) (ha:PE X a ta) (hb:PE X b tb) (hm:behindInMarks op b = false):PT X (.Compare a [op] [b] pos) (Jx (KO r ta tb)):=by
 intro pins s σ H Q I h
 refine wpAny_isTrue_Compare1 (eE (ha pins s σ H _ I h) fun v s1 ⟨x,H1,I1,r1,q1⟩=>eE (hb pins s1 σ H1 _ I1 q1) fun u s2 ⟨y,H2,I2,r2,q2⟩=>
  eE (ho pins s2 σ H2 x y v u _ I2 r1 r2 q2) fun c s3 ⟨z,H3,I3,r3,k,e,q3⟩=>?_) hm
 subst e
 cases r3
 exact wpAny_truthy_bool ⟨H3,I3,q3⟩
def EW (K:W.Frag) (x:V) (H:Hp) (k:Bool):Prop:=
 match x with
 | .non=>k = false
 | .bl b=>k = b
 | .int i=>k = (i != 0)
 | .str y=>y.length <= sizeLine /\ k = ((y.length:Int) != 0)
 | .byt y=>y.size <= sizeLine /\ k = ((y.size:Int) != 0)
 | .ref p=>(∃ xs,SqL K H p xs /\ k = !xs.isEmpty) \/ (∃ xs,SqT K H p xs /\ k = !xs.isEmpty) \/ ∃ kvs,H p = some (.dK kvs) /\ k = !kvs.isEmpty
 | _=>False
theorem AV {κ:Type} {kvs:List (κ × V)} {vs:List (κ × Value)} (r:KV kvs vs):(!vs.isEmpty) = !kvs.isEmpty:=by
 cases r <;> rfl
theorem sW {xs:List V} {its:List Value} (r:Vals xs its):(!its.toArray.isEmpty) = !xs.isEmpty:=by
 cases r <;> simp
theorem pO:(sizeLine:Nat) < 2 ^ 63:=by rw [sizeLine_eq];decide
theorem KQ:M9 X (fun x H Q=>∃ k,EW X.K x H k /\ Q k H):=by
 intro pins s σ H x v Q I rx h
 obtain ⟨k,e,q⟩:=h
 have hl:=pO
 have hs:sizeLine = 16777216:=sizeLine_eq
 cases x with
 | non=>
  cases rx
  have e':k = false:=e
  subst e'
  exact truthy_none ⟨H,I,q⟩
 | bl b=>
  cases rx
  have e':k = b:=e
  subst e'
  exact wpAny_truthy_bool ⟨H,I,q⟩
 | int i=>
  obtain ⟨t,rfl⟩:=rx
  have e':k = (i != 0):=e
  subst e'
  exact PySem.P.truthy_int ⟨H,I,q⟩
 | str y=>
  obtain ⟨t,rfl⟩:=rx
  obtain ⟨hy,e'⟩:y.length <= sizeLine /\ k = ((y.length:Int) != 0):=e
  subst e'
  exact PySem.P.truthy_str (by lia) ⟨H,I.tok _,q⟩
 | byt y=>
  obtain ⟨t,rfl⟩:=rx
  obtain ⟨hy,e'⟩:y.size <= sizeLine /\ k = ((y.size:Int) != 0):=e
  subst e'
  exact W.truthy_bytes (by lia) ⟨H,I.tok _,q⟩
 | ref p=>
  cases rx
  have e':(∃ xs,SqL X.K H p xs /\ k = !xs.isEmpty) \/ (∃ xs,SqT X.K H p xs /\ k = !xs.isEmpty) \/ ∃ kvs,H p = some (.dK kvs) /\ k = !kvs.isEmpty:=e
  rcases e' with ⟨xs,hx,e'⟩ | ⟨xs,hx,e'⟩ | ⟨kvs,hx,e'⟩
  ·subst e'
   obtain ⟨its,r,pl,hz⟩:=I.list hx
   have hlen:=r.length
   exact wpAny_truthy_list pl.isList (by simp only [List.size_toArray];lia) ⟨H,I.tok _,by rw [sW r];exact q⟩
  ·subst e'
   obtain ⟨its,r,pl,hz⟩:=I.tuple hx
   have hlen:=r.length
   exact truthy_tuple pl (by simp only [List.size_toArray];lia) ⟨H,I.tok _,by rw [sW r];exact q⟩
  ·subst e'
   obtain ⟨hz,hS,vs,r,m⟩:kvs.length <= sizeLine /\ (p == sysModules) = false /\ ∃ vs,KV kvs vs /\ s.heap.DictOf (xo X.prog X.w) p vs:=I.hok p _ hx
   have hlen:kvs.length = vs.length:=Paired.length r
   exact wpAny_truthy_dict hS m (by lia) ⟨H,I.tok _,by rw [AV r];exact q⟩
 | _=>exact (show False from e).elim
theorem iw (ha:PE X a ta) (he:∀ whole,isTrue a X.env whole = (do let v ← whole;standAt a.pos;holding [v] (truthy v))) :
  PT X a (fun σ H Q=>ta σ H fun x H'=>∃ k,EW X.K x H' k /\ Q k H'):=by
 intro pins s σ H Q I h
 exact isTrue_plain (eE (ha pins s σ H _ I h) fun v s1 ⟨x,H1,I1,r1,q1⟩=>KQ pins s1 σ H1 x v Q I1 r1 q1) (he _)
theorem Be:OpR X (binaryOp .Add) (fun x y H Q=>∃ i j,x = .str i /\ y = .str j /\ i.length + j.length <= sizeLine /\ Q (.str (i ++ j)) H):=by
 intro pins s σ H x y v u Q I rx ry h
 obtain ⟨i,j,rfl,rfl,hz,q⟩:=h
 obtain ⟨t,rfl⟩:=rx
 obtain ⟨t',rfl⟩:=ry
 exact keep I.tk (add_str (fun t' tk hk=>⟨.str (i ++ j),H,I.tok _,⟨_,rfl⟩,q⟩) hz)
theorem C5 {x:V} {us:List Value} (r:Vals [x] us):∃ u,us = [u] /\ RelV x u:=by
 cases r with
 | cons r1 r2=>cases r2;exact ⟨_,rfl,r1⟩
theorem Mx {x y:V} {us:List Value} (r:Vals [x,y] us):∃ u w',us = [u,w'] /\ RelV x u /\ RelV y w':=by
 cases r with
 | cons r1 r2=>
  cases r2 with
  | cons r3 r4=>cases r4;exact ⟨_,_,rfl,r1,r3⟩
theorem Dk (hc:X.calm = true):CallR X (.builtin "max") (fun xs H Q=>∃ i j,xs = [.int i,.int j] /\ Q (.int (if j > i then j else i)) H):=by
 intro pins s σ H xs us Q I r h
 obtain ⟨i,j,rfl,q⟩:=h
 obtain ⟨u,w',rfl,⟨t,rfl⟩,⟨t',rfl⟩⟩:=Mx r
 refine keep I.tk (max_two_ints (I.ok.hd hc) fun h' tk k hk=>⟨_,H,I.kept k,?_,q⟩)
 by_cases hj:j > i
 ·rw [if_pos hj,if_pos hj];exact ⟨_,rfl⟩
 ·rw [if_neg hj,if_neg hj];exact ⟨_,rfl⟩
def Lc (K:W.Frag) (x:V) (H:Hp) (n:Nat):Prop:=
 match x with
 | .str y=>y.length <= sizeLine /\ n = y.length
 | .byt y=>y.size <= sizeLine /\ n = y.size
 | .ref p=>(∃ xs,SqL K H p xs /\ n = xs.length) \/ ∃ xs,SqT K H p xs /\ n = xs.length
 | _=>False
theorem E8:CallR X (.builtin "len") (fun xs H Q=>∃ x n,xs = [x] /\ Lc X.K x H n /\ Q (.int n) H):=by
 intro pins s σ H xs us Q I r h
 obtain ⟨x,n,rfl,e,q⟩:=h
 obtain ⟨u,rfl,rx⟩:=C5 r
 have hl:=pO
 have hs:sizeLine = 16777216:=sizeLine_eq
 cases x with
 | str y=>
  obtain ⟨t,rfl⟩:=rx
  obtain ⟨hy,e'⟩:y.length <= sizeLine /\ n = y.length:=e
  subst e'
  exact len_str (by lia) ⟨.int _,H,I.tok _,⟨_,rfl⟩,q⟩
 | byt y=>
  obtain ⟨t,rfl⟩:=rx
  obtain ⟨hy,e'⟩:y.size <= sizeLine /\ n = y.size:=e
  subst e'
  exact W.len_bytes (by lia) ⟨.int _,H,I.tok _,⟨_,rfl⟩,q⟩
 | ref p=>
  cases rx
  have e':(∃ xs,SqL X.K H p xs /\ n = xs.length) \/ ∃ xs,SqT X.K H p xs /\ n = xs.length:=e
  rcases e' with ⟨xs,hx,e'⟩ | ⟨xs,hx,e'⟩
  ·subst e'
   obtain ⟨its,r',pl,hz⟩:=I.list hx
   have hlen:=r'.length
   exact Calls.call_len_list pl.isList (by simp only [List.size_toArray];lia) ⟨.int xs.length,H,I.tok _,⟨_,by simp only [List.size_toArray];rw [hlen]⟩,q⟩
  ·subst e'
   obtain ⟨its,r',pl,hz⟩:=I.tuple hx
   have hlen:=r'.length
   exact len_tuple pl (by simp only [List.size_toArray];lia) ⟨.int xs.length,H,I.tok _,⟨_,by simp only [List.size_toArray];rw [hlen]⟩,q⟩
 | _=>exact (show False from e).elim
end
structure ObjM (h:Heap) (x dx C:Addr) (mA:Str -> Option Value):Prop where
 obj:h.get? x = some (W.instObj C dx)
 ns:h.Ns1 dx mA
 ne:dx ≠ x
theorem DQ {h:Heap} {dx:Addr} {mA:Str -> Option Value} (n:h.Ns1 dx mA):∃ od,h.get? dx = some od /\ ∀ name,W.lookIn name od = some (mA name):=by
 obtain ⟨o,es,ep,ho,hd,hk,_,hm⟩:=n
 refine ⟨o,ho,fun name=>?_⟩
 have e:=hm name
 unfold nsFind findBy at e
 rw [<- Array.find?_toList] at e
 unfold W.lookIn
 rw [hd]
 dsimp only
 split
 ·rename_i y q
  rw [q] at e
  exact congrArg some e
 ·rename_i q
  rw [q] at e
  have a:es.toList.any (·.refKey) = false:=by
   rw [List.any_eq_false]
   intro y hy
   obtain ⟨z,t,hkey⟩:=hk y (Array.mem_toList_iff.mp hy)
   simp [DictEntry.refKey,hkey]
  have a':¬ es.toList.any (·.refKey) = true:=by rw [a];exact Bool.false_ne_true
  rw [if_neg a']
  exact congrArg some e
theorem ObjM.look {h:Heap} {x dx C:Addr} {mA:Str -> Option Value} (I:ObjM h x dx C mA):∃ od,W.InstAt h x (W.instObj C dx) C (some od) /\ ∀ name,W.lookIn name od = some (mA name):=
 let ⟨od,ho,hl⟩:=DQ I.ns
 ⟨od,⟨I.obj,rfl,rfl,ho⟩,hl⟩
section
variable {prog:Program} {w:World} {A:Around} {E:Value -> Shared -> Prop} {s:Shared} {K:W.Frag} {x dx C f:Addr} {mA:Str -> Option Value} {name:Str} {v:Value}
end
section
variable {P:Program} {w:World} {H H':Hp} {h h':Heap} {a C dx:Addr} {fs fs':List (Str × V)}
theorem HA (hok:HOk P w H h) (e:H a = some (.ins C dx fs)):∃ mA,ObjM h a dx C mA /\ (∀ f,JF (fs.lookup f) (mA f)) /\ PySem.Within mA (fs.map (·.1)) /\ fs.length <= 1000 /\ H dx = some (.own a):=by
 obtain ⟨d,z,ne,ob,mA,n,r,q⟩:=(show ObjOk P w H h a (.ins C dx fs) from hok a _ e)
 exact ⟨mA,⟨ob,n,ne⟩,r,q,z,d⟩
end
structure Cls (K:W.Frag) (C:Addr):Prop where
 pg:W.plainGet K C Str.empty = true
 hd:W.hasDictIn K C = true
 po:W.plainOver K C = true
 sa:W.findIn K (.ref C) "__setattr__" = some (some (.builtin "object.__setattr__"))
theorem Cls.get {K:W.Frag} {C:Addr} (c:Cls K C) (f:Str):W.plainGet K C f = true:=c.pg
section
variable {X:Cx} {pins:List (Addr × Obj)} {σ:St} {H:Hp} {s:Shared} {a C dx:Addr} {fs:List (Str × V)} {f:Str} {v:V} {A:Around} {E:Value -> Shared -> Prop}
end
section
variable {X:Cx} {o e value:Expr} {f:Str} {pos pos' tpos:Pos} {ta tv:TE}
end
section
variable {X:Cx} {pins:List (Addr × Obj)} {σ:St} {H:Hp} {s:Shared} {A:Around} {E:Value -> Shared -> Prop} {Q:Value -> Shared -> Prop} {c:Value} {b:Bool}
inductive TyOf (K:W.Frag) (H:Hp):V -> Value -> Prop where
 | non:TyOf K H .non (.type "NoneType")
 | bl (x:Bool):TyOf K H (.bl x) (.type "bool")
 | int (i:Int):TyOf K H (.int i) (.type "int")
 | str (x:Str):TyOf K H (.str x) (.type "str")
 | flt (x:UInt64):TyOf K H (.flt x) (.type "float")
 | lst {a:Addr} {xs:List V} (e:H a = some (.lst xs)):TyOf K H (.ref a) (.type "list")
 | frz {a:Addr} {o:Obj} {xs:List V} (e:H a = some (.frz o (.lst xs))):TyOf K H (.ref a) (.type "list")
 | tup {a:Addr} {xs:List V} (e:H a = some (.tup xs)):TyOf K H (.ref a) (.type "tuple")
 | dK {a:Addr} {kvs:List (wB × V)} (e:H a = some (.dK kvs)):TyOf K H (.ref a) (.type "dict")
 | dT {a:Addr} {kvs:List (List wB × V)} (e:H a = some (.dT kvs)):TyOf K H (.ref a) (.type "dict")
 | ins {a C dx:Addr} {fs:List (Str × V)} (e:H a = some (.ins C dx fs)) (cl:Cls K C) (ha:W.findIn K (.ref C) "__class__" = some (some (.builtin "object.__class__")))
   (hn:W.specialIn K (.builtin "object.__class__") "__get__" = some (some (.builtin "getset_descriptor.__get__"))) (htk:W.takesIn K (.builtin "object.__class__") = some true)
   (hm:W.mroIn K C (.type "object") = some true):TyOf K H (.ref a) (.ref C)
theorem l5 {x:V} {u t:Value} (I:Inv X pins σ H s) (rx:RelV x u) (ty:TyOf X.K H x t) (e:W.kitOne X.K t c = some b) (h:∀ tk,Q (.bool b) { s with toks:=tk }) :
  wpAny (model X.prog X.w) A (call (.builtin "isinstance") [u,c]) Q E s:=by
 cases ty with
 | non=>cases (show u = Value.none from rx);exact W.kia_one W.kitx_none I.kIn True.intro e (fun z=>nomatch z) h
 | bl y=>cases (show u = Value.bool y from rx);exact W.kia_one W.kitx_bool I.kIn True.intro e (fun z=>nomatch z) h
 | int i=>obtain ⟨t,q⟩:=(show ∃ t,u = Value.int i t from rx);cases q;exact W.kia_one W.kitx_int I.kIn True.intro e (fun z=>nomatch z) h
 | str y=>obtain ⟨t,q⟩:=(show ∃ t,u = Value.str y t from rx);cases q;exact W.kia_one W.kitx_str I.kIn True.intro e (fun z=>nomatch z) h
 | flt y=>obtain ⟨t,q⟩:=(show ∃ t,u = Value.float y t from rx);cases q;exact W.kia_one W.kitx_float I.kIn True.intro e (fun z=>nomatch z) h
 | @lst a xs ea=>
  cases (show u = Value.ref a from rx)
  obtain ⟨_,_,n,_,h1⟩:=(show ObjOk X.prog X.w H s.heap a (.lst xs) from I.hok a _ ea)
  exact W.kia_one W.kitx_list I.kIn ⟨_,h1,rfl⟩ e (fun z=>nomatch z) h
 | @frz a ob xs ea=>
  cases (show u = Value.ref a from rx)
  obtain ⟨_,_,_,n,_,h1⟩:=(show ObjOk X.prog X.w H s.heap a (.frz ob (.lst xs)) from I.hok a _ ea)
  exact W.kia_one W.kitx_list I.kIn ⟨_,h1,rfl⟩ e (fun z=>nomatch z) h
 | @tup a xs ea=>
  cases (show u = Value.ref a from rx)
  obtain ⟨_,_,_,p⟩:=(show ObjOk X.prog X.w H s.heap a (.tup xs) from I.hok a _ ea)
  obtain ⟨o,h1,h2,_⟩:=p
  exact W.kia_one W.kitx_tuple I.kIn ⟨o,h1,h2⟩ e (fun z=>nomatch z) h
 | @dK a kvs ea=>
  cases (show u = Value.ref a from rx)
  obtain ⟨_,_,vs,_,p⟩:=(show ObjOk X.prog X.w H s.heap a (.dK kvs) from I.hok a _ ea)
  obtain ⟨o,es,ep,h1,h2,_⟩:=p
  exact W.kia_one W.kitx_dict I.kIn ⟨o,h1,h2.1⟩ e (fun z=>nomatch z) h
 | @dT a kvs ea=>
  cases (show u = Value.ref a from rx)
  obtain ⟨_,_,xs,_,o,es,ep,h1,h2,_⟩:=(show ObjOk X.prog X.w H s.heap a (.dT kvs) from I.hok a _ ea)
  exact W.kia_one W.kitx_dict I.kIn ⟨o,h1,h2.1⟩ e (fun z=>nomatch z) h
 | @ins a C dx fs ea cl ha hn htk hm=>
  cases (show u = Value.ref a from rx)
  obtain ⟨mA,O,_⟩:=HA I.hok ea
  obtain ⟨od,J,_⟩:=O.look
  exact W.kia_one (W.kitx_own (cl.get _) cl.hd ha hn htk hm) I.kIn J e (fun z=>nomatch z) h
end
structure Room (k:Nat) (A:Around):Prop where
 hd:A.handled = none
 dp:A.depth + 3 * k + 5 < recursionLimit
 un:A.units + 16 * k + 200 < cLine
theorem Room.mono {j k:Nat} {A:Around} (r:Room k A) (h:j <= k):Room j A:=⟨r.hd,by have:=r.dp;lia,by have:=r.un;lia⟩
theorem Room.deeper {k:Nat} {A:Around} (r:Room (k + 1) A) (env:Env):Room k (A.deeper env):=
 ⟨r.hd,by have:=r.dp;show A.depth + 1 + 3 * k + 5 < _;lia,by have:=r.un;show A.units + 3 + 16 * k + 200 < _;lia⟩
theorem Room.depth {k:Nat} {A:Around} (r:Room k A):A.depth < recursionLimit:=by have:=r.dp;lia
theorem Room.units {k:Nat} {A:Around} (r:Room k A):A.units + 64 < cLine:=by have:=r.un;lia
noncomputable def kG:TA:=fun _ H Q=>Q [] H
noncomputable def eN (ta:TE) (tr:TA):TA:=fun σ H Q=>ta σ H fun x H1=>tr σ H1 fun xs H2=>Q (x :: xs) H2
section
variable {X:Cx} {e:Expr} {es:List Expr} {te:TE} {t:TA} {pos:Pos}
theorem ak:PA X [] kG:=fun _ _ _ _ H Q I h=>Calls.spliced_nil ⟨[],H,I,.nil,h⟩
theorem af (ha:PE X e te) (hr:PA X es t) (hs:starEach (e :: es) X.env = (false,eval e X.env) :: starEach es X.env:=by rfl):PA X (e :: es) (eN te t):=by
 intro pos pins s σ H Q I h
 rw [hs]
 show wpAny _ _ (spliced ((false,eval e X.env) :: backTo pos (starEach es X.env))) _ _ s
 refine Calls.spliced_cons (eE (ha pins s σ H _ I h) fun u s1 hpt9=>?_)
 obtain ⟨x,H1,I1,r1,q1⟩:=hpt9
 exact eE (hr pos pins s1 σ H1 _ I1 q1) fun us s2 ⟨xs,H2,I2,r2,q2⟩=>⟨x :: xs,H2,I2,.cons r1 r2,q2⟩
noncomputable def KP (t:TA):TE:=fun σ H Q=>t σ H fun xs H1=>xs.length <= sizeLine /\ ∀ p,H1 p = none -> Q (.ref p) (d8 H1 p (.tup xs))
noncomputable def EC (t:TA):TE:=fun σ H Q=>t σ H fun xs H1=>xs.length <= sizeLine /\ ∀ p,H1 p = none -> Q (.ref p) (d8 H1 p (.lst xs))
theorem bg {x1} (h:PA X es t):PE X (.Tuple es x1 pos) (KP t):=by
 intro pins s σ H Q I hq
 refine wpAny_Tuple_spliced (eE (h pos pins s σ H _ I hq) fun us s1 ⟨xs,H1,I1,r,z,q⟩=>⟨by rw [<- r.length];exact z,?_⟩)
 have hf:H1 s1.heap.objs.size = none:=I1.hok.fresh (Nat.le_refl _)
 refine ⟨.ref s1.heap.objs.size,d8 H1 s1.heap.objs.size (.tup xs),I1.laid (t':=s1.toks) (fun b u e=>Heap.get?_push_of_some _ e) (Nat.le_refl _) ?_,rfl,q _ hf⟩
 exact ⟨z,us,r,⟨_,Heap.get?_push_size _ rfl,rfl,_,rfl⟩⟩
theorem cA (h:PA X es t):PE X (.List es pos) (EC t):=by
 intro pins s σ H Q I hq
 refine wpAny_List_spliced (eE (h pos pins s σ H _ I hq) fun us s1 ⟨xs,H1,I1,r,z,q⟩=>⟨by rw [<- r.length];exact z,?_⟩)
 have hf:H1 s1.heap.objs.size = none:=I1.hok.fresh (Nat.le_refl _)
 refine ⟨.ref s1.heap.objs.size,d8 H1 s1.heap.objs.size (.lst xs),I1.laid (t':=s1.toks) (fun b u e=>Heap.get?_push_of_some _ e) (Nat.le_refl _) ?_,rfl,q _ hf⟩
 exact ⟨z,us,0,r,Heap.get?_push_size _ rfl⟩
end
noncomputable abbrev Sp:=List V -> Hp -> VK -> XK -> Prop
noncomputable abbrev BV:=List Env -> Hp -> Shared -> XK -> Value -> Shared -> Prop
structure Env0 (P:Program) (w:World) (K:W.Frag) (mg:Str -> Option Value) (base:Heap) (A:Around) (outer:List Env) (s:Shared) (H:Hp):Prop where
 frames:A.frames = some outer
 mod:Mod K mg base
 bs:∀ b o,base.get? b = some o -> s.heap.get? b = some o /\ H b = none
 bsz:base.objs.size <= s.heap.objs.size
 funs:s.heap.FunFrames base outer
 frf:∀ b ∈ wZ outer,H b = none
 hok:HOk P w H s.heap
 bare:AllBare s.gens
 tk:NN <= s.toks
def CE (outer:List Env) (P:Program) (w:World) (H:Hp) (s:Shared) (Q:VK) (u:Value) (s':Shared):Prop:=
 ∃ v H',s'.os = s.os /\ (AllBare s'.gens /\ NN <= s'.toks) /\ Un (wZ outer) [] H H' s.heap s'.heap /\ HOk P w H' s'.heap /\ RelV v u /\ Q v H'
def CR (CX:BV) (outer:List Env) (P:Program) (w:World) (H:Hp) (s:Shared) (Q:VK) (E:XK) (r:Result) (s':Shared):Prop:=
 match r with
 | .ok (.ret u)=>CE outer P w H s Q u s'
 | .ok _=>False
 | .error e=>CX outer H s E e s'
structure FnOk (P:Program) (w:World) (K:W.Frag) (mg:Str -> Option Value) (base:Heap) (CX:BV) (k:Nat) (f:Addr) (fd:FuncData) (ps:List Str) (sp:Sp):Prop where
 len:∀ vs H Q E,sp vs H Q E -> vs.length = ps.length
 run:∀ (A:Around) (outer:List Env) (s:Shared) (H:Hp) (args:Args) (us:List Value) (vs:List V) (Q:VK) (E:XK),Room k A -> Env0 P w K mg base A outer s H -> BindsTo s fd args (ps.zip us) -> Vals vs us -> sp vs H Q E ->
  codeAny (model P w) A (.call (.ref f) args) (CR CX outer P w H s Q E) s
section
variable {X:Cx} {pins:List (Addr × Obj)} {σ:St} {H:Hp} {s s':Shared}
theorem Inv.env0 (I:Inv X pins σ H s):Env0 X.prog X.w X.K X.mg X.base X.A X.stack s H:=
 ⟨I.ok.frames,I.ok.mod,I.bs,Nat.le_trans I.ok.bsz I.sz,I.stack,I.stkFree,I.hok,I.bare,I.tk⟩
theorem Inv.after {Q:VK} {u:Value} (I:Inv X pins σ H s) (h:CE X.stack X.prog X.w H s Q u s'):EP X pins σ Q u s':=by
 obtain ⟨v,H',os,bare,un,hok,r,q⟩:=h
 obtain ⟨hh,g,d,t,os'⟩:=s'
 obtain rfl:os' = s.os:=os
 exact ⟨v,H',I.call (h':=hh) (g':=g) (d':=d) (t':=t) (ch:=[]) un hok bare.1 (fun b z=>absurd z (by simp)) (.inr bare.2),r,q⟩
end
noncomputable def wj (sp:Sp) (dvs:List V) (E:XK) (t:TA):TE:=fun σ H Q=>t σ H fun vs H1=>sp (vs ++ dvs) H1 Q E
def Binds (K:W.Frag) (fd:FuncData) (ps:List Str) (ds:List Value):Prop:=
 ∀ (s:Shared) (us:List Value),K.In s.heap -> (us ++ ds).length = ps.length -> BindsTo s fd ⟨us,[]⟩ (ps.zip (us ++ ds))
theorem Binds.all {K:W.Frag} {fd:FuncData} {ps:List Str} (h:∀ us:List Value,us.length = ps.length -> bindArgs fd ⟨us,[]⟩ = pure (ps.zip us)):Binds K fd ps []:=fun s us _ hl=>by
 rw [List.append_nil] at hl ⊢
 exact .of_eq (h us hl)
def rR (CX:BV) (X:Cx) (E:XK):Prop:=∀ (pins:List (Addr × Obj)) (σ:St) (H:Hp) (s:Shared) (e:Value) (s':Shared),Inv X pins σ H s -> CX X.stack H s E e s' -> X.xe e s'
section
variable {X:Cx} {CX:BV} {k:Nat} {f C:Addr} {fd:FuncData} {ps:List Str} {sp:Sp} {dvs:List V} {ds:List Value} {E:XK} {x m:Str} {p pos apos:Pos} {e o:Expr} {es:List Expr} {ta:TE} {t:TA}
theorem Kw {pins:List (Addr × Obj)} {σ:St} {H:Hp} {s:Shared} {Q:VK} {us:List Value} {vs:List V} (F:FnOk X.prog X.w X.K X.mg X.base CX k f fd ps sp) (hr:Room k X.A) (hb:Binds X.K fd ps ds) (hd:Vals dvs ds) (hx:rR CX X E)
  (I:Inv X pins σ H s) (r:Vals vs us) (h:sp (vs ++ dvs) H Q E):wpAny (model X.prog X.w) X.A (call (.ref f) us) (EP X pins σ Q) X.xe s:=by
 have r2:Vals (vs ++ dvs) (us ++ ds):=r.append hd
 have hl:(us ++ ds).length = ps.length:=by rw [<- r2.length];exact F.len _ _ _ _ h
 refine wpAny_call (codeAny_mono (F.run X.A X.stack s H ⟨us,[]⟩ (us ++ ds) (vs ++ dvs) Q E hr I.env0 (hb s us I.kIn hl) r2 h) fun r s' hq=>?_)
 cases r with
 | error e=>exact hx pins σ H s e s' I hq
 | ok fl=>
  cases fl with
  | ret u=>exact I.after hq
  | next=>exact False.elim hq
  | brk=>exact False.elim hq
  | cont=>exact False.elim hq
theorem aU (F:FnOk X.prog X.w X.K X.mg X.base CX k f fd ps sp) (hr:Room k X.A) (hg:Gl X x) (hm:X.mg x = some (.ref f)) (hk:W.keepIn X.K (.ref f) = true) (hb:Binds X.K fd ps ds) (hd:Vals dvs ds) (hx:rR CX X E)
  (ha:PA X (e :: es) t) (hdb:(x == ("__debug__" : Str)) = false:=by decide) (he:starEach (e :: es) X.env = (false,eval e X.env) :: starEach es X.env:=by rfl) (hpl:(backTo pos (starEach es X.env)).any (·.1) = false:=by rfl) :
  PE X (.Call (.Name x p) (e :: es) [] pos) (wj sp dvs E t):=by
 intro pins s σ H Q I h
 refine wpAny_Call_Name_kw (ki I hg hm ?_ hdb)
 refine W.callWith_K (h₀:=X.base) I.ok.mod.kin hk (eE (ha pos pins s σ H _ I h) fun us s1 ⟨vs,H1,I1,r,q⟩=>⟨I1.kIn,?_⟩) he hpl
 exact Kw F hr hb hd hx I1 r q
end
section
variable {X:Cx} {CX:BV} {k:Nat} {f C:Addr} {fd:FuncData} {ps ks:List Str} {sp:Sp} {E:XK} {x m:Str} {p pos apos kpos:Pos} {e o:Expr} {es:List Expr} {kws:List Keyword} {te ta:TE} {t tk:TA} {nm:Option Str}
variable {g:List Value -> List Value -> List Value} {gV:List V -> List V -> List V}
end
structure FnScope (N P:List Str) (sc:Scope):Prop where
 kind:sc.kind = .function
 co:sc.isCoroutine = false
 gen:sc.isGenerator = false
 nd:N.Nodup
 pre:N.take P.length = P
 par:∀ x ∈ P,sc.names.lookup x = some .local \/ sc.names.lookup x = some .cell
 nofree:∀ y ∈ sc.names,y.2 ≠ .free
theorem vm {kindOf:Str -> Option NameKind} {x:Str}:∀ {binds:List (Str × Value)} {m:Str -> Option Value},(∀ v,(x,v) ∉ binds) -> bindL kindOf binds m x = m x
 | [],_,_=>rfl
 | (n,v) :: r,m,h=>by
  unfold bindL
  rw [vm fun w hw=>h w (List.mem_cons_of_mem _ hw)]
  split
  ·have:x ≠ n:=by rintro rfl;exact h v List.mem_cons_self
   simp [this]
  ·rfl
theorem vj {kindOf:Str -> Option NameKind} {x:Str}:∀ {binds:List (Str × Value)} {m:Str -> Option Value},(∀ v,(x,v) ∉ binds) -> bindC kindOf binds m x = m x
 | [],_,_=>rfl
 | (n,v) :: r,m,h=>by
  unfold bindC
  rw [vj fun w hw=>h w (List.mem_cons_of_mem _ hw)]
  split
  ·rfl
  ·have:x ≠ n:=by rintro rfl;exact h v List.mem_cons_self
   simp [this]
theorem vk {kindOf:Str -> Option NameKind} {x:Str} {v:Value}:∀ {P:List Str} {vs:List Value} {i:Nat} {m:Str -> Option Value},P.Nodup -> P[i]? = some x -> vs[i]? = some v -> kindOf x = some .local ->
  bindL kindOf (P.zip vs) m x = some v
 | [],_,_,_,_,h,_,_=>by simp at h
 | _ :: _,[],_,_,_,_,h,_=>by simp at h
 | p :: P,w :: vs,0,m,nd,h1,h2,hk=>by
  simp at h1 h2;subst h1;subst h2
  show bindL kindOf ((p,w) :: P.zip vs) m p = _
  unfold bindL
  rw [vm fun v hv=>(List.nodup_cons.mp nd).1 (List.of_mem_zip hv).1,if_pos hk]
  simp
 | p :: P,w :: vs,i + 1,m,nd,h1,h2,hk=>by
  show bindL kindOf ((p,w) :: P.zip vs) m x = _
  unfold bindL
  exact vk (i:=i) (List.nodup_cons.mp nd).2 (by simpa using h1) (by simpa using h2) hk
theorem vi {kindOf:Str -> Option NameKind} {x:Str} {v:Value}:∀ {P:List Str} {vs:List Value} {i:Nat} {m:Str -> Option Value},P.Nodup -> P[i]? = some x -> vs[i]? = some v -> kindOf x ≠ some .local ->
  bindC kindOf (P.zip vs) m x = some v
 | [],_,_,_,_,h,_,_=>by simp at h
 | _ :: _,[],_,_,_,_,h,_=>by simp at h
 | p :: P,w :: vs,0,m,nd,h1,h2,hk=>by
  simp at h1 h2;subst h1;subst h2
  show bindC kindOf ((p,w) :: P.zip vs) m p = _
  unfold bindC
  rw [vj fun v hv=>(List.nodup_cons.mp nd).1 (List.of_mem_zip hv).1,if_neg hk]
  simp
 | p :: P,w :: vs,i + 1,m,nd,h1,h2,hk=>by
  show bindC kindOf ((p,w) :: P.zip vs) m x = _
  unfold bindC
  exact vi (i:=i) (List.nodup_cons.mp nd).2 (by simpa using h1) (by simpa using h2) hk
noncomputable def bJ (N:List Str) (vs:List V):St:=vs.map some ++ List.replicate (N.length - vs.length) none
noncomputable def mw (CX:BV) (P:Program) (w:World) (K:W.Frag) (mg:Str -> Option Value) (base:Heap) (N:List Str) (qual:Str) (scope:Scope) (f:Addr) (cd:Value) (A:Around) (outer:List Env) (s:Shared) (H:Hp) (E:XK):Cx where
 prog:=P
 w:=w
 K:=K
 mg:=mg
 base:=base
 A:=A.deeper (envOfC qual scope s.heap.objs.size f cd)
 N:=N
 s₀:=s
 H₀:=H
 env:=envOfC qual scope s.heap.objs.size f cd
 outer:=outer
 stack:=envOfC qual scope s.heap.objs.size f cd :: outer
 ex:=[]
 calm:=true
 fn:=fun _=>true
 pn:=[]
 xe:=fun e s'=>wpAny (model P w) (A.deeper (envOfC qual scope s.heap.objs.size f cd)) (leaving (envOfC qual scope s.heap.objs.size f cd) e) (fun _ s''=>CX outer H s E e s'') (fun e' s''=>CX outer H s E e' s'') s'
theorem yq {sc:Scope} {n:Nat} {x:Str} (h:sc.names.lookup x = some .cell):∃ c,(cellsFrom n sc.names []).lookup x = some c:=by
 have q:=W.cellsFrom_some sc.names n [] (.inl h)
 exact Option.isSome_iff_exists.mp q
theorem DI {CX:BV} {P:Program} {w:World} {K:W.Frag} {mg:Str -> Option Value} {base:Heap} {N ps:List Str} {qual:Str} {scope:Scope} {f:Addr} {cd:Value} {A:Around} {outer:List Env} {s s1:Shared} {H:Hp} {E:XK} {us:List Value} {vs:List V}
  (S:FnScope N ps scope) (hd:A.handled = none) (e0:Env0 P w K mg base A outer s H) (hl:vs.length = ps.length) (r:Vals vs us)
  (x:InCallC s s.heap.objs.size (bindL (envOfC qual scope s.heap.objs.size f cd).kindOf (ps.zip us) fun _=>none) (cellsFrom (s.heap.objs.size + 1) scope.names []) (bindC (envOfC qual scope s.heap.objs.size f cd).kindOf (ps.zip us) fun _=>none) s1) (htk:NN <= s1.toks) :
  Inv (mw CX P w K mg base N qual scope f cd A outer s H E) [] (bJ N vs) H s1:=by
 have hpl:ps.length <= N.length:=by have:=congrArg List.length S.pre;rw [List.length_take] at this;lia
 obtain ⟨h1,tk,rfl,hk⟩:=x.done
 have noA:∀ b:Addr,b ∉ (mw CX P w K mg base N qual scope f cd A outer s H E).ex:=fun b z=>absurd (show b ∈ ([]:List Addr) from z) (by simp)
 refine ⟨⟨e0.mod,S.kind,rfl,rfl,Nat.le_refl _,fun y z c h1 h2=>?_,fun y hy=>?_,fun y c _ h=>?_,fun _=>hd,Around.frames_deeper e0.frames,.inr ⟨rfl,rfl⟩,fun b z=>absurd z (noA b),e0.bs,e0.bsz,fun b _ _=>noA b,fun b z=>absurd z (noA b),e0.funs,e0.frf⟩,
  rfl,e0.bare,Un.kept hk,⟨_,x.toInCall.ns,fun i y v h1 h2 h3=>?_⟩,fun y c h=>⟨_,x.cell y c h⟩,e0.hok.fresh (Nat.le_refl _),fun y c h=>?_,fun p hp=>absurd (show p ∈ ([]:List (Addr × Obj)) from hp) (by simp),e0.hok.kept hk,?_,htk⟩
 ·exact name_of_addr x.apart (PySem.mem_of_lookup h1) (PySem.mem_of_lookup h2)
 ·have hy:scope.names.lookup y = some .cell \/ scope.names.lookup y = some .free:=hy
  rcases hy with hy | hy
  ·exact yq hy
  ·exact absurd rfl (S.nofree _ (PySem.mem_of_lookup hy))
 ·exact Nat.le_of_lt (x.above y c (PySem.mem_of_lookup h))
 ·have hi:i < vs.length:=by
   unfold bJ at h2
   by_cases hi:i < vs.length
   ·exact hi
   ·rw [List.getElem?_append_right (by simpa using hi)] at h2
    rw [List.getElem?_replicate] at h2
    split at h2 <;> cases h2
  have ha:vs[i]? = some v:=by
   unfold bJ at h2
   rw [List.getElem?_append_left (by simpa using hi),List.getElem?_map] at h2
   cases e:vs[i]? with
   | none=>rw [e] at h2;cases h2
   | some a=>rw [e] at h2;cases h2;rfl
  obtain ⟨u,hu,rv⟩:=r.get ha
  have hp:ps[i]? = some y:=by
   rw [<- S.pre,List.getElem?_take_of_lt (by lia)];exact h1
  have ndP:ps.Nodup:=by rw [<- S.pre];exact S.nd.sublist (List.take_sublist _ _)
  refine ⟨u,rv,?_⟩
  rcases S.par y (List.mem_of_getElem? hp) with k | k
  ·exact .inl ⟨k,vk ndP hp hu k⟩
  ·obtain ⟨c,e⟩:=yq (n:=s.heap.objs.size + 1) k
   refine .inr ⟨.inl k,c,e,?_⟩
   have q:=x.cell y c e
   rw [vi ndP hp hu (by show scope.names.lookup y ≠ _;rw [k];decide)] at q
   exact q
 ·exact e0.hok.fresh (Nat.le_of_lt (x.above y c (PySem.mem_of_lookup h)))
 ·unfold bJ
  show _ = N.length
  rw [List.length_append,List.length_map,List.length_replicate]
  lia
theorem Ci {CX:BV} {P:Program} {w:World} {K:W.Frag} {mg:Str -> Option Value} {base:Heap} {k:Nat} {f:Addr} {name qual:Str} {params:Arguments} {body:List Stmt} {scope:Scope} {dV kV doc pm cdv ct oc:Value} {an od:Option Addr}
  {osl:Array (Option Value)} {N ps:List Str} {sp:Sp} (lk:K.lookup f = some ⟨oc,od,.func (W.fnOf name qual params body scope dV kV doc pm an cdv ct),osl⟩) (hcd:W.codeIn K cdv qual = true) (S:FnScope N ps scope)
  (len:∀ vs H Q E,sp vs H Q E -> vs.length = ps.length)
  (hbody:∀ (A:Around) (outer:List Env) (s:Shared) (H:Hp) (vs:List V) (Q:VK) (E:XK),Room k (A.deeper (envOfC qual scope s.heap.objs.size f cdv)) -> sp vs H Q E ->
   ∃ t,PSs (mw CX P w K mg base N qual scope f cdv A outer s H E) body t /\ t { nx:=fun _ H'=>Q .non H',rt:=Q } (bJ N vs) H) :
  FnOk P w K mg base CX (k + 1) f (W.fnOf name qual params body scope dV kV doc pm an cdv ct) ps sp:=by
 refine ⟨len,fun A outer s H args us vs Q E hr e0 hb r hsp=>?_⟩
 have hl:=len _ _ _ _ hsp
 have KX:K.In s.heap:=e0.mod.kin.keeps fun b o e=>(e0.bs b o e).1
 have lim:s.heap.NoLimit:=e0.mod.nolimit.keeps fun b o e=>(e0.bs b o e).1
 have hkind:∀ y ∈ ps.zip us,scope.names.lookup y.1 = some .local \/ (scope.names.lookup y.1 = some .cell /\ ((cellsFrom (s.heap.objs.size + 1) scope.names []).lookup y.1).isSome = true):=fun hpt0 hy=>by
  obtain ⟨n,v⟩:=hpt0
  rcases S.par n (List.of_mem_zip hy).1 with q | q
  ·exact .inl q
  ·exact .inr ⟨q,W.cellsFrom_some _ _ _ (.inl q)⟩
 refine codeAny_call_function hr.depth (KX _ _ lk) rfl S.co S.gen rfl (W.codeRec_of KX hcd) (hb _ _ _ _ ?_)
 refine keep e0.tk (wpAny_newFunctionEnv_cells S.kind hkind fun env he s1 x htk=>?_)
 subst he
 refine ⟨lim.keeps x.toInCall.keep,codeAny_func ?_⟩
 obtain ⟨t,ht,hq⟩:=hbody A outer s H vs Q E (hr.deeper _) hsp
 have I:Inv (mw CX P w K mg base N qual scope f cdv A outer s H E) [] (bJ N vs) H s1:=DI S hr.hd e0 hl r x htk
 refine wpAny_mono (ht [] s1 (bJ N vs) H _ I hq) (fun fl s' hs=>?_) fun e s' hs=>hs
 have fin:∀ {σ':St} {H':Hp} {v:V} {u:Value},Inv (mw CX P w K mg base N qual scope f cdv A outer s H E) [] σ' H' s' -> RelV v u -> Q v H' -> CE outer P w H s Q u s':=
  fun {σ' H' v u} J rv q=>⟨v,H',J.os,⟨J.bare,J.tk⟩,J.base,J.hok,rv,q⟩
 cases fl with
 | ret u=>
  obtain ⟨v,σ',H',J,rv,q⟩:=hs
  exact fin J rv q
 | next=>
  obtain ⟨σ',H',J,q⟩:=hs
  exact fin (v:=V.non) (u:=Value.none) J rfl q
 | brk=>
  obtain ⟨_,_,_,q⟩:=hs
  exact False.elim q
 | cont=>
  obtain ⟨_,_,_,q⟩:=hs
  exact False.elim q
section
variable {X:Cx} {x:Str} {p pos:Pos} {e:Expr} {es:List Expr} {t:TA} {id T:String} {r:List V -> Hp -> VK -> Prop}
noncomputable def Mm (r:List V -> Hp -> VK -> Prop) (t:TA):TE:=fun σ H Q=>t σ H fun vs H1=>r vs H1 Q
theorem a9 (hc:CallR X (.builtin id) r) (hg:Gl X x) (hm:X.mg x = none) (hv:bootBuiltins x = some (.builtin id)) (ha:PA X (e :: es) t) (hn:x ≠ "__name__" := by decide) (hdb:(x == ("__debug__" : Str)) = false:=by decide)
  (he:starEach (e :: es) X.env = (false,eval e X.env) :: starEach es X.env:=by rfl) (hpl:(backTo pos (starEach es X.env)).any (·.1) = false:=by rfl):PE X (.Call (.Name x p) (e :: es) [] pos) (Mm r t):=by
 intro pins s σ H Q I h
 refine wpAny_Call_Name_kw (pN I hg hm hv ?_ hn hdb)
 exact PyProof.Rows.callWith_builtin1 (eE (ha pos pins s σ H _ I h) fun us s1 ⟨vs,H1,I1,r1,q1⟩=>hc pins s1 σ H1 vs us Q I1 r1 q1) he hpl
theorem hJ (hc:CallR X (.type T) r) (hg:Gl X x) (hm:X.mg x = none) (hv:bootBuiltins x = some (.type T)) (ha:PA X (e :: es) t) (hn:x ≠ "__name__" := by decide) (hdb:(x == ("__debug__" : Str)) = false:=by decide)
  (he:starEach (e :: es) X.env = (false,eval e X.env) :: starEach es X.env:=by rfl) (hpl:(backTo pos (starEach es X.env)).any (·.1) = false:=by rfl):PE X (.Call (.Name x p) (e :: es) [] pos) (Mm r t):=by
 intro pins s σ H Q I h
 refine wpAny_Call_Name_kw (pN I hg hm hv ?_ hn hdb)
 exact PyProof.Rows.callWith_type1 (eE (ha pos pins s σ H _ I h) fun us s1 ⟨vs,H1,I1,r1,q1⟩=>hc pins s1 σ H1 vs us Q I1 r1 q1) he hpl
end
end L2
namespace HT
open PySem PyProof.Rows
noncomputable def cU:List Int -> List Int -> Bool
 | [],[]=>false
 | [],_ :: _=>true
 | _ :: _,[]=>false
 | x :: xs,y :: ys=>if x = y then cU xs ys else decide (x < y)
theorem A2 (x y:Int) (xs ys:List Int):cU (x :: xs) (y :: ys) = if x = y then cU xs ys else decide (x < y):=rfl
section
open PySem.SeqAt
open PySem.AutoSeq1 (wpAny_loadPart')
open PySem.MeetsSeq PySem.MeetsSeq2 PySem.MeetsSeq3
end
section
variable {prog:Program} {w:World} {A:Around} {E:Value -> Shared -> Prop} {s:Shared}
theorem Hn {t b:Addr} {vs ws:List Value} {Q:Value -> Shared -> Prop} (ht:IsTup s.heap t vs.toArray) (hb:IsTup s.heap b ws.toArray) (hv:vs ≠ [])
  (h1:ws = [] -> Q (.ref t) s) (h2:ws ≠ [] -> Q (.ref s.heap.objs.size) { s with heap:=s.heap.push { cls:=.type "tuple",data:=.seq (vs ++ ws).toArray } })
  (hsz:vs.length + ws.length <= sizeLine):wpAny (model prog w) A (binaryOp .Add (.ref t) (.ref b)) Q E s:=by
 obtain ⟨⟨cls,dd,data,sl⟩,ho,hc,n,hd⟩:=id ht
 obtain ⟨⟨cls2,dd2,data2,sl2⟩,ho2,hc2,n2,hd2⟩:=id hb
 simp only at hc hd hc2 hd2
 subst hc hd hc2 hd2
 have e:vs.toArray ++ ws.toArray = (vs ++ ws).toArray:=by simp
 by_cases hw:ws = []
 ·exact concat_meets ⟨_,ho,rfl⟩ ⟨_,ho2,rfl⟩ noFill_tuple_add seq_tuple_add PySem.F.slot_tuple_add PySem.F.entry_tuple_add (PySem.F.args_tuple_add_2 _ _)
   (tuple_addW1 t b vs.toArray ws.toArray n n2 dd dd2 sl sl2 (by simpa using hv) (by simp [hw])) ⟨ho,ho2,h1 hw⟩
 ·refine concat_meets ⟨_,ho,rfl⟩ ⟨_,ho2,rfl⟩ noFill_tuple_add seq_tuple_add PySem.F.slot_tuple_add PySem.F.entry_tuple_add (PySem.F.args_tuple_add_2 _ _)
   (tuple_addW2 t b vs.toArray ws.toArray n n2 dd dd2 sl sl2 (by simpa using hv) (by simpa using hw) (by rw [List.size_toArray,List.size_toArray];exact hsz)) ⟨ho,ho2,?_⟩
  rw [e]
  exact h2 hw
noncomputable def Nl (n d:Nat):Option Int -> Nat
 | none=>d
 | some v=>if v < 0 then (v + (n:Int)).toNat else min v.toNat n
end
end HT
namespace L2
open PySem PySem.Spec PyProof.Rows
noncomputable abbrev TO:=St -> Hp -> (Option Int -> Hp -> Prop) -> Prop
def PO (X:Cx) (e:Option Expr) (t:TO):Prop:=
 ∀ (pins:List (Addr × Obj)) (s:Shared) (σ:St) (H:Hp) (Q:Option Int -> Hp -> Prop),Inv X pins σ H s -> t σ H Q ->
  wpAny (model X.prog X.w) X.A (evalPart e X.env) (fun u s'=>∃ o H',Inv X pins σ H' s' /\ IsPart u o /\ Q o H') X.xe s
noncomputable def C1:TO:=fun _ H Q=>Q none H
noncomputable def Jv (t:TE):TO:=fun σ H Q=>t σ H fun x H1=>∃ i,x = .int i /\ Q (some i) H1
theorem ke {ns:List Int}:∀ {us:List Value},Vals (ns.map V.int) us -> IntsAre us ns:=by
 induction ns with
 | nil=>intro us r;rw [List.map_nil] at r;cases r;exact .nil
 | cons n ns ih=>
  intro us r
  rw [List.map_cons] at r
  cases r with
  | cons r1 r2=>
   obtain ⟨t,e⟩:=r1
   subst e
   exact .cons n t (ih r2)
section
variable {X:Cx} {e:Expr} {te:TE} {lo hi:Option Expr} {tl th:TO} {pos p2:Pos}
theorem CC:PO X none C1:=by
 intro pins s σ H Q I h
 rw [evalPart_none]
 exact wpAny_pure ⟨none,H,I,.none,h⟩
theorem rG (h:PE X e te):PO X (some e) (Jv te):=by
 intro pins s σ H Q I hw
 rw [evalPart_some]
 refine eE (h pins s σ H _ I hw) fun u s1 hpt9=>?_
 obtain ⟨x,H1,I1,r1,q1⟩:=hpt9
 obtain ⟨i,rfl,q⟩:=q1
 obtain ⟨t,rfl⟩:=r1
 exact ⟨some i,H1,I1,.int i t,q⟩
def Oa (X:Cx) (r:V -> Option Int -> Option Int -> Hp -> VK -> Prop):Prop:=
 ∀ (pins:List (Addr × Obj)) (s:Shared) (σ:St) (H:Hp) (x:V) (v vl vu:Value) (lo hi:Option Int) (sl:Addr) (Q:VK),Inv X pins σ H s -> RelV x v -> s.heap.IsSliceOf sl vl vu .none -> IsPart vl lo -> IsPart vu hi -> r x lo hi H Q ->
  ∃ T id,typeLookup (.type T) "__getitem__" = pure (some (.builtin id)) /\ s.TypeIs v T /\ wpAny (model X.prog X.w) X.A (getItem v (.ref sl)) (EP X pins σ Q) X.xe s
noncomputable def Ov (r:V -> Option Int -> Option Int -> Hp -> VK -> Prop) (te:TE) (tl th:TO):TE:=fun σ H Q=>te σ H fun x H1=>tl σ H1 fun l H2=>th σ H2 fun u H3=>r x l u H3 Q
theorem tR {r:V -> Option Int -> Option Int -> Hp -> VK -> Prop} (hr:Oa X r) (he:PE X e te) (hl:PO X lo tl) (hu:PO X hi th):PE X (.Subscript e (.Slice lo hi none p2) pos) (Ov r te tl th):=by
 intro pins s σ H Q I h
 refine Subscript_ (eE (he pins s σ H _ I h) fun v s1 hpt9=>?_)
 obtain ⟨x,H1,I1,r1,q1⟩:=hpt9
 refine wpAny_Slice (eE (hl pins s1 σ H1 _ I1 q1) fun vl s2 ⟨l,H2,I2,pl,q2⟩=>eE (hu pins s2 σ H2 _ I2 q2) fun vu s3 hpt9=>?_)
 obtain ⟨u,H3,I3,pu,q3⟩:=hpt9
 rw [evalPart_none]
 refine wpAny_pure ?_
 have I4:Inv X pins σ H3 { s3 with heap:=s3.heap.push { cls:=.type "slice",data:=.fields #[vl,vu,.none] } }:=I3.kept (t':=s3.toks) fun b ob q=>Heap.get?_push_of_some _ q
 obtain ⟨T,id,hT,ht,hg⟩:=hr pins { s3 with heap:=s3.heap.push { cls:=.type "slice",data:=.fields #[vl,vu,.none] } } σ H3 x v vl vu l u s3.heap.objs.size Q I4 r1 (Heap.IsSliceOf.new ..) pl pu q3
 show wpAny (model X.prog X.w) X.A (subscriptTail e (.Slice lo hi none p2) v (.ref s3.heap.objs.size)) (EP X pins σ Q) X.xe { s3 with heap:=s3.heap.push { cls:=.type "slice",data:=.fields #[vl,vu,.none] } }
 exact tail_any (ops:=[.ref s3.heap.objs.size,v]) ht hT hg (by with_unfolding_all rfl)
theorem Vals.nil_iff {xs:List V} {us:List Value} (r:Vals xs us):us = [] ↔ xs = []:=by
 cases r with
 | nil=>simp
 | cons _ _=>simp
end
noncomputable def x4 (n:Nat) (i:Int):Option Nat:=if 0 <= i then (if i < n then some i.toNat else none) else if -(n:Int) <= i then some (i + n).toNat else none
noncomputable def b7 {α:Type} (xs:List α) (i:Int):Option α:=(x4 xs.length i).bind fun j=>xs[j]?
theorem Co {n:Nat} {i:Int} {j:Nat} (h:x4 n i = some j):seqIndex? i n = some j /\ j < n /\ -(n:Int) <= i /\ i < n:=by
 unfold x4 at h
 by_cases h0:0 <= i
 ·rw [if_pos h0] at h
  by_cases h1:i < n
  ·rw [if_pos h1] at h
   have e:i.toNat = j:=Option.some.inj h
   exact ⟨by rw [seqIndex_of h0 h1,e],by lia,by lia,h1⟩
  ·rw [if_neg h1] at h;cases h
 ·rw [if_neg h0] at h
  by_cases h1:-(n:Int) <= i
  ·rw [if_pos h1] at h
   have e:(i + n).toNat = j:=Option.some.inj h
   exact ⟨by rw [seqIndex_neg (by lia) h1,e],by lia,h1,by lia⟩
  ·rw [if_neg h1] at h;cases h
theorem wI {α:Type} {xs:List α} {i:Int} {v:α} (h:b7 xs i = some v):∃ j,seqIndex? i xs.length = some j /\ xs[j]? = some v /\ j < xs.length /\ -(xs.length:Int) <= i /\ i < xs.length:=by
 unfold b7 at h
 cases e:x4 xs.length i with
 | none=>rw [e] at h;cases h
 | some j=>
  rw [e] at h
  obtain ⟨h1,h2,h3,h4⟩:=Co e
  exact ⟨j,h1,h,h2,h3,h4⟩
def Hi (b:Expr):Prop:=∀ o i,subscripted b false o i = operate [o,i] (getItem o i)
def IxR (X:Cx) (r:R2):Prop:=
 ∀ (value slice:Expr) (pins:List (Addr × Obj)) (s:Shared) (σ:St) (H:Hp) (x y:V) (v u:Value) (Q:VK),Inv X pins σ H s -> RelV x v -> RelV y u -> r x y H Q ->
  subscripted slice false v u = operate [v,u] (getItem v u) -> wpAny (model X.prog X.w) X.A (subscriptTail value slice v u) (EP X pins σ Q) X.xe s
def Lf (X:Cx) (id:String) (r:V -> List V -> Hp -> VK -> Prop):Prop:=
 ∀ (pins:List (Addr × Obj)) (s:Shared) (σ:St) (H:Hp) (x:V) (xs:List V) (v:Value) (us:List Value) (Q:VK),Inv X pins σ H s -> RelV x v -> Vals xs us -> r x xs H Q ->
  wpAny (model X.prog X.w) X.A (call (.builtin id) (v :: us)) (EP X pins σ Q) X.xe s
section
variable {X:Cx} {a b:Expr} {ta tb:TE} {pos:Pos}
theorem IxR.or {r r':R2} (h:IxR X r) (h':IxR X r'):IxR X (fun x y H Q=>r x y H Q \/ r' x y H Q):=by
 intro value slice pins s σ H x y v u Q I rx ry q hs
 rcases q with q | q
 ·exact h value slice pins s σ H x y v u Q I rx ry q hs
 ·exact h' value slice pins s σ H x y v u Q I rx ry q hs
theorem aK {r:R2} (hr:IxR X r) (ha:PE X a ta) (hb:PE X b tb) (hs:Hi b):PE X (.Subscript a b pos) (KO r ta tb):=by
 intro pins s σ H Q I h
 exact Subscript_ (JR ha hb I h fun v u s2 x y H2 I2 rx ry q=>hr a b pins s2 σ H2 x y v u Q I2 rx ry q (hs _ _))
noncomputable def LX (K:W.Frag):R2:=fun x y H Q=>∃ p xs i v,x = .ref p /\ y = .int i /\ SqL K H p xs /\ b7 xs i = some v /\ Q v H
noncomputable def LZ (K:W.Frag):R2:=fun x y H Q=>∃ p xs i v,x = .ref p /\ y = .int i /\ SqT K H p xs /\ b7 xs i = some v /\ Q v H
noncomputable def LY:R2:=fun x y H Q=>∃ z i c,x = .str z /\ y = .int i /\ z.length <= sizeLine /\ b7 z.cps.toList i = some c /\ Q (.str ⟨#[c]⟩) H
theorem ix_list:IxR X (LX X.K):=by
 intro value slice pins s σ H x y v u Q I rx ry h hs
 obtain ⟨p,xs,i,z,rfl,rfl,hq,he,q⟩:=h
 cases rx
 obtain ⟨t,rfl⟩:=ry
 obtain ⟨its,r,pl,hz⟩:=I.list hq
 obtain ⟨j,h1,h2,h3,h4,h5⟩:=wI he
 obtain ⟨w,ew,rw'⟩:=r.get h2
 have hl:=r.length
 have hn:=pO
 have fin:EP X pins σ Q w s:=⟨z,H,I,rw',q⟩
 by_cases h0:0 <= i
 ·have hj:i.toNat = j:=by
   rw [seqIndex_of h0 h5] at h1
   exact Option.some.inj h1
  exact item_listR pl.isList h0 (by lia) (by rw [hj];simpa using ew) fin hs
 ·have hj:(i + (its.toArray.size:Int)).toNat = j:=by
   rw [seqIndex_neg (by lia) h4] at h1
   rw [List.size_toArray,<- hl]
   exact Option.some.inj h1
  exact subscriptTail_builtinR (x:=w) pl.isList.typeIs slot_list_getitem.lookup
   (wpAny_getItem_list_neg (Q:=fun r s'=>r = w /\ EP X pins σ Q r s') pl.isList (by lia) (by rw [List.size_toArray] <;> lia) (by lia) (by rw [hj];simpa using ew) ⟨rfl,fin⟩) hs
theorem ix_tup:IxR X (LZ X.K):=by
 intro value slice pins s σ H x y v u Q I rx ry h hs
 obtain ⟨p,xs,i,z,rfl,rfl,hq,he,q⟩:=h
 cases rx
 obtain ⟨t,rfl⟩:=ry
 obtain ⟨its,r,pl,hz⟩:=I.tuple hq
 obtain ⟨j,h1,h2,h3,h4,h5⟩:=wI he
 obtain ⟨w,ew,rw'⟩:=r.get h2
 have hl:=r.length
 have hn:=pO
 have fin:EP X pins σ Q w s:=⟨z,H,I,rw',q⟩
 exact subscriptTail_builtinR (x:=w) pl.typeIs slot_tuple_getitem.lookup
  (getItem_tuple (j:=j) (Q:=fun r s'=>r = w /\ EP X pins σ Q r s') pl (by lia) (by lia) (by rw [List.size_toArray,<- hl];exact h1) (by simpa using ew) ⟨rfl,fin⟩) hs
theorem J2:IxR X LY:=by
 intro value slice pins s σ H x y v u Q I rx ry h hs
 obtain ⟨z,i,c,rfl,rfl,hz,he,q⟩:=h
 obtain ⟨t,rfl⟩:=rx
 obtain ⟨t',rfl⟩:=ry
 obtain ⟨j,h1,h2,h3,h4,h5⟩:=wI he
 have hl:z.cps.toList.length = z.length:=by simp [Str.length]
 rw [hl] at h1 h4 h5
 have hn:=pO
 exact tail_any (typeIs_str s z t) slot_str_getitem.lookup (getItem_str (c:=c) (by
  have e1:decide (i < -(2 ^ 63:Int)) = false:=decide_eq_false (by lia)
  have e2:decide (i ≥ 2 ^ 63) = false:=decide_eq_false (by lia)
  rw [e1,e2,Bool.or_false]) (by rw [h1];simpa using h2) ⟨.str ⟨#[c]⟩,H,I.tok _,⟨_,rfl⟩,q⟩) hs
noncomputable def Nj (K:W.Frag):R2:=fun x y H Q=>LX K x y H Q \/ LZ K x y H Q \/ LY x y H Q
theorem aC:IxR X (Nj X.K):=ix_list.or (ix_tup.or J2)
theorem A4 (its:List Value) (n j:Nat) (u:Value):Obj.mapSeq (·.setIfInBounds j u) { cls:=.type "list",data:=.seq its.toArray n } = { cls:=.type "list",data:=.seq (its.set j u).toArray n }:=by
 simp [Obj.mapSeq]
theorem Inv.lst {pins:List (Addr × Obj)} {σ:St} {H:Hp} {s:Shared} {p:Addr} {xs:List V} (I:Inv X pins σ H s) (h:H p = some (.lst xs)) :
  ∃ (its:List Value) (n:Nat),Vals xs its /\ s.heap.get? p = some { cls:=.type "list",data:=.seq its.toArray n } /\ xs.length <= sizeLine:=by
 obtain ⟨z,its,n,r,e⟩:=I.hok p _ h
 exact ⟨its,n,r,e,z⟩
theorem Inv.lstUpd {pins:List (Addr × Obj)} {σ:St} {H:Hp} {s:Shared} {p:Addr} {xs ys:List V} {its its':List Value} {n n':Nat} {f:Obj -> Obj} (I:Inv X pins σ H s) (h:H p = some (.lst xs))
  (ho:s.heap.get? p = some { cls:=.type "list",data:=.seq its.toArray n }) (hf:f { cls:=.type "list",data:=.seq its.toArray n } = { cls:=.type "list",data:=.seq its'.toArray n' }) (r:Vals ys its') (hz:ys.length <= sizeLine) (t:Nat) (ht:s.toks <= t \/ NN <= t:=by first | assumption | exact .inl (by lia) | exact .inl (by dsimp only;lia) | exact .inr (by assumption) | exact .inr (L2.Inv.tk (by assumption)) | exact .inr (Nat.le_succ_of_le (by assumption)) | exact .inr (by dsimp only at *;lia)) :
  Inv X pins σ (d8 H p (.lst ys)) { s with heap:=s.heap.update p f,toks:=t }:=by
 have e:(s.heap.update p f).get? p = some { cls:=.type "list",data:=.seq its'.toArray n' }:=by
  rw [Heap.get?_update_self f ho (by rw [hf] <;> rfl),hf]
 refine I.write (x:=p) (e:=p) (by rw [h];trivial) (.inl rfl) (fun b u hb q=>(Heap.get?_update_other _ _ (Ne.symm hb)).trans q) ⟨_,e⟩ ?_
 exact ⟨hz,its',n',r,e⟩
noncomputable def Jn:V -> V -> V -> Hp -> (Hp -> Prop) -> Prop:=fun o i v H Q=>∃ p xs k j,o = .ref p /\ i = .int k /\ H p = some (.lst xs) /\ x4 xs.length k = some j /\ Q (d8 H p (.lst (xs.set j v)))
theorem ub:Lh X Jn:=by
 intro pins s σ H o i v ov iv u Q I ro ri rv h
 obtain ⟨p,xs,k,j,rfl,rfl,hp,hj,q⟩:=h
 cases ro
 obtain ⟨t,rfl⟩:=ri
 obtain ⟨its,n,r,ho,hz⟩:=I.lst hp
 obtain ⟨h1,h2,h3,h4⟩:=Co hj
 have hl:=r.length
 have hn:=pO
 have I':Inv X pins σ (d8 H p (.lst (xs.set j v))) { s with heap:=s.heap.update p (Obj.mapSeq (·.setIfInBounds j u)) }:=
  I.lstUpd hp ho (A4 its n j u) (r.set rv j) (by rw [List.length_set];exact hz) s.toks
 by_cases h0:0 <= k
 ·have hk:k.toNat = j:=by
   rw [seqIndex_of h0 h4] at h1
   exact Option.some.inj h1
  exact W.ki_setAt ho h0 (by lia) (by rw [List.size_toArray,<- hl];exact h4) (by rw [hk];exact ⟨_,I',q⟩)
 ·have hk:(k + (its.toArray.size:Int)).toNat = j:=by
   rw [seqIndex_neg (by lia) h3] at h1
   rw [List.size_toArray,<- hl]
   exact Option.some.inj h1
  exact W.ki_setBack ho (by lia) (by rw [List.size_toArray,<- hl];exact h3) (by lia) (by rw [hk];exact ⟨_,I',q⟩)
theorem CallR.or {f:Value} {r r':List V -> Hp -> VK -> Prop} (h:CallR X f r) (h':CallR X f r'):CallR X f (fun xs H Q=>r xs H Q \/ r' xs H Q):=by
 intro pins s σ H xs us Q I rs q
 rcases q with q | q
 ·exact h pins s σ H xs us Q I rs q
 ·exact h' pins s σ H xs us Q I rs q
theorem n8:CallR X (.type "list") (fun xs H Q=>∃ p ys,xs = [.ref p] /\ (SqL X.K H p ys \/ SqT X.K H p ys) /\ ∀ l,H l = none -> Q (.ref l) (d8 H l (.lst ys))):=by
 intro pins s σ H xs us Q I r h
 obtain ⟨p,ys,rfl,hq,q⟩:=h
 obtain ⟨u,rfl,rx⟩:=C5 r
 cases rx
 have fin:∀ (its:List Value),Vals ys its -> ys.length <= sizeLine -> ∀ (h':Heap) (c':Nat),(∀ b o',s.heap.get? b = some o' -> h'.get? b = some o') ->
   h'.get? s.heap.objs.size = some { cls:=.type "list",dict:=none,data:=.seq its.toArray c',slots:=#[] } -> EP X pins σ Q (.ref s.heap.objs.size) { s with heap:=h' }:=fun its r' hz h' c' kp e=>
  ⟨.ref s.heap.objs.size,_,I.laid (t':=s.toks) kp (Nat.le_refl _) (show ObjOk X.prog X.w _ h' _ (.lst ys) from ⟨hz,its,c',r',e⟩),rfl,q _ (I.hok.fresh (Nat.le_refl _))⟩
 rcases hq with hq | hq
 ·obtain ⟨its,r',pl,hz⟩:=I.list hq
  have hlen:=r'.length
  obtain ⟨o,ho,hc,n,hd⟩:=pl.isList
  exact call_list_seq p (.inl rfl) ho hc hd (fun h' c' kp e=>fin its r' hz h' c' kp e) (by simp only [List.size_toArray] <;> lia)
 ·obtain ⟨its,r',pl,hz⟩:=I.tuple hq
  have hlen:=r'.length
  obtain ⟨o,ho,hc,n,hd⟩:=pl
  exact call_list_seq p (.inr rfl) ho hc hd (fun h' c' kp e=>fin its r' hz h' c' kp e) (by simp only [List.size_toArray] <;> lia)
theorem f6:CallR X (.type "tuple") (fun xs H Q=>∃ p ys,xs = [.ref p] /\ ((SqL X.K H p ys /\ ∀ l,H l = none -> Q (.ref l) (d8 H l (.tup ys))) \/ (SqT X.K H p ys /\ Q (.ref p) H))):=by
 intro pins s σ H xs us Q I r h
 obtain ⟨p,ys,rfl,h⟩:=h
 obtain ⟨u,rfl,rx⟩:=C5 r
 cases rx
 rcases h with ⟨hq,q⟩ | ⟨hq,q⟩
 ·obtain ⟨its,r',pl,hz⟩:=I.list hq
  have hlen:=r'.length
  refine call_tuple_list pl.isList (fun h' kp=>?_) (by simp only [List.size_toArray] <;> lia)
  have I1:Inv X pins σ H { s with heap:=h' }:=I.kept (t':=s.toks) kp
  have I2:Inv X pins σ (d8 H h'.objs.size (.tup ys)) { s with heap:=h'.push { cls:=.type "tuple",data:=.seq its.toArray } }:=
   I1.laid (t':=s.toks) (fun b o e=>Heap.get?_push_of_some _ e) (Nat.le_refl _) (show ObjOk X.prog X.w _ _ _ (.tup ys) from ⟨hz,its,r',IsTup.new _ _⟩)
  exact ⟨.ref h'.objs.size,_,I2,rfl,q _ (I1.hok.fresh (Nat.le_refl _))⟩
 ·obtain ⟨its,r',pl,hz⟩:=I.tuple hq
  exact call_tuple_same pl ⟨.ref p,H,I,rfl,q⟩
def Oy (K:W.Frag) (T:String) (x:V) (H:Hp):Prop:=match x with
 | .str _=>T = "str"
 | .int _=>T = "int"
 | .ref p=>(T = "list" /\ ∃ xs,SqL K H p xs) \/ (T = "tuple" /\ ∃ o,K.lookup p = some o /\ o.cls = .type "tuple" /\ o.dict = none) \/
   (T = "dict" /\ ((∃ kvs,H p = some (.dK kvs)) \/ ∃ kvs,H p = some (.dT kvs))) \/ (T = "set" /\ ∃ S n,H p = some (.set S n))
 | _=>False
theorem G3 {pins:List (Addr × Obj)} {σ:St} {H:Hp} {s:Shared} {T:String} {x:V} {v:Value} (I:Inv X pins σ H s) (r:RelV x v) (ty:Oy X.K T x H) :
  s.TypeIs v T /\ ∀ a,v = .ref a -> ∃ ob,s.heap.get? a = some ob /\ ob.dict = none:=by
 cases x with
 | str z=>
  obtain ⟨t,rfl⟩:=r
  cases (show T = "str" from ty)
  exact ⟨typeIs_str s z t,fun _ e=>nomatch e⟩
 | int i=>
  obtain ⟨t,rfl⟩:=r
  cases (show T = "int" from ty)
  exact ⟨typeIs_int s i t,fun _ e=>nomatch e⟩
 | ref p=>
  cases r
  rcases ty with ⟨rfl,xs,hq⟩ | ⟨rfl,o,hk,hc,hd⟩ | ⟨rfl,hk⟩ | ⟨rfl,S,n,hk⟩
  ·obtain ⟨its,_,pl,_⟩:=I.list hq
   refine ⟨pl.isList.typeIs,fun a e=>?_⟩
   cases e
   obtain ⟨o,n,e,c,hd,_⟩:=pl
   exact ⟨o,e,hd⟩
  ·refine ⟨⟨o,I.kIn p o hk,hc⟩,fun a e=>?_⟩
   cases e
   exact ⟨o,I.kIn _ o hk,hd⟩
  ·have z:∃ o,s.heap.get? p = some o /\ o.ExactDict:=by
    rcases hk with ⟨kvs,hk⟩ | ⟨kvs,hk⟩
    ·obtain ⟨_,_,_,_,o,_,_,e,ex,_⟩:=I.hok p _ hk
     exact ⟨o,e,ex⟩
    ·obtain ⟨_,_,_,_,o,_,_,e,ex,_⟩:=I.hok p _ hk
     exact ⟨o,e,ex⟩
   obtain ⟨o,e,ex⟩:=z
   refine ⟨⟨o,e,ex.1⟩,fun a e2=>?_⟩
   cases e2
   exact ⟨o,e,ex.2.1⟩
  ·obtain ⟨o,_,_,_,e,ex,_⟩:=I.hok p _ hk
   refine ⟨⟨o,e,ex.1⟩,fun a e2=>?_⟩
   cases e2
   exact ⟨o,e,ex.2.1⟩
 | _=>exact False.elim ty
noncomputable def IL (K:W.Frag) (T:String) (r:V -> List V -> Hp -> VK -> Prop) (to:TE) (t:TA):TE:=fun σ H Q=>to σ H fun x H1=>Oy K T x H1 /\ t σ H1 fun xs H2=>r x xs H2 Q
variable {o e:Expr} {es:List Expr} {to:TE} {t:TA} {name:Str} {apos cpos:Pos} {T id:String} {r:V -> List V -> Hp -> VK -> Prop}
theorem gK (pa:PlainAttrs T) (slot:Slot T name id) (hty:typeOf (.builtin id) = pure (.type "method_descriptor")) (hm:Lf X id r) (ho:PE X o to) (ha:PA X (e :: es) t)
  (hbase:attributeBase o name X.env (eval o X.env) = eval o X.env:=by rfl)
  (hfew:((backTo cpos (starEach (e :: es) X.env)).all (fun x=>!x.1) && (backToKw cpos (keywordEach [] X.env)).all (fun x=>x.1.isSome)
   && decide ((e :: es).length + ([]:List Keyword).length + (if ([]:List Keyword).isEmpty then 0 else 1) < 30)) = true:=by rfl)
  (hline:(apos.endLine == cpos.line) = true:=by rfl) (hs:starEach (e :: es) X.env = (false,eval e X.env) :: starEach es X.env:=by rfl) (hplain:(backTo cpos (starEach es X.env)).any (·.1) = false:=by rfl) :
  PE X (.Call (.Attribute o name apos) (e :: es) [] cpos) (IL X.K T r to t):=by
 intro pins s σ H Q I h
 refine wpAny_Call_method_late hbase hfew hline rfl (eE (ho pins s σ H _ I h) fun v s1 hpt9=>?_)
 obtain ⟨x,H1,I1,r1,ty,q1⟩:=hpt9
 obtain ⟨h1,h2⟩:=G3 I1 r1 ty
 refine ⟨T,id,pa,slot,hty,h1,h2,?_⟩
 have hA:=ha cpos pins s1 σ H1 _ I1 q1
 rw [hs] at hA ⊢
 refine Calls.callWith_builtin (by show (false || (backTo cpos (starEach es X.env)).any (·.1)) = false;rw [hplain] <;> rfl) (Calls.evalArgs_plain ?_)
 exact eE hA fun us s2 ⟨vs,H2,I2,r2,q2⟩=>hm pins s2 σ H2 x vs v us Q I2 r1 r2 q2
end
def N7 (X:Cx) (id:String) (r:V -> List V -> Hp -> VK -> Prop):Prop:=
 ∀ (pins:List (Addr × Obj)) (s:Shared) (σ:St) (H:Hp) (x:V) (xs:List V) (v:Value) (us:List Value) (Q:VK),Inv X pins σ H s -> RelV x v -> Vals xs us -> r x xs H Q ->
  wpAny (model X.prog X.w) X.A (call (.builtin id) (v :: us)) (EP X pins σ Q) X.xe s
theorem Vals.one {x:V} {us:List Value} (h:Vals [x] us):∃ u,us = [u] /\ RelV x u:=by
 cases h with
 | cons r t=>cases t;exact ⟨_,rfl,r⟩
theorem Vals.two {x y:V} {us:List Value} (h:Vals [x,y] us):∃ u v,us = [u,v] /\ RelV x u /\ RelV y v:=by
 cases h with
 | cons r t=>
  cases t with
  | cons q t=>cases t;exact ⟨_,_,rfl,r,q⟩
section
variable {X:Cx} {pins:List (Addr × Obj)} {σ:St} {H:Hp} {s:Shared} {l b:Addr} {xs ys zs:List V}
theorem Inv.lset {its its':List Value} {n:Nat} {f:Array Value -> Array Value} {t':Nat} (I:Inv X pins σ H s) (hH:H l = some (.lst xs))
  (e:s.heap.get? l = some { cls:=.type "list",data:=.seq its.toArray n }) (hf:f its.toArray = its'.toArray) (hv:Vals ys its') (hz:ys.length <= sizeLine) (ht:s.toks <= t' \/ NN <= t':=by first | assumption | exact .inl (by lia) | exact .inl (by dsimp only;lia) | exact .inr (by assumption) | exact .inr (L2.Inv.tk (by assumption)) | exact .inr (Nat.le_succ_of_le (by assumption)) | exact .inr (by dsimp only at *;lia)) :
  Inv X pins σ (d8 H l (.lst ys)) { s with heap:=s.heap.update l (Obj.mapSeq f),toks:=t' }:=by
 have q:=PySem.IsL.update e f
 rw [hf] at q
 refine I.write (x:=l) (e:=l) (by rw [hH];exact trivial) (.inl rfl) (fun b' u hb hu=>(Heap.get?_update_other s.heap (Obj.mapSeq f) (Ne.symm hb)).trans hu) ⟨_,q⟩ ?_
 exact ⟨hz,its',_,hv,q⟩
theorem Inv.lnew {its:List Value} {t':Nat} (I:Inv X pins σ H s) (hv:Vals ys its) (hz:ys.length <= sizeLine) (ht:s.toks <= t' \/ NN <= t':=by first | assumption | exact .inl (by lia) | exact .inl (by dsimp only;lia) | exact .inr (by assumption) | exact .inr (L2.Inv.tk (by assumption)) | exact .inr (Nat.le_succ_of_le (by assumption)) | exact .inr (by dsimp only at *;lia)) :
  Inv X pins σ (d8 H s.heap.objs.size (.lst ys)) { s with heap:=s.heap.push { cls:=.type "list",data:=.seq its.toArray },toks:=t' }:=
 I.laid (fun _ _ q=>Heap.get?_push_of_some _ q) (Nat.le_refl _) ⟨hz,its,0,hv,Heap.get?_push_size _ rfl⟩
theorem Inv.fresh (I:Inv X pins σ H s):H s.heap.objs.size = none:=I.hok.fresh (Nat.le_refl _)
theorem Inv.lstM (I:Inv X pins σ H s) (hH:H l = some (.lst xs)):xs.length <= sizeLine /\ ∃ (its:List Value) (n:Nat),Vals xs its /\ xs.length = its.length /\ s.heap.get? l = some { cls:=.type "list",data:=.seq its.toArray n }:=by
 obtain ⟨z,its,n,r,e⟩:=I.hok l _ hH
 exact ⟨z,its,n,r,r.length,e⟩
theorem FT {n:Nat} (h:n <= sizeLine):Builtin.List.listTooLong n = false:=by
 unfold Builtin.List.listTooLong
 exact decide_eq_false (by lia)
end
section
variable {X:Cx}
noncomputable def rAppend:V -> List V -> Hp -> VK -> Prop:=fun x vs H Q=>∃ l xs y,x = .ref l /\ vs = [y] /\ H l = some (.lst xs) /\ xs.length < sizeLine /\ Q .non (d8 H l (.lst (xs ++ [y])))
theorem dF:N7 X "list.append" rAppend:=by
 intro pins s σ H x vs v us Q I rx rv h
 obtain ⟨l,xs,y,rfl,rfl,hH,hz,q⟩:=h
 cases rx
 obtain ⟨u,rfl,ru⟩:=rv.one
 obtain ⟨z,its,n,r,hl,e⟩:=I.lstM hH
 refine call_meets F.slot_list_append ⟨_,e,rfl⟩ F.entry_list_append (F.args_list_append_2 _ _) (PySem.list_append l its.toArray n u (by rw [List.size_toArray];lia)) ⟨e,?_⟩
 refine ⟨.non,_,I.lset (its':=its ++ [u]) hH e (by simp) (r.append (.cons ru .nil)) ?_,rfl,q⟩
 rw [List.length_append,List.length_singleton]
 lia
end
section
variable {prog:Program} {w:World} {A:Around} {E:Value -> Shared -> Prop} {s:Shared}
end
section
variable {X:Cx}
end
end L2
namespace Att
open PySem PySem.W PySem.Calls PyProof.Rows
theorem qZ {P:Params} {h:Heap}:∀ (ns:List Int) (vs:List Value),WellAll P h vs (ns.map WData.int) -> IntsAre vs ns:=by
 intro ns
 induction ns with
 | nil=>
  intro vs w
  rw [List.map_nil] at w
  cases w
  exact .nil
 | cons n ns ih=>
  intro vs w
  rw [List.map_cons] at w
  cases w with
  | cons a b=>
   cases a
   exact .cons _ _ (ih _ b)
theorem Ep {l:OpenLaw} {n:Nat} (hn:l.most = some n) {P:Params} {h:Heap} {args:List WData} {vals:List Value}
  (hpre:l.row.toRowW.claim.pre args = true) (hwl:WellAll P h vals args) :
  ∃ a vs ns,vals = [Value.ref a] /\ args = [WData.list (ns.map WData.int)] /\ h.get? a = some { cls:=.type "list",data:=.seq vs.toArray } /\ IntsAre vs ns /\ ns.length <= n:=by
 have hsh:WShape.hasAll [] args [.list .int] = true:=(pre_splitW hpre).1
 have hc:l.pre.holds [] { args:=args } = true:=(pre_splitW hpre).2
 obtain ⟨d,r,rfl,h1,h2⟩:=hasAllW_cons hsh
 obtain rfl:=hasAllW_nil h2
 obtain ⟨xs,rfl,h3⟩:=hasW_list h1
 obtain ⟨ns,rfl⟩:=items_int h3
 have hlen:ns.length <= n:=by
  unfold OpenLaw.pre at hc
  have h4:(WTm.not (.lt (.lit (.int (n:Int))) (.len (.arg 0)))).holds [] { args:=[.list (ns.map .int)] } = true:=by
   have h4:=(holds_andW hc).1
   rw [hn] at h4
   exact h4
  have h5:=condW_of h4 (w_not (w_lt w_lit (w_len_list (w_arg rfl))))
  rw [List.length_map] at h5
  refine Nat.le_of_not_lt fun q=>?_
  have q':(n:Int) < ((ns.length:Nat):Int):=by omega
  first
   | (rw [decide_eq_true q'] at h5;exact absurd h5 (by decide))
   | (simp at h5;omega)
 cases hwl with
 | cons w1 w2=>
  cases w2
  cases w1 with
  | list ho hall=>exact ⟨_,_,ns,rfl,rfl,ho,qZ ns _ hall,hlen⟩
theorem Eg (l:OpenLaw) (args:List WData):l.row.toRowW.claim.post args (.bool true) args = true:=
 postW_of (r:=l.row.toRowW) (X:=(true == true))
  (show WShape.has [] (.bool true) .bool = true by first | rfl | decide | simp [WShape.has,WShape.arms,WShape.armsAll])
  (show (WTm.eq .res (.lit (.bool true))).value [] { args:=args,res:=some (.bool true),after:=args } = some (.bool (true == true)) from w_eq_bool (w_res rfl) w_lit) rfl
def BZ (q:Program) (loose:List Str) (XP:(Str -> Option Value) -> Heap -> Prop) (YP:World -> Heap -> Prop) (r:RowW) (d:DefRec) (kwd:List (Str × Expr)) (go:Value -> List Value -> Sem Value):Prop:=
 ∀ (w:World) (s₀ s₁:Shared) (mg mb:Str -> Option Value),L2.NN <= s₁.toks ->
  Ground q loose r.records XP w s₀ mg mb s₁.heap ->
  YP w s₁.heap ->
  ∀ (f:Addr) (o:Obj) (pm cd doc dV kV:Value),
  s₁.heap.get? f = some o ->
  o.data = .func { docDef d.name d.params d.body d.scope pm cd doc with
   defaults:=dV,kwdefaults:=kV } ->
  s₁.heap.CodeRec cd d.name ->
  Dflts mg s₁.heap d.params kwd dV kV ->
  mg d.name = some (.ref f) ->
  s₁.gens = #[] ->
  ∀ (xs:List WData) (us:List Value) (as:List Addr),
  r.claim.pre xs = true ->
  WData.layableAll xs = true ->
  ReadsAllW r.records (classAt s₀.heap) s₁.heap us xs as ->
  WellAll w.params s₁.heap us xs ->
  (∀ b ∈ as,(b == sysModules) = false) ->
  wpAny (model r.prog w) callerA (go (.ref f) us)
   (fun v s'=>GoodWG r.claim (classAt s₀.heap) (ExcName.means s₀.heap) xs s₁
    (.ok (.ret v)) s')
   (fun e s'=>GoodWG r.claim (classAt s₀.heap) (ExcName.means s₀.heap) xs s₁
    (.error e) s') s₁
theorem yj {l:OpenLaw} {n:Nat} {q:Program} {loose:List Str} {XP:(Str -> Option Value) -> Heap -> Prop} {YP:World -> Heap -> Prop} {d:DefRec}
  (hn:l.most = some n) (hdf:d.params.defaults = [])
  (call:∀ (w:World) (s₀ s₁:Shared) (mg mb:Str -> Option Value) (fa:Addr) (o:Obj) (pm cd doc:Value) (a:Addr) (vs:List Value) (ns:List Int),
   Ground q loose [] XP w s₀ mg mb s₁.heap -> YP w s₁.heap ->
   s₁.heap.get? fa = some o -> o.data = .func (docDef d.name d.params d.body d.scope pm cd doc) -> s₁.heap.CodeRec cd d.name -> mg d.name = some (.ref fa) ->
   s₁.heap.get? a = some { cls:=.type "list",data:=.seq vs.toArray } -> IntsAre vs ns -> ns.length <= n -> s₁.gens = #[] ->
   L2.NN <= s₁.toks -> codeAny (model l.prog w) callerA (.call (.ref fa) ⟨[.ref a],[]⟩) (fun r s'=>r = .ok (.ret (.bool true)) /\ OldK s₁.heap s'.heap /\ s'.os = s₁.os /\ AllBare s'.gens) s₁) :
  BZ q loose XP YP l.row.toRowW d [] (fun f vs=>PySem.call f vs):=by
 intro w s₀ s₁ mg mb htk G Y fa o pm cd doc dV kV ho hd hcd hD hmg hg args vals as hpre hlay hrd hwl hlo
 obtain rfl:dV = .none:=Dflts.none hD hdf
 obtain rfl:kV = .none:=Dflts.noKw hD
 obtain ⟨a,vs,ns,rfl,rfl,hobj,hints,hlen⟩:=Ep hn hpre hwl
 refine enter_call (codeAny_mono (call w s₀ s₁ mg mb fa o pm cd doc a vs ns G Y ho (fd_plain hd) hcd hmg hobj hints hlen hg htk) fun r s' hq=>?_)
 obtain ⟨rfl,h2,h3,h4⟩:=hq
 exact ⟨.inl ⟨.bool true,.bool true,[],rfl,fun _=>rfl,.bool true,Eg l _,fun _=>⟨List.Pairwise.nil,fun _ hm=>(nomatch hm)⟩⟩,h2,h3,h4⟩
section
variable {prog:Program} {w:World} {A:Around} {E:Value -> Shared -> Prop} {s:Shared} {K:Frag}
end
end Att
namespace L2
open PySem PySem.Spec PyProof.Rows
theorem wt:∀ {vs:List Value} {ns:List Int},IntsAre vs ns -> Vals (ns.map V.int) vs
 | _,_,.nil=>.nil
 | _,_,.cons n t h=>.cons ⟨t,rfl⟩ (wt h)
def JE (H:Hp):Prop:=∀ b,H b = none \/ ∃ o xs,H b = some (.frz o (.lst xs))
theorem FD {P:Program} {w:World} {K:W.Frag} {mg mb:Str -> Option Value} {CX:BV} {k:Nat} {fa a:Addr} {fd:FuncData} {x:Str} {sp:Sp} {s₁:Shared} {vs:List Value} {ns:List Int}
  (KX:K.In s₁.heap) (hns:s₁.heap.Ns mainGlobals mg) (hb:s₁.heap.Ns builtinsNs mb) (hbb:∀ x:Str,x ≠ "__name__" -> mb x = bootBuiltins x) (hlim:s₁.heap.NoLimit) (hg:s₁.gens = #[]) (htk:NN <= s₁.toks)
  (ha:s₁.heap.get? a = some { cls:=.type "list",data:=.seq vs.toArray }) (hi:IntsAre vs ns) (hl:ns.length <= sizeLine) (hr:Room k callerA)
  (F:∀ base:Heap,K.In base -> base.Ns mainGlobals mg -> FnOk P w K mg base CX k fa fd [x] sp) (hbind:∀ (s:Shared) (u:Value),BindsTo s fd ⟨[u],[]⟩ [(x,u)])
  (hsp:∀ H:Hp,JE H -> SqL K H a (ns.map V.int) -> sp [.ref a] H (fun v _=>v = .bl true) fun _ _ _=>False)
  (hCX:∀ H e s',CX [] H s₁ (fun _ _ _=>False) e s' -> False) :
  codeAny (model P w) callerA (.call (.ref fa) ⟨[.ref a],[]⟩) (fun r s'=>r = .ok (.ret (.bool true)) /\ OldK s₁.heap s'.heap /\ s'.os = s₁.os /\ AllBare s'.gens) s₁:=by
 have rv:=wt hi
 have lenV:=hi.length
 -- from an abstract heap in which nothing but the script may be tracked
 have core:∀ H:Hp,JE H -> SqL K H a (ns.map V.int) -> HOk P w H s₁.heap -> (∀ b,H b ≠ none -> b = a) -> (H a ≠ none -> K.lookup a = none) ->
   codeAny (model P w) callerA (.call (.ref fa) ⟨[.ref a],[]⟩) (fun r s'=>r = .ok (.ret (.bool true)) /\ OldK s₁.heap s'.heap /\ s'.os = s₁.os /\ AllBare s'.gens) s₁:=by
  intro H hO hS hok hA hK
  have base_of:∀ {b:Addr} {o:Obj},s₁.heap.get? b = some o -> H b = none -> (w9 s₁.heap H).get? b = some o:=fun e n=>Fq e n
  have noA:∀ {b:Addr} {o:Obj} {es:Array DictEntry} {ep:Nat},s₁.heap.get? b = some o -> o.data = .dict es ep -> H b = none:=fun {b o es ep} e d=>by
   cases q:H b with
   | none=>rfl
   | some u=>
    have e':b = a:=hA b (by rw [q];simp)
    subst e'
    rw [ha] at e;cases e
    have d':Data.seq vs.toArray _ = Data.dict es ep:=d
    cases d'
  have nsK:∀ {b:Addr} {m:Str -> Option Value},s₁.heap.Ns b m -> (w9 s₁.heap H).Ns b m:=fun {b m} ⟨o,es,ep,e,d,r⟩=>⟨o,es,ep,base_of e (noA e d),d,r⟩
  have hKb:K.In (w9 s₁.heap H):=fun b o e=>base_of (KX b o e) (by
   cases q:H b with
   | none=>rfl
   | some u=>
    have e':b = a:=hA b (by rw [q];simp)
    subst e'
    rw [hK (by rw [q];simp)] at e;cases e)
  have hM:Mod K mg (w9 s₁.heap H):=⟨hKb,nsK hns,⟨mb,nsK hb,hbb⟩,let ⟨mc,h1,h2⟩:=hlim;⟨mc,nsK h1,h2⟩⟩
  have e0:Env0 P w K mg (w9 s₁.heap H) callerA [] s₁ H:=⟨rfl,hM,fun b o e=>HX e,Nat.le_of_eq (DF _ _),trivial,fun b hb=>absurd (show b ∈ ([]:List Addr) from hb) (by simp),hok,.of_eq hg,htk⟩
  refine codeAny_mono ((F _ hKb (nsK hns)).run callerA [] s₁ H ⟨[.ref a],[]⟩ [.ref a] [.ref a] _ _ hr e0 (hbind s₁ (.ref a)) (.cons rfl .nil) (hsp H hO hS)) fun r s' h=>?_
  cases r with
  | error e=>exact (hCX H e s' h).elim
  | ok fl=>
   cases fl with
   | next=>exact False.elim h
   | brk=>exact False.elim h
   | cont=>exact False.elim h
   | ret u=>
    obtain ⟨v,H',os,bare,un,hok',r',q⟩:=h
    have q':v = .bl true:=q
    subst q'
    obtain rfl:u = Value.bool true:=r'
    refine ⟨rfl,OldK.of_keep fun b o e=>?_,os,bare.1⟩
    cases q:H b with
    | none=>exact un.keep b o e q (by intro z;exact absurd (show b ∈ ([]:List Addr) from z) (by simp)) (by simp)
    | some u=>
     rcases hO b with z | ⟨ob,xs,z⟩
     ·rw [q] at z;cases z
     ·have z2:=un.frzs b ob _ z
      obtain ⟨e1,_⟩:=hok b _ z
      obtain ⟨e2,_⟩:=hok' b _ z2
      rw [e] at e1;cases e1
      exact e2
 cases hk:K.lookup a with
 | some o=>
  -- the script is one of the module's own objects
  have e:=KX a o hk
  rw [ha] at e
  cases e
  refine core (fun _=>none) (fun _=>.inl rfl) (.inr ⟨_,vs.toArray,_,hk,rfl,rfl,rfl,by rw [List.size_toArray,lenV];exact hl,by simpa using rv⟩) (fun b u z=>by have z':(none:Option HO) = some u:=z;cases z') (fun b z=>absurd rfl z) fun z=>absurd rfl z
 | none=>
  refine core (fun b=>if b = a then some (.frz { cls:=.type "list",data:=.seq vs.toArray } (.lst (ns.map V.int))) else none) (fun b=>?_) (.inl (.inr ⟨{ cls:=.type "list",data:=.seq vs.toArray },if_pos rfl⟩)) (fun b u z=>?_) (fun b z=>?_) fun _=>hk
  ·by_cases hb:b = a
   ·exact .inr ⟨_,_,if_pos hb⟩
   ·exact .inl (if_neg hb)
  ·by_cases hb:b = a
   ·have z':=(if_pos hb).symm.trans z
    cases z'
    subst hb
    exact ⟨ha,by rw [List.length_map];exact hl,vs,_,rv,ha⟩
   ·have z':=(if_neg hb).symm.trans z
    cases z'
  ·by_cases hb:b = a
   ·exact hb
   ·exact absurd (if_neg hb) z
theorem IV {l:W.OpenLaw} {n k:Nat} {q:Program} {loose:List Str} {XP:(Str -> Option Value) -> Heap -> Prop} {YP:World -> Heap -> Prop} {d:DefRec} {K:Params -> W.Frag} {CX:World -> BV} {sp:World -> Sp} {x:Str}
  (hn:l.most = some n) (hn2:n <= sizeLine) (hdf:d.params.defaults = []) (hr:Room k callerA)
  (hY:∀ (w:World) (h:Heap),YP w h -> (K w.params).In h)
  (F:∀ (w:World) (mg:Str -> Option Value) (fa:Addr) (h:Heap),(K w.params).In h -> h.Ns mainGlobals mg -> mg d.name = some (.ref fa) ->
   ∃ fd:FuncData,(∀ (s:Shared) (u:Value),BindsTo s fd ⟨[u],[]⟩ [(x,u)]) /\
    ∀ base:Heap,(K w.params).In base -> base.Ns mainGlobals mg -> FnOk l.prog w (K w.params) mg base (CX w) k fa fd [x] (sp w))
  (hsp:∀ (w:World) (H:Hp) (a:Addr) (ns:List Int),ns.length <= n -> JE H -> SqL (K w.params) H a (ns.map V.int) -> sp w [.ref a] H (fun v _=>v = .bl true) fun _ _ _=>False)
  (hCX:∀ (w:World) (H:Hp) (s:Shared) (e:Value) (s':Shared),CX w [] H s (fun _ _ _=>False) e s' -> False) :
  Att.BZ q loose XP YP l.row.toRowW d [] (fun f vs=>PySem.call f vs):=by
 refine Att.yj hn hdf fun w s₀ s₁ mg mb fa o pm cd doc a vs ns G Y ho hd hcd hmg hobj hints hlen hg htk=>?_
 have KX:=hY w _ Y
 obtain ⟨fd,hb,hF⟩:=F w mg fa _ KX G.T.g hmg
 exact FD KX G.T.g G.T.b G.T.builtins G.T.nolimit hg htk hobj hints (Nat.le_trans hlen hn2) hr hF hb (fun H hO hS=>hsp w H a ns hlen hO hS) fun H e s'=>hCX w H s₁ e s'
noncomputable def bo (s:Stmt):Arguments:=match s with
 | .FunctionDef _ a _ _ _ _ _ _ _ _=>a
 | _=>{ posonlyargs:=[],args:=[],vararg:=none,kwonlyargs:=[],kw_defaults:=[],kwarg:=none,defaults:=[] }
noncomputable def ba (s:Stmt):List Stmt:=match s with
 | .FunctionDef _ _ b _ _ _ _ _ _ _=>b
 | _=>[]
noncomputable def au (s:Stmt):Scope:=match s with
 | .FunctionDef _ _ _ _ _ _ sc _ _ _=>sc
 | _=>{ kind:=.function,names:=[],isGenerator:=false,isCoroutine:=false }
noncomputable abbrev d9:BV:=fun _ _ _ _ _ _=>False
noncomputable abbrev E0:XK:=fun _ _ _=>False
theorem bU {X:Cx}:rR d9 X E0:=fun _ _ _ _ _ _ _ h=>h.elim
structure Fun (K:W.Frag) (x qual:Str) (st:Stmt) (f:Addr) (fd:FuncData):Prop where
 ex:∃ (oc:Value) (od:Option Addr) (kV doc pm:Value) (an:Option Addr) (cdv ct:Value) (osl:Array (Option Value)),
  fd = W.fnOf x qual (bo st) (ba st) (au st) .none kV doc pm an cdv ct /\ K.lookup f = some ⟨oc,od,.func fd,osl⟩ /\ W.codeIn K cdv qual = true
 kp:W.keepIn K (.ref f) = true
section
variable {P:Program} {w:World} {K:W.Frag} {mg:Str -> Option Value} {base:Heap}
theorem Fun.ok {x qual:Str} {st:Stmt} {f:Addr} {fd:FuncData} {N ps:List Str} {k:Nat} {sp:Sp} (F:Fun K x qual st f fd) (S:FnScope N ps (au st)) (len:∀ vs H Q E,sp vs H Q E -> vs.length = ps.length)
  (hbody:∀ (cdv:Value) (A:Around) (outer:List Env) (s:Shared) (H:Hp) (vs:List V) (Q:VK) (E:XK),Room k (A.deeper (envOfC qual (au st) s.heap.objs.size f cdv)) -> sp vs H Q E ->
   ∃ t,PSs (mw d9 P w K mg base N qual (au st) f cdv A outer s H E).nox (ba st) t /\ t { nx:=fun _ H'=>Q .non H',rt:=Q } (bJ N vs) H):FnOk P w K mg base d9 (k + 1) f fd ps sp:=by
 obtain ⟨oc,od,kV,doc,pm,an,cdv,ct,osl,rfl,lk,hcd⟩:=F.ex
 refine Ci lk hcd S len fun A outer s H vs Q E hr hsp=>?_
 obtain ⟨t,h,q⟩:=hbody cdv A outer s H vs Q E hr hsp
 exact ⟨t,h.nox,q⟩
theorem Fun.binds {x qual:Str} {st:Stmt} {f:Addr} {fd:FuncData} {ps:List Str} (F:Fun K x qual st f fd)
  (h:∀ (kV doc pm:Value) (an:Option Addr) (cdv ct:Value) (us:List Value),us.length = ps.length -> bindArgs (W.fnOf x qual (bo st) (ba st) (au st) .none kV doc pm an cdv ct) ⟨us,[]⟩ = pure (ps.zip us)):Binds K fd ps []:=by
 obtain ⟨oc,od,kV,doc,pm,an,cdv,ct,osl,rfl,lk,hcd⟩:=F.ex
 exact .all (h kV doc pm an cdv ct)
theorem dH {x qual:Str} {st:Stmt} {f:Addr} {oc:Value} {od an:Option Addr} {osl:Array (Option Value)} {kV doc pm cdv ct:Value} (l:K.lookup f = some ⟨oc,od,.func (W.fnOf x qual (bo st) (ba st) (au st) .none kV doc pm an cdv ct),osl⟩)
  (c:W.codeIn K cdv qual = true) (k:W.keepIn K (.ref f) = true):Fun K x qual st f (W.fnOf x qual (bo st) (ba st) (au st) .none kV doc pm an cdv ct):=⟨⟨oc,od,kV,doc,pm,an,cdv,ct,osl,rfl,l,c⟩,k⟩
end
section
variable {X:Cx}
theorem pv (i:Nat) {x:Str} {pos:Pos} (hN:X.N[i]? = some x:=by rfl) (hv:MJ X.env.scope x:=by first | exact Or.inl rfl | exact Or.inr (.inl rfl) | exact Or.inr (.inr rfl)) (hd:(x == ("__debug__" : Str)) = false:=by decide)
  (hcd:(x == ("__classdict__" : Str)) = false:=by decide):PE X (.Name x pos) (ul i):=Kl hN hv hd hcd
end
theorem yP {A B:Prop} (h:B):if false = true then A else B:=by
 rw [if_neg Bool.false_ne_true]
 exact h
theorem yQ {A B:Prop} (h:A):if true = true then A else B:=by
 rw [if_pos rfl]
 exact h
def Same (H H':Hp):Prop:=∀ b o,H b = some o -> H' b = some o
theorem Same.refl (H:Hp):Same H H:=fun _ _ h=>h
theorem Same.trans {H H1 H2:Hp} (a:Same H H1) (b:Same H1 H2):Same H H2:=fun c o h=>b c o (a c o h)
theorem Same.free {H H':Hp} (e:Same H H') {l:Addr} (h:H' l = Option.none):H l = Option.none:=by
 cases q:H l with
 | none=>rfl
 | some o=>
  rw [e l o q] at h
  cases h
end L2
namespace Tk
open PySem PySem.W PyProof.Rows
theorem holds {r:OpenRow} {q:Program} {loose:List Str} {Xt:Shared -> Bool} {XP:(Str -> Option Value) -> Heap -> Prop} {α:Type} {Yf:Shared -> α} {Ya:World -> α}
  {YP:World -> Heap -> Prop} {d:DefRec} {kwd:List (Str × Expr)} {N:Nat} (left:LeftO r.prog q loose Xt Yf Ya N)
  (hT:∀ w s,Yf s = Ya w -> L2.NN <= s.toks) (hY:∀ w s,Yf s = Ya w -> YP w s.heap)
  (hYk:∀ w h h',YP w h -> (∀ b o,h.get? b = some o -> h'.get? b = some o) -> YP w h')
  (hX:∀ s,Xt s = true -> XP (s.heap.nsMap mainGlobals) s.heap)
  (hXk:∀ mg h h',XP mg h -> (∀ b o,h.get? b = some o -> h'.get? b = some o) -> XP mg h')
  (hdef:defOf q r.name = some (d,kwd)) (hp:r.prog.theDef r.name = some (d.params,d.body,d.scope))
  (hk:kwWritten? d.params.kwonlyargs d.params.kw_defaults = some kwd)
  (hRf:∀ s,Xt s = true -> RecFacts r.records s.heap) (hwr:(!r.writes || r.records.isEmpty) = true)
  (k1:r.wellSaid = true) (hc:chainsOk q = true) (hop:opensWell r.prog = true) (hfr:frees r.toRowW = true) (hwi:r.within.isEmpty = true)
  (hb:r.prog.bare) (hw:r.toRowW.promised)
  (walk:Att.BZ q loose XP YP r.toRowW d kwd fun f vs=>PySem.call f vs):r.Holds:=by
 obtain ⟨f1,f2,f3,f4,f5⟩:=frees_parts hfr
 have hwi':r.toRowW.claim.within = []:=List.isEmpty_iff.mp hwi
 have hX':∀ s,Xt s = true -> XP (s.heap.nsMap mainGlobals) s.heap /\ RecFacts r.records s.heap:=fun s e=>⟨hX s e,hRf s e⟩
 refine ⟨k1,hw,⟨hb,hop,?_⟩,hw.witness,fun w=>⟨(left.behind hX hc w).1,fun s' hs'=>?_⟩⟩
 ·show r.toRowW.makers.map _ = []
  rw [f5];rfl
 obtain ⟨b,hf,hg0,s,top,asl,gn,isN,gr,y⟩:=(left.behind (XP:=fun mg h=>XP mg h /\ RecFacts r.records h) hX' hc w).2 s' hs'
 have g0:Ground q loose [] XP w s (s.heap.nsMap mainGlobals) (s.heap.nsMap builtinsNs) s.heap:={ gr with X:=gr.X.1 }
 have rf:=gr.X.2
 have g1:Ground q loose r.records XP w s (s.heap.nsMap mainGlobals) (s.heap.nsMap builtinsNs) s.heap:=rf.ground g0
 have gz:s.gens = #[]:=Array.eq_empty_of_size_eq_zero (beq_iff_eq.mp gn)
 refine ⟨b,hf,hg0,s,top,fun n hn=>?_,rf.1,rf.2.1,ClaimW.callFrom_of_specG (c:=r.toRowW.claim) asl gz fun xs px lx ord ho=>?_⟩
 ·obtain rfl:n = r.name:=by split at hn <;> simp_all
  exact pinned_of_view isN g0 hdef hp hk
 obtain ⟨⟨us,s₁⟩,el⟩:=Option.isSome_iff_exists.mp (layAllW_isSome (P:=w.params) (ord:=ord) g1.has xs r.toRowW.args s (pre_splitW px).1)
 have gw:=layAllW_grows _ _ _ el
 obtain ⟨as,h1,h2,h3⟩:=reads_layAllW ho _ _ _ el lx s₁.heap fun _ _ e=>e
 have L:Laid r.records w s s₁ xs us as:=⟨⟨ord,ho,el⟩,h1,h2,h3,gw.keeps,gw.alike.1.trans gz,gw.alike.2.2.1⟩
 have g2:=g1.keeps hXk gw.keeps
 obtain ⟨a,o,pm,cd,doc,dV,kV,m1,m2,m3,m4,m5⟩:=g2.fn hdef
 have run:=walk w s s₁ _ _ (Nat.le_trans (hT w s y) gw.toks) g2 (hYk _ _ _ (hY w s y) gw.keeps) a o pm cd doc dV kV m2 m3 m4 m5 (defOf_name hdef ▸ m1) L.gens xs us as px lx L.reads L.well (L.low g1.low)
 have id:=ident_freeW f2 f3 f4
 refine ⟨us,s₁,el,wpAny_bind (wpAny_nsGet g2.T.g ?_)⟩
 rw [m1]
 refine wpAny_bind (wpAny_mono run (fun v s2 g=>wpAny_pure ⟨_,rfl,?_⟩) fun e s2 g=>?_)
 ·have z:=g.laid (c:=r.toRowW.claim) f1 hwi' id L
  exact ⟨z.1,z.2.1,z.2.2,fun q=>⟨namesKept_of top isN _ gw.keeps g.2.1.old,noTable hwr q⟩⟩
 ·have z:=g.laid (c:=r.toRowW.claim) f1 hwi' id L
  exact ⟨z.1,z.2.1,z.2.2,fun q=>⟨namesKept_of top isN _ gw.keeps g.2.1.old,noTable hwr q⟩⟩
end Tk
set_option linter.all false
set_option maxHeartbeats 4000000
set_option maxRecDepth 100000
namespace L2
open PySem PySem.Spec PyProof.Rows
structure CmpOk (XN:List Str) (sc scope:Scope) (N:List Str) (js:List (Option Nat)):Prop where
 kind:scope.kind = .function
 cell:∀ y ∈ scope.names,y.2 ≠ .cell
 free:∀ y ∈ scope.names,y.2 = .free -> sc.names.lookup y.1 = some .cell \/ sc.names.lookup y.1 = some .free
 loc:∀ y ∈ scope.names,y.2 = .local -> scope.names.lookup y.1 = some .local
 len:js.length = N.length
 ix:((N.zip js).all fun p=>match p.2 with | none=>true | some j=>decide (XN[j]? = some p.1) && decide (scope.names.lookup p.1 = some .free)) = true
noncomputable def k6 (env:Env):List (Str × NameKind) -> List (Str × Addr) -> List (Str × Addr)
 | [],cs=>cs
 | (n,k) :: r,cs=>k6 env r (if k = .free then (match env.cells.lookup n with | some c=>(n,c) :: cs | none=>cs) else cs)
theorem yt {env:Env}:∀ {names:List (Str × NameKind)} {cs:List (Str × Addr)},(∀ n c,cs.lookup n = some c -> env.cells.lookup n = some c) -> ∀ n c,(k6 env names cs).lookup n = some c -> env.cells.lookup n = some c
 | [],_,h=>h
 | (m,k) :: r,cs,h=>by
  unfold k6
  refine yt ?_
  split
  ·cases e:env.cells.lookup m with
   | none=>exact h
   | some d=>
    intro n c hn
    dsimp only at hn
    rw [List.lookup_cons] at hn
    cases q:n == m with
    | true=>
     rw [q] at hn
     have e1:n = m:=by simpa using q
     cases hn
     rw [e1];exact e
    | false=>rw [q] at hn;exact h n c hn
  ·exact h
theorem yr {env:Env}:∀ {names:List (Str × NameKind)} {cs:List (Str × Addr)} {n:Str},((n,NameKind.free) ∈ names /\ (∃ c,env.cells.lookup n = some c)) \/ (∃ c,cs.lookup n = some c) -> ∃ c,(k6 env names cs).lookup n = some c
 | [],_,_,h=>h.elim (fun z=>by cases z.1) id
 | (m,k) :: r,cs,n,h=>by
  unfold k6
  refine yr ?_
  rcases h with ⟨hm,c,hc⟩ | ⟨c,hc⟩
  ·rcases List.mem_cons.mp hm with e | hm
   ·cases e
    right
    rw [if_pos rfl,hc]
    exact ⟨c,by rw [List.lookup_cons];simp⟩
   ·exact .inl ⟨hm,c,hc⟩
  ·right
   split
   ·cases e:env.cells.lookup m with
    | none=>exact ⟨c,hc⟩
    | some d=>
     dsimp only
     rw [List.lookup_cons]
     cases q:n == m with
     | true=>exact ⟨d,rfl⟩
     | false=>exact ⟨c,hc⟩
   ·exact ⟨c,hc⟩
theorem sw {env:Env} {scope:Scope} (h:∀ y ∈ scope.names,y.2 = .free -> ∃ c,env.cells.lookup y.1 = some c):closureFor scope env = pure (k6 env scope.names []):=by
 have key:∀ (names:List (Str × NameKind)) (cs:List (Str × Addr)),(∀ y ∈ names,y.2 = .free -> ∃ c,env.cells.lookup y.1 = some c) ->
   (forIn names cs (fun (x:Str × NameKind) r=>if (x.2 == NameKind.free) = true then (do let a ← cellOf env x.1;pure (ForInStep.yield ((x.1,a) :: r))) else pure (ForInStep.yield r)):Sem (List (Str × Addr))) = pure (k6 env names cs):=by
  intro names
  induction names with
  | nil=>intro cs _;rfl
  | cons y r ih=>
   intro cs hy
   obtain ⟨n,k⟩:=y
   rw [List.forIn_cons]
   unfold k6
   by_cases hk:k = .free
   ·subst hk
    obtain ⟨c,hc⟩:=hy _ List.mem_cons_self rfl
    have e1:cellOf env n = pure c:=by unfold cellOf;rw [hc]
    rw [if_pos (by rfl)]
    rw [if_pos rfl,hc]
    show ((cellOf env n >>= fun a=>pure (ForInStep.yield ((n,a) :: cs))) >>= _) = _
    rw [e1]
    exact ih _ fun z hz=>hy z (List.mem_cons_of_mem _ hz)
   ·have hb:(k == NameKind.free) = false:=by simpa using hk
    rw [if_neg (by rw [hb];decide),if_neg hk]
    exact ih _ fun z hz=>hy z (List.mem_cons_of_mem _ hz)
 have k:=key scope.names [] h
 unfold closureFor
 show (forIn scope.names ([]:List (Str × Addr)) _ >>= fun cs=>pure cs) = _
 refine Eq.trans (congrArg (fun t=>t >>= fun cs=>pure cs) (Eq.trans ?_ k)) rfl
 congr 1
theorem t6 {env:Env}:∀ {names:List (Str × NameKind)} {x:Str},names.lookup x = some .free ->
  (names.map fun (n,k)=>if (k == NameKind.free && env.scope.kind == .function && env.kindOf n == some .cell) then (n,NameKind.cell) else (n,k)).lookup x = some .cell \/
  (names.map fun (n,k)=>if (k == NameKind.free && env.scope.kind == .function && env.kindOf n == some .cell) then (n,NameKind.cell) else (n,k)).lookup x = some .free
 | [],_,h=>by simp at h
 | (n,k) :: r,x,h=>by
  have ih:=@t6 env r x
  rw [List.map_cons]
  dsimp only
  cases q:x == n with
  | true=>
   rw [List.lookup_cons,q] at h
   cases h
   split
   ·left;rw [List.lookup_cons,q]
   ·right;rw [List.lookup_cons,q]
  | false=>
   rw [List.lookup_cons,q] at h
   split
   ·rw [List.lookup_cons,q];exact ih h
   ·rw [List.lookup_cons,q];exact ih h
theorem nM {env:Env}:∀ {names:List (Str × NameKind)} {x:Str} {j:NameKind},(∀ y ∈ names,y.2 ≠ .cell) -> (j = .cell \/ j = .free) ->
  (names.map fun (n,k)=>if (k == NameKind.free && env.scope.kind == .function && env.kindOf n == some .cell) then (n,NameKind.cell) else (n,k)).lookup x = some j -> (x,NameKind.free) ∈ names
 | [],_,_,_,_,h=>by simp at h
 | (n,k) :: r,x,j,hc,hj,h=>by
  have ih:=@nM env r x j (fun y hy=>hc y (List.mem_cons_of_mem _ hy)) hj
  rw [List.map_cons] at h
  dsimp only at h
  cases q:x == n with
  | true=>
   have e:x = n:=by simpa using q
   subst e
   split at h
   ·rename_i g
    have:k = .free:=by
     simp only [Bool.and_eq_true,beq_iff_eq] at g
     exact g.1.1
    subst this
    exact List.mem_cons_self
   ·rw [List.lookup_cons,q] at h
    cases h
    rcases hj with z | z
    ·exact absurd z (hc _ List.mem_cons_self)
    ·rw [z];exact List.mem_cons_self
  | false=>
   refine List.mem_cons_of_mem _ (ih ?_)
   split at h
   ·rw [List.lookup_cons,q] at h;exact h
   ·rw [List.lookup_cons,q] at h;exact h
noncomputable def sU (js:List (Option Nat)) (σ:St):St:=js.map fun o=>match o with | none=>none | some j=>(σ[j]?).join
structure CxZ where
 cl:List (Str × Addr)
 C:Addr
 s:Shared
 H:Hp
 fp:List Addr
 pins:List (Addr × Obj)
noncomputable def pE (X:Cx) (N:List Str) (scope:Scope) (z:CxZ):Cx where
 prog:=X.prog
 w:=X.w
 K:=X.K
 mg:=X.mg
 base:=X.base
 A:=X.A
 N:=N
 s₀:=z.s
 H₀:=z.H
 env:=compEnvC scope z.cl z.C X.env
 outer:=X.stack
 stack:=X.stack
 ex:=z.fp
 fn:=fun _=>false
 calm:=X.calm
 pn:=X.pn ++ z.pins
 xe:=fun _ _=>False
section
variable {X:Cx} {pins:List (Addr × Obj)} {σ:St} {H:Hp} {s:Shared} {XN N:List Str} {sc scope:Scope} {js:List (Option Nat)}
theorem Fw {h1:Heap} {m:Str -> Option Value} {tk:Nat} {fp:List Addr} (ck:CmpOk XN sc scope N js) (hXN:X.N = XN) (hsc:X.env.scope = sc) (I:Inv X pins σ H s) (hf:∀ b ∈ fp,uu X pins H b)
  (hfo:∀ b ∈ fp,b < s.heap.objs.size) (hn:h1.Ns s.heap.objs.size m) (hk:∀ b o,s.heap.get? b = some o -> h1.get? b = some o) (htk:s.toks <= tk:=by first | exact Nat.le_refl _ | exact Nat.le_add_right _ _ | lia) :
  Inv (pE X N scope ⟨k6 X.env scope.names [],s.heap.objs.size,s,H,fp,pins⟩) [] (sU js σ) H { s with heap:=h1,toks:=tk }:=by
 subst hXN hsc
 have sub:∀ n c,(k6 X.env scope.names []).lookup n = some c -> X.env.cells.lookup n = some c:=yt fun n c h=>by simp at h
 have clt:∀ n c,(k6 X.env scope.names []).lookup n = some c -> c < s.heap.objs.size:=fun n c h=>by
  obtain ⟨v,q⟩:=I.cell n c (sub n c h)
  exact q.lt
 have has:∀ x,(x,NameKind.free) ∈ scope.names -> ∃ c,(k6 X.env scope.names []).lookup x = some c:=fun x hx=>
  yr (.inl ⟨hx,I.ok.has x (ck.free _ hx rfl)⟩)
 refine ⟨⟨I.ok.mod,ck.kind,I.ok.glob,I.ok.blt,Nat.le_refl _,fun x y c h1 h2=>I.ok.inj x y c (sub x c h1) (sub y c h2),fun x hx=>?has,fun x c hx=>?cab,I.ok.hd,I.ok.frames,.inl rfl,fun b hb=>?exf,I.bs,?bsz,fun b o e hb=>?noex,fun b hb=>?exfs,I.stack,I.stkFree⟩,
  rfl,I.bare,Un.kept hk,⟨m,hn,fun i x v h1 h2 h3=>?loc⟩,fun x c h=>?cell,I.hok.fresh (Nat.le_refl _),fun x c h=>I.freeC x c (sub x c h),fun p hp=>?pin,I.hok.kept hk,?len,Nat.le_trans I.tk htk⟩
 case has=>
  rcases hx with hx | hx
  ·exact has x (nM ck.cell (.inl rfl) hx)
  ·exact has x (nM ck.cell (.inr rfl) hx)
 case cab=>cases hx
 case exf=>
  obtain ⟨f0,f1,f2,f3,f4,f5⟩:=hf b hb
  exact ⟨Nat.ne_of_lt (hfo b hb),fun x c e=>f4 x c (sub x c e)⟩
 case bsz=>exact Nat.le_trans I.ok.bsz I.sz
 case noex=>
  obtain ⟨f0,f1,f2,f3,f4,f5⟩:=hf b hb
  rcases f3 with f3 | f3
  ·exact I.ok.noex b o e f3
  ·exact absurd (Nat.lt_of_lt_of_le (Heap.lt_size e) (Nat.le_trans I.ok.bsz f3)) (Nat.lt_irrefl _)
 case exfs=>
  obtain ⟨f0,f1,f2,f3,f4,f5⟩:=hf b hb
  intro z
  rcases List.mem_cons.mp (I.stkSub b z) with e | e
  ·exact f1 e
  ·exact f2 e
 case loc=>
  have hl:N.length = js.length:=ck.len.symm
  have hi:i < js.length:=by
   have:=(List.getElem?_eq_some_iff.mp h1).1
   have e:(pE X N scope ⟨k6 X.env scope.names [],s.heap.objs.size,s,H,fp,pins⟩).N = N:=rfl
   rw [e] at this
   lia
  have hN:N[i]? = some x:=h1
  have hj:js[i]? = some js[i]:=List.getElem?_eq_getElem hi
  unfold sU at h2
  rw [List.getElem?_map,hj] at h2
  cases q:js[i] with
  | none=>rw [q] at h2;cases h2
  | some j=>
   rw [q] at h2 hj
   have h2':(σ[j]?).join = some v:=Option.some.inj h2
   have hσ:σ[j]? = some (some v):=by
    cases e:σ[j]? with
    | none=>rw [e] at h2';cases h2'
    | some o=>rw [e] at h2';exact congrArg some h2'
   have hm:(x,some j) ∈ N.zip js:=by
    refine List.mem_of_getElem? (i:=i) ?_
    rw [List.getElem?_zip_eq_some]
    exact ⟨hN,hj⟩
   have hc:=List.all_eq_true.mp ck.ix _ hm
   simp only [Bool.and_eq_true,decide_eq_true_eq] at hc
   obtain ⟨c1,c2⟩:=hc
   have hfr:(x,NameKind.free) ∈ scope.names:=PySem.mem_of_lookup c2
   have hvis:X.env.scope.names.lookup x = some .cell \/ X.env.scope.names.lookup x = some .free:=ck.free _ hfr rfl
   obtain ⟨m0,hn0,hl0⟩:=I.loc
   obtain ⟨u,r,l⟩:=hl0 j x v c1 hσ (hvis.elim (fun z=>.inr (.inl z)) fun z=>.inr (.inr z))
   refine ⟨u,r,.inr ⟨?_,?_⟩⟩
   ·exact t6 c2
   ·rcases l with ⟨k1,_⟩ | ⟨_,c,k1,k2⟩
    ·have k1':X.env.scope.names.lookup x = some .local:=k1
     rcases hvis with z | z
     ·rw [z] at k1';cases k1'
     ·rw [z] at k1';cases k1'
    ·obtain ⟨c',hc'⟩:=has x hfr
     have e:=sub x c' hc'
     rw [k1] at e
     cases e
     obtain ⟨oc,ho,hd⟩:=k2
     exact ⟨c,hc',oc,hk _ _ ho,hd⟩
 case cell=>
  obtain ⟨v,oc,ho,hd⟩:=I.cell x c (sub x c h)
  exact ⟨v,oc,hk _ _ ho,hd⟩
 case pin=>
  have hp':p ∈ X.pn ++ pins:=by simpa [pE] using hp
  obtain ⟨p1,p2,p3,p4,p5⟩:=I.pin p hp'
  refine ⟨hk _ _ p1,p2,Nat.ne_of_lt (Heap.lt_size p1),fun z=>?_,p5⟩
  rcases List.mem_cons.mp (I.stkSub _ z) with e | e
  ·exact p3 e
  ·exact p4 e
 case len=>
  show (sU js σ).length = N.length
  unfold sU
  rw [List.length_map]
  exact ck.len
noncomputable abbrev JI:=St -> Hp -> (Bool -> Hp -> Prop) -> Prop
def K5 (X:Cx) (ifs:List Expr) (t:JI):Prop:=
 ∀ (pins:List (Addr × Obj)) (s:Shared) (σ:St) (H:Hp) (Q:Bool -> Hp -> Prop),Inv X pins σ H s -> t σ H Q ->
  wpAny (model X.prog X.w) X.A (forIn ifs true fun c r=>if r = true then do let ok ← isTrue c X.env (eval c X.env);pure (ForInStep.yield ok) else pure (ForInStep.yield r)) (TP X pins σ Q) X.xe s
noncomputable def Jb:JI:=fun _ H Q=>Q true H
theorem mf:K5 X [] Jb:=fun _ _ _ H _ I h=>wpAny_tests_nil ⟨H,I,h⟩
theorem oO {c:Expr} {t:TT} (h:PT X c t):K5 X [c] t:=fun pins s σ H Q I q=>wpAny_tests_one (h pins s σ H Q I q)
def Lev (σ σ':St):Prop:=σ.length = σ'.length /\ ∀ (i:Nat) (v:V),σ[i]? = some (some v) -> σ'[i]? = some (some v)
theorem Lev.refl (σ:St):Lev σ σ:=⟨rfl,fun _ _ h=>h⟩
def Ao (js:List (Option Nat)) (g:TG):Prop:=∀ (σ0:St) (v:V) (σ:St) (H:Hp) (Q:St -> Hp -> Prop),Lev (sU js σ0) σ -> g v σ H Q -> g v σ H fun σ' H'=>Lev (sU js σ0) σ' /\ Q σ' H'
def BX (js:List (Option Nat)) (g:De):Prop:=∀ (σ0:St) (vs:List V) (σ:St) (H:Hp) (Q:St -> Hp -> Prop),Lev (sU js σ0) σ -> g vs σ H Q -> g vs σ H fun σ' H'=>Lev (sU js σ0) σ' /\ Q σ' H'
theorem cP {i:Nat} (h:js[i]? = some none:=by rfl):Ao js (jE i):=fun σ0 v σ H Q l q=>by
 refine ⟨⟨?_,fun j u e=>?_⟩,q⟩
 ·rw [List.length_set];exact l.1
 ·by_cases hij:i = j
  ·subst hij
   unfold sU at e
   rw [List.getElem?_map,h] at e
   cases e
  ·rw [List.getElem?_set_ne hij]
   exact l.2 j u e
theorem pe:BX js JW:=fun σ0 vs σ H Q l q=>⟨q.1,l,q.2⟩
theorem d7 {t:TG} {u:De} (h:Ao js t) (k:BX js u) (mono:∀ v σ H (Q Q':St -> Hp -> Prop),(∀ a b,Q a b -> Q' a b) -> t v σ H Q -> t v σ H Q'):BX js (Fo t u):=fun σ0 vs σ H Q l q=>by
 obtain ⟨v,r,e,q⟩:=q
 exact ⟨v,r,e,mono _ _ _ _ _ (fun σ' H' z=>k σ0 r σ' H' Q z.1 z.2) (h σ0 v σ H _ l q)⟩
theorem cu {i:Nat}:∀ v σ H (Q Q':St -> Hp -> Prop),(∀ a b,Q a b -> Q' a b) -> jE i v σ H Q -> jE i v σ H Q':=fun _ _ _ _ _ h q=>h _ _ q
theorem ui {K:W.Frag} {n:Nat} {t:De} (h:BX js t):Ao js (JX K n t):=fun σ0 v σ H Q l q=>by
 obtain ⟨a,xs,e,hq,hl,q⟩:=q
 exact ⟨a,xs,e,hq,hl,h σ0 xs σ H Q l q⟩
noncomputable def GU (js:List (Option Nat)) (wi:TI) (g:TG) (tt:JI) (te:TE):TE:=fun σ H Q=>wi σ H fun J H1=>∀ D,H1 D = none -> ∃ W:Nat -> Nat -> Hp -> Prop,(∃ m,W 0 m (d8 H1 D (.lst []))) /\ ∀ i m H,W i m H ->
 (J.stop i H /\ Q (.ref D) H) \/ (J.go i H /\ ∀ x H',J.yld i H x H' -> g x (sU js σ) H' fun σ2 H2=>tt σ2 H2 fun b H3=>
  if b = true then te σ2 H3 fun y H4=>∃ ys,H4 D = some (.lst ys) /\ ys.length < sizeLine /\ ∃ m',m' < m /\ W (i + 1) m' (d8 H4 D (.lst (ys ++ [y]))) else ∃ m',m' < m /\ W (i + 1) m' H3)
variable {tg iter elt:Expr} {ifs:List Expr} {pos:Pos} {wi:TI} {g:TG} {tt:JI} {te:TE}
theorem Dp {E:Value -> Shared -> Prop} {R:Result -> Shared -> Prop} {it D:Addr} {fp:List Addr} {tn:Nat -> Heap -> Prop} {J:It} {z:CxZ} {W:Nat -> Nat -> Hp -> Prop} {n:Nat}
  (hc:X.calm = true) (T:Turn X.prog X.w X.K tg J fp it tn) (hz:∀ b ∈ fp,∀ H',H' b = none -> uu (pE X N scope z) [] H' b)
  (hg:PG (pE X N scope z) tg g) (hs:Ao js g) (ht:K5 (pE X N scope z) ifs tt) (he:PE (pE X N scope z) elt te)
  (turn:∀ i m H,W i m H -> (J.stop i H /\ ∀ s',Inv (pE X N scope z) [] (sU js σ) H s' -> R (.ok .next) s') \/ (J.go i H /\ ∀ x H',J.yld i H x H' -> g x (sU js σ) H' fun σ2 H2=>tt σ2 H2 fun b H3=>
   if b = true then te σ2 H3 fun y H4=>∃ ys,H4 D = some (.lst ys) /\ ys.length < sizeLine /\ ∃ m',m' < m /\ W (i + 1) m' (d8 H4 D (.lst (ys ++ [y]))) else ∃ m',m' < m /\ W (i + 1) m' H3))
  {s1:Shared} {H1:Hp} (I1:Inv (pE X N scope z) [] (sU js σ) H1 s1) (t1:tn 0 s1.heap) (f1:∀ b ∈ fp,H1 b = none) (w1:W 0 n H1) :
  codeAny (model X.prog X.w) X.A (.compLoop (.ListComp elt [⟨tg,iter,ifs,0⟩] scope pos) 0 (.ref it) (.ref D) (compEnvC scope z.cl z.C X.env)) R s1:=by
 refine codeAny_loop (c:=.compLoop (.ListComp elt [⟨tg,iter,ifs,0⟩] scope pos) 0 (.ref it) (.ref D) (compEnvC scope z.cl z.C X.env)) rfl
  (fun k s'=>∃ i H',Inv (pE X N scope z) [] (sU js σ) H' s' /\ tn i s'.heap /\ (∀ b ∈ fp,H' b = none) /\ W i k H') ?_ n ⟨0,H1,I1,t1,f1,w1⟩
 rintro k s2 ⟨i,H2,I2,t2,f2,w2⟩
 show wpAny (model X.prog X.w) X.A ((compTurn (.ListComp elt [⟨tg,iter,ifs,0⟩] scope pos) 0 (.ref it) (.ref D) (compEnvC scope z.cl z.C X.env)).onRaise fun x=>do noteFrame x (compEnvC scope z.cl z.C X.env);theTreesLotGoes x) _ _ s2
 refine wpAny_noted ?_
 rw [compTurn_list]
 refine wpAny_bind (wpAny_standAt ?_)
 rcases turn i k H2 w2 with ⟨stop,fin⟩ | ⟨go,step⟩
 ·refine wpAny_bind (eE (T.done (pE X N scope z) rfl rfl rfl hc i [] s2 (sU js σ) H2 _ I2 (fun b hb=>hz b hb H2 (f2 b hb)) t2 stop) fun r s3 h3=>?_)
  obtain ⟨rfl,I3⟩:=h3
  exact wpAny_pure (fin s3 I3)
 ·refine wpAny_bind (eE (T.item (pE X N scope z) rfl rfl rfl hc i [] s2 (sU js σ) H2 _ I2 (fun b hb=>hz b hb H2 (f2 b hb)) t2 go) fun r s3 h3=>?_)
  obtain ⟨u,rfl,h3⟩:=h3
  refine wpAny_bind (eE h3 fun _ s4 h4=>?_)
  obtain ⟨x,H4,I4,r4,y4,t4,f4⟩:=h4
  have P4:=I4.pinned (fun b hb=>hz b hb H4 (f4 b hb)) (T.obj _ _ t4)
  have ff:∀ {e:Value} {s':Shared},(pE X N scope z).xe e s' -> False:=fun h=>h
  refine wpAny_bind (wpAny_mono (hg _ s4 (sU js σ) H4 x u _ P4 r4 (hs σ x (sU js σ) H4 _ (Lev.refl _) (step x H4 y4))) (fun _ s5 h5=>?_) fun _ _ h=>(ff h).elim)
  obtain ⟨σ5,H5,I5,lev,q5⟩:=h5
  refine wpAny_bind (wpAny_mono (ht _ s5 σ5 H5 _ I5 q5) (fun ok s6 h6=>?_) fun _ _ h=>(ff h).elim)
  obtain ⟨H6,I6,q6⟩:=h6
  have again:∀ {s7:Shared} {H7:Hp},Inv (pE X N scope z) ([] ++ tT fp s4.heap) σ5 H7 s7 -> (∃ m',m' < k /\ W (i + 1) m' H7) -> ∃ m,m < k /\ ∃ i H',Inv (pE X N scope z) [] (sU js σ) H' s7 /\ tn i s7.heap /\ (∀ b ∈ fp,H' b = none) /\ W i m H':=fun {s7 H7} I7 h7=>by
   obtain ⟨m',hm,w7⟩:=h7
   refine ⟨m',hm,i + 1,H7,(I7.unpinned).weak lev.1 lev.2,T.keep _ _ _ t4 fun b hb o e=>(I7.pin (b,o) (List.mem_append_right _ (List.mem_append_right _ (km hb e)))).1,fun b hb=>?_,w7⟩
   obtain ⟨o,e,d⟩:=T.obj _ _ t4 b hb
   exact (I7.pin (b,o) (List.mem_append_right _ (List.mem_append_right _ (km hb e)))).2.1
  cases ok with
  | false=>
   rw [if_neg (by decide)] at q6
   exact wpAny_pure ⟨rfl,again I6 q6⟩
  | true=>
   rw [if_pos rfl] at q6
   refine wpAny_bind (wpAny_bind (wpAny_mono (he _ s6 σ5 H6 _ I6 q6) (fun y s7 h7=>?_) fun _ _ h=>(ff h).elim))
   obtain ⟨vy,H7,I7,r7,ys,hD,hl,q7⟩:=h7
   refine wpAny_bind (wpAny_mono (dF (X:=pE X N scope z) _ s7 σ5 H7 (.ref D) [vy] (.ref D) [y] (fun _ H'=>∃ m',m' < k /\ W (i + 1) m' H') I7 rfl (.cons r7 .nil) ⟨D,ys,vy,rfl,rfl,hD,hl,q7⟩) (fun _ s8 h8=>?_) fun _ _ h=>(ff h).elim)
   obtain ⟨_,H8,I8,_,q8⟩:=h8
   exact wpAny_pure (wpAny_pure ⟨rfl,again I8 q8⟩)
theorem sC {E:Value -> Shared -> Prop} {RR:Value -> Addr -> Result -> Shared -> Prop} {Q:VK} {itv:Value} {s2:Shared} (ck:CmpOk XN sc scope N js) (hXN:X.N = XN) (hsc:X.env.scope = sc) (hc:X.calm = true)
  (hg:∀ z,PG (pE X N scope z) tg g) (hs:Ao js g) (ht:∀ z,K5 (pE X N scope z) ifs tt) (he:∀ z,PE (pE X N scope z) elt te)
  (h2:ME X pins σ tg (fun J H1=>∀ D,H1 D = none -> ∃ W:Nat -> Nat -> Hp -> Prop,(∃ m,W 0 m (d8 H1 D (.lst []))) /\ ∀ i m H,W i m H ->
   (J.stop i H /\ Q (.ref D) H) \/ (J.go i H /\ ∀ x H',J.yld i H x H' -> g x (sU js σ) H' fun σ2 H2=>tt σ2 H2 fun b H3=>
    if b = true then te σ2 H3 fun y H4=>∃ ys,H4 D = some (.lst ys) /\ ys.length < sizeLine /\ ∃ m',m' < m /\ W (i + 1) m' (d8 H4 D (.lst (ys ++ [y]))) else ∃ m',m' < m /\ W (i + 1) m' H3)) itv s2)
  (hRR:∀ D C s' H' m o,Inv X (pins ++ [(C,o)]) σ H' s' -> s'.heap.Ns C m -> (X.s₀.heap.objs.size <= C /\ C ≠ X.env.locals /\ (∀ x c,X.env.cells.lookup x = some c -> c ≠ C) /\ ∀ p ∈ X.pn ++ pins,p.1 ≠ C) -> H' C = none -> Q (.ref D) H' -> RR (.ref D) C (.ok .next) s') :
  wpAny (model X.prog X.w) X.A (newList []) (fun acc s₃=>wpAny (model X.prog X.w) X.A (newFunctionEnv scope X.env.globals (k6 X.env scope.names []) [] X.env.qual none .none (some X.env)) (fun cenv s₄=>
   codeAny (model X.prog X.w) X.A (.compStart (.ListComp elt [⟨tg,iter,ifs,0⟩] scope pos) 0 itv acc { cenv with scope:=relabel scope X.env }) (RR acc cenv.locals) s₄) E s₃) E s2:=by
 obtain ⟨it,fp,tn,J,H2,rfl,I2,T,t2,f2,q2⟩:=h2
 have fo:∀ b ∈ fp,b < s2.heap.objs.size:=fun b hb=>by
  obtain ⟨o,e,_⟩:=T.obj _ _ t2 b hb
  exact Heap.lt_size e
 have hD:H2 s2.heap.objs.size = none:=I2.fresh
 obtain ⟨W,⟨n,w0⟩,turn⟩:=q2 _ hD
 refine wpAny_newObj_type (wpAny_newFunctionEnv ck.cell (by intro y hy;simp at hy) (fun h1 hns hsb=>?_) ck.kind)
 have I3:Inv X pins σ (d8 H2 s2.heap.objs.size (.lst [])) { s2 with heap:=s2.heap.push { cls:=.type "list",data:=.seq ([]:List Value).toArray },toks:=s2.toks }:=I2.lnew (its:=[]) .nil (Nat.zero_le _)
 have f3:∀ b ∈ fp,uu X pins (d8 H2 s2.heap.objs.size (.lst [])) b:=fun b hb=>by
  obtain ⟨g0,g1⟩:=f2 b hb
  exact ⟨by rw [aS (Nat.ne_of_lt (fo b hb))];exact g0,g1⟩
 have sz:(s2.heap.push { cls:=.type "list",data:=.seq ([]:List Value).toArray }).objs.size = s2.heap.objs.size + 1:=Heap.size_push _ _
 have kept:∀ b o,(s2.heap.push { cls:=.type "list",data:=.seq ([]:List Value).toArray }).get? b = some o -> h1.get? b = some o:=fun b o e=>
  hsb.extBut b o (Nat.ne_of_lt (Heap.lt_size e)) (Heap.get?_push_of_some _ e)
 have I4:=Fw (tk:=s2.toks + ([]:List (Str × Value)).length) ck hXN hsc I3 f3 (fun b hb=>by show b < (s2.heap.push _).objs.size;rw [sz];exact Nat.lt_succ_of_lt (fo b hb)) hns kept
 have t4:tn 0 h1:=T.keep _ _ _ t2 fun b hb o e=>kept b o (Heap.get?_push_of_some _ e)
 have fz:∀ b ∈ fp,∀ H',H' b = none -> uu (pE X N scope ⟨k6 X.env scope.names [],(s2.heap.push { cls:=.type "list",data:=.seq ([]:List Value).toArray }).objs.size,{ s2 with heap:=s2.heap.push { cls:=.type "list",data:=.seq ([]:List Value).toArray },toks:=s2.toks },d8 H2 s2.heap.objs.size (.lst []),fp,pins⟩) [] H' b:=fun b hb H' hn=>by
  obtain ⟨g0,g1,g2,g3,g4,g5⟩:=f3 b hb
  refine ⟨hn,(I4.ok.exf b hb).1,I4.ok.exfs b hb,.inl hb,(I4.ok.exf b hb).2,fun p hp=>?_⟩
  exact g5 p (by simpa [pE] using hp)
 have loop:=Dp (X:=X) (σ:=σ) (N:=N) (scope:=scope) (js:=js) (iter:=iter) (pos:=pos) (E:=E) (R:=RR (.ref s2.heap.objs.size) (s2.heap.push { cls:=.type "list",data:=.seq ([]:List Value).toArray }).objs.size) (D:=s2.heap.objs.size) (W:=W) (n:=n)
  hc T fz (hg _) hs (ht _) (he _) (fun i m H w=>(turn i m H w).imp (fun a=>⟨a.1,fun s' Y=>?_⟩) id) I4 t4 (fun b hb=>(f3 b hb).1) w0
 ·exact codeAny_compStart_list loop (T.self _ 0 _ _ _ t4 loop)
 ·have bb:=Y.base
  have J0:Inv X pins σ H s':=I3.call' Y.os bb Y.hok Y.bare fun b hb=>by
   obtain ⟨g0,g1,g2,g3,g4,g5⟩:=f3 b hb
   exact ⟨g3,g1,g4,g5⟩
  obtain ⟨mC,nC,_⟩:=Y.loc
  obtain ⟨oC,eC,dC⟩:∃ o,s'.heap.get? (s2.heap.push { cls:=.type "list",data:=.seq ([]:List Value).toArray }).objs.size = some o /\ ∀ v,o.data ≠ .cell v:=by
   obtain ⟨o,es,ep,ho,hd,_⟩:=nC
   exact ⟨o,ho,fun v z=>by rw [hd] at z;cases z⟩
  have lC:X.s₀.heap.objs.size <= (s2.heap.push { cls:=.type "list",data:=.seq ([]:List Value).toArray }).objs.size:=I3.sz
  have cC:(s2.heap.push { cls:=.type "list",data:=.seq ([]:List Value).toArray }).objs.size ≠ X.env.locals:=Nat.ne_of_gt I3.lt
  have kC:∀ x c,X.env.cells.lookup x = some c -> c ≠ (s2.heap.push { cls:=.type "list",data:=.seq ([]:List Value).toArray }).objs.size:=fun x c e=>by
   obtain ⟨v,q⟩:=I3.cell x c e
   exact Nat.ne_of_lt q.lt
  have pC:∀ p ∈ X.pn ++ pins,p.1 ≠ (s2.heap.push { cls:=.type "list",data:=.seq ([]:List Value).toArray }).objs.size:=fun p hp=>Nat.ne_of_lt (Heap.lt_size (I3.pin p hp).1)
  have J1:Inv X (pins ++ [((s2.heap.push { cls:=.type "list",data:=.seq ([]:List Value).toArray }).objs.size,oC)]) σ H s':=J0.pins_of fun p hp=>by
   rcases List.mem_append.mp hp with hp | hp
   ·exact J0.pin p (List.mem_append_right _ hp)
   ·rw [List.mem_singleton.mp hp]
    exact ⟨eC,Y.free,cC,I3.nofs (Nat.le_refl _),dC⟩
  exact hRR _ _ s' H mC oC J1 nC ⟨lC,cC,kC,pC⟩ Y.free a.2
theorem gW (ck:CmpOk XN sc scope N js) (hi:PI X tg iter wi) (hg:∀ z,PG (pE X N scope z) tg g) (hs:Ao js g) (ht:∀ z,K5 (pE X N scope z) ifs tt) (he:∀ z,PE (pE X N scope z) elt te)
  (hXN:X.N = XN:=by rfl) (hsc:X.env.scope = sc:=by rfl) (hc:X.calm = true:=by rfl) (hf:∀ x,foldedSetIterable iter X.env x = pure x:=by intro _;rfl) :
  PE X (.ListComp elt [⟨tg,iter,ifs,0⟩] scope pos) (GU js wi g tt te):=by
 intro pins s σ H Q I h
 rw [eval_ListComp]
 have hcl:closureFor scope X.env = pure (k6 X.env scope.names []):=sw fun y hy hk=>I.ok.has y.1 (by
  have:=ck.free y hy hk
  rw [<- hsc] at this
  exact this)
 refine wpAny_comprehension_free (use:=none) rfl hf hcl ck.kind ck.loc (eE (hi pins s σ H _ I h) fun v s1 h1=>eE h1 fun itv s2 h2=>?_)
 refine sC (RR:=fun acc C=>compPost (model X.prog X.w) X.A X.xe none (EP X pins σ Q) acc C) ck hXN hsc hc hg hs ht he h2 ?_
 intro D C s' H' m o J nC hC fC q
 refine ⟨m,nC,fun h' sb=>⟨.ref D,H',?_,rfl,q⟩⟩
 have J0:Inv X pins σ H' s':=J.unpinned
 exact J0.turned (t':=s'.toks) (it:=C) (fun b o hb e=>sb.extBut b o hb e) fC hC.2.1 (.inr hC.1) hC.2.2.1 hC.2.2.2
theorem CD {i:Nat} {y:Str} {pos' spos:Pos} (ck:CmpOk XN sc scope N js) (hN:X.N.Nodup) (hi0:X.N[i]? = some y) (hx:K3 X.env.scope y) (hi:PI X tg iter wi) (hg:∀ z,PG (pE X N scope z) tg g) (hs:Ao js g) (ht:∀ z,K5 (pE X N scope z) ifs tt) (he:∀ z,PE (pE X N scope z) elt te)
  (hsw:swapsWith (.ListComp elt [⟨tg,iter,ifs,0⟩] scope pos) (some (.Name y pos')) spos.line X.env = pure true:=by rfl)
  (hXN:X.N = XN:=by rfl) (hsc:X.env.scope = sc:=by rfl) (hc:X.calm = true:=by rfl) (hf:∀ x,foldedSetIterable iter X.env x = pure x:=by intro _;rfl)
  (hfn:X.fn y = true \/ X.env.scope.names.lookup y = some .local:=by first | exact .inl rfl | exact .inr rfl | assumption) :
  PS X (.Assign [.Name y pos'] (.ListComp elt [⟨tg,iter,ifs,0⟩] scope pos) spos) (uZ (GU js wi g tt te) (jE i)):=by
 intro pins s σ H D I h
 rw [exec_Assign_Name_used _ _ _ _ hsw]
 have hcl:closureFor scope X.env = pure (k6 X.env scope.names []):=sw fun y hy hk=>I.ok.has y.1 (by
  have:=ck.free y hy hk
  rw [<- hsc] at this
  exact this)
 refine wpAny_bind (wpAny_standAt (wpAny_bind ?_))
 show wpAny (model X.prog X.w) X.A (comprehension (.ListComp elt [⟨tg,iter,ifs,0⟩] scope pos) scope X.env _ (newList []) false (eval iter X.env) (some (assign (.Name y pos') X.env)) >>= fun _=>pure ()) _ _ s
 refine wpAny_bind (eE (wpAny_comprehension_free (use:=some (assign (.Name y pos') X.env)) (Q:=fun _ s'=>SP X pins D .next s') rfl hf hcl ck.kind ck.loc (eE (hi pins s σ H _ I h) fun v s1 h1=>eE h1 fun itv s2 h2=>?_)) fun _ s' q=>wpAny_pure (wpAny_pure q))
 refine sC (RR:=fun acc C=>compPost (model X.prog X.w) X.A X.xe (some (assign (.Name y pos') X.env)) (fun _ s'=>SP X pins D .next s') acc C) (Q:=fun x H1=>jE i x σ H1 D.nx) ck hXN hsc hc hg hs ht he h2 ?_
 intro A C s' H' m o J nC hC fC q
 refine eE (aV hN hi0 hx hfn _ s' σ H' (.ref A) (.ref A) _ J rfl q) fun _ s3 h3=>?_
 obtain ⟨σ3,H3,J3,q3⟩:=h3
 have pc:=J3.pin (C,o) (List.mem_append_right _ (List.mem_append_right _ List.mem_cons_self))
 have oC:s'.heap.get? C = some o:=(J.pin (C,o) (List.mem_append_right _ (List.mem_append_right _ List.mem_cons_self))).1
 refine ⟨m,nC.at' fun o' e=>?_,fun h' sb=>⟨σ3,H3,?_,q3⟩⟩
 ·rw [oC] at e
  cases e
  exact pc.1
 ·have J0:Inv X pins σ3 H3 s3:=J3.unpinned
  exact J0.turned (t':=s3.toks) (it:=C) (fun b o hb e=>sb.extBut b o hb e) pc.2.1 hC.2.1 (.inr hC.1) hC.2.2.1 hC.2.2.2
end
end L2
namespace Srt
open PySem PySem.W PyProof.Rows
section
variable {α β:Type} (lt:Nat -> Nat -> Bool) (n:Nat)
end
section
variable {lt:Nat -> Nat -> Bool} {le:Nat -> Nat -> Prop} {n:Nat} {p:Array Nat}
noncomputable abbrev at' (p:Array Nat) (i:Nat):Nat:=p.getD i 0
theorem yi {p q:Array Nat} {i j:Nat} (h:p[i]? = q[j]?):at' p i = at' q j:=by
 have e:∀ (r:Array Nat) (k:Nat),at' r k = (r[k]?).getD 0:=fun r k=>by simp [at']
 rw [e,e,h]
def qX (le:Nat -> Nat -> Prop) (p:Array Nat) (m:Nat):Prop:=∀ i j,i <= j -> j < m -> le (at' p i) (at' p j)
def O7 (n:Nat) (p:Array Nat):Prop:=∀ k,at' p k < n
structure Ord (lt:Nat -> Nat -> Bool) (le:Nat -> Nat -> Prop):Prop where
 tr:∀ a b c,le a b -> le b c -> le a c
 rf:∀ a,le a a
 yes:∀ a b,lt a b = true -> le a b
 no:∀ a b,lt a b = false -> le b a
theorem JQ (hn:0 < n) (hp:p.Perm (List.range n).toArray):O7 n p:=fun k=>by
 have e:at' p k = (p[k]?).getD 0:=by simp [at']
 rw [e]
 cases h:p[k]? with
 | none=>exact hn
 | some v=>
  have hm:v ∈ p:=Array.mem_of_getElem? h
  have:=(Array.perm_iff_toList_perm.mp hp).mem_iff.mp (Array.mem_toList_iff.mpr hm)
  simpa using this
theorem dA {i j:Nat} (hj:j <= p.size) (k:Nat):at' (kas_rev p i j) k = if i <= k /\ k < j then at' p (i + j - 1 - k) else at' p k:=by
 have e:=getElem?_mirror_all (i:=i) hj k
 by_cases h:i <= k /\ k < j
 ·rw [if_pos h] at e ⊢;exact yi e
 ·rw [if_neg h] at e ⊢;exact yi e
variable {z:Nat}
theorem pq {src d:Nat} (hs:src < p.size) (hd:d <= src) (k:Nat):at' (bubble p src d) k = if k = src - d then at' p src else if src - d < k /\ k <= src then at' p (k - 1) else at' p k:=by
 have e:=getElem?_bubble hs d hd k
 by_cases h1:k = src - d
 ·rw [if_pos h1] at e ⊢;exact yi e
 ·rw [if_neg h1] at e ⊢
  by_cases h2:src - d < k /\ k <= src
  ·rw [if_pos h2] at e ⊢;exact yi e
  ·rw [if_neg h2] at e ⊢;exact yi e
end
theorem Bi {α:Type} {le:Nat -> Nat -> Prop} {p:Array Nat} {vs:List α} {d:α} (hp:p.Perm (List.range vs.length).toArray) (ha:qX le p vs.length) :
  (p.toList.map fun i=>vs.getD i d).Perm vs /\ ∀ R:α -> α -> Prop,(∀ i j,i < vs.length -> j < vs.length -> le i j -> R (vs.getD i d) (vs.getD j d)) -> (p.toList.map fun i=>vs.getD i d).Pairwise R:=by
 have hl:p.toList.Perm (List.range vs.length):=by simpa using Array.perm_iff_toList_perm.mp hp
 constructor
 ·have h1:(p.toList.map fun i=>vs.getD i d).Perm ((List.range vs.length).map fun i=>vs.getD i d):=hl.map _
  have h2:((List.range vs.length).map fun i=>vs.getD i d) = vs:=by
   apply List.ext_getElem
   ·simp
   ·intro i h1 h2;simp at h1;simp [h1]
  rw [h2] at h1
  exact h1
 ·intro R hR
  rw [List.pairwise_map,List.pairwise_iff_getElem]
  intro i j hi hj hij
  have hs:p.toList.length = vs.length:=by rw [hl.length_eq];simp
  have m:∀ k (hk:k < p.toList.length),p.toList[k] < vs.length:=fun k hk=>by simpa using hl.mem_iff.mp (List.getElem_mem hk)
  have a:∀ k (hk:k < p.toList.length),at' p k = p.toList[k]:=fun k hk=>by
   have:k < p.size:=by simpa using hk
   simp [at',Array.getD,this]
  refine hR _ _ (m i hi) (m j hj) ?_
  rw [<- a i hi,<- a j hj]
  exact ha i j (Nat.le_of_lt hij) (by lia)
noncomputable def Hy:Bool -> Keyed -> Array Keyed -> Nat -> Nat -> Nat -> StateT SortSt Sem (Option Nat):=sortPriv% PySem.Builtin.gallop
noncomputable def FN:Array Keyed -> Array Keyed -> StateT SortSt Sem (Array Keyed):=sortPriv% PySem.Builtin.mergeLo
noncomputable def FM:Array Keyed -> Array Keyed -> StateT SortSt Sem (Array Keyed):=sortPriv% PySem.Builtin.mergeHi
section
variable {prog:Program} {w:World} {A:Around} {E:Value -> Shared -> Prop} {s:Shared} {κ:SortKind} {it:Array Keyed} {n:Nat} {lt:Nat -> Nat -> Bool} {le:Nat -> Nat -> Prop}
def ut (prog:Program) (w:World) (A:Around) (s:Shared) (κ:SortKind) (it:Array Keyed) (n:Nat) (lt:Nat -> Nat -> Bool):Prop:=
 ∀ i j (C:Bool -> Shared -> Prop),i < n -> j < n -> C (lt i j) s -> kas_cmp prog w A κ it i j C s
theorem w_lt (hc:ut prog w A s κ it n lt) {i j:Nat} {Q:Option Bool -> SortSt -> Prop} {st:SortSt} (hk:kindOf st = κ) (hi:i < n) (hj:j < n) (h:Q (some (lt i j)) st):wpS (model prog w) A E s (lt' (kas_item it i) (kas_item it j)) Q st:=by
 rw [lt'_eq]
 refine wpS_bind (wpS_get ?_)
 rw [hk]
 refine wpS_bind (wpS_lift (wpAny_attempt (wpAny_mono (hc i j (fun c s'=>s' = s /\ c = lt i j) hi hj ⟨rfl,rfl⟩) (fun c s' h'=>?_) fun _ _ hF=>hF.elim)))
 obtain ⟨rfl,rfl⟩:=h'
 exact ⟨rfl,wpS_pure h⟩
theorem cD {X:Array Nat} {k:Nat} {Q:Keyed -> SortSt -> Prop} {st:SortSt} (hk:k < X.size) (h:Q (kas_item it (at' X k)) st):wpS (model prog w) A E s (elem' (X.map (kas_item it)) k) Q st:=by
 rw [elem'_eq]
 have e:at' X k = X[k]:=by simp [at',hk]
 rw [e] at h
 have e2:(X.map (kas_item it))[k]? = some (kas_item it X[k]):=by simp [hk]
 rw [e2]
 exact wpS_pure h
theorem jR (o:Ord lt le) (hc:ut prog w A s κ it n lt) {left:Bool} {key:Nat} {X:Array Nat} {base m hint:Nat} {Q:Option Nat -> SortSt -> Prop} {st:SortSt} (hk:kindOf st = κ) (hb:∀ i,i < X.size -> at' X i < n) (hkey:key < n)
  (hz:base + m <= X.size) (hh:hint < m) (hs:∀ i j,i <= j -> j < m -> le (at' X (base + i)) (at' X (base + j)))
  (h:∀ k,k <= m -> (∀ i,i < k -> le (at' X (base + i)) key) -> (∀ i,k <= i -> i < m -> le key (at' X (base + i))) -> Q (some k) st) :
  wpS (model prog w) A E s (Hy left (kas_item it key) (X.map (kas_item it)) base m hint) Q st:=by
 have bey:∀ i,i < m -> ∀ (R:Option Bool -> SortSt -> Prop),(∀ c,(c = true -> le (at' X (base + i)) key) -> (c = false -> le key (at' X (base + i))) -> R (some c) st) -> wpS (model prog w) A E s (do
   let x ← elem' (X.map (kas_item it)) (base + i)
   if left = true then lt' x (kas_item it key) else do
    let r ← lt' (kas_item it key) x
    pure (Option.map (fun x=>!x) r)) R st:=fun i hi R hR=>by
  refine wpS_bind (cD (by lia) ?_)
  have hx:=hb (base + i) (by lia)
  cases left with
  | true=>
   rw [if_pos rfl]
   exact w_lt hc hk hx hkey (hR _ (o.yes _ _) (o.no _ _))
  | false=>
   rw [if_neg (by decide)]
   refine wpS_bind (w_lt hc hk hkey hx (wpS_pure ?_))
   refine hR _ (fun e=>o.no _ _ (by simpa using e)) (fun e=>o.yes _ _ (by simpa using e))
 have lo':∀ k,k < m -> le (at' X (base + k)) key -> ∀ i,i <= k -> le (at' X (base + i)) key:=fun k hk hl i hi=>o.tr _ _ _ (hs i k hi hk) hl
 have hi':∀ k,k < m -> le key (at' X (base + k)) -> ∀ i,k <= i -> i < m -> le key (at' X (base + i)):=fun k hk hl i hi him=>o.tr _ _ _ hl (hs k i hi him)
 refine wpS_bind (bey hint hh _ fun c c1 c2=>?_)
 dsimp only
 cases c with
 | true=>
  rw [if_pos rfl]
  refine wpS_bind (wpS_mono (wpS_forRange (I:=fun x c st'=>st' = st /\ ∃ l f,c = (none,l,f) /\ x + 1 <= f /\ hint + l < m /\ le (at' X (base + (hint + l))) key)
   (Q:=fun c st'=>st' = st /\ ∃ l f,c = (none,l,f) /\ hint + l < m /\ le (at' X (base + (hint + l))) key /\ (f < m - hint -> le key (at' X (base + (hint + f))))) ?s1 ?f1 ?i1) ?p1)
  case i1=>exact ⟨rfl,0,1,rfl,by lia,by lia,c1 rfl⟩
  case f1=>
   rintro c st' ⟨rfl,l,f,rfl,h1,h2,h3⟩
   exact ⟨rfl,l,f,rfl,h2,h3,fun _=>by lia⟩
  case s1=>
   rintro x c st' _ hx ⟨rfl,l,f,rfl,h1,h2,h3⟩
   dsimp only
   by_cases hge:f ≥ m - hint
   ·rw [if_pos hge]
    exact wpS_pure ⟨rfl,l,f,rfl,h2,h3,fun _=>by lia⟩
   ·rw [if_neg hge]
    refine wpS_bind (bey (hint + f) (by lia) _ fun c d1 d2=>?_)
    dsimp only
    cases c with
    | true=>exact wpS_pure ⟨rfl,f,2 * f + 1,rfl,by lia,by lia,d1 rfl⟩
    | false=>exact wpS_pure ⟨rfl,l,f,rfl,h2,h3,fun _=>d2 rfl⟩
  case p1=>
   rintro c st' ⟨rfl,l,f,rfl,h2,h3,h4⟩
   dsimp only
   have g1:∀ i,i < hint + l + 1 -> i < m -> le (at' X (base + i)) key:=fun i hi _=>lo' _ h2 h3 i (by lia)
   have g2:∀ i,hint + min f (m - hint) <= i -> i < m -> le key (at' X (base + i)):=fun i hi him=>hi' (hint + f) (by lia) (h4 (by lia)) i (by lia) him
   have g3:hint + min f (m - hint) <= m:=by lia
   generalize hint + l + 1 = L at g1 ⊢
   generalize hint + min f (m - hint) = H at g2 g3 ⊢
   refine wpS_bind (wpS_mono (wpS_forRange (I:=fun x c st2=>st2 = st' /\ ∃ l h,c = (none,l,h) /\ h <= m /\ h - l <= m - x /\ (∀ i,i < l -> i < m -> le (at' X (base + i)) key) /\ (∀ i,h <= i -> i < m -> le key (at' X (base + i))))
    (Q:=fun c st2=>st2 = st' /\ ∃ l h,c = (none,l,h) /\ h <= m /\ h <= l /\ (∀ i,i < l -> i < m -> le (at' X (base + i)) key) /\ (∀ i,h <= i -> i < m -> le key (at' X (base + i)))) ?s2 ?f2 ?i2) ?p2)
   case i2=>exact ⟨rfl,L,H,rfl,g3,by lia,g1,g2⟩
   case f2=>
    rintro c st2 ⟨rfl,l,h,rfl,k1,k2,k3,k4⟩
    exact ⟨rfl,l,h,rfl,k1,by lia,k3,k4⟩
   case s2=>
    rintro x c st2 _ hx ⟨rfl,l,h,rfl,k1,k2,k3,k4⟩
    dsimp only
    by_cases hge:l ≥ h
    ·rw [if_pos hge]
     exact wpS_pure ⟨rfl,l,h,rfl,k1,hge,k3,k4⟩
    ·rw [if_neg hge]
     refine wpS_bind (bey (l + (h - l) / 2) (by lia) _ fun c d1 d2=>?_)
     dsimp only
     cases c with
     | true=>exact wpS_pure ⟨rfl,_,_,rfl,k1,by lia,fun i hi him=>lo' _ (by lia) (d1 rfl) i (by lia),k4⟩
     | false=>exact wpS_pure ⟨rfl,_,_,rfl,by lia,by lia,k3,fun i hi him=>hi' _ (by lia) (d2 rfl) i hi him⟩
   case p2=>
    rintro c st2 ⟨rfl,l,h',rfl,k1,k2,k3,k4⟩
    exact wpS_pure (h h' k1 (fun i hi=>k3 i (by lia) (by lia)) k4)
 | false=>
  rw [if_neg (by decide)]
  refine wpS_bind (wpS_mono (wpS_forRange (I:=fun x c st'=>st' = st /\ ∃ l f,c = (none,l,f) /\ x + 1 <= f /\ l <= hint /\ le key (at' X (base + (hint - l))))
   (Q:=fun c st'=>st' = st /\ ∃ l f,c = (none,l,f) /\ l <= hint /\ le key (at' X (base + (hint - l))) /\ (f < hint + 1 -> le (at' X (base + (hint - f))) key)) ?s1 ?f1 ?i1) ?p1)
  case i1=>exact ⟨rfl,0,1,rfl,by lia,by lia,c2 rfl⟩
  case f1=>
   rintro c st' ⟨rfl,l,f,rfl,h1,h2,h3⟩
   exact ⟨rfl,l,f,rfl,h2,h3,fun _=>by lia⟩
  case s1=>
   rintro x c st' _ hx ⟨rfl,l,f,rfl,h1,h2,h3⟩
   dsimp only
   by_cases hge:f ≥ hint + 1
   ·rw [if_pos hge]
    exact wpS_pure ⟨rfl,l,f,rfl,h2,h3,fun _=>by lia⟩
   ·rw [if_neg hge]
    refine wpS_bind (bey (hint - f) (by lia) _ fun c d1 d2=>?_)
    dsimp only
    cases c with
    | true=>exact wpS_pure ⟨rfl,l,f,rfl,h2,h3,fun _=>d1 rfl⟩
    | false=>exact wpS_pure ⟨rfl,f,2 * f + 1,rfl,by lia,by lia,d2 rfl⟩
  case p1=>
   rintro c st' ⟨rfl,l,f,rfl,h2,h3,h4⟩
   dsimp only
   have g1:∀ i,i < hint + 1 - min f (hint + 1) -> i < m -> le (at' X (base + i)) key:=fun i hi _=>lo' (hint - f) (by lia) (h4 (by lia)) i (by lia)
   have g2:∀ i,hint - l <= i -> i < m -> le key (at' X (base + i)):=fun i hi him=>hi' (hint - l) (by lia) h3 i (by lia) him
   have g3:hint - l <= m:=by lia
   generalize hint + 1 - min f (hint + 1) = L at g1 ⊢
   generalize hint - l = H at g2 g3 ⊢
   refine wpS_bind (wpS_mono (wpS_forRange (I:=fun x c st2=>st2 = st' /\ ∃ l h,c = (none,l,h) /\ h <= m /\ h - l <= m - x /\ (∀ i,i < l -> i < m -> le (at' X (base + i)) key) /\ (∀ i,h <= i -> i < m -> le key (at' X (base + i))))
    (Q:=fun c st2=>st2 = st' /\ ∃ l h,c = (none,l,h) /\ h <= m /\ h <= l /\ (∀ i,i < l -> i < m -> le (at' X (base + i)) key) /\ (∀ i,h <= i -> i < m -> le key (at' X (base + i)))) ?s2 ?f2 ?i2) ?p2)
   case i2=>exact ⟨rfl,L,H,rfl,g3,by lia,g1,g2⟩
   case f2=>
    rintro c st2 ⟨rfl,l,h,rfl,k1,k2,k3,k4⟩
    exact ⟨rfl,l,h,rfl,k1,by lia,k3,k4⟩
   case s2=>
    rintro x c st2 _ hx ⟨rfl,l,h,rfl,k1,k2,k3,k4⟩
    dsimp only
    by_cases hge:l ≥ h
    ·rw [if_pos hge]
     exact wpS_pure ⟨rfl,l,h,rfl,k1,hge,k3,k4⟩
    ·rw [if_neg hge]
     refine wpS_bind (bey (l + (h - l) / 2) (by lia) _ fun c d1 d2=>?_)
     dsimp only
     cases c with
     | true=>exact wpS_pure ⟨rfl,_,_,rfl,k1,by lia,fun i hi him=>lo' _ (by lia) (d1 rfl) i (by lia),k4⟩
     | false=>exact wpS_pure ⟨rfl,_,_,rfl,by lia,by lia,k3,fun i hi him=>hi' _ (by lia) (d2 rfl) i hi him⟩
   case p2=>
    rintro c st2 ⟨rfl,l,h',rfl,k1,k2,k3,k4⟩
    exact wpS_pure (h h' k1 (fun i hi=>k3 i (by lia) (by lia)) k4)
end
end Srt
namespace Srt
section
variable {le:Nat -> Nat -> Prop} {tot out ra rb xs:List Nat}
def Inv (le:Nat -> Nat -> Prop) (tot out ra rb:List Nat):Prop:=(out ++ ra).Pairwise le /\ (out ++ rb).Pairwise le /\ (out ++ (ra ++ rb)).Perm tot
theorem Inv.symm (h:Inv le tot out ra rb):Inv le tot out rb ra:=⟨h.2.1,h.1,(List.Perm.append_left _ List.perm_append_comm).trans h.2.2⟩
theorem Inv.block (h:Inv le tot out (xs ++ ra) rb) (k:∀ x ∈ xs,∀ y ∈ rb,le x y):Inv le tot (out ++ xs) ra rb:=by
 obtain ⟨h1,h2,h3⟩:=h
 refine ⟨by rw [List.append_assoc];exact h1,?_,by rw [List.append_assoc,<- List.append_assoc xs];exact h3⟩
 rw [List.pairwise_append] at h1 h2
 rw [List.append_assoc,List.pairwise_append]
 obtain ⟨a1,a2,a3⟩:=h1
 obtain ⟨b1,b2,b3⟩:=h2
 rw [List.pairwise_append] at a2
 refine ⟨a1,List.pairwise_append.mpr ⟨a2.1,b2,k⟩,fun x hx y hy=>?_⟩
 rcases List.mem_append.mp hy with hy | hy
 ·exact a3 x hx y (List.mem_append_left _ hy)
 ·exact b3 x hx y hy
theorem Inv.doneA (h:Inv le tot out ra []):(out ++ ra).Pairwise le /\ (out ++ ra).Perm tot:=⟨h.1,by have:=h.2.2;rwa [List.append_nil] at this⟩
theorem Inv.lastA {x:Nat} (h:Inv le tot out [x] rb) (k:∀ y ∈ rb,le y x):(out ++ (rb ++ [x])).Pairwise le /\ (out ++ (rb ++ [x])).Perm tot:=by
 refine ⟨?_,(List.Perm.append_left _ List.perm_append_comm).trans h.2.2⟩
 obtain ⟨h1,h2,_⟩:=h
 rw [List.pairwise_append] at h1 h2
 rw [List.pairwise_append]
 refine ⟨h1.1,List.pairwise_append.mpr ⟨h2.2.1,List.pairwise_singleton _ _,fun y hy z hz=>?_⟩,fun a ha b hb=>?_⟩
 ·rw [List.mem_singleton] at hz;subst hz;exact k y hy
 ·rcases List.mem_append.mp hb with hb | hb
  ·exact h2.2.2 a ha b hb
  ·exact h1.2.2 a ha b hb
end
section
variable {X Y O:Array Nat} {le:Nat -> Nat -> Prop} {tot:List Nat}
theorem JO {i:Nat} (h:i < X.size):at' X i = X[i]:=by simp [at',h]
theorem j7 {i:Nat} (h:i < X.size):X.toList[i]'(by simpa using h) = at' X i:=by rw [JO h];simp
theorem wU {i:Nat} (h:i < X.size):X.toList.drop i = at' X i :: X.toList.drop (i + 1):=by
 rw [List.drop_eq_getElem_cons (by simpa using h),j7 h]
theorem oq {i j:Nat} (h:i <= j):X.toList.drop i = (X.extract i j).toList ++ X.toList.drop j:=by
 rw [Array.toList_extract,List.extract_eq_take_drop]
 have e:X.toList.drop j = (X.toList.drop i).drop (j - i):=by rw [List.drop_drop];congr 1;lia
 rw [e,List.take_append_drop]
theorem tE {i x:Nat} (h:x ∈ X.toList.drop i):∃ j,i <= j /\ j < X.size /\ at' X j = x:=by
 obtain ⟨k,hk⟩:=List.getElem?_of_mem h
 rw [List.getElem?_drop] at hk
 obtain ⟨h1,h2⟩:=List.getElem?_eq_some_iff.mp hk
 have h1':i + k < X.size:=by simpa using h1
 exact ⟨i + k,by lia,h1',by rw [<- j7 h1'];exact h2⟩
theorem rB {i j x:Nat} (h:x ∈ (X.extract i j).toList):∃ k,i <= k /\ k < j /\ k < X.size /\ at' X k = x:=by
 obtain ⟨k,hk⟩:=List.getElem?_of_mem h
 rw [Array.toList_extract,List.extract_eq_take_drop,List.getElem?_take] at hk
 split at hk
 ·rw [List.getElem?_drop] at hk
  obtain ⟨h1,h2⟩:=List.getElem?_eq_some_iff.mp hk
  have h1':i + k < X.size:=by simpa using h1
  exact ⟨i + k,by lia,by lia,h1',by rw [<- j7 h1'];exact h2⟩
 ·cases hk
abbrev J (le:Nat -> Nat -> Prop) (tot:List Nat) (X Y O:Array Nat) (ia ib:Nat):Prop:=Inv le tot O.toList (X.toList.drop ia) (Y.toList.drop ib)
variable {ia ib:Nat}
theorem J.one (j:J le tot X Y O ia ib) (h:ia < X.size) (k:∀ i,ib <= i -> i < Y.size -> le (at' X ia) (at' Y i)):J le tot X Y (O.push (at' X ia)) (ia + 1) ib:=by
 unfold J at j ⊢
 rw [wU h] at j
 have:=Inv.block (xs:=[at' X ia]) j (fun x hx y hy=>by
  rw [List.mem_singleton] at hx
  subst hx
  obtain ⟨i,h1,h2,rfl⟩:=tE hy
  exact k i h1 h2)
 rwa [Array.toList_push]
theorem J.blk {m:Nat} (j:J le tot X Y O ia ib) (k:∀ i l,ia <= i -> i < ia + m -> i < X.size -> ib <= l -> l < Y.size -> le (at' X i) (at' Y l)):J le tot X Y (O ++ X.extract ia (ia + m)) (ia + m) ib:=by
 unfold J at j ⊢
 rw [oq (j:=ia + m) (by lia)] at j
 have:=Inv.block j (fun x hx y hy=>by
  obtain ⟨i,h1,h2,h3,rfl⟩:=rB hx
  obtain ⟨l,h4,h5,rfl⟩:=tE hy
  exact k i l h1 h2 h3 h4 h5)
 rwa [Array.toList_append]
theorem J.sy (j:J le tot X Y O ia ib):J le tot Y X O ib ia:=Inv.symm j
abbrev kR (le:Nat -> Nat -> Prop) (tot:List Nat) (R:Array Nat):Prop:=R.toList.Pairwise le /\ R.toList.Perm tot
theorem J.done1 (j:J le tot X Y O ia ib) (h:Y.size <= ib) (h2:ia <= X.size):kR le tot (O ++ X.extract ia X.size ++ Y.extract ib Y.size):=by
 unfold J at j
 rw [List.drop_of_length_le (l:=Y.toList) (by simpa using h)] at j
 have e:(Y.extract ib Y.size) = #[]:=by simp;lia
 have e2:X.toList.drop ia = (X.extract ia X.size).toList:=by rw [oq h2];simp
 rw [e,Array.append_empty]
 unfold kR
 rw [Array.toList_append,<- e2]
 exact j.doneA
theorem J.done2 (j:J le tot X Y O ia ib) (h:X.size <= ia) (h2:ib <= Y.size):kR le tot (O ++ X.extract ia X.size ++ Y.extract ib Y.size):=by
 have e:(X.extract ia X.size) = #[]:=by simp;lia
 have:=j.sy.done1 h h2
 rw [e,Array.append_empty] at this ⊢
 exact this
theorem J.last (j:J le tot X Y O ia ib) (h:ia + 1 = X.size) (h2:ib <= Y.size) (k:∀ i,i < Y.size -> le (at' Y i) (at' X ia)):kR le tot (O ++ Y.extract ib Y.size ++ X.extract ia X.size):=by
 unfold J at j
 rw [wU (by lia),List.drop_of_length_le (l:=X.toList) (i:=ia + 1) (by simp;lia)] at j
 have:=j.lastA fun y hy=>by
  obtain ⟨i,h1,h2,rfl⟩:=tE hy
  exact k i h2
 have e:(X.extract ia X.size).toList = [at' X ia]:=by
  have e2:X.toList.drop ia = (X.extract ia X.size).toList:=by rw [oq (j:=X.size) (by lia)];simp
  rw [<- e2,wU (by lia),List.drop_of_length_le (l:=X.toList) (i:=ia + 1) (by simp;lia)]
 have e3:Y.toList.drop ib = (Y.extract ib Y.size).toList:=by rw [oq h2];simp
 unfold kR
 rw [Array.toList_append,Array.toList_append,e,<- e3,List.append_assoc]
 exact this
end
end Srt
namespace Srt
open PySem PySem.W PyProof.Rows
section
variable {prog:Program} {w:World} {A:Around} {E:Value -> Shared -> Prop} {s:Shared} {κ:SortKind} {it:Array Keyed} {n:Nat} {lt:Nat -> Nat -> Bool} {le:Nat -> Nat -> Prop}
def Same (κ:SortKind) (st st':SortSt):Prop:=kindOf st' = κ /\ arrOf st' = arrOf st /\ pendingOf st' = pendingOf st /\ failedOf st' = failedOf st
theorem Same.g {st st2:SortSt} (h:Same κ st st2) (g:Nat):Same κ st (SortSt.mk' (kindOf st2) (arrOf st2) (pendingOf st2) g (failedOf st2)):=h
theorem kH {σ α:Type} {M:Model} {c:Prop} [Decidable c] {a b:StateT σ Sem α} {Q:α -> σ -> Prop} {st:σ} (h1:wpS M A E s a Q st) (h2:wpS M A E s b Q st):wpS M A E s (if c then a else b) Q st:=by
 by_cases h:c
 ·rw [if_pos h];exact h1
 ·rw [if_neg h];exact h2
theorem MP (f:Nat -> Keyed) (Z:Array Nat):(Z.map f).extract 0 Z.size = Z.map f:=by
 have:Z.size = (Z.map f).size:=by simp
 rw [this];simp
theorem CF {X:Array Nat} (h:∀ i j,i <= j -> j < X.size -> le (at' X i) (at' X j)):X.toList.Pairwise le:=by
 rw [List.pairwise_iff_getElem]
 intro i j hi hj hij
 have h2:j < X.size:=by simpa using hj
 rw [j7 (by lia),j7 h2]
 exact h i j (by lia) h2
theorem bV {σ α:Type} {M:Model} {c:Prop} [Decidable c] {a b:StateT σ Sem α} {Q:α -> σ -> Prop} {st:σ} (h1:c -> wpS M A E s a Q st) (h2:¬c -> wpS M A E s b Q st):wpS M A E s (if c then a else b) Q st:=by
 by_cases h:c
 ·rw [if_pos h];exact h1 h
 ·rw [if_neg h];exact h2 h
theorem C7 {σ α β:Type} {M:Model} {c:Prop} [Decidable c] {f:β -> StateT σ Sem α} {a b:β} {Q:α -> σ -> Prop} {st:σ} (h:∀ x,wpS M A E s (f x) Q st):wpS M A E s (if c then f a else f b) Q st:=kH (h a) (h b)
theorem xX {σ α β γ:Type} {M:Model} {jp:Unit -> β -> γ -> StateT σ Sem α} {m:StateT σ Sem α} {Q:α -> σ -> Prop} {st:σ} (P:β -> γ -> Prop) (h:∀ b c,P b c -> wpS M A E s (jp () b c) Q st) (k:(∀ b c,P b c -> wpS M A E s (jp () b c) Q st) -> wpS M A E s m Q st):wpS M A E s m Q st:=k h
theorem mq {σ β:Type} {M:Model} {b:Nat} {f:Nat -> β -> StateT σ Sem (ForInStep β)} (I:Nat -> β -> σ -> Prop) (Q:β -> σ -> Prop)
  {P:β -> σ -> Prop} {c:β} {st:σ} (h:I 0 c st)
  (hs:∀ i c st (R:ForInStep β -> σ -> Prop),(∀ c st,Q c st -> R (.done c) st) -> (∀ c st,I (i + 1) c st -> R (.yield c) st) -> i < b -> I i c st -> wpS M A E s (f i c) R st)
  (he:∀ c st,I b c st -> Q c st) (hp:∀ c st,Q c st -> P c st):wpS M A E s (forIn [0:b] c f) P st:=
 wpS_mono (wpS_forRange I (fun i c st _ hb hi=>hs i c st _ (fun _ _ h=>h) (fun _ _ h=>h) hb hi) (fun c st h=>he c st (by rwa [Nat.zero_max] at h)) h) hp
theorem MY {p:Nat -> Prop} {u a b:Nat} (h:∀ i,a <= i -> i < b -> p (u + i)) (i:Nat) (h1:u + a <= i) (h2:i < u + b):p i:=by
 have:=h (i - u) (by lia) (by lia)
 rwa [show u + (i - u) = i by lia] at this
def LR (κ:SortKind) (it:Array Keyed) (st:SortSt) (le:Nat -> Nat -> Prop) (X Y:Array Nat) (r:Option (Array Keyed)) (st2:SortSt):Prop:=∃ R,r = some (R.map (kas_item it)) /\ kR le (X.toList ++ Y.toList) R /\ Same κ st st2
def LI (κ:SortKind) (st:SortSt) (le:Nat -> Nat -> Prop) (X Y:Array Nat) (v:Nat) (st2:SortSt) (O:Array Nat) (ia ib:Nat):Prop:=Same κ st st2 /\ ia + 1 < X.size /\ ib < Y.size /\ v <= ia + ib /\ J le (X.toList ++ Y.toList) X Y O ia ib
theorem EK (o:Ord lt le) (hc:ut prog w A s κ it n lt) {X Y:Array Nat} {Q:Array Keyed -> SortSt -> Prop} {st:SortSt} (hk:kindOf st = κ) (hx:∀ i,i < X.size -> at' X i < n) (hy:∀ i,i < Y.size -> at' Y i < n)
  (x1:1 <= X.size) (y1:1 <= Y.size) (sx:∀ i j,i <= j -> j < X.size -> le (at' X i) (at' X j)) (sy:∀ i j,i <= j -> j < Y.size -> le (at' Y i) (at' Y j)) (hf:∀ i,i < X.size -> le (at' Y 0) (at' X i)) (hl:∀ i,i < Y.size -> le (at' Y i) (at' X (X.size - 1)))
  (h:∀ R st',Same κ st st' -> kR le (X.toList ++ Y.toList) R -> Q (R.map (kas_item it)) st') :
  wpS (model prog w) A E s (FN (X.map (kas_item it)) (Y.map (kas_item it))) Q st:=by
 have sm0:Same κ st st:=⟨hk,rfl,rfl,rfl⟩
 have hl':∀ ia,ia + 1 = X.size -> ∀ i,i < Y.size -> le (at' Y i) (at' X ia):=fun ia e i hi=>by have:=hl i hi;rwa [<- e] at this
 have fin:∀ {O:Array Keyed} {R},O = R.map (kas_item it) -> ∀ {st'},Same κ st st' -> kR le (X.toList ++ Y.toList) R -> Q O st':=fun e _ sm g=>e ▸ h _ _ sm g
 have j0:J le (X.toList ++ Y.toList) X Y #[] 0 0:=⟨by simpa using CF sx,by simpa using CF sy,by simp⟩
 have j1:J le (X.toList ++ Y.toList) X Y #[at' Y 0] 0 1:=(j0.sy.one (by lia) fun i _ h2=>hf i h2).sy
 refine wpS_bind (wpS_lift (wpAny_rule ⟨rfl,?_⟩))
 refine wpS_bind (cD (by lia) ?_)
 dsimp -zeta only
 simp -zeta only [Array.size_map,beq_iff_eq]
 refine bV (fun e=>wpS_pure (fin ?_ sm0 (j1.done1 (by lia) (by lia)))) fun e1=>bV (fun e=>wpS_pure (fin ?_ sm0 (j1.last (by lia) (by lia) (hl' 0 (by lia))))) fun e2=>?_
 ·simp [MP]
 ·simp [MP]
 refine wpS_bind (wpS_get (wpS_bind (mq (fun x c st2=>∃ O ia ib g,c = (none,O.map (kas_item it),ia,ib,g) /\ LI κ st le X Y (x + 1) st2 O ia ib) (fun c st2=>LR κ it st le X Y c.1 st2) ⟨#[at' Y 0],0,1,_,by simp;rfl,sm0,by lia,by lia,by lia,j1⟩ ?s1 ?f1 ?p1)))
 case f1=>
  rintro c st2 ⟨O,ia,ib,g,rfl,sm,la,lb,ls,j⟩
  lia
 case p1=>
  rintro ⟨c,c'⟩ st2 ⟨R,rfl,hR,sm⟩
  exact wpS_pure (h R st2 sm hR)
 rintro x c st2 QQ hD hY hx0 ⟨O,ia,ib,g,rfl,L⟩
 refine wpS_bind (mq (fun y c st2=>∃ O ia ib a b,c = (none,O.map (kas_item it),ia,ib,a,b) /\ LI κ st le X Y (x + 1 + y) st2 O ia ib) (fun c st2=>LR κ it st le X Y c.1 st2 \/ ∃ O ia ib a b,c = (none,O.map (kas_item it),ia,ib,a,b) /\ LI κ st le X Y (x + 2) st2 O ia ib) ⟨O,ia,ib,0,0,rfl,L⟩ ?s2 ?f2 ?p2)
 case f2=>
  rintro c st2 ⟨O,ia,ib,a,b,rfl,sm,la,lb,ls,j⟩
  lia
 case s2=>
  clear hD hY
  rintro y c st2 QQ hD hY hy0 ⟨O,ia,ib,a,b,rfl,sm,la,lb,ls,j⟩
  have la':ia < X.size:=by lia
  refine wpS_bind (cD lb (wpS_bind (cD la' (wpS_bind (w_lt hc sm.1 (hy ib lb) (hx ia la') ?_)))))
  dsimp -zeta only
  cases cw:lt (at' Y ib) (at' X ia) with
  | true=>
   have j2:J le (X.toList ++ Y.toList) X Y (O.push (at' Y ib)) ia (ib + 1):=(j.sy.one lb fun i h1 h2=>o.tr _ _ _ (o.yes _ _ cw) (sx _ _ h1 h2)).sy
   rw [if_pos rfl]
   refine wpS_bind (cD lb (bV (fun e=>wpS_pure (hD _ _ (.inl ⟨_,?_,j2.done1 (by lia) (by lia),sm⟩))) fun e=>kH (wpS_pure (hD _ _ (.inr ⟨_,ia,ib + 1,_,_,by rw [<- Array.map_push],sm,la,by lia,by lia,j2⟩))) (wpS_pure (hY _ _ ⟨_,ia,ib + 1,_,_,by rw [<- Array.map_push],sm,la,by lia,by lia,j2⟩))))
   simp
  | false=>
   have j2:=j.one la' fun i h1 h2=>o.tr _ _ _ (o.no _ _ cw) (sy _ _ h1 h2)
   rw [if_neg (by decide)]
   refine wpS_bind (cD la' (bV (fun e=>wpS_pure (hD _ _ (.inl ⟨_,?_,j2.last e (by lia) (hl' _ e),sm⟩))) fun e=>kH (wpS_pure (hD _ _ (.inr ⟨_,ia + 1,ib,_,_,by rw [<- Array.map_push],sm,by lia,lb,by lia,j2⟩))) (wpS_pure (hY _ _ ⟨_,ia + 1,ib,_,_,by rw [<- Array.map_push],sm,by lia,lb,by lia,j2⟩))))
   simp
 case p2=>
  clear L
  rintro ⟨c,c'⟩ st2 (⟨R,rfl,hR,sm⟩ | ⟨O,ia,ib,a,b,hcc,L⟩)
  ·exact wpS_pure (hD _ _ ⟨R,rfl,hR,sm⟩)
  cases hcc
  refine wpS_bind (wpS_lift (wpAny_rule ⟨rfl,wpS_bind (mq (fun y c st2=>∃ O ia ib m a b,c = (none,O.map (kas_item it),ia,ib,m,a,b) /\ LI κ st le X Y (x + 2) st2 O ia ib) (fun c st2=>LR κ it st le X Y c.1 st2 \/ ∃ O ia ib m a b,c = (none,O.map (kas_item it),ia,ib,m,a,b) /\ LI κ st le X Y (x + 2) st2 O ia ib) ⟨O,ia,ib,_,_,_,rfl,L⟩ ?s3 (fun _ _ h=>.inr h) ?p3)⟩))
  case p3=>
   rintro ⟨c,c'⟩ st2 (⟨R,rfl,hR,sm⟩ | ⟨O,ia,ib,m,a,b,hcc,sm,L⟩)
   ·exact wpS_pure (hD _ _ ⟨R,rfl,hR,sm⟩)
   cases hcc
   exact wpS_bind (wpS_modify (wpS_pure (hY _ _ ⟨O,ia,ib,_,rfl,sm.g _,L⟩)))
  clear hD hY L
  rintro y c st2 QQ hD hY hy0 ⟨O,ia,ib,m,a,b,rfl,sm,la,lb,ls,j⟩
  have dR:∀ {R' R t st2},R' = R.map (kas_item it) -> Same κ st st2 -> kR le (X.toList ++ Y.toList) R -> QQ (.done (some R',t)) st2:=fun e sm g=>hD _ _ (.inl ⟨_,congrArg some e,g,sm⟩)
  dsimp -zeta only
  extract_lets -underBinder s1 out s2 ia2 s3 ib2 s4 mg s5 ac bc jp
  refine C7 fun g=>?_
  replace sm:=sm.g g
  refine wpS_bind (wpS_modify (wpS_bind (cD lb (wpS_bind (jR o hc sm.1 hx (hy ib lb) (show ia + (X.size - ia) <= X.size by lia) (show 0 < X.size - ia by lia) (fun i k h1 h2=>sx (ia + i) (ia + k) (by lia) (show ia + k < X.size by change k < X.size - ia at h2;lia)) fun k k1 k2 k3=>?_)))))
  replace k2:=MY (p:=fun i=>le (at' X i) (at' Y ib)) (a:=0) fun i _ h=>k2 i h
  replace k3:∀ i,ia + k <= i -> i < X.size -> le (at' Y ib) (at' X i):=fun i h1 h2=>MY (p:=fun i=>le (at' Y ib) (at' X i)) k3 i h1 (show i < ia + (X.size - ia) by lia)
  dsimp -zeta only
  extract_lets -underBinder ac2 jp2
  refine xX (jp:=jp2) (fun O' i=>∃ O,O' = O.map (kas_item it) /\ i + 1 < X.size /\ x + 2 <= i + ib /\ J le (X.toList ++ Y.toList) X Y O i ib /\ ∀ l,i <= l -> l < X.size -> le (at' Y ib) (at' X l)) ?_ fun hj=>?_
  ·rintro O' i ⟨O,rfl,la,ls,j,ky⟩
   have j2:J le (X.toList ++ Y.toList) X Y (O.push (at' Y ib)) i (ib + 1):=(j.sy.one lb ky).sy
   have li:i < X.size:=by lia
   refine wpS_bind (cD lb (bV (fun e=>wpS_pure (dR ?_ sm (j2.done1 (Nat.le_of_eq e.symm) (by lia)))) fun e=>wpS_bind (cD li (wpS_bind (jR o hc sm.1 hy (hx i li) (show ib + 1 + (Y.size - (ib + 1)) <= Y.size by lia) (show 0 < Y.size - (ib + 1) by change ¬ib + 1 = Y.size at e;lia) (fun i k h1 h2=>sy (ib + 1 + i) (ib + 1 + k) (by lia) (show ib + 1 + k < Y.size by change k < Y.size - (ib + 1) at h2;lia)) fun k k1 k2 k3=>?_)))))
   ·simp +zetaDelta
   replace k2:=MY (p:=fun l=>le (at' Y l) (at' X i)) (u:=ib + 1) (a:=0) fun i _ h=>k2 i h
   replace k3:∀ l,ib + 1 + k <= l -> l < Y.size -> le (at' X i) (at' Y l):=fun l h1 h2=>MY (p:=fun l=>le (at' X i) (at' Y l)) (u:=ib + 1) k3 l h1 (show l < ib + 1 + (Y.size - (ib + 1)) by lia)
   dsimp -zeta only
   extract_lets -underBinder bc2 jp3
   refine xX (jp:=jp3) (fun O' l=>∃ O,O' = O.map (kas_item it) /\ l < Y.size /\ ib < l /\ J le (X.toList ++ Y.toList) X Y O i l /\ ∀ i',l <= i' -> i' < Y.size -> le (at' X i) (at' Y i')) ?_ fun hj=>?_
   ·rintro O' l ⟨O,rfl,lb,lc,j,ky⟩
    have j2:=j.one li ky
    refine wpS_bind (cD li (bV (fun e=>wpS_pure (dR ?_ sm (j2.last e (by lia) (hl' _ e)))) fun e=>kH (wpS_pure (hD _ _ (.inr ⟨_,i + 1,l,_,_,_,by rw [<- Array.map_push],sm,by lia,lb,by lia,j2⟩))) (wpS_pure (hY _ _ ⟨_,i + 1,l,_,_,_,by rw [<- Array.map_push],sm,by lia,lb,by lia,j2⟩))))
    simp
   have j3:J le (X.toList ++ Y.toList) X Y (O.push (at' Y ib) ++ Y.extract (ib + 1) (ib + 1 + k)) i (ib + 1 + k):=(j2.sy.blk fun i' l h1 h2 h3 h4 h5=>o.tr _ _ _ (k2 i' h1 h2) (sx _ _ h4 h5)).sy
   refine bV (fun k0=>bV (fun e=>wpS_pure (dR ?_ sm (j3.done1 (Nat.le_of_eq e.symm) (Nat.le_of_lt li)))) fun e=>hj _ _ ⟨_,?_,Nat.lt_of_le_of_ne (show ib + 1 + k <= Y.size by change k <= Y.size - (ib + 1) at k1;lia) e,show ib < ib + 1 + k by lia,j3,k3⟩) fun k0=>hj _ _ ⟨O.push (at' Y ib),?_,Nat.lt_of_le_of_ne lb e,Nat.lt_succ_self ib,j2,fun l h1 h2=>k3 l (show ib + 1 + k <= l by change ib + 1 <= l at h1;lia) h2⟩
   ·simp +zetaDelta
   ·simp +zetaDelta
   ·simp +zetaDelta
  have j3:=j.blk (m:=k) fun i l h1 h2 h3 h4 h5=>o.tr _ _ _ (k2 i h1 h2) (sy _ _ h4 h5)
  have kk:ia + k <= X.size:=by change k <= X.size - ia at k1;lia
  refine bV (fun k0=>bV (fun e=>wpS_pure (dR ?_ sm (j3.last e (by lia) (hl' _ e)))) fun e=>bV (fun e2=>wpS_pure (dR ?_ sm (j3.done2 (Nat.le_of_eq e2.symm) (by lia)))) fun e2=>hj _ _ ⟨_,?_,show ia + k + 1 < X.size by change ¬ia + k + 1 = X.size at e;change ¬ia + k = X.size at e2;lia,show x + 2 <= ia + k + ib by lia,j3,k3⟩) fun k0=>hj _ _ ⟨O,rfl,la,ls,j,fun l h1 h2=>k3 l (show ia + k <= l by change ia <= l at h1;lia) h2⟩
  ·simp +zetaDelta
  ·simp +zetaDelta
  ·simp +zetaDelta
end
section
variable {X Y O:Array Nat} {le:Nat -> Nat -> Prop} {tot:List Nat} {na nb:Nat}
theorem C2 {i:Nat} (h:i < X.size):X.toList.take (i + 1) = X.toList.take i ++ [at' X i]:=by
 rw [List.take_succ_eq_append_getElem (by simpa using h),j7 h]
theorem lL {i j:Nat} (h:i <= j):X.toList.take j = X.toList.take i ++ (X.extract i j).toList:=by
 rw [Array.toList_extract,List.extract_eq_take_drop]
 have e:j = i + (j - i):=by lia
 conv=>lhs;rw [e,List.take_add]
theorem tF {i x:Nat} (h:x ∈ X.toList.take i):∃ j,j < i /\ j < X.size /\ at' X j = x:=by
 obtain ⟨k,hk⟩:=List.getElem?_of_mem h
 rw [List.getElem?_take] at hk
 split at hk
 ·obtain ⟨h1,h2⟩:=List.getElem?_eq_some_iff.mp hk
  have h1':k < X.size:=by simpa using h1
  exact ⟨k,by lia,h1',by rw [<- j7 h1'];exact h2⟩
 ·cases hk
abbrev JH (le:Nat -> Nat -> Prop) (tot:List Nat) (X Y O:Array Nat) (na nb:Nat):Prop:=Inv (fun a b=>le b a) tot O.toList (X.toList.take na).reverse (Y.toList.take nb).reverse
theorem JH.sy (j:JH le tot X Y O na nb):JH le tot Y X O nb na:=Inv.symm j
theorem JH.one (j:JH le tot X Y O na nb) (h:1 <= na) (h2:na <= X.size) (k:∀ i,i < nb -> le (at' Y i) (at' X (na - 1))):JH le tot X Y (O.push (at' X (na - 1))) (na - 1) nb:=by
 unfold JH at j ⊢
 obtain ⟨m,rfl⟩:∃ m,na = m + 1:=⟨na - 1,by lia⟩
 rw [C2 (by lia),List.reverse_append] at j
 rw [Nat.add_sub_cancel] at k ⊢
 have:=Inv.block (xs:=[at' X m]) j (fun x hx y hy=>by
  rw [List.mem_singleton] at hx
  subst hx
  obtain ⟨i,h1,h2,rfl⟩:=tF (List.mem_reverse.mp hy)
  exact k i h1)
 rwa [Array.toList_push]
theorem JH.blk {m:Nat} (j:JH le tot X Y O na nb) (h:m <= na) (h2:na <= X.size) (k:∀ i l,m <= i -> i < na -> l < nb -> le (at' Y l) (at' X i)):JH le tot X Y (O ++ (X.extract m na).reverse) m nb:=by
 unfold JH at j ⊢
 rw [lL h,List.reverse_append] at j
 have:=Inv.block j (fun x hx y hy=>by
  obtain ⟨i,h1,h2,h3,rfl⟩:=rB (List.mem_reverse.mp hx)
  obtain ⟨l,h4,h5,rfl⟩:=tF (List.mem_reverse.mp hy)
  exact k i l h1 h2 h4)
 rwa [Array.toList_append,Array.toList_reverse]
theorem zQ {l r:List Nat} (h:l.Pairwise (fun a b=>le b a) /\ l.Perm tot) (e:l = r.reverse):r.Pairwise le /\ r.Perm tot:=by
 subst e
 exact ⟨List.pairwise_reverse.mp h.1,(List.reverse_perm _).symm.trans h.2⟩
theorem JT (m:Nat):(X.extract 0 m).toList = X.toList.take m:=by rw [Array.toList_extract,List.extract_eq_take_drop];simp
theorem JH.done1 (j:JH le tot X Y O na nb) (h:nb = 0) (h2:na <= X.size):kR le tot (X.extract 0 na ++ Y.extract 0 nb ++ O.reverse):=by
 subst h
 refine zQ (l:=O.toList ++ (X.toList.take na).reverse) (Inv.doneA (by unfold JH at j;simpa using j)) ?_
 simp [JT]
theorem JH.done2 (j:JH le tot X Y O na nb) (h:na = 0) (h2:nb <= Y.size):kR le tot (X.extract 0 na ++ Y.extract 0 nb ++ O.reverse):=by
 have:=j.sy.done1 h h2
 subst h
 simpa using this
theorem JH.first (j:JH le tot X Y O na nb) (h:nb = 1) (y1:1 <= Y.size) (h2:na <= X.size) (k:∀ i,i < X.size -> le (at' Y 0) (at' X i)):kR le tot (Y.extract 0 nb ++ X.extract 0 na ++ O.reverse):=by
 subst h
 have e:Y.toList.take 1 = [at' Y 0]:=by rw [C2 (i:=0) (by lia)];simp
 have j2:Inv (fun a b=>le b a) tot O.toList [at' Y 0] (X.toList.take na).reverse:=by have:=j.sy;unfold JH at this;rw [e] at this;exact this
 refine zQ (j2.lastA fun y hy=>?_) ?_
 ·obtain ⟨i,h1,h2,rfl⟩:=tF (List.mem_reverse.mp hy)
  exact k i h2
 ·rw [Array.toList_append,Array.toList_append,JT,JT,e]
  simp
end
section
variable {prog:Program} {w:World} {A:Around} {E:Value -> Shared -> Prop} {s:Shared} {κ:SortKind} {it:Array Keyed} {n:Nat} {lt:Nat -> Nat -> Bool} {le:Nat -> Nat -> Prop}
def HI (κ:SortKind) (st:SortSt) (le:Nat -> Nat -> Prop) (X Y:Array Nat) (v:Nat) (st2:SortSt) (O:Array Nat) (na nb:Nat):Prop:=Same κ st st2 /\ 1 <= na /\ 1 < nb /\ na < X.size /\ nb <= Y.size /\ na + nb + v <= X.size + Y.size /\ JH le (X.toList ++ Y.toList) X Y O na nb
theorem EJ (o:Ord lt le) (hc:ut prog w A s κ it n lt) {X Y:Array Nat} {Q:Array Keyed -> SortSt -> Prop} {st:SortSt} (hk:kindOf st = κ) (hx:∀ i,i < X.size -> at' X i < n) (hy:∀ i,i < Y.size -> at' Y i < n)
  (x1:1 <= X.size) (y1:1 <= Y.size) (sx:∀ i j,i <= j -> j < X.size -> le (at' X i) (at' X j)) (sy:∀ i j,i <= j -> j < Y.size -> le (at' Y i) (at' Y j)) (hf:∀ i,i < X.size -> le (at' Y 0) (at' X i)) (hl:∀ i,i < Y.size -> le (at' Y i) (at' X (X.size - 1)))
  (h:∀ R st',Same κ st st' -> kR le (X.toList ++ Y.toList) R -> Q (R.map (kas_item it)) st') :
  wpS (model prog w) A E s (FM (X.map (kas_item it)) (Y.map (kas_item it))) Q st:=by
 have sm0:Same κ st st:=⟨hk,rfl,rfl,rfl⟩
 have fin:∀ {O:Array Keyed} {R},O = R.map (kas_item it) -> ∀ {st'},Same κ st st' -> kR le (X.toList ++ Y.toList) R -> Q O st':=fun e _ sm g=>e ▸ h _ _ sm g
 have j0:JH le (X.toList ++ Y.toList) X Y #[] X.size Y.size:=by
  unfold JH
  rw [List.take_of_length_le (by simp),List.take_of_length_le (by simp)]
  exact ⟨by simpa using List.pairwise_reverse.mpr (CF sx),by simpa using List.pairwise_reverse.mpr (CF sy),by simpa using (List.reverse_perm X.toList).append (List.reverse_perm Y.toList)⟩
 have j1:JH le (X.toList ++ Y.toList) X Y #[at' X (X.size - 1)] (X.size - 1) Y.size:=j0.one x1 (Nat.le_refl _) fun i h2=>hl i h2
 refine wpS_bind (wpS_lift (wpAny_rule ⟨rfl,?_⟩))
 simp -zeta only [Array.size_map,beq_iff_eq]
 refine wpS_bind (cD (X:=X) (k:=X.size - 1) (by lia) (bV (fun e=>wpS_pure (fin ?_ sm0 (j1.done2 e (by lia)))) fun e1=>bV (fun e=>wpS_pure (fin ?_ sm0 (j1.first e (by lia) (by lia) hf))) fun e2=>?_))
 ·simp [MP]
 ·simp [MP]
 refine wpS_bind (wpS_get (wpS_bind (mq (fun x c st2=>∃ O na nb g,c = (none,na,nb,O.map (kas_item it),g) /\ HI κ st le X Y (x + 1) st2 O na nb) (fun c st2=>LR κ it st le X Y c.1 st2) ⟨#[at' X (X.size - 1)],X.size - 1,Y.size,_,by simp;rfl,sm0,by lia,by lia,by lia,by lia,by lia,j1⟩ ?s1 ?f1 ?p1)))
 case f1=>
  rintro c st2 ⟨O,na,nb,g,rfl,sm,la,lb,lx,ly,ls,j⟩
  lia
 case p1=>
  rintro ⟨c,c'⟩ st2 ⟨R,rfl,hR,sm⟩
  exact wpS_pure (h R st2 sm hR)
 rintro x c st2 QQ hD hY hx0 ⟨O,na,nb,g,rfl,L⟩
 refine wpS_bind (mq (fun y c st2=>∃ O na nb a b,c = (none,na,nb,O.map (kas_item it),a,b) /\ HI κ st le X Y (x + 1 + y) st2 O na nb) (fun c st2=>LR κ it st le X Y c.1 st2 \/ ∃ O na nb a b,c = (none,na,nb,O.map (kas_item it),a,b) /\ HI κ st le X Y (x + 2) st2 O na nb) ⟨O,na,nb,0,0,rfl,L⟩ ?s2 ?f2 ?p2)
 case f2=>
  rintro c st2 ⟨O,na,nb,a,b,rfl,sm,la,lb,lx,ly,ls,j⟩
  lia
 case s2=>
  clear hD hY
  rintro y c st2 QQ hD hY hy0 ⟨O,na,nb,a,b,rfl,sm,la,lb,lx,ly,ls,j⟩
  have la':na - 1 < X.size:=by lia
  have lb':nb - 1 < Y.size:=by lia
  refine wpS_bind (cD lb' (wpS_bind (cD la' (wpS_bind (w_lt hc sm.1 (hy (nb - 1) lb') (hx (na - 1) la') ?_)))))
  dsimp -zeta only
  cases cw:lt (at' Y (nb - 1)) (at' X (na - 1)) with
  | true=>
   have j2:=j.one la (by lia) fun i h1=>o.tr _ _ _ (sy i (nb - 1) (by lia) lb') (o.yes _ _ cw)
   rw [if_pos rfl]
   refine wpS_bind (cD la' (bV (fun e=>wpS_pure (hD _ _ (.inl ⟨_,?_,j2.done2 e ly,sm⟩))) fun e=>kH (wpS_pure (hD _ _ (.inr ⟨_,na - 1,nb,_,_,by rw [<- Array.map_push],sm,by lia,lb,la',ly,by lia,j2⟩))) (wpS_pure (hY _ _ ⟨_,na - 1,nb,_,_,by rw [<- Array.map_push],sm,by lia,lb,la',ly,by lia,j2⟩))))
   simp [Array.map_reverse]
  | false=>
   have j2:JH le (X.toList ++ Y.toList) X Y (O.push (at' Y (nb - 1))) na (nb - 1):=(j.sy.one (by lia) (by lia) fun i h1=>o.tr _ _ _ (sx i (na - 1) (by lia) la') (o.no _ _ cw)).sy
   rw [if_neg (by decide)]
   refine wpS_bind (cD lb' (bV (fun e=>wpS_pure (hD _ _ (.inl ⟨_,?_,j2.first e y1 (by lia) hf,sm⟩))) fun e=>kH (wpS_pure (hD _ _ (.inr ⟨_,na,nb - 1,_,_,by rw [<- Array.map_push],sm,la,by lia,lx,by lia,by lia,j2⟩))) (wpS_pure (hY _ _ ⟨_,na,nb - 1,_,_,by rw [<- Array.map_push],sm,la,by lia,lx,by lia,by lia,j2⟩))))
   simp [Array.map_reverse]
 case p2=>
  clear L
  rintro ⟨c,c'⟩ st2 (⟨R,rfl,hR,sm⟩ | ⟨O,na,nb,a,b,hcc,L⟩)
  ·exact wpS_pure (hD _ _ ⟨R,rfl,hR,sm⟩)
  cases hcc
  refine wpS_bind (wpS_lift (wpAny_rule ⟨rfl,wpS_bind (mq (fun y c st2=>∃ O na nb m a b,c = (none,na,nb,O.map (kas_item it),m,a,b) /\ HI κ st le X Y (x + 2) st2 O na nb) (fun c st2=>LR κ it st le X Y c.1 st2 \/ ∃ O na nb m a b,c = (none,na,nb,O.map (kas_item it),m,a,b) /\ HI κ st le X Y (x + 2) st2 O na nb) ⟨O,na,nb,_,_,_,rfl,L⟩ ?s3 (fun _ _ h=>.inr h) ?p3)⟩))
  case p3=>
   rintro ⟨c,c'⟩ st2 (⟨R,rfl,hR,sm⟩ | ⟨O,na,nb,m,a,b,hcc,sm,L⟩)
   ·exact wpS_pure (hD _ _ ⟨R,rfl,hR,sm⟩)
   cases hcc
   exact wpS_bind (wpS_modify (wpS_pure (hY _ _ ⟨O,na,nb,_,rfl,sm.g _,L⟩)))
  clear hD hY L
  rintro y c st2 QQ hD hY hy0 ⟨O,na,nb,m,a,b,rfl,sm,la,lb,lx,ly,ls,j⟩
  have dR:∀ {R' R t st2},R' = R.map (kas_item it) -> Same κ st st2 -> kR le (X.toList ++ Y.toList) R -> QQ (.done (some R',t)) st2:=fun e sm g=>hD _ _ (.inl ⟨_,congrArg some e,g,sm⟩)
  have lb':nb - 1 < Y.size:=by lia
  dsimp -zeta only
  extract_lets -underBinder s1 na2 s2 nb2 s3 out s4 mg s5 ac bc jp
  refine C7 fun g=>?_
  replace sm:=sm.g g
  refine wpS_bind (wpS_modify (wpS_bind (cD lb' (wpS_bind (jR o hc sm.1 hx (hy (nb - 1) lb') (show 0 + na <= X.size by lia) (show na - 1 < na by lia) (fun i k h1 h2=>sx (0 + i) (0 + k) (by lia) (show 0 + k < X.size by change k < na at h2;lia)) fun k k1 k2 k3=>?_)))))
  simp only [Nat.zero_add] at k2 k3
  change k <= na at k1
  dsimp -zeta only
  extract_lets -underBinder kk ac2 jp2
  refine xX (jp:=jp2) (fun i O'=>∃ O,O' = O.map (kas_item it) /\ 1 <= i /\ i < X.size /\ i + nb + (x + 2) <= X.size + Y.size /\ JH le (X.toList ++ Y.toList) X Y O i nb /\ ∀ l,l < i -> le (at' X l) (at' Y (nb - 1))) ?_ fun hj=>?_
  ·rintro i O' ⟨O,rfl,la,lx,ls,j,ky⟩
   have j2:JH le (X.toList ++ Y.toList) X Y (O.push (at' Y (nb - 1))) i (nb - 1):=(j.sy.one (by lia) (by lia) ky).sy
   have li:i - 1 < X.size:=by lia
   refine wpS_bind (cD lb' (bV (fun e=>wpS_pure (dR ?_ sm (j2.first e y1 (by lia) hf))) fun e=>wpS_bind (cD li (wpS_bind (jR o hc sm.1 hy (hx (i - 1) li) (show 0 + (nb - 1) <= Y.size by lia) (show nb - 1 - 1 < nb - 1 by lia) (fun i k h1 h2=>sy (0 + i) (0 + k) (by lia) (show 0 + k < Y.size by change k < nb - 1 at h2;lia)) fun k k1 k2 k3=>?_)))))
   ·simp +zetaDelta [Array.map_reverse]
   simp only [Nat.zero_add] at k2 k3
   change k <= nb - 1 at k1
   dsimp -zeta only
   extract_lets -underBinder kk bc2 jp3
   refine xX (jp:=jp3) (fun l O'=>∃ O,O' = O.map (kas_item it) /\ 1 < l /\ l < nb /\ JH le (X.toList ++ Y.toList) X Y O i l /\ ∀ i',i' < l -> le (at' Y i') (at' X (i - 1))) ?_ fun hj=>?_
   ·rintro l O' ⟨O,rfl,lb,lc,j,ky⟩
    have j2:=j.one la (by lia) ky
    refine wpS_bind (cD li (bV (fun e=>wpS_pure (dR ?_ sm (j2.done2 e (by lia)))) fun e=>kH (wpS_pure (hD _ _ (.inr ⟨_,i - 1,l,_,_,_,by rw [<- Array.map_push],sm,by lia,lb,li,by lia,by lia,j2⟩))) (wpS_pure (hY _ _ ⟨_,i - 1,l,_,_,_,by rw [<- Array.map_push],sm,by lia,lb,li,by lia,by lia,j2⟩))))
    simp [Array.map_reverse]
   have j3:JH le (X.toList ++ Y.toList) X Y (O.push (at' Y (nb - 1)) ++ (Y.extract k (nb - 1)).reverse) i k:=(j2.sy.blk (by lia) (by lia) fun i' l h1 h2 h3=>o.tr _ _ _ (sx l (i - 1) (by lia) li) (k3 i' h1 h2)).sy
   refine bV (fun k0=>bV (fun e=>wpS_pure (dR ?_ sm (j3.first e y1 (by lia) hf))) fun e=>bV (fun e2=>wpS_pure (dR ?_ sm (j3.done1 e2 (by lia)))) fun e2=>hj _ _ ⟨_,?_,show 1 < k by change ¬k = 1 at e;change ¬k = 0 at e2;lia,by lia,j3,k2⟩) fun k0=>hj _ _ ⟨O.push (at' Y (nb - 1)),?_,show 1 < nb - 1 by change ¬nb - 1 = 1 at e;lia,show nb - 1 < nb by lia,j2,fun l h1=>k2 l (show l < k by change l < nb - 1 at h1;change ¬nb - 1 - k > 0 at k0;lia)⟩
   ·simp +zetaDelta [Array.map_reverse]
   ·simp +zetaDelta [Array.map_reverse]
   ·simp +zetaDelta [Array.map_reverse]
   ·simp +zetaDelta
  have j3:=j.blk (m:=k) k1 (by lia) fun i l h1 h2 h3=>o.tr _ _ _ (sy l (nb - 1) (by lia) lb') (k3 i h1 h2)
  refine bV (fun k0=>bV (fun e=>wpS_pure (dR ?_ sm (j3.done2 e ly))) fun e=>hj _ _ ⟨_,?_,Nat.pos_of_ne_zero e,show k < X.size by lia,show k + nb + (x + 2) <= X.size + Y.size by lia,j3,k2⟩) fun k0=>hj _ _ ⟨O,rfl,la,lx,ls,j,fun l h1=>k2 l (show l < k by change l < na at h1;change ¬na - k > 0 at k0;lia)⟩
  ·simp +zetaDelta [Array.map_reverse]
  ·simp +zetaDelta [Array.map_reverse]
end
section
variable {α:Type}
theorem Ga (lo:Nat):∀ (R:List α) (p:Array α) (j:Nat),lo + j + R.length <= p.size -> ((R.zipIdx j).foldl (fun a x=>a.setIfInBounds (lo + x.2) x.1) p).toList = p.toList.take (lo + j) ++ R ++ p.toList.drop (lo + j + R.length)
 | [],p,j,_=>by simp
 | r :: R,p,j,h=>by
  have hl:lo + j < p.toList.length:=by simp at h ⊢;lia
  rw [List.zipIdx_cons,List.foldl_cons,Ga lo R _ (j + 1) (by simp at h ⊢;lia)]
  have e1:(p.setIfInBounds (lo + j) r).toList = p.toList.set (lo + j) r:=by simp
  have e2:(p.toList.set (lo + j) r).take (lo + (j + 1)) = p.toList.take (lo + j) ++ [r]:=by
   rw [<- Nat.add_assoc,List.take_succ_eq_append_getElem (by simpa using hl),List.take_set_of_le (Nat.le_refl _)]
   simp
  have e3:(p.toList.set (lo + j) r).drop (lo + (j + 1) + R.length) = p.toList.drop (lo + j + (r :: R).length):=by
   rw [List.drop_set_of_lt (by lia),List.length_cons]
   congr 1;lia
  rw [e1,e2,e3]
  simp
end
section
variable {prog:Program} {w:World} {A:Around} {E:Value -> Shared -> Prop} {s:Shared} {κ:SortKind} {it:Array Keyed} {n:Nat} {lt:Nat -> Nat -> Bool} {le:Nat -> Nat -> Prop}
def nU (κ:SortKind) (it:Array Keyed) (st:SortSt) (p:Array Nat) (pend:Array (Nat × Nat × Nat)):Prop:=kindOf st = κ /\ arrOf st = p.map (kas_item it) /\ pendingOf st = pend /\ failedOf st = none
structure Srtd (le:Nat -> Nat -> Prop) (p p':Array Nat) (lo hi:Nat):Prop where
 perm:p'.Perm p
 out:∀ k,k < lo \/ hi <= k -> at' p' k = at' p k
 asc:∀ i j,lo <= i -> i <= j -> j < hi -> le (at' p' i) (at' p' j)
theorem IX {σ:Type} {M:Model} {x:σ} {Q:PUnit -> σ -> Prop} {st:σ} (h:Q ⟨⟩ x):wpS M A E s (set x:StateT σ Sem PUnit) Q st:=by
 unfold wpS
 rw [StateT.run_set]
 exact wpAny_pure ⟨rfl,h⟩
theorem Nc (l:List Nat) (k:Nat):at' l.toArray k = (l[k]?).getD 0:=by simp [at']
theorem JN (p:Array Nat) (k:Nat):at' p k = (p.toList[k]?).getD 0:=by simp [at']
theorem Bm {p:Array Nat} {R:List Nat} {lo:Nat} (h:lo + R.length <= p.size) (k:Nat):at' (p.toList.take lo ++ R ++ p.toList.drop (lo + R.length)).toArray k = if lo <= k /\ k < lo + R.length then (R[k - lo]?).getD 0 else at' p k:=by
 rw [Nc,JN]
 have hl:(p.toList.take lo).length = lo:=by rw [List.length_take];simp;lia
 by_cases h1:k < lo
 ·rw [if_neg (by lia),List.append_assoc,List.getElem?_append_left (by lia),List.getElem?_take,if_pos h1]
 ·by_cases h2:k < lo + R.length
  ·rw [if_pos ⟨by lia,h2⟩,List.append_assoc,List.getElem?_append_right (by lia),hl,List.getElem?_append_left (by lia)]
  ·rw [if_neg (by lia),List.getElem?_append_right (by rw [List.length_append,hl];lia),List.length_append,hl,List.getElem?_drop]
   congr 2;lia
theorem Gb {p:Array Nat} {R:List Nat} {lo:Nat} (h:R.Perm (p.extract lo (lo + R.length)).toList):(p.toList.take lo ++ R ++ p.toList.drop (lo + R.length)).toArray.Perm p:=by
 rw [Array.perm_iff_toList_perm]
 show (p.toList.take lo ++ R ++ p.toList.drop (lo + R.length)).Perm p.toList
 refine ((h.append_left _).append_right _).trans ?_
 rw [<- lL (by lia),List.take_append_drop]
theorem E2 {p:Array Nat} {i j k:Nat} (h:i + k < j):at' (p.extract i j) k = at' p (i + k):=by
 rw [JN,JN,Array.toList_extract,List.extract_eq_take_drop,List.getElem?_take,if_pos (by lia),List.getElem?_drop]
theorem zZ {p:Array Nat} {i j:Nat} (h:j <= p.size):(p.extract i j).size = j - i:=by simp;lia
theorem EI (o:Ord lt le) (hc:ut prog w A s κ it n lt) {i sa na pw sb nb q:Nat} {p:Array Nat} {pend:Array (Nat × Nat × Nat)} {Q:Bool -> SortSt -> Prop} {st:SortSt} (S:nU κ it st p pend) (h1:pend[i]? = some (sa,na,pw)) (h2:pend[i + 1]? = some (sb,nb,q))
  (hsb:sb = sa + na) (na1:1 <= na) (nb1:1 <= nb) (hz:sb + nb <= p.size) (hp:∀ i,i < p.size -> at' p i < n) (sA:∀ i j,i <= j -> j < na -> le (at' p (sa + i)) (at' p (sa + j))) (sB:∀ i j,i <= j -> j < nb -> le (at' p (sb + i)) (at' p (sb + j)))
  (h:∀ p' st',nU κ it st' p' ((pend.setIfInBounds i (sa,na + nb,pw)).eraseIdxIfInBounds (i + 1)) -> Srtd le p p' sa (sa + (na + nb)) -> Q true st'):wpS (model prog w) A E s (mergeAt' i) Q st:=by
 obtain ⟨S1,S2,S3,S4⟩:=S
 refine wpS_bind (wpS_get ?_)
 have S3':(sortPriv% PySem.Builtin.SortState.pending) st = pend:=S3
 have S2':(sortPriv% PySem.Builtin.SortState.a) st = p.map (kas_item it):=S2
 rw [S3',h1,h2]
 refine wpS_bind (IX ?_)
 rw [S2']
 generalize hst:(sortPriv% PySem.Builtin.SortState.mk) _ _ _ _ _ = st2
 have T:nU κ it st2 p ((pend.setIfInBounds i (sa,na + nb,pw)).eraseIdxIfInBounds (i + 1)):=by subst hst;exact ⟨S1,rfl,rfl,S4⟩
 clear hst S1 S2 S3 S4 S2' S3' h1 h2
 generalize ((pend.setIfInBounds i (sa,na + nb,pw)).eraseIdxIfInBounds (i + 1)) = pend2 at T h
 have sA':∀ i j,sa <= i -> i <= j -> j < sb -> le (at' p i) (at' p j):=fun i j a1 a2 a3=>by
  have:=sA (i - sa) (j - sa) (by lia) (by lia)
  rwa [show sa + (i - sa) = i by lia,show sa + (j - sa) = j by lia] at this
 have sB':∀ i j,sb <= i -> i <= j -> j < sb + nb -> le (at' p i) (at' p j):=fun i j a1 a2 a3=>by
  have:=sB (i - sb) (j - sb) (by lia) (by lia)
  rwa [show sb + (i - sb) = i by lia,show sb + (j - sb) = j by lia] at this
 refine wpS_bind (cD (by lia) ?_)
 refine wpS_bind (jR o hc T.1 hp (hp sb (by lia)) (by lia) (by lia) sA fun k k1 k2 k3=>?_)
 have k2':∀ i,sa <= i -> i < sa + k -> le (at' p i) (at' p sb):=fun i a1 a2=>by
  have:=k2 (i - sa) (by lia)
  rwa [show sa + (i - sa) = i by lia] at this
 have k3':∀ i,sa + k <= i -> i < sb -> le (at' p sb) (at' p i):=fun i a1 a2=>by
  have:=k3 (i - sa) (by lia) (by lia)
  rwa [show sa + (i - sa) = i by lia] at this
 clear k2 k3
 dsimp only
 simp only [beq_iff_eq]
 by_cases e1:na - k = 0
 ·rw [if_pos e1]
  refine wpS_pure (h p st2 T ⟨.refl _,fun _ _=>rfl,fun i j a1 a2 a3=>?_⟩)
  by_cases b1:j < sb
  ·exact sA' i j a1 a2 b1
  ·by_cases b2:sb <= i
   ·exact sB' i j b2 a2 (by lia)
   ·exact o.tr _ _ _ (k2' i a1 (by lia)) (sB' sb j (Nat.le_refl _) (by lia) (by lia))
 rw [if_neg e1]
 refine wpS_bind (cD (by lia) ?_)
 have e2:sa + k + (na - k) - 1 = sb - 1:=by lia
 rw [e2]
 refine wpS_bind (jR o hc T.1 hp (hp (sb - 1) (by lia)) (by lia) (by lia) sB fun m m1 k2 k3=>?_)
 have m2':∀ i,sb <= i -> i < sb + m -> le (at' p i) (at' p (sb - 1)):=fun i a1 a2=>by
  have:=k2 (i - sb) (by lia)
  rwa [show sb + (i - sb) = i by lia] at this
 have m3':∀ i,sb + m <= i -> i < sb + nb -> le (at' p (sb - 1)) (at' p i):=fun i a1 a2=>by
  have:=k3 (i - sb) (by lia) (by lia)
  rwa [show sb + (i - sb) = i by lia] at this
 clear k2 k3
 dsimp only
 by_cases e3:m = 0
 ·rw [if_pos e3]
  subst e3
  refine wpS_pure (h p st2 T ⟨.refl _,fun _ _=>rfl,fun i j a1 a2 a3=>?_⟩)
  by_cases b1:j < sb
  ·exact sA' i j a1 a2 b1
  ·by_cases b2:sb <= i
   ·exact sB' i j b2 a2 (by lia)
   ·exact o.tr _ _ _ (sA' i (sb - 1) a1 (by lia) (by lia)) (m3' j (by lia) (by lia))
 rw [if_neg e3]
 generalize hr:na - k = r
 have hr1:na = k + r:=by lia
 have hr0:0 < r:=by lia
 clear hr e1 e2
 have zx:(p.extract (sa + k) sb).size = r:=by rw [zZ (by lia)];lia
 have zy:(p.extract sb (sb + m)).size = m:=by rw [zZ (by lia)];lia
 have ax:∀ i,i < r -> at' (p.extract (sa + k) sb) i = at' p (sa + k + i):=fun i hi=>E2 (by lia)
 have ay:∀ i,i < m -> at' (p.extract sb (sb + m)) i = at' p (sb + i):=fun i hi=>E2 (by lia)
 have exy:(p.extract (sa + k) sb).toList ++ (p.extract sb (sb + m)).toList = (p.extract (sa + k) (sb + m)).toList:=by
  have a1:=lL (X:=p) (i:=sa + k) (j:=sb) (by lia)
  have a2:=lL (X:=p) (i:=sb) (j:=sb + m) (by lia)
  have a3:=lL (X:=p) (i:=sa + k) (j:=sb + m) (by lia)
  rw [a1,a3,List.append_assoc] at a2
  exact (List.append_cancel_left a2).symm
 have key:∀ R:Array Nat,kR le ((p.extract (sa + k) sb).toList ++ (p.extract sb (sb + m)).toList) R -> R.toList.length = r + m /\ Srtd le p (p.toList.take (sa + k) ++ R.toList ++ p.toList.drop (sa + k + R.toList.length)).toArray sa (sa + (na + nb)):=fun R g=>by
  have hlen:R.toList.length = r + m:=by
   rw [g.2.length_eq,List.length_append,Array.length_toList,Array.length_toList,zx,zy]
  refine ⟨hlen,?_,fun i hi=>?_,fun i j a1 a2 a3=>?_⟩
  ·refine Gb ?_
   rw [hlen,show sa + k + (r + m) = sb + m by lia,<- exy]
   exact g.2
  ·rw [Bm (by lia),if_neg (by lia)]
  ·rw [Bm (by lia),Bm (by lia),hlen]
   have memR:∀ i,i < r + m -> ∃ c,(R.toList[i]?).getD 0 = at' p c /\ ((sa + k <= c /\ c < sb) \/ (sb <= c /\ c < sb + m)):=fun i hi=>by
    have hi':i < R.toList.length:=by lia
    have hm:R.toList[i] ∈ R.toList:=List.getElem_mem hi'
    have e:(R.toList[i]?).getD 0 = R.toList[i]:=by rw [List.getElem?_eq_getElem hi'];rfl
    rw [e]
    rcases List.mem_append.mp (g.2.mem_iff.mp hm) with hm | hm
    ·obtain ⟨c,c1,c2,c3,c4⟩:=rB hm
     exact ⟨c,c4.symm,.inl ⟨c1,c2⟩⟩
    ·obtain ⟨c,c1,c2,c3,c4⟩:=rB hm
     exact ⟨c,c4.symm,.inr ⟨c1,c2⟩⟩
   by_cases b1:sa + k <= i /\ i < sa + k + (r + m)
   ·rw [if_pos b1]
    by_cases b2:sa + k <= j /\ j < sa + k + (r + m)
    ·rw [if_pos b2]
     by_cases b3:i = j
     ·subst b3;exact o.rf _
     ·have:=List.pairwise_iff_getElem.mp g.1 (i - (sa + k)) (j - (sa + k)) (by lia) (by lia) (by lia)
      rw [List.getElem?_eq_getElem (by lia),List.getElem?_eq_getElem (by lia)]
      exact this
    ·rw [if_neg b2]
     obtain ⟨c,c1,c2⟩:=memR (i - (sa + k)) (by lia)
     rw [c1]
     rcases c2 with c2 | c2
     ·exact o.tr _ _ _ (sA' c (sb - 1) (by lia) (by lia) (by lia)) (m3' j (by lia) (by lia))
     ·exact sB' c j (by lia) (by lia) (by lia)
   ·rw [if_neg b1]
    by_cases b2:sa + k <= j /\ j < sa + k + (r + m)
    ·rw [if_pos b2]
     obtain ⟨c,c1,c2⟩:=memR (j - (sa + k)) (by lia)
     rw [c1]
     rcases c2 with c2 | c2
     ·exact sA' i c (by lia) (by lia) (by lia)
     ·exact o.tr _ _ _ (k2' i (by lia) (by lia)) (sB' sb c (Nat.le_refl _) (by lia) (by lia))
    ·rw [if_neg b2]
     by_cases b3:j < sb
     ·exact sA' i j a1 a2 b3
     ·by_cases b4:sb <= i
      ·exact sB' i j b4 a2 (by lia)
      ·exact o.tr _ _ _ (k2' i a1 (by lia)) (sB' sb j (Nat.le_refl _) (by lia) (by lia))
 have fin:∀ (R:Array Nat) (st3:SortSt),Same κ st2 st3 -> kR le ((p.extract (sa + k) sb).toList ++ (p.extract sb (sb + m)).toList) R ->
   Q (failedOf st3).isNone (setArr st3 ((R.map (kas_item it)).toList.zipIdx.foldl (fun a x=>a.setIfInBounds (sa + k + x.2) x.1) (arrOf st3))):=fun R st3 sm g=>by
  obtain ⟨hlen,S⟩:=key R g
  have ea:arrOf st3 = p.map (kas_item it):=sm.2.1.trans T.2.1
  have ef:failedOf st3 = none:=sm.2.2.2.trans T.2.2.2
  rw [ef]
  refine h _ _ ⟨sm.1,?_,sm.2.2.1.trans T.2.2.1,ef⟩ S
  show (R.map (kas_item it)).toList.zipIdx.foldl (fun a x=>a.setIfInBounds (sa + k + x.2) x.1) (arrOf st3) = _
  rw [ea]
  apply Array.toList_inj.mp
  rw [Ga (sa + k) _ _ 0 (by simp at hlen ⊢;lia)]
  simp
 have cx:(p.map (kas_item it)).extract (sa + k) sb = (p.extract (sa + k) sb).map (kas_item it):=by simp
 have cy:(p.map (kas_item it)).extract sb (sb + m) = (p.extract sb (sb + m)).map (kas_item it):=by simp
 rw [cx,cy]
 have hx:∀ i,i < (p.extract (sa + k) sb).size -> at' (p.extract (sa + k) sb) i < n:=fun i hi=>by rw [ax i (by lia)];exact hp _ (by lia)
 have hy:∀ i,i < (p.extract sb (sb + m)).size -> at' (p.extract sb (sb + m)) i < n:=fun i hi=>by rw [ay i (by lia)];exact hp _ (by lia)
 have sx:∀ i j,i <= j -> j < (p.extract (sa + k) sb).size -> le (at' (p.extract (sa + k) sb) i) (at' (p.extract (sa + k) sb) j):=fun i j a1 a2=>by rw [ax i (by lia),ax j (by lia)];exact sA' _ _ (by lia) (by lia) (by lia)
 have sy:∀ i j,i <= j -> j < (p.extract sb (sb + m)).size -> le (at' (p.extract sb (sb + m)) i) (at' (p.extract sb (sb + m)) j):=fun i j a1 a2=>by rw [ay i (by lia),ay j (by lia)];exact sB' _ _ (by lia) (by lia) (by lia)
 have hf:∀ i,i < (p.extract (sa + k) sb).size -> le (at' (p.extract sb (sb + m)) 0) (at' (p.extract (sa + k) sb) i):=fun i a1=>by rw [ay 0 (by lia),ax i (by lia)];exact k3' _ (by lia) (by lia)
 have hl:∀ i,i < (p.extract sb (sb + m)).size -> le (at' (p.extract sb (sb + m)) i) (at' (p.extract (sa + k) sb) ((p.extract (sa + k) sb).size - 1)):=fun i a1=>by
  rw [zx,ay i (by lia),ax _ (by lia),show sa + k + (r - 1) = sb - 1 by lia]
  exact m2' _ (by lia) (by lia)
 by_cases e4:r <= m
 ·rw [if_pos e4]
  refine wpS_bind (EK o hc T.1 hx hy (by lia) (by lia) sx sy hf hl fun R st3 sm g=>?_)
  exact wpS_bind (wpS_modify (wpS_bind (wpS_get (wpS_pure (fin R st3 sm g)))))
 ·rw [if_neg e4]
  refine wpS_bind (EJ o hc T.1 hx hy (by lia) (by lia) sx sy hf hl fun R st3 sm g=>?_)
  exact wpS_bind (wpS_modify (wpS_bind (wpS_get (wpS_pure (fin R st3 sm g)))))
end
section
variable {le:Nat -> Nat -> Prop} {lt:Nat -> Nat -> Bool} {p p' p2:Array Nat} {a b c:Nat}
def Up (le:Nat -> Nat -> Prop) (p:Array Nat) (a b:Nat):Prop:=∀ i j,a <= i -> i <= j -> j < b -> le (at' p i) (at' p j)
def Dn (le:Nat -> Nat -> Prop) (p:Array Nat) (a b:Nat):Prop:=∀ i j,a <= i -> i <= j -> j < b -> le (at' p j) (at' p i)
def Es (le:Nat -> Nat -> Prop) (p:Array Nat) (a b:Nat):Prop:=∀ k,a <= k -> k < b -> le (at' p k) (at' p (b - 1)) /\ le (at' p (b - 1)) (at' p k)
def Near (p p':Array Nat) (lo hi:Nat):Prop:=p'.Perm p /\ ∀ k,k < lo \/ hi <= k -> at' p' k = at' p k
theorem Near.rf:Near p p a b:=⟨.refl _,fun _ _=>rfl⟩
theorem Near.tr (h:Near p p' a b) (h2:Near p' p2 a b):Near p p2 a b:=⟨h2.1.trans h.1,fun k hk=>(h2.2 k hk).trans (h.2 k hk)⟩
theorem Near.wide {d e:Nat} (h:Near p p' a b) (h1:d <= a) (h2:b <= e):Near p p' d e:=⟨h.1,fun k hk=>h.2 k (by lia)⟩
theorem Near.size (h:Near p p' a b):p'.size = p.size:=h.1.size_eq
theorem oG (h:b <= p.size):Near p (kas_rev p a b) a b:=⟨mirror_perm _ _ _ _,fun k hk=>by rw [dA h,if_neg (by lia)]⟩
theorem y9 {d:Nat} (h:b < p.size) (hd:d <= b):Near p (bubble p b d) (b - d) (b + 1):=⟨bubble_perm _ _ _,fun k hk=>by rw [pq h hd,if_neg (by lia),if_neg (by lia)]⟩
theorem Up.succ (o:Ord lt le) (h:Up le p a b) (hab:a < b) (hl:le (at' p (b - 1)) (at' p b)):Up le p a (b + 1):=fun i j h1 h2 h3=>by
 by_cases e:j = b
 ·subst e
  by_cases e2:i = j
  ·subst e2;exact o.rf _
  ·exact o.tr _ _ _ (h i (j - 1) h1 (by lia) (by lia)) hl
 ·exact h i j h1 h2 (by lia)
theorem Dn.succ (o:Ord lt le) (h:Dn le p a b) (hab:a < b) (hl:le (at' p b) (at' p (b - 1))):Dn le p a (b + 1):=fun i j h1 h2 h3=>by
 by_cases e:j = b
 ·subst e
  by_cases e2:i = j
  ·subst e2;exact o.rf _
  ·exact o.tr _ _ _ hl (h i (j - 1) h1 (by lia) (by lia))
 ·exact h i j h1 h2 (by lia)
theorem KR (o:Ord lt le):Up le p a (a + 1):=fun i j h1 h2 h3=>by
 have:i = j:=by lia
 subst this;exact o.rf _
theorem Up.of (h:Up le p a b) (k:∀ i,a <= i -> i < b -> at' p' i = at' p i):Up le p' a b:=fun i j h1 h2 h3=>by
 rw [k i h1 (by lia),k j (by lia) h3];exact h i j h1 h2 h3
theorem Dn.rev (o:Ord lt le) (h:Dn le p a b) (hb:b <= p.size) (hc:a <= c) (he:Es le p c b):Dn le (kas_rev p c b) a b:=by
 have key:∀ k,a <= k -> k < b -> ∃ k',a <= k' /\ k' < b /\ at' (kas_rev p c b) k = at' p k' /\ le (at' p k') (at' p k) /\ le (at' p k) (at' p k'):=fun k hk0 hk=>by
  rw [dA hb]
  split
  ·rename_i h1
   refine ⟨c + b - 1 - k,by lia,by lia,rfl,?_⟩
   obtain ⟨a1,a2⟩:=he k h1.1 hk
   obtain ⟨b1,b2⟩:=he (c + b - 1 - k) (by lia) (by lia)
   exact ⟨o.tr _ _ _ b1 a2,o.tr _ _ _ a1 b2⟩
  ·exact ⟨k,hk0,hk,rfl,o.rf _,o.rf _⟩
 intro i j h0 hij hj
 obtain ⟨i',_,_,e1,x1,x2⟩:=key i h0 (by lia)
 obtain ⟨j',_,_,e2,y1,y2⟩:=key j (by lia) hj
 rw [e1,e2]
 exact o.tr _ _ _ y1 (o.tr _ _ _ (h i j h0 hij hj) x2)
theorem Dn.turn (h:Dn le p a b) (hb:b <= p.size):Up le (kas_rev p a b) a b:=by
 intro i j h0 hij hj
 rw [dA hb,dA hb,if_pos ⟨h0,by lia⟩,if_pos ⟨by lia,hj⟩]
 exact h _ _ (by lia) (by lia) (by lia)
theorem AQ (o:Ord lt le) (h:a + 1 = b):Es le p a b:=fun k h1 h2=>by
 have:k = b - 1:=by lia
 subst this
 exact ⟨o.rf _,o.rf _⟩
end
section
variable {prog:Program} {w:World} {A:Around} {E:Value -> Shared -> Prop} {s:Shared} {κ:SortKind} {it:Array Keyed} {n:Nat} {lt:Nat -> Nat -> Bool} {le:Nat -> Nat -> Prop} {p:Array Nat} {pend:Array (Nat × Nat × Nat)} {st:SortSt}
theorem qv (hc:ut prog w A s κ it n lt) (S:nU κ it st p pend) (hp:∀ i,i < p.size -> at' p i < n) {i j:Nat} {Q:Option Bool -> SortSt -> Prop} (hi:i < p.size) (hj:j < p.size) (h:Q (some (lt (at' p i) (at' p j))) st):wpS (model prog w) A E s (ltAt' i j) Q st:=by
 rw [ltAt'_eq]
 refine wpS_bind (wpS_get ?_)
 dsimp only
 rw [S.2.1]
 exact wpS_bind (cD hi (wpS_bind (cD hj (w_lt hc S.1 (hp _ hi) (hp _ hj) h))))
theorem C6 (S:nU κ it st p pend) {i j:Nat} {Q:Unit -> SortSt -> Prop} (h:∀ st',nU κ it st' (kas_rev p i j) pend -> Q () st'):wpS (model prog w) A E s (reverseSlice' i j) Q st:=by
 rw [reverseSlice'_eq]
 refine wpS_modify (h _ ⟨S.1,?_,S.2.2⟩)
 show mirror (arrOf st) i j ((j - i) / 2) = _
 rw [S.2.1]
 exact kas_swaps_map (kas_item it) (fun k=>i + k) (fun k=>j - 1 - k) _ p
theorem KT (S:nU κ it st p pend) {i j:Nat} {Q:Unit -> SortSt -> Prop} (h:∀ st',nU κ it st' (bubble p i (i - j)) pend -> Q () st'):wpS (model prog w) A E s (moveDown' i j) Q st:=by
 rw [moveDown'_eq]
 refine wpS_modify (h _ ⟨S.1,?_,S.2.2⟩)
 show bubble (arrOf st) i (i - j) = _
 rw [S.2.1]
 exact kas_swaps_map (kas_item it) (fun k=>i - k) (fun k=>i - k - 1) _ p
theorem My (o:Ord lt le) (hc:ut prog w A s κ it n lt) (S:nU κ it st p pend) (hp:∀ p':Array Nat,p'.Perm p -> ∀ i,i < p'.size -> at' p' i < n) {lo m ok:Nat} {Q:Bool -> SortSt -> Prop} (hz:lo + m <= p.size) (hok:ok <= m) (ok1:1 <= ok) (hs:Up le p lo (lo + ok))
  (h:∀ p' st',nU κ it st' p' pend -> Near p p' lo (lo + m) -> Up le p' lo (lo + m) -> Q true st'):wpS (model prog w) A E s (binarySort' lo m ok) Q st:=by
 refine wpS_bind (wpS_mono (wpS_forRange (I:=fun k c st'=>c = (none,()) /\ ∃ p',nU κ it st' p' pend /\ Near p p' lo (lo + m) /\ Up le p' lo (lo + min k m))
  (Q:=fun c st'=>c = (none,()) /\ ∃ p',nU κ it st' p' pend /\ Near p p' lo (lo + m) /\ Up le p' lo (lo + m)) ?step ?fin ?init) ?post)
 case post=>
  rintro c st' ⟨rfl,p',S',N,U⟩
  exact wpS_pure (h p' st' S' N U)
 case init=>exact ⟨rfl,p,S,.rf,by rw [show min (max ok 1) m = ok by lia];exact hs⟩
 case fin=>
  rintro c st' ⟨hc',p',S',N,U⟩
  exact ⟨hc',p',S',N,by rwa [show min (max (max ok 1) m) m = m by lia] at U⟩
 case step=>
  rintro k c st' hak hkn ⟨rfl,p',S',N,U⟩
  rw [show min k m = k by lia] at U
  have hsz:=N.size
  have hk1:1 <= k:=by lia
  have hkm:k < m:=by lia
  clear hak hkn hok ok1 hs
  refine wpS_bind (wpS_mono (wpS_forRange (I:=fun x c st''=>st'' = st' /\ ∃ l r,c = (none,l,r) /\ l <= r /\ r <= k /\ r - l <= k - x /\
    (∀ i,i < l -> le (at' p' (lo + i)) (at' p' (lo + k))) /\ (∀ i,r <= i -> i < k -> le (at' p' (lo + k)) (at' p' (lo + i))))
   (Q:=fun c st''=>st'' = st' /\ ∃ l r,c = (none,l,r) /\ l <= k /\
    (∀ i,i < l -> le (at' p' (lo + i)) (at' p' (lo + k))) /\ (∀ i,l <= i -> i < k -> le (at' p' (lo + k)) (at' p' (lo + i)))) ?istep ?ifin ?iinit) ?ipost)
  case iinit=>exact ⟨rfl,0,k,rfl,by lia,by lia,by lia,fun i hi=>by lia,fun i h1 h2=>by lia⟩
  case ifin=>
   rintro c st'' ⟨rfl,l,r,rfl,hlr,hrk,hm,hlo,hhi⟩
   have:l = r:=by lia
   subst this
   exact ⟨rfl,l,l,rfl,hrk,hlo,hhi⟩
  case istep=>
   rintro x c st'' _ hxk ⟨rfl,l,r,rfl,hlr,hrk,hm,hlo,hhi⟩
   dsimp only
   by_cases hge:l ≥ r
   ·rw [if_pos hge]
    have:l = r:=by lia
    subst this
    exact wpS_pure ⟨rfl,l,l,rfl,hrk,hlo,hhi⟩
   ·rw [if_neg hge]
    refine wpS_bind (qv hc S' (hp _ N.1) (by lia) (by lia) ?_)
    dsimp only
    cases cw:lt (at' p' (lo + k)) (at' p' (lo + (l + r) / 2)) with
    | true=>
     rw [if_pos rfl]
     exact wpS_pure ⟨rfl,l,(l + r) / 2,rfl,by lia,by lia,by lia,hlo,fun i h1 h2=>o.tr _ _ _ (o.yes _ _ cw) (U _ _ (by lia) (by lia) (by lia))⟩
    | false=>
     rw [if_neg (by decide)]
     exact wpS_pure ⟨rfl,(l + r) / 2 + 1,r,rfl,by lia,by lia,by lia,fun i h1=>o.tr _ _ _ (U _ _ (by lia) (by lia) (by lia)) (o.no _ _ cw),hhi⟩
  case ipost=>
   rintro c st'' ⟨rfl,l,r,rfl,hlk,hlo,hhi⟩
   dsimp only
   refine wpS_bind (KT S' fun st3 S3=>wpS_pure ⟨rfl,_,S3,N.tr ((y9 (by lia) (by lia)).wide (by lia) (by lia)),?_⟩)
   rw [show min (k + 1) m = k + 1 by lia,show lo + k - (lo + l) = k - l by lia]
   intro i j h1 h2 h3
   rw [pq (by lia) (by lia),pq (by lia) (by lia)]
   rw [show lo + k - (k - l) = lo + l by lia]
   by_cases i1:i = lo + l
   ·rw [if_pos i1]
    by_cases j1:j = lo + l
    ·rw [if_pos j1];exact o.rf _
    ·rw [if_neg j1]
     rw [if_pos (by lia)]
     have:=hhi (j - 1 - lo) (by lia) (by lia)
     rwa [show lo + (j - 1 - lo) = j - 1 by lia] at this
   ·rw [if_neg i1]
    by_cases j1:j = lo + l
    ·rw [if_pos j1,if_neg (by lia)]
     have:=hlo (i - lo) (by lia)
     rwa [show lo + (i - lo) = i by lia] at this
    ·rw [if_neg j1]
     by_cases i2:lo + l < i /\ i <= lo + k
     ·rw [if_pos i2,if_pos (by lia)]
      exact U _ _ (by lia) (by lia) (by lia)
     ·rw [if_neg i2]
      by_cases j2:lo + l < j /\ j <= lo + k
      ·rw [if_pos j2]
       exact U _ _ (by lia) (by lia) (by lia)
      ·rw [if_neg j2]
       exact U _ _ (by lia) (by lia) (by lia)
end
section
variable {prog:Program} {w:World} {A:Around} {E:Value -> Shared -> Prop} {s:Shared} {κ:SortKind} {it:Array Keyed} {n:Nat} {lt:Nat -> Nat -> Bool} {le:Nat -> Nat -> Prop} {p:Array Nat} {pend:Array (Nat × Nat × Nat)} {st:SortSt}
theorem G5 {σ α:Type} {M:Model} {jp:Unit -> StateT σ Sem α} {m:StateT σ Sem α} {Q:α -> σ -> Prop} {st:σ} (P:σ -> Prop) (h:∀ st,P st -> wpS M A E s (jp ()) Q st) (k:(∀ st,P st -> wpS M A E s (jp ()) Q st) -> wpS M A E s m Q st):wpS M A E s m Q st:=k h
theorem IU (o:Ord lt le) (hc:ut prog w A s κ it n lt) (S:nU κ it st p pend) (hp:∀ p':Array Nat,p'.Perm p -> ∀ i,i < p'.size -> at' p' i < n) {lo nrem:Nat} {Q:Option Nat -> SortSt -> Prop} (h1:1 <= nrem) (hz:lo + nrem <= p.size)
  (h:∀ m p' st',nU κ it st' p' pend -> 1 <= m -> m <= nrem -> Near p p' lo (lo + m) -> Up le p' lo (lo + m) -> Q (some m) st'):wpS (model prog w) A E s (countRun' lo nrem) Q st:=by
 refine wpS_bind (wpS_mono (wpS_forRange (I:=fun x c st'=>st' = st /\ c = (none,x) /\ x <= nrem /\ Up le p lo (lo + x))
  (Q:=fun c st'=>st' = st /\ ∃ m,c = (none,m) /\ 1 <= m /\ m <= nrem /\ Up le p lo (lo + m) /\ (m < nrem -> le (at' p (lo + m)) (at' p (lo + m - 1)))) ?s1 ?f1 ?i1) ?p1)
 case i1=>exact ⟨rfl,rfl,h1,KR o⟩
 case f1=>
  rintro c st' ⟨rfl,rfl,k1,k2⟩
  exact ⟨rfl,_,rfl,by lia,k1,k2,fun _=>by lia⟩
 case s1=>
  rintro x c st' hx0 hx ⟨rfl,rfl,k1,k2⟩
  dsimp only
  refine wpS_bind (qv hc S (hp p (.refl _)) (by lia) (by lia) ?_)
  dsimp only
  cases cw:lt (at' p (lo + x)) (at' p (lo + x - 1)) with
  | true=>
   rw [if_pos rfl]
   exact wpS_pure ⟨rfl,x,rfl,hx0,k1,k2,fun _=>o.yes _ _ cw⟩
  | false=>
   rw [if_neg (by decide)]
   exact wpS_pure ⟨rfl,rfl,by lia,Up.succ (b:=lo + x) o k2 (by lia) (o.no _ _ cw)⟩
 case p1=>
  rintro c st' ⟨rfl,m,rfl,m1,m2,U,hd⟩
  dsimp -zeta only
  extract_lets -underBinder r n
  change wpS (model prog w) A E s (ite _ _ _) Q st'
  refine bV (fun e=>wpS_pure (h m p st' S m1 m2 .rf U)) fun e=>?_
  have e1':m < nrem:=by change ¬(m == nrem) = true at e;simp at e;lia
  clear e
  extract_lets -underBinder jp
  refine G5 (jp:=jp) (fun st=>∃ px,nU κ it st px pend /\ Dn le px lo (lo + (m + 1)) /\ Near p px lo (lo + (m + 1))) ?_ fun hj=>?_
  ·rintro stx ⟨px,Sx,Dx,Nx⟩
   refine wpS_bind (wpS_lift (wpAny_rule ⟨rfl,?_⟩))
   refine wpS_bind (wpS_mono (wpS_forRange (I:=fun x c st'=>∃ q p',c = (none,x,q) /\ nU κ it st' p' pend /\ Near p p' lo (lo + x) /\ x <= nrem /\ q + 1 <= x /\ Dn le p' lo (lo + x) /\ Es le p' (lo + x - (q + 1)) (lo + x))
    (Q:=fun c st'=>∃ x q p',c = (none,x,q) /\ m + 1 <= x /\ nU κ it st' p' pend /\ Near p p' lo (lo + x) /\ x <= nrem /\ q + 1 <= x /\ Dn le p' lo (lo + x) /\ Es le p' (lo + x - (q + 1)) (lo + x)) ?s2 ?f2 ?i2) ?p2)
   case i2=>exact ⟨0,px,rfl,Sx,Nx,by show m + 1 <= nrem;lia,by show 0 + 1 <= m + 1;lia,Dx,AQ o (by show lo + (m + 1) - (0 + 1) + 1 = lo + (m + 1);lia)⟩
   case f2=>
    rintro c st' ⟨q,p',rfl,S',N',k1,k2,D',E'⟩
    exact ⟨_,q,p',rfl,by show m + 1 <= max (m + 1) nrem;lia,S',N',k1,k2,D',E'⟩
   case s2=>
    rintro x c st' hx0 hx ⟨q,p',rfl,S',N',k1,k2,D',E'⟩
    dsimp only
    have hs2:=N'.size
    refine wpS_bind (qv hc S' (hp _ N'.1) (by lia) (by lia) ?_)
    dsimp only
    cases cw:lt (at' p' (lo + x)) (at' p' (lo + x - 1)) with
    | true=>
     rw [if_pos rfl]
     have hl:=o.yes _ _ cw
     by_cases q0:q > 0
     ·rw [if_pos q0]
      refine wpS_bind (C6 S' fun st4 S4=>wpS_pure ?_)
      have d1:=D'.rev o (by lia) (by lia) E'
      have b1:at' (kas_rev p' (lo + x - (q + 1)) (lo + x)) (lo + x) = at' p' (lo + x):=by rw [dA (by lia),if_neg (by lia)]
      have b2:at' (kas_rev p' (lo + x - (q + 1)) (lo + x)) (lo + x - 1) = at' p' (lo + x - (q + 1)):=by
       rw [dA (by lia),if_pos (by lia)]
       congr 1;lia
      exact ⟨0,_,rfl,S4,(N'.tr ((oG (by lia)).wide (by lia) (by lia))).wide (by lia) (by lia),by lia,by lia,Dn.succ (b:=lo + x) o d1 (by lia) (by rw [b1,b2];exact o.tr _ _ _ hl (E' _ (Nat.le_refl _) (by lia)).2),AQ o (by lia)⟩
     ·rw [if_neg q0]
      exact wpS_pure ⟨0,p',rfl,S',N'.wide (by lia) (by lia),by lia,by lia,Dn.succ (b:=lo + x) o D' (by lia) hl,AQ o (by lia)⟩
    | false=>
     rw [if_neg (by decide)]
     have g1:=o.no _ _ cw
     refine wpS_bind (qv hc S' (hp _ N'.1) (by lia) (by lia) ?_)
     dsimp only
     cases cw2:lt (at' p' (lo + x - 1)) (at' p' (lo + x)) with
     | true=>
      rw [if_pos rfl]
      exact wpS_pure ⟨x,q,p',rfl,hx0,S',N',k1,k2,D',E'⟩
     | false=>
      rw [if_neg (by decide)]
      have g2:=o.no _ _ cw2
      refine wpS_pure ⟨q + 1,p',rfl,S',N'.wide (by lia) (by lia),by lia,by lia,Dn.succ (b:=lo + x) o D' (by lia) g2,fun k a1 a2=>?_⟩
      rw [show lo + (x + 1) - 1 = lo + x by lia]
      by_cases hk:k = lo + x
      ·subst hk;exact ⟨o.rf _,o.rf _⟩
      ·obtain ⟨x1,x2⟩:=E' k (by lia) (by lia)
       exact ⟨o.tr _ _ _ x1 g1,o.tr _ _ _ g2 x2⟩
   case p2=>
    rintro c st' ⟨x,q,p',rfl,x1,S',N',x2,x3,D',E'⟩
    dsimp -zeta only
    extract_lets -underBinder s2 n2 q2
    dsimp -zeta only [r]
    extract_lets -underBinder jp2
    have hs2:=N'.size
    have hx:s2.1 = x:=rfl
    have hq:s2.2 = q:=rfl
    refine G5 (jp:=jp2) (fun st=>∃ pX,nU κ it st pX pend /\ Dn le pX lo (lo + x) /\ Near p pX lo (lo + x)) ?_ fun hj=>bV (fun q0=>wpS_bind (C6 S' fun stX SX=>hj _ ⟨_,SX,D'.rev o (by lia) (by lia) E',N'.tr ((oG (by lia)).wide (a:=lo + x - (q + 1)) (b:=lo + x) (d:=lo) (e:=lo + x) (by lia) (by lia))⟩)) fun _=>hj _ ⟨p',S',D',N'⟩
    rintro stX ⟨pX,SX,DX,NX⟩
    refine wpS_bind (C6 SX fun st4 S4=>?_)
    replace S4:nU κ it st4 (kas_rev pX lo (lo + x)) pend:=S4
    have hs4:=NX.size
    have N4:=NX.tr (oG (a:=lo) (b:=lo + x) (by lia))
    have U4:=DX.turn (by lia)
    refine wpS_bind (wpS_mono (wpS_forRange (I:=fun y c st'=>st' = st4 /\ c = (none,y) /\ y <= nrem /\ Up le (kas_rev pX lo (lo + x)) lo (lo + y))
     (Q:=fun c st'=>st' = st4 /\ ∃ y,c = (none,y) /\ x <= y /\ y <= nrem /\ Up le (kas_rev pX lo (lo + x)) lo (lo + y)) ?s3 ?f3 ?i3) ?p3)
    case i3=>exact ⟨rfl,rfl,x2,U4⟩
    case f3=>
     rintro c st' ⟨rfl,rfl,k1,k2⟩
     exact ⟨rfl,_,rfl,by show x <= max x nrem;lia,k1,k2⟩
    case s3=>
     rintro y c st' hy0 hy ⟨rfl,rfl,k1,k2⟩
     change x <= y at hy0
     dsimp only
     have hs5:=N4.size
     refine wpS_bind (qv hc S4 (hp _ N4.1) (by lia) (by lia) ?_)
     dsimp only
     cases cw:lt (at' (kas_rev pX lo (lo + x)) (lo + y)) (at' (kas_rev pX lo (lo + x)) (lo + y - 1)) with
     | true=>
      rw [if_pos rfl]
      exact wpS_pure ⟨rfl,y,rfl,hy0,k1,k2⟩
     | false=>
      rw [if_neg (by decide)]
      exact wpS_pure ⟨rfl,rfl,by lia,Up.succ (b:=lo + y) o k2 (by lia) (o.no _ _ cw)⟩
    case p3=>
     rintro c st' ⟨rfl,y,rfl,y1,y2,U⟩
     exact wpS_pure (h y _ st' S4 (by lia) y2 (N4.wide (Nat.le_refl _) (by lia)) U)
  ·refine bV (fun e2=>wpS_bind (qv hc S (hp p (.refl _)) (by show lo < p.size;lia) (by show lo + m - 1 < p.size;lia) ?_)) fun e2=>hj _ ⟨p,S,Dn.succ (b:=lo + m) o (fun i j a1 a2 a3=>by
    have:i = j:=by change ¬m > 1 at e2;lia
    subst this;exact o.rf _) (by lia) (hd (by lia)),.rf⟩
   dsimp -zeta only
   cases cw:lt (at' p lo) (at' p (lo + m - 1)) with
   | true=>
    rw [if_pos rfl]
    exact wpS_pure (h m p st' S m1 m2 .rf U)
   | false=>
    rw [if_neg (by decide)]
    have g0:=o.no _ _ cw
    have same:∀ i j,lo <= i -> i < lo + m -> lo <= j -> j < lo + m -> le (at' p i) (at' p j):=fun i j a1 a2 a3 a4=>o.tr _ _ _ (U i (lo + m - 1) a1 (by lia) (by lia)) (o.tr _ _ _ g0 (U lo j (Nat.le_refl _) a3 a4))
    have d0:Dn le (kas_rev p lo (lo + m)) lo (lo + m):=fun i j a1 a2 a3=>by
     rw [dA (by lia),dA (by lia),if_pos (by lia),if_pos (by lia)]
     exact same _ _ (by lia) (by lia) (by lia) (by lia)
    exact wpS_bind (C6 S fun stx Sx=>hj _ ⟨_,Sx,Dn.succ (b:=lo + m) o d0 (by lia) (by
     rw [dA (by lia),dA (by lia),if_neg (by lia),if_pos (by lia)]
     exact o.tr _ _ _ (hd (by lia)) (same _ _ (by lia) (by lia) (by lia) (by lia))),(oG (by lia)).wide (Nat.le_refl _) (by lia)⟩)
end
section
variable {le:Nat -> Nat -> Prop} {p p':Array Nat} {a b c:Nat}
noncomputable def Rn (le:Nat -> Nat -> Prop) (p:Array Nat):Nat -> List (Nat × Nat × Nat) -> Nat -> Prop
 | a,[],b=>a = b
 | a,e :: es,b=>e.1 = a /\ 1 <= e.2.1 /\ Up le p a (a + e.2.1) /\ Rn le p (a + e.2.1) es b
theorem Rn.len_le:∀ {l:List (Nat × Nat × Nat)} {a:Nat},Rn le p a l b -> a + l.length <= b
 | [],a,h=>by have:a = b:=h;simp [this]
 | e :: es,a,h=>by
  have:=Rn.len_le h.2.2.2
  have:=h.2.1
  simp;lia
theorem Rn.of:∀ {l:List (Nat × Nat × Nat)} {a:Nat},Rn le p a l b -> (∀ k,a <= k -> k < b -> at' p' k = at' p k) -> Rn le p' a l b
 | [],a,h,_=>h
 | e :: es,a,h,k=>⟨h.1,h.2.1,h.2.2.1.of fun i h1 h2=>k i h1 (by have:=Rn.len_le h.2.2.2;lia),Rn.of h.2.2.2 fun i h1 h2=>k i (by lia) h2⟩
theorem Rn.app:∀ {l l':List (Nat × Nat × Nat)} {a:Nat},Rn le p a (l ++ l') b -> ∃ c,Rn le p a l c /\ Rn le p c l' b
 | [],l',a,h=>⟨a,rfl,h⟩
 | e :: es,l',a,h=>by
  obtain ⟨c,h1,h2⟩:=Rn.app h.2.2.2
  exact ⟨c,⟨h.1,h.2.1,h.2.2.1,h1⟩,h2⟩
theorem Rn.put:∀ {l l':List (Nat × Nat × Nat)} {a:Nat},Rn le p a l c -> Rn le p c l' b -> Rn le p a (l ++ l') b
 | [],l',a,h,h2=>by have:a = c:=h;subst this;exact h2
 | e :: es,l',a,h,h2=>⟨h.1,h.2.1,h.2.2.1,Rn.put h.2.2.2 h2⟩
theorem Rn.same:∀ {l l':List (Nat × Nat × Nat)} {a:Nat},(l.map fun e=>(e.1,e.2.1)) = (l'.map fun e=>(e.1,e.2.1)) -> Rn le p a l b -> Rn le p a l' b
 | [],[],a,_,h=>h
 | [],_ :: _,a,h,_=>by simp at h
 | _ :: _,[],a,h,_=>by simp at h
 | e :: es,e' :: es',a,h,k=>by
  simp only [List.map_cons,List.cons.injEq,Prod.mk.injEq] at h
  obtain ⟨⟨h1,h2⟩,h3⟩:=h
  obtain ⟨k1,k2,k3,k4⟩:=k
  rw [h1] at k1
  rw [h2] at k2 k3 k4
  exact ⟨k1,k2,k3,Rn.same h3 k4⟩
theorem HB {c:Prop} [Decidable c] {k m:Nat} (h:k + 1 < m):(if c then k - 1 else k) + 1 < m:=by split <;> lia
theorem KD {α:Type} (x z:α) (r:List α):∀ pre:List α,(pre ++ x :: r).set pre.length z = pre ++ z :: r
 | []=>rfl
 | y :: pre=>by simp
theorem Fj {α:Type} (z y:α) (r:List α):∀ pre:List α,(pre ++ z :: y :: r).eraseIdx (pre.length + 1) = pre ++ z :: r
 | []=>rfl
 | x :: pre=>by
  have:=Fj z y r pre
  simp only [List.cons_append,List.length_cons,List.eraseIdx_cons_succ,this]
theorem KH {α:Type} {l:List α} {i:Nat} (h:i + 1 < l.length):∃ pre x y post,l = pre ++ x :: y :: post /\ pre.length = i:=by
 refine ⟨l.take i,l[i],l[i + 1],l.drop (i + 2),?_,by rw [List.length_take];lia⟩
 rw [<- List.drop_eq_getElem_cons h,<- List.drop_eq_getElem_cons (by lia),List.take_append_drop]
end
section
variable {prog:Program} {w:World} {A:Around} {E:Value -> Shared -> Prop} {s:Shared} {κ:SortKind} {it:Array Keyed} {n:Nat} {lt:Nat -> Nat -> Bool} {le:Nat -> Nat -> Prop} {p:Array Nat} {pend:Array (Nat × Nat × Nat)} {st:SortSt}
theorem wu (o:Ord lt le) (hc:ut prog w A s κ it n lt) (S:nU κ it st p pend) (hp:∀ i,i < p.size -> at' p i < n) {i b:Nat} {Q:Bool -> SortSt -> Prop} (hi:i + 1 < pend.size) (R:Rn le p 0 pend.toList b) (hb:b <= p.size)
  (h:∀ p' pend' st',nU κ it st' p' pend' -> Near p p' 0 b -> Rn le p' 0 pend'.toList b -> pend'.size + 1 = pend.size -> Q true st'):wpS (model prog w) A E s (mergeAt' i) Q st:=by
 obtain ⟨pre,⟨sa,na,pw⟩,⟨sb,nb,q⟩,post,e,hl⟩:=KH (l:=pend.toList) (i:=i) (by simpa using hi)
 rw [e] at R
 obtain ⟨c,R1,R2⟩:=R.app
 obtain ⟨r1,r2,r3,r4,r5,r6,r7⟩:=R2
 dsimp only at r1 r2 r3 r4 r5 r6 r7
 subst r1
 have hle:=r7.len_le
 have g1:pend[i]? = some (sa,na,pw):=by rw [<- Array.getElem?_toList,e,List.getElem?_append_right (by lia)];simp [hl]
 have g2:pend[i + 1]? = some (sb,nb,q):=by rw [<- Array.getElem?_toList,e,List.getElem?_append_right (by lia)];simp [hl]
 refine EI o hc S g1 g2 r4 r2 r5 (by lia) hp (fun i j a1 a2=>r3 _ _ (by lia) (by lia) (by lia)) (fun i j a1 a2=>r6 _ _ (by lia) (by lia) (by lia)) fun p' st' S' so=>?_
 have en:((pend.setIfInBounds i (sa,na + nb,pw)).eraseIdxIfInBounds (i + 1)).toList = pre ++ (sa,na + nb,pw) :: post:=by
  have h2:i + 1 < (pend.setIfInBounds i (sa,na + nb,pw)).size:=by simpa using hi
  rw [Array.eraseIdxIfInBounds,dif_pos h2,Array.toList_eraseIdx,Array.toList_setIfInBounds,e,<- hl]
  rw [KD,Fj]
 have hle1:=R1.len_le
 refine h p' _ st' S' ⟨so.perm,fun k hk=>so.out k (by lia)⟩ ?_ ?_
 ·rw [en]
  refine Rn.put (R1.of fun k _ h2=>so.out k (by lia)) ⟨rfl,by dsimp only;lia,fun i j a1 a2 a3=>so.asc i j a1 a2 a3,?_⟩
  dsimp only
  rw [show sa + (na + nb) = sa + na + nb by lia]
  exact r7.of fun k h1 h2=>so.out k (by lia)
 ·have e4:=congrArg List.length en
  have e3:=congrArg List.length e
  rw [Array.length_toList] at e4 e3
  rw [e4,e3]
  simp only [List.length_append,List.length_cons]
  lia
theorem IW {σ α:Type} {M:Model} {c:Prop} {_:Decidable c} {F:Nat -> StateT σ Sem α} {X:StateT σ Sem α} {m:Nat} {Q:α -> σ -> Prop} {st:σ} (R:Nat -> σ -> Prop) (h:∀ k st,R k st -> wpS M A E s (F k) Q st) (h1:c -> (∀ k st,R k st -> wpS M A E s (F k) Q st) -> wpS M A E s X Q st) (h2:¬ c -> R m st):wpS M A E s (if c then X else F m) Q st:=bV (fun q=>h1 q h) fun q=>h m st (h2 q)
theorem KU (o:Ord lt le) (hc:ut prog w A s κ it n lt) (S:nU κ it st p #[]) (hp:∀ p':Array Nat,p'.Perm p -> ∀ i,i < p'.size -> at' p' i < n) {Q:Unit -> SortSt -> Prop}
  (h:∀ p' pend' st',nU κ it st' p' pend' -> p'.Perm p -> Up le p' 0 p.size -> Q () st'):wpS (model prog w) A E s sortRuns' Q st:=by
 rw [sortRuns'_eq]
 refine wpS_bind (wpS_get ?_)
 dsimp only
 rw [S.2.1,Array.size_map]
 generalize minRun' p.size p.size 0 = minrun
 refine wpS_bind (wpS_mono (wpS_forRange (I:=fun x c st'=>∃ lo p' pend',c = (none,lo) /\ nU κ it st' p' pend' /\ p'.Perm p /\ Rn le p' 0 pend'.toList lo /\ lo <= p.size /\ x <= lo)
  (Q:=fun c st'=>∃ p' pend',c.1 = none /\ nU κ it st' p' pend' /\ p'.Perm p /\ Rn le p' 0 pend'.toList p.size) ?s1 ?f1 ?i1) ?p1)
 case i1=>exact ⟨0,p,#[],rfl,S,.refl _,rfl,by lia,by lia⟩
 case f1=>
  rintro c st' ⟨lo,p',pend',rfl,S',P',R',l1,l2⟩
  have:lo = p.size:=by lia
  subst this
  exact ⟨p',pend',rfl,S',P',R'⟩
 case s1=>
  rintro x c st' _ hx ⟨lo,p',pend',rfl,S',P',R',l1,l2⟩
  dsimp only
  by_cases e1:lo ≥ p.size
  ·rw [if_pos e1]
   have:lo = p.size:=by lia
   subst this
   exact wpS_pure ⟨p',pend',rfl,S',P',R'⟩
  rw [if_neg e1]
  have hs':=P'.size_eq
  refine wpS_bind (IU o hc S' (fun q hq=>hp q (hq.trans P')) (by lia) (by lia) fun m p2 st2 S2 m1 m2 N2 U2=>?_)
  have P2:=N2.1.trans P'
  have hs2:=P2.size_eq
  have R2:Rn le p2 0 pend'.toList lo:=R'.of fun k _ h2=>N2.2 k (.inl h2)
  dsimp only
  apply IW (m:=m) (F:=_) (c:=_) (fun nn st2=>∃ p2,nU κ it st2 p2 pend' /\ p2.Perm p /\ Rn le p2 0 pend'.toList lo /\ Up le p2 lo (lo + nn) /\ 1 <= nn /\ lo + nn <= p.size)
  ·clear S2 P2 R2 U2 N2 hs2 m1 m2
   rintro nn st2 ⟨p2,S2,P2,R2,U2,hnn,hnn2⟩
   refine wpS_bind (wpS_get ?_)
   rw [S2.2.2.1]
   cases hbk:pend'.back? with
   | none=>
    dsimp only
    refine wpS_bind (wpS_modify (wpS_pure ⟨lo + nn,p2,pend'.push (lo,nn,0),rfl,⟨S2.1,S2.2.1,?_,S2.2.2.2⟩,P2,?_,by lia,by lia⟩))
    ·show (pendingOf st2).push _ = _
     rw [S2.2.2.1]
    ·rw [Array.toList_push]
     exact R2.put ⟨rfl,hnn,U2,rfl⟩
   | some e=>
    obtain ⟨s1,n1,z1⟩:=e
    dsimp only
    generalize power' _ _ _ _ = pw
    refine wpS_bind (wpS_mono (wpS_forRange (I:=fun y c st3=>c = (none,()) /\ ∃ p3 pend3,nU κ it st3 p3 pend3 /\ p3.Perm p /\ Rn le p3 0 pend3.toList lo /\ Up le p3 lo (lo + nn))
     (Q:=fun c st3=>c = (none,()) /\ ∃ p3 pend3,nU κ it st3 p3 pend3 /\ p3.Perm p /\ Rn le p3 0 pend3.toList lo /\ Up le p3 lo (lo + nn)) ?s2 ?f2 ?i2) ?p2)
    case i2=>exact ⟨rfl,p2,pend',S2,P2,R2,U2⟩
    case f2=>exact fun c st3 h=>h
    case s2=>
     rintro y c st3 _ hy ⟨rfl,p3,pend3,S3,P3,R3,U3⟩
     refine wpS_bind (wpS_get ?_)
     rw [S3.2.2.1]
     by_cases c1:pend3.size > 1
     ·rw [if_pos c1]
      cases hg:pend3[pend3.size - 2]? with
      | none=>exact wpS_pure ⟨rfl,p3,pend3,S3,P3,R3,U3⟩
      | some e=>
       obtain ⟨z2,z3,older⟩:=e
       dsimp only
       by_cases c2:older <= pw
       ·rw [if_pos c2]
        exact wpS_pure ⟨rfl,p3,pend3,S3,P3,R3,U3⟩
       ·rw [if_neg c2]
        have hs3:=P3.size_eq
        refine wpS_bind (wu o hc S3 (hp _ P3) (i:=pend3.size - 2) (by lia) R3 (by lia) fun p4 pend4 st4 S4 N4 R4 _=>?_)
        exact wpS_pure ⟨rfl,p4,pend4,S4,N4.1.trans P3,R4,U3.of fun i h1 h2=>N4.2 i (.inr h1)⟩
     ·rw [if_neg c1]
      exact wpS_pure ⟨rfl,p3,pend3,S3,P3,R3,U3⟩
    case p2=>
     rintro c st3 ⟨rfl,p3,pend3,S3,P3,R3,U3⟩
     dsimp only
     refine wpS_bind (wpS_modify (wpS_bind (wpS_modify (wpS_pure ⟨lo + nn,p3,(pend3.modify (pend3.size - 1) fun e=>(e.1,e.2.1,pw)).push (lo,nn,0),rfl,⟨S3.1,S3.2.1,?_,S3.2.2.2⟩,P3,?_,by lia,by lia⟩))))
     ·show ((pendingOf st3).modify ((pendingOf st3).size - 1) _).push _ = _
      rw [S3.2.2.1]
     ·rw [Array.toList_push]
      refine Rn.put (R3.same ?_) ⟨rfl,hnn,U3,rfl⟩
      apply List.ext_getElem?
      intro k
      rw [List.getElem?_map,List.getElem?_map,Array.getElem?_toList,Array.getElem?_toList,Array.getElem?_modify]
      split
      ·cases pend3[k]? <;> rfl
      ·rfl
  ·intro e2 hF
   refine wpS_bind (wpS_lift (wpAny_rule ⟨rfl,?_⟩))
   refine wpS_bind (My o hc S2 (fun q hq=>hp q (hq.trans P2)) (m:=min (p.size - lo) minrun) (by lia) (by lia) m1 U2 fun p3 st3 S3 N3 U3=>?_)
   rw [if_neg (by decide)]
   exact hF _ _ ⟨p3,S3,N3.1.trans P2,R2.of fun k _ h2=>N3.2 k (.inl h2),U3,by lia,by lia⟩
  ·exact fun _=>⟨p2,S2,P2,R2,U2,m1,by lia⟩
 case p1=>
  rintro ⟨c,c'⟩ st' ⟨p',pend',hc1,S',P',R'⟩
  dsimp only at hc1
  subst hc1
  dsimp only
  refine wpS_bind (wpS_mono (wpS_forRange (I:=fun x c st'=>∃ p' pend',c = (none,()) /\ nU κ it st' p' pend' /\ p'.Perm p /\ Rn le p' 0 pend'.toList p.size /\ pend'.size + x <= p.size)
   (Q:=fun c st'=>∃ p' pend',c = (none,()) /\ nU κ it st' p' pend' /\ p'.Perm p /\ Rn le p' 0 pend'.toList p.size /\ pend'.size <= 1) ?s5 ?f5 ?i5) ?p5)
  case i5=>exact ⟨p',pend',rfl,S',P',R',by have:=R'.len_le;rw [Array.length_toList] at this;lia⟩
  case f5=>
   rintro c st' ⟨p',pend',rfl,S',P',R',hl⟩
   exact ⟨p',pend',rfl,S',P',R',by lia⟩
  case s5=>
   rintro x c st' _ hx ⟨p',pend',rfl,S',P',R',hl⟩
   refine wpS_bind (wpS_get ?_)
   rw [S'.2.2.1]
   by_cases e1:pend'.size <= 1
   ·rw [if_pos e1]
    exact wpS_pure ⟨p',pend',rfl,S',P',R',e1⟩
   rw [if_neg e1]
   have hs':=P'.size_eq
   refine wpS_bind (wu o hc S' (hp _ P') ?_ R' (by lia) fun p4 pend4 st4 S4 N4 R4 h4=>?_)
   ·exact HB (by lia)
   ·exact wpS_pure ⟨p4,pend4,rfl,S4,N4.1.trans P',R4,by lia⟩
  case p5=>
   rintro c st' ⟨p',pend',rfl,S',P',R',hl⟩
   refine wpS_pure (h p' pend' st' S' P' ?_)
   cases hq:pend'.toList with
   | nil=>
    rw [hq] at R'
    have:0 = p.size:=R'
    intro i j _ _ h3
    lia
   | cons e es=>
    cases es with
    | nil=>
     rw [hq] at R'
     obtain ⟨r1,r2,r3,r4⟩:=R'
     have r4':0 + e.2.1 = p.size:=r4
     rw [<- r4']
     exact r3
    | cons e2 es=>
     have:=congrArg List.length hq
     rw [Array.length_toList] at this
     simp at this
     lia
end
section
variable {prog:Program} {w:World} {A:Around} {E:Value -> Shared -> Prop} {s:Shared}
structure Known (prog:Program) (w:World) (s:Shared) (vs:List Value) (κ:SortKind) (lt:Nat -> Nat -> Bool):Prop where
 kind:∀ (A:Around) (E:Value -> Shared -> Prop) (h':Heap) (Q:SortKind -> Shared -> Prop),(∀ b o,s.heap.get? b = some o -> h'.get? b = some o) -> 2 <= vs.length -> Q κ { s with heap:=h' } -> wpAny (model prog w) A (keyKind' vs.toArray) Q E { s with heap:=h' }
 ask:∀ (A:Around) (h':Heap) (i j:Nat) (C:Bool -> Shared -> Prop),(∀ b o,s.heap.get? b = some o -> h'.get? b = some o) -> i < vs.length -> j < vs.length -> C (lt i j) { s with heap:=h' } -> kas_ask prog w A κ vs i j C { s with heap:=h' }
theorem Known.on {vs:List Value} {κ:SortKind} {lt:Nat -> Nat -> Bool} {h:Heap} (k:Known prog w s vs κ lt) (hk:∀ b o,s.heap.get? b = some o -> h.get? b = some o):Known prog w { s with heap:=h } vs κ lt:=
 ⟨fun A E h' Q h2=>k.kind A E h' Q fun b o e=>h2 b o (hk b o e),fun A h' i j C h2=>k.ask A h' i j C fun b o e=>h2 b o (hk b o e)⟩
noncomputable def kM (vs:List Value) (p:Array Nat):Array Value:=(p.toList.map fun i=>vs.getD i Value.none).toArray
theorem Bh {vs:List Value} {p:Array Nat} (h:p.size = vs.length):(kM vs p).size = vs.length:=by
 unfold kM;simp [h]
theorem zp {vs:List Value}:kM vs (List.range vs.length).toArray = vs.toArray:=by
 unfold kM
 congr 1
 apply List.ext_getElem
 ·simp
 ·intro i h1 h2
  simp at h1
  simp [h1]
theorem Hm {le:Nat -> Nat -> Prop} (rf:∀ a,le a a) {n:Nat} (h:n < 2) (p:Array Nat):qX le p n:=fun i j hij hj=>by
 have e:i = j:=by lia
 subst e;exact rf _
theorem FI {a:Addr} {vs:List Value} {n:Nat} {κ:SortKind} {lt:Nat -> Nat -> Bool} {le:Nat -> Nat -> Prop} {P:PySem.Fin -> Shared -> Prop} (o:Ord lt le) (ho:s.heap.get? a = some (seqObj "list" vs.toArray n)) (hN:vs.length <= sizeLine)
  (hk:∀ h',(∀ b o,b ≠ a -> s.heap.get? b = some o -> h'.get? b = some o) -> Known prog w { s with heap:=h' } vs κ lt)
  (h:∀ p:Array Nat,p.Perm (List.range vs.length).toArray -> qX le p vs.length -> P (.done (.ret .none)) { s with heap:=sortedHeap s.heap a vs (kM vs p) }):wpAny (model prog w) A (Builtin.«list.sort» ⟨[.ref a],[]⟩) P E s:=by
 have ha:a < s.heap.objs.size:=Heap.lt_size ho
 obtain ⟨e1,ho1⟩:∃ e1,(s.heap.update a (Obj.mapSeq fun _=>#[])).get? a = some (seqObj "list" #[] e1):=⟨_,get?_update_seq ho fun _=>#[]⟩
 have ne1:a ≠ ((s.heap.update a (Obj.mapSeq fun _=>#[])).push (seqObj "tuple" vs.toArray 0)).objs.size:=by rw [size_push',Heap.size_update];exact Nat.ne_of_lt (Nat.lt_succ_of_lt ha)
 have ne2:a ≠ (s.heap.update a (Obj.mapSeq fun _=>#[])).objs.size:=by rw [Heap.size_update];exact Nat.ne_of_lt ha
 have ho6:(((s.heap.update a (Obj.mapSeq fun _=>#[])).push (seqObj "tuple" vs.toArray 0)).push (seqObj "list" #[] 0)).get? a = some (seqObj "list" #[] e1):=by rw [Heap.get?_push_ne _ _ _ ne1,Heap.get?_push_ne _ _ _ ne2,ho1]
 have keep:∀ b q,b ≠ a -> s.heap.get? b = some q -> (((s.heap.update a (Obj.mapSeq fun _=>#[])).push (seqObj "tuple" vs.toArray 0)).push (seqObj "list" #[] 0)).get? b = some q:=fun b q hb hq=>
  Heap.get?_push_of_some _ (Heap.get?_push_of_some _ ((Heap.get?_update_ne _ _ _ _ hb).trans hq))
 have K:=hk _ keep
 rw [list_sort_plain];refine wpAny_bind (listItems_at ho rfl (wpAny_bind (listUpdate_at ho rfl (wpAny_bind (seqEpoch_at ho1 rfl (wpAny_bind (wpAny_newTuple (wpAny_bind (wpAny_newList (wpAny_holding ?_))))))))))
 dsimp only
 have hn:vs.toArray.size = vs.length:=by simp
 have fin:∀ (p:Array Nat) (st:SortSt),p.Perm (List.range vs.length).toArray -> qX le p vs.length -> (arrOf st).map (·.2) = kM vs p -> failedOf st = none ->
   wpAny (model prog w) A (do
    let touched:=(← seqEpoch a) != e1
    Builtin.List.listUpdate (.ref a) fun _=>(arrOf st).map (·.2)
    if let some e:=failedOf st then rule "list.sort.comparison-raised"; throw e
    if touched then rule "list.sort.modified"; raiseError "ValueError" "list modified during sort"
    ret .none) P E { s with heap:=((s.heap.update a (Obj.mapSeq fun _=>#[])).push (seqObj "tuple" vs.toArray 0)).push (seqObj "list" #[] 0) }:=fun p st hp hs ho2 hf=>by
  have hz:(kM vs p).size <= sizeLine + 1:=by
   rw [Bh (by rw [hp.size_eq];simp)];lia
  rw [ho2,hf]
  refine wpAny_bind (seqEpoch_at ho6 rfl (wpAny_bind (listUpdate_at ho6 rfl ?_ (hsz2:=hz))))
  simp only [bne_self_eq_false,Bool.false_eq_true,if_false]
  exact wpAny_pure (h p hp hs)
 by_cases h2:vs.toArray.size < 2
 ·rw [if_pos h2,if_pos h2]
  refine wpAny_bind (wpAny_pure ?_)
  rw [StateT.run_pure]
  refine wpAny_bind (wpAny_pure (fin (List.range vs.length).toArray _ (Array.Perm.refl _) (Hm o.rf (by lia) _) ?_ rfl))
  rw [zp]
  show ((vs.toArray.zip vs.toArray).map (·.2)) = vs.toArray
  apply Array.ext
  ·simp
  ·intro i h1 h2;simp
 ·rw [if_neg h2,if_neg h2]
  refine wpAny_bind (K.kind _ _ _ _ (fun _ _ e=>e) (by lia) ?_)
  have pos:0 < vs.length:=by lia
  have perm0:∀ p':Array Nat,p'.Perm (List.range vs.length).toArray -> ∀ i,i < p'.size -> at' p' i < vs.length:=fun p' h' i _=>JQ pos h' i
  have esz:(vs.toArray.zip vs.toArray).size = vs.length:=by simp
  have er:=kas_range (vs.toArray.zip vs.toArray)
  rw [esz] at er
  have run:=KU (prog:=prog) (w:=w) (A:=A) (E:=E) (κ:=κ) (it:=vs.toArray.zip vs.toArray) (n:=vs.length) (lt:=lt) (le:=le) (p:=(List.range vs.length).toArray) (st:=SortSt.mk' κ (vs.toArray.zip vs.toArray) #[] 7 none)
   (s:={ s with heap:=((s.heap.update a (Obj.mapSeq fun _=>#[])).push (seqObj "tuple" vs.toArray 0)).push (seqObj "list" #[] 0) })
   (Q:=fun _ st=>∃ p:Array Nat,(arrOf st).map (·.2) = kM vs p /\ failedOf st = none /\ p.Perm (List.range vs.length).toArray /\ qX le p vs.length) o
   (fun i j C hi hj hc=>by rw [<- kat_ask_eq (ks:=vs) (vs:=vs) rfl];exact K.ask _ _ i j C (fun _ _ e=>e) hi hj hc) ⟨rfl,er.symm,rfl,rfl⟩ perm0
   (fun p' pend' st' S' hp hu=>⟨p',kat_snds rfl S'.2.1,S'.2.2.2,hp,fun i j hij hj=>hu i j (Nat.zero_le _) hij (by simpa using hj)⟩)
  refine wpAny_bind (wpAny_mono run (fun r s' hr=>?_) fun _ _ e=>e)
  ·obtain ⟨rfl,p,e2,hf,hp,hs⟩:=hr
   exact fin p r.2 hp hs e2 hf
theorem we {l:Addr} {vs:List Value} {κ:SortKind} {lt:Nat -> Nat -> Bool} {le:Nat -> Nat -> Prop} {Q:Value -> Shared -> Prop} (o:Ord lt le) (hl:s.heap.IsList l vs.toArray) (hN:vs.length <= sizeLine) (hk:Known prog w s vs κ lt)
  (h:∀ p:Array Nat,p.Perm (List.range vs.length).toArray -> qX le p vs.length -> Q (.ref (s.heap.objs.size + 1)) { s with heap:=sortedAll s.heap vs (kM vs p) }):wpAny (model prog w) A (call (.builtin "sorted") [.ref l]) Q E s:=by
 have hz:vs.length <= sizeLine:=hN
 have sz:((s.heap.push (seqObj "list" #[] 0)).update s.heap.objs.size (Obj.mapSeq (· ++ vs.toArray))).objs.size = s.heap.objs.size + 1:=by rw [Heap.size_update,size_push']
 have at1:(((s.heap.push (seqObj "list" #[] 0)).update s.heap.objs.size (Obj.mapSeq (· ++ vs.toArray))).push (seqObj "list" vs.toArray 0)).get? (s.heap.objs.size + 1) = some (seqObj "list" vs.toArray 0):=by rw [<- sz];exact Heap.get?_push_size _ rfl
 have old:∀ b q,s.heap.get? b = some q -> b ≠ s.heap.objs.size + 1 /\ (((s.heap.push (seqObj "list" #[] 0)).update s.heap.objs.size (Obj.mapSeq (· ++ vs.toArray))).push (seqObj "list" vs.toArray 0)).get? b = some q:=fun b q e=>by
  have hb:=Heap.lt_size e
  refine ⟨Nat.ne_of_lt (Nat.lt_succ_of_lt hb),Heap.get?_push_of_some _ ?_⟩
  rw [Heap.get?_update_ne _ _ _ _ (Nat.ne_of_lt hb)]
  exact Heap.get?_push_of_some _ e
 refine Calls.call_function_entry kind_sorted plain_sorted entry_sorted (args_sorted1 (.ref l)) ?_;unfold Builtin.«sorted»
 refine wpAny_bind (m:=checkCount "sorted" 1 1 _) (wpAny_pure (wpAny_bind (collect_list hl (wpAny_bind (wpAny_newList ?_ hz)) hz)))
 show wpAny (model prog w) _ _ _ _ { s with heap:=((s.heap.push (seqObj "list" #[] 0)).update s.heap.objs.size (Obj.mapSeq (· ++ vs.toArray))).push (seqObj "list" vs.toArray 0) }
 rw [sz]
 refine wpAny_bind (wpAny_holding (wpAny_call_entry slot_list_sort ⟨_,at1,rfl⟩ entry_list_sort (FI (κ:=κ) (le:=le) o at1 hN (fun h' kp=>?_) fun p hp hs=>⟨_,rfl,wpAny_pure ⟨_,rfl,h p hp hs⟩⟩) (args_list_sort _)))
 exact hk.on fun b q e=>kp b q (old b q e).1 (old b q e).2
end
section
variable {prog:Program} {w:World} {A:Around} {E:Value -> Shared -> Prop} {s:Shared}
noncomputable def iq:List Int -> List Int -> Bool
 | [],[]=>false
 | [],_ :: _=>true
 | _ :: _,[]=>false
 | x :: xs,y :: ys=>if x = y then iq xs ys else decide (x < y)
theorem qG:∀ a:List Int,iq a a = false
 | []=>rfl
 | x :: xs=>by unfold iq;rw [if_pos rfl];exact qG xs
theorem tq:∀ a b:List Int,iq a b = true -> iq b a = false
 | [],[],h=>by unfold iq at h;cases h
 | [],_ :: _,_=>by unfold iq;rfl
 | _ :: _,[],h=>by unfold iq at h;cases h
 | x :: xs,y :: ys,h=>by
  unfold iq at h ⊢
  by_cases e:x = y
  ·rw [if_pos e] at h;rw [if_pos e.symm];exact tq xs ys h
  ·rw [if_neg e] at h
   rw [if_neg (Ne.symm e)]
   have:=of_decide_eq_true h
   exact decide_eq_false (by lia)
theorem tw:∀ a b c:List Int,iq b a = false -> iq c b = false -> iq c a = false
 | [],_,[],_,_=>rfl
 | [],[],_ :: _,_,h=>by unfold iq at h;cases h <;> rfl
 | [],_ :: _,_ :: _,_,_=>by unfold iq;rfl
 | _ :: _,[],_,h,_=>by unfold iq at h;cases h
 | x :: xs,y :: ys,[],_,h=>by unfold iq at h;cases h
 | x :: xs,y :: ys,z :: zs,h1,h2=>by
  unfold iq at h1 h2 ⊢
  by_cases e1:y = x
  ·rw [if_pos e1] at h1
   by_cases e2:z = y
   ·rw [if_pos e2] at h2
    rw [if_pos (e2.trans e1)]
    exact tw xs ys zs h1 h2
   ·rw [if_neg e2] at h2
    rw [if_neg (by lia)]
    have:=of_decide_eq_false h2
    exact decide_eq_false (by lia)
  ·rw [if_neg e1] at h1
   have g1:=of_decide_eq_false h1
   by_cases e2:z = y
   ·rw [if_neg (by lia)]
    exact decide_eq_false (by lia)
   ·rw [if_neg e2] at h2
    have g2:=of_decide_eq_false h2
    rw [if_neg (by lia)]
    exact decide_eq_false (by lia)
theorem FE (f:Nat -> List Int):Ord (fun i j=>iq (f i) (f j)) (fun i j=>iq (f j) (f i) = false):=
 ⟨fun a b c h1 h2=>tw _ _ _ h1 h2,fun a=>qG _,fun a b h=>tq _ _ h,fun a b h=>h⟩
def Lm (h:Heap) (v:Value) (ns:List Int):Prop:=∃ a o xs n,v = .ref a /\ h.get? a = some o /\ o.cls = .type "tuple" /\ o.data = .seq xs n /\ IntsAre xs.toList ns
theorem HM:∀ (xs ys:List Value) (ns ms:List Int) (i:Nat) (fin:Bool) (Q:Bool -> Shared -> Prop),IntsAre xs ns -> IntsAre ys ms -> (fin = decide (xs.length < ys.length)) -> Q (iq ns ms) s ->
  KatLex prog w A true fin Q (xs.zip ys) i s:=by
 intro xs
 induction xs with
 | nil=>
  intro ys ns ms i fin Q hx hy hf hq
  cases hx
  rw [List.zip_nil_left]
  show Q fin s
  rw [hf]
  cases hy with
  | nil=>exact hq
  | cons b u ty=>exact hq
 | cons x xs ih=>
  intro ys ns ms i fin Q hx hy hf hq
  cases hx with
  | cons a t tx=>
   cases hy with
   | nil=>
    rw [List.zip_nil_right]
    show Q fin s
    rw [hf]
    exact hq
   | @cons c u ys' ms' ty=>
    rw [List.zip_cons_cons]
    refine kat_cons ((SeqAt.EqAt.int_int a t c u) prog w _ _ ?_)
    unfold iq at hq
    by_cases e:a = c
    ·rw [if_pos e] at hq
     have eb:(a == c) = true:=by simpa using e
     rw [eb]
     exact kat_yes (ih ys' _ ms' (i + 1) fin Q tx ty (by rw [hf];simp) hq)
    ·rw [if_neg e] at hq
     have eb:(a == c) = false:=by simpa using e
     rw [eb]
     refine kat_no ?_
     cases q:i == 0 with
     | true=>exact oneLt_int hq
     | false=>exact kat_one _ _ (lt_int hq)
theorem AZ {vs:List Value} {f:Nat -> List Int} (hv:∀ i,i < vs.length -> Lm s.heap (vs.getD i Value.none) (f i) /\ f i ≠ []):Known prog w s vs (tuples' true) fun i j=>iq (f i) (f j):=by
 refine ⟨fun A E h' Q hk h2 hq=>?_,fun A h' i j C hk hi hj hc=>?_⟩
 ·have hv':∀ v ∈ vs,∃ n t eA a o xs k,v = .ref a /\ h'.get? a = some o /\ o.cls = .type "tuple" /\ o.data = .seq xs k /\ xs.toList = Value.int n t :: eA:=fun v hm=>by
   obtain ⟨i,hi,e⟩:=List.getElem_of_mem hm
   obtain ⟨⟨a,o,xs,k,e1,e2,e3,e4,e5⟩,ne⟩:=hv i hi
   have ev:vs.getD i Value.none = v:=by rw [List.getD_eq_getElem?_getD,List.getElem?_eq_getElem hi];exact e
   rw [ev] at e1
   revert e5 ne
   generalize f i = ns
   generalize ex:xs.toList = L
   intro ne e5
   cases e5 with
   | nil=>exact absurd rfl ne
   | @cons n t vs' ns' tl=>exact ⟨n,t,vs',a,o,xs,k,e1,hk _ _ e2,e3,e4,ex⟩
  have fs:∀ L:List Value,(∀ v ∈ L,∃ n t eA a o xs k,v = .ref a /\ h'.get? a = some o /\ o.cls = .type "tuple" /\ o.data = .seq xs k /\ xs.toList = Value.int n t :: eA) -> ∃ gs,KatTups h' L gs /\ gs.length = L.length /\ ∀ v ∈ gs,∃ n t,v = Value.int n t:=by
   intro L
   induction L with
   | nil=>exact fun _=>⟨[],.nil,rfl,fun _ h=>(by cases h)⟩
   | cons v L ih=>
    intro hL
    obtain ⟨gs,g1,g2,g3⟩:=ih fun u hu=>hL u (List.mem_cons_of_mem _ hu)
    obtain ⟨n,t,eA,a,o,xs,k,rfl,e2,e3,e4,e5⟩:=hL v List.mem_cons_self
    refine ⟨.int n t :: gs,.cons e2 e3 e4 (by rw [<- Array.getElem?_toList,e5];rfl) g1,by rw [List.length_cons,List.length_cons,g2],fun u hu=>?_⟩
    rcases List.mem_cons.mp hu with rfl | hu
    ·exact ⟨n,t,rfl⟩
    ·exact g3 u hu
  obtain ⟨gs,g1,g2,g3⟩:=fs vs hv'
  refine kat_kind (s:={ s with heap:=h' }) (T:=.type "int") g1 (by lia) (fun v hm=>?_) (by decide) hq
  obtain ⟨n,t,rfl⟩:=g3 v hm
  exact Looks.of_pure rfl
 ·obtain ⟨⟨a,o,xs,k,e1,e2,e3,e4,e5⟩,_⟩:=hv i hi
  obtain ⟨⟨a',o',xs',k',e1',e2',e3',e4',e5'⟩,_⟩:=hv j hj
  unfold kas_ask
  rw [e1,e1']
  refine kat_lt (s:={ s with heap:=h' }) (hk _ _ e2) e4 (hk _ _ e2') e4' ?_
  refine HM (s:={ s with heap:=h' }) _ _ _ _ _ _ _ e5 e5' ?_ hc
  simp
theorem rA:∀ {vs:List Value} {ns:List Int},IntsAre vs ns -> ∀ i,i < vs.length -> ∃ t,vs.getD i Value.none = .int (ns.getD i 0) t
 | _,_,.nil,i,h=>by simp at h
 | _,_,.cons n t _,0,_=>⟨t,rfl⟩
 | _,_,.cons n t tl,i + 1,h=>by
  obtain ⟨u,e⟩:=rA tl i (by simpa using h)
  exact ⟨u,by simpa using e⟩
theorem AY {vs:List Value} {ns:List Int} (hI:IntsAre vs ns):Known prog w s vs oneType' fun i j=>decide (ns.getD i 0 < ns.getD j 0):=by
 refine ⟨fun A E h' Q hk h2 hq=>?_,fun A h' i j C hk hi hj hc=>?_⟩
 ·rw [ksk_kind (keys:=vs.toArray) (kz:=ns) (by simpa using hI) (by simpa using h2)]
  exact wpAny_pure hq
 ·obtain ⟨t,e1⟩:=rA hI i hi
  obtain ⟨u,e2⟩:=rA hI j hj
  unfold kas_ask
  rw [e1,e2,keyLt'_oneType]
  exact oneLt_int hc
theorem F1 (f:Nat -> Int):Ord (fun i j=>decide (f i < f j)) (fun i j=>f i <= f j):=
 ⟨fun _ _ _ h k=>Int.le_trans h k,fun _=>Int.le_refl _,fun a b h=>Int.le_of_lt (of_decide_eq_true h),fun a b h=>by have:=of_decide_eq_false h;show f b <= f a;lia⟩
theorem jF {vs:List Value} {ns:List Int} (hI:IntsAre vs ns):∀ L:List Nat,(∀ i ∈ L,i < vs.length) -> IntsAre (L.map fun i=>vs.getD i Value.none) (L.map fun i=>ns.getD i 0)
 | [],_=>.nil
 | i :: L,h=>by
  obtain ⟨t,e⟩:=rA hI i (h i List.mem_cons_self)
  rw [List.map_cons,List.map_cons,e]
  exact .cons _ t (jF hI L fun j hj=>h j (List.mem_cons_of_mem _ hj))
theorem yO:∀ {vs:List Value} {ns:List Int},IntsAre vs ns -> vs.length = ns.length
 | _,_,.nil=>rfl
 | _,_,.cons n t tl=>by rw [List.length_cons,List.length_cons,yO tl]
theorem xP {l:Addr} {vs:List Value} {ns:List Int} {Q:Value -> Shared -> Prop} (hl:s.heap.IsList l vs.toArray) (hI:IntsAre vs ns) (hN:vs.length <= sizeLine)
  (h:∀ (out:Array Value) ms,IntsAre out.toList ms -> ms.Perm ns -> ms.Pairwise (· <= ·) -> Q (.ref (s.heap.objs.size + 1)) { s with heap:=sortedAll s.heap vs out }):wpAny (model prog w) A (call (.builtin "sorted") [.ref l]) Q E s:=by
 refine we (F1 fun i=>ns.getD i 0) hl hN (AY hI) fun p hp ha=>?_
 have e:=yO hI
 have hb:∀ i ∈ p.toList,i < vs.length:=fun i hi=>by simpa using (Array.perm_iff_toList_perm.mp hp).mem_iff.mp hi
 rw [e] at hp ha
 obtain ⟨p1,p2⟩:=Bi (vs:=ns) (d:=0) hp ha
 exact h (kM vs p) _ (by simpa [kM] using jF hI p.toList hb) p1 (p2 _ fun i j _ _ h=>h)
end
end Srt
namespace L2
open PySem
noncomputable def Kq (K:W.Frag):List V -> Hp -> VK -> Prop:=fun xs H Q=>∃ p ys,xs = [.ref p] /\ ((SqL K H p ys /\ ∀ l,H l = none -> Q (.ref l) (d8 H l (.tup ys))) \/ (SqT K H p ys /\ Q (.ref p) H))
noncomputable def L0 (K:W.Frag):List V -> Hp -> VK -> Prop:=fun xs H Q=>∃ p ys,xs = [.ref p] /\ (SqL K H p ys \/ SqT K H p ys) /\ ∀ l,H l = none -> Q (.ref l) (d8 H l (.lst ys))
noncomputable def L1:List V -> Hp -> VK -> Prop:=fun xs H Q=>∃ i j,xs = [.int i,.int j] /\ Q (.int (if j > i then j else i)) H
noncomputable def Ni:R2:=fun x y H Q=>y = .non /\ Q (.bl (decide (x = .non))) H
noncomputable def L3:R2:=fun x y H Q=>y = .non /\ Q (.bl (!decide (x = .non))) H
noncomputable def Mp (K:W.Frag) (ta:TE):TT:=fun σ H Q=>ta σ H fun x H'=>∃ k,EW K x H' k /\ Q k H'
noncomputable def zF (K:W.Frag):List V -> Hp -> VK -> Prop:=fun xs H Q=>∃ p,∃ ns:List Int,xs = [.ref p] /\ SqL K H p (ns.map V.int) /\ ns.length < 30000 /\
 ∀ (ms:List Int) l,ms.Perm ns -> ms.Pairwise (· <= ·) -> H l = none -> Q (.ref l) (d8 H l (.lst (ms.map V.int)))
noncomputable def JY (K:W.Frag) (tl:TE):TI:=fun σ H R=>tl σ H fun x H1=>∃ a,x = .ref a /\ (((∃ xs,SqL K H1 a xs) /\ R (N5 K a) H1) \/ ((∃ xs,SqT K H1 a xs) /\ R (N6 K a) H1))
end L2
namespace M
theorem bind_some {α β:Type} {x:Option α} {f:α -> Option β} {b:β} (h:x.bind f = some b):∃ a,x = some a /\ f a = some b:=Option.bind_eq_some_iff.mp h
open PySem L2
inductive D where
 | non | bl (b:Bool) | int (i:Int) | str (x:Str) | ty (n:String) | lst (l:List D) | tup (l:List D) | scr (l:List D) | ins (N:Str) (ns:List Str) (l:List D) | dic (ks:List (List Int)) | dif (ks:List (List Int)) | mtp (l:List D)
 deriving Inhabited
theorem cW {S S':Hp} (s:Same S S') {a:Addr} {u:HO} (h:Rd S a u):Rd S' a u:=h.elim (fun e=>.inl (s _ _ e)) fun ⟨o,e⟩=>.inr ⟨o,s _ _ e⟩
theorem eK {K:W.Frag} {S S':Hp} (s:Same S S') {a:Addr} {xs:List V} (h:SqL K S a xs):SqL K S' a xs:=h.elim (fun e=>.inl (cW s e)) .inr
theorem br {K:W.Frag} {S S':Hp} (s:Same S S') {a:Addr} {xs:List V} (h:SqT K S a xs):SqT K S' a xs:=h.elim (fun e=>.inl (cW s e)) .inr
def TpA (K:W.Frag) (S:Hp) (a:Addr) (xs:List V):Prop:=S a = some (.tup xs)
theorem TpA.of {K:W.Frag} {S:Hp} {a:Addr} {xs:List V} (h:S a = some (.tup xs)):TpA K S a xs:=h
theorem TpA.sq {K:W.Frag} {S:Hp} {a:Addr} {xs:List V} (h:TpA K S a xs):SqT K S a xs:=SqT.of h
theorem TpA.mono {K:W.Frag} {S S':Hp} (s:Same S S') {a:Addr} {xs:List V} (h:TpA K S a xs):TpA K S' a xs:=s _ _ h
noncomputable def yH (ks:List (List Int)):List (List wB × V):=ks.map fun k=>(k.map Sum.inl,V.bl true)
mutual
noncomputable def Den (K:W.Frag) (S:Hp):D -> V -> Prop
 | .non,v=>v = .non
 | .bl b,v=>v = .bl b
 | .int i,v=>v = .int i
 | .str x,v=>v = .str x
 | .ty x,v=>v = .ty x
 | .lst l,v=>∃ p xs,v = .ref p /\ Rd S p (.lst xs) /\ Dens K S l xs
 | .tup l,v=>∃ p xs,v = .ref p /\ TpA K S p xs /\ Dens K S l xs
 | .scr l,v=>∃ p xs,v = .ref p /\ SqL K S p xs /\ Dens K S l xs
 | .mtp l,v=>∃ p xs,v = .ref p /\ SqT K S p xs /\ Dens K S l xs
 | .ins N ns l,v=>∃ p C dx fs,v = .ref p /\ W.nsIn K mainGlobals N = some (some (.ref C)) /\ S p = some (.ins C dx fs) /\ fs.map (·.1) = ns /\ Dens K S l (fs.map (·.2))
 | .dic ks,v=>∃ p,v = .ref p /\ Rd S p (.dT (yH ks))
 | .dif ks,v=>∃ p o,v = .ref p /\ S p = some (.frz o (.dT (yH ks)))
noncomputable def Dens (K:W.Frag) (S:Hp):List D -> List V -> Prop
 | [],xs=>xs = []
 | d :: ds,xs=>∃ y ys,xs = y :: ys /\ Den K S d y /\ Dens K S ds ys
end
section
variable {K:W.Frag} {S S' H H':Hp}
theorem Dens.nil:Dens K S [] []:=by unfold Dens;rfl
theorem Dens.cons {d:D} {ds:List D} {y:V} {ys:List V} (h:Den K S d y) (k:Dens K S ds ys):Dens K S (d :: ds) (y :: ys):=by unfold Dens;exact ⟨y,ys,rfl,h,k⟩
theorem Dens.nil_of {xs:List V} (h:Dens K S [] xs):xs = []:=by unfold Dens at h;exact h
theorem Dens.cons_of {d:D} {ds:List D} {xs:List V} (h:Dens K S (d :: ds) xs):∃ y ys,xs = y :: ys /\ Den K S d y /\ Dens K S ds ys:=by unfold Dens at h;exact h
theorem Dens.length:∀ {ds:List D} {xs:List V},Dens K S ds xs -> ds.length = xs.length
 | [],_,h=>by rw [h.nil_of];rfl
 | _ :: _,_,h=>by
  obtain ⟨y,ys,rfl,_,k⟩:=h.cons_of
  rw [List.length_cons,List.length_cons,k.length]
theorem Dens.append:∀ {ds es:List D} {xs ys:List V},Dens K S ds xs -> Dens K S es ys -> Dens K S (ds ++ es) (xs ++ ys)
 | [],_,_,_,h,k=>by rw [h.nil_of];exact k
 | _ :: _,_,_,_,h,k=>by
  obtain ⟨y,ys,rfl,a,b⟩:=h.cons_of
  exact .cons a (b.append k)
theorem Dens.get:∀ {ds:List D} {xs:List V} {i:Nat} {d:D},Dens K S ds xs -> ds[i]? = some d -> ∃ x,xs[i]? = some x /\ Den K S d x
 | [],_,_,_,_,e=>by simp at e
 | _ :: _,_,0,_,h,e=>by
  obtain ⟨y,ys,rfl,a,b⟩:=h.cons_of
  simp at e;subst e
  exact ⟨y,rfl,a⟩
 | _ :: _,_,i + 1,_,h,e=>by
  obtain ⟨y,ys,rfl,a,b⟩:=h.cons_of
  obtain ⟨x,e1,h1⟩:=b.get (i:=i) (by simpa using e)
  exact ⟨x,by simpa using e1,h1⟩
theorem Dens.set:∀ {ds:List D} {xs:List V} {d:D} {x:V} (i:Nat),Dens K S ds xs -> Den K S d x -> Dens K S (ds.set i d) (xs.set i x)
 | [],_,_,_,_,h,_=>by rw [h.nil_of];exact .nil
 | _ :: _,_,_,_,0,h,k=>by
  obtain ⟨y,ys,rfl,a,b⟩:=h.cons_of
  exact .cons k b
 | _ :: _,_,_,_,i + 1,h,k=>by
  obtain ⟨y,ys,rfl,a,b⟩:=h.cons_of
  exact .cons a (b.set i k)
mutual
theorem Den.mono (s:Same S S'):∀ {d:D} {v:V},Den K S d v -> Den K S' d v
 | .dic _,_,h=>by
  unfold Den at *
  obtain ⟨p,e,h1⟩:=h
  exact ⟨p,e,cW s h1⟩
 | .dif _,_,h=>by
  unfold Den at *
  obtain ⟨p,o,e,h1⟩:=h
  exact ⟨p,o,e,s _ _ h1⟩
 | .non,_,h=>by unfold Den at *;exact h
 | .bl _,_,h=>by unfold Den at *;exact h
 | .int _,_,h=>by unfold Den at *;exact h
 | .str _,_,h=>by unfold Den at *;exact h
 | .ty _,_,h=>by unfold Den at *;exact h
 | .lst _,_,h=>by
  unfold Den at *
  obtain ⟨p,xs,e,h1,h2⟩:=h
  exact ⟨p,xs,e,cW s h1,Dens.mono s h2⟩
 | .tup _,_,h=>by
  unfold Den at *
  obtain ⟨p,xs,e,h1,h2⟩:=h
  exact ⟨p,xs,e,TpA.mono s h1,Dens.mono s h2⟩
 | .scr _,_,h=>by
  unfold Den at *
  obtain ⟨p,xs,e,h1,h2⟩:=h
  exact ⟨p,xs,e,eK s h1,Dens.mono s h2⟩
 | .mtp _,_,h=>by
  unfold Den at *
  obtain ⟨p,xs,e,h1,h2⟩:=h
  exact ⟨p,xs,e,br s h1,Dens.mono s h2⟩
 | .ins _ _ _,_,h=>by
  unfold Den at *
  obtain ⟨p,C,dx,fs,e,h0,h1,h2,h3⟩:=h
  exact ⟨p,C,dx,fs,e,h0,s _ _ h1,h2,Dens.mono s h3⟩
theorem Dens.mono (s:Same S S'):∀ {ds:List D} {xs:List V},Dens K S ds xs -> Dens K S' ds xs
 | [],_,h=>by rw [h.nil_of];exact .nil
 | _ :: _,_,h=>by
  obtain ⟨y,ys,rfl,a,b⟩:=h.cons_of
  exact .cons (Den.mono s a) (Dens.mono s b)
end
theorem den_int {i:Int} {v:V}:Den K S (.int i) v ↔ v = .int i:=by unfold Den;exact Iff.rfl
theorem den_bl {b:Bool} {v:V}:Den K S (.bl b) v ↔ v = .bl b:=by unfold Den;exact Iff.rfl
theorem den_non {v:V}:Den K S .non v ↔ v = .non:=by unfold Den;exact Iff.rfl
theorem den_str {x:Str} {v:V}:Den K S (.str x) v ↔ v = .str x:=by unfold Den;exact Iff.rfl
theorem den_ty {x:String} {v:V}:Den K S (.ty x) v ↔ v = .ty x:=by unfold Den;exact Iff.rfl
theorem den_tup {l:List D} {v:V}:Den K S (.tup l) v ↔ ∃ p xs,v = .ref p /\ TpA K S p xs /\ Dens K S l xs:=by
 constructor
 ·intro h;unfold Den at h;exact h
 ·intro h;unfold Den;exact h
theorem ii {l:List D} {v:V} (h:Den K S (.tup l) v):∃ p xs,v = .ref p /\ SqT K S p xs /\ Dens K S l xs:=by
 obtain ⟨p,xs,e,h1,h2⟩:=den_tup.mp h
 exact ⟨p,xs,e,h1.sq,h2⟩
theorem den_lst {l:List D} {v:V}:Den K S (.lst l) v ↔ ∃ p xs,v = .ref p /\ Rd S p (.lst xs) /\ Dens K S l xs:=by
 constructor
 ·intro h;unfold Den at h;exact h
 ·intro h;unfold Den;exact h
theorem den_scr {l:List D} {v:V}:Den K S (.scr l) v ↔ ∃ p xs,v = .ref p /\ SqL K S p xs /\ Dens K S l xs:=by
 constructor
 ·intro h;unfold Den at h;exact h
 ·intro h;unfold Den;exact h
theorem den_mtp {l:List D} {v:V}:Den K S (.mtp l) v ↔ ∃ p xs,v = .ref p /\ SqT K S p xs /\ Dens K S l xs:=by
 constructor
 ·intro h;unfold Den at h;exact h
 ·intro h;unfold Den;exact h
theorem den_ins {N:Str} {ns:List Str} {l:List D} {v:V}:Den K S (.ins N ns l) v ↔ ∃ p C dx fs,v = .ref p /\ W.nsIn K mainGlobals N = some (some (.ref C)) /\ S p = some (.ins C dx fs) /\ fs.map (·.1) = ns /\ Dens K S l (fs.map (·.2)):=by
 constructor
 ·intro h;unfold Den at h;exact h
 ·intro h;unfold Den;exact h
def DenP (K:W.Frag) (S H:Hp) (d:D) (v:V):Prop:=Den K S d v \/ ∃ l p xs,d = .lst l /\ v = .ref p /\ H p = some (.lst xs) /\ Dens K S l xs
theorem DenP.lst {l:List D} {v:V} (s:Same S H) (h:DenP K S H (.lst l) v):∃ p xs,v = .ref p /\ Rd H p (.lst xs) /\ Dens K S l xs:=by
 rcases h with h | ⟨l',p,xs,e,e1,e2,e3⟩
 ·obtain ⟨p,xs,e,e1,e2⟩:=den_lst.mp h
  exact ⟨p,xs,e,cW s e1,e2⟩
 ·cases e
  exact ⟨p,xs,e1,.inl e2,e3⟩
theorem DenP.tup {l:List D} {v:V} (s:Same S H) (h:DenP K S H (.tup l) v):∃ p xs,v = .ref p /\ SqT K H p xs /\ Dens K S l xs:=by
 rcases h with h | ⟨l',p,xs,e,e1,e2,e3⟩
 ·obtain ⟨p,xs,e,e1,e2⟩:=ii h
  exact ⟨p,xs,e,br s e1,e2⟩
 ·cases e
theorem DenP.scr {l:List D} {v:V} (s:Same S H) (h:DenP K S H (.scr l) v):∃ p xs,v = .ref p /\ SqL K H p xs /\ Dens K S l xs:=by
 rcases h with h | ⟨l',p,xs,e,e1,e2,e3⟩
 ·obtain ⟨p,xs,e,e1,e2⟩:=den_scr.mp h
  exact ⟨p,xs,e,eK s e1,e2⟩
 ·cases e
theorem DenP.mtp {l:List D} {v:V} (s:Same S H) (h:DenP K S H (.mtp l) v):∃ p xs,v = .ref p /\ SqT K H p xs /\ Dens K S l xs:=by
 rcases h with h | ⟨l',p,xs,e,e1,e2,e3⟩
 ·obtain ⟨p,xs,e,e1,e2⟩:=den_mtp.mp h
  exact ⟨p,xs,e,br s e1,e2⟩
 ·cases e
theorem DenP.int {i:Int} {v:V} (h:DenP K S H (.int i) v):v = .int i:=by
 rcases h with h | ⟨l',p,xs,e,_⟩
 ·exact den_int.mp h
 ·cases e
theorem DenP.bl {i:Bool} {v:V} (h:DenP K S H (.bl i) v):v = .bl i:=by
 rcases h with h | ⟨l',p,xs,e,_⟩
 ·exact den_bl.mp h
 ·cases e
theorem DenP.str {i:Str} {v:V} (h:DenP K S H (.str i) v):v = .str i:=by
 rcases h with h | ⟨l',p,xs,e,_⟩
 ·exact den_str.mp h
 ·cases e
theorem DenP.non {v:V} (h:DenP K S H .non v):v = .non:=by
 rcases h with h | ⟨l',p,xs,e,_⟩
 ·exact den_non.mp h
 ·cases e
theorem DenP.ty {i:String} {v:V} (h:DenP K S H (.ty i) v):v = .ty i:=by
 rcases h with h | ⟨l',p,xs,e,_⟩
 ·exact den_ty.mp h
 ·cases e
def IT (o:HO):Prop:=∃ ks:List Int,o = .tup (ks.map V.int)
structure Ext (S H S' H':Hp):Prop where
 sh:Same S S'
 sub:Same S' H'
 alw:∀ b o,H b = some o -> S b = none -> H' b = some o /\ (S' b = none \/ IT o)
theorem Ext.al (z:Ext S H S' H') (b:Addr) (o:HO) (h:H b = some o) (n:S b = none) (hn:¬ IT o:=by exact fun ⟨_,z⟩=>nomatch z):H' b = some o /\ S' b = none:=
 ⟨(z.alw b o h n).1,(z.alw b o h n).2.resolve_right hn⟩
theorem Ext.refl (h:Same S H):Ext S H S H:=⟨Same.refl _,h,fun _ _ h n=>⟨h,.inl n⟩⟩
theorem Ext.trans {S1 H1 S2 H2:Hp} (a:Ext S H S1 H1) (b:Ext S1 H1 S2 H2):Ext S H S2 H2:=⟨a.sh.trans b.sh,b.sub,fun c o h n=>by
 obtain ⟨k1,k2⟩:=a.alw c o h n
 rcases k2 with k2 | k2
 ·exact b.alw c o k1 k2
 ·cases q:S1 c with
  | none=>exact ⟨(b.alw c o k1 q).1,.inr k2⟩
  | some u=>
   have:=a.sub c u q
   rw [k1] at this
   cases this
   exact ⟨b.sub c _ (b.sh c _ q),.inr k2⟩⟩
theorem Ext.same (a:Ext S H S' H') (s:Same S H):Same H H':=fun b o h=>by
 cases q:S b with
 | none=>exact (a.alw b o h q).1
 | some u=>
  have:=s b u q
  rw [h] at this
  cases this
  exact a.sub b o (a.sh b o q)
theorem Ext.new (s:Same S H) {p:Addr} {o:HO} (h:H p = none):Ext S H (d8 S p o) (d8 H p o) where
 sh:=fun b u e=>by rw [aS (aP e (s.free h))];exact e
 sub:=fun b u e=>by
  by_cases hb:b = p
  ·subst hb;rw [a7] at e ⊢;exact e
  ·rw [aS hb] at e ⊢;exact s b u e
 alw:=fun b u e n=>by
  have hb:=aP e h
  rw [aS hb,aS hb]
  exact ⟨e,.inl n⟩
theorem Ext.own (s:Same S H) {p:Addr} {o:HO} (h:H p = none):Ext S H S (d8 H p o) where
 sh:=Same.refl _
 sub:=fun b u e=>by rw [aS (aP (s b u e) h)];exact s b u e
 alw:=fun b u e n=>by
  have hb:=aP e h
  rw [aS hb]
  exact ⟨e,.inl n⟩
theorem DenP.mono {d:D} {v:V} (e:Ext S H S' H') (s:Same S H) (h:DenP K S H d v):DenP K S' H' d v:=by
 rcases h with h | ⟨l,p,xs,h1,h2,h3,h4⟩
 ·exact .inl (h.mono e.sh)
 ·exact .inr ⟨l,p,xs,h1,h2,e.same s _ _ h3,h4.mono e.sh⟩
inductive DensP (K:W.Frag) (S H:Hp):List D -> List V -> Prop where
 | nil:DensP K S H [] []
 | cons {d ds v vs}:DenP K S H d v -> DensP K S H ds vs -> DensP K S H (d :: ds) (v :: vs)
inductive O where
 | sh (d:D) | lst (l:List O) | tup (l:List O) | dic (ks:List (List Int)) | hd (p:Addr) (ks:List (List Int)) (os:List O)
 deriving Inhabited
mutual
noncomputable def O.d:O -> D
 | .sh d=>d
 | .dic ks=>.dic ks
 | .hd _ ks os=>(O.ds os).headD (.dic ks)
 | .lst l=>.lst (O.ds l)
 | .tup l=>.tup (O.ds l)
noncomputable def O.ds:List O -> List D
 | []=>[]
 | o :: l=>o.d :: O.ds l
end
mutual
noncomputable def Own (K:W.Frag) (S H:Hp):O -> V -> List Addr -> Prop
 | .sh d,v,fp=>fp = [] /\ Den K S d v
 | .lst l,v,fp=>∃ a xs f,v = .ref a /\ fp = a :: f /\ H a = some (.lst xs) /\ Owns K S H l xs f
 | .tup l,v,fp=>∃ a xs f,v = .ref a /\ fp = a :: f /\ (H a = some (.tup xs) /\ ¬ IT (.tup xs)) /\ Owns K S H l xs f
 | .dic ks,v,fp=>∃ a,v = .ref a /\ fp = [a] /\ H a = some (.dT (yH ks))
 | .hd p ks os,v,fp=>∃ xs f,v = xs.headD (.ref p) /\ fp = p :: f /\ H p = some (.dT (yH ks)) /\ Owns K S H os xs f
noncomputable def Owns (K:W.Frag) (S H:Hp):List O -> List V -> List Addr -> Prop
 | [],xs,fp=>xs = [] /\ fp = []
 | o :: l,xs,fp=>∃ y ys f g,xs = y :: ys /\ fp = f ++ g /\ Own K S H o y f /\ Owns K S H l ys g
end
theorem den_dic {ks:List (List Int)} {v:V}:Den K S (.dic ks) v ↔ ∃ p,v = .ref p /\ Rd S p (.dT (yH ks)):=by unfold Den;exact Iff.rfl
theorem own_dic {ks:List (List Int)} {v:V} {fp:List Addr}:Own K S H (.dic ks) v fp ↔ ∃ a,v = .ref a /\ fp = [a] /\ H a = some (.dT (yH ks)):=by unfold Own;exact Iff.rfl
theorem den_dif {ks:List (List Int)} {v:V}:Den K S (.dif ks) v ↔ ∃ p o,v = .ref p /\ S p = some (.frz o (.dT (yH ks))):=by unfold Den;exact Iff.rfl
theorem own_hd {p:Addr} {ks:List (List Int)} {os:List O} {v:V} {fp:List Addr}:Own K S H (.hd p ks os) v fp ↔ ∃ xs f,v = xs.headD (.ref p) /\ fp = p :: f /\ H p = some (.dT (yH ks)) /\ Owns K S H os xs f:=by
 constructor
 ·intro h;unfold Own at h;exact h
 ·intro h;unfold Own;exact h
theorem own_sh {d:D} {v:V} {fp:List Addr}:Own K S H (.sh d) v fp ↔ fp = [] /\ Den K S d v:=by unfold Own;exact Iff.rfl
theorem own_lst {l:List O} {v:V} {fp:List Addr}:Own K S H (.lst l) v fp ↔ ∃ a xs f,v = .ref a /\ fp = a :: f /\ H a = some (.lst xs) /\ Owns K S H l xs f:=by
 constructor
 ·intro h;unfold Own at h;exact h
 ·intro h;unfold Own;exact h
theorem own_tup {l:List O} {v:V} {fp:List Addr}:Own K S H (.tup l) v fp ↔ ∃ a xs f,v = .ref a /\ fp = a :: f /\ (H a = some (.tup xs) /\ ¬ IT (.tup xs)) /\ Owns K S H l xs f:=by
 constructor
 ·intro h;unfold Own at h;exact h
 ·intro h;unfold Own;exact h
theorem Owns.nil:Owns K S H [] [] []:=by unfold Owns;exact ⟨rfl,rfl⟩
theorem Owns.cons {o:O} {l:List O} {y:V} {ys:List V} {f g:List Addr} (h:Own K S H o y f) (k:Owns K S H l ys g):Owns K S H (o :: l) (y :: ys) (f ++ g):=by unfold Owns;exact ⟨y,ys,f,g,rfl,rfl,h,k⟩
theorem Owns.nil_of {xs:List V} {fp:List Addr} (h:Owns K S H [] xs fp):xs = [] /\ fp = []:=by unfold Owns at h;exact h
theorem Owns.cons_of {o:O} {l:List O} {xs:List V} {fp:List Addr} (h:Owns K S H (o :: l) xs fp):∃ y ys f g,xs = y :: ys /\ fp = f ++ g /\ Own K S H o y f /\ Owns K S H l ys g:=by unfold Owns at h;exact h
theorem Owns.length:∀ {l:List O} {xs:List V} {fp:List Addr},Owns K S H l xs fp -> l.length = xs.length
 | [],_,_,h=>by rw [h.nil_of.1];rfl
 | _ :: _,_,_,h=>by
  obtain ⟨y,ys,f,g,rfl,rfl,_,k⟩:=h.cons_of
  rw [List.length_cons,List.length_cons,k.length]
theorem Owns.append:∀ {l m:List O} {xs ys:List V} {f g:List Addr},Owns K S H l xs f -> Owns K S H m ys g -> Owns K S H (l ++ m) (xs ++ ys) (f ++ g)
 | [],_,_,_,_,_,h,k=>by rw [h.nil_of.1,h.nil_of.2];exact k
 | _ :: _,_,_,_,_,_,h,k=>by
  obtain ⟨y,ys,f,g,rfl,rfl,a,b⟩:=h.cons_of
  rw [List.append_assoc]
  exact .cons a (b.append k)
theorem rE:∀ {ds:List D} {xs:List V},Dens K S ds xs -> Owns K S H (ds.map .sh) xs []
 | [],_,h=>by rw [h.nil_of];exact .nil
 | _ :: _,_,h=>by
  obtain ⟨y,ys,rfl,a,b⟩:=h.cons_of
  exact .cons (f:=[]) (own_sh.mpr ⟨rfl,a⟩) (rE b)
theorem nH:∀ {ds:List D} {xs:List V} {fp:List Addr},Owns K S H (ds.map .sh) xs fp -> Dens K S ds xs /\ fp = []
 | [],_,_,h=>by rw [h.nil_of.1,h.nil_of.2];exact ⟨.nil,rfl⟩
 | _ :: _,_,_,h=>by
  obtain ⟨y,ys,f,g,rfl,rfl,a,b⟩:=h.cons_of
  obtain ⟨e,a⟩:=own_sh.mp a
  obtain ⟨b,e2⟩:=nH b
  exact ⟨.cons a b,by rw [e,e2];rfl⟩
mutual
theorem Own.mono (s:Same S S'):∀ {o:O} {v:V} {fp:List Addr},(∀ b ∈ fp,H' b = H b) -> Own K S H o v fp -> Own K S' H' o v fp
 | .dic _,_,_,k,h=>by
  obtain ⟨a,e,rfl,h1⟩:=own_dic.mp h
  exact own_dic.mpr ⟨a,e,rfl,by rw [k a List.mem_cons_self];exact h1⟩
 | .hd _ _ _,_,_,k,h=>by
  obtain ⟨xs,f,e,rfl,h1,h2⟩:=own_hd.mp h
  exact own_hd.mpr ⟨xs,f,e,rfl,by rw [k _ List.mem_cons_self];exact h1,Owns.mono s (fun b hb=>k b (List.mem_cons_of_mem _ hb)) h2⟩
 | .sh _,_,_,k,h=>by
  obtain ⟨e,d⟩:=own_sh.mp h
  exact own_sh.mpr ⟨e,d.mono s⟩
 | .lst _,_,_,k,h=>by
  obtain ⟨a,xs,f,e,rfl,h1,h2⟩:=own_lst.mp h
  exact own_lst.mpr ⟨a,xs,f,e,rfl,by rw [k a List.mem_cons_self];exact h1,Owns.mono s (fun b hb=>k b (List.mem_cons_of_mem _ hb)) h2⟩
 | .tup _,_,_,k,h=>by
  obtain ⟨a,xs,f,e,rfl,h1,h2⟩:=own_tup.mp h
  exact own_tup.mpr ⟨a,xs,f,e,rfl,by rw [k a List.mem_cons_self];exact h1,Owns.mono s (fun b hb=>k b (List.mem_cons_of_mem _ hb)) h2⟩
theorem Owns.mono (s:Same S S'):∀ {l:List O} {xs:List V} {fp:List Addr},(∀ b ∈ fp,H' b = H b) -> Owns K S H l xs fp -> Owns K S' H' l xs fp
 | [],_,_,k,h=>by rw [h.nil_of.1,h.nil_of.2];exact .nil
 | _ :: _,_,_,k,h=>by
  obtain ⟨y,ys,f,g,rfl,rfl,a,b⟩:=h.cons_of
  exact .cons (Own.mono s (fun b hb=>k b (List.mem_append_left _ hb)) a) (Owns.mono s (fun b hb=>k b (List.mem_append_right _ hb)) b)
end
mutual
theorem Own.there:∀ {o:O} {v:V} {fp:List Addr},Own K S H o v fp -> ∀ b ∈ fp,H b ≠ none
 | .dic _,_,_,h=>by
  obtain ⟨a,e,rfl,h1⟩:=own_dic.mp h
  intro b hb
  rw [List.mem_singleton] at hb
  subst hb
  rw [h1];exact fun z=>by cases z
 | .hd _ _ _,_,_,h=>by
  obtain ⟨xs,f,e,rfl,h1,h2⟩:=own_hd.mp h
  intro b hb
  rcases List.mem_cons.mp hb with rfl | hb
  ·rw [h1];exact fun z=>by cases z
  ·exact Owns.there h2 b hb
 | .sh _,_,_,h=>by
  obtain ⟨e,d⟩:=own_sh.mp h
  rw [e];intro b hb;cases hb
 | .lst _,_,_,h=>by
  obtain ⟨a,xs,f,e,rfl,h1,h2⟩:=own_lst.mp h
  intro b hb
  rcases List.mem_cons.mp hb with rfl | hb
  ·rw [h1];exact fun z=>by cases z
  ·exact Owns.there h2 b hb
 | .tup _,_,_,h=>by
  obtain ⟨a,xs,f,e,rfl,⟨h1,_⟩,h2⟩:=own_tup.mp h
  intro b hb
  rcases List.mem_cons.mp hb with rfl | hb
  ·rw [h1];exact fun z=>by cases z
  ·exact Owns.there h2 b hb
theorem Owns.there:∀ {l:List O} {xs:List V} {fp:List Addr},Owns K S H l xs fp -> ∀ b ∈ fp,H b ≠ none
 | [],_,_,h=>by rw [h.nil_of.2];intro b hb;cases hb
 | _ :: _,_,_,h=>by
  obtain ⟨y,ys,f,g,rfl,rfl,a,b⟩:=h.cons_of
  intro c hc
  rcases List.mem_append.mp hc with hc | hc
  ·exact Own.there a c hc
  ·exact Owns.there b c hc
end
mutual
theorem Own.nit:∀ {o:O} {v:V} {fp:List Addr},Own K S H o v fp -> ∀ b ∈ fp,∀ u,H b = some u -> ¬ IT u
 | .dic _,_,_,h=>by
  obtain ⟨a,e,rfl,h1⟩:=own_dic.mp h
  intro b hb u hu
  rw [List.mem_singleton.mp hb,h1] at hu
  cases hu
  exact fun ⟨_,z⟩=>nomatch z
 | .hd _ _ _,_,_,h=>by
  obtain ⟨xs,f,e,rfl,h1,h2⟩:=own_hd.mp h
  intro b hb u hu
  rcases List.mem_cons.mp hb with rfl | hb
  ·rw [h1] at hu
   cases hu
   exact fun ⟨_,z⟩=>nomatch z
  ·exact Owns.nit h2 b hb u hu
 | .sh _,_,_,h=>by
  obtain ⟨e,d⟩:=own_sh.mp h
  rw [e];intro b hb;cases hb
 | .lst _,_,_,h=>by
  obtain ⟨a,xs,f,e,rfl,h1,h2⟩:=own_lst.mp h
  intro b hb u hu
  rcases List.mem_cons.mp hb with rfl | hb
  ·rw [h1] at hu
   cases hu
   exact fun ⟨_,z⟩=>nomatch z
  ·exact Owns.nit h2 b hb u hu
 | .tup _,_,_,h=>by
  obtain ⟨a,xs,f,e,rfl,⟨h1,hn⟩,h2⟩:=own_tup.mp h
  intro b hb u hu
  rcases List.mem_cons.mp hb with rfl | hb
  ·rw [h1] at hu
   cases hu
   exact hn
  ·exact Owns.nit h2 b hb u hu
theorem Owns.nit:∀ {l:List O} {xs:List V} {fp:List Addr},Owns K S H l xs fp -> ∀ b ∈ fp,∀ u,H b = some u -> ¬ IT u
 | [],_,_,h=>by rw [h.nil_of.2];intro b hb;cases hb
 | _ :: _,_,_,h=>by
  obtain ⟨y,ys,f,g,rfl,rfl,a,b⟩:=h.cons_of
  intro c hc u hu
  rcases List.mem_append.mp hc with hc | hc
  ·exact Own.nit a c hc u hu
  ·exact Owns.nit b c hc u hu
end
mutual
theorem Own.den {S2:Hp} (s:Same S S2):∀ {o:O} {v:V} {fp:List Addr},(∀ b ∈ fp,S2 b = H b) -> Own K S H o v fp -> Den K S2 o.d v
 | .dic _,_,_,k,h=>by
  obtain ⟨a,e,rfl,h1⟩:=own_dic.mp h
  rw [O.d]
  exact den_dic.mpr ⟨a,e,.inl (by rw [k a List.mem_cons_self];exact h1)⟩
 | .hd p ks os,_,_,k,h=>by
  obtain ⟨xs,f,e,rfl,h1,h2⟩:=own_hd.mp h
  have ds:=Owns.den s (fun b hb=>k b (List.mem_cons_of_mem _ hb)) h2
  rw [O.d,e]
  cases q:O.ds os with
  | nil=>
   rw [q] at ds
   rw [ds.nil_of]
   exact den_dic.mpr ⟨p,rfl,.inl (by rw [k p List.mem_cons_self];exact h1)⟩
  | cons d l=>
   rw [q] at ds
   obtain ⟨y,ys,rfl,a,_⟩:=ds.cons_of
   exact a
 | .sh _,_,_,k,h=>by
  obtain ⟨e,d⟩:=own_sh.mp h
  exact d.mono s
 | .lst l,_,_,k,h=>by
  obtain ⟨a,xs,f,e,rfl,h1,h2⟩:=own_lst.mp h
  rw [O.d]
  exact den_lst.mpr ⟨a,xs,e,.inl (by rw [k a List.mem_cons_self];exact h1),Owns.den s (fun b hb=>k b (List.mem_cons_of_mem _ hb)) h2⟩
 | .tup l,_,_,k,h=>by
  obtain ⟨a,xs,f,e,rfl,h1,h2⟩:=own_tup.mp h
  rw [O.d]
  exact den_tup.mpr ⟨a,xs,e,TpA.of (by rw [k a List.mem_cons_self];exact h1.1),Owns.den s (fun b hb=>k b (List.mem_cons_of_mem _ hb)) h2⟩
theorem Owns.den {S2:Hp} (s:Same S S2):∀ {l:List O} {xs:List V} {fp:List Addr},(∀ b ∈ fp,S2 b = H b) -> Owns K S H l xs fp -> Dens K S2 (O.ds l) xs
 | [],_,_,k,h=>by rw [h.nil_of.1,O.ds];exact .nil
 | _ :: _,_,_,k,h=>by
  obtain ⟨y,ys,f,g,rfl,rfl,a,b⟩:=h.cons_of
  rw [O.ds]
  exact .cons (Own.den s (fun b hb=>k b (List.mem_append_left _ hb)) a) (Owns.den s (fun b hb=>k b (List.mem_append_right _ hb)) b)
end
theorem Own.denH {o:O} {v:V} {fp:List Addr} (s:Same S H) (h:Own K S H o v fp):Den K H o.d v:=h.den s fun _ _=>rfl
theorem Ext.keeps {fp:List Addr} (e:Ext S H S' H') (h:∀ b ∈ fp,S b = none) (t:∀ b ∈ fp,H b ≠ none) (ni:∀ b ∈ fp,∀ u,H b = some u -> ¬ IT u):(∀ b ∈ fp,H' b = H b) /\ ∀ b ∈ fp,S' b = none:=by
 have key:∀ b ∈ fp,H' b = H b /\ S' b = none:=fun b hb=>by
  cases q:H b with
  | none=>exact absurd q (t b hb)
  | some o=>exact e.al b o q (h b hb) (ni b hb o q)
 exact ⟨fun b hb=>(key b hb).1,fun b hb=>(key b hb).2⟩
inductive Sl where
 | un | lo | sh (d:D) | ow (o:O)
 deriving Inhabited
noncomputable abbrev Env:=List Sl
structure RlF (K:W.Frag) (A:Hp) (Λ:Nat -> Option Addr) (Φ:Nat -> List Addr) (ρ:Env) (σ:St) (S H:Hp):Prop where
 len:σ.length = ρ.length
 sub:Same S H
 sh:∀ (i:Nat) d,ρ[i]? = some (.sh d) -> ∃ v,σ[i]? = some (some v) /\ Den K S d v
 ow:∀ (i:Nat) o,ρ[i]? = some (.ow o) -> ∃ v,σ[i]? = some (some v) /\ Own K S H o v (Φ i) /\ (Φ i).Nodup /\ ∀ b ∈ Φ i,S b = none /\ A b = none
 dj:∀ (i j:Nat) o o',i ≠ j -> ρ[i]? = some (.ow o) -> ρ[j]? = some (.ow o') -> ∀ b ∈ Φ i,b ∉ Φ j
 lo:∀ (i:Nat),ρ[i]? = some .lo -> ∃ a,Λ i = some a /\ σ[i]? = some (some (.ref a))
 asub:Same A H
 adis:∀ b,S b = none \/ A b = none \/ ∃ u,A b = some u /\ IT u
def RlA (K:W.Frag) (A:Hp) (Λ:Nat -> Option Addr) (ρ:Env) (σ:St) (S H:Hp):Prop:=∃ Φ,RlF K A Λ Φ ρ σ S H
def Rl (K:W.Frag) (ρ:Env) (σ:St) (S H:Hp):Prop:=∃ A Λ Φ,RlF K A Λ Φ ρ σ S H
theorem RlF.ext {A:Hp} {Λ:Nat -> Option Addr} {Φ:Nat -> List Addr} {ρ:Env} {σ:St} (r:RlF K A Λ Φ ρ σ S H) (e:Ext S H S' H'):RlF K A Λ Φ ρ σ S' H' where
 len:=r.len
 sub:=e.sub
 sh:=fun i d h=>by
  obtain ⟨v,h1,h2⟩:=r.sh i d h
  exact ⟨v,h1,h2.mono e.sh⟩
 ow:=fun i o h=>by
  obtain ⟨v,h1,h2,h3,h4⟩:=r.ow i o h
  obtain ⟨k1,k2⟩:=e.keeps (fun b hb=>(h4 b hb).1) h2.there h2.nit
  exact ⟨v,h1,h2.mono e.sh k1,h3,fun b hb=>⟨k2 b hb,(h4 b hb).2⟩⟩
 dj:=r.dj
 lo:=r.lo
 asub:=fun b o h=>e.same r.sub b o (r.asub b o h)
 adis:=fun b=>by
  rcases r.adis b with h | h
  ·cases q:A b with
   | none=>exact .inr (.inl rfl)
   | some o=>
    rcases (e.alw b o (r.asub b o q) h).2 with k | k
    ·exact .inl k
    ·exact .inr (.inr ⟨o,rfl,k⟩)
  ·exact .inr h
theorem RlA.ext {A:Hp} {Λ:Nat -> Option Addr} {ρ:Env} {σ:St} (r:RlA K A Λ ρ σ S H) (e:Ext S H S' H'):RlA K A Λ ρ σ S' H':=let ⟨Φ,f⟩:=r;⟨Φ,f.ext e⟩
theorem RlA.toRl {A:Hp} {Λ:Nat -> Option Addr} {ρ:Env} {σ:St} (r:RlA K A Λ ρ σ S H):Rl K ρ σ S H:=let ⟨Φ,f⟩:=r;⟨A,Λ,Φ,f⟩
theorem RlA.sub {A:Hp} {Λ:Nat -> Option Addr} {ρ:Env} {σ:St} (r:RlA K A Λ ρ σ S H):Same S H:=let ⟨_,f⟩:=r;f.sub
theorem RlA.asub {A:Hp} {Λ:Nat -> Option Addr} {ρ:Env} {σ:St} (r:RlA K A Λ ρ σ S H):Same A H:=let ⟨_,f⟩:=r;f.asub
theorem RlA.adis {A:Hp} {Λ:Nat -> Option Addr} {ρ:Env} {σ:St} (r:RlA K A Λ ρ σ S H):∀ b,S b = none \/ A b = none \/ ∃ u,A b = some u /\ IT u:=let ⟨_,f⟩:=r;f.adis
theorem RlA.sh {A:Hp} {Λ:Nat -> Option Addr} {ρ:Env} {σ:St} (r:RlA K A Λ ρ σ S H):∀ (i:Nat) d,ρ[i]? = some (.sh d) -> ∃ v,σ[i]? = some (some v) /\ Den K S d v:=let ⟨_,f⟩:=r;f.sh
theorem Rl.ext {ρ:Env} {σ:St} (r:Rl K ρ σ S H) (e:Ext S H S' H'):Rl K ρ σ S' H':=let ⟨A,Λ,Φ,f⟩:=r;⟨A,Λ,Φ,f.ext e⟩
theorem Rl.sub {ρ:Env} {σ:St} (r:Rl K ρ σ S H):Same S H:=let ⟨_,_,_,f⟩:=r;f.sub
theorem Rl.sh {ρ:Env} {σ:St} (r:Rl K ρ σ S H):∀ (i:Nat) d,ρ[i]? = some (.sh d) -> ∃ v,σ[i]? = some (some v) /\ Den K S d v:=let ⟨_,_,_,f⟩:=r;f.sh
theorem Rl.ow {ρ:Env} {σ:St} (r:Rl K ρ σ S H):∀ (i:Nat) o,ρ[i]? = some (.ow o) -> ∃ v fp,σ[i]? = some (some v) /\ Own K S H o v fp /\ fp.Nodup /\ ∀ b ∈ fp,S b = none:=fun i o h=>by
 obtain ⟨A,Λ,Φ,f⟩:=r
 obtain ⟨v,h1,h2,h3,h4⟩:=f.ow i o h
 exact ⟨v,_,h1,h2,h3,fun b hb=>(h4 b hb).1⟩
noncomputable abbrev XE:=Env -> Option D
noncomputable abbrev XT:=Env -> Option Bool
noncomputable abbrev XA:=Env -> Option (List D)
def SE (K:W.Frag) (t:TE) (e:XE):Prop:=∀ ρ σ S H (Q:VK) d,Rl K ρ σ S H -> e ρ = some d -> (∀ v S' H',Ext S H S' H' -> Den K S' d v -> Q v H') -> t σ H Q
def SPk (K:W.Frag) (t:TE) (e:XE):Prop:=∀ ρ σ S H (Q:VK) d,Rl K ρ σ S H -> e ρ = some d -> (∀ v S' H',Ext S H S' H' -> DenP K S' H' d v -> Q v H') -> t σ H Q
def SF (K:W.Frag) (t:TE) (e:XA):Prop:=∀ ρ σ S H (Q:VK) l,Rl K ρ σ S H -> e ρ = some l -> (∀ a xs S' H',Ext S H S' H' -> H a = none -> S' a = none -> H' a = some (.lst xs) -> Dens K S' l xs -> Q (.ref a) H') -> t σ H Q
def ST (K:W.Frag) (t:TT) (c:XT):Prop:=∀ ρ σ S H (Q:Bool -> Hp -> Prop) b,Rl K ρ σ S H -> c ρ = some b -> (∀ S' H',Ext S H S' H' -> Q b H') -> t σ H Q
def SA (K:W.Frag) (t:TA) (e:XA):Prop:=∀ ρ σ S H (Q:List V -> Hp -> Prop) ds,Rl K ρ σ S H -> e ρ = some ds -> (∀ vs S' H',Ext S H S' H' -> Dens K S' ds vs -> Q vs H') -> t σ H Q
def Li (K:W.Frag) (t:TA) (e:XA):Prop:=∀ ρ σ S H (Q:List V -> Hp -> Prop) ds,Rl K ρ σ S H -> e ρ = some ds -> (∀ vs S' H',Ext S H S' H' -> DensP K S' H' ds vs -> Q vs H') -> t σ H Q
theorem SE.p {t:TE} {e:XE} (h:SE K t e):SPk K t e:=fun ρ σ S H Q d r x k=>h ρ σ S H Q d r x fun v S' H' z dv=>k v S' H' z (.inl dv)
@[simp] noncomputable def xL (e:XA):XE:=fun ρ=>(e ρ).map D.lst
theorem SF.e {t:TE} {e:XA} (h:SF K t e):SE K t (xL e):=fun ρ σ S H Q d r x k=>by
 unfold xL at x
 cases q:e ρ with
 | none=>rw [q] at x;cases x
 | some l=>
  rw [q] at x
  cases x
  refine h ρ σ S H Q l r q fun a xs S' H' z h1 h2 h3 h4=>?_
  have s2:Same S' (d8 S' a (.lst xs)):=fun b u e=>by rw [aS (aP e h2)];exact e
  refine k _ (d8 S' a (.lst xs)) H' ⟨z.sh.trans s2,fun b u e=>?_,fun b o e n=>?_⟩ (den_lst.mpr ⟨a,xs,rfl,.inl a7,h4.mono s2⟩)
  ·by_cases hb:b = a
   ·subst hb;rw [a7] at e;cases e;exact h3
   ·rw [aS hb] at e;exact z.sub b u e
  ·obtain ⟨y1,y2⟩:=z.alw b o e n
   exact ⟨y1,by rw [aS (aP e h1)];exact y2⟩
@[simp] noncomputable def aL (i:Nat):XE:=fun ρ=>match ρ[i]? with | some (.sh d)=>some d | _=>none
noncomputable def nV:List O -> Option (List D)
 | []=>some []
 | .sh d :: l=>(nV l).map fun r=>d :: r
 | _=>none
theorem rJ:∀ l:List D,nV (l.map .sh) = some l
 | []=>rfl
 | d :: l=>by rw [List.map_cons,nV,rJ l];rfl
theorem Ba:∀ {os:List O} {l:List D},nV os = some l -> os = l.map .sh
 | [],l,h=>by cases h;rfl
 | o :: os,l,h=>by
  cases o with
  | sh d=>
   have h':(nV os).map (fun r=>d :: r) = some l:=h
   cases q:nV os with
   | none=>rw [q] at h';cases h'
   | some m=>rw [q] at h';cases h';rw [Ba q];rfl
  | lst _=>cases h
  | tup _=>cases h
  | dic _=>cases h
  | hd _ _ _=>cases h
noncomputable def F4:Sl -> Option D
 | .sh d=>some d
 | .ow (.sh d)=>some d
 | .ow (.lst os)=>(nV os).map D.lst
 | _=>none
@[simp] theorem MS (d:D):F4 (.ow (.sh d)) = some d:=rfl
@[simp] theorem MV (d:D):F4 (.sh d) = some d:=rfl
@[simp] theorem MU (l:List D):F4 (.ow (.lst (l.map .sh))) = some (.lst l):=by show (nV _).map D.lst = _;rw [rJ];rfl
@[simp] noncomputable def aj (i:Nat):XE:=fun ρ=>(ρ[i]?).bind F4
theorem aE (i:Nat):SE K (ul i) (aL i):=fun ρ σ S H Q d r x k=>by
 unfold aL at x
 split at x
 ·rename_i d' e
  cases x
  obtain ⟨v,h1,h2⟩:=r.sh i _ e
  exact ⟨v,h1,k v S H (Ext.refl r.sub) h2⟩
 ·cases x
theorem ai (i:Nat):SPk K (ul i) (aj i):=fun ρ σ S H Q d r x k=>by
 obtain ⟨s,q,x⟩:=bind_some x
 cases s with
 | un=>cases x
 | lo=>cases x
 | sh d'=>
  cases x
  obtain ⟨v,h1,h2⟩:=r.sh i _ q
  exact ⟨v,h1,k v S H (Ext.refl r.sub) (.inl h2)⟩
 | ow o=>
  cases o with
  | sh d'=>
   cases x
   obtain ⟨v,fp,h1,h2,h3,h4⟩:=r.ow i _ q
   exact ⟨v,h1,k v S H (Ext.refl r.sub) (.inl (own_sh.mp h2).2)⟩
  | tup l=>cases x
  | dic ks=>cases x
  | hd _ _ _=>cases x
  | lst os=>
   have x':(nV os).map D.lst = some d:=x
   cases qs:nV os with
   | none=>rw [qs] at x';cases x'
   | some l=>
    rw [qs] at x'
    cases x'
    have e:=Ba qs
    subst e
    obtain ⟨v,fp,h1,h2,h3,h4⟩:=r.ow i _ q
    obtain ⟨a,xs,f,rfl,rfl,h5,h6⟩:=own_lst.mp h2
    exact ⟨_,h1,k _ S H (Ext.refl r.sub) (.inr ⟨l,a,xs,rfl,rfl,h5,(nH h6).1⟩)⟩
def SQ (K:W.Frag) (t:TE) (e:XE):Prop:=∀ ρ σ S H (Q:VK) d,Rl K ρ σ S H -> e ρ = some d -> (∀ v S' H',Ext S H S' H' -> Den K H' d v -> Q v H') -> t σ H Q
theorem sH {d:D} {v:V} (s:Same S H) (h:DenP K S H d v):Den K H d v:=by
 rcases h with h | ⟨l,p,xs,rfl,rfl,h1,h2⟩
 ·exact h.mono s
 ·exact den_lst.mpr ⟨p,xs,rfl,.inl h1,h2.mono s⟩
theorem SPk.q {t:TE} {e:XE} (h:SPk K t e):SQ K t e:=fun ρ σ S H Q d r x k=>h ρ σ S H Q d r x fun v S' H' z dv=>k v S' H' z (sH z.sub dv)
noncomputable def F5:Sl -> Option D
 | .sh d=>some d
 | .ow o=>some o.d
 | _=>none
@[simp] theorem LL (d:D):F5 (.sh d) = some d:=rfl
@[simp] theorem LK (o:O):F5 (.ow o) = some o.d:=rfl
@[simp] noncomputable def Ha (i:Nat):XE:=fun ρ=>(ρ[i]?).bind F5
theorem GC (i:Nat):SQ K (ul i) (Ha i):=fun ρ σ S H Q d r x k=>by
 obtain ⟨s,q,x⟩:=bind_some x
 cases s with
 | un=>cases x
 | lo=>cases x
 | sh d'=>
  cases x
  obtain ⟨v,h1,h2⟩:=r.sh i _ q
  exact ⟨v,h1,k v S H (Ext.refl r.sub) (h2.mono r.sub)⟩
 | ow o=>
  cases x
  obtain ⟨v,fp,h1,h2,h3,h4⟩:=r.ow i _ q
  exact ⟨_,h1,k _ S H (Ext.refl r.sub) (h2.denH r.sub)⟩
@[simp] noncomputable def xC (d:D):XE:=fun _=>some d
noncomputable def k9:D -> Option V
 | .non=>some .non | .bl b=>some (.bl b) | .int i=>some (.int i) | .str x=>some (.str x) | .ty x=>some (.ty x) | _=>none
theorem jC {d:D} {v:V} (h:k9 d = some v):Den K S d v:=by
 cases d <;> simp [k9] at h <;> subst h <;> unfold Den <;> rfl
theorem aQ {v:V} {d:D} (h:k9 d = some v):SE K (tC v) (xC d):=fun ρ σ S H Q e r x k=>by
 cases x
 exact k v S H (Ext.refl r.sub) (jC h)
@[simp] noncomputable def M3 (e:XE):XE:=fun ρ=>(e ρ).bind fun d=>if (k9 d).isSome then some d else none
theorem Hx {d:D} {v w:V} (h:k9 d = some w) (k:Den K S d v):v = w:=by
 cases d <;> simp [k9] at h <;> subst h <;> unfold Den at k <;> exact k
theorem SQ.fl {t:TE} {e:XE} (h:SQ K t e):SE K t (M3 e):=fun ρ σ S H Q d r x k=>by
 unfold M3 at x
 cases q:e ρ with
 | none=>rw [q] at x;cases x
 | some d'=>
  rw [q] at x
  dsimp only [Option.bind] at x
  split at x
  ·rename_i hf
   cases x
   obtain ⟨w,hw⟩:=Option.isSome_iff_exists.mp hf
   refine h ρ σ S H Q d r q fun v S' H' z dv=>k v S' H' z ?_
   rw [Hx hw dv]
   exact jC hw
  ·cases x
@[simp] noncomputable def aF (f:D -> D -> Option D) (a b:XE):XE:=fun ρ=>(a ρ).bind fun x=>(b ρ).bind fun y=>f x y
def uv (K:W.Frag) (r:R2) (f:D -> D -> Option D):Prop:=∀ S H x y d e g (Q:VK),Same S H -> DenP K S H d x -> DenP K S H e y -> f d e = some g -> (∀ v S' H',Ext S H S' H' -> Den K S' g v -> Q v H') -> r x y H Q
theorem av {r:R2} {f:D -> D -> Option D} {ta tb:TE} {a b:XE} (hr:uv K r f) (ha:SPk K ta a) (hb:SPk K tb b):SE K (KO r ta tb) (aF f a b):=fun ρ σ S H Q d r x k=>by
 obtain ⟨da,qa,x⟩:=bind_some x
 obtain ⟨db,qb,x⟩:=bind_some x
 refine ha ρ σ S H _ da r qa fun v S1 H1 z1 d1=>?_
 have r1:=r.ext z1
 refine hb ρ σ S1 H1 _ db r1 qb fun w S2 H2 z2 d2=>?_
 exact hr S2 H2 v w da db d Q z2.sub (d1.mono z2 r1.sub) d2 x fun u S3 H3 z3 d3=>k u S3 H3 ((z1.trans z2).trans z3) d3
theorem Cg {S2 H3 S3:Hp} (s:Same S H) (z:Ext H H S3 H3):Ext S H S H3:=⟨Same.refl _,fun b u e=>z.sub b u (z.sh b u (s b u e)),fun b o h n=>⟨z.sub b o (z.sh b o h),.inl n⟩⟩
theorem Gz {r:R2} {f:D -> D -> Option D} {ta tb:TE} {a b:XE} (hr:uv K r f) (ha:SQ K ta a) (hb:SQ K tb b):SQ K (KO r ta tb) (aF f a b):=fun ρ σ S H Q d r x k=>by
 obtain ⟨da,qa,x⟩:=bind_some x
 obtain ⟨db,qb,x⟩:=bind_some x
 refine ha ρ σ S H _ da r qa fun v S1 H1 z1 d1=>?_
 have r1:=r.ext z1
 refine hb ρ σ S1 H1 _ db r1 qb fun w S2 H2 z2 d2=>?_
 exact hr H2 H2 v w da db d Q (Same.refl _) (.inl (d1.mono (z2.same r1.sub))) (.inl d2) x fun u S3 H3 z3 d3=>k u S2 H3 ((z1.trans z2).trans (Cg (S2:=S2) z2.sub z3)) (d3.mono z3.sub)
@[simp] noncomputable def x5 (f:D -> Option D) (a:XE):XE:=fun ρ=>(a ρ).bind f
def N9 (K:W.Frag) (r:V -> Hp -> VK -> Prop) (f:D -> Option D):Prop:=∀ S H x d g (Q:VK),Same S H -> DenP K S H d x -> f d = some g -> (∀ v S' H',Ext S H S' H' -> Den K S' g v -> Q v H') -> r x H Q
theorem oY {r:V -> Hp -> VK -> Prop} {f:D -> Option D} {ta:TE} {a:XE} (hr:N9 K r f) (ha:SPk K ta a):SE K (Ow r ta) (x5 f a):=fun ρ σ S H Q d r x k=>by
 obtain ⟨da,qa,x⟩:=bind_some x
 refine ha ρ σ S H _ da r qa fun v S1 H1 z1 d1=>?_
 exact hr S1 H1 v da d Q z1.sub d1 x fun u S3 H3 z3 d3=>k u S3 H3 (z1.trans z3) d3
@[simp] noncomputable def az:XA:=fun _=>some []
@[simp] noncomputable def ag (a:XE) (b:XA):XA:=fun ρ=>(a ρ).bind fun x=>(b ρ).bind fun y=>some (x :: y)
theorem aw:SA K kG az:=fun ρ σ S H Q ds r x k=>by cases x;exact k [] S H (Ext.refl r.sub) .nil
theorem bC:Li K kG az:=fun ρ σ S H Q ds r x k=>by cases x;exact k [] S H (Ext.refl r.sub) .nil
theorem iE {a:XE} {b:XA} {ρ:Env} {ds:List D} (x:ag a b ρ = some ds):∃ d r,a ρ = some d /\ b ρ = some r /\ ds = d :: r:=by
 unfold ag at x
 cases qa:a ρ with
 | none=>rw [qa] at x;cases x
 | some da=>
  rw [qa] at x
  dsimp only [Option.bind] at x
  cases qb:b ρ with
  | none=>rw [qb] at x;cases x
  | some db=>rw [qb] at x;cases x;exact ⟨_,_,rfl,rfl,rfl⟩
theorem ah {ta:TE} {tr:TA} {a:XE} {b:XA} (ha:SE K ta a) (hb:SA K tr b):SA K (eN ta tr) (ag a b):=fun ρ σ S H Q ds r x k=>by
 obtain ⟨da,db,qa,qb,rfl⟩:=iE x
 refine ha ρ σ S H _ da r qa fun v S1 H1 z1 d1=>hb ρ σ S1 H1 _ db (r.ext z1) qb fun vs S2 H2 z2 d2=>k _ S2 H2 (z1.trans z2) (.cons (d1.mono z2.sh) d2)
theorem a8 {ta:TE} {tr:TA} {a:XE} {b:XA} (ha:SPk K ta a) (hb:Li K tr b):Li K (eN ta tr) (ag a b):=fun ρ σ S H Q ds r x k=>by
 obtain ⟨da,db,qa,qb,rfl⟩:=iE x
 refine ha ρ σ S H _ da r qa fun v S1 H1 z1 d1=>hb ρ σ S1 H1 _ db (r.ext z1) qb fun vs S2 H2 z2 d2=>k _ S2 H2 (z1.trans z2) (.cons (d1.mono z2 (r.ext z1).sub) d2)
@[irreducible] noncomputable def cG:Nat:=1000000
theorem kj:cG < sizeLine:=by rw [sizeLine_eq];unfold cG;decide
@[simp] noncomputable def bE (a:XA):XE:=fun ρ=>(a ρ).bind fun l=>if l.length <= cG then some (.tup l) else none
theorem bP {t:TA} {a:XA} (h:SA K t a):SE K (KP t) (bE a):=fun ρ σ S H Q d r x k=>by
 obtain ⟨l,q,x⟩:=bind_some x
 split at x
 ·rename_i hl
  cases x
  refine h ρ σ S H _ l r q fun vs S1 H1 z1 d1=>⟨?_,fun p hp=>?_⟩
  ·rw [<- d1.length];exact Nat.le_of_lt (Nat.lt_of_le_of_lt hl kj)
  ·have z2:=Ext.new (o:=.tup vs) z1.sub hp
   exact k _ _ _ (z1.trans z2) (den_tup.mpr ⟨p,vs,rfl,TpA.of a7,d1.mono z2.sh⟩)
 ·cases x
@[simp] noncomputable def g6 (a:XA):XA:=fun ρ=>(a ρ).bind fun l=>if l.length <= cG then some l else none
theorem fb {t:TA} {a:XA} (h:SA K t a):SF K (EC t) (g6 a):=fun ρ σ S H Q l r x k=>by
 obtain ⟨l,q,x⟩:=bind_some x
 split at x
 ·rename_i hl
  cases x
  refine h ρ σ S H _ l r q fun vs S1 H1 z1 d1=>⟨?_,fun p hp=>?_⟩
  ·rw [<- d1.length];exact Nat.le_of_lt (Nat.lt_of_le_of_lt hl kj)
  ·have hp0:H p = none:=(z1.same r.sub).free hp
   exact k p vs S1 _ (z1.trans (Ext.own z1.sub hp)) hp0 (z1.sub.free hp) a7 d1
 ·cases x
@[simp] noncomputable def pf (f:List D -> Option D) (a:XA):XE:=fun ρ=>(a ρ).bind f
def JG (K:W.Frag) (r:List V -> Hp -> VK -> Prop) (f:List D -> Option D):Prop:=∀ S H vs ds g (Q:VK),Same S H -> DensP K S H ds vs -> f ds = some g -> (∀ v S' H',Ext S H S' H' -> Den K S' g v -> Q v H') -> r vs H Q
theorem gB {r:List V -> Hp -> VK -> Prop} {f:List D -> Option D} {t:TA} {a:XA} (hr:JG K r f) (h:Li K t a):SE K (Mm r t) (pf f a):=fun ρ σ S H Q d rl x k=>by
 obtain ⟨ds,q,x⟩:=bind_some x
 refine h ρ σ S H _ ds rl q fun vs S1 H1 z1 d1=>?_
 exact hr S1 H1 vs ds d Q z1.sub d1 x fun v S2 H2 z2 d2=>k v S2 H2 (z1.trans z2) d2
@[simp] noncomputable def G6 (f:List D -> Option (List D)) (a:XA):XA:=fun ρ=>(a ρ).bind f
def M8 (K:W.Frag) (r:List V -> Hp -> VK -> Prop) (f:List D -> Option (List D)):Prop:=∀ S H vs ds g (Q:VK),Same S H -> DensP K S H ds vs -> f ds = some g -> (∀ a xs H',Ext S H S H' -> H a = none -> H' a = some (.lst xs) -> Dens K S g xs -> Q (.ref a) H') -> r vs H Q
theorem CN {r:List V -> Hp -> VK -> Prop} {f:List D -> Option (List D)} {t:TA} {a:XA} (hr:M8 K r f) (h:Li K t a):SF K (Mm r t) (G6 f a):=fun ρ σ S H Q d rl x k=>by
 obtain ⟨ds,q,x⟩:=bind_some x
 refine h ρ σ S H _ ds rl q fun vs S1 H1 z1 d1=>?_
 exact hr S1 H1 vs ds d Q z1.sub d1 x fun b xs H2 z2 h1 h2 d2=>k b xs S1 H2 (z1.trans z2) ((z1.same rl.sub).free h1) (z1.sub.free h1) h2 d2
def STr (K:W.Frag) (t:TE) (e:Env -> Option O):Prop:=∀ ρ σ S H (Q:VK) o,Rl K ρ σ S H -> e ρ = some o -> (∀ v fp S' H',Ext S H S' H' -> Own K S' H' o v fp -> fp.Nodup -> (∀ b ∈ fp,H b = none /\ S' b = none) -> Q v H') -> t σ H Q
@[simp] noncomputable def K0 (e:XA):Env -> Option O:=fun ρ=>(e ρ).map fun l=>.lst (l.map .sh)
theorem SF.t {t:TE} {e:XA} (h:SF K t e):STr K t (K0 e):=fun ρ σ S H Q o r x k=>by
 unfold K0 at x
 cases q:e ρ with
 | none=>rw [q] at x;cases x
 | some l=>
  rw [q] at x
  cases x
  refine h ρ σ S H Q l r q fun a xs S' H' z h1 h2 h3 h4=>?_
  refine k _ [a] S' H' z (own_lst.mpr ⟨a,xs,[],rfl,rfl,h3,rE h4⟩) (by simp) fun b hb=>?_
  rw [List.mem_singleton.mp hb]
  exact ⟨h1,h2⟩
@[simp] noncomputable def G8 (e:XE):Env -> Option O:=fun ρ=>(e ρ).map .sh
theorem SE.t {t:TE} {e:XE} (h:SE K t e):STr K t (G8 e):=fun ρ σ S H Q o r x k=>by
 unfold G8 at x
 cases q:e ρ with
 | none=>rw [q] at x;cases x
 | some d=>
  rw [q] at x
  cases x
  exact h ρ σ S H Q d r q fun v S' H' z dv=>k v [] S' H' z (own_sh.mpr ⟨rfl,dv⟩) .nil fun b hb=>by cases hb
noncomputable def w8 (S H:Hp) (fp:List Addr):Hp:=fun b=>if b ∈ fp then H b else S b
theorem rq {fp:List Addr} {b:Addr} (h:b ∈ fp):w8 S H fp b = H b:=by unfold w8;rw [if_pos h]
theorem lf {fp:List Addr} {b:Addr} (h:b ∉ fp):w8 S H fp b = S b:=by unfold w8;rw [if_neg h]
theorem lZ {fp:List Addr} (n:∀ b ∈ fp,S b = none):Same S (w8 S H fp):=fun b o e=>by
 rw [lf fun hb=>by rw [n b hb] at e;cases e]
 exact e
theorem yL {fp:List Addr} (s:Same S H):Same (w8 S H fp) H:=fun b o e=>by
 by_cases hb:b ∈ fp
 ·rw [rq hb] at e;exact e
 ·rw [lf hb] at e;exact s b o e
theorem yK {fp:List Addr} (z:Ext S H S' H') (n:∀ b ∈ fp,H b = none /\ S' b = none):Ext S H (w8 S' H' fp) H':=
 ⟨z.sh.trans (lZ fun b hb=>(n b hb).2),yL z.sub,fun b o h hn=>⟨(z.alw b o h hn).1,by rw [lf fun hb=>by rw [(n b hb).1] at h;cases h];exact (z.alw b o h hn).2⟩⟩
@[simp] noncomputable def NV (e:Env -> Option O):XE:=fun ρ=>(e ρ).map O.d
theorem STr.e {t:TE} {e:Env -> Option O} (h:STr K t e):SE K t (NV e):=fun ρ σ S H Q d r x k=>by
 unfold NV at x
 cases q:e ρ with
 | none=>rw [q] at x;cases x
 | some o=>
  rw [q] at x
  cases x
  exact h ρ σ S H Q o r q fun v fp S' H' z ow nd n=>k v _ H' (yK z n) (ow.den (lZ fun b hb=>(n b hb).2) fun b hb=>rq hb)
noncomputable def gH (K:W.Frag) (n:Nat) (m:List D -> Option O):Sp:=fun vs H Q _=>vs.length = n /\ ∃ S ds o,Same S H /\ Dens K S ds vs /\ m ds = some o /\ ∀ v fp S' H',Ext S H S' H' -> Own K S' H' o v fp -> fp.Nodup -> (∀ b ∈ fp,H b = none /\ S' b = none) -> Q v H'
@[simp] noncomputable def BL (m:List D -> Option O) (a:XA):Env -> Option O:=fun ρ=>(a ρ).bind m
theorem CM {n:Nat} {m:List D -> Option O} {E:XK} {t:TA} {a:XA} (h:SA K t a) (hn:∀ ρ ds,a ρ = some ds -> ds.length = n):STr K (wj (gH K n m) [] E t) (BL m a):=fun ρ σ S H Q o rl x k=>by
 obtain ⟨ds,q,x⟩:=bind_some x
 refine h ρ σ S H _ ds rl q fun vs S1 H1 z1 d1=>?_
 rw [List.append_nil]
 refine ⟨by rw [<- d1.length];exact hn ρ ds q,S1,ds,o,z1.sub,d1,x,fun v fp S2 H2 z2 ow nd n=>k v fp S2 H2 (z1.trans z2) ow nd fun b hb=>⟨(z1.same rl.sub).free (n b hb).1,(n b hb).2⟩⟩
@[simp] noncomputable def bB (m:List D -> Option D) (a:XA):XE:=fun ρ=>(a ρ).bind m
theorem bA {n:Nat} {m:List D -> Option O} {E:XK} {t:TA} {a:XA} (h:SA K t a) (hn:∀ ρ ds,a ρ = some ds -> ds.length = n):SE K (wj (gH K n m) [] E t) (bB (fun ds=>(m ds).map O.d) a):=by
 have:=(CM (m:=m) (E:=E) h hn).e
 have e:NV (BL m a) = bB (fun ds=>(m ds).map O.d) a:=by
  funext ρ
  show ((a ρ).bind m).map O.d = (a ρ).bind fun ds=>(m ds).map O.d
  cases a ρ <;> rfl
 rw [e] at this
 exact this
def MF (K:W.Frag) (t:TA) (e:XA):Prop:=∀ ρ σ S H (Q:List V -> Hp -> Prop) ds,Rl K ρ σ S H -> e ρ = some ds -> (∀ vs S' H',Ext S H S' H' -> Dens K H' ds vs -> Q vs H') -> t σ H Q
theorem KI:MF K kG az:=fun ρ σ S H Q ds r x k=>by cases x;exact k [] S H (Ext.refl r.sub) .nil
theorem xR {ta:TE} {tr:TA} {a:XE} {b:XA} (ha:SQ K ta a) (hb:MF K tr b):MF K (eN ta tr) (ag a b):=fun ρ σ S H Q ds r x k=>by
 obtain ⟨da,db,qa,qb,rfl⟩:=iE x
 refine ha ρ σ S H _ da r qa fun v S1 H1 z1 d1=>hb ρ σ S1 H1 _ db (r.ext z1) qb fun vs S2 H2 z2 d2=>k _ S2 H2 (z1.trans z2) (.cons (d1.mono (z2.same (r.ext z1).sub)) d2)
@[simp] noncomputable def NR (m:List D -> Option D) (a:XA):XE:=fun ρ=>((a ρ).bind m).bind fun d=>if (k9 d).isSome then some d else none
def Lj (K:W.Frag) (t:TA) (e:Env -> Option (List O)):Prop:=∀ ρ σ S H (Q:List V -> Hp -> Prop) os,Rl K ρ σ S H -> e ρ = some os -> (∀ vs fp S' H',Ext S H S' H' -> Owns K S' H' os vs fp -> fp.Nodup -> (∀ b ∈ fp,H b = none /\ S' b = none) -> Q vs H') -> t σ H Q
@[simp] noncomputable def G7:Env -> Option (List O):=fun _=>some []
@[simp] noncomputable def BM (a:Env -> Option O) (b:Env -> Option (List O)):Env -> Option (List O):=fun ρ=>(a ρ).bind fun x=>(b ρ).bind fun y=>some (x :: y)
theorem GQ:Lj K kG G7:=fun ρ σ S H Q ds r x k=>by cases x;exact k [] [] S H (Ext.refl r.sub) .nil .nil fun _ hb=>by cases hb
theorem CS {ta:TE} {tr:TA} {a:Env -> Option O} {b:Env -> Option (List O)} (ha:STr K ta a) (hb:Lj K tr b):Lj K (eN ta tr) (BM a b):=fun ρ σ S H Q os r x k=>by
 obtain ⟨oa,qa,x⟩:=bind_some x
 obtain ⟨ob,qb,x⟩:=bind_some x
 cases x
 refine ha ρ σ S H _ oa r qa fun v fp S1 H1 z1 o1 nd1 n1=>hb ρ σ S1 H1 _ ob (r.ext z1) qb fun vs fq S2 H2 z2 o2 nd2 n2=>?_
 obtain ⟨k1,k2⟩:=z2.keeps (fun b hb=>(n1 b hb).2) o1.there o1.nit
 refine k _ _ S2 H2 (z1.trans z2) (.cons (o1.mono z2.sh k1) o2) ?_ fun c hc=>?_
 ·refine List.nodup_append.mpr ⟨nd1,nd2,fun c hc d hd e=>?_⟩
  subst e
  exact o1.there c hc (n2 c hd).1
 ·rcases List.mem_append.mp hc with hc | hc
  ·exact ⟨(n1 c hc).1,k2 c hc⟩
  ·exact ⟨(z1.same r.sub).free (n2 c hc).1,(n2 c hc).2⟩
@[simp] noncomputable def jK:List O -> Bool
 | []=>true
 | .sh (.int _) :: l=>jK l
 | .hd _ _ _ :: l=>jK l
 | _ :: _=>false
@[simp] noncomputable def JB (a:Env -> Option (List O)):Env -> Option O:=fun ρ=>(a ρ).bind fun l=>if l.length <= cG /\ jK l = false then some (.tup l) else none
theorem AK {d:D} {k:Int} (h:Den K S d (.int k)):d = .int k:=by
 cases d <;> unfold Den at h <;> first | (cases h;rfl) | (cases h;done) | (obtain ⟨_,h,_⟩:=h;cases h;done) | (obtain ⟨_,_,h,_⟩:=h;cases h;done) | (obtain ⟨_,_,_,h,_⟩:=h;cases h;done) | (obtain ⟨_,_,_,_,h,_⟩:=h;cases h;done)
theorem zq:∀ {l:List O} {xs:List V} {fp:List Addr} {ks:List Int},Owns K S H l xs fp -> xs = ks.map V.int -> jK l = true
 | [],_,_,_,_,_=>rfl
 | o :: l,_,_,ks,h,e=>by
  obtain ⟨y,ys,f,g,rfl,rfl,a,b⟩:=h.cons_of
  cases ks with
  | nil=>cases e
  | cons k ks=>
   rw [List.map_cons] at e
   cases e
   have ih:=zq b rfl
   cases o with
   | sh d=>
    obtain ⟨_,d1⟩:=own_sh.mp a
    have:d = .int k:=AK d1
    subst this
    unfold jK
    exact ih
   | lst _=>obtain ⟨_,_,_,e,_⟩:=own_lst.mp a;cases e
   | tup _=>obtain ⟨_,_,_,e,_⟩:=own_tup.mp a;cases e
   | dic _=>obtain ⟨_,e,_⟩:=own_dic.mp a;cases e
   | hd p q os=>
    unfold jK
    exact ih
@[simp] noncomputable def JA (a:Env -> Option (List O)):Env -> Option O:=fun ρ=>(a ρ).bind fun l=>if l.length <= cG then some (.lst l) else none
theorem wo {fp:List Addr} {p:Addr} {o:HO} (h:H p = none) (t:∀ b ∈ fp,H b ≠ none):(∀ b ∈ fp,d8 H p o b = H b) /\ p ∉ fp:=by
 have np:p ∉ fp:=fun hp=>t p hp h
 exact ⟨fun b hb=>aS fun e=>np (e ▸ hb),np⟩
theorem KC {t:TA} {a:Env -> Option (List O)} (h:Lj K t a):STr K (KP t) (JB a):=fun ρ σ S H Q o r x k=>by
 obtain ⟨l,q,x⟩:=bind_some x
 split at x
 ·rename_i hlc
  obtain ⟨hl,hc⟩:=hlc
  cases x
  refine h ρ σ S H _ l r q fun vs fp S1 H1 z1 o1 nd1 n1=>⟨?_,fun p hp=>?_⟩
  ·rw [<- o1.length];exact Nat.le_of_lt (Nat.lt_of_le_of_lt hl kj)
  ·obtain ⟨k1,k2⟩:=wo (o:=.tup vs) hp o1.there
   have nit:¬ IT (.tup vs):=fun hpt0=>by
    obtain ⟨ks,e⟩:=hpt0
    cases e
    rw [zq o1 rfl] at hc
    cases hc
   refine k _ (p :: fp) S1 _ (z1.trans (Ext.own z1.sub hp)) (own_tup.mpr ⟨p,vs,fp,rfl,rfl,⟨a7,nit⟩,o1.mono (Same.refl _) k1⟩) (List.nodup_cons.mpr ⟨k2,nd1⟩) fun b hb=>?_
   rcases List.mem_cons.mp hb with rfl | hb
   ·exact ⟨(z1.same r.sub).free hp,z1.sub.free hp⟩
   ·exact n1 b hb
 ·cases x
theorem Kz {t:TA} {a:Env -> Option (List O)} (h:Lj K t a):STr K (EC t) (JA a):=fun ρ σ S H Q o r x k=>by
 obtain ⟨l,q,x⟩:=bind_some x
 split at x
 ·rename_i hl
  cases x
  refine h ρ σ S H _ l r q fun vs fp S1 H1 z1 o1 nd1 n1=>⟨?_,fun p hp=>?_⟩
  ·rw [<- o1.length];exact Nat.le_of_lt (Nat.lt_of_le_of_lt hl kj)
  ·obtain ⟨k1,k2⟩:=wo (o:=.lst vs) hp o1.there
   refine k _ (p :: fp) S1 _ (z1.trans (Ext.own z1.sub hp)) (own_lst.mpr ⟨p,vs,fp,rfl,rfl,a7,o1.mono (Same.refl _) k1⟩) (List.nodup_cons.mpr ⟨k2,nd1⟩) fun b hb=>?_
   rcases List.mem_cons.mp hb with rfl | hb
   ·exact ⟨(z1.same r.sub).free hp,z1.sub.free hp⟩
   ·exact n1 b hb
 ·cases x
theorem aR {ρ:Env} {ds:List D} (h:az ρ = some ds):ds.length = 0:=by cases h;rfl
theorem aq {a:XE} {b:XA} {n:Nat} (h:∀ ρ ds,b ρ = some ds -> ds.length = n) (ρ:Env) (ds:List D) (x:ag a b ρ = some ds):ds.length = n + 1:=by
 obtain ⟨da,db,qa,qb,rfl⟩:=iE x
 rw [List.length_cons,h ρ db qb]
@[simp] noncomputable def qV (a b:XE):XE:=fun ρ=>(a ρ).bind fun x=>match x with | .bl true=>b ρ | .bl false=>some (.bl false) | _=>none
@[simp] noncomputable def PF (a b:XE):XE:=fun ρ=>(a ρ).bind fun x=>match x with | .bl true=>some (.bl true) | .bl false=>b ρ | _=>none
@[simp] noncomputable def OY (a:XE):XE:=fun ρ=>(a ρ).bind fun x=>match x with | .bl c=>some (.bl (!c)) | _=>none
theorem xJ {ta tb:TE} {a b:XE} (ha:SPk K ta a) (hb:SE K tb b):SE K (Ju ta tb) (qV a b):=fun ρ σ S H Q d r x k=>by
 obtain ⟨da,qa,x⟩:=bind_some x
 refine ha ρ σ S H _ da r qa fun v S1 H1 z1 d1=>?_
 split at x
 ·exact ⟨true,d1.bl,yQ (hb ρ σ S1 H1 Q d (r.ext z1) x fun w S2 H2 z2 d2=>k w S2 H2 (z1.trans z2) d2)⟩
 ·cases x
  exact ⟨false,d1.bl,yP (k _ S1 H1 z1 (den_bl.mpr rfl))⟩
 ·cases x
@[simp] noncomputable def KZ (c:XT) (a b:XE):XE:=fun ρ=>(c ρ).bind fun q=>if q = true then a ρ else b ρ
theorem L9 {tc:TT} {ta tb:TE} {c:XT} {a b:XE} (hc:ST K tc c) (ha:SE K ta a) (hb:SE K tb b):SE K (Ot tc ta tb) (KZ c a b):=fun ρ σ S H Q d r x k=>by
 obtain ⟨q,qc,x⟩:=bind_some x
 refine hc ρ σ S H _ q r qc fun S1 H1 z1=>?_
 cases q with
 | true=>exact yQ (ha ρ σ S1 H1 Q d (r.ext z1) (by simpa using x) fun w S2 H2 z2 d2=>k w S2 H2 (z1.trans z2) d2)
 | false=>exact yP (hb ρ σ S1 H1 Q d (r.ext z1) (by simpa using x) fun w S2 H2 z2 d2=>k w S2 H2 (z1.trans z2) d2)
@[simp] noncomputable def xB (a:XE):XT:=fun ρ=>(a ρ).bind fun x=>match x with | .bl c=>some c | _=>none
theorem Pn {ta:TE} {a:XE} (ha:SPk K ta a):ST K (tB ta) (xB a):=fun ρ σ S H Q b r x k=>by
 obtain ⟨da,qa,x⟩:=bind_some x
 refine ha ρ σ S H _ da r qa fun v S1 H1 z1 d1=>?_
 split at x
 ·cases x
  exact ⟨_,d1.bl,k S1 H1 z1⟩
 ·cases x
theorem bi {ta:TE} {a:XE} (ha:SPk K ta a):ST K (Jx ta) (xB a):=Pn ha
noncomputable def Ah:D -> Option Bool
 | .non=>some false
 | .bl b=>some b
 | .int i=>some (i != 0)
 | .str y=>if y.length <= cG then some ((y.length:Int) != 0) else none
 | .lst l=>some (!l.isEmpty)
 | .tup l=>some (!l.isEmpty)
 | .scr l=>some (!l.isEmpty)
 | _=>none
theorem m7 {ds:List D} {xs:List V} (h:Dens K S ds xs):(!ds.isEmpty) = !xs.isEmpty:=by
 have:=h.length
 cases ds <;> cases xs <;> simp_all
@[simp] noncomputable def rk (a:XE):XT:=fun ρ=>(a ρ).bind Ah
theorem G1 {d:D} {v:V} {b:Bool} (s:Same S H) (h:DenP K S H d v) (x:Ah d = some b):EW K v H b:=by
 cases d with
 | non=>rw [h.non];cases x;rfl
 | bl c=>rw [h.bl];cases x;rfl
 | int i=>rw [h.int];cases x;rfl
 | str y=>
  rw [h.str]
  have x':(if y.length <= cG then some ((y.length:Int) != 0) else none) = some b:=x
  split at x'
  ·rename_i hl;cases x';exact ⟨Nat.le_of_lt (Nat.lt_of_le_of_lt hl kj),rfl⟩
  ·cases x'
 | lst l=>
  obtain ⟨p,xs,rfl,h1,h2⟩:=h.lst s
  cases x
  exact .inl ⟨xs,.inl h1,m7 h2⟩
 | tup l=>
  obtain ⟨p,xs,rfl,h1,h2⟩:=h.tup s
  cases x
  exact .inr (.inl ⟨xs,h1,m7 h2⟩)
 | scr l=>
  obtain ⟨p,xs,rfl,h1,h2⟩:=h.scr s
  cases x
  exact .inl ⟨xs,h1,m7 h2⟩
 | _=>cases x
end
end M
namespace M
open PySem L2
section
variable {K:W.Frag} {S S' H H':Hp}
theorem Ma {ta:TE} {a:XE} (ha:SPk K ta a):ST K (fun σ H Q=>ta σ H fun x H'=>∃ k,EW K x H' k /\ Q k H') (rk a):=fun ρ σ S H Q b r x k=>by
 obtain ⟨da,qa,x⟩:=bind_some x
 exact ha ρ σ S H _ da r qa fun v S1 H1 z1 d1=>⟨b,G1 z1.sub d1 x,k S1 H1 z1⟩
@[simp] noncomputable def EL (a b:XT):XT:=fun ρ=>(a ρ).bind fun x=>if x = true then b ρ else some false
@[simp] noncomputable def K9 (a b:XT):XT:=fun ρ=>(a ρ).bind fun x=>if x = true then some true else b ρ
@[simp] noncomputable def EM (a:XT):XT:=fun ρ=>(a ρ).map fun x=>!x
theorem zU {ta tb:TT} {a b:XT} (ha:ST K ta a) (hb:ST K tb b):ST K (Mj ta tb) (EL a b):=fun ρ σ S H Q d r x k=>by
 obtain ⟨q,qa,x⟩:=bind_some x
 refine ha ρ σ S H _ q r qa fun S1 H1 z1=>?_
 cases q with
 | true=>exact yQ (hb ρ σ S1 H1 Q d (r.ext z1) (by simpa using x) fun S2 H2 z2=>k S2 H2 (z1.trans z2))
 | false=>
  have:d = false:=by simpa using x.symm
  subst this
  exact yP (k S1 H1 z1)
theorem GA {ta tb:TT} {a b:XT} (ha:ST K ta a) (hb:ST K tb b):ST K (Ou ta tb) (K9 a b):=fun ρ σ S H Q d r x k=>by
 obtain ⟨q,qa,x⟩:=bind_some x
 refine ha ρ σ S H _ q r qa fun S1 H1 z1=>?_
 cases q with
 | false=>exact yP (hb ρ σ S1 H1 Q d (r.ext z1) (by simpa using x) fun S2 H2 z2=>k S2 H2 (z1.trans z2))
 | true=>
  have:d = true:=by simpa using x.symm
  subst this
  exact yQ (k S1 H1 z1)
theorem CP {ta:TT} {a:XT} (ha:ST K ta a):ST K (Mo ta) (EM a):=fun ρ σ S H Q d r x k=>by
 unfold EM at x
 cases qa:a ρ with
 | none=>rw [qa] at x;cases x
 | some q=>
  rw [qa] at x
  cases x
  exact ha ρ σ S H _ q r qa k
inductive Out where
 | nx (ρ:Env) | rt (d:D) | ro (o:O) | bk (ρ:Env) | ct (ρ:Env)
noncomputable abbrev XS:=Env -> Option Out
noncomputable def Done (K:W.Frag) (A:Hp) (Λ:Nat -> Option Addr) (S:Hp) (E:Ends):Out -> Prop
 | .nx ρ=>∀ σ' S' H',RlA K A Λ ρ σ' S' H' -> Same S S' -> E.nx σ' H'
 | .bk ρ=>∀ σ' S' H',RlA K A Λ ρ σ' S' H' -> Same S S' -> E.bk σ' H'
 | .ct ρ=>∀ σ' S' H',RlA K A Λ ρ σ' S' H' -> Same S S' -> E.ct σ' H'
 | .rt d=>∀ v S' H',Same S S' -> Same S' H' -> Same A H' -> (∀ b,S' b = none \/ A b = none \/ ∃ u,A b = some u /\ IT u) -> Den K S' d v -> E.rt v H'
 | .ro o=>∀ v fp S' H',Same S S' -> Same S' H' -> Same A H' -> (∀ b,S' b = none \/ A b = none \/ ∃ u,A b = some u /\ IT u) -> Own K S' H' o v fp -> fp.Nodup -> (∀ b ∈ fp,S' b = none /\ A b = none) -> E.rt v H'
theorem Done.mono {A:Hp} {Λ:Nat -> Option Addr} {E:Ends} {o:Out} (s:Same S S') (h:Done K A Λ S E o):Done K A Λ S' E o:=by
 cases o with
 | nx ρ=>exact fun σ1 S1 H1 r z=>h σ1 S1 H1 r (s.trans z)
 | bk ρ=>exact fun σ1 S1 H1 r z=>h σ1 S1 H1 r (s.trans z)
 | ct ρ=>exact fun σ1 S1 H1 r z=>h σ1 S1 H1 r (s.trans z)
 | rt d=>exact fun v S1 H1 z=>h v S1 H1 (s.trans z)
 | ro d=>exact fun v fp S1 H1 z=>h v fp S1 H1 (s.trans z)
def SS (K:W.Frag) (t:TS) (m:XS):Prop:=∀ A Λ ρ σ S H (E:Ends) o,RlA K A Λ ρ σ S H -> m ρ = some o -> Done K A Λ S E o -> t E σ H
@[simp] noncomputable def dM:XS:=fun ρ=>some (.nx ρ)
theorem cS:SS K C0 dM:=fun A Λ ρ σ S H E o r x k=>by cases x;exact k σ S H r (Same.refl _)
@[simp] noncomputable def NQ:XS:=fun ρ=>some (.bk ρ)
@[simp] noncomputable def OQ:XS:=fun ρ=>some (.ct ρ)
@[simp] noncomputable def BN:XS:=fun _=>none
theorem CO {t:TS}:SS K t BN:=fun A Λ ρ σ S H E o r x k=>by cases x
@[simp] noncomputable def aX (m n:XS):XS:=fun ρ=>match m ρ with | some (.nx ρ')=>n ρ' | o=>o
theorem aI {t u:TS} {m n:XS} (ht:SS K t m) (hu:SS K u n):SS K (IR t u) (aX m n):=fun A Λ ρ σ S H E o r x k=>by
 unfold aX at x
 cases q:m ρ with
 | none=>rw [q] at x;cases x
 | some om=>
  rw [q] at x
  refine ht A Λ ρ σ S H _ om r q ?_
  cases om with
  | nx ρ'=>exact fun σ' S' H' r' z=>hu A Λ ρ' σ' S' H' E o r' x (k.mono z)
  | rt d=>cases x;exact k
  | ro d=>cases x;exact k
  | bk d=>cases x;exact k
  | ct d=>cases x;exact k
@[simp] noncomputable def fe (e:XE):XS:=fun ρ=>(e ρ).map .rt
theorem df {te:TE} {e:XE} (h:SE K te e):SS K (IQ te) (fe e):=fun A Λ ρ σ S H E o r x k=>by
 unfold fe at x
 cases q:e ρ with
 | none=>rw [q] at x;cases x
 | some d=>
  rw [q] at x
  cases x
  refine h ρ σ S H _ d r.toRl q fun v S1 H1 z1 d1=>?_
  have r1:=r.ext z1
  exact k v S1 H1 z1.sh z1.sub r1.asub r1.adis d1
@[simp] noncomputable def ww (e:Env -> Option O):XS:=fun ρ=>(e ρ).map .ro
theorem xN {te:TE} {e:Env -> Option O} (h:STr K te e):SS K (IQ te) (ww e):=fun A Λ ρ σ S H E o r x k=>by
 unfold ww at x
 cases q:e ρ with
 | none=>rw [q] at x;cases x
 | some ot=>
  rw [q] at x
  cases x
  refine h ρ σ S H _ ot r.toRl q fun v fp S1 H1 z1 o1 nd n=>?_
  have r1:=r.ext z1
  exact k v fp S1 H1 z1.sh z1.sub r1.asub r1.adis o1 nd fun b hb=>⟨(n b hb).2,r.asub.free (n b hb).1⟩
@[simp] noncomputable def Aj (i:Nat):XS:=fun ρ=>match ρ[i]? with | some (.sh d)=>some (.rt d) | some (.ow o)=>some (.ro o) | _=>none
theorem Bs (i:Nat):SS K (IQ (ul i)) (Aj i):=fun A Λ ρ σ S H E o r x k=>by
 unfold Aj at x
 cases q:ρ[i]? with
 | none=>rw [q] at x;cases x
 | some s=>
  rw [q] at x
  obtain ⟨Φ,f⟩:=r
  cases s with
  | un=>cases x
  | lo=>cases x
  | sh d=>
   cases x
   obtain ⟨v,h1,h2⟩:=f.sh i d q
   exact ⟨v,h1,k v S H (Same.refl _) f.sub f.asub f.adis h2⟩
  | ow ot=>
   cases x
   obtain ⟨v,h1,h2,h3,h4⟩:=f.ow i ot q
   exact ⟨v,h1,k v _ S H (Same.refl _) f.sub f.asub f.adis h2 h3 h4⟩
@[simp] noncomputable def O0:XS:=fun _=>some (.rt .non)
@[simp] noncomputable def qw (c:XT) (m n:XS):XS:=fun ρ=>(c ρ).bind fun b=>if b = true then m ρ else n ρ
theorem gY {tc:TT} {t u:TS} {c:XT} {m n:XS} (hc:ST K tc c) (ht:SS K t m) (hu:SS K u n):SS K (KN tc t u) (qw c m n):=fun A Λ ρ σ S H E o r x k=>by
 obtain ⟨q,qc,x⟩:=bind_some x
 refine hc ρ σ S H _ q r.toRl qc fun S1 H1 z1=>?_
 cases q with
 | true=>exact yQ (ht A Λ ρ σ S1 H1 E o (r.ext z1) (by simpa using x) (k.mono z1.sh))
 | false=>exact yP (hu A Λ ρ σ S1 H1 E o (r.ext z1) (by simpa using x) (k.mono z1.sh))
theorem cF {α:Type} {l:List α} {i j:Nat} {x y:α} (h:(l.set i x)[j]? = some y):(i = j /\ y = x /\ i < l.length) \/ (i ≠ j /\ l[j]? = some y):=by
 by_cases hij:i = j
 ·subst hij
  have hl:=(List.getElem?_eq_some_iff.mp h).1
  rw [List.length_set] at hl
  rw [List.getElem?_set_self hl] at h
  exact .inl ⟨rfl,(Option.some.inj h).symm,hl⟩
 ·rw [List.getElem?_set_ne hij] at h
  exact .inr ⟨hij,h⟩
theorem RlF.set {A:Hp} {Λ:Nat -> Option Addr} {Φ:Nat -> List Addr} {ρ:Env} {σ:St} {d:D} {v:V} (r:RlF K A Λ Φ ρ σ S H) (i:Nat) (h:Den K S d v):RlF K A Λ Φ (ρ.set i (.sh d)) (σ.set i (some v)) S H where
 len:=by rw [List.length_set,List.length_set];exact r.len
 sub:=r.sub
 sh:=fun j e hj=>by
  rcases cF hj with ⟨rfl,e,hl⟩ | ⟨hij,hj⟩
  ·cases e
   exact ⟨v,List.getElem?_set_self (by rw [r.len];exact hl),h⟩
  ·rw [List.getElem?_set_ne hij]
   exact r.sh j e hj
 ow:=fun j o hj=>by
  rcases cF hj with ⟨rfl,e,hl⟩ | ⟨hij,hj⟩
  ·cases e
  ·rw [List.getElem?_set_ne hij]
   exact r.ow j o hj
 dj:=fun j k o o' hjk h1 h2=>by
  rcases cF h1 with ⟨rfl,e,hl⟩ | ⟨hij,h1⟩
  ·cases e
  ·rcases cF h2 with ⟨rfl,e,hl⟩ | ⟨hik,h2⟩
   ·cases e
   ·exact r.dj j k o o' hjk h1 h2
 lo:=fun j hj=>by
  rcases cF hj with ⟨rfl,e,hl⟩ | ⟨hij,hj⟩
  ·cases e
  ·rw [List.getElem?_set_ne hij]
   exact r.lo j hj
 asub:=r.asub
 adis:=r.adis
theorem RlA.set {A:Hp} {Λ:Nat -> Option Addr} {ρ:Env} {σ:St} {d:D} {v:V} (r:RlA K A Λ ρ σ S H) (i:Nat) (h:Den K S d v):RlA K A Λ (ρ.set i (.sh d)) (σ.set i (some v)) S H:=let ⟨Φ,f⟩:=r;⟨Φ,f.set i h⟩
theorem RlF.put {A:Hp} {Λ:Nat -> Option Addr} {Φ:Nat -> List Addr} {ρ:Env} {σ:St} {o:O} {v:V} {fp:List Addr} (r:RlF K A Λ Φ ρ σ S H) (i:Nat) (sub:Same S H') (asub:Same A H') (ow:Own K S H' o v fp) (nd:fp.Nodup) (n:∀ b ∈ fp,S b = none /\ A b = none)
  (keep:∀ (j:Nat) o',j ≠ i -> ρ[j]? = some (.ow o') -> ∀ b ∈ Φ j,H' b = H b /\ b ∉ fp):RlF K A Λ (fun j=>if j = i then fp else Φ j) (ρ.set i (.ow o)) (σ.set i (some v)) S H' where
 len:=by rw [List.length_set,List.length_set];exact r.len
 sub:=sub
 sh:=fun j e hj=>by
  rcases cF hj with ⟨rfl,e,hl⟩ | ⟨hij,hj⟩
  ·cases e
  ·rw [List.getElem?_set_ne hij]
   exact r.sh j e hj
 ow:=fun j o' hj=>by
  rcases cF hj with ⟨rfl,e,hl⟩ | ⟨hij,hj⟩
  ·cases e
   rw [if_pos rfl]
   exact ⟨v,List.getElem?_set_self (by rw [r.len];exact hl),ow,nd,n⟩
  ·rw [List.getElem?_set_ne hij,if_neg (Ne.symm hij)]
   obtain ⟨w,h1,h2,h3,h4⟩:=r.ow j o' hj
   exact ⟨w,h1,h2.mono (Same.refl _) fun b hb=>(keep j o' (Ne.symm hij) hj b hb).1,h3,h4⟩
 dj:=fun j k o1 o2 hjk h1 h2 b hb hb2=>by
  rcases cF h1 with ⟨rfl,e,hl⟩ | ⟨hij,h1⟩
  ·rcases cF h2 with ⟨rfl,e,hl⟩ | ⟨hik,h2⟩
   ·exact hjk rfl
   ·rw [if_pos rfl] at hb
    rw [if_neg (Ne.symm hik)] at hb2
    exact (keep k o2 (Ne.symm hik) h2 b hb2).2 hb
  ·rcases cF h2 with ⟨rfl,e,hl⟩ | ⟨hik,h2⟩
   ·rw [if_pos rfl] at hb2
    rw [if_neg (Ne.symm hij)] at hb
    exact (keep j o1 (Ne.symm hij) h1 b hb).2 hb2
   ·rw [if_neg (Ne.symm hij)] at hb
    rw [if_neg (Ne.symm hik)] at hb2
    exact r.dj j k o1 o2 hjk h1 h2 b hb hb2
 lo:=fun j hj=>by
  rcases cF hj with ⟨rfl,e,hl⟩ | ⟨hij,hj⟩
  ·cases e
  ·rw [List.getElem?_set_ne hij]
   exact r.lo j hj
 asub:=asub
 adis:=r.adis
theorem GF {α:Type} {l:List α} {i:Nat} {x:α} (h:l[i]? = some x):l.set i x = l:=by
 apply List.ext_getElem?
 intro j
 by_cases e:i = j
 ·subst e
  rw [List.getElem?_set_self (List.getElem?_eq_some_iff.mp h).1,h]
 ·rw [List.getElem?_set_ne e]
noncomputable def frz (i:Nat) (ρ:Env):Env:=match ρ[i]? with | some (.ow o)=>ρ.set i (.sh o.d) | _=>ρ
theorem RlA.frz {A:Hp} {Λ:Nat -> Option Addr} {ρ:Env} {σ:St} (r:RlA K A Λ ρ σ S H) (i:Nat):∃ S',Same S S' /\ RlA K A Λ (frz i ρ) σ S' H:=by
 unfold M.frz
 cases q:ρ[i]? with
 | none=>exact ⟨S,Same.refl _,r⟩
 | some s=>
  cases s with
  | un=>exact ⟨S,Same.refl _,r⟩
  | lo=>exact ⟨S,Same.refl _,r⟩
  | sh d=>exact ⟨S,Same.refl _,r⟩
  | ow o=>
   dsimp only
   obtain ⟨Φ,f⟩:=r
   obtain ⟨v,h1,h2,h3,h4⟩:=f.ow i o q
   have s2:Same S (w8 S H (Φ i)):=lZ fun b hb=>(h4 b hb).1
   have hd:Den K (w8 S H (Φ i)) o.d v:=h2.den s2 fun b hb=>rq hb
   refine ⟨_,s2,Φ,?_⟩
   exact {
    len:=by rw [List.length_set];exact f.len
    sub:=yL f.sub
    sh:=fun j d hj=>by
     rcases cF hj with ⟨rfl,e,hl⟩ | ⟨hij,hj⟩
     ·cases e
      exact ⟨v,h1,hd⟩
     ·obtain ⟨w,k1,k2⟩:=f.sh j d hj
      exact ⟨w,k1,k2.mono s2⟩
    ow:=fun j o' hj=>by
     rcases cF hj with ⟨rfl,e,hl⟩ | ⟨hij,hj⟩
     ·cases e
     ·obtain ⟨w,k1,k2,k3,k4⟩:=f.ow j o' hj
      exact ⟨w,k1,k2.mono s2 fun _ _=>rfl,k3,fun b hb=>⟨by rw [lf fun hi=>f.dj i j o o' hij q hj b hi hb];exact (k4 b hb).1,(k4 b hb).2⟩⟩
    dj:=fun j k o1 o2 hjk g1 g2=>by
     rcases cF g1 with ⟨rfl,e,hl⟩ | ⟨hij,g1⟩
     ·cases e
     ·rcases cF g2 with ⟨rfl,e,hl⟩ | ⟨hik,g2⟩
      ·cases e
      ·exact f.dj j k o1 o2 hjk g1 g2
    lo:=fun j hj=>by
     rcases cF hj with ⟨rfl,e,hl⟩ | ⟨hij,hj⟩
     ·cases e
     ·exact f.lo j hj
    asub:=f.asub
    adis:=fun b=>by
     by_cases hb:b ∈ Φ i
     ·exact .inr (.inl (h4 b hb).2)
     ·rw [lf hb];exact f.adis b }
@[simp] noncomputable def IZ (i:Nat) (m:XS):XS:=fun ρ=>m (frz i ρ)
theorem Gx {t:TS} {m:XS} (i:Nat) (h:SS K t m):SS K t (IZ i m):=fun A Λ ρ σ S H E o r x k=>by
 obtain ⟨S',s,r'⟩:=r.frz i
 exact h A Λ _ σ S' H E o r' x (k.mono s)
noncomputable abbrev XG:=D -> Env -> Option Env
noncomputable abbrev EX:=List D -> Env -> Option Env
def SG (K:W.Frag) (g:TG) (x:XG):Prop:=∀ A Λ ρ σ S H v d (Q:St -> Hp -> Prop) ρ',RlA K A Λ ρ σ S H -> Den K S d v -> x d ρ = some ρ' -> (∀ σ',RlA K A Λ ρ' σ' S H -> Q σ' H) -> g v σ H Q
def MG (K:W.Frag) (g:De) (x:EX):Prop:=∀ A Λ ρ σ S H vs ds (Q:St -> Hp -> Prop) ρ',RlA K A Λ ρ σ S H -> Dens K S ds vs -> x ds ρ = some ρ' -> (∀ σ',RlA K A Λ ρ' σ' S H -> Q σ' H) -> g vs σ H Q
@[simp] noncomputable def ao (i:Nat):XG:=fun d ρ=>some (ρ.set i (.sh d))
noncomputable def cV:EX:=fun ds ρ=>match ds with | []=>some ρ | _=>none
noncomputable def aJ (x:XG) (y:EX):EX:=fun ds ρ=>match ds with | d :: r=>(x d ρ).bind (y r) | []=>none
noncomputable def c7 (y:EX):XG:=fun d ρ=>match d with | .tup l=>y l ρ | .mtp l=>y l ρ | _=>none
theorem aB (i:Nat):SG K (jE i) (ao i):=fun A Λ ρ σ S H v d Q ρ' r dv x k=>by cases x;exact k _ (r.set i dv)
theorem mG:MG K JW cV:=fun A Λ ρ σ S H vs ds Q ρ' r dv x k=>by
 cases ds with
 | nil=>cases x;exact ⟨dv.nil_of,k σ r⟩
 | cons _ _=>cases x
theorem cv {g:TG} {gs:De} {x:XG} {y:EX} (h:SG K g x) (hs:MG K gs y):MG K (Fo g gs) (aJ x y):=fun A Λ ρ σ S H vs ds Q ρ' r dv e k=>by
 cases ds with
 | nil=>cases e
 | cons d ds=>
  obtain ⟨v,vs,rfl,h1,h2⟩:=dv.cons_of
  have e':(x d ρ).bind (y ds) = some ρ':=e
  cases q:x d ρ with
  | none=>rw [q] at e';cases e'
  | some ρ1=>
   rw [q] at e'
   exact ⟨v,vs,rfl,h A Λ ρ σ S H v d _ ρ1 r h1 q fun σ1 r1=>hs A Λ ρ1 σ1 S H vs ds Q ρ' r1 h2 e' k⟩
def Cq (y:EX) (n:Nat):Prop:=∀ ds ρ ρ',y ds ρ = some ρ' -> ds.length = n
theorem jm:Cq cV 0:=fun ds ρ ρ' e=>by cases ds with | nil=>rfl | cons _ _=>cases e
theorem bG {x:XG} {y:EX} {n:Nat} (h:Cq y n):Cq (aJ x y) (n + 1):=fun ds ρ ρ' e=>by
 cases ds with
 | nil=>cases e
 | cons d ds=>
  have e':(x d ρ).bind (y ds) = some ρ':=e
  cases q:x d ρ with
  | none=>rw [q] at e';cases e'
  | some ρ1=>rw [q] at e';rw [List.length_cons,h ds ρ1 ρ' e']
theorem mH {gs:De} {y:EX} {n:Nat} (hs:MG K gs y) (hl:Cq y n):SG K (JX K n gs) (c7 y):=fun A Λ ρ σ S H v d Q ρ' r dv e k=>by
 cases d with
 | tup l=>
  obtain ⟨p,xs,rfl,h1,h2⟩:=ii dv
  exact ⟨p,xs,rfl,br r.sub h1,by rw [<- h2.length];exact hl l ρ ρ' e,hs A Λ ρ σ S H xs l Q ρ' r h2 e k⟩
 | mtp l=>
  obtain ⟨p,xs,rfl,h1,h2⟩:=den_mtp.mp dv
  exact ⟨p,xs,rfl,br r.sub h1,by rw [<- h2.length];exact hl l ρ ρ' e,hs A Λ ρ σ S H xs l Q ρ' r h2 e k⟩
 | _=>cases e
@[simp] noncomputable def cE (e:XE) (g:XG):XS:=fun ρ=>(e ρ).bind fun d=>(g d ρ).map .nx
theorem bD {te:TE} {g:TG} {e:XE} {x:XG} (h:SE K te e) (hg:SG K g x):SS K (uZ te g) (cE e x):=fun A Λ ρ σ S H E o r y k=>by
 obtain ⟨d,q,y⟩:=bind_some y
 cases q2:x d ρ with
 | none=>rw [q2] at y;cases y
 | some ρ'=>
  rw [q2] at y
  cases y
  exact h ρ σ S H _ d r.toRl q fun v S1 H1 z1 d1=>hg A Λ ρ σ S1 H1 v d _ ρ' (r.ext z1) d1 q2 fun σ' r'=>k σ' S1 H1 r' z1.sh
@[simp] noncomputable def C8 (e:Env -> Option O) (i:Nat):XS:=fun ρ=>(e ρ).map fun o=>.nx (ρ.set i (.ow o))
theorem Gs {te:TE} {e:Env -> Option O} {i:Nat} (h:STr K te e):SS K (uZ te (jE i)) (C8 e i):=fun A Λ ρ σ S H E o r y k=>by
 unfold C8 at y
 cases q:e ρ with
 | none=>rw [q] at y;cases y
 | some ot=>
  rw [q] at y
  cases y
  obtain ⟨Φ,f⟩:=r
  refine h ρ σ S H _ ot ⟨A,Λ,Φ,f⟩ q fun v fp S1 H1 z1 o1 nd n=>?_
  have r1:=f.ext z1
  refine k _ S1 H1 ⟨_,r1.put (H':=H1) i r1.sub r1.asub o1 nd (fun b hb=>⟨(n b hb).2,f.asub.free (n b hb).1⟩) fun j o' hj e1 b hb=>⟨rfl,fun hf=>?_⟩⟩ z1.sh
  obtain ⟨w,_,k2,_,_⟩:=f.ow j o' e1
  exact k2.there b hb (n b hf).1
@[simp] noncomputable def lP (e:XA) (i:Nat):XS:=C8 (K0 e) i
theorem jy {te:TE} {e:XA} {i:Nat} (h:SF K te e):SS K (uZ te (jE i)) (lP e i):=Gs h.t
noncomputable def eM:O -> List Int -> Option O
 | o,[]=>some o
 | .lst l,k :: r=>(b7 l k).bind fun o=>eM o r
 | .tup l,k :: r=>(b7 l k).bind fun o=>eM o r
 | .sh _,_ :: _=>none
 | .dic _,_ :: _=>none
 | .hd _ _ _,_ :: _=>none
noncomputable def tZ (l:List O) (k:Int) (f:O -> O):List O:=match x4 l.length k with
 | some j=>(match l[j]? with | some o=>l.set j (f o) | none=>l)
 | none=>l
noncomputable def kt:O -> List Int -> O -> O
 | _,[],q=>q
 | .lst l,k :: r,q=>.lst (tZ l k fun o=>kt o r q)
 | .tup l,k :: r,q=>.tup (tZ l k fun o=>kt o r q)
 | .sh d,_ :: _,_=>.sh d
 | .dic d,_ :: _,_=>.dic d
 | .hd p d l,_ :: _,_=>.hd p d l
noncomputable def WalkV (H:Hp):V -> List Int -> V -> Prop
 | v,[],w=>v = w
 | v,k :: r,w=>∃ a xs u,v = .ref a /\ (H a = some (.lst xs) \/ H a = some (.tup xs)) /\ b7 xs k = some u /\ WalkV H u r w
theorem WalkV.mono (s:Same H H'):∀ {p:List Int} {v w:V},WalkV H v p w -> WalkV H' v p w
 | [],_,_,h=>h
 | _ :: _,_,_,⟨a,xs,u,e,h,k,m⟩=>⟨a,xs,u,e,h.elim (fun z=>.inl (s _ _ z)) (fun z=>.inr (s _ _ z)),k,m.mono s⟩
theorem WalkV.uniq:∀ {p:List Int} {v w w':V},WalkV H v p w -> WalkV H v p w' -> w = w'
 | [],_,_,_,h,k=>h.symm.trans k
 | _ :: _,_,_,_,hpt0,hpt1=>by
  obtain ⟨a,xs,u,e,h,k,m⟩:=hpt0
  obtain ⟨a',xs',u',e',h',k',m'⟩:=hpt1
  rw [e] at e'
  cases e'
  have:xs = xs':=by
   rcases h with h | h <;> rcases h' with h' | h' <;> rw [h] at h' <;> cases h' <;> rfl
  subst this
  rw [k] at k'
  cases k'
  exact m.uniq m'
theorem WalkV.snoc:∀ {p:List Int} {v w u:V} {k:Int} {a:Addr} {xs:List V},WalkV H v p w -> w = .ref a -> (H a = some (.lst xs) \/ H a = some (.tup xs)) -> b7 xs k = some u -> WalkV H v (p ++ [k]) u
 | [],_,_,u,k,a,xs,h,e,h1,h2=>⟨a,xs,u,h.trans e,h1,h2,rfl⟩
 | _ :: _,_,_,_,_,_,_,⟨b,ys,u',e,h,k,m⟩,e',h1,h2=>⟨b,ys,u',e,h,k,m.snoc e' h1 h2⟩
theorem qp:∀ {p:List Int} {o q:O} {k:Int},eM o (p ++ [k]) = some q -> ∃ q0,eM o p = some q0 /\ eM q0 [k] = some q
 | [],o,q,k,h=>⟨o,by unfold eM;rfl,h⟩
 | j :: p,o,q,k,h=>by
  cases o with
  | sh d=>cases h
  | dic _=>cases h
  | hd _ _ _=>cases h
  | lst l=>
   have h':(b7 l j).bind (fun o=>eM o (p ++ [k])) = some q:=h
   cases e:b7 l j with
   | none=>rw [e] at h';cases h'
   | some o1=>
    rw [e] at h'
    obtain ⟨q0,a,b⟩:=qp (p:=p) h'
    exact ⟨q0,by show (b7 l j).bind (fun o=>eM o p) = some q0;rw [e];exact a,b⟩
  | tup l=>
   have h':(b7 l j).bind (fun o=>eM o (p ++ [k])) = some q:=h
   cases e:b7 l j with
   | none=>rw [e] at h';cases h'
   | some o1=>
    rw [e] at h'
    obtain ⟨q0,a,b⟩:=qp (p:=p) h'
    exact ⟨q0,by show (b7 l j).bind (fun o=>eM o p) = some q0;rw [e];exact a,b⟩
theorem Owns.split:∀ {l:List O} {xs:List V} {f:List Addr} {j:Nat} {o:O},Owns K S H l xs f -> l[j]? = some o -> ∃ x f1 f2 f3,xs[j]? = some x /\ f = f1 ++ (f2 ++ f3) /\ Own K S H o x f2 /\
  ∀ H' o' f2',Own K S H' o' x f2' -> (∀ b ∈ f1,H' b = H b) -> (∀ b ∈ f3,H' b = H b) -> Owns K S H' (l.set j o') xs (f1 ++ (f2' ++ f3))
 | [],_,_,_,_,_,e=>by simp at e
 | o0 :: l,_,_,0,o,h,e=>by
  obtain ⟨y,ys,f,g,rfl,rfl,a,b⟩:=h.cons_of
  simp at e;subst e
  exact ⟨y,[],f,g,rfl,rfl,a,fun H' o' f2' h1 _ h3=>Owns.cons (f:=f2') h1 (b.mono (Same.refl _) h3)⟩
 | o0 :: l,_,_,j + 1,o,h,e=>by
  obtain ⟨y,ys,f,g,rfl,rfl,a,b⟩:=h.cons_of
  obtain ⟨x,f1,f2,f3,e1,rfl,h1,h2⟩:=b.split (j:=j) (by simpa using e)
  refine ⟨x,f ++ f1,f2,f3,by simpa using e1,by rw [List.append_assoc],h1,fun H' o' f2' k1 k2 k3=>?_⟩
  rw [List.append_assoc]
  exact .cons (a.mono (Same.refl _) fun b hb=>k2 b (List.mem_append_left _ hb)) (h2 H' o' f2' k1 (fun b hb=>k2 b (List.mem_append_right _ hb)) k3)
theorem Av {α:Type} {l:List α} {k:Int} {x:α} (h:b7 l k = some x):∃ j,x4 l.length k = some j /\ l[j]? = some x:=by
 unfold b7 at h
 cases q:x4 l.length k with
 | none=>rw [q] at h;cases h
 | some j=>rw [q] at h;exact ⟨j,rfl,h⟩
theorem Fn:∀ {p:List Int} {o q:O} {v:V} {fp:List Addr},Own K S H o v fp -> fp.Nodup -> eM o p = some q -> ∃ w fq,Own K S H q w fq /\ WalkV H v p w /\ (∀ b ∈ fq,b ∈ fp) /\ fq.Nodup /\
  ∀ H' q' fq',Own K S H' q' w fq' -> fq'.Nodup -> (∀ b ∈ fp,b ∉ fq -> H' b = H b) -> (∀ b ∈ fq',b ∈ fp -> b ∈ fq) -> ∃ fp',Own K S H' (kt o p q') v fp' /\ fp'.Nodup /\ ∀ b ∈ fp',b ∈ fp \/ b ∈ fq'
 | [],o,q,v,fp,h,nd,e=>by
  have e':some o = some q:=by unfold eM at e;exact e
  cases e'
  exact ⟨v,fp,h,rfl,fun b hb=>hb,nd,fun H' q' fq' h1 n1 _ _=>⟨fq',by unfold kt;exact h1,n1,fun b hb=>.inr hb⟩⟩
 | k :: r,o,q,v,fp,h,nd,e=>by
  have body:∀ (l:List O) (a:Addr) (xs:List V) (f:List Addr),v = .ref a -> fp = a :: f -> (H a = some (.lst xs) \/ H a = some (.tup xs)) -> Owns K S H l xs f -> ((b7 l k).bind fun o=>eM o r) = some q ->
    ∃ w fq,Own K S H q w fq /\ WalkV H v (k :: r) w /\ (∀ b ∈ fq,b ∈ fp) /\ fq.Nodup /\ ∀ H' q' fq',Own K S H' q' w fq' -> fq'.Nodup -> (∀ b ∈ fp,b ∉ fq -> H' b = H b) -> (∀ b ∈ fq',b ∈ fp -> b ∈ fq) ->
     ∃ f',Owns K S H' (tZ l k fun o=>kt o r q') xs f' /\ H' a = H a /\ (a :: f').Nodup /\ ∀ b ∈ a :: f',b ∈ fp \/ b ∈ fq':=by
   rintro l a xs f rfl rfl ha hl hs
   obtain ⟨na,nf⟩:=List.nodup_cons.mp nd
   obtain ⟨o1,qa,hs⟩:=bind_some hs
   obtain ⟨j,ej,el⟩:=Av qa
   obtain ⟨x,f1,f2,f3,ex,rfl,h1,h2⟩:=hl.split el
   obtain ⟨n1,n23,d1⟩:=List.nodup_append.mp nf
   obtain ⟨n2,n3,d2⟩:=List.nodup_append.mp n23
   obtain ⟨w,fq,k1,k2,k3,k4,k5⟩:=Fn (p:=r) h1 n2 hs
   have ax:b7 xs k = some x:=by unfold b7;rw [<- hl.length,ej];exact ex
   refine ⟨w,fq,k1,⟨a,xs,x,rfl,ha,ax,k2⟩,fun b hb=>List.mem_cons_of_mem _ (List.mem_append_right _ (List.mem_append_left _ (k3 b hb))),k4,fun H' q' fq' g1 g2 g3 g4=>?_⟩
   have in2:∀ b ∈ fq,b ∈ f2:=k3
   have a1:∀ b ∈ f1,b ∉ fq:=fun b hb hq=>d1 b hb b (List.mem_append_left _ (in2 b hq)) rfl
   have a3:∀ b ∈ f3,b ∉ fq:=fun b hb hq=>d2 b (in2 b hq) b hb rfl
   have aa:a ∉ fq:=fun hq=>na (List.mem_append_right _ (List.mem_append_left _ (in2 a hq)))
   obtain ⟨f2',m1,m2,m3⟩:=k5 H' q' fq' g1 g2 (fun b hb hn=>g3 b (List.mem_cons_of_mem _ (List.mem_append_right _ (List.mem_append_left _ hb))) hn) fun b hb hp=>g4 b hb (List.mem_cons_of_mem _ (List.mem_append_right _ (List.mem_append_left _ hp)))
   have out:∀ b ∈ f2',b ∉ f1 /\ b ∉ f3 /\ b ≠ a:=fun b hb=>by
    rcases m3 b hb with hb | hb
    ·exact ⟨fun z=>d1 b z b (List.mem_append_left _ hb) rfl,fun z=>d2 b hb b z rfl,fun z=>na (z ▸ List.mem_append_right _ (List.mem_append_left _ hb))⟩
    ·refine ⟨fun z=>a1 b z (g4 b hb (List.mem_cons_of_mem _ (List.mem_append_left _ z))),fun z=>a3 b z (g4 b hb (List.mem_cons_of_mem _ (List.mem_append_right _ (List.mem_append_right _ z)))),fun z=>?_⟩
     subst z
     exact aa (g4 b hb List.mem_cons_self)
   refine ⟨f1 ++ (f2' ++ f3),?_,g3 a List.mem_cons_self aa,?_,fun b hb=>?_⟩
   ·unfold tZ
    rw [ej]
    dsimp only
    rw [el]
    exact h2 H' _ f2' m1 (fun b hb=>g3 b (List.mem_cons_of_mem _ (List.mem_append_left _ hb)) (a1 b hb)) fun b hb=>g3 b (List.mem_cons_of_mem _ (List.mem_append_right _ (List.mem_append_right _ hb))) (a3 b hb)
   ·refine List.nodup_cons.mpr ⟨fun z=>?_,List.nodup_append.mpr ⟨n1,List.nodup_append.mpr ⟨m2,n3,fun b hb c hc e=>(out b hb).2.1 (e ▸ hc)⟩,fun b hb c hc e=>?_⟩⟩
    ·rcases List.mem_append.mp z with z | z
     ·exact na (List.mem_append_left _ z)
     ·rcases List.mem_append.mp z with z | z
      ·exact (out a z).2.2 rfl
      ·exact na (List.mem_append_right _ (List.mem_append_right _ z))
    ·subst e
     rcases List.mem_append.mp hc with hc | hc
     ·exact (out b hc).1 hb
     ·exact d1 b hb b (List.mem_append_right _ hc) rfl
   ·rcases List.mem_cons.mp hb with rfl | hb
    ·exact .inl List.mem_cons_self
    ·rcases List.mem_append.mp hb with hb | hb
     ·exact .inl (List.mem_cons_of_mem _ (List.mem_append_left _ hb))
     ·rcases List.mem_append.mp hb with hb | hb
      ·exact (m3 b hb).imp (fun z=>List.mem_cons_of_mem _ (List.mem_append_right _ (List.mem_append_left _ z))) id
      ·exact .inl (List.mem_cons_of_mem _ (List.mem_append_right _ (List.mem_append_right _ hb)))
  cases o with
  | sh d=>cases e
  | dic _=>cases e
  | hd _ _ _=>cases e
  | lst l=>
   obtain ⟨a,xs,f,e1,e2,h1,h2⟩:=own_lst.mp h
   obtain ⟨w,fq,k1,k2,k3,k4,k5⟩:=body l a xs f e1 e2 (.inl h1) h2 e
   refine ⟨w,fq,k1,k2,k3,k4,fun H' q' fq' g1 g2 g3 g4=>?_⟩
   obtain ⟨f',m1,m2,m3,m4⟩:=k5 H' q' fq' g1 g2 g3 g4
   exact ⟨a :: f',by unfold kt;exact own_lst.mpr ⟨a,xs,f',e1,rfl,by rw [m2];exact h1,m1⟩,m3,m4⟩
  | tup l=>
   obtain ⟨a,xs,f,e1,e2,h1,h2⟩:=own_tup.mp h
   obtain ⟨w,fq,k1,k2,k3,k4,k5⟩:=body l a xs f e1 e2 (.inr h1.1) h2 e
   refine ⟨w,fq,k1,k2,k3,k4,fun H' q' fq' g1 g2 g3 g4=>?_⟩
   obtain ⟨f',m1,m2,m3,m4⟩:=k5 H' q' fq' g1 g2 g3 g4
   exact ⟨a :: f',by unfold kt;exact own_tup.mpr ⟨a,xs,f',e1,rfl,⟨by rw [m2];exact h1.1,h1.2⟩,m1⟩,m3,m4⟩
noncomputable abbrev XP:=Env -> Option (List Int)
def Dd (K:W.Frag) (to:TE) (i:Nat) (p:XP):Prop:=∀ ρ σ S H (Q:VK) is o q,Rl K ρ σ S H -> ρ[i]? = some (.ow o) -> p ρ = some is -> eM o is = some q -> (∀ v w S' H',σ[i]? = some (some v) -> Ext S H S' H' -> WalkV H' v is w -> Q w H') -> to σ H Q
@[simp] noncomputable def BO:XP:=fun _=>some []
theorem iT (i:Nat):Dd K (ul i) i BO:=fun ρ σ S H Q is o q r h1 h2 h3 k=>by
 cases h2
 obtain ⟨v,fp,e,_⟩:=r.ow i o h1
 exact ⟨v,e,k v v S H e (Ext.refl r.sub) rfl⟩
@[simp] noncomputable def NW (p:XP) (ix:XE):XP:=fun ρ=>(p ρ).bind fun is=>(ix ρ).bind fun d=>match d with | .int k=>some (is ++ [k]) | _=>none
theorem LJ {to ti:TE} {i:Nat} {p:XP} {ix:XE} (hp:Dd K to i p) (hi:SPk K ti ix):Dd K (KO (Nj K) to ti) i (NW p ix):=fun ρ σ S H Q is o q r h1 h2 h3 k=>by
 obtain ⟨js,e1,h2⟩:=bind_some h2
 obtain ⟨d,e2,h2⟩:=bind_some h2
 cases d with
 | int kk=>
  cases h2
  obtain ⟨q0,s1,s2⟩:=qp h3
  refine hp ρ σ S H _ js o q0 r h1 e1 s1 fun v w S1 H1 ev z1 wk=>?_
  have r1:=r.ext z1
  refine hi ρ σ S1 H1 _ _ r1 e2 fun u S2 H2 z2 d2=>?_
  have r2:=r1.ext z2
  obtain ⟨v',fp,ev',ow,nd,_⟩:=r2.ow i o h1
  rw [ev] at ev'
  cases ev'
  obtain ⟨w',fq,k1,k2,_⟩:=Fn ow nd s1
  have ew:=k2.uniq (wk.mono (z2.same r1.sub))
  subst ew
  rw [d2.int]
  cases q0 with
  | sh _=>cases s2
  | dic _=>cases s2
  | hd _ _ _=>cases s2
  | lst l=>
   have s2':(b7 l kk).bind (fun o=>eM o []) = some q:=s2
   cases e3:b7 l kk with
   | none=>rw [e3] at s2';cases s2'
   | some o1=>
    obtain ⟨a,xs,f,rfl,rfl,hx,hl⟩:=own_lst.mp k1
    obtain ⟨j,ej,el⟩:=Av e3
    obtain ⟨x,_,_,_,ex,_⟩:=hl.split el
    have ax:b7 xs kk = some x:=by unfold b7;rw [<- hl.length,ej];exact ex
    exact .inl ⟨a,xs,kk,x,rfl,rfl,SqL.of hx,ax,k v x S2 H2 ev (z1.trans z2) (k2.snoc rfl (.inl hx) ax)⟩
  | tup l=>
   have s2':(b7 l kk).bind (fun o=>eM o []) = some q:=s2
   cases e3:b7 l kk with
   | none=>rw [e3] at s2';cases s2'
   | some o1=>
    obtain ⟨a,xs,f,rfl,rfl,⟨hx,_⟩,hl⟩:=own_tup.mp k1
    obtain ⟨j,ej,el⟩:=Av e3
    obtain ⟨x,_,_,_,ex,_⟩:=hl.split el
    have ax:b7 xs kk = some x:=by unfold b7;rw [<- hl.length,ej];exact ex
    exact .inr (.inl ⟨a,xs,kk,x,rfl,rfl,SqT.of hx,ax,k v x S2 H2 ev (z1.trans z2) (k2.snoc rfl (.inr hx) ax)⟩)
 | _=>cases h2
theorem RlF.at {A:Hp} {Λ:Nat -> Option Addr} {Φ:Nat -> List Addr} {ρ:Env} {σ:St} {i:Nat} {o:O} {is:List Int} {l:List O} {v w:V} (f:RlF K A Λ Φ ρ σ S H) (h1:ρ[i]? = some (.ow o)) (h2:eM o is = some (.lst l)) (ev:σ[i]? = some (some v)) (wk:WalkV H v is w) :
  ∃ a xs f0,w = .ref a /\ H a = some (.lst xs) /\ Owns K S H l xs f0 /\ (a :: f0).Nodup /\ (∀ b ∈ a :: f0,b ∈ Φ i) /\ ∀ l' xs' f',(∀ H',(∀ b,b ≠ a -> H' b = H b) -> Owns K S H' l' xs' f') -> (a :: f').Nodup -> (∀ b ∈ f',b ∈ f0 \/ ((∀ (j:Nat) o',ρ[j]? = some (.ow o') -> b ∉ Φ j) /\ S b = none /\ A b = none)) ->
   RlA K A Λ (ρ.set i (.ow (kt o is (.lst l')))) σ S (d8 H a (.lst xs')):=by
 obtain ⟨v',e',ow,nd,n⟩:=f.ow i o h1
 rw [ev] at e'
 cases e'
 obtain ⟨w',fq,k1,k2,k3,k4,k5⟩:=Fn ow nd h2
 have ew:=k2.uniq wk
 subst ew
 obtain ⟨a,xs,g,rfl,rfl,hx,hl⟩:=own_lst.mp k1
 have ain:=k3 a List.mem_cons_self
 refine ⟨a,xs,g,rfl,hx,hl,k4,k3,fun l' xs' f' g1 g2 g3=>?_⟩
 have ne:∀ b,b ≠ a -> d8 H a (.lst xs') b = H b:=fun b hb=>aS hb
 obtain ⟨fp',m1,m2,m3⟩:=k5 (d8 H a (.lst xs')) (.lst l') (a :: f') (own_lst.mpr ⟨a,xs',f',rfl,rfl,a7,g1 _ ne⟩) g2 (fun b hb hn=>ne b fun z=>hn (z ▸ List.mem_cons_self)) fun b hb hp=>by
  rcases List.mem_cons.mp hb with rfl | hb
  ·exact List.mem_cons_self
  ·rcases g3 b hb with z | ⟨z,_⟩
   ·exact List.mem_cons_of_mem _ z
   ·exact absurd hp (z i o h1)
 have sub':Same S (d8 H a (.lst xs')):=fun b u e=>by rw [ne b fun z=>by subst z;rw [(n b ain).1] at e;cases e];exact f.sub b u e
 have asub':Same A (d8 H a (.lst xs')):=fun b u e=>by rw [ne b fun z=>by subst z;rw [(n b ain).2] at e;cases e];exact f.asub b u e
 have fin:=f.put (H':=d8 H a (.lst xs')) i sub' asub' m1 m2 (fun b hb=>by
  rcases m3 b hb with z | z
  ·exact n b z
  ·rcases List.mem_cons.mp z with rfl | z
   ·exact n b ain
   ·rcases g3 b z with z | ⟨_,z⟩
    ·exact n b (k3 b (List.mem_cons_of_mem _ z))
    ·exact z) fun j o' hj e1 b hb=>by
   have nb:b ∉ Φ i:=fun z=>f.dj j i o' o hj e1 h1 b hb z
   refine ⟨ne b fun z=>nb (z ▸ ain),fun z=>?_⟩
   rcases m3 b z with z | z
   ·exact nb z
   ·rcases List.mem_cons.mp z with rfl | z
    ·exact nb ain
    ·rcases g3 b z with z | ⟨z,_⟩
     ·exact nb (k3 b (List.mem_cons_of_mem _ z))
     ·exact z j o' e1 hb
 rw [GF ev] at fin
 exact ⟨_,fin⟩
theorem RlF.fresh {A:Hp} {Λ:Nat -> Option Addr} {Φ:Nat -> List Addr} {ρ:Env} {σ:St} {b:Addr} (f:RlF K A Λ Φ ρ σ S H) (h:H b = none):(∀ (j:Nat) o',ρ[j]? = some (.ow o') -> b ∉ Φ j) /\ S b = none /\ A b = none:=
 ⟨fun j o' e hb=>by obtain ⟨_,_,ow,_⟩:=f.ow j o' e;exact ow.there b hb h,f.sub.free h,f.asub.free h⟩
@[simp] noncomputable def lN (i:Nat) (p:XP) (e:Env -> Option O):XS:=fun ρ=>match ρ[i]? with
 | some (.ow o)=>(p ρ).bind fun is=>(e ρ).bind fun x=>match eM o is with
  | some (.lst l)=>if l.length < cG then some (.nx (ρ.set i (.ow (kt o is (.lst (l ++ [x])))))) else none
  | _=>none
 | _=>none
theorem kx {to te:TE} {i:Nat} {p:XP} {e:Env -> Option O} (hp:Dd K to i p) (h:STr K te e):SS K (CZ (IL K "list" rAppend to (eN te kG))) (lN i p e):=fun A Λ ρ σ S H E out r y k=>by
 unfold lN at y
 cases q0:ρ[i]? with
 | none=>rw [q0] at y;cases y
 | some s=>
  rw [q0] at y
  cases s with
  | un=>cases y
  | lo=>cases y
  | sh d=>cases y
  | ow o=>
   dsimp only at y
   cases q1:p ρ with
   | none=>rw [q1] at y;cases y
   | some is=>
    rw [q1] at y
    dsimp only [Option.bind] at y
    cases q2:e ρ with
    | none=>rw [q2] at y;cases y
    | some x=>
     rw [q2] at y
     dsimp only at y
     cases q3:eM o is with
     | none=>rw [q3] at y;cases y
     | some qo=>
      rw [q3] at y
      cases qo with
      | sh _=>cases y
      | dic _=>cases y
      | hd _ _ _=>cases y
      | tup _=>cases y
      | lst l=>
       dsimp only at y
       split at y
       ·rename_i hl
        cases y
        obtain ⟨Φ,f⟩:=r
        refine hp ρ σ S H _ is o _ ⟨A,Λ,Φ,f⟩ q0 q1 q3 fun v w S1 H1 ev z1 wk=>?_
        have f1:=f.ext z1
        obtain ⟨a,xs,g0,rfl,hx,hw,nd0,in0,_⟩:=f1.at q0 q3 ev wk
        refine ⟨.inl ⟨rfl,xs,SqL.of hx⟩,h ρ σ S1 H1 _ x ⟨A,Λ,Φ,f1⟩ q2 fun u fu S2 H2 z2 ou nd n=>?_⟩
        have f2:=f1.ext z2
        obtain ⟨a',xs',g1,e1,hx',hw',nd1,in1,up⟩:=f2.at q0 q3 ev (wk.mono (z2.same f1.sub))
        cases e1
        have fr:∀ b ∈ fu,(∀ (j:Nat) o',ρ[j]? = some (.ow o') -> b ∉ Φ j) /\ S2 b = none /\ A b = none:=fun b hb=>⟨(f1.fresh (n b hb).1).1,(n b hb).2,(f1.fresh (n b hb).1).2.2⟩
        have fa:∀ b ∈ fu,b ∉ a :: g1:=fun b hb z=>(fr b hb).1 i o q0 (in1 b z)
        obtain ⟨na,ng⟩:=List.nodup_cons.mp nd1
        refine ⟨a,xs',u,rfl,rfl,hx',?_,?_⟩
        ·rw [<- hw'.length];exact Nat.lt_trans hl kj
        ·refine k σ S2 _ (up (l ++ [x]) (xs' ++ [u]) (g1 ++ fu) (fun H' ne=>?_) ?_ fun b hb=>?_) (z1.sh.trans z2.sh)
         ·have:=(hw'.mono (H':=H') (Same.refl _) fun b hb=>ne b fun z=>na (z ▸ hb)).append (.cons (ou.mono (H':=H') (Same.refl _) fun b hb=>ne b fun z=>fa b hb (z ▸ List.mem_cons_self)) .nil)
          rw [List.append_nil] at this
          exact this
         ·refine List.nodup_cons.mpr ⟨fun z=>?_,List.nodup_append.mpr ⟨ng,nd,fun b hb c hc e=>fa c hc (e ▸ List.mem_cons_of_mem _ hb)⟩⟩
          rcases List.mem_append.mp z with z | z
          ·exact na z
          ·exact fa a z List.mem_cons_self
         ·rcases List.mem_append.mp hb with hb | hb
          ·exact .inl hb
          ·exact .inr (fr b hb)
       ·cases y
@[simp] noncomputable def OZ (i:Nat) (p:XP) (j:Nat):XS:=fun ρ=>match ρ[i]? with
 | some (.ow o)=>(p ρ).bind fun is=>match eM o is with
  | some (.lst l)=>(match l.getLast? with
   | some (.sh d)=>some (.nx ((ρ.set i (.ow (kt o is (.lst l.dropLast)))).set j (.sh d)))
   | _=>none)
  | _=>none
 | _=>none
@[simp] noncomputable def O3 (i:Nat) (p:XP):XS:=fun ρ=>match ρ[i]? with
 | some (.ow o)=>(p ρ).bind fun is=>match eM o is with
  | some (.lst l)=>(match nV l with | some ds=>some (.nx (ρ.set i (.ow (kt o is (.lst (ds.reverse.map .sh)))))) | none=>none)
  | _=>none
 | _=>none
noncomputable def rExtM:V -> List V -> Hp -> VK -> Prop:=fun x vs H Q=>∃ l b xs zs,x = .ref l /\ vs = [.ref b] /\ H l = some (.lst xs) /\ Rd H b (.lst zs) /\ xs.length + zs.length <= sizeLine /\ Q .non (d8 H l (.lst (xs ++ zs)))
@[simp] noncomputable def C9 (i:Nat) (p:XP) (e:XE):XS:=fun ρ=>match ρ[i]? with
 | some (.ow o)=>(p ρ).bind fun is=>(e ρ).bind fun d=>match eM o is,d with
  | some (.lst l),.lst ds=>if l.length + ds.length <= cG then some (.nx (ρ.set i (.ow (kt o is (.lst (l ++ ds.map .sh)))))) else none
  | _,_=>none
 | _=>none
theorem Gv {to te:TE} {i:Nat} {p:XP} {e:XE} (hp:Dd K to i p) (h:SE K te e):SS K (CZ (IL K "list" rExtM to (eN te kG))) (C9 i p e):=fun A Λ ρ σ S H E out r y k=>by
 unfold C9 at y
 cases q0:ρ[i]? with
 | none=>rw [q0] at y;cases y
 | some s=>
  rw [q0] at y
  cases s with
  | un=>cases y
  | lo=>cases y
  | sh d=>cases y
  | ow o=>
   dsimp only at y
   cases q1:p ρ with
   | none=>rw [q1] at y;cases y
   | some is=>
    rw [q1] at y
    dsimp only [Option.bind] at y
    cases q2:e ρ with
    | none=>rw [q2] at y;cases y
    | some dd=>
     rw [q2] at y
     dsimp only at y
     cases q3:eM o is with
     | none=>rw [q3] at y;cases y
     | some qo=>
      rw [q3] at y
      cases qo with
      | sh _=>cases y
      | dic _=>cases y
      | hd _ _ _=>cases y
      | tup _=>cases y
      | lst l=>
       cases dd with
       | lst ds=>
        dsimp only at y
        split at y
        ·rename_i hl
         cases y
         obtain ⟨Φ,f⟩:=r
         refine hp ρ σ S H _ is o _ ⟨A,Λ,Φ,f⟩ q0 q1 q3 fun v w S1 H1 ev z1 wk=>?_
         have f1:=f.ext z1
         obtain ⟨a,xs,g0,rfl,hx,hw,nd0,in0,_⟩:=f1.at q0 q3 ev wk
         refine ⟨.inl ⟨rfl,xs,SqL.of hx⟩,h ρ σ S1 H1 _ _ ⟨A,Λ,Φ,f1⟩ q2 fun u S2 H2 z2 d2=>?_⟩
         have f2:=f1.ext z2
         obtain ⟨a',xs',g1,e1,hx',hw',nd1,in1,up⟩:=f2.at q0 q3 ev (wk.mono (z2.same f1.sub))
         cases e1
         obtain ⟨b,zs,rfl,hb,dz⟩:=den_lst.mp d2
         obtain ⟨na,ng⟩:=List.nodup_cons.mp nd1
         refine ⟨a,b,xs',zs,rfl,rfl,hx',cW z2.sub hb,?_,?_⟩
         ·rw [<- hw'.length,<- dz.length];exact Nat.le_of_lt (Nat.lt_of_le_of_lt hl kj)
         ·refine k σ S2 _ (up (l ++ ds.map .sh) (xs' ++ zs) g1 (fun H' ne=>?_) nd1 fun b hb=>.inl hb) (z1.sh.trans z2.sh)
          have:=(hw'.mono (H':=H') (Same.refl _) fun b hb=>ne b fun z=>na (z ▸ hb)).append (rE (H:=H') dz)
          rw [List.append_nil] at this
          exact this
        ·cases y
       | _=>cases y
@[simp] noncomputable def Ak (i:Nat) (p:XP) (ix e:XE):XS:=fun ρ=>(e ρ).bind fun d=>match ρ[i]? with
 | some (.ow o)=>(p ρ).bind fun is=>(ix ρ).bind fun k=>match eM o is,k with
  | some (.lst l),.int k=>(match nV l with | some ds=>(x4 ds.length k).map fun j=>.nx (ρ.set i (.ow (kt o is (.lst ((ds.set j d).map .sh))))) | none=>none)
  | _,_=>none
 | _=>none
theorem Bu {to te ti:TE} {i:Nat} {p:XP} {e ix:XE} (h:SE K te e) (hp:Dd K to i p) (hi:SPk K ti ix):SS K (uZ te (LA to ti Jn)) (Ak i p ix e):=fun A Λ ρ σ S H E out r y k=>by
 unfold Ak at y
 cases q:e ρ with
 | none=>rw [q] at y;cases y
 | some d=>
  rw [q] at y
  dsimp only [Option.bind] at y
  cases q0:ρ[i]? with
  | none=>rw [q0] at y;cases y
  | some s=>
   rw [q0] at y
   cases s with
   | un=>cases y
   | lo=>cases y
   | sh d=>cases y
   | ow o=>
    dsimp only at y
    cases q1:p ρ with
    | none=>rw [q1] at y;cases y
    | some is=>
     rw [q1] at y
     dsimp only at y
     cases q2:ix ρ with
     | none=>rw [q2] at y;cases y
     | some dk=>
      rw [q2] at y
      dsimp only at y
      cases q3:eM o is with
      | none=>rw [q3] at y;cases y
      | some qo=>
       rw [q3] at y
       cases qo with
       | sh _=>cases y
       | dic _=>cases y
       | hd _ _ _=>cases y
       | tup _=>cases y
       | lst l=>
        cases dk with
        | int kk=>
         dsimp only at y
         cases q4:nV l with
         | none=>rw [q4] at y;cases y
         | some ds=>
          rw [q4] at y
          dsimp only at y
          cases q5:x4 ds.length kk with
          | none=>rw [q5] at y;cases y
          | some j=>
           rw [q5] at y
           cases y
           have ed:=Ba q4
           subst ed
           obtain ⟨Φ,f⟩:=r
           refine h ρ σ S H _ d ⟨A,Λ,Φ,f⟩ q fun u S0 H0 z0 d0=>?_
           have f0:=f.ext z0
           refine hp ρ σ S0 H0 _ is o _ ⟨A,Λ,Φ,f0⟩ q0 q1 q3 fun v w S1 H1 ev z1 wk=>?_
           have f1:=f0.ext z1
           refine hi ρ σ S1 H1 _ _ ⟨A,Λ,Φ,f1⟩ q2 fun w2 S2 H2 z2 d2=>?_
           have f2:=f1.ext z2
           obtain ⟨a',xs',g1,rfl,hx',hw',nd1,in1,up⟩:=f2.at q0 q3 ev (wk.mono (z2.same f1.sub))
           obtain ⟨hd,rfl⟩:=nH hw'
           refine ⟨a',xs',kk,j,rfl,d2.int,hx',by rw [<- hd.length];exact q5,?_⟩
           exact k σ S2 _ (up ((ds.set j d).map .sh) (xs'.set j u) [] (fun H' ne=>rE (hd.set j ((d0.mono z1.sh).mono z2.sh))) nd1 fun b hb=>by cases hb) ((z0.sh.trans z1.sh).trans z2.sh)
        | _=>cases y
@[simp] noncomputable def KW (i:Nat) (e:XE) (f:D -> D -> Option D):XS:=fun ρ=>match ρ[i]? with
 | some (.sh x)=>(e ρ).bind fun y=>(f x y).map fun z=>.nx (ρ.set i (.sh z))
 | _=>none
theorem L8 {te:TE} {e:XE} {i:Nat} {ti:Ll} {f:D -> D -> Option D} (h:SPk K te e) (hr:uv K ti f):SS K (Ml i te ti) (KW i e f):=fun A Λ ρ σ S H E o r y k=>by
 unfold KW at y
 cases q0:ρ[i]? with
 | none=>rw [q0] at y;cases y
 | some s=>
  rw [q0] at y
  cases s with
  | un=>cases y
  | lo=>cases y
  | ow d=>cases y
  | sh x=>
   dsimp only at y
   cases q:e ρ with
   | none=>rw [q] at y;cases y
   | some d=>
    rw [q] at y
    dsimp only [Option.bind] at y
    cases q2:f x d with
    | none=>rw [q2] at y;cases y
    | some g=>
     rw [q2] at y
     cases y
     obtain ⟨v,h1,h2⟩:=r.sh i x q0
     refine ⟨v,h1,h ρ σ S H _ d r.toRl q fun w S1 H1 z1 d1=>?_⟩
     exact hr S1 H1 v w x d g _ z1.sub (.inl (h2.mono z1.sh)) d1 q2 fun u S2 H2 z2 d2=>k _ S2 H2 ((r.ext (z1.trans z2)).set i d2) (z1.sh.trans z2.sh)
@[simp] noncomputable def OT (e:XE):XS:=fun ρ=>(e ρ).map fun _=>.nx ρ
end
section
variable {K:W.Frag} {S S' H H':Hp}
def Walks (K:W.Frag) (J:It) (S:Hp) (l:List D):Prop:=∀ S' H',Same S S' -> Same S' H' ->
 (∀ i d,l[i]? = some d -> J.go i H' /\ ∀ x H'',J.yld i H' x H'' -> H'' = H' /\ Den K S' d x) /\ J.stop l.length H'
def SI (K:W.Frag) (wi:TI) (e:XA):Prop:=∀ ρ σ S H (R:It -> Hp -> Prop) l,Rl K ρ σ S H -> e ρ = some l -> (∀ J S' H',Ext S H S' H' -> Walks K J S' l -> R J H') -> wi σ H R
noncomputable def Iy:D -> Option (List D)
 | .lst l=>some l | .tup l=>some l | .scr l=>some l | .mtp l=>some l | _=>none
def JK (K:W.Frag) (J:It) (S H:Hp) (l:List D):Prop:=∀ S' H',Ext S H S' H' ->
 (∀ i d,l[i]? = some d -> J.go i H' /\ ∀ x H'',J.yld i H' x H'' -> H'' = H' /\ Den K S' d x) /\ J.stop l.length H'
def M7 (K:W.Frag) (wi:TI) (e:XA):Prop:=∀ ρ σ S H (R:It -> Hp -> Prop) l,Rl K ρ σ S H -> e ρ = some l -> (∀ J S' H',Ext S H S' H' -> JK K J S' H' l -> R J H') -> wi σ H R
theorem SI.p {wi:TI} {e:XA} (h:SI K wi e):M7 K wi e:=fun ρ σ S H R l r x k=>h ρ σ S H R l r x fun J S' H' z w=>k J S' H' z fun S2 H2 z2=>w S2 H2 z2.sh z2.sub
@[simp] noncomputable def ES (e:XE):XA:=fun ρ=>(e ρ).bind Iy
theorem Ft {tl:TE} {e:XE} (h:SE K tl e):SI K (JY K tl) (ES e):=fun ρ σ S H R l r x k=>by
 obtain ⟨d,q,x⟩:=bind_some x
 refine h ρ σ S H _ d r q fun v S1 H1 z1 d1=>?_
 cases d with
 | lst l'=>
  cases x
  obtain ⟨p,xs,rfl,h1,h2⟩:=den_lst.mp d1
  refine ⟨p,rfl,.inl ⟨⟨xs,.inl (cW z1.sub h1)⟩,k _ S1 H1 z1 fun S' H' s1 s2=>⟨fun i d hd=>?_,xs,.inl (cW (s1.trans s2) h1),Nat.le_of_eq h2.length.symm⟩⟩⟩
  obtain ⟨y,e1,e2⟩:=h2.get hd
  refine ⟨⟨xs,y,.inl (cW (s1.trans s2) h1),e1⟩,fun x H'' hy=>⟨hy.1,?_⟩⟩
  have:=hy.2 xs (.inl (cW (s1.trans s2) h1))
  rw [e1] at this
  cases this
  exact e2.mono s1
 | tup l'=>
  cases x
  obtain ⟨p,xs,rfl,h1,h2⟩:=ii d1
  refine ⟨p,rfl,.inr ⟨⟨xs,br z1.sub h1⟩,k _ S1 H1 z1 fun S' H' s1 s2=>⟨fun i d hd=>?_,xs,br (s1.trans s2) h1,Nat.le_of_eq h2.length.symm⟩⟩⟩
  obtain ⟨y,e1,e2⟩:=h2.get hd
  refine ⟨⟨xs,y,br (s1.trans s2) h1,e1⟩,fun x H'' hy=>⟨hy.1,?_⟩⟩
  have:=hy.2 xs (br (s1.trans s2) h1)
  rw [e1] at this
  cases this
  exact e2.mono s1
 | mtp l'=>
  cases x
  obtain ⟨p,xs,rfl,h1,h2⟩:=den_mtp.mp d1
  refine ⟨p,rfl,.inr ⟨⟨xs,br z1.sub h1⟩,k _ S1 H1 z1 fun S' H' s1 s2=>⟨fun i d hd=>?_,xs,br (s1.trans s2) h1,Nat.le_of_eq h2.length.symm⟩⟩⟩
  obtain ⟨y,e1,e2⟩:=h2.get hd
  refine ⟨⟨xs,y,br (s1.trans s2) h1,e1⟩,fun x H'' hy=>⟨hy.1,?_⟩⟩
  have:=hy.2 xs (br (s1.trans s2) h1)
  rw [e1] at this
  cases this
  exact e2.mono s1
 | scr l'=>
  cases x
  obtain ⟨p,xs,rfl,h1,h2⟩:=den_scr.mp d1
  refine ⟨p,rfl,.inl ⟨⟨xs,eK z1.sub h1⟩,k _ S1 H1 z1 fun S' H' s1 s2=>⟨fun i d hd=>?_,xs,eK (s1.trans s2) h1,Nat.le_of_eq h2.length.symm⟩⟩⟩
  obtain ⟨y,e1,e2⟩:=h2.get hd
  refine ⟨⟨xs,y,eK (s1.trans s2) h1,e1⟩,fun x H'' hy=>⟨hy.1,?_⟩⟩
  have:=hy.2 xs (eK (s1.trans s2) h1)
  rw [e1] at this
  cases this
  exact e2.mono s1
 | _=>cases x
noncomputable def vI {α:Type} (p:Prop) (a b:α):α:=@ite α p (Classical.propDecidable p) a b
theorem fv {α:Type} {p:Prop} {a b:α} (h:p):vI p a b = a:=by unfold vI;exact if_pos h
theorem lg {α:Type} {p:Prop} {a x:α} (h:vI p (some a) none = some x):p /\ a = x:=by
 unfold vI at h
 by_cases c:p
 ·rw [if_pos c] at h;exact ⟨c,Option.some.inj h⟩
 ·rw [if_neg c] at h;cases h
theorem nw {tl:TE} {e:XE} (h:SPk K tl e):M7 K (JY K tl) (ES e):=fun ρ σ S H R l r x k=>by
 obtain ⟨d,q,x⟩:=bind_some x
 refine h ρ σ S H _ d r q fun v S1 H1 z1 d1=>?_
 rcases d1 with d1 | ⟨l',p,xs,rfl,rfl,hx,dx⟩
 ·cases d with
  | lst l'=>
   cases x
   obtain ⟨p,xs,rfl,h1,h2⟩:=den_lst.mp d1
   refine ⟨p,rfl,.inl ⟨⟨xs,.inl (cW z1.sub h1)⟩,k _ S1 H1 z1 fun S' H' z2=>⟨fun i d hd=>?_,xs,.inl (cW (z2.sh.trans z2.sub) h1),Nat.le_of_eq h2.length.symm⟩⟩⟩
   obtain ⟨y,e1,e2⟩:=h2.get hd
   refine ⟨⟨xs,y,.inl (cW (z2.sh.trans z2.sub) h1),e1⟩,fun x H'' hy=>⟨hy.1,?_⟩⟩
   have:=hy.2 xs (.inl (cW (z2.sh.trans z2.sub) h1))
   rw [e1] at this
   cases this
   exact e2.mono z2.sh
  | tup l'=>
   cases x
   obtain ⟨p,xs,rfl,h1,h2⟩:=ii d1
   refine ⟨p,rfl,.inr ⟨⟨xs,br z1.sub h1⟩,k _ S1 H1 z1 fun S' H' z2=>⟨fun i d hd=>?_,xs,br (z2.sh.trans z2.sub) h1,Nat.le_of_eq h2.length.symm⟩⟩⟩
   obtain ⟨y,e1,e2⟩:=h2.get hd
   refine ⟨⟨xs,y,br (z2.sh.trans z2.sub) h1,e1⟩,fun x H'' hy=>⟨hy.1,?_⟩⟩
   have:=hy.2 xs (br (z2.sh.trans z2.sub) h1)
   rw [e1] at this
   cases this
   exact e2.mono z2.sh
  | mtp l'=>
   cases x
   obtain ⟨p,xs,rfl,h1,h2⟩:=den_mtp.mp d1
   refine ⟨p,rfl,.inr ⟨⟨xs,br z1.sub h1⟩,k _ S1 H1 z1 fun S' H' z2=>⟨fun i d hd=>?_,xs,br (z2.sh.trans z2.sub) h1,Nat.le_of_eq h2.length.symm⟩⟩⟩
   obtain ⟨y,e1,e2⟩:=h2.get hd
   refine ⟨⟨xs,y,br (z2.sh.trans z2.sub) h1,e1⟩,fun x H'' hy=>⟨hy.1,?_⟩⟩
   have:=hy.2 xs (br (z2.sh.trans z2.sub) h1)
   rw [e1] at this
   cases this
   exact e2.mono z2.sh
  | scr l'=>
   cases x
   obtain ⟨p,xs,rfl,h1,h2⟩:=den_scr.mp d1
   refine ⟨p,rfl,.inl ⟨⟨xs,eK z1.sub h1⟩,k _ S1 H1 z1 fun S' H' z2=>⟨fun i d hd=>?_,xs,eK (z2.sh.trans z2.sub) h1,Nat.le_of_eq h2.length.symm⟩⟩⟩
   obtain ⟨y,e1,e2⟩:=h2.get hd
   refine ⟨⟨xs,y,eK (z2.sh.trans z2.sub) h1,e1⟩,fun x H'' hy=>⟨hy.1,?_⟩⟩
   have:=hy.2 xs (eK (z2.sh.trans z2.sub) h1)
   rw [e1] at this
   cases this
   exact e2.mono z2.sh
  | _=>cases x
 ·cases x
  refine ⟨p,rfl,.inl ⟨⟨xs,SqL.of hx⟩,k _ S1 H1 z1 fun S' H' z2=>?_⟩⟩
  have hx2:H' p = some (.lst xs):=z2.same z1.sub _ _ hx
  refine ⟨fun i d hd=>?_,xs,SqL.of hx2,Nat.le_of_eq dx.length.symm⟩
  obtain ⟨y,e1,e2⟩:=dx.get hd
  refine ⟨⟨xs,y,SqL.of hx2,e1⟩,fun x H'' hy=>⟨hy.1,?_⟩⟩
  have:=hy.2 xs (SqL.of hx2)
  rw [e1] at this
  cases this
  exact e2.mono z2.sh
noncomputable def bd (lo:Int):Nat -> List D
 | 0=>[]
 | n + 1=>.int lo :: bd (lo + 1) n
theorem pJ:∀ (n:Nat) (lo:Int) (i:Nat) (d:D),(bd lo n)[i]? = some d -> i < n /\ d = .int (lo + i)
 | 0,_,_,_,h=>by simp [bd] at h
 | n + 1,lo,0,d,h=>by simp [bd] at h;exact ⟨Nat.succ_pos _,by rw [<- h];simp⟩
 | n + 1,lo,i + 1,d,h=>by
  obtain ⟨h1,h2⟩:=pJ n (lo + 1) i d (by simpa [bd] using h)
  exact ⟨Nat.succ_lt_succ h1,by rw [h2];congr 1;lia⟩
theorem fQ:∀ (n:Nat) (lo:Int),(bd lo n).length = n
 | 0,_=>rfl
 | n + 1,lo=>by rw [bd,List.length_cons,fQ n]
theorem wv (lo:Int) (n:Nat):Walks K (JD lo n) S (bd lo n):=fun S' H' _ _=>⟨fun i d h=>by
 obtain ⟨h1,rfl⟩:=pJ n lo i d h
 exact ⟨h1,fun x H'' y=>⟨y.1,den_int.mpr y.2⟩⟩,by rw [fQ];exact Nat.le_refl _⟩
noncomputable def Br:List D -> Option (List D)
 | [.int j]=>vI (j < 1000000 /\ -1000000 < j) (some (bd 0 j.toNat)) none
 | [.int i,.int j]=>vI (j < 4000000000000000000 /\ -4000000000000000000 < i /\ i < 4000000000000000000 /\ -4000000000000000000 < j) (some (bd i (j - i).toNat)) none
 | _=>none
@[simp] noncomputable def BP (a:XA):XA:=fun ρ=>(a ρ).bind Br
theorem pI {ta:TE} {a:XE} (h:SPk K ta a):SI K (Je (eN ta kG)) (BP (ag a az)):=fun ρ σ S H R l r x k=>by
 obtain ⟨ds,q,x⟩:=bind_some x
 obtain ⟨d,e,qa,qb,rfl⟩:=iE q
 cases qb
 cases d with
 | int j=>
  have x':vI (j < 1000000 /\ -1000000 < j) (some (bd 0 j.toNat)) none = some l:=x
  obtain ⟨hj,rfl⟩:=lg x'
  refine h ρ σ S H _ _ r qa fun v S1 H1 z1 d1=>?_
  refine ⟨j,by rw [d1.int],?_,?_,k _ S1 H1 z1 (wv 0 _)⟩
  ·have:(2:Int) ^ 62 = 4611686018427387904:=by decide
   lia
  ·have:(2:Int) ^ 62 = 4611686018427387904:=by decide
   lia
 | _=>cases x
noncomputable def Fk:Nat -> Nat -> List D
 | _,0=>[]
 | k,n + 1=>.int (2 * k) :: Fk (k + 1) n
noncomputable def L6:List D -> Option (List D)
 | [.int a,.int j,.int b]=>vI (a = 0 /\ b = 2 /\ 0 <= j /\ j < 1000000) (some (Fk 0 ((j + 1) / 2).toNat)) none
 | _=>none
@[simp] noncomputable def O5 (a:XA):XA:=fun ρ=>(a ρ).bind L6
noncomputable def bO (g:XG) (m:XS):List D -> Env -> Option Out
 | [],ρ=>some (.nx ρ)
 | d :: l,ρ=>(g d ρ).bind fun ρ1=>match m ρ1 with
  | some (.nx ρ2)=>bO g m l ρ2
  | some (.ct ρ2)=>bO g m l ρ2
  | some (.bk ρ2)=>some (.nx ρ2)
  | some (.rt d)=>some (.rt d)
  | some (.ro d)=>some (.ro d)
  | none=>none
@[simp] noncomputable def rh (e:XA) (g:XG) (m:XS):XS:=fun ρ=>(e ρ).bind fun l=>bO g m l ρ
theorem sI {l:List D} {i:Nat} {d:D} (h:l[i]? = some d):l.drop i = d :: l.drop (i + 1):=by
 obtain ⟨h1,rfl⟩:=List.getElem?_eq_some_iff.mp h
 exact List.drop_eq_getElem_cons h1
def JL (K:W.Frag) (J:It) (S:Hp) (l:List D):Prop:=∀ S' H',Same S S' -> Same S' H' ->
 (∀ i d,l[i]? = some d -> J.go i H' /\ ∀ x H'',J.yld i H' x H'' -> ∃ S'',Ext S' H' S'' H'' /\ Den K S'' d x) /\ J.stop l.length H'
def MH (K:W.Frag) (wi:TI) (e:XA):Prop:=∀ ρ σ S H (R:It -> Hp -> Prop) l,Rl K ρ σ S H -> e ρ = some l -> (∀ J S' H',Ext S H S' H' -> JL K J S' l -> R J H') -> wi σ H R
theorem SI.h {wi:TI} {e:XA} (h:SI K wi e):MH K wi e:=fun ρ σ S H R l r x k=>h ρ σ S H R l r x fun J S' H' z w=>k J S' H' z fun S1 H1 a b=>⟨fun i d hd=>⟨((w S1 H1 a b).1 i d hd).1,fun x H2 hy=>by
 obtain ⟨rfl,dx⟩:=((w S1 H1 a b).1 i d hd).2 x H2 hy
 exact ⟨S1,Ext.refl b,dx⟩⟩,(w S1 H1 a b).2⟩
theorem Gw {wi:TI} {g:TG} {tb:TS} {e:XA} {x:XG} {m:XS} (hi:MH K wi e) (hg:SG K g x) (hb:SS K tb m):SS K (IM wi g tb) (rh e x m):=fun A Λ ρ σ S H E o r y k=>by
 unfold rh at y
 cases q:e ρ with
 | none=>rw [q] at y;cases y
 | some l=>
  rw [q] at y
  dsimp only [Option.bind] at y
  refine hi ρ σ S H _ l r.toRl q fun J S1 H1 z1 wk=>?_
  have r1:=r.ext z1
  refine ⟨fun i n σ' H'=>n = l.length - i /\ i <= l.length /\ ∃ ρ' S',RlA K A Λ ρ' σ' S' H' /\ Same S1 S' /\ bO x m (l.drop i) ρ' = some o,⟨_,rfl,Nat.zero_le _,ρ,S1,r1,Same.refl _,y⟩,?_⟩
  rintro i n σ2 H2 ⟨rfl,hil,ρ2,S2,r2,s2,y2⟩
  obtain ⟨w1,w2⟩:=wk S2 H2 s2 r2.sub
  cases qd:l[i]? with
  | none=>
   have:l.length = i:=by have:=List.getElem?_eq_none_iff.mp qd;lia
   subst this
   rw [List.drop_of_length_le (Nat.le_refl _)] at y2
   cases y2
   exact .inl ⟨w2,k σ2 S2 H2 r2 (z1.sh.trans s2)⟩
  | some d=>
   obtain ⟨g1,g2⟩:=w1 i d qd
   have hlt:=(List.getElem?_eq_some_iff.mp qd).1
   rw [sI qd] at y2
   unfold bO at y2
   cases qx:x d ρ2 with
   | none=>rw [qx] at y2;cases y2
   | some ρ3=>
    rw [qx] at y2
    dsimp only [Option.bind] at y2
    refine .inr ⟨g1,fun σ' H'=>∃ ρ' S',RlA K A Λ ρ' σ' S' H' /\ Same S1 S' /\ bO x m (l.drop (i + 1)) ρ' = some o,fun σ' H' ⟨ρ',S',a1,a2,a3⟩=>⟨_,by lia,rfl,hlt,ρ',S',a1,a2,a3⟩,fun xv H3 hy=>?_⟩
    obtain ⟨S3,z3,dx⟩:=g2 xv H3 hy
    have s3:=s2.trans z3.sh
    refine hg A Λ ρ2 σ2 S3 H3 xv d _ ρ3 (r2.ext z3) dx qx fun σ3 r3=>?_
    cases qm:m ρ3 with
    | none=>rw [qm] at y2;cases y2
    | some om=>
     rw [qm] at y2
     refine hb A Λ ρ3 σ3 S3 H3 _ om r3 qm ?_
     cases om with
     | nx ρ4=>exact fun σ4 S4 H4 r4 s4=>⟨ρ4,S4,r4,s3.trans s4,y2⟩
     | ct ρ4=>exact fun σ4 S4 H4 r4 s4=>⟨ρ4,S4,r4,s3.trans s4,y2⟩
     | bk ρ4=>cases y2;exact fun σ4 S4 H4 r4 s4=>k σ4 S4 H4 r4 ((z1.sh.trans s3).trans s4)
     | rt d4=>cases y2;exact fun v S4 H4 s4=>k v S4 H4 ((z1.sh.trans s3).trans s4)
     | ro d4=>cases y2;exact fun v fp S4 H4 s4=>k v fp S4 H4 ((z1.sh.trans s3).trans s4)
theorem qO {wi:TI} {g:TG} {tb:TS} {e:XA} {x:XG} {m:XS} (hi:SI K wi e) (hg:SG K g x) (hb:SS K tb m):SS K (IM wi g tb) (rh e x m):=Gw hi.h hg hb
noncomputable def cT (c:XT) (m:XS):Nat -> Env -> Option Out
 | 0,_=>none
 | n + 1,ρ=>(c ρ).bind fun b=>if b = true then (match m ρ with
  | some (.nx ρ2)=>cT c m n ρ2
  | some (.ct ρ2)=>cT c m n ρ2
  | some (.bk ρ2)=>some (.nx ρ2)
  | some (.rt d)=>some (.rt d)
  | some (.ro d)=>some (.ro d)
  | none=>none) else some (.nx ρ)
theorem lM (c:XT) (m:XS):∀ (n:Nat) (ρ:Env) (o:Out),cT c m n ρ = some o -> cT c m (n + 1) ρ = some o
 | 0,_,_,h=>by cases h
 | n + 1,ρ,o,h=>by
  unfold cT at h ⊢
  cases qc:c ρ with
  | none=>rw [qc] at h;cases h
  | some b=>
   rw [qc] at h
   dsimp only [Option.bind] at h ⊢
   cases b with
   | false=>exact h
   | true=>
    rw [if_pos rfl] at h ⊢
    cases qm:m ρ with
    | none=>rw [qm] at h;cases h
    | some om=>
     rw [qm] at h
     cases om with
     | nx ρ2=>exact lM c m n ρ2 o h
     | ct ρ2=>exact lM c m n ρ2 o h
     | bk ρ2=>exact h
     | rt d=>exact h
     | ro d=>exact h
theorem nR (c:XT) (m:XS) (n:Nat) (ρ:Env) (o:Out) (h:cT c m n ρ = some o):∀ k,cT c m (n + k) ρ = some o
 | 0=>h
 | k + 1=>lM c m (n + k) ρ o (nR c m n ρ o h k)
noncomputable def ph (c:XT) (m:XS):XS:=fun ρ=>by
 classical
 exact if h:∃ o n,cT c m n ρ = some o then some h.choose else none
noncomputable def iG (c:XT) (m:XS):XS:=fun ρ=>(cT c m 64 ρ).or (ph c m ρ)
theorem uq {c:XT} {m:XS} {ρ:Env} {o o':Out} {n k:Nat} (h:cT c m n ρ = some o) (h':cT c m k ρ = some o'):o' = o:=by
 have h3:=nR c m n ρ o h k
 have h4:=nR c m k ρ _ h' n
 rw [Nat.add_comm k n,h3] at h4
 exact (Option.some.inj h4).symm
theorem wx {c:XT} {m:XS} {n:Nat} {ρ:Env} {o:Out} (h:cT c m n ρ = some o):iG c m ρ = some o:=by
 unfold iG
 cases q:cT c m 64 ρ with
 | some o'=>exact congrArg some (uq h q)
 | none=>
  have hx:∃ o n,cT c m n ρ = some o:=⟨o,n,h⟩
  show ph c m ρ = some o
  unfold ph
  rw [dif_pos hx]
  obtain ⟨n2,h2⟩:=hx.choose_spec
  exact congrArg some (uq h h2)
theorem vS {c:XT} {m:XS} {ρ:Env} {o:Out} (h:iG c m ρ = some o):∃ n,cT c m n ρ = some o:=by
 unfold iG at h
 cases q:cT c m 64 ρ with
 | some o'=>rw [q] at h;exact ⟨64,q.trans h⟩
 | none=>
  rw [q] at h
  have h:ph c m ρ = some o:=h
  unfold ph at h
  split at h
  ·rename_i hx
   cases h
   exact hx.choose_spec
  ·cases h
theorem BQ {c:XT} {m:XS} {ρ:Env} (h:c ρ = some false):iG c m ρ = some (.nx ρ):=wx (n:=1) (by unfold cT;rw [h];rfl)
theorem Al {c:XT} {m:XS} {ρ ρ2:Env} {o:Out} (h:c ρ = some true) (hm:m ρ = some (.nx ρ2)) (k:iG c m ρ2 = some o):iG c m ρ = some o:=by
 obtain ⟨n,hn⟩:=vS k
 exact wx (n:=n + 1) (by unfold cT;rw [h,hm];exact hn)
theorem Iw {tc:TT} {tb:TS} {c:XT} {m:XS} (hc:ST K tc c) (hb:SS K tb m):SS K (GW tc tb) (iG c m):=fun A Λ ρ σ S H E o r y k=>by
 obtain ⟨n,hn⟩:=vS y
 refine ⟨fun n σ' H'=>∃ ρ' S',RlA K A Λ ρ' σ' S' H' /\ Same S S' /\ cT c m n ρ' = some o,⟨n,ρ,S,r,Same.refl _,hn⟩,?_⟩
 rintro n σ1 H1 ⟨ρ1,S1,r1,s1,h1⟩
 cases n with
 | zero=>cases h1
 | succ n=>
  unfold cT at h1
  cases qc:c ρ1 with
  | none=>rw [qc] at h1;cases h1
  | some b=>
   rw [qc] at h1
   dsimp only [Option.bind] at h1
   refine hc ρ1 σ1 S1 H1 _ b r1.toRl qc fun S2 H2 z2=>?_
   have r2:=r1.ext z2
   cases b with
   | false=>
    rw [if_neg (by decide)] at h1
    cases h1
    exact yP (k σ1 S2 H2 r2 (s1.trans z2.sh))
   | true=>
    rw [if_pos rfl] at h1
    refine yQ ⟨fun σ' H'=>∃ ρ' S',RlA K A Λ ρ' σ' S' H' /\ Same S S' /\ cT c m n ρ' = some o,fun σ' H' a=>⟨n,Nat.lt_succ_self _,a⟩,?_⟩
    cases qm:m ρ1 with
    | none=>rw [qm] at h1;cases h1
    | some om=>
     rw [qm] at h1
     refine hb A Λ ρ1 σ1 S2 H2 _ om r2 qm ?_
     cases om with
     | nx ρ4=>exact fun σ4 S4 H4 r4 s4=>⟨ρ4,S4,r4,(s1.trans z2.sh).trans s4,h1⟩
     | ct ρ4=>exact fun σ4 S4 H4 r4 s4=>⟨ρ4,S4,r4,(s1.trans z2.sh).trans s4,h1⟩
     | bk ρ4=>cases h1;exact fun σ4 S4 H4 r4 s4=>k σ4 S4 H4 r4 ((s1.trans z2.sh).trans s4)
     | rt d4=>cases h1;exact fun v S4 H4 s4=>k v S4 H4 ((s1.trans z2.sh).trans s4)
     | ro d4=>cases h1;exact fun v fp S4 H4 s4=>k v fp S4 H4 ((s1.trans z2.sh).trans s4)
@[simp] noncomputable def xc (js:List (Option Nat)) (ρ:Env):Env:=js.map fun o=>match o with | none=>.un | some j=>match ρ[j]? with | some (.sh d)=>.sh d | _=>.un
noncomputable def eZ (g:XG) (c:XT) (e:XE) (ρ0:Env):List D -> Option (List D)
 | []=>some []
 | d :: l=>(g d ρ0).bind fun ρ1=>(c ρ1).bind fun b=>if b = true then (e ρ1).bind fun y=>(eZ g c e ρ0 l).map fun r=>y :: r else eZ g c e ρ0 l
@[simp] noncomputable def jS (js:List (Option Nat)) (w:XA) (g:XG) (c:XT) (e:XE):XA:=fun ρ=>(w ρ).bind fun l=>if l.length <= cG then eZ g c e (xc js ρ) l else none
@[simp] noncomputable def nS:XT:=fun _=>some true
theorem v8:ST K Jb nS:=fun ρ σ S H Q b r x k=>by cases x;exact k S H (Ext.refl r.sub)
theorem oA {js:List (Option Nat)} {ρ:Env} {i:Nat} {s:Sl} (h:(xc js ρ)[i]? = some s):s = .un \/ ∃ d j,s = .sh d /\ js[i]? = some (some j) /\ ρ[j]? = some (.sh d):=by
 unfold xc at h
 rw [List.getElem?_map] at h
 cases q:js[i]? with
 | none=>rw [q] at h;cases h
 | some o=>
  rw [q] at h
  cases o with
  | none=>cases h;exact .inl rfl
  | some j=>
   simp only [Option.map_some] at h
   cases q2:ρ[j]? with
   | none=>rw [q2] at h;cases h;exact .inl rfl
   | some s2=>
    rw [q2] at h
    cases s2 with
    | un=>cases h;exact .inl rfl
    | lo=>cases h;exact .inl rfl
    | ow l=>cases h;exact .inl rfl
    | sh d=>cases h;exact .inr ⟨d,j,rfl,rfl,q2⟩
noncomputable def ic (S H:Hp):Hp:=fun b=>match S b with | none=>H b | some _=>none
theorem ve {S H:Hp}:Same (ic S H) H:=fun b o h=>by
 unfold ic at h
 cases q:S b with
 | none=>rw [q] at h;exact h
 | some _=>rw [q] at h;cases h
theorem vd {S H:Hp} (b:Addr):S b = none \/ ic S H b = none \/ ∃ u,ic S H b = some u /\ IT u:=by
 unfold ic
 cases q:S b with
 | none=>exact .inl rfl
 | some _=>exact .inr (.inl rfl)
theorem r8 {S H:Hp} {b:Addr} {o:HO} (h:H b = some o) (n:S b = none):ic S H b = some o:=by
 unfold ic
 rw [n]
 exact h
theorem Kv {ρ:Env} {σ:St} (r:Rl K ρ σ S H) (js:List (Option Nat)):RlA K (ic S H) (fun _=>none) (xc js ρ) (sU js σ) S H:=by
 refine ⟨fun _=>[],?_⟩
 exact {
  len:=by unfold xc sU;rw [List.length_map,List.length_map]
  sub:=r.sub
  sh:=fun i d h=>by
   rcases oA h with e | ⟨d',j,e,h1,h2⟩
   ·cases e
   ·cases e
    obtain ⟨v,k1,k2⟩:=r.sh j d h2
    refine ⟨v,?_,k2⟩
    unfold sU
    rw [List.getElem?_map,h1]
    show some ((σ[j]?).join) = some (some v)
    rw [k1]
    rfl
  ow:=fun i o h=>by
   rcases oA h with e | ⟨d',j,e,h1,h2⟩
   ·cases e
   ·cases e
  dj:=fun i j o o' _ h=>by
   rcases oA h with e | ⟨d',j,e,h1,h2⟩
   ·cases e
   ·cases e
  lo:=fun i h=>by
   rcases oA h with e | ⟨d',j,e,h1,h2⟩
   ·cases e
   ·cases e
  asub:=ve
  adis:=vd }
theorem iy {js:List (Option Nat)} {wi:TI} {g:TG} {tt:JI} {te:TE} {w:XA} {x:XG} {c:XT} {e:XE} (hi:M7 K wi w) (hg:SG K g x) (hc:ST K tt c) (he:SE K te e):SF K (GU js wi g tt te) (jS js w x c e):=fun ρ σ S H Q l r y k=>by
 unfold jS at y
 cases q:w ρ with
 | none=>rw [q] at y;cases y
 | some ds=>
  rw [q] at y
  dsimp only [Option.bind] at y
  split at y
  ·rename_i hlim
   refine hi ρ σ S H _ ds r q fun J S1 H1 z1 wk D hD=>?_
   have r1:=r.ext z1
   have hD0:H D = none:=(z1.same r.sub).free hD
   -- the word: what is told so far,what is still to be told
   refine ⟨fun i n H'=>n = ds.length - i /\ i <= ds.length /\ ∃ S' done ys eA,Ext S1 H1 S' H' /\ Same S1 S' /\ H' D = some (.lst ys) /\ S' D = none /\ Dens K S' done ys /\ done.length <= i /\ eZ x c e (xc js ρ) (ds.drop i) = some eA /\ l = done ++ eA,
    ⟨_,rfl,Nat.zero_le _,S1,[],[],l,Ext.own z1.sub hD,Same.refl _,a7,z1.sub.free hD,.nil,Nat.zero_le _,y,rfl⟩,?_⟩
   rintro i n H2 ⟨rfl,hil,S2,done,ys,eA,z2,s2,hy,hSD,dy,hdl,y2,rfl⟩
   obtain ⟨w1,w2⟩:=wk S2 H2 z2
   cases qd:ds[i]? with
   | none=>
    have:ds.length = i:=by have:=List.getElem?_eq_none_iff.mp qd;lia
    subst this
    rw [List.drop_of_length_le (Nat.le_refl _)] at y2
    cases y2
    rw [List.append_nil] at k
    exact .inl ⟨w2,k D ys S2 H2 (z1.trans z2) hD0 hSD hy dy⟩
   | some d=>
    obtain ⟨g1,g2⟩:=w1 i d qd
    have hlt:=(List.getElem?_eq_some_iff.mp qd).1
    rw [sI qd] at y2
    unfold eZ at y2
    cases qx:x d (xc js ρ) with
    | none=>rw [qx] at y2;cases y2
    | some ρ3=>
     rw [qx] at y2
     dsimp only [Option.bind] at y2
     refine .inr ⟨g1,fun xv H3 hyl=>?_⟩
     obtain ⟨rfl,dx⟩:=g2 xv H3 hyl
     have ri:=Kv (r1.ext z2) js
     refine hg _ _ _ _ S2 H3 xv d _ ρ3 ri dx qx fun σ3 r3=>?_
     cases qc:c ρ3 with
     | none=>rw [qc] at y2;cases y2
     | some b=>
      rw [qc] at y2
      dsimp only at y2
      refine hc ρ3 σ3 S2 H3 _ b r3.toRl qc fun S4 H4 z4=>?_
      obtain ⟨al1,al2⟩:=z4.al D _ hy hSD
      cases b with
      | false=>
       rw [if_neg (by decide)] at y2
       exact yP ⟨_,by lia,rfl,hlt,S4,done,ys,eA,z2.trans z4,s2.trans z4.sh,al1,al2,dy.mono z4.sh,by lia,y2,rfl⟩
      | true=>
       rw [if_pos rfl] at y2
       cases qe:e ρ3 with
       | none=>rw [qe] at y2;cases y2
       | some dv=>
        rw [qe] at y2
        dsimp only at y2
        cases qr:eZ x c e (xc js ρ) (ds.drop (i + 1)) with
        | none=>rw [qr] at y2;cases y2
        | some rest2=>
         rw [qr] at y2
         cases y2
         refine yQ (he ρ3 σ3 S4 H4 _ dv (r3.toRl.ext z4) qe fun v S5 H5 z5 d5=>?_)
         obtain ⟨b1,b2⟩:=z5.al D _ al1 al2
         refine ⟨ys,b1,?_,_,by lia,rfl,hlt,S5,done ++ [dv],ys ++ [v],rest2,?_,(s2.trans z4.sh).trans z5.sh,a7,b2,((dy.mono z4.sh).mono z5.sh).append (.cons d5 .nil),by rw [List.length_append,List.length_singleton];lia,qr,by rw [List.append_assoc];rfl⟩
         ·rw [<- dy.length]
          exact Nat.lt_of_lt_of_le (Nat.lt_of_le_of_lt hdl hlt) (Nat.le_trans hlim (Nat.le_of_lt kj))
         ·have z6:=(z2.trans z4).trans z5
          exact ⟨z6.sh,fun b u hb=>by rw [aS fun z=>by subst z;rw [b2] at hb;cases hb];exact z6.sub b u hb,fun b o hb hn=>by
           obtain ⟨c1,c2⟩:=z6.alw b o hb hn
           exact ⟨by rw [aS fun z=>by subst z;rw [hD] at hb;cases hb];exact c1,c2⟩⟩
  ·cases y
@[simp] noncomputable def OU (i:Nat) (g:XG) (m:XS):XS:=fun ρ=>match ρ[i]? with
 | some (.ow (.lst os))=>(match nV os with
  | some l=>(match bO g m l (ρ.set i .lo) with
   | some (.nx ρ')=>(match ρ'[i]? with | some .lo=>some (.nx (ρ'.set i (.ow (.lst os)))) | _=>none)
   | some (.rt d)=>some (.rt d)
   | _=>none)
  | none=>none)
 | _=>none
noncomputable def gF (n:Nat) (x:XS) (ds:List D):Option O:=match x (ds.map .sh ++ List.replicate (n - ds.length) .un) with
 | some (.rt d)=>some (.sh d)
 | some (.ro o)=>some o
 | some (.nx _)=>some (.sh .non)
 | _=>none
theorem zR {N:List Str} {ds:List D} {vs:List V} (s:Same S H) (h:Dens K S ds vs):RlA K (ic S H) (fun _=>none) (ds.map .sh ++ List.replicate (N.length - ds.length) .un) (L2.bJ N vs) S H:=by
 have hl:=h.length
 have key:∀ (i:Nat) t,(ds.map Sl.sh ++ List.replicate (N.length - ds.length) .un)[i]? = some t -> t = .un \/ ∃ d v,t = .sh d /\ (L2.bJ N vs)[i]? = some (some v) /\ Den K S d v:=fun i t ht=>by
  by_cases hi:i < ds.length
  ·rw [List.getElem?_append_left (by rw [List.length_map];exact hi),List.getElem?_map] at ht
   cases q:ds[i]? with
   | none=>rw [q] at ht;cases ht
   | some d=>
    rw [q] at ht
    cases ht
    obtain ⟨v,e1,e2⟩:=h.get q
    refine .inr ⟨d,v,rfl,?_,e2⟩
    unfold L2.bJ
    rw [List.getElem?_append_left (by rw [List.length_map];lia),List.getElem?_map,e1]
    rfl
  ·rw [List.getElem?_append_right (by rw [List.length_map];lia),List.getElem?_replicate] at ht
   split at ht
   ·cases ht;exact .inl rfl
   ·cases ht
 refine ⟨fun _=>[],?_⟩
 exact {
  len:=by unfold L2.bJ;rw [List.length_append,List.length_append,List.length_map,List.length_map,List.length_replicate,List.length_replicate,hl]
  sub:=s
  sh:=fun i d hi=>by
   rcases key i _ hi with e | ⟨d',v,e,h1,h2⟩
   ·cases e
   ·cases e;exact ⟨v,h1,h2⟩
  ow:=fun i o hi=>by
   rcases key i _ hi with e | ⟨d',v,e,h1,h2⟩
   ·cases e
   ·cases e
  dj:=fun i j o o' _ hi=>by
   rcases key i _ hi with e | ⟨d',v,e,h1,h2⟩
   ·cases e
   ·cases e
  lo:=fun i hi=>by
   rcases key i _ hi with e | ⟨d',v,e,h1,h2⟩
   ·cases e
   ·cases e
  asub:=ve
  adis:=vd }
theorem fE {t:TS} {x:XS} {N:List Str} {n k:Nat} {vs:List V} {H:Hp} {Q:VK} {E:XK} (hs:SS K t x) (hN:N.length = n) (h:gH K k (gF n x) vs H Q E) :
  t { nx:=fun _ H'=>Q .non H',rt:=Q } (L2.bJ N vs) H:=by
 obtain ⟨_,S,ds,d,s,dd,y,q⟩:=h
 subst hN
 unfold gF at y
 have r:=zR (N:=N) s dd
 have ex:∀ {S' H':Hp},Same S S' -> Same S' H' -> Same (ic S H) H' -> (∀ b,S' b = none \/ ic S H b = none \/ ∃ u,ic S H b = some u /\ IT u) -> Ext S H S' H':=fun s1 s2 s3 s4=>⟨s1,s2,fun b o hb hn=>by
  have ha:=r8 hb hn
  refine ⟨s3 b o ha,?_⟩
  rcases s4 b with z | z | ⟨u,z,hu⟩
  ·exact .inl z
  ·rw [ha] at z;cases z
  ·rw [ha] at z;cases z;exact .inr hu⟩
 cases qx:x (ds.map .sh ++ List.replicate (N.length - ds.length) .un) with
 | none=>rw [qx] at y;cases y
 | some o=>
  rw [qx] at y
  refine hs _ _ _ _ S H _ o r qx ?_
  cases o with
  | rt d'=>
   cases y
   exact fun v S' H' s1 s2 s3 s4 dv=>q v [] S' H' (ex s1 s2 s3 s4) (own_sh.mpr ⟨rfl,dv⟩) .nil fun b hb=>by cases hb
  | ro o'=>
   cases y
   refine fun v fp S' H' s1 s2 s3 s4 ow nd n=>q v fp S' H' (ex s1 s2 s3 s4) ow nd fun b hb=>⟨?_,(n b hb).1⟩
   cases qb:H b with
   | none=>rfl
   | some u=>
    have:=r8 qb (s1.free (n b hb).1)
    rw [(n b hb).2] at this;cases this
  | nx ρ'=>
   cases y
   exact fun σ' S' H' r' s1=>q .non [] S' H' (ex s1 r'.sub r'.asub r'.adis) (own_sh.mpr ⟨rfl,den_non.mpr rfl⟩) .nil fun b hb=>by cases hb
  | bk ρ'=>cases y
  | ct ρ'=>cases y
end
noncomputable def dI (f:Int -> Int -> Option D):D -> D -> Option D
 | .int i,.int j=>f i j
 | _,_=>none
noncomputable def uy:D -> D -> Option D:=dI fun i j=>vI ((-18446744073709551616 < i /\ i < 18446744073709551616) \/ (-18446744073709551616 < j /\ j < 18446744073709551616)) (some (.int (i * j))) none
noncomputable def kO:D -> D -> Option D:=dI fun i j=>vI (0 < j /\ j < 1073741824) (some (.int (i / j))) none
noncomputable def fO:D -> D -> Option D:=dI fun i j=>vI (0 < j) (some (.int (i % j))) none
noncomputable def wP:D -> D -> Option D:=dI fun i j=>vI (0 <= j /\ j <= 1000000 /\ i.natAbs < 18446744073709551616) (some (.int (i ^ j.toNat))) none
noncomputable def ig:D -> D -> Option D:=dI fun i j=>some (.int (i - j))
noncomputable def Ls:D -> D -> Option D:=dI fun i j=>some (.bl (decide (i < j)))
noncomputable def Hr:D -> D -> Option D:=dI fun i j=>some (.bl (decide (i <= j)))
noncomputable def EO:D -> D -> Option D:=dI fun i j=>some (.bl (decide (j < i)))
noncomputable def Pa:D -> D -> Option D:=dI fun i j=>some (.bl (decide (j <= i)))
noncomputable def ka:D -> Option D
 | .int i=>some (.int (-i))
 | _=>none
section
variable {K:W.Frag}
theorem MX {C:Int -> Int -> Prop} {g:Int -> Int -> V} {f:Int -> Int -> Option D} (h:∀ i j d,f i j = some d -> C i j /\ k9 d = some (g i j)):uv K (rI C g) (dI f):=fun S H x y d e z Q s dx dy q k=>by
 cases d <;> cases e <;> try cases q
 rename_i i j
 obtain ⟨h1,h2⟩:=h i j z q
 exact ⟨i,j,dx.int,dy.int,h1,k _ S H (Ext.refl s) (jC h2)⟩
theorem Gf {g:Int -> Int -> V} {f:Int -> Int -> Option D} (h:∀ i j d,f i j = some d -> k9 d = some (g i j)):uv K (ER g) (dI f):=fun S H x y d e z Q s dx dy q k=>by
 cases d <;> cases e <;> try cases q
 rename_i i j
 exact ⟨i,j,dx.int,dy.int,k _ S H (Ext.refl s) (jC (h i j z q))⟩
theorem Gh:uv K (rI CMul fun i j=>.int (i * j)) uy:=MX fun i j d h=>by
 obtain ⟨c,rfl⟩:=lg h
 refine ⟨?_,rfl⟩
 unfold CMul
 have:(2:Int) ^ 64 = 18446744073709551616:=by decide
 rw [this]
 exact c
theorem oU:uv K (rI La fun i j=>.int (i / j)) kO:=MX fun i j d h=>by
 obtain ⟨c,rfl⟩:=lg h
 exact ⟨c,rfl⟩
theorem iX:uv K (rI (fun _ j=>0 < j) fun i j=>.int (i % j)) fO:=MX fun i j d h=>by
 obtain ⟨c,rfl⟩:=lg h
 exact ⟨c,rfl⟩
theorem Gi:uv K (rI JC fun i j=>.int (i ^ j.toNat)) wP:=MX fun i j d h=>by
 obtain ⟨c,rfl⟩:=lg h
 refine ⟨?_,rfl⟩
 unfold JC
 have:(2:Nat) ^ 64 = 18446744073709551616:=by decide
 rw [this]
 exact c
theorem gM:uv K (ER fun i j=>.int (i - j)) ig:=Gf fun i j d h=>by cases h;rfl
theorem Kr:uv K (ER fun i j=>.bl (decide (i < j))) Ls:=Gf fun i j d h=>by cases h;rfl
theorem Gg:uv K (ER fun i j=>.bl (decide (i <= j))) Hr:=Gf fun i j d h=>by cases h;rfl
theorem zJ:uv K (ER fun i j=>.bl (decide (j < i))) EO:=Gf fun i j d h=>by cases h;rfl
theorem iY:N9 K (rU fun i=>.int (-i)) ka:=fun S H x d g Q s dx q k=>by
 cases d <;> try cases q
 rename_i i
 exact ⟨i,dx.int,k _ S H (Ext.refl s) (den_int.mpr rfl)⟩
end
noncomputable def Ji:R2:=fun x y H Q=>∃ l b xs zs,x = .ref l /\ y = .ref b /\ Rd H l (.lst xs) /\ Rd H b (.lst zs) /\ xs.length + zs.length <= sizeLine /\ ∀ p,H p = none -> Q (.ref p) (d8 H p (.lst (xs ++ zs)))
noncomputable def Jp (K:W.Frag):R2:=fun x y H Q=>∃ a b xs ys,x = .ref a /\ y = .ref b /\ SqT K H a xs /\ SqT K H b ys /\ xs.length + ys.length <= sizeLine /\
 (ys = [] -> Q (.ref a) H) /\ (xs = [] -> Q (.ref b) H) /\ ∀ p,H p = none -> Q (.ref p) (d8 H p (.tup (xs ++ ys)))
noncomputable def Jo:R2:=fun x y H Q=>∃ i j,x = .str i /\ y = .str j /\ i.length + j.length <= sizeLine /\ Q (.str (i ++ j)) H
noncomputable def Jh (K:W.Frag):R2:=fun x y H Q=>(∃ i j,x = .int i /\ y = .int j /\ Q (.int (i + j)) H) \/ Ji x y H Q \/ Jp K x y H Q \/ Jo x y H Q
noncomputable def cJ:D -> D -> Option D
 | .int i,.int j=>some (.int (i + j))
 | .lst a,.lst b=>if a.length + b.length <= cG then some (.lst (a ++ b)) else none
 | .tup a,.tup b=>if a.length + b.length <= cG then some (.tup (a ++ b)) else none
 | .str a,.str b=>if a.length + b.length <= cG then some (.str (a ++ b)) else none
 | _,_=>none
section
variable {K:W.Frag}
theorem Dens.nil_iff {S:Hp} {ds:List D} {xs:List V} (h:Dens K S ds xs):xs = [] ↔ ds = []:=by
 have:=h.length
 cases ds <;> cases xs <;> simp_all
theorem nG {n:Nat} (h:n <= cG):n <= sizeLine:=Nat.le_of_lt (Nat.lt_of_le_of_lt h kj)
theorem b5:uv K (Jh K) cJ:=fun S H x y d e z Q s dx dy q k=>by
 cases d <;> cases e <;> try (cases q;done)
 ·rename_i i j
  cases q
  exact .inl ⟨i,j,dx.int,dy.int,k _ S H (Ext.refl s) (den_int.mpr rfl)⟩
 ·rename_i i j
  have q':(if i.length + j.length <= cG then some (D.str (i ++ j)) else none) = some z:=q
  split at q'
  ·rename_i hl
   cases q'
   exact .inr (.inr (.inr ⟨i,j,dx.str,dy.str,nG hl,k _ S H (Ext.refl s) (den_str.mpr rfl)⟩))
  ·cases q'
 ·rename_i a b
  have q':(if a.length + b.length <= cG then some (D.lst (a ++ b)) else none) = some z:=q
  split at q'
  ·rename_i hl
   cases q'
   obtain ⟨p,xs,rfl,h1,h2⟩:=dx.lst s
   obtain ⟨p',ys,rfl,h3,h4⟩:=dy.lst s
   refine .inr (.inl ⟨p,p',xs,ys,rfl,rfl,h1,h3,by rw [<- h2.length,<- h4.length];exact nG hl,fun q hq=>?_⟩)
   have z:=Ext.new (o:=.lst (xs ++ ys)) s hq
   exact k _ _ _ z (den_lst.mpr ⟨q,_,rfl,.inl a7,(h2.append h4).mono z.sh⟩)
  ·cases q'
 ·rename_i a b
  have q':(if a.length + b.length <= cG then some (D.tup (a ++ b)) else none) = some z:=q
  split at q'
  ·rename_i hl
   cases q'
   obtain ⟨p,xs,e1,h1,h2⟩:=dx.tup s
   obtain ⟨p',ys,e2,h3,h4⟩:=dy.tup s
   have dx':Den K S (.tup a) x:=dx.elim id fun ⟨_,_,_,e,_⟩=>by cases e
   have dy':Den K S (.tup b) y:=dy.elim id fun ⟨_,_,_,e,_⟩=>by cases e
   subst e1 e2
   refine .inr (.inr (.inl ⟨p,p',xs,ys,rfl,rfl,h1,h3,by rw [<- h2.length,<- h4.length];exact nG hl,fun e=>?_,fun e=>?_,fun q hq=>?_⟩))
   ·have:=h4.nil_iff.mp e
    subst this
    exact k _ S H (Ext.refl s) (by rw [List.append_nil];exact dx')
   ·have:=h2.nil_iff.mp e
    subst this
    exact k _ S H (Ext.refl s) (by rw [List.nil_append];exact dy')
   ·have z:=Ext.new (o:=.tup (xs ++ ys)) s hq
    exact k _ _ _ z (den_tup.mpr ⟨q,_,rfl,TpA.of a7,(h2.append h4).mono z.sh⟩)
  ·cases q'
end
mutual
noncomputable def kd:D -> D -> Bool
 | .non,.non=>true
 | .bl a,.bl b=>a == b
 | .bl a,.int j=>(if a then 1 else 0) == j
 | .int i,.bl b=>i == (if b then 1 else 0)
 | .int i,.int j=>i == j
 | .str x,.str y=>x == y
 | .lst a,.lst b=>eqDs a b
 | .tup a,.tup b=>eqDs a b
 | .tup a,.mtp b=>eqDs a b
 | .mtp a,.tup b=>eqDs a b
 | .mtp a,.mtp b=>eqDs a b
 | _,_=>false
noncomputable def eqDs:List D -> List D -> Bool
 | [],[]=>true
 | x :: xs,y :: ys=>kd x y && eqDs xs ys
 | _,_=>false
end
mutual
noncomputable def b9:Nat -> D -> Bool
 | _,.non=>true
 | _,.bl _=>true
 | _,.int _=>true
 | _,.str x=>PyData.strOk x
 | n + 1,.lst l=>okDs n l
 | n + 1,.tup l=>okDs n l
 | n + 1,.mtp l=>okDs n l
 | _,_=>false
noncomputable def okDs:Nat -> List D -> Bool
 | _,[]=>true
 | n,d :: l=>b9 n d && okDs n l
end
noncomputable def Kp (K:W.Frag) (neg:Bool):R2:=fun x y H Q=>∃ S d e,Same S H /\ DenP K S H d x /\ DenP K S H e y /\ b9 50 d = true /\ b9 50 e = true /\ Q (.bl (if neg then !kd d e else kd d e)) H
noncomputable def fN (neg:Bool) (d e:D):Option D:=if b9 50 d = true /\ b9 50 e = true then some (.bl (if neg then !kd d e else kd d e)) else none
section
variable {K:W.Frag}
theorem gX (neg:Bool):uv K (Kp K neg) (fN neg):=fun S H x y d e z Q s dx dy q k=>by
 unfold fN at q
 split at q
 ·rename_i c
  cases q
  exact ⟨S,d,e,s,dx,dy,c.1,c.2,k _ S H (Ext.refl s) (den_bl.mpr rfl)⟩
 ·cases q
end
noncomputable def ik:D -> Bool
 | .non=>true | _=>false
noncomputable def oj (neg:Bool) (d e:D):Option D:=match e with | .non=>some (.bl (if neg then !ik d else ik d)) | _=>none
section
variable {K:W.Frag}
theorem Cu {S H:Hp} {d:D} {v:V} (h:DenP K S H d v):decide (v = .non) = ik d:=by
 cases d with
 | non=>rw [h.non];rfl
 | bl b=>rw [h.bl];rfl
 | int b=>rw [h.int];rfl
 | str b=>rw [h.str];rfl
 | ty b=>rw [h.ty];rfl
 | lst l=>
  rcases h with h | ⟨_,p,_,_,e,_⟩
  ·obtain ⟨p,_,e,_⟩:=den_lst.mp h
   rw [e];rfl
  ·rw [e];rfl
 | tup l=>
  rcases h with h | ⟨_,p,_,_,e,_⟩
  ·obtain ⟨p,_,e,_⟩:=ii h
   rw [e];rfl
  ·rw [e];rfl
 | scr l=>
  rcases h with h | ⟨_,p,_,_,e,_⟩
  ·obtain ⟨p,_,e,_⟩:=den_scr.mp h
   rw [e];rfl
  ·rw [e];rfl
 | ins C ns l=>
  rcases h with h | ⟨_,p,_,_,e,_⟩
  ·obtain ⟨p,_,_,_,e,_⟩:=den_ins.mp h
   rw [e];rfl
  ·rw [e];rfl
 | dic ks=>
  rcases h with h | ⟨_,p,_,_,e,_⟩
  ·obtain ⟨p,e,_⟩:=den_dic.mp h
   rw [e];rfl
  ·rw [e];rfl
 | mtp l=>
  rcases h with h | ⟨_,p,_,_,e,_⟩
  ·obtain ⟨p,_,e,_⟩:=den_mtp.mp h
   rw [e];rfl
  ·rw [e];rfl
 | dif ks=>
  rcases h with h | ⟨_,p,_,_,e,_⟩
  ·obtain ⟨p,_,e,_⟩:=den_dif.mp h
   rw [e];rfl
  ·rw [e];rfl
theorem Jr:uv K Ni (oj false):=fun S H x y d e z Q s dx dy q k=>by
 cases e <;> try (cases q;done)
 cases q
 exact ⟨dy.non,by rw [Cu dx];exact k _ S H (Ext.refl s) (den_bl.mpr rfl)⟩
theorem Kt:uv K L3 (oj true):=fun S H x y d e z Q s dx dy q k=>by
 cases e <;> try (cases q;done)
 cases q
 exact ⟨dy.non,by rw [Cu dx];exact k _ S H (Ext.refl s) (den_bl.mpr rfl)⟩
end
noncomputable def cf:D -> D -> Option D
 | .lst l,.int i=>b7 l i
 | .tup l,.int i=>b7 l i
 | .scr l,.int i=>b7 l i
 | .mtp l,.int i=>b7 l i
 | .str x,.int i=>if x.length <= cG then (b7 x.cps.toList i).map fun c=>.str ⟨#[c]⟩ else none
 | _,_=>none
section
variable {K:W.Frag}
theorem n5 {S:Hp} {ds:List D} {xs:List V} {i:Int} {d:D} (h:Dens K S ds xs) (e:b7 ds i = some d):∃ v,b7 xs i = some v /\ Den K S d v:=by
 unfold b7 at e ⊢
 rw [<- h.length]
 cases q:x4 ds.length i with
 | none=>rw [q] at e;cases e
 | some j=>
  rw [q] at e
  exact h.get e
theorem bp:uv K (Nj K) cf:=fun S H x y d e z Q s dx dy q k=>by
 cases d <;> cases e <;> try (cases q;done)
 ·rename_i x' i
  have q':(if x'.length <= cG then (b7 x'.cps.toList i).map fun c=>D.str ⟨#[c]⟩ else none) = some z:=q
  split at q'
  ·rename_i hl
   cases qc:b7 x'.cps.toList i with
   | none=>rw [qc] at q';cases q'
   | some c=>
    rw [qc] at q'
    cases q'
    exact .inr (.inr ⟨x',i,c,dx.str,dy.int,nG hl,qc,k _ S H (Ext.refl s) (den_str.mpr rfl)⟩)
  ·cases q'
 ·rename_i l i
  obtain ⟨p,xs,rfl,h1,h2⟩:=dx.lst s
  obtain ⟨v,h3,h4⟩:=n5 h2 q
  exact .inl ⟨p,xs,i,v,rfl,dy.int,.inl h1,h3,k v S H (Ext.refl s) h4⟩
 ·rename_i l i
  obtain ⟨p,xs,rfl,h1,h2⟩:=dx.tup s
  obtain ⟨v,h3,h4⟩:=n5 h2 q
  exact .inr (.inl ⟨p,xs,i,v,rfl,dy.int,h1,h3,k v S H (Ext.refl s) h4⟩)
 ·rename_i l i
  obtain ⟨p,xs,rfl,h1,h2⟩:=dx.scr s
  obtain ⟨v,h3,h4⟩:=n5 h2 q
  exact .inl ⟨p,xs,i,v,rfl,dy.int,h1,h3,k v S H (Ext.refl s) h4⟩
 ·rename_i l i
  obtain ⟨p,xs,rfl,h1,h2⟩:=dx.mtp s
  obtain ⟨v,h3,h4⟩:=n5 h2 q
  exact .inr (.inl ⟨p,xs,i,v,rfl,dy.int,h1,h3,k v S H (Ext.refl s) h4⟩)
end
noncomputable def AG {α:Type} (xs:List α) (lo hi:Option Int):List α:=(xs.drop (HT.Nl xs.length 0 lo)).take (HT.Nl xs.length xs.length hi - HT.Nl xs.length 0 lo)
noncomputable abbrev XO:=Env -> Option (Option Int)
def SO (K:W.Frag) (t:TO) (o:XO):Prop:=∀ ρ σ S H (Q:Option Int -> Hp -> Prop) i,Rl K ρ σ S H -> o ρ = some i -> (∀ S' H',Ext S H S' H' -> Q i H') -> t σ H Q
@[simp] noncomputable def xZ:XO:=fun _=>some none
@[simp] noncomputable def Ai (a:XE):XO:=fun ρ=>(a ρ).bind fun d=>match d with | .int i=>some (some i) | _=>none
section
variable {K:W.Frag}
theorem zV:SO K C1 xZ:=fun ρ σ S H Q i r x k=>by cases x;exact k S H (Ext.refl r.sub)
theorem xK {ta:TE} {a:XE} (h:SPk K ta a):SO K (Jv ta) (Ai a):=fun ρ σ S H Q i r x k=>by
 obtain ⟨d,q,x⟩:=bind_some x
 cases d <;> try (cases x;done)
 rename_i j
 cases x
 exact h ρ σ S H _ _ r q fun v S1 H1 z1 d1=>⟨j,d1.int,k S1 H1 z1⟩
noncomputable def MN (d:D) (lo hi:Option Int):Option D:=match d with
 | .lst l=>some (.lst (AG l lo hi))
 | .tup l=>some (.tup (AG l lo hi))
 | .scr l=>some (.lst (AG l lo hi))
 | .mtp l=>some (.mtp (AG l lo hi))
 | _=>none
@[simp] noncomputable def PL (a:XE) (lo hi:XO):XE:=fun ρ=>(a ρ).bind fun d=>(lo ρ).bind fun l=>(hi ρ).bind fun h=>MN d l h
noncomputable def Jl (K:W.Frag):List V -> Hp -> VK -> Prop:=fun xs H Q=>∃ x n,xs = [x] /\ Lc K x H n /\ Q (.int n) H
noncomputable def gP:List D -> Option D
 | [.lst l]=>some (.int l.length)
 | [.tup l]=>some (.int l.length)
 | [.scr l]=>some (.int l.length)
 | [.mtp l]=>some (.int l.length)
 | [.str x]=>if x.length <= cG then some (.int x.length) else none
 | _=>none
theorem fA {S H:Hp} {d:D} {vs:List V} (h:DensP K S H [d] vs):∃ v,vs = [v] /\ DenP K S H d v:=by
 cases h with
 | cons a b=>cases b;exact ⟨_,rfl,a⟩
theorem G2 {S H:Hp} {d e:D} {vs:List V} (h:DensP K S H [d,e] vs):∃ v w,vs = [v,w] /\ DenP K S H d v /\ DenP K S H e w:=by
 cases h with
 | cons a b=>cases b with
  | cons c b=>cases b;exact ⟨_,_,rfl,a,c⟩
theorem gI:JG K (Jl K) gP:=fun S H vs ds g Q s d q k=>by
 unfold gP at q
 split at q
 ·rename_i l
  cases q
  obtain ⟨v,rfl,d1⟩:=fA d
  obtain ⟨p,xs,rfl,h1,h2⟩:=d1.lst s
  exact ⟨_,xs.length,rfl,.inl ⟨xs,.inl h1,rfl⟩,k _ S H (Ext.refl s) (den_int.mpr (by rw [h2.length]))⟩
 ·rename_i l
  cases q
  obtain ⟨v,rfl,d1⟩:=fA d
  obtain ⟨p,xs,rfl,h1,h2⟩:=d1.tup s
  exact ⟨_,xs.length,rfl,.inr ⟨xs,h1,rfl⟩,k _ S H (Ext.refl s) (den_int.mpr (by rw [h2.length]))⟩
 ·rename_i l
  cases q
  obtain ⟨v,rfl,d1⟩:=fA d
  obtain ⟨p,xs,rfl,h1,h2⟩:=d1.scr s
  exact ⟨_,xs.length,rfl,.inl ⟨xs,h1,rfl⟩,k _ S H (Ext.refl s) (den_int.mpr (by rw [h2.length]))⟩
 ·rename_i l
  cases q
  obtain ⟨v,rfl,d1⟩:=fA d
  obtain ⟨p,xs,rfl,h1,h2⟩:=d1.mtp s
  exact ⟨_,xs.length,rfl,.inr ⟨xs,h1,rfl⟩,k _ S H (Ext.refl s) (den_int.mpr (by rw [h2.length]))⟩
 ·rename_i x
  split at q
  ·rename_i hl
   cases q
   obtain ⟨v,rfl,d1⟩:=fA d
   exact ⟨_,x.length,rfl,by rw [d1.str];exact ⟨nG hl,rfl⟩,k _ S H (Ext.refl s) (den_int.mpr rfl)⟩
  ·cases q
 ·cases q
noncomputable def kU:List D -> Option D
 | [.lst l]=>some (.tup l)
 | [.tup l]=>some (.tup l)
 | [.scr l]=>some (.tup l)
 | _=>none
theorem rp:JG K (Kq K) kU:=fun S H vs ds g Q s d q k=>by
 unfold kU at q
 split at q
 ·rename_i l
  cases q
  obtain ⟨v,rfl,d1⟩:=fA d
  obtain ⟨p,xs,rfl,h1,h2⟩:=d1.lst s
  refine ⟨p,xs,rfl,.inl ⟨.inl h1,fun q hq=>?_⟩⟩
  have z:=Ext.new (o:=.tup xs) s hq
  exact k _ _ _ z (den_tup.mpr ⟨q,_,rfl,TpA.of a7,h2.mono z.sh⟩)
 ·rename_i l
  cases q
  obtain ⟨v,rfl,d1⟩:=fA d
  have d':Den K S (.tup l) v:=d1.elim id fun ⟨_,_,_,e,_⟩=>by cases e
  obtain ⟨p,xs,rfl,h1,h2⟩:=d1.tup s
  exact ⟨p,xs,rfl,.inr ⟨h1,k _ S H (Ext.refl s) d'⟩⟩
 ·rename_i l
  cases q
  obtain ⟨v,rfl,d1⟩:=fA d
  obtain ⟨p,xs,rfl,h1,h2⟩:=d1.scr s
  refine ⟨p,xs,rfl,.inl ⟨h1,fun q hq=>?_⟩⟩
  have z:=Ext.new (o:=.tup xs) s hq
  exact k _ _ _ z (den_tup.mpr ⟨q,_,rfl,TpA.of a7,h2.mono z.sh⟩)
 ·cases q
noncomputable def sf:List D -> Option (List D)
 | [.lst l]=>some l
 | [.tup l]=>some l
 | [.scr l]=>some l
 | _=>none
theorem E3:M8 K (L0 K) sf:=fun S H vs ds g Q s d q k=>by
 unfold sf at q
 split at q
 ·rename_i l
  cases q
  obtain ⟨v,rfl,d1⟩:=fA d
  obtain ⟨p,xs,rfl,h1,h2⟩:=d1.lst s
  exact ⟨p,xs,rfl,.inl (.inl h1),fun q hq=>k q xs _ (Ext.own s hq) hq a7 h2⟩
 ·rename_i l
  cases q
  obtain ⟨v,rfl,d1⟩:=fA d
  obtain ⟨p,xs,rfl,h1,h2⟩:=d1.tup s
  exact ⟨p,xs,rfl,.inr h1,fun q hq=>k q xs _ (Ext.own s hq) hq a7 h2⟩
 ·rename_i l
  cases q
  obtain ⟨v,rfl,d1⟩:=fA d
  obtain ⟨p,xs,rfl,h1,h2⟩:=d1.scr s
  exact ⟨p,xs,rfl,.inl h1,fun q hq=>k q xs _ (Ext.own s hq) hq a7 h2⟩
 ·cases q
noncomputable def B2:List D -> Option D
 | [.int i,.int j]=>some (.int (if j > i then j else i))
 | _=>none
noncomputable def Lq:List D -> Option D
 | [.int i,.int j]=>some (.int (if j < i then j else i))
 | _=>none
theorem JP:JG K L1 B2:=fun S H vs ds g Q s d q k=>by
 unfold B2 at q
 split at q
 ·rename_i i j
  cases q
  obtain ⟨v,w,rfl,d1,d2⟩:=G2 d
  exact ⟨i,j,by rw [d1.int,d2.int],k _ S H (Ext.refl s) (den_int.mpr rfl)⟩
 ·cases q
noncomputable def di:List D -> Option (List Int)
 | []=>some []
 | .int i :: l=>(di l).map fun r=>i :: r
 | _=>none
theorem l4 {S:Hp}:∀ {ds:List D} {xs:List V} {ns:List Int},Dens K S ds xs -> di ds = some ns -> xs = ns.map V.int /\ ds = ns.map D.int
 | [],xs,ns,h,e=>by cases e;exact ⟨h.nil_of,rfl⟩
 | d :: ds,xs,ns,h,e=>by
  obtain ⟨y,ys,rfl,h1,h2⟩:=h.cons_of
  cases d <;> try (cases e;done)
  rename_i i
  have e':(di ds).map (fun r=>i :: r) = some ns:=e
  cases q:di ds with
  | none=>rw [q] at e';cases e'
  | some ms=>
   rw [q] at e'
   cases e'
   obtain ⟨k1,k2⟩:=l4 h2 q
   rw [den_int.mp h1,k1]
   exact ⟨rfl,congrArg (D.int i :: ·) k2⟩
theorem jF:∀ ns:List Int,di (ns.map D.int) = some ns
 | []=>rfl
 | n :: ns=>by rw [List.map_cons,di,jF ns];rfl
noncomputable def O9:List D -> Option D
 | [.lst l]=>(di l).map fun ns=>.int ns.sum
 | _=>none
noncomputable def Lp:List D -> Option D
 | [.int i]=>some (.int i)
 | [.bl b]=>some (.int (if b then 1 else 0))
 | _=>none
@[simp] noncomputable def O2 (a:XE):XA:=fun ρ=>(a ρ).bind fun d=>match d with | .lst l=>some l.reverse | _=>none
noncomputable def Nn:D -> Option String
 | .non=>some "NoneType" | .bl _=>some "bool" | .int _=>some "int" | .str _=>some "str" | .lst _=>some "list" | .tup _=>some "tuple" | _=>none
noncomputable def II (t T:String):Bool:=t == T || (t == "bool" && T == "int")
def Ox (K:W.Frag) (H:Hp) (x:V) (t:String):Prop:=match x with
 | .non=>t = "NoneType" | .bl _=>t = "bool" | .int _=>t = "int" | .str _=>t = "str"
 | .ref p=>(t = "list" /\ ∃ xs,Rd H p (.lst xs)) \/ (t = "tuple" /\ ∃ xs,SqT K H p xs)
 | _=>False
noncomputable def LC:List String:=["bool", "int", "str", "list", "tuple"]
noncomputable def Jj (K:W.Frag):List V -> Hp -> VK -> Prop:=fun xs H Q=>∃ x T t,xs = [x,.ty T] /\ Ox K H x t /\ T ∈ LC /\ Q (.bl (II t T)) H
noncomputable def wK:List D -> Option D
 | [d,.ty T]=>if T ∈ LC then (Nn d).map fun t=>.bl (II t T) else none
 | _=>none
theorem Mr {S H:Hp} {d:D} {v:V} {t:String} (s:Same S H) (h:DenP K S H d v) (e:Nn d = some t):Ox K H v t:=by
 cases d with
 | non=>rw [h.non];cases e;rfl
 | bl b=>rw [h.bl];cases e;rfl
 | int b=>rw [h.int];cases e;rfl
 | str b=>rw [h.str];cases e;rfl
 | lst l=>
  cases e
  obtain ⟨p,xs,rfl,h1,h2⟩:=h.lst s
  exact .inl ⟨rfl,xs,h1⟩
 | tup l=>
  cases e
  obtain ⟨p,xs,rfl,h1,h2⟩:=h.tup s
  exact .inr ⟨rfl,xs,h1⟩
 | _=>cases e
theorem Lr:JG K (Jj K) wK:=fun S H vs ds g Q s d q k=>by
 unfold wK at q
 split at q
 ·rename_i d0 T
  split at q
  ·rename_i hT
   cases qt:Nn d0 with
   | none=>rw [qt] at q;cases q
   | some t=>
    rw [qt] at q
    cases q
    obtain ⟨v,w,rfl,d1,d2⟩:=G2 d
    exact ⟨v,T,t,by rw [d2.ty],Mr s d1 qt,hT,k _ S H (Ext.refl s) (den_bl.mpr rfl)⟩
  ·cases q
 ·cases q
end
noncomputable def u0 (k:List Int):D:=.tup (k.map D.int)
noncomputable def HG:D -> Option (List Int)
 | .tup l=>if l.isEmpty then none else di l
 | _=>none
noncomputable def keys:List D -> Option (List (List Int))
 | []=>some []
 | d :: l=>(HG d).bind fun k=>(keys l).map fun r=>k :: r
theorem yX:∀ a b:List Int,HT.cU a b = true -> HT.cU b a = false
 | [],[],h=>by cases h
 | [],_ :: _,_=>rfl
 | _ :: _,[],h=>by cases h
 | x :: a,y :: b,h=>by
  have h':(if x = y then HT.cU a b else decide (x < y)) = true:=h
  show (if y = x then HT.cU b a else decide (y < x)) = false
  by_cases e:x = y
  ·rw [if_pos e] at h';rw [if_pos e.symm];exact yX a b h'
  ·rw [if_neg e] at h';rw [if_neg (fun z=>e z.symm)]
   have:=of_decide_eq_true h'
   exact decide_eq_false (by lia)
theorem vN:∀ a b:List Int,HT.cU a b = false -> HT.cU b a = false -> a = b
 | [],[],_,_=>rfl
 | [],_ :: _,h,_=>by cases h
 | _ :: _,[],_,h=>by cases h
 | x :: a,y :: b,h,k=>by
  have h':(if x = y then HT.cU a b else decide (x < y)) = false:=h
  have k':(if y = x then HT.cU b a else decide (y < x)) = false:=k
  by_cases e:x = y
  ·rw [if_pos e] at h';rw [if_pos e.symm] at k'
   rw [e,vN a b h' k']
  ·rw [if_neg e] at h';rw [if_neg (fun z=>e z.symm)] at k'
   have:=of_decide_eq_false h'
   have:=of_decide_eq_false k'
   lia
theorem vO:∀ a b c:List Int,HT.cU a b = false -> HT.cU b c = false -> HT.cU a c = false
 | [],[],_,_,k=>k
 | [],_ :: _,_,h,_=>by cases h
 | _ :: _,_,[],_,_=>rfl
 | _ :: _,[],_ :: _,_,k=>by cases k
 | x :: a,y :: b,z :: c,h,k=>by
  have h':(if x = y then HT.cU a b else decide (x < y)) = false:=h
  have k':(if y = z then HT.cU b c else decide (y < z)) = false:=k
  show (if x = z then HT.cU a c else decide (x < z)) = false
  by_cases e1:x = y
  ·rw [if_pos e1] at h'
   subst e1
   by_cases e2:x = z
   ·rw [if_pos e2] at k' ⊢;exact vO a b c h' k'
   ·rw [if_neg e2] at k' ⊢;exact k'
  ·rw [if_neg e1] at h'
   have g1:=of_decide_eq_false h'
   by_cases e2:y = z
   ·subst e2
    rw [if_neg e1];exact h'
   ·rw [if_neg e2] at k'
    have g2:=of_decide_eq_false k'
    rw [if_neg (by lia)]
    exact decide_eq_false (by lia)
noncomputable def DG (x:List Int):List (List Int) -> List (List Int)
 | []=>[x]
 | y :: l=>if HT.cU y x = true then y :: DG x l else x :: y :: l
noncomputable def iA (ks:List (List Int)):List (List Int):=ks.foldr DG []
theorem vJ (x:List Int) (l:List (List Int)):(DG x l).Perm (x :: l):=by
 induction l with
 | nil=>exact .refl _
 | cons y l ih=>
  unfold DG
  split
  ·exact (ih.cons y).trans (.swap x y l)
  ·exact .refl _
noncomputable def qT (ns:List Int):List Int:=ns.mergeSort fun a b=>decide (a <= b)
theorem iB (ks:List (List Int)):(iA ks).Perm ks:=by
 induction ks with
 | nil=>exact .refl _
 | cons x l ih=>exact (vJ x (iA l)).trans (ih.cons x)
theorem nO (ns:List Int):(qT ns).Perm ns:=List.mergeSort_perm _ _
theorem Hz (x:List Int) (l:List (List Int)) (h:l.Pairwise fun a b=>HT.cU b a = false):(DG x l).Pairwise fun a b=>HT.cU b a = false:=by
 induction l with
 | nil=>exact .cons (fun _ z=>by cases z) .nil
 | cons y l ih=>
  have hy:∀ z,z ∈ l -> HT.cU z y = false:=fun z hz=>List.rel_of_pairwise_cons h hz
  unfold DG
  cases q:HT.cU y x with
  | true=>
   refine .cons (fun z hz=>?_) (ih (List.Pairwise.of_cons h))
   rcases List.mem_cons.mp ((vJ x l).mem_iff.mp hz) with rfl | hz
   ·exact yX y _ q
   ·exact hy z hz
  | false=>
   refine .cons (fun z hz=>?_) h
   rcases List.mem_cons.mp hz with rfl | hz
   ·exact q
   ·exact vO z y x (hy z hz) q
theorem ud (ks:List (List Int)):(iA ks).Pairwise fun a b=>HT.cU b a = false:=by
 induction ks with
 | nil=>exact .nil
 | cons x l ih=>exact Hz x (iA l) ih
theorem GM (ns:List Int):(qT ns).Pairwise (· <= ·):=by
 have h:=List.pairwise_mergeSort (le:=fun a b:Int=>decide (a <= b)) (fun a b c h k=>by
  have:=of_decide_eq_true h;have:=of_decide_eq_true k;exact decide_eq_true (by lia)) (fun a b=>by
  by_cases h:a <= b
  ·simp [h]
  ·simp [show b <= a by lia]) ns
 exact h.imp fun {a b} e=>of_decide_eq_true e
theorem BB {ks js:List (List Int)} (hp:js.Perm ks) (hw:js.Pairwise fun a b=>HT.cU b a = false):js = iA ks:=
 List.Perm.eq_of_pairwise (fun a b _ _ h k=>vN a b k h) hw (ud ks) (hp.trans (iB ks).symm)
theorem BA {ns ms:List Int} (hp:ms.Perm ns) (hw:ms.Pairwise (· <= ·)):ms = qT ns:=
 List.Perm.eq_of_pairwise (fun a b _ _ h k=>by lia) hw (GM ns) (hp.trans (nO ns).symm)
noncomputable def Ge (K:W.Frag):List V -> Hp -> VK -> Prop:=fun xs H Q=>∃ p,∃ yks:List (V × List Int),xs = [.ref p] /\ SqL K H p (yks.map (·.1)) /\ yks.length < 30000 /\ (∀ yk ∈ yks,∃ q,yk.1 = .ref q /\ SqT K H q (yk.2.map V.int) /\ yk.2 ≠ []) /\
 ∀ (zks:List (V × List Int)) l,zks.Perm yks -> zks.Pairwise (fun a b=>HT.cU b.2 a.2 = false) -> H l = none -> Q (.ref l) (d8 H l (.lst (zks.map (·.1))))
noncomputable def zG (K:W.Frag):List V -> Hp -> VK -> Prop:=fun xs H Q=>zF K xs H Q \/ Ge K xs H Q
noncomputable def lU:List D -> Option (List D)
 | [.lst l]=>if l.length < 30000 then (match di l with
  | some ns=>some ((qT ns).map D.int)
  | none=>(keys l).map fun ks=>(iA ks).map u0) else none
 | _=>none
section
variable {K:W.Frag}
theorem HH {d:D} {k:List Int} (h:HG d = some k):d = u0 k /\ k ≠ []:=by
 cases d <;> try (cases h;done)
 rename_i l
 have h':(if l.isEmpty then none else di l) = some k:=h
 split at h'
 ·cases h'
 ·rename_i hne
  have key:∀ (l:List D) (k:List Int),di l = some k -> l = k.map D.int:=by
   intro l
   induction l with
   | nil=>intro k e;cases e;rfl
   | cons d l ih=>
    intro k e
    cases d <;> try (cases e;done)
    rename_i i
    have e':(di l).map (fun r=>i :: r) = some k:=e
    cases q:di l with
    | none=>rw [q] at e';cases e'
    | some m=>rw [q] at e';cases e';rw [ih m q];rfl
  have e:=key l k h'
  subst e
  exact ⟨rfl,fun z=>by subst z;exact hne rfl⟩
theorem Cp:∀ {l:List D} {ks:List (List Int)},keys l = some ks -> l = ks.map u0 /\ ∀ k ∈ ks,k ≠ []
 | [],ks,h=>by cases h;exact ⟨rfl,fun _ h=>by cases h⟩
 | d :: l,ks,h=>by
  have h':((HG d).bind fun k=>(keys l).map fun r=>k :: r) = some ks:=h
  cases q:HG d with
  | none=>rw [q] at h';cases h'
  | some k=>
   rw [q] at h'
   dsimp only [Option.bind] at h'
   cases q2:keys l with
   | none=>rw [q2] at h';cases h'
   | some r=>
    rw [q2] at h'
    cases h'
    obtain ⟨a,b⟩:=Cp q2
    obtain ⟨c,d⟩:=HH q
    refine ⟨by rw [List.map_cons,<- a,<- c],fun k hk=>?_⟩
    rcases List.mem_cons.mp hk with rfl | hk
    ·exact d
    ·exact b k hk
theorem sV:∀ {S:Hp} {k:List Int} {xs:List V},Dens K S (k.map D.int) xs -> xs = k.map V.int
 | S,[],xs,h=>h.nil_of
 | S,i :: k,xs,h=>by
  obtain ⟨y,ys,rfl,h1,h2⟩:=h.cons_of
  rw [den_int.mp h1,sV h2]
  rfl
theorem yG {S:Hp}:∀ {ks:List (List Int)} {xs:List V},Dens K S (ks.map u0) xs -> (xs.zip ks).map (·.1) = xs /\ (xs.zip ks).map (·.2) = ks /\ (xs.zip ks).length = ks.length /\ ∀ yk ∈ xs.zip ks,Den K S (u0 yk.2) yk.1
 | [],xs,h=>by rw [h.nil_of];exact ⟨rfl,rfl,rfl,fun _ h=>by cases h⟩
 | k :: ks,xs,h=>by
  obtain ⟨y,ys,rfl,h1,h2⟩:=h.cons_of
  obtain ⟨a,b,c,d⟩:=yG h2
  refine ⟨by rw [List.zip_cons_cons,List.map_cons,a],by rw [List.zip_cons_cons,List.map_cons,b],by rw [List.zip_cons_cons,List.length_cons,c,List.length_cons],fun yk hm=>?_⟩
  rw [List.zip_cons_cons] at hm
  rcases List.mem_cons.mp hm with rfl | hm
  ·exact h1
  ·exact d yk hm
theorem mE {S:Hp}:∀ {zks:List (V × List Int)},(∀ yk ∈ zks,Den K S (u0 yk.2) yk.1) -> Dens K S ((zks.map (·.2)).map u0) (zks.map (·.1))
 | [],_=>.nil
 | yk :: zks,h=>.cons (h yk List.mem_cons_self) (mE fun z hz=>h z (List.mem_cons_of_mem _ hz))
theorem ym:M8 K (zG K) lU:=fun S H vs ds g Q s d q k=>by
 unfold lU at q
 split at q
 ·rename_i l
  split at q
  ·rename_i hl
   obtain ⟨v,rfl,d1⟩:=fA d
   obtain ⟨p,xs,rfl,h1,h2⟩:=d1.lst s
   cases qi:di l with
   | some ns=>
    rw [qi] at q
    cases q
    obtain ⟨e1,e2⟩:=l4 h2 qi
    subst e1 e2
    refine .inl ⟨p,ns,rfl,.inl h1,by rw [List.length_map] at hl;exact hl,fun ms a pm pw ha=>?_⟩
    rw [BA pm pw]
    refine k a _ _ (Ext.own s ha) ha a7 ?_
    have key:∀ ns:List Int,Dens K S (ns.map D.int) (ns.map V.int):=by
     intro ns
     induction ns with
     | nil=>exact .nil
     | cons n ns ih=>exact .cons (den_int.mpr rfl) ih
    exact key _
   | none=>
    rw [qi] at q
    dsimp only at q
    cases qk:keys l with
    | none=>rw [qk] at q;cases q
    | some ks=>
     rw [qk] at q
     cases q
     obtain ⟨e1,e2⟩:=Cp qk
     subst e1
     obtain ⟨a,b,c,dd⟩:=yG h2
     refine .inr ⟨p,xs.zip ks,rfl,by rw [a];exact .inl h1,by rw [c];rw [List.length_map] at hl;exact hl,fun yk hm=>?_,fun zks l pm pw hl=>?_⟩
     ·obtain ⟨q,ys,e,g1,g2⟩:=ii (dd yk hm)
      have:=sV g2
      subst this
      refine ⟨q,e,br s g1,e2 _ ?_⟩
      rw [<- b]
      exact List.mem_map.mpr ⟨yk,hm,rfl⟩
     ·have e:zks.map (·.2) = iA ks:=by
       refine BB ?_ ?_
       ·rw [<- b];exact pm.map _
       ·rw [List.pairwise_map];exact pw
      have dz:Dens K S ((zks.map (·.2)).map u0) (zks.map (·.1)):=mE fun yk hm=>dd yk (pm.mem_iff.mp hm)
      rw [e] at dz
      exact k l _ _ (Ext.own s hl) hl a7 dz
  ·cases q
 ·cases q
theorem p8 {ta:TE} {a:XE} (ha:SPk K ta a):ST K (Mp K ta) (rk a):=Ma ha
end
noncomputable def yz:D -> D -> Option D:=dI fun i j=>some (.int (i + j))
section
variable {K:W.Frag}
theorem Ih:uv K (Ol fun i j=>i + j) yz:=Gf (g:=fun i j=>.int (i + j)) fun i j d h=>by cases h;rfl
end
theorem KA {K:W.Frag} {ta:TE} {a:XE} (ha:SQ K ta a):ST K (Mp K ta) (rk a):=fun ρ σ S H Q b r x k=>by
 obtain ⟨da,qa,x⟩:=bind_some x
 exact ha ρ σ S H _ da r qa fun v S1 H1 z1 d1=>⟨b,G1 (Same.refl H1) (.inl d1) x,k S1 H1 z1⟩
theorem A3 (g:XG) (m:XS) (d:D) (l:List D) (ρ:Env):bO g m (d :: l) ρ = (g d ρ).bind fun ρ1=>match m ρ1 with
  | some (.nx ρ2)=>bO g m l ρ2
  | some (.ct ρ2)=>bO g m l ρ2
  | some (.bk ρ2)=>some (.nx ρ2)
  | some (.rt d)=>some (.rt d)
  | some (.ro d)=>some (.ro d)
  | none=>none:=rfl
theorem DR {α:Type} {g:XG} {m:XS} (enc:α -> D) (P:List α -> Env -> Prop) (R:D -> Prop) (B:Env -> Prop) (l:List α) (ρ0:Env) (h0:P [] ρ0)
  (step:∀ pre a post ρ,l = pre ++ a :: post -> P pre ρ -> ∃ ρ1 o,g (enc a) ρ = some ρ1 /\ m ρ1 = some o /\ (match o with | .nx ρ2=>P (pre ++ [a]) ρ2 | .ct ρ2=>P (pre ++ [a]) ρ2 | .bk ρ2=>B ρ2 | .rt d=>R d | .ro _=>False)) :
  ∃ o,bO g m (l.map enc) ρ0 = some o /\ (match o with | .nx ρ'=>P l ρ' \/ B ρ' | .rt d=>R d | _=>False):=by
 have key:∀ (post pre:List α) (ρ:Env),l = pre ++ post -> P pre ρ -> ∃ o,bO g m (post.map enc) ρ = some o /\ (match o with | .nx ρ'=>P l ρ' \/ B ρ' | .rt d=>R d | _=>False):=by
  intro post
  induction post with
  | nil=>
   intro pre ρ e p
   rw [List.append_nil] at e
   subst e
   exact ⟨_,rfl,.inl p⟩
  | cons a post ih=>
   intro pre ρ e p
   obtain ⟨ρ1,o,h1,h2,h3⟩:=step pre a post ρ e p
   rw [List.map_cons,A3,h1]
   dsimp only [Option.bind]
   rw [h2]
   cases o with
   | nx ρ2=>exact ih (pre ++ [a]) ρ2 (by rw [e,List.append_assoc];rfl) h3
   | ct ρ2=>exact ih (pre ++ [a]) ρ2 (by rw [e,List.append_assoc];rfl) h3
   | bk ρ2=>exact ⟨_,rfl,.inr h3⟩
   | rt d=>exact ⟨_,rfl,h3⟩
   | ro d=>exact h3.elim
 exact key l [] ρ0 rfl h0
theorem vP {α:Type} {g:XG} {m:XS} (enc:α -> D) (P:List α -> Env -> Prop) (l:List α) (ρ0:Env) (h0:P [] ρ0)
  (step:∀ pre a post ρ,l = pre ++ a :: post -> P pre ρ -> ∃ ρ1 ρ2,g (enc a) ρ = some ρ1 /\ (m ρ1 = some (.nx ρ2) \/ m ρ1 = some (.ct ρ2)) /\ P (pre ++ [a]) ρ2) :
  ∃ ρ',bO g m (l.map enc) ρ0 = some (.nx ρ') /\ P l ρ':=by
 obtain ⟨o,h1,h2⟩:=DR (g:=g) (m:=m) enc P (fun _=>False) (fun _=>False) l ρ0 h0 fun pre a post ρ e p=>by
  obtain ⟨ρ1,ρ2,k1,k2,k3⟩:=step pre a post ρ e p
  rcases k2 with k2 | k2
  ·exact ⟨ρ1,_,k1,k2,k3⟩
  ·exact ⟨ρ1,_,k1,k2,k3⟩
 cases o with
 | nx ρ'=>exact ⟨ρ',h1,h2.elim id False.elim⟩
 | rt d=>exact h2.elim
 | ro d=>exact h2.elim
 | bk ρ'=>exact h2.elim
 | ct ρ'=>exact h2.elim
noncomputable def nJ (g:XG) (c:XT) (e:XE) (ρ0:Env) (d:D):Option (Option D):=(g d ρ0).bind fun ρ1=>(c ρ1).bind fun b=>if b = true then (e ρ1).map some else some none
theorem ie {α:Type} {g:XG} {c:XT} {e:XE} {ρ0:Env} (enc:α -> D) (f:α -> Option D):∀ (l:List α),(∀ a ∈ l,nJ g c e ρ0 (enc a) = some (f a)) -> eZ g c e ρ0 (l.map enc) = some (l.filterMap f)
 | [],_=>rfl
 | a :: l,h=>by
  have ih:=ie (g:=g) (c:=c) (e:=e) (ρ0:=ρ0) enc f l fun b hb=>h b (List.mem_cons_of_mem _ hb)
  have h1:=h a List.mem_cons_self
  unfold nJ at h1
  rw [List.map_cons,eZ]
  cases q1:g (enc a) ρ0 with
  | none=>rw [q1] at h1;cases h1
  | some ρ1=>
   rw [q1] at h1
   dsimp only [Option.bind] at h1 ⊢
   cases q2:c ρ1 with
   | none=>rw [q2] at h1;cases h1
   | some b=>
    rw [q2] at h1
    dsimp only at h1 ⊢
    cases b with
    | false=>
     rw [if_neg (by decide)] at h1 ⊢
     rw [ih,List.filterMap_cons]
     have:f a = none:=(Option.some.inj h1).symm
     rw [this]
    | true=>
     rw [if_pos rfl] at h1 ⊢
     cases q3:e ρ1 with
     | none=>rw [q3] at h1;cases h1
     | some y=>
      rw [q3] at h1
      have:f a = some y:=(Option.some.inj h1).symm
      rw [ih,List.filterMap_cons,this]
      rfl
theorem g9 {α:Type} {g:XG} {e:XE} {ρ0:Env} (enc:α -> D) (f:α -> D) (l:List α) (h:∀ a ∈ l,nJ g nS e ρ0 (enc a) = some (some (f a))):eZ g nS e ρ0 (l.map enc) = some (l.map f):=by
 rw [ie enc (fun a=>some (f a)) l h]
 exact congrArg some (congrFun List.filterMap_eq_map' l)
theorem BR {c:XT} {m:XS} (P:Env -> Prop) (μ:Env -> Nat) (E:Env -> Prop) (step:∀ ρ,P ρ -> (c ρ = some false /\ E ρ) \/ (c ρ = some true /\ ∃ ρ2,m ρ = some (.nx ρ2) /\ P ρ2 /\ μ ρ2 < μ ρ)) (ρ0:Env) (h0:P ρ0):∃ ρ',iG c m ρ0 = some (.nx ρ') /\ E ρ':=by
 have key:∀ (n:Nat) (ρ:Env),μ ρ = n -> P ρ -> ∃ ρ',iG c m ρ = some (.nx ρ') /\ E ρ':=by
  intro n
  induction n using Nat.strongRecOn with
  | ind n ih=>
   intro ρ hn p
   rcases step ρ p with ⟨h1,h2⟩ | ⟨h1,ρ2,h2,h3,h4⟩
   ·exact ⟨ρ,BQ h1,h2⟩
   ·obtain ⟨ρ',k1,k2⟩:=ih (μ ρ2) (by lia) ρ2 rfl h3
    exact ⟨ρ',Al h1 h2 k1,k2⟩
 exact key _ ρ0 rfl h0
noncomputable abbrev gL (p:Int × Int):D:=.tup [.int p.1,.int p.2]
noncomputable abbrev Eo (r:List (Int × Int)):D:=.tup (r.map gL)
noncomputable abbrev DS (r:List (Int × Int)):D:=.lst (r.map gL)
@[simp] theorem jA {α:Type} (l:List α) (x:α):b7 (l ++ [x]) (-1) = some x:=by
 unfold b7 x4
 rw [if_neg (by decide),List.length_append,List.length_singleton,if_pos (by lia)]
 have:((-1:Int) + ((l.length + 1:Nat):Int)).toNat = l.length:=by lia
 dsimp only [Option.bind]
 rw [this]
 simp
theorem aN {α:Type} {l:List α} {j:Nat} {x:α} (h:l[j]? = some x):b7 l (j:Int) = some x:=by
 have:=(List.getElem?_eq_some_iff.mp h).1
 unfold b7 x4
 rw [if_pos (by lia),if_pos (by lia)]
 dsimp only [Option.bind]
 rw [Int.toNat_natCast]
 exact h
@[simp] theorem vY (l:List O) (x:O) (f:O -> O):tZ (l ++ [x]) (-1) f = l ++ [f x]:=by
 unfold tZ x4
 rw [if_neg (by decide),List.length_append,List.length_singleton,if_pos (by lia)]
 have:((-1:Int) + ((l.length + 1:Nat):Int)).toNat = l.length:=by lia
 dsimp only
 rw [this]
 simp
@[simp] theorem K6 {α:Type} (l:List α) (a b:α):b7 (l ++ [a,b]) (-1) = some b:=by
 have:=jA (l ++ [a]) b
 rw [List.append_assoc] at this
 exact this
@[simp] theorem ML {α:Type} (a:α):b7 [a] (-1) = some a:=jA [] a
@[simp] theorem Ko (l:List O) (a b:O) (f:O -> O):tZ (l ++ [a,b]) (-1) f = l ++ [a,f b]:=by
 have:=vY (l ++ [a]) b f
 rw [List.append_assoc,List.append_assoc] at this
 exact this
@[simp] theorem LP (a:O) (f:O -> O):tZ [a] (-1) f = [f a]:=vY [] a f
@[simp] theorem Lv (i:Int):k9 (.int i) = some (.int i):=rfl
@[simp] theorem MQ (i:Bool):k9 (.bl i) = some (.bl i):=rfl
@[simp] theorem Ly (i:Str):k9 (.str i) = some (.str i):=rfl
@[simp] theorem Lx:k9 .non = some .non:=rfl
@[simp] theorem MW (a b:O) (f:O -> O):tZ [a,b] 1 f = [a,f b]:=rfl
theorem lm {n:Nat}:x4 (n + 1) (-1) = some n:=by
 unfold x4
 rw [if_neg (by decide),if_pos (by lia)]
 congr 1
 lia
section
variable (i j:Int) (a b:List D) (neg:Bool) (ρ:Env)
@[simp] theorem OO:ig (.int i) (.int j) = some (.int (i - j)):=rfl
@[simp] theorem Oz:cJ (.int i) (.int j) = some (.int (i + j)):=rfl
@[simp] theorem No:yz (.int i) (.int j) = some (.int (i + j)):=rfl
@[simp] theorem Px:Ls (.int i) (.int j) = some (.bl (decide (i < j))):=rfl
@[simp] theorem Pw:Hr (.int i) (.int j) = some (.bl (decide (i <= j))):=rfl
@[simp] theorem Pv:EO (.int i) (.int j) = some (.bl (decide (j < i))):=rfl
@[simp] theorem Pu:Pa (.int i) (.int j) = some (.bl (decide (j <= i))):=rfl
@[simp] theorem OI:ka (.int i) = some (.int (-i)):=rfl
@[simp] theorem xW {i j:Int} (h:-18446744073709551616 < j /\ j < 18446744073709551616):uy (.int i) (.int j) = some (.int (i * j)):=fv (.inr h)
@[simp] theorem NC {i j:Int} (h:-18446744073709551616 < i /\ i < 18446744073709551616):uy (.int i) (.int j) = some (.int (i * j)):=fv (.inl h)
@[simp] theorem uo {i j:Int} (h:0 < j /\ j < 1073741824):kO (.int i) (.int j) = some (.int (i / j)):=fv h
@[simp] theorem mM {i j:Int} (h:0 < j):fO (.int i) (.int j) = some (.int (i % j)):=fv h
@[simp] theorem Jz {i j:Int} (h:0 <= j /\ j <= 1000000 /\ i.natAbs < 18446744073709551616):wP (.int i) (.int j) = some (.int (i ^ j.toNat)):=fv h
@[simp] theorem OB (d:D):oj neg d .non = some (.bl (if neg then !ik d else ik d)):=rfl
@[simp] theorem Mu:ik .non = true:=rfl
@[simp] theorem Mv:ik (.int i) = false:=rfl
@[simp] theorem Mw:ik (.tup a) = false:=rfl
@[simp] theorem OC:cf (.lst a) (.int i) = b7 a i:=rfl
@[simp] theorem OE:cf (.tup a) (.int i) = b7 a i:=rfl
@[simp] theorem OD:cf (.scr a) (.int i) = b7 a i:=rfl
@[simp] theorem NJ:Ah (.lst a) = some (!a.isEmpty):=rfl
@[simp] theorem NM:Ah (.tup a) = some (!a.isEmpty):=rfl
@[simp] theorem NL:Ah (.scr a) = some (!a.isEmpty):=rfl
@[simp] theorem NH (x:Bool):Ah (.bl x) = some x:=rfl
@[simp] theorem NI:Ah (.int i) = some (i != 0):=rfl
@[simp] theorem NK:Ah .non = some false:=rfl
@[simp] theorem Nv:gP [.lst a] = some (.int a.length):=rfl
@[simp] theorem Ny:gP [.tup a] = some (.int a.length):=rfl
@[simp] theorem Nw:gP [.scr a] = some (.int a.length):=rfl
@[simp] theorem NO:kU [.lst a] = some (.tup a):=rfl
@[simp] theorem NP:kU [.tup a] = some (.tup a):=rfl
@[simp] theorem Nz:sf [.lst a] = some a:=rfl
@[simp] theorem NB:sf [.tup a] = some a:=rfl
@[simp] theorem NA:sf [.scr a] = some a:=rfl
@[simp] theorem OG:B2 [.int i,.int j] = some (.int (if j > i then j else i)):=rfl
@[simp] theorem OH:Lq [.int i,.int j] = some (.int (if j < i then j else i)):=rfl
@[simp] theorem OA:Lp [.int i] = some (.int i):=rfl
@[simp] theorem Np (x:Bool):Lp [.bl x] = some (.int (if x then 1 else 0)):=rfl
@[simp] theorem ND:Iy (.lst a) = some a:=rfl
@[simp] theorem NG:Iy (.tup a) = some a:=rfl
@[simp] theorem NF:Iy (.scr a) = some a:=rfl
@[simp] theorem OJ (lo hi:Option Int):MN (.lst a) lo hi = some (.lst (AG a lo hi)):=rfl
@[simp] theorem OM (lo hi:Option Int):MN (.tup a) lo hi = some (.tup (AG a lo hi)):=rfl
@[simp] theorem OL (lo hi:Option Int):MN (.scr a) lo hi = some (.lst (AG a lo hi)):=rfl
@[simp] theorem Pt (y:EX):c7 y (.tup a) ρ = y a ρ:=rfl
@[simp] theorem Pr (x:XG) (y:EX) (d:D):aJ x y (d :: a) ρ = (x d ρ).bind (y a):=rfl
@[simp] theorem Ps:cV [] ρ = some ρ:=rfl
@[simp] theorem Nr:wK [.int i,.ty "int"] = some (.bl true):=rfl
@[simp] theorem Nq:wK [.int i,.ty "bool"] = some (.bl false):=rfl
@[simp] theorem Nu:wK [.tup a,.ty "tuple"] = some (.bl true):=rfl
@[simp] theorem Nt:wK [.lst a,.ty "list"] = some (.bl true):=rfl
@[simp] theorem M2 (x:Bool):wK [.bl x,.ty "bool"] = some (.bl true):=rfl
end
noncomputable abbrev vT (l:List D):Sl:=.ow (.lst (l.map O.sh))
@[simp] theorem LM (os:List O):F4 (.ow (.lst os)) = (nV os).map D.lst:=rfl
@[simp] theorem MZ:nV [] = some []:=rfl
@[simp] theorem zX (d:D) (l:List O):nV (.sh d :: l) = (nV l).map fun r=>d :: r:=rfl
@[simp] theorem Md (l:List D):nV (l.map O.sh) = some l:=rJ l
@[simp] theorem GI {α:Type} (f:α -> D) (l:List α):nV (l.map (O.sh ∘ f)) = some (l.map f):=by rw [<- List.map_map];exact rJ _
@[simp] theorem Me {α:Type} (f:α -> D) (l:List α):nV (l.map fun a=>O.sh (f a)) = some (l.map f):=GI f l
@[simp] theorem Iz:∀ (a b:List O),nV (a ++ b) = (nV a).bind fun x=>(nV b).map fun y=>x ++ y
 | [],b=>by cases h:nV b <;> simp [h]
 | .sh d :: a,b=>by
  rw [List.cons_append,zX,zX,Iz a b]
  cases nV a with
  | none=>rfl
  | some x=>cases nV b <;> rfl
 | .dic _ :: _,_=>rfl
 | .hd _ _ _ :: _,_=>rfl
 | .lst _ :: a,b=>rfl
 | .tup _ :: a,b=>rfl
@[simp] theorem Mg (o:O):eM o [] = some o:=by unfold eM;rfl
@[simp] theorem Mf (l:List O) (k:Int) (r:List Int):eM (.lst l) (k :: r) = (b7 l k).bind fun o=>eM o r:=rfl
@[simp] theorem Mh (l:List O) (k:Int) (r:List Int):eM (.tup l) (k :: r) = (b7 l k).bind fun o=>eM o r:=rfl
@[simp] theorem LS (o q:O):kt o [] q = q:=by unfold kt;rfl
@[simp] theorem LQ (l:List O) (k:Int) (r:List Int) (q:O):kt (.lst l) (k :: r) q = .lst (tZ l k fun o=>kt o r q):=rfl
@[simp] theorem LU (l:List O) (k:Int) (r:List Int) (q:O):kt (.tup l) (k :: r) q = .tup (tZ l k fun o=>kt o r q):=rfl
@[simp] theorem M6 (d:D):O.d (.sh d) = d:=by unfold O.d;rfl
@[simp] theorem MB (l:List O):O.d (.lst l) = .lst (O.ds l):=by rw [O.d]
@[simp] theorem MC (l:List O):O.d (.tup l) = .tup (O.ds l):=by rw [O.d]
@[simp] theorem Lg:O.ds [] = []:=by rw [O.ds]
@[simp] theorem Dc (o:O) (l:List O):O.ds (o :: l) = o.d :: O.ds l:=by rw [O.ds]
@[simp] theorem EU:∀ (a b:List O),O.ds (a ++ b) = O.ds a ++ O.ds b
 | [],b=>by simp
 | o :: a,b=>by simp [EU a b]
@[simp] theorem yb:∀ l:List D,O.ds (l.map O.sh) = l
 | []=>by simp
 | d :: l=>by simp [yb l]
@[simp] theorem K4 {α:Type} (f:α -> D) (l:List α):O.ds (l.map (O.sh ∘ f)) = l.map f:=by rw [<- List.map_map];exact yb _
@[simp] theorem Ob {α:Type} (a b:α):b7 [a,b] 0 = some a:=rfl
@[simp] theorem Oc {α:Type} (a b:α):b7 [a,b] 1 = some b:=rfl
@[simp] theorem Od {α:Type} (a b c:α):b7 [a,b,c] 0 = some a:=rfl
@[simp] theorem Oe {α:Type} (a b c:α):b7 [a,b,c] 1 = some b:=rfl
@[simp] theorem Og {α:Type} (a b c:α):b7 [a,b,c] 2 = some c:=rfl
theorem eU:cG = 1000000:=by unfold cG;rfl
@[simp] theorem Pc:(0:Nat) <= cG:=Nat.zero_le _
@[simp] theorem Pd:(1:Nat) <= cG:=by rw [eU];decide
@[simp] theorem Pe:(2:Nat) <= cG:=by rw [eU];decide
@[simp] theorem Pf:(3:Nat) <= cG:=by rw [eU];decide
@[simp] theorem Pg:(4:Nat) <= cG:=by rw [eU];decide
@[simp] theorem Ph:(5:Nat) <= cG:=by rw [eU];decide
@[simp] theorem Pi:(6:Nat) <= cG:=by rw [eU];decide
@[simp] theorem Pj:(7:Nat) <= cG:=by rw [eU];decide
@[simp] theorem Pk:(8:Nat) <= cG:=by rw [eU];decide
@[simp] theorem Pl:(9:Nat) <= cG:=by rw [eU];decide
@[simp] theorem Oo:(10:Nat) <= cG:=by rw [eU];decide
@[simp] theorem Om:(0:Nat) < cG:=by rw [eU];decide
theorem zi (n:Nat):∀ r:List (Int × Int),okDs (n + 1) (r.map gL) = true
 | []=>by simp [okDs]
 | p :: r=>by rw [List.map_cons,okDs,zi n r];simp [gL,b9,okDs]
@[simp] theorem MM (neg:Bool) (i j:Int):fN neg (.int i) (.int j) = some (.bl (if neg then !decide (i = j) else decide (i = j))):=by
 unfold fN
 rw [if_pos ⟨by simp [b9],by simp [b9]⟩]
 have:kd (.int i) (.int j) = decide (i = j):=by simp [kd];by_cases h:i = j <;> simp [h]
 rw [this]
@[simp] theorem Nd (neg:Bool) (i j:Bool):fN neg (.bl i) (.bl j) = some (.bl (if neg then !decide (i = j) else decide (i = j))):=by
 unfold fN
 rw [if_pos ⟨by simp [b9],by simp [b9]⟩]
 have:kd (.bl i) (.bl j) = decide (i = j):=by simp [kd];by_cases h:i = j <;> simp [h]
 rw [this]
theorem vx {K:W.Frag} {S:Hp}:∀ ns:List Int,Dens K S (ns.map D.int) (ns.map V.int)
 | []=>.nil
 | n :: ns=>.cons (den_int.mpr rfl) (vx ns)
theorem Ez {K:W.Frag} {H:Hp} {a:Addr} {ns:List Int} {m:List D -> Option O} {E:XK} (hS:SqL K H a (ns.map V.int)) (h:(m [.scr (ns.map D.int)]).map O.d = some (.bl true)):gH K 1 m [.ref a] H (fun v _=>v = .bl true) E:=by
 cases q:m [.scr (ns.map D.int)] with
 | none=>rw [q] at h;cases h
 | some o=>
  rw [q] at h
  have e:o.d = .bl true:=Option.some.inj h
  exact ⟨rfl,H,[.scr (ns.map D.int)],o,Same.refl _,.cons (den_scr.mpr ⟨a,_,rfl,hS,vx ns⟩) .nil,q,fun v fp S' H' z ow _ _=>by
   have dv:=ow.denH z.sub
   rw [e] at dv
   exact den_bl.mp dv⟩
end M
namespace L2
open PySem PySem.Spec PyProof.Rows
theorem eF:bootBuiltins "len" = some (.builtin "len"):=by decide +kernel
theorem vn:bootBuiltins "sorted" = some (.builtin "sorted"):=by decide +kernel
theorem Ax:bootBuiltins "max" = some (.builtin "max"):=by decide +kernel
theorem E7:bootBuiltins "min" = some (.builtin "min"):=by decide +kernel
theorem jf:bootBuiltins "isinstance" = some (.builtin "isinstance"):=by decide +kernel
theorem kY:bootBuiltins "tuple" = some (.type "tuple"):=by decide +kernel
theorem B5:bootBuiltins "list" = some (.type "list"):=by decide +kernel
section
variable {X:Cx}
theorem l9 {K:W.Frag} {t T:String} (ht:t ∈ ["NoneType", "bool", "int", "str", "list", "tuple"]) (hT:T ∈ ["bool", "int", "str", "list", "tuple"]):W.kitOne K (.type t) (.type T) = some (M.II t T):=by
 simp only [List.mem_cons,List.not_mem_nil,or_false] at ht hT
 rcases ht with rfl | rfl | rfl | rfl | rfl | rfl <;> rcases hT with rfl | rfl | rfl | rfl | rfl <;> kernel_rfl
theorem yY:∀ a b:List Int,Srt.iq a b = HT.cU a b
 | [],[]=>rfl
 | [],_ :: _=>rfl
 | _ :: _,[]=>rfl
 | x :: xs,y :: ys=>by
  rw [HT.A2,<- yY xs ys]
  rfl
end
end L2
namespace Rev
open PySem
section
variable {prog:Program} {w:World} {A:Around} {s:Shared} {R:Result -> Shared -> Prop} {I:Addr} {fp wr:List Addr} {G:Array GenState -> Array GenState -> Prop} {n:Nat} {P:Nat -> Value -> Prop} {St:Nat -> Shared -> Prop}
end
section
variable {prog:Program} {w:World} {A:Around} {E:Value -> Shared -> Prop} {s:Shared} {I:Addr} {fp wr:List Addr} {G:Array GenState -> Array GenState -> Prop} {n:Nat} {P:Nat -> Value -> Prop} {St:Nat -> Shared -> Prop}
end
end Rev
namespace L2
open PySem PySem.Spec PyProof.Rows
section
variable {X:Cx} {tg:Expr}
theorem jv {l:Expr} {tl:TE} (hl:PE X l tl):PI X tg l (JY X.K tl):=by
 intro pins s σ H R I h
 refine eE (hl pins s σ H _ I h) fun v s1 h1=>?_
 obtain ⟨x,H1,I1,r1,a,e,q⟩:=h1
 subst e
 cases r1
 rcases q with ⟨⟨xs,hq⟩,q⟩ | ⟨⟨xs,hq⟩,q⟩
 ·obtain ⟨its,rv,p,hz⟩:=I1.list hq
  refine wpAny_pyIter_list p.isList ⟨s1.heap.objs.size,[s1.heap.objs.size],_,_,H1,rfl,I1.kept (t':=s1.toks) fun b o e=>Heap.get?_push_of_some _ e,EF a _,⟨_,Heap.get?_push_size _ rfl,rfl,rfl⟩,fun b hb=>?_,q⟩
  rw [List.mem_singleton.mp hb]
  exact I1.fpOk (Nat.le_refl _) I1.fresh
 ·obtain ⟨its,rv,p,hz⟩:=I1.tuple hq
  refine wpAny_pyIter_tuple (show s1.heap.IsTuple a its.toArray from p) ⟨s1.heap.objs.size,[s1.heap.objs.size],_,_,H1,rfl,I1.kept (t':=s1.toks) fun b o e=>Heap.get?_push_of_some _ e,BI a _,⟨_,Heap.get?_push_size _ rfl,rfl,rfl⟩,fun b hb=>?_,q⟩
  rw [List.mem_singleton.mp hb]
  exact I1.fpOk (Nat.le_refl _) I1.fresh
end
section
variable {X:Cx} {tg:Expr}
theorem vK:∀ {vs:List Value} {ns:List Int},IntsAre vs ns -> Vals (ns.map V.int) vs
 | _,_,.nil=>.nil
 | _,_,.cons n t h=>.cons ⟨t,rfl⟩ (vK h)
theorem call_sortedI:CallR X (.builtin "sorted") (zF X.K):=by
 intro pins s σ H xs us Q I r h
 obtain ⟨p,ns,rfl,hS,h64,k⟩:=h
 obtain ⟨u,rfl,ru⟩:=r.one
 cases ru
 obtain ⟨its,rv,pl,hz⟩:=I.list hS
 have hI:IntsAre its ns:=ke rv
 have hl:its.length = ns.length:=by have:=rv.length;rw [List.length_map] at this;exact this.symm
 refine Srt.xP pl.isList hI (by rw [sizeLine_eq];lia) fun out ms ho perm pw=>?_
 obtain ⟨e,at1⟩:=sortedAll_at s.heap its out
 have fresh:s.heap.objs.size <= s.heap.objs.size + 1:=Nat.le_succ _
 refine ⟨.ref (s.heap.objs.size + 1),d8 H (s.heap.objs.size + 1) (.lst (ms.map V.int)),I.laid (t':=s.toks) (fun b o hb=>sortedAll_old hb) fresh ?_,rfl,k ms _ perm pw (I.hok.fresh fresh)⟩
 exact ⟨by rw [List.length_map,perm.length_eq,sizeLine_eq];lia,out.toList,e,vK ho,by simpa using at1⟩
end
end L2
namespace HT
open PySem PySem.Spec PyProof.Rows
section
variable {prog:Program} {w:World} {A:Around} {E:Value -> Shared -> Prop} {s:Shared}
end
end HT
namespace L2
open PySem PySem.Spec PyProof.Rows M
theorem Inv.rdl {X:Cx} {pins:List (Addr × Obj)} {σ:St} {H:Hp} {s:Shared} {l:Addr} {xs:List V} (I:Inv X pins σ H s) (h:Rd H l (.lst xs)):xs.length <= sizeLine /\ ∃ (its:List Value) (n:Nat),Vals xs its /\ xs.length = its.length /\ s.heap.get? l = some { cls:=.type "list",data:=.seq its.toArray n }:=by
 obtain ⟨h1,its,n,r,e⟩:=(show ObjOk X.prog X.w H s.heap l (.lst xs) from h.ok I.hok)
 exact ⟨h1,its,n,r,r.length,e⟩
section
variable {X:Cx}
theorem op_catM:OpR X (binaryOp .Add) Ji:=by
 intro pins s σ H x y v u Q I rx ry h
 obtain ⟨l,b,xs,zs,rfl,rfl,hH,hB,hz,q⟩:=h
 cases rx
 cases ry
 obtain ⟨z,its,n,r,hl,e⟩:=I.rdl hH
 obtain ⟨z2,its2,n2,r2,hl2,e2⟩:=I.rdl hB
 refine PySem.P.add_list e e2 ?_ (by rw [List.size_toArray,List.size_toArray];lia)
 have ea:its.toArray ++ its2.toArray = (its ++ its2).toArray:=by simp
 rw [ea]
 exact ⟨.ref _,_,I.lnew (t':=s.toks) (r.append r2) (by rw [List.length_append];lia),rfl,q _ I.fresh⟩
theorem op_tupM:OpR X (binaryOp .Add) (Jp X.K):=by
 intro pins s σ H x y v u Q I rx ry h
 obtain ⟨a,b,xs,ys,rfl,rfl,ha,hb,hz,q1,q2,q⟩:=h
 cases rx
 cases ry
 obtain ⟨its,r1,p1,_⟩:=I.tuple ha
 obtain ⟨its2,r2,p2,_⟩:=I.tuple hb
 have hz2:its.length + its2.length <= sizeLine:=by rw [<- r1.length,<- r2.length];exact hz
 by_cases hv:its = []
 ·have hx:xs = []:=r1.nil_iff.mp hv
  obtain ⟨⟨cls,dd,data,sl⟩,ho,hc,n,hd⟩:=id p1
  obtain ⟨⟨cls2,dd2,data2,sl2⟩,ho2,hc2,n2,hd2⟩:=id p2
  simp only at hc hd hc2 hd2;subst hc hd hc2 hd2
  exact concat_meets ⟨_,ho,rfl⟩ ⟨_,ho2,rfl⟩ noFill_tuple_add seq_tuple_add PySem.F.slot_tuple_add PySem.F.entry_tuple_add (PySem.F.args_tuple_add_2 (.ref a) (.ref b)) (tuple_addW0 a b its.toArray its2.toArray n n2 dd dd2 sl sl2 (by simp [hv])) ⟨ho,ho2,⟨.ref b,H,I,rfl,q2 hx⟩⟩
 ·refine HT.Hn p1 p2 hv (fun z=>⟨.ref a,H,I,rfl,q1 (r2.nil_iff.mp z)⟩) (fun z=>?_) hz2
  refine ⟨.ref s.heap.objs.size,_,I.laid (t':=s.toks) (o:=.tup (xs ++ ys)) (fun b ob e=>Heap.get?_push_of_some _ e) (Nat.le_refl _) ?_,rfl,q _ (I.hok.fresh (Nat.le_refl _))⟩
  exact ⟨by rw [List.length_append];exact hz,_,r1.append r2,IsTup.new _ _⟩
theorem Ib:OpR X (binaryOp .Add) Jo:=Be
theorem a6:OpR X (binaryOp .Add) (Jh X.K):=op_add.or (op_catM.or (op_tupM.or Ib))
mutual
noncomputable def fI:D -> PyData
 | .non=>.none
 | .bl b=>.bool b
 | .int i=>.int i
 | .str x=>.str x
 | .lst l=>.list (pyDs l)
 | .tup l=>.tuple (pyDs l)
 | .mtp l=>.tuple (pyDs l)
 | _=>.none
noncomputable def pyDs:List D -> List PyData
 | []=>[]
 | d :: l=>fI d :: pyDs l
end
mutual
theorem tO:∀ (n:Nat) (d:D),b9 n d = true -> (fI d).canLay0 = true /\ (fI d).depth <= n
 | _,.non,_=>by simp [fI,PyData.canLay0,PyData.depth]
 | _,.bl _,_=>by simp [fI,PyData.canLay0,PyData.depth]
 | _,.int _,_=>by simp [fI,PyData.canLay0,PyData.depth]
 | n,.str x,h=>by
  have h':PyData.strOk x = true:=by cases n <;> simpa [b9] using h
  simp [fI,PyData.canLay0,PyData.depth,h']
 | 0,.lst l,h=>by simp [b9] at h
 | n + 1,.lst l,h=>by
  obtain ⟨a,b⟩:=rD n l (by simpa [b9] using h)
  simp only [fI,PyData.canLay0,PyData.depth]
  exact ⟨a,by lia⟩
 | 0,.tup l,h=>by simp [b9] at h
 | n + 1,.tup l,h=>by
  obtain ⟨a,b⟩:=rD n l (by simpa [b9] using h)
  simp only [fI,PyData.canLay0,PyData.depth]
  exact ⟨a,by lia⟩
 | 0,.mtp l,h=>by simp [b9] at h
 | n + 1,.mtp l,h=>by
  obtain ⟨a,b⟩:=rD n l (by simpa [b9] using h)
  simp only [fI,PyData.canLay0,PyData.depth]
  exact ⟨a,by lia⟩
 | n,.ty _,h=>by cases n <;> simp [b9] at h
 | n,.scr _,h=>by cases n <;> simp [b9] at h
 | n,.ins _ _ _,h=>by cases n <;> simp [b9] at h
theorem rD:∀ (n:Nat) (l:List D),okDs n l = true -> PyData.canLayAll0 (pyDs l) = true /\ PyData.depthAll (pyDs l) <= n
 | _,[],_=>by simp [pyDs,PyData.canLayAll0,PyData.depthAll]
 | n,d :: l,h=>by
  rw [okDs,Bool.and_eq_true] at h
  obtain ⟨a,b⟩:=tO n d h.1
  obtain ⟨c,e⟩:=rD n l h.2
  simp only [pyDs,PyData.canLayAll0,PyData.depthAll,a,c]
  exact ⟨rfl,by lia⟩
end
mutual
theorem AO:∀ (n m:Nat) (d e:D),b9 n d = true -> b9 m e = true -> PyData.eqv (fI d) (fI e) = kd d e
 | n,m,.non,e,_,he=>by cases e <;> first | (simp [fI,PyData.eqv,kd];done) | (cases m <;> simp [b9] at he)
 | n,m,.bl _,e,_,he=>by cases e <;> first | (simp [fI,PyData.eqv,kd];done) | (cases m <;> simp [b9] at he)
 | n,m,.int _,e,_,he=>by cases e <;> first | (simp [fI,PyData.eqv,kd];done) | (cases m <;> simp [b9] at he)
 | n,m,.str _,e,_,he=>by cases e <;> first | (simp [fI,PyData.eqv,kd];done) | (cases m <;> simp [b9] at he)
 | 0,m,.lst _,e,hd,he=>by simp [b9] at hd
 | n + 1,m,.lst l,e,hd,he=>by
  cases e with
  | lst l'=>
   cases m with
   | zero=>simp [b9] at he
   | succ m=>
    simp only [fI,PyData.eqv,kd]
    exact eqvs_is n m l l' (by simpa [b9] using hd) (by simpa [b9] using he)
  | _=>first | (simp [fI,PyData.eqv,kd];done) | (cases m <;> simp [b9] at he)
 | 0,m,.tup _,e,hd,he=>by simp [b9] at hd
 | n + 1,m,.tup l,e,hd,he=>by
  cases e with
  | tup l'=>
   cases m with
   | zero=>simp [b9] at he
   | succ m=>
    simp only [fI,PyData.eqv,kd]
    exact eqvs_is n m l l' (by simpa [b9] using hd) (by simpa [b9] using he)
  | mtp l'=>
   cases m with
   | zero=>simp [b9] at he
   | succ m=>
    simp only [fI,PyData.eqv,kd]
    exact eqvs_is n m l l' (by simpa [b9] using hd) (by simpa [b9] using he)
  | _=>first | (simp [fI,PyData.eqv,kd];done) | (cases m <;> simp [b9] at he)
 | 0,m,.mtp _,e,hd,he=>by simp [b9] at hd
 | n + 1,m,.mtp l,e,hd,he=>by
  cases e with
  | tup l'=>
   cases m with
   | zero=>simp [b9] at he
   | succ m=>
    simp only [fI,PyData.eqv,kd]
    exact eqvs_is n m l l' (by simpa [b9] using hd) (by simpa [b9] using he)
  | mtp l'=>
   cases m with
   | zero=>simp [b9] at he
   | succ m=>
    simp only [fI,PyData.eqv,kd]
    exact eqvs_is n m l l' (by simpa [b9] using hd) (by simpa [b9] using he)
  | _=>first | (simp [fI,PyData.eqv,kd];done) | (cases m <;> simp [b9] at he)
 | n,_,.ty _,_,h,_=>by cases n <;> simp [b9] at h
 | n,_,.scr _,_,h,_=>by cases n <;> simp [b9] at h
 | n,_,.ins _ _ _,_,h,_=>by cases n <;> simp [b9] at h
theorem eqvs_is:∀ (n m:Nat) (l l':List D),okDs n l = true -> okDs m l' = true -> PyData.eqvAll (pyDs l) (pyDs l') = eqDs l l'
 | _,_,[],[],_,_=>by simp [pyDs,PyData.eqvAll,eqDs]
 | _,_,[],_ :: _,_,_=>by simp [pyDs,PyData.eqvAll,eqDs]
 | _,_,_ :: _,[],_,_=>by simp [pyDs,PyData.eqvAll,eqDs]
 | n,m,d :: l,e :: l',hd,he=>by
  rw [okDs,Bool.and_eq_true] at hd he
  rw [pyDs,pyDs,PyData.eqvAll,eqDs,AO n m d e hd.1 he.1,eqvs_is n m l l' hd.2 he.2]
end
theorem wT {H:Hp} {s:Shared} {n:Nat} (ih:∀ {d:D} {x:V} {v:Value},b9 n d = true -> Den X.K H d x -> RelV x v -> ∃ as,Reads s.heap v (fI d) as) {ds:List D}:∀ {xs:List V} {vs:List Value},okDs n ds = true -> Dens X.K H ds xs -> Vals xs vs -> ∃ as,ReadsAll s.heap vs (pyDs ds) as:=by
 induction ds with
 | nil=>
  intro xs vs _ d r
  rw [d.nil_of] at r
  cases r
  exact ⟨_,.nil⟩
 | cons d ds id=>
  intro xs vs h dd r
  rw [okDs,Bool.and_eq_true] at h
  obtain ⟨y,ys,rfl,a,b⟩:=dd.cons_of
  cases r with
  | cons r rr=>
   obtain ⟨as,ra⟩:=ih h.1 a r
   obtain ⟨bs,rb⟩:=id h.2 b rr
   exact ⟨_,.cons ra rb⟩
theorem yF {pins:List (Addr × Obj)} {σ:St} {H:Hp} {s:Shared} (I:Inv X pins σ H s) (n:Nat) (ih:∀ m,n = m + 1 -> ∀ {d:D} {x:V} {v:Value},b9 m d = true -> Den X.K H d x -> RelV x v -> ∃ as,Reads s.heap v (fI d) as) {d:D} {x:V} {v:Value} (h:b9 n d = true) (dx:Den X.K H d x) (r:RelV x v):∃ as,Reads s.heap v (fI d) as:=by
 cases d with
 | non=>rw [den_non.mp dx] at r;cases r;exact ⟨_,.none⟩
 | bl b=>rw [den_bl.mp dx] at r;cases r;exact ⟨_,.bool b⟩
 | int i=>rw [den_int.mp dx] at r;obtain ⟨t,rfl⟩:=r;exact ⟨_,.int i t⟩
 | str y=>rw [den_str.mp dx] at r;obtain ⟨t,rfl⟩:=r;exact ⟨_,.str y t⟩
 | lst l=>
  cases n with
  | zero=>simp [b9] at h
  | succ n=>
   obtain ⟨p,xs,rfl,hp,ds⟩:=den_lst.mp dx
   cases r
   obtain ⟨_,its,k,rv,_,e⟩:=I.rdl hp
   obtain ⟨as,ra⟩:=wT (ih n rfl) (by simpa [b9] using h) ds rv
   exact ⟨_,.list e rfl rfl (by simpa using ra)⟩
 | tup l=>
  cases n with
  | zero=>simp [b9] at h
  | succ n=>
   obtain ⟨p,xs,rfl,hp,ds⟩:=ii dx
   cases r
   obtain ⟨its,rv,⟨o,e,c,k,d⟩,_⟩:=I.tuple hp
   obtain ⟨as,ra⟩:=wT (ih n rfl) (by simpa [b9] using h) ds rv
   exact ⟨_,.tuple e c d (by simpa using ra)⟩
 | mtp l=>
  cases n with
  | zero=>simp [b9] at h
  | succ n=>
   obtain ⟨p,xs,rfl,hp,ds⟩:=den_mtp.mp dx
   cases r
   obtain ⟨its,rv,⟨o,e,c,k,d⟩,_⟩:=I.tuple hp
   obtain ⟨as,ra⟩:=wT (ih n rfl) (by simpa [b9] using h) ds rv
   exact ⟨_,.tuple e c d (by simpa using ra)⟩
 | _=>cases n <;> simp [b9] at h
theorem lW {pins:List (Addr × Obj)} {σ:St} {H:Hp} {s:Shared} (I:Inv X pins σ H s) (n:Nat):∀ {d:D} {x:V} {v:Value},b9 n d = true -> Den X.K H d x -> RelV x v -> ∃ as,Reads s.heap v (fI d) as:=by
 induction n with
 | zero=>exact fun {d x v}=>yF I 0 (fun m e=>by cases e)
 | succ n ih=>exact fun {d x v}=>yF I (n + 1) (fun m e=>by cases e;exact ih)
theorem eW (hu:X.A.units + 64 < cLine):OpR X (compareOp .Eq) (Kp X.K false):=by
 intro pins s σ H x y v u Q I rx ry h
 obtain ⟨S,d,e,sm,dx,dy,cd,ce,q⟩:=h
 obtain ⟨as,ra⟩:=lW I 50 cd (sH sm dx) rx
 obtain ⟨bs,rb⟩:=lW I 50 ce (sH sm dy) ry
 obtain ⟨a1,a2⟩:=tO 50 d cd
 obtain ⟨b1,b2⟩:=tO 50 e ce
 have hm:=Nat.min_le_left (fI d).depth (fI e).depth
 refine SeqAt.compareEq_reads ra rb a1 b1 (by lia) ⟨.bl _,H,I,rfl,?_⟩
 rw [AO 50 50 d e cd ce]
 exact q
theorem kq (hu:X.A.units + 64 < cLine):OpR X (compareOp .NotEq) (Kp X.K true):=by
 intro pins s σ H x y v u Q I rx ry h
 obtain ⟨S,d,e,sm,dx,dy,cd,ce,q⟩:=h
 obtain ⟨as,ra⟩:=lW I 50 cd (sH sm dx) rx
 obtain ⟨bs,rb⟩:=lW I 50 ce (sH sm dy) ry
 obtain ⟨a1,a2⟩:=tO 50 d cd
 obtain ⟨b1,b2⟩:=tO 50 e ce
 have hm:=Nat.min_le_left (fI d).depth (fI e).depth
 refine SeqAt.compareNe_reads ra rb a1 b1 (by lia) ⟨.bl _,H,I,rfl,?_⟩
 rw [AO 50 50 d e cd ce]
 exact q
theorem bK:CallR X (.builtin "len") (Jl X.K):=E8
theorem Dj:CallR X (.builtin "isinstance") (Jj X.K):=by
 intro pins s σ H xs us Q I r h
 obtain ⟨x,T,t,rfl,ht,hm,q⟩:=h
 obtain ⟨u,w',rfl,ru,rw'⟩:=r.two
 cases rw'
 refine keep I.tk ?_
 have fin:∀ tk:Nat,NN <= tk -> EP X pins σ Q (.bool (II t T)) { s with toks:=tk }:=fun tk hk=>⟨.bl _,H,I.tok tk,rfl,q⟩
 cases x with
 | non=>cases ht;exact l5 I ru .non (l9 (by decide) hm) fin
 | bl b=>cases ht;exact l5 I ru (.bl b) (l9 (by decide) hm) fin
 | int i=>cases ht;exact l5 I ru (.int i) (l9 (by decide) hm) fin
 | str y=>cases ht;exact l5 I ru (.str y) (l9 (by decide) hm) fin
 | ref p=>
  cases ru
  rcases ht with ⟨rfl,xs,h⟩ | ⟨rfl,xs,h⟩
  ·obtain ⟨_,its,n,rv,_,e⟩:=I.rdl h
   exact W.kia_one W.kitx_list I.kIn ⟨_,e,rfl⟩ (l9 (by decide) hm) (fun z=>nomatch z) fin
  ·obtain ⟨its,rv,⟨o,e,c,_⟩,_⟩:=I.tuple h
   exact W.kia_one W.kitx_tuple I.kIn ⟨o,e,c⟩ (l9 (by decide) hm) (fun z=>nomatch z) fin
 | _=>exact (show False from ht).elim
theorem xp:N7 X "list.extend" rExtM:=by
 intro pins s σ H x vs v us Q I rx rv h
 obtain ⟨l,b,xs,zs,rfl,rfl,hH,hB,hz,q⟩:=h
 cases rx
 obtain ⟨u,rfl,ru⟩:=rv.one
 cases ru
 obtain ⟨z,its,n,r,hl,e⟩:=I.lstM hH
 obtain ⟨z2,its2,n2,r2,hl2,e2⟩:=I.rdl hB
 have hsz:its.toArray.size + its2.toArray.size <= sizeLine:=by rw [List.size_toArray,List.size_toArray];lia
 have hlong:¬ (!its.toArray.isEmpty && Builtin.List.listTooLong (its.toArray.size + its2.toArray.size)) = true:=by
  rw [FT hsz,Bool.and_false]
  exact Bool.false_ne_true
 refine call_meets F.slot_list_extend ⟨_,e,rfl⟩ F.entry_list_extend (F.args_list_extend_2 _ _)
  (AutoSeq1.list_extend_list_list_0 l its.toArray n b its2.toArray n2 hlong (by rw [List.size_toArray];lia) (by lia)) ⟨e,e2,?_⟩
 refine ⟨.non,_,I.lset (its':=its ++ its2) hH e (by simp) (r.append r2) ?_,rfl,q⟩
 rw [List.length_append]
 lia
theorem Ay:CallR X (.builtin "sorted") (Ge X.K):=by
 intro pins s σ H xs us Q I r h
 obtain ⟨p,yks,rfl,hS,h64,hk,k⟩:=h
 obtain ⟨u,rfl,ru⟩:=r.one
 cases ru
 obtain ⟨its,rv,pl,hz⟩:=I.list hS
 have hl:yks.length = its.length:=by rw [<- rv.length,List.length_map]
 have b7:∀ i,i < its.length -> ∃ yk,yks[i]? = some yk /\ yks.getD i (.non,[]) = yk /\ RelV yk.1 (its.getD i Value.none):=fun i hi=>by
  have ey:yks[i]? = some yks[i]:=List.getElem?_eq_getElem (by lia)
  have ex:(yks.map (·.1))[i]? = some yks[i].1:=by rw [List.getElem?_map,ey];rfl
  obtain ⟨v,ev,rl⟩:=rv.get ex
  exact ⟨_,ey,by rw [List.getD_eq_getElem?_getD,ey];rfl,by rw [List.getD_eq_getElem?_getD,ev];exact rl⟩
 have tup:∀ i,i < its.length -> Srt.Lm s.heap (its.getD i Value.none) (yks.getD i (.non,[])).2 /\ (yks.getD i (.non,[])).2 ≠ []:=fun i hi=>by
  obtain ⟨yk,e1,e2,rl⟩:=b7 i hi
  obtain ⟨q,e3,e4,e5⟩:=hk _ (List.mem_of_getElem? e1)
  rw [e2]
  refine ⟨?_,e5⟩
  rw [e3] at rl
  have rl':its.getD i Value.none = Value.ref q:=rl
  obtain ⟨js,rj,⟨o,ho,hc,n,hd⟩,_⟩:=I.tuple e4
  refine ⟨q,o,js.toArray,n,rl',ho,hc,hd,?_⟩
  simpa using ke rj
 refine Srt.we (Srt.FE fun i=>(yks.getD i (.non,[])).2) pl.isList (by rw [sizeLine_eq];lia) (Srt.AZ tup) fun q hq ha=>?_
 obtain ⟨pv,pw⟩:=Srt.Bi (vs:=its) (d:=Value.none) hq ha
 rw [<- hl] at hq ha
 obtain ⟨py,wy⟩:=Srt.Bi (vs:=yks) (d:=((V.non,[]):V × List Int)) hq ha
 obtain ⟨e,at1⟩:=sortedAll_at s.heap its (Srt.kM its q)
 have hv:Vals ((q.toList.map fun i=>yks.getD i (.non,[])).map (·.1)) (q.toList.map fun i=>its.getD i Value.none):=by
  have hb:∀ i ∈ q.toList,i < its.length:=fun i hi=>by
   have:i < yks.length:=by simpa using (Array.perm_iff_toList_perm.mp hq).mem_iff.mp hi
   lia
  revert hb
  generalize q.toList = L
  induction L with
  | nil=>exact fun _=>.nil
  | cons i L ih=>
   intro hb
   refine .cons ?_ (ih fun j hj=>hb j (List.mem_cons_of_mem _ hj))
   obtain ⟨yk,_,e2,rl⟩:=b7 i (hb i List.mem_cons_self)
   dsimp only
   rw [e2]
   exact rl
 have fresh:s.heap.objs.size <= s.heap.objs.size + 1:=Nat.le_succ _
 refine ⟨.ref (s.heap.objs.size + 1),d8 H (s.heap.objs.size + 1) (.lst ((q.toList.map fun i=>yks.getD i (.non,[])).map (·.1))),I.laid (t':=s.toks) (fun b o hb=>sortedAll_old hb) fresh ?_,rfl,?_⟩
 ·refine ⟨by rw [List.length_map,py.length_eq,sizeLine_eq];lia,_,e,hv,at1⟩
 ·refine k _ _ py (wy _ fun i j _ _ h=>?_) (I.hok.fresh fresh)
  rw [<- yY]
  exact h
theorem n9:CallR X (.builtin "sorted") (zG X.K):=call_sortedI.or Ay
end
end L2
namespace M
noncomputable def Lu (a:List Int) (k:Int):List Int:=if a.any (· == k) then a else a ++ [k]
noncomputable def Nf (ns:List Int):List Int:=ns.foldl Lu []
end M
namespace L2
open PySem
section
variable {X:Cx}
end
end L2
namespace M
open PySem L2
section
variable {K:W.Frag}
end
end M
namespace L2
open PySem M
end L2
namespace M
open PySem L2
@[simp] noncomputable def M4 (a:XE):XE:=fun ρ=>(a ρ).bind fun d=>match d with | .lst l=>(di l).bind fun ns=>if ns.length < 4000 then some (.int ((Nf ns).length:Nat)) else none | _=>none
end M
namespace L2
open PySem
section
variable {X:Cx} {o e:Expr} {es:List Expr} {f m:Str} {pos apos p:Pos} {ta:TE} {t:TA} {Ns:List Str} {k:Nat} {g C:Addr} {fd:FuncData} {ps:List Str} {sp:Sp}
end
end L2
namespace M
open PySem L2
section
variable {K:W.Frag} {S S' H H':Hp}
noncomputable def Lz:List Str -> List D -> Str -> Option D
 | n :: ns,d :: l,f=>if f = n then some d else Lz ns l f
 | _,_,_=>none
@[simp] noncomputable def Py (Ns:List Str) (f:Str) (e:XE):XE:=fun ρ=>(e ρ).bind fun d=>match d with | .ins N ns l=>if Ns.contains N then Lz ns l f else none | _=>none
@[simp] noncomputable def OX (Ns:List Str) (m:Str) (g:List D -> Option D) (e:XE) (a:XA):XE:=fun ρ=>(e ρ).bind fun d=>match d with | .ins N ns l=>if Ns.contains N && !ns.contains m then (a ρ).bind fun ds=>g (.ins N ns l :: ds) else none | _=>none
@[simp] noncomputable def OW (N f:Str) (mi:List D -> Option D) (a:XA):XE:=fun ρ=>((a ρ).bind mi).map fun d=>.ins N [f] [d]
end
end M
namespace M
noncomputable def lz:List Int -> Int
 | []=>0
 | [a]=>a
 | a :: l=>min a (lz l)
noncomputable def kP:List Int -> Int
 | []=>0
 | [a]=>a
 | a :: l=>max a (kP l)
theorem DV (a b:Int) (l:List Int):lz (a :: b :: l) = min a (lz (b :: l)):=rfl
theorem DT (a b:Int) (l:List Int):kP (a :: b :: l) = max a (kP (b :: l)):=rfl
theorem pT:∀ (a:Int) (l:List Int),lz (a :: l) ∈ a :: l /\ ∀ b ∈ a :: l,lz (a :: l) <= b
 | a,[]=>⟨List.mem_cons_self,fun b hb=>by rw [List.mem_singleton] at hb;subst hb;exact Int.le_refl _⟩
 | a,c :: l=>by
  obtain ⟨h1,h2⟩:=pT c l
  rw [DV]
  refine ⟨?_,fun b hb=>?_⟩
  ·rcases Int.le_total a (lz (c :: l)) with h | h
   ·rw [Int.min_eq_left h];exact List.mem_cons_self
   ·rw [Int.min_eq_right h];exact List.mem_cons_of_mem _ h1
  ·rcases List.mem_cons.mp hb with rfl | hb
   ·exact Int.min_le_left _ _
   ·exact Int.le_trans (Int.min_le_right _ _) (h2 b hb)
theorem pS:∀ (a:Int) (l:List Int),kP (a :: l) ∈ a :: l /\ ∀ b ∈ a :: l,b <= kP (a :: l)
 | a,[]=>⟨List.mem_cons_self,fun b hb=>by rw [List.mem_singleton] at hb;subst hb;exact Int.le_refl _⟩
 | a,c :: l=>by
  obtain ⟨h1,h2⟩:=pS c l
  rw [DT]
  refine ⟨?_,fun b hb=>?_⟩
  ·rcases Int.le_total a (kP (c :: l)) with h | h
   ·rw [Int.max_eq_right h];exact List.mem_cons_of_mem _ h1
   ·rw [Int.max_eq_left h];exact List.mem_cons_self
  ·rcases List.mem_cons.mp hb with rfl | hb
   ·exact Int.le_max_left _ _
   ·exact Int.le_trans (h2 b hb) (Int.le_max_right _ _)
theorem DW {ns:List Int} {m:Int} (h1:m ∈ ns) (h2:∀ a,a ∈ ns -> m <= a):lz ns = m:=by
 cases ns with
 | nil=>cases h1
 | cons a l=>
  obtain ⟨k1,k2⟩:=pT a l
  exact Int.le_antisymm (k2 m h1) (h2 _ k1)
theorem DU {ns:List Int} {m:Int} (h1:m ∈ ns) (h2:∀ a,a ∈ ns -> a <= m):kP ns = m:=by
 cases ns with
 | nil=>cases h1
 | cons a l=>
  obtain ⟨k1,k2⟩:=pS a l
  exact Int.le_antisymm (h2 _ k1) (k2 m h1)
end M
namespace L2
open PySem PySem.Spec PyProof.Rows
section
variable {prog:Program} {w:World} {A:Around} {E:Value -> Shared -> Prop} {s:Shared}
theorem y8 {l:Addr} {vs:List Value} {ns:List Int} {Q:Value -> Shared -> Prop} (hh:A.handled = none) (hl:s.heap.IsList l vs.toArray) (hi:IntsAre vs ns) (hne:0 < ns.length)
  (h:∀ (h':Heap) (t:Tok) (tk:Nat),(∀ b o,s.heap.get? b = some o -> h'.get? b = some o) -> Q (.int (M.lz ns) t) { s with heap:=h',toks:=tk }):wpAny (model prog w) A (call (.builtin "min") [.ref l]) Q E s:=by
 obtain ⟨xs,e⟩:=hi.allInts.items
 have hns:ns = xs.toList.map (·.1):=by rw [<- hi.numsOf,<- nums_intItems,<- e]
 have hsz:0 < xs.size:=by have h3:=hne;rw [hns,List.length_map,Array.length_toList] at h3;exact h3
 rw [e] at hl;refine min_intList hh hl hsz fun v h' tk hv hk=>?_
 obtain ⟨t,rfl⟩:=intItems_at hv;obtain ⟨h1,h2⟩:=argBest_lt (numAt xs) (xs.size - 1)
 have em:M.lz ns = numAt xs (argBest (fun i j=>decide (numAt xs i < numAt xs j)) (xs.size - 1)):=by
  refine M.DW ?_ fun a ha=>?_
  ·rw [hns,numAt_eq];exact getD_mem (by rw [List.length_map,Array.length_toList];lia)
  ·rw [hns] at ha;obtain ⟨j,hj,rfl⟩:=mem_getD ha;rw [List.length_map,Array.length_toList] at hj;rw [<- numAt_eq];exact h2 j (by lia)
 rw [<- em];exact h h' t tk hk
theorem y7 {l:Addr} {vs:List Value} {ns:List Int} {Q:Value -> Shared -> Prop} (hh:A.handled = none) (hl:s.heap.IsList l vs.toArray) (hi:IntsAre vs ns) (hne:0 < ns.length)
  (h:∀ (h':Heap) (t:Tok) (tk:Nat),(∀ b o,s.heap.get? b = some o -> h'.get? b = some o) -> Q (.int (M.kP ns) t) { s with heap:=h',toks:=tk }):wpAny (model prog w) A (call (.builtin "max") [.ref l]) Q E s:=by
 obtain ⟨xs,e⟩:=hi.allInts.items
 have hns:ns = xs.toList.map (·.1):=by rw [<- hi.numsOf,<- nums_intItems,<- e]
 have hsz:0 < xs.size:=by have h3:=hne;rw [hns,List.length_map,Array.length_toList] at h3;exact h3
 rw [e] at hl;refine max_intList hh hl hsz fun v h' tk hv hk=>?_
 obtain ⟨t,rfl⟩:=intItems_at hv;obtain ⟨h1,h2⟩:=argBest_gt (numAt xs) (xs.size - 1)
 have em:M.kP ns = numAt xs (argBest (fun i j=>decide (numAt xs i > numAt xs j)) (xs.size - 1)):=by
  refine M.DU ?_ fun a ha=>?_
  ·rw [hns,numAt_eq];exact getD_mem (by rw [List.length_map,Array.length_toList];lia)
  ·rw [hns] at ha;obtain ⟨j,hj,rfl⟩:=mem_getD ha;rw [List.length_map,Array.length_toList] at hj;rw [<- numAt_eq];exact h2 j (by lia)
 rw [<- em];exact h h' t tk hk
end
noncomputable def Gd (K:W.Frag):List V -> Hp -> VK -> Prop:=fun xs H Q=>∃ p,∃ ns:List Int,xs = [.ref p] /\ SqL K H p (ns.map V.int) /\ 0 < ns.length /\ Q (.int (M.lz ns)) H
noncomputable def Gc (K:W.Frag):List V -> Hp -> VK -> Prop:=fun xs H Q=>∃ p,∃ ns:List Int,xs = [.ref p] /\ SqL K H p (ns.map V.int) /\ 0 < ns.length /\ Q (.int (M.kP ns)) H
section
variable {X:Cx}
theorem sr (hc:X.calm = true):CallR X (.builtin "min") (Gd X.K):=by
 intro pins s σ H xs us Q I r h
 obtain ⟨p,ns,rfl,hS,hne,q⟩:=h
 obtain ⟨u,rfl,ru⟩:=r.one
 cases ru
 obtain ⟨its,rv,pl,hz⟩:=I.list hS
 exact keep I.tk (y8 (I.ok.hd hc) pl.isList (ke rv) hne fun h' t tk k hk=>⟨.int (M.lz ns),H,I.kept k,⟨t,rfl⟩,q⟩)
theorem sk (hc:X.calm = true):CallR X (.builtin "max") (Gc X.K):=by
 intro pins s σ H xs us Q I r h
 obtain ⟨p,ns,rfl,hS,hne,q⟩:=h
 obtain ⟨u,rfl,ru⟩:=r.one
 cases ru
 obtain ⟨its,rv,pl,hz⟩:=I.list hS
 exact keep I.tk (y7 (I.ok.hd hc) pl.isList (ke rv) hne fun h' t tk k hk=>⟨.int (M.kP ns),H,I.kept k,⟨t,rfl⟩,q⟩)
end
end L2
namespace M
open PySem L2
noncomputable def vh:List D -> Option D
 | [.lst l]=>(di l).bind fun ns=>if 0 < ns.length then some (.int (lz ns)) else none
 | _=>none
noncomputable def vg:List D -> Option D
 | [.lst l]=>(di l).bind fun ns=>if 0 < ns.length then some (.int (kP ns)) else none
 | _=>none
section
variable {K:W.Frag}
theorem E5:JG K (Gd K) vh:=fun S H vs ds g Q s d q k=>by
 unfold vh at q
 split at q
 ·rename_i l
  obtain ⟨ns,qi,q⟩:=bind_some q
  split at q
  ·rename_i hne
   cases q
   obtain ⟨v,rfl,d1⟩:=fA d
   obtain ⟨p,xs,rfl,h1,h2⟩:=d1.lst s
   obtain ⟨e,_⟩:=l4 h2 qi
   subst e
   exact ⟨p,ns,rfl,.inl h1,hne,k _ S H (Ext.refl s) (den_int.mpr rfl)⟩
  ·cases q
 ·cases q
theorem E4:JG K (Gc K) vg:=fun S H vs ds g Q s d q k=>by
 unfold vg at q
 split at q
 ·rename_i l
  obtain ⟨ns,qi,q⟩:=bind_some q
  split at q
  ·rename_i hne
   cases q
   obtain ⟨v,rfl,d1⟩:=fA d
   obtain ⟨p,xs,rfl,h1,h2⟩:=d1.lst s
   obtain ⟨e,_⟩:=l4 h2 qi
   subst e
   exact ⟨p,ns,rfl,.inl h1,hne,k _ S H (Ext.refl s) (den_int.mpr rfl)⟩
  ·cases q
 ·cases q
end
end M
namespace L2
open PySem
theorem k7 {XN:List Str} {sc scope:Scope} {N:List Str} {js:List (Option Nat)} (h1:scope.kind = .function:=by rfl) (h2:∀ y ∈ scope.names,y.2 ≠ .cell:=by decide +kernel) (h3:∀ y ∈ scope.names,y.2 = .free -> sc.names.lookup y.1 = some .cell \/ sc.names.lookup y.1 = some .free:=by decide +kernel)
  (h4:∀ y ∈ scope.names,y.2 = .local -> scope.names.lookup y.1 = some .local:=by decide +kernel) (h5:js.length = N.length:=by rfl) (h6:((N.zip js).all fun p=>match p.2 with | none=>true | some j=>decide (XN[j]? = some p.1) && decide (scope.names.lookup p.1 = some .free)) = true:=by decide +kernel):CmpOk XN sc scope N js:=⟨h1,h2,h3,h4,h5,h6⟩
end L2
namespace M
open PySem L2
@[simp] noncomputable def NS (m:List D -> Option D) (e:D) (a:XA):XE:=fun ρ=>(a ρ).bind fun ds=>m (ds ++ [e])
section
variable {K:W.Frag}
end
end M
namespace L2
open PySem
structure FunD (K:W.Frag) (x qual:Str) (st:Stmt) (T:Addr) (f:Addr) (fd:FuncData):Prop where
 ex:∃ (oc:Value) (od:Option Addr) (kV doc pm:Value) (an:Option Addr) (cdv ct:Value) (osl:Array (Option Value)),fd = W.fnOf x qual (bo st) (ba st) (au st) (.ref T) kV doc pm an cdv ct /\ K.lookup f = some ⟨oc,od,.func fd,osl⟩ /\ W.codeIn K cdv qual = true
section
variable {P:Program} {w:World} {K:W.Frag} {mg:Str -> Option Value} {base:Heap}
theorem FunD.ok {x qual:Str} {st:Stmt} {T f:Addr} {fd:FuncData} {N ps:List Str} {k:Nat} {sp:Sp} (F:FunD K x qual st T f fd) (S:FnScope N ps (au st)) (len:∀ vs H Q E,sp vs H Q E -> vs.length = ps.length)
  (hb:∀ (cdv:Value) (A:Around) (outer:List Env) (s:Shared) (H:Hp) (vs:List V) (Q:VK) (E:XK),Room k (A.deeper (PyProof.Rows.envOfC qual (au st) s.heap.objs.size f cdv)) -> sp vs H Q E -> ∃ t,PSs (mw d9 P w K mg base N qual (au st) f cdv A outer s H E).nox (ba st) t /\ t { nx:=fun _ H'=>Q .non H',rt:=Q } (bJ N vs) H):FnOk P w K mg base d9 (k + 1) f fd ps sp:=by
 obtain ⟨oc,od,kV,doc,pm,an,cdv,ct,osl,rfl,lk,hcd⟩:=F.ex
 exact Ci lk hcd S len fun A outer s H vs Q E hr hsp=>by obtain ⟨t,h,q⟩:=hb cdv A outer s H vs Q E hr hsp;exact ⟨t,h.nox,q⟩
end
end L2
namespace L2
open PySem PySem.Spec PyProof.Rows
section
variable {X:Cx} {pins:List (Addr × Obj)} {σ:St} {H:Hp} {s:Shared} {XN N:List Str} {sc scope:Scope} {js:List (Option Nat)}
variable {tg iter elt:Expr} {ifs:List Expr} {pos:Pos} {wi:TI} {g:TG} {tt:JI} {te:TE}
end
end L2
namespace RevT
open PySem PySem.Calls PyProof.Rows
section
variable {prog:Program} {w:World} {A:Around} {E:Value -> Shared -> Prop} {s:Shared}
end
end RevT
namespace L2
open PySem PySem.Spec PyProof.Rows
section
variable {X:Cx} {tg:Expr}
end
end L2
namespace M
open PySem L2
section
variable {K:W.Frag} {S S' H H':Hp}
noncomputable def Nk:List D -> Option (List D)
 | [.tup l]=>some l.reverse | _=>none
@[simp] noncomputable def O1 (a:XA):XA:=fun ρ=>(a ρ).bind Nk
end
end M
namespace L2
open PySem
section
variable {X:Cx} {e:Expr} {pos p p':Pos} {ta:TE} {T:Addr} {N:Str} {ans:List (Str × Bool)}
end
end L2
namespace M
open PySem L2
section
variable {K:W.Frag} {S S' H H':Hp}
@[simp] noncomputable def OV (ans:List (Str × Bool)) (e:XE):XE:=fun ρ=>(e ρ).bind fun d=>match d with | .ins N _ _=>(ans.lookup N).map .bl | _=>none
end
end M
namespace L2
open PySem PySem.Spec PyProof.Rows Builtin Builtin.ObjectAttr Builtin.Getset_descriptor
def XAt (C a:Addr) (h:Heap):Prop:=∃ o vs,h.get? a = some o /\ o.cls = .ref C /\ o.data = .fields vs
noncomputable abbrev sN (C a:Addr):HO:=.ext (XAt C a)
structure XCls (K:W.Frag) (C:Addr):Prop where
 cl:W.hasDictIn K C = true
 ga:W.findIn K (.ref C) "__getattribute__" = some (some (.builtin "BaseException.__getattribute__"))
 gx:W.findIn K (.ref C) "__getattr__" = some none
 ca:W.findIn K (.ref C) "__class__" = some (some (.builtin "object.__class__"))
 hn:W.specialIn K (.builtin "object.__class__") "__get__" = some (some (.builtin "getset_descriptor.__get__"))
 tk:W.takesIn K (.builtin "object.__class__") = some true
 ob:W.mroIn K C (.type "object") = some true
 be:W.mroIn K C (.type "BaseException") = some true
section
variable {prog:Program} {w:World} {A:Around} {E:Value -> Shared -> Prop} {s:Shared} {K:W.Frag} {C a:Addr}
theorem XAt.type {M:Model} {h:Heap} (x:XAt C a h):W.Looks M h (typeOf (.ref a)) (.ref C):=by
 obtain ⟨o,vs,e,c,d⟩:=x
 exact c ▸ (W.Looks.ld e).andThen .now
theorem Fl {M:Model} {h:Heap} (X:K.In h) (c:XCls K C):W.Looks M h (find (.ref a) (.ref C) "__class__") (.bind (.builtin "getset_descriptor.__get__") (.builtin "object.__class__")):=by
 refine (W.looks_findIn (M:=M) X c.ca).andThen ((show W.Looks M h (getOf (some (.builtin "object.__class__"))) (some (.builtin "getset_descriptor.__get__")) from W.looks_specialIn X c.hn).andThen ?_)
 exact (show W.Looks M h (dataDescriptor? (some (.builtin "object.__class__")) (some (.builtin "getset_descriptor.__get__"))) (some (.builtin "getset_descriptor.__get__",.builtin "object.__class__")) from (W.looks_takesIn (M:=M) X c.tk).andThen .now).andThen (W.Looks.tag .now)
theorem uF {tp:Value} {R:Result -> Shared -> Prop} (X:K.In s.heap) (c:XCls K C) (x:XAt C a s.heap) (h:R (.ok (.ret (.ref C))) s) :
  codeAny (model prog w) A (.call (.builtin "getset_descriptor.__get__") ⟨[.builtin "object.__class__",.ref a,tp],[]⟩) R s:=by
 obtain ⟨hp,gn,dr,tt,oss⟩:=s
 have T0:=x.type (M:=model prog w)
 have T1:=W.looks_mroIn (M:=model prog w) X c.ob
 refine codeAny_call_builtin W.KF.slot_gs.plain W.KF.entry_gs (W.KF.slot_gs.check _ _ _ _ _ _ _ _ W.KF.type_class (W.KF.args_gs _ _ _) ?_)
 unfold Builtin.«getset_descriptor.__get__» descrGet
 rw [W.dga_obj]
 refine wpAny_bind (wpAny_pure ?_)
 unfold descrGetter descrCheckInstance descrNameAndClass isInstance
 simp only [W.KF.owner_class]
 repeat lk
 refine ⟨Code.quiet_builtin _ (by decide +kernel),codeAny_builtin W.KF.entry_class ?_⟩
 unfold Builtin.«object.__class__» shownTypeOf
 repeat lk
 exact h
theorem wX {nv:Value} {Q:Unit -> Shared -> Prop} {M:Model} (X:K.In s.heap) (c:XCls K C) (x:XAt C a s.heap) (h:Q () s):wpAny M A (checkBuiltinCall "BaseException.__getattribute__" ⟨[.ref a,nv],[]⟩) Q E s:=by
 obtain ⟨hp,gn,dr,tt,oss⟩:=s
 have T0:=x.type (M:=M)
 have T1:=W.looks_mroIn (M:=M) X c.be
 have kk:builtinKind "BaseException.__getattribute__" = some .slot:=by decide +kernel
 have sp:splitId "BaseException.__getattribute__" = some ("BaseException", "__getattribute__"):=by decide +kernel
 have ar:=F.args_bexc_ga (.ref a) nv
 simp only [checkBuiltinCall,kk,sp]
 refine wpAny_bind ?_
 unfold isInstance
 repeat (first | lk | wp_step)
 exact h
theorem DC {Q:Option Value -> Shared -> Prop} (X:K.In s.heap) (c:XCls K C) (x:XAt C a s.heap) (h:Q (some (.ref C)) { s with toks:=s.toks + 1 }):wpAny (model prog w) A (getAttr? (.ref a) "__class__") Q E s:=by
 obtain ⟨hp,gn,dr,tt,oss⟩:=s
 have T0:=x.type (M:=model prog w)
 have T1:=W.looks_findIn (M:=model prog w) X c.ga
 have T2:=W.looks_findIn (M:=model prog w) X c.gx
 have T3:=Fl (M:=model prog w) (a:=a) X c
 unfold getAttr? getAttrBy? getAttrBy
 refine wpAny_bind (wpAny_mkText (wpAny_bind (wpAny_attempt (wpAny_holding (wpAny_bind (T0.at (wpAny_bind (T1.at ?_))))))))
 show wpAny _ _ (getAttrByItsOwn _ _ _ _ _ _) _ _ _
 unfold getAttrByItsOwn hookBefore
 refine wpAny_bind (T2.at ?_)
 refine wpAny_bind (wpAny_attempt (wpAny_holding ?_))
 show wpAny _ _ (boundAndCalled _ _ _) _ _ _
 have hbd:=PySem.F.attr_ValueError.ga.bind (.ref a)
 unfold boundAndCalled
 rw [hbd]
 refine wpAny_bind (wpAny_pure ?_)
 refine wpAny_call (codeAny_call_builtin PySem.F.attr_ValueError.ga.plain F.entry_bexc_ga (wX X c x ?_))
 unfold Builtin.«object.__getattribute__»
 repeat (first | with_reducible refine wpAny_call ?_ | lk | wp_step)
 refine uF (s:=⟨hp,gn,dr,tt + 1,oss⟩) X c x ?_
 refine wpAny_pure (wpAny_pure ?_)
 exact wpAny_pure h
theorem FB (c:XCls K C):W.KitX K (.ref a) (.ref C) (XAt C a) where
 ty:=fun _ _ _ x=>x.type
 it:=fun M h X _=>by
  obtain ⟨cd,hc,_⟩:=W.any_some c.cl
  unfold W.clsIn at hc
  split at hc
  ·rename_i ho
   intro A' Q' E' s' k q
   unfold isType loadHead
   exact wpAny_bind (wpAny_loadPart (k _ _ (X _ _ ho)) (wpAny_pure q))
  ·cases hc
 ne:=fun h tp dd its n sl X htp=>by
  obtain ⟨cd,hc,_⟩:=W.any_some c.cl
  refine Bool.eq_false_iff.mpr fun q=>?_
  obtain rfl:C = tp:=Value.ref.inj (beq_iff_eq.mp q)
  unfold W.clsIn at hc
  split at hc
  ·rename_i ho
   have z:=(X _ _ ho).symm.trans htp
   cases z
  ·cases hc
 ca:=fun X x k=>DC X c x k
end
end L2
namespace L2
open PySem PySem.Spec PyProof.Rows
theorem ObjOk.at_ {P:Program} {w:World} {H:Hp} {h:Heap} {a:Addr} {o:HO} (x:ObjOk P w H h a o):∃ u,h.get? a = some u:=by
 cases o with
 | lst xs=>obtain ⟨_,_,_,_,e⟩:=x;exact ⟨_,e⟩
 | tup xs=>obtain ⟨_,_,_,_,e,_⟩:=x;exact ⟨_,e⟩
 | dK kvs=>obtain ⟨_,_,_,_,o,_,_,e,_⟩:=x;exact ⟨_,e⟩
 | dT kvs=>obtain ⟨_,_,_,_,o,_,_,e,_⟩:=x;exact ⟨_,e⟩
 | set S n=>obtain ⟨o,_,_,_,e,_⟩:=x;exact ⟨_,e⟩
 | ins C dx fs=>obtain ⟨_,_,_,e,_⟩:=x;exact ⟨_,e⟩
 | own y=>exact x
 | xd fs=>obtain ⟨_,⟨_,_,_,e,_⟩,_⟩:=x;exact ⟨_,e⟩
 | rng lo hi=>obtain ⟨_,_,_,e⟩:=x;exact ⟨_,e⟩
 | frz ob u=>exact ⟨_,x.1⟩
 | tbl ps=>exact ⟨_,(show h.get? a = some _ from x)⟩
 | met f y=>exact ⟨_,(show h.get? a = some _ from x)⟩
 | ext φ=>exact x.2.1
noncomputable def qY (P:Program) (w:World):BV:=fun outer H s E v s'=>∃ (e:Addr) (cls a0:Value) (H':Hp) (B:Heap),v = .ref e /\ s'.os = s.os /\ (AllBare s'.gens /\ NN <= s'.toks) /\ Un (wZ outer) [] H H' s.heap s'.heap /\ HOk P w H' s'.heap /\ E cls none H' /\
 Heap.FlyingW B outer e cls a0 s'.heap /\ (∀ b u,H' b = some u -> ∃ o,B.get? b = some o) /\ ∀ b o,s.heap.get? b = some o -> b ∉ wZ outer -> ∃ o',B.get? b = some o'
section
variable {H H':Hp} {B h0 h h':Heap} {fs:List Addr}
theorem oz {P:Program} {w:World} (x:HOk P w H h) (hB:B.StaysIn h) (hB':B.StaysIn h') (k:∀ b u,H b = some u -> ∃ o,B.get? b = some o):HOk P w H h':=fun a o ha=>
 (x a o ha).stay (fun b u hb q=>by
  obtain ⟨v,hv⟩:∃ v,H b = some v:=by
   rcases hb with rfl | hb
   ·exact ⟨o,ha⟩
   ·exact ⟨_,hb⟩
  obtain ⟨ob,q1⟩:=k b v hv
  have q2:=hB b ob q1
  rw [q] at q2
  cases q2
  exact hB' b _ q1) (fun _ q=>q) fun _ _ q=>q
theorem sR (un:Un fs [] H H' h0 h) (k2:∀ b o,h0.get? b = some o -> b ∉ fs -> ∃ o',B.get? b = some o') (nf:∀ b ∈ fs,∀ o,h0.get? b = some o -> ∀ vs,o.data ≠ .fields vs) (fr:∀ b ∈ fs,H b = none)
  (hB:B.StaysIn h) (hB':B.StaysIn h') (sm:h.UpToSlots h'):Un fs [] H H' h0 h':=by
 have no:∀ b:Addr,b ∉ ([]:List Addr):=fun b z=>by cases z
 have both:∀ b o,h0.get? b = some o -> b ∉ fs -> ∃ o',h.get? b = some o' /\ h'.get? b = some o':=fun b o q z=>by
  obtain ⟨o',q'⟩:=k2 b o q z
  exact ⟨o',hB b o' q',hB' b o' q'⟩
 have slots:∀ b o,h0.get? b = some o -> b ∈ fs -> ∃ sl,h'.get? b = some { o with slots:=sl }:=fun b o q z=>by
  obtain ⟨sl,q2⟩:=un.slot b o q (fr b z) z (no b)
  obtain ⟨sl',q3⟩:=sm b _ q2 (nf b z o q)
  exact ⟨sl',q3⟩
 refine ⟨fun b o q n z _=>?_,fun b o q _ z _=>slots b o q z,un.free,fun b o q _=>?_,un.tups,un.frzs,un.tbls⟩
 ·obtain ⟨o',q1,q2⟩:=both b o q z
  have q3:=un.keep b o q n z (no b)
  rw [q3] at q1
  cases q1
  exact q2
 ·by_cases z:b ∈ fs
  ·obtain ⟨sl,q1⟩:=slots b o q z
   exact ⟨_,q1⟩
  ·obtain ⟨o',_,q2⟩:=both b o q z
   exact ⟨o',q2⟩
end
section
variable {X:Cx} {pins:List (Addr × Obj)} {σ:St} {H:Hp} {s:Shared} {E:XK} {B:Heap} {e:Addr} {cls a0:Value}
theorem Inv.nf (I:Inv X pins σ H s):∀ b ∈ X.fs,∀ o,X.s₀.heap.get? b = some o -> ∀ vs,o.data ≠ .fields vs:=fun b z o q=>by
 obtain ⟨_,o1,q1,nf⟩:=I.ok.funs.mem z
 rw [q] at q1
 cases q1
 exact nf
theorem Inv.nfS (I:Inv X pins σ H s):∀ b ∈ wZ X.stack,∀ o,s.heap.get? b = some o -> ∀ vs,o.data ≠ .fields vs:=fun b z o q=>by
 obtain ⟨_,o1,q1,nf⟩:=I.stack.mem z
 rw [q] at q1
 cases q1
 exact nf
theorem Ch {h':Heap} (I:Inv X pins σ H s) (hex:X.ex = []) (hE:E cls none H) (hB:B.StaysIn s.heap) (k1:∀ b u,H b = some u -> ∃ o,B.get? b = some o)
  (k2:∀ b o,X.s₀.heap.get? b = some o -> b ∉ X.fs -> ∃ o',B.get? b = some o') (fl:Heap.FlyingW B X.outer e cls a0 h') (sm:s.heap.UpToSlots h'):qY X.prog X.w X.outer X.H₀ X.s₀ E (.ref e) { s with heap:=h' }:=
 ⟨e,cls,a0,H,B,rfl,I.os,⟨I.bare,I.tk⟩,sR (by have:=I.base;rw [hex] at this;exact this) k2 I.nf I.ok.frf hB fl.1 sm,oz I.hok hB fl.1 k1,hE,fl,k1,k2⟩
theorem Inv.notStk (I:Inv X pins σ H s) {b:Addr} {o:Obj} (q:X.s₀.heap.get? b = some o) (z:b ∉ X.fs):b ∉ wZ X.stack:=fun hb=>by
 rcases List.mem_cons.mp (I.stkSub b hb) with r | r
 ·exact absurd (Heap.lt_size q) (by rw [r];exact Nat.not_lt.mpr I.ok.above)
 ·exact z r
end
section
variable {P:Program} {w:World} {K:W.Frag} {mg:Str -> Option Value} {base:Heap} {N:List Str} {qual:Str} {scope:Scope} {f:Addr} {cdv:Value} {A:Around} {outer:List Env} {s:Shared} {H:Hp} {E:XK}
theorem Ki:rR (qY P w) (mw (qY P w) P w K mg base N qual scope f cdv A outer s H E) E:=by
 intro pins σ H1 s1 v s' I hx
 obtain ⟨e,cls,a0,H',B,rfl,ho,hg,un,hok,hE,fl,k1,k2⟩:=hx
 have I2:=I.call' ho un hok hg.1 (fun b z=>by cases z) (.inr hg.2)
 refine wpAny_leaves_onW I.ok.frames rfl fl fun h' fl' sm=>Ch (X:=mw (qY P w) P w K mg base N qual scope f cdv A outer s H E) I2 rfl hE fl.1 k1 (fun b o q z=>?_) fl' sm
 obtain ⟨o1,q1⟩:=I.base.there b o q (by intro y;cases y)
 exact k2 b o1 q1 (I.notStk q z)
def EV (X:Cx) (E:XK):Prop:=∀ (pins:List (Addr × Obj)) (σ:St) (H:Hp) (s:Shared) (h':Heap) (e C:Addr) (vs:List Value),Inv X pins σ H s -> Heap.MadeExcOf s.heap h' e (.ref C) vs -> E (.ref C) none H -> X.xe (.ref e) { s with heap:=h' }
theorem CH:EV (mw (qY P w) P w K mg base N qual scope f cdv A outer s H E) E:=by
 intro pins σ H1 s1 h' e C vs I hx hE
 have hin:∀ env ∈ (mw (qY P w) P w K mg base N qual scope f cdv A outer s H E).stack,∀ b,env.frame = some b -> b ∈ wZ (mw (qY P w) P w K mg base N qual scope f cdv A outer s H E).stack:=fun env he b hb=>List.mem_filterMap.mpr ⟨env,he,hb⟩
 have I2:=I.kept (t':=s1.toks) hx.keeps
 refine wpAny_leaves_madeW (base:=W.hideAll s1.heap (wZ (mw (qY P w) P w K mg base N qual scope f cdv A outer s H E).stack)) I.ok.frames rfl (fun b o q=>W.of_hideAll _ q) (W.funFrames_hide I.stack hin) hx fun h2 t fl _ _ sm=>?_
 refine Ch (X:=mw (qY P w) P w K mg base N qual scope f cdv A outer s H E) (s:={ s1 with heap:=h' }) I2 rfl hE (fun b o q=>hx.keeps b o (W.of_hideAll _ q)) (fun b u q=>?_) (fun b o q z=>?_) fl sm
 ·obtain ⟨o,q1⟩:=(I.hok b u q).at_
  exact ⟨o,W.hideAll_get _ q1 fun hb=>by rw [I.stkFree b hb] at q;cases q⟩
 ·obtain ⟨o1,q1⟩:=I.base.there b o q (by intro y;cases y)
  exact ⟨o1,W.hideAll_get _ q1 (I.notStk q z)⟩
end
theorem Hw {K:W.Frag} {h:Heap} {C:Addr} {bmB:List Value} {newId:String} (X:K.In h) (q:W.excIn K C bmB newId = true):∃ bm N nm qn bs hdct sn sub ab col dd k0 k1 k2 k3 k5 mN,
  h.get? C = some (excClassObj nm qn C N bs bm hdct sn sub ab col dd k0 k1 k2 k3 k5 newId) /\ h.Ns N mN /\ mN "__init__" = none /\ OwnTail h bmB bm:=by
 unfold W.excIn at q
 split at q <;> try (cases q;done)
 rename_i dd cd sl ho
 split at q <;> try (cases q;done)
 rename_i C' bm k0 k1 k2 k3 n k5 hm hs
 simp only [Bool.and_eq_true,beq_iff_eq,Bool.not_eq_true'] at q
 obtain ⟨⟨⟨⟨⟨rfl,rfl⟩,qd⟩,qt⟩,qo⟩,qi⟩:=q
 obtain ⟨nm,bs,mro,ns,qn,hd,sn,sub,ab,col,del⟩:=cd
 obtain ⟨l⟩:=sl
 dsimp only at hm hs qd qo qi
 subst hm hs qd
 exact ⟨bm,ns,nm,qn,bs,hd,sn,sub,ab,col,dd,k0,k1,k2,k3,k5,_,X _ _ ho,.of_isNs (W.isNs_of_in X qo),W.nsMap_none_of_in X qo qi,W.tail_of_in X qt⟩
abbrev JS:List Value:=[.type "ValueError",.type "Exception",.type "BaseException",.type "object"]
noncomputable def GV (K:W.Frag) (N:Str) (te:TE) (E:XK):TS:=fun _ σ H=>∀ C,W.nsIn K mainGlobals N = some (some (.ref C)) -> eN te kG σ H fun vs H1=>vs.length = 1 /\ E (.ref C) none H1
section
variable {X:Cx} {E:XK} {x:Str} {e:Expr} {te:TE} {np cpos pos:Pos}
theorem zD (hz:EV X E) (hE:∃ C:Addr,W.nsIn X.K mainGlobals x = some (some (.ref C)) /\ W.excIn X.K C JS "ValueError.__new__" = true /\ X.mg x = some (.ref C)) (hh:X.A.handled = none) (hg:Gl X x) (he:PE X e te)
  (hdb:(x == ("__debug__" : Str)) = false:=by decide) (h1:starEach [e] X.env = (false,eval e X.env) :: starEach [] X.env:=by rfl) (h2:(backTo cpos (starEach [] X.env)).any (·.1) = false:=by rfl) :
  PS X (.Raise (some (.Call (.Name x np) [e] [] cpos)) none pos) (GV X.K x te E):=by
 intro pins s σ H D I h
 obtain ⟨C,hN,hq,hm⟩:=hE
 have h:=h C hN
 obtain ⟨tl,N,nm,q,bs,hdct,sn,sub,ab,col,dd,k0,k1,k2,k3,k5,mN,hC,hNs,hni,T⟩:=Hw I.ok.mod.kin hq
 refine wpAny_Raise_call_subT (C:=C) (nm:=nm) (q:=q) (N:=N) (bs:=bs) (bm:=tl) (hdct:=hdct) (sn:=sn) (sub:=sub) (ab:=ab) (col:=col) (dd:=dd) (k0:=k0) (k1:=k1) (k2:=k2) (k3:=k3) (k5:=k5)
  PySem.F.excBase_ValueError (mN:=mN) (T.hasType PySem.F.excBase_ValueError.hasBase) hh (by rw [h1];show (false || (backTo cpos (starEach [] X.env)).any (·.1)) = false;rw [h2];rfl) hni (ki I hg hm ⟨rfl,?_⟩ hdb)
 have hp:=af (X:=X) he ak h1 cpos pins s σ H (fun vs H1=>vs.length = 1 /\ E (.ref C) none H1) I h
 rw [h1] at hp ⊢
 exact Calls.evalArgs_plain (eE hp fun us s2 ⟨vs,H2,I2,r,ql,q2⟩=>⟨rfl,by rw [<- r.length,ql];exact Nat.le_trans (show 1 <= 1000 by decide) (by rw [sizeLine_eq];decide),I2.bk _ _ hC,hNs.keeps I2.bk,T.keeps I2.bk,fun h' e' hx=>hz pins σ H2 s2 h' e' C us I2 hx q2⟩)
end
noncomputable abbrev Cx.hold (X:Cx) (e:Addr):Cx:={ X with A:=X.A.mark (some (.ref e)),calm:=false,xe:=fun _ _=>False }
noncomputable abbrev Cx.pin (X:Cx) (ps:List (Addr × Obj)):Cx:={ X with pn:=X.pn ++ ps }
section
variable {X:Cx} {pins:List (Addr × Obj)} {σ:St} {H H':Hp} {s s':Shared} {e:Addr}
theorem Cx.Ok.hold (ok:X.Ok) (e:Addr):(X.hold e).Ok:=
 ⟨ok.mod,ok.kind,ok.glob,ok.blt,ok.above,ok.inj,ok.has,ok.cab,(fun z=>by cases z),ok.frames,ok.stk,ok.exf,ok.bs,ok.bsz,ok.noex,ok.exfs,ok.funs,ok.frf⟩
theorem Inv.hold (I:Inv X pins σ H s) (e:Addr):Inv (X.hold e) pins σ H s:=⟨I.ok.hold e,I.os,I.bare,I.base,I.loc,I.cell,I.free,I.freeC,I.pin,I.hok,I.len,I.tk⟩
theorem Inv.unhold (ok:X.Ok) (I:Inv (X.hold e) pins σ H s):Inv X pins σ H s:=⟨ok,I.os,I.bare,I.base,I.loc,I.cell,I.free,I.freeC,I.pin,I.hok,I.len,I.tk⟩
theorem Inv.toPin (I:Inv X pins σ H s):Inv (X.pin pins) [] σ H s:=
 ⟨⟨I.ok.mod,I.ok.kind,I.ok.glob,I.ok.blt,I.ok.above,I.ok.inj,I.ok.has,I.ok.cab,I.ok.hd,I.ok.frames,I.ok.stk,I.ok.exf,I.ok.bs,I.ok.bsz,I.ok.noex,I.ok.exfs,I.ok.funs,I.ok.frf⟩,I.os,I.bare,I.base,I.loc,I.cell,I.free,I.freeC,fun p hp=>I.pin p (by rw [List.append_nil] at hp;exact hp),I.hok,I.len,I.tk⟩
theorem Inv.ofPin {ps:List (Addr × Obj)} (ok:X.Ok) (I:Inv (X.pin pins) ps σ H s):Inv X pins σ H s:=
 ⟨ok,I.os,I.bare,I.base,I.loc,I.cell,I.free,I.freeC,fun p hp=>I.pin p (List.mem_append_left _ hp),I.hok,I.len,I.tk⟩
theorem Cm {M:Model} {A:Around} {E:Value -> Shared -> Prop} {i:Nat} {n:Str} {pos:Pos} {Q:Unit -> Shared -> Prop} (I:Inv X pins σ H s) (hN:X.N.Nodup) (hi:X.N[i]? = some n) (hk:X.env.kindOf n = some .local)
  (h:∀ s',Inv X pins (σ.set i none) H s' -> Q () s'):wpAny M A (do bindName X.env n .none;unbindBehindTheSuite X.env n pos) Q E s:=by
 have hcls:(X.env.scope.kind == .class || (X.env.scope.kind == .module && X.env.locals != X.env.globals)) = false:=by rw [I.ok.kind];rfl
 obtain ⟨m,hn,hl⟩:=id I.loc
 refine wpAny_bind (wpAny_bindName (wpAny_storeName_local hk hn (fun h1 hn1 hs1=>?_) hcls))
 unfold unbindBehindTheSuite
 refine wpAny_onRaise ?_
 unfold unbindName
 refine wpAny_bind (wpAny_point (wpAny_bind ?_))
 unfold deleteName
 simp only [hk,hcls]
 rw [if_neg (by decide)]
 refine wpAny_bind (wpAny_nsDel_keeps hn1 fun h2 v hn2 hs2=>?_)
 simp only [if_true,Option.isSome_some,Bool.not_true,Bool.false_eq_true,if_false]
 have hs:=hs1.trans hs2
 have cne:=I.cne
 obtain ⟨oL,_,_,hoL,_⟩:=id hn
 refine wpAny_pure (wpAny_point (h _ ⟨I.ok,I.os,I.bare,⟨fun b o q z hb hx=>?_,fun b o q z hb hx=>?_,I.base.free,fun b o q hx=>?_,I.base.tups,I.base.frzs,I.base.tbls⟩,⟨_,hn2,fun j y v' e1 e2 e3=>?_⟩,fun y c q=>?_,I.free,I.freeC,fun p hp=>?_,fun b ob q=>?_,by rw [List.length_set];exact I.len,Nat.le_succ_of_le I.tk⟩))
 ·exact (hs.2 b (Nat.ne_of_lt (Nat.lt_of_lt_of_le (Heap.lt_size q) I.ok.above))).trans (I.base.keep b o q z hb hx)
 ·obtain ⟨sl,q1⟩:=I.base.slot b o q z hb hx
  exact ⟨sl,(hs.2 b (Nat.ne_of_lt (Nat.lt_of_lt_of_le (Heap.lt_size q) I.ok.above))).trans q1⟩
 ·obtain ⟨o',q1⟩:=I.base.there b o q hx
  exact ⟨o',(hs.2 b (Nat.ne_of_lt (Nat.lt_of_lt_of_le (Heap.lt_size q) I.ok.above))).trans q1⟩
 ·have hj:j ≠ i:=fun z=>by
   subst z
   by_cases hlt:j < σ.length
   ·rw [List.getElem?_set_self hlt] at e2;cases e2
   ·rw [List.getElem?_eq_none (by rw [List.length_set];lia)] at e2;cases e2
  rw [List.getElem?_set_ne (Ne.symm hj)] at e2
  have hy:y ≠ n:=fun z=>hj (tI hN e1 (z ▸ hi))
  obtain ⟨u',r',q⟩:=hl j y v' e1 e2 e3
  refine ⟨u',r',?_⟩
  rcases q with ⟨k,q⟩ | ⟨k,c,q,z⟩
  ·exact .inl ⟨k,by simp [hy,q]⟩
  ·exact .inr ⟨k,c,q,z.sameBut hs (cne y c q)⟩
 ·obtain ⟨w',z⟩:=I.cell y c q
  exact ⟨w',z.sameBut hs (cne y c q)⟩
 ·obtain ⟨q,z,ne,nf,d⟩:=I.pin p hp
  exact ⟨(hs.2 p.1 ne).trans q,z,ne,nf,d⟩
 ·refine (I.hok b ob q).stay (fun c w' hc z=>(hs.2 c ?_).trans z) (fun _ z=>z) fun _ _ z=>z
  rintro rfl
  rcases hc with rfl | hc
  ·rw [I.free] at q;cases q
  ·rw [I.free] at hc;cases hc
end
noncomputable def Mq (K:W.Frag) (L:List Str) (i:Nat) (tb:XK -> TS) (ts:TS):TS:=fun D σ H=>
 tb (fun cls _ H'=>∃ N C,N ∈ L /\ cls = .ref C /\ W.nsIn K mainGlobals N = some (some (.ref C)) /\ ∀ e,H' e = none ->
  ts { nx:=fun σ' H2=>D.nx (σ'.set i none) H2,rt:=fun _ _=>False } ((List.replicate σ.length none).set i (some (.ref e))) (d8 H' e (sN C e))) D σ H
section
variable {X:Cx} {body suite:List Stmt} {b0:Stmt} {x n:Str} {i:Nat} {L:List Str} {tb:XK -> TS} {ts:TS} {np hp pos:Pos}
theorem Kn (hst:X.stack = X.env :: X.outer) (hfr:X.env.frame = some X.env.locals) (hN:X.N.Nodup) (hi:X.N[i]? = some n) (hl:X.env.kindOf n = some .local) (hm:∃ T:Addr,X.mg x = some (.ref T) /\ ∀ N ∈ L,∀ C:Addr,PySem.W.nsIn X.K mainGlobals N = some (some (.ref C)) -> PySem.W.exmOne X.K (.ref C) (.ref T) = some true) (hg:Gl X x)
  (hb:∀ (ps:List (Addr × Obj)) (W:Value -> Shared -> Prop) (E:XK),rR (qY X.prog X.w) ((X.pin ps).wish W) E -> PSs ((X.pin ps).wish W) body (tb E)) (hs:∀ e,PSs (X.hold e) (b0 :: suite) ts) (hdb:(x == ("__debug__" : Str)) = false:=by decide)
  (hf:X.fn n = true \/ X.env.scope.names.lookup n = some .local:=by first | exact .inl rfl | exact .inr rfl | assumption) :
  PS X (.Try body [.ExceptHandler (some (.Name x np)) (some n) (b0 :: suite) hp] [] [] pos) (Mq X.K L i tb ts):=by
 intro pins s σ H D I h
 have hlen:σ.length = X.N.length:=I.len
 refine wpAny_Try_except ?_
 refine wpAny_mono (hb pins (fun v s1=>wpAny (model X.prog X.w) X.A (noteFrame v X.env) (fun _ s2=>wpAny (model X.prog X.w) X.A (setFlight v none) (fun _ s3=>wpAny (model X.prog X.w) X.A (handleBy v X.env [.ExceptHandler (some (.Name x np)) (some n) (b0 :: suite) hp]) (SP X pins D) X.xe s3) X.xe s2) X.xe s1) _ ?_ [] s σ H D (I.toPin.wish _) h) (fun f s1 q=>?_) fun _ _ z=>z
 ·intro ps σ1 H1 s1 v s' J hx
  obtain ⟨e,cls,a0,H',B,rfl,ho,hgn,un,hok,hE,fl,k1,k2⟩:=hx
  obtain ⟨M,C,hM,rfl,hC,hh⟩:=hE
  obtain ⟨T,hm,hmt⟩:=hm
  have hmt:=hmt M hM C hC
  have J1:Inv X pins σ1 H1 s1:=Inv.ofPin I.ok J.unwish
  have J1:Inv X pins (List.replicate X.N.length none) H1 s1:=J1.weak (by rw [List.length_replicate,J1.len]) fun j v' q=>by
   rw [List.getElem?_replicate] at q
   split at q <;> cases q
  have fl:Heap.FlyingW B (X.env :: X.outer) e (.ref C) a0 s'.heap:=hst ▸ fl
  have hfrm:X.A.frames = some (X.env :: X.outer):=by rw [I.ok.frames,hst]
  refine wpAny_looks_onW hfrm hfr fl fun h4 held sm4=>?_
  refine wpAny_landsW held fun h5 fl5 sm5=>?_
  have sm5:=sm4.trans sm5
  -- the state ahead of the clause
  have J5:Inv X pins (List.replicate X.N.length none) H' { s' with heap:=h5 }:=J1.call' ho (sR un k2 J1.nfS J1.stkFree fl.1 fl5.1 sm5) (oz hok fl.1 fl5.1 k1) hgn.1 (fun b z=>by cases z) (.inr hgn.2)
  obtain ⟨oe,vs,he,hc,hd,_⟩:=fl5.first
  refine wpAny_handleBy_cons (codeAny_handlers_test (ki (X:=X.hold e) (J5.hold e) hg hm ?_ hdb)) (by intro z;cases z)
  have LT:PySem.W.Looks (model X.prog X.w) h5 (typeOf (.ref e)) (.ref C):=hc ▸ (PySem.W.Looks.ld he).andThen .now
  refine (PySem.W.exm_one (J5.kIn) LT hmt).here ?_
  refine codeAny_handlers_suite_as ?_
  refine lands_againW fl5 fun h6 fl6 sm6=>?_
  have sm6:=sm5.trans sm6
  obtain ⟨oe,vs,he,hc,hd,_⟩:=fl6.first
  have heB:H' e = none:=by
   cases q:H' e with
   | none=>rfl
   | some u=>
    obtain ⟨o,q1⟩:=k1 e u q
    rw [fl6.2.1] at q1
    cases q1
  have un6:=sR un k2 J1.nfS J1.stkFree fl.1 fl6.1 sm6
  have hnew:∀ b o,s1.heap.get? b = some o -> b ≠ e:=fun b o q z=>by
   subst z
   by_cases hz:b ∈ wZ X.stack
   ·obtain ⟨sl,q2⟩:=un6.slot b o q (J1.stkFree b hz) hz (by intro y;cases y)
    rw [he] at q2
    cases q2
    exact J1.nfS b hz o q _ hd
   ·obtain ⟨o',q1⟩:=k2 b o q hz
    rw [fl6.2.1] at q1
    cases q1
  have J6:Inv X pins (List.replicate X.N.length none) (d8 H' e (sN C e)) { s' with heap:=h6 }:=by
   refine J1.call' ho (ch:=[]) ⟨un6.keep,un6.slot,fun b o q z y=>?_,un6.there,fun b xs q=>?_,fun b o u q=>?_,fun b ps' q=>?_⟩ (fun b u q=>?_) hgn.1 (fun b z=>by cases z) (.inr hgn.2)
   ·rw [aS (hnew b o q)];exact un6.free b o q z y
   ·have:=un6.tups b xs q;rw [aS (aP this heB)];exact this
   ·have:=un6.frzs b o u q;rw [aS (aP this heB)];exact this
   ·obtain ⟨mr,this⟩:=un6.tbls b ps' q;exact ⟨mr,by rw [aS (aP this heB)];exact this⟩
   ·have hok6:=oz hok fl.1 fl6.1 k1
    by_cases hbe:b = e
    ·subst hbe
     rw [a7] at q
     cases q
     refine ⟨⟨oe,vs,he,hc,hd⟩,⟨oe,he⟩,fun h1 h2 ⟨o1,v1,z1,z2,z3⟩ kk=>⟨o1,v1,kk _ z1,z2,z3⟩⟩
    ·rw [aS hbe] at q
     exact (hok6 b u q).stay (fun _ _ _ z=>z) (fun c z=>by rw [aS (aP z heB)];exact z) fun c xs z=>by rw [aS (aP z heB)];exact z
  refine lK (X:=X.hold e) (J6.hold e) hN hi (.inl hl) (v:=.ref e) rfl (fun s7 J7=>?_) hf
  refine wpAny_mono (hs e pins s7 _ _ _ J7 (by rw [hlen] at hh;exact hh e heB)) (fun f s8 q=>?_) fun _ _ z=>z.elim
  cases f with
  | next=>
   obtain ⟨σ8,H8,J8,q8⟩:=q
   exact Cm (Inv.unhold I.ok J8) hN hi hl fun s9 J9=>⟨_,H8,J9,q8⟩
  | brk=>obtain ⟨_,_,_,z⟩:=q;exact z.elim
  | cont=>obtain ⟨_,_,_,z⟩:=q;exact z.elim
  | ret u=>obtain ⟨_,_,_,_,_,z⟩:=q;exact z.elim
 ·have q:SP X pins D f s1:=by
   have q:=q.unwish
   cases f with
   | next=>obtain ⟨σ',H',J,z⟩:=q;exact ⟨σ',H',Inv.ofPin I.ok J,z⟩
   | brk=>obtain ⟨σ',H',J,z⟩:=q;exact ⟨σ',H',Inv.ofPin I.ok J,z⟩
   | cont=>obtain ⟨σ',H',J,z⟩:=q;exact ⟨σ',H',Inv.ofPin I.ok J,z⟩
   | ret u=>obtain ⟨v,σ',H',J,r,z⟩:=q;exact ⟨v,σ',H',Inv.ofPin I.ok J,r,z⟩
  cases f with
  | next=>exact wpAny_execs_nil q
  | brk=>exact q
  | cont=>exact q
  | ret u=>exact q
end
def qW (K:W.Frag) (ans:List (Str × Bool)) (u:Value):Prop:=∀ N b,ans.lookup N = some b -> ∀ C:Addr,W.nsIn K mainGlobals N = some (some (.ref C)) -> XCls K C /\ W.kitOne K (.ref C) u = some b
theorem se {K:W.Frag} {u:Value}:qW K [] u:=fun N b h=>by cases h
theorem g7 {K:W.Frag} {u:Value} {N:Str} {b0:Bool} {ans:List (Str × Bool)} (h0:∀ C:Addr,W.nsIn K mainGlobals N = some (some (.ref C)) -> XCls K C /\ W.kitOne K (.ref C) u = some b0) (h:qW K ans u):qW K ((N,b0) :: ans) u:=fun M b hl C hC=>by
 rw [List.lookup] at hl
 split at hl
 ·rename_i hb
  have e:M = N:=by simpa using hb
  subst e
  cases hl
  exact h0 C hC
 ·exact h M b hl C hC
noncomputable def LW (K:W.Frag) (ans:List (Str × Bool)) (vv:V):List V -> Hp -> VK -> Prop:=fun xs H Q=>∃ e C N b,xs = [.ref e,vv] /\ H e = some (sN C e) /\ W.nsIn K mainGlobals N = some (some (.ref C)) /\ ans.lookup N = some b /\ Q (.bl b) H
noncomputable def IP (K:W.Frag) (i:Nat) (ans:List (Str × Bool)):TE:=fun σ H Q=>∃ e C N b,σ[i]? = some (some (.ref e)) /\ H e = some (sN C e) /\ W.nsIn K mainGlobals N = some (some (.ref C)) /\ ans.lookup N = some b /\ Q (.bl b) H
noncomputable def Af (K:W.Frag) (i:Nat):List (List (Str × Bool)) -> TA
 | []=>kG
 | a :: l=>eN (IP K i a) (Af K i l)
section
variable {X:Cx} {e:Expr} {pos p p':Pos} {i:Nat} {N:Str} {ans:List (Str × Bool)} {vv:V} {u:Value}
theorem yo (hv:∀ v,RelV vv v -> v = u) (hc:qW X.K ans u):CallR X (.builtin "isinstance") (LW X.K ans vv):=by
 intro pins s σ H xs us Q I r h
 obtain ⟨a,C,N,b,rfl,ea,hC,hb,q⟩:=h
 obtain ⟨u1,v,rfl,r1,r2⟩:=Vals.two r
 have eu:u1 = Value.ref a:=r1
 subst eu
 have ev:=hv v r2
 subst ev
 obtain ⟨c,hk⟩:=hc N b hb C hC
 exact keep I.tk (W.kia_one (FB c) I.kIn (I.hok a _ ea).1 hk (fun z=>nomatch z) fun tk hkk=>⟨.bl b,H,I.tok _,rfl,q⟩)
theorem Fx {K:W.Frag} {σ:St} {H:Hp} {Q:VK} (h:IP K i ans σ H Q):Mm (LW K ans vv) (eN (ul i) (eN (tC vv) kG)) σ H Q:=by
 obtain ⟨a,C,N,b,h1,ea,hC,hb,q⟩:=h
 exact ⟨.ref a,h1,a,C,N,b,rfl,ea,hC,hb,q⟩
theorem xy (h:∃ T:Addr,X.mg N = some (.ref T) /\ qW X.K ans (.ref T)) (hg:Gl X "isinstance") (hm:X.mg "isinstance" = none) (gT:Gl X N) (he:PE X e (ul i)) (hdb:(N == ("__debug__" : Str)) = false:=by decide)
  (h1:starEach [e,.Name N p'] X.env = (false,eval e X.env) :: starEach [.Name N p'] X.env:=by rfl) (h2:starEach [.Name N p'] X.env = (false,eval (.Name N p') X.env) :: starEach [] X.env:=by rfl) (hpl:(backTo pos (starEach [.Name N p'] X.env)).any (·.1) = false:=by rfl) :
  PE X (.Call (.Name "isinstance" p) [e,.Name N p'] [] pos) (IP X.K i ans):=by
 obtain ⟨T,k2,k3⟩:=h
 exact fun a b c d q I h=>a9 (yo (vv:=.ref T) (fun v r=>r) k3) hg hm jf (af he (af (me (v:=.ref T) gT k2 rfl hdb) ak h2) h1) (by decide) (by decide) h1 hpl a b c d q I (Fx h)
theorem Cy {M:String} (k2:X.mg N = none) (hv:bootBuiltins N = some (.type M)) (k3:qW X.K ans (.type M)) (hg:Gl X "isinstance") (hm:X.mg "isinstance" = none) (gT:Gl X N) (he:PE X e (ul i)) (hn:N ≠ "__name__" := by decide) (hdb:(N == ("__debug__" : Str)) = false:=by decide)
  (h1:starEach [e,.Name N p'] X.env = (false,eval e X.env) :: starEach [.Name N p'] X.env:=by rfl) (h2:starEach [.Name N p'] X.env = (false,eval (.Name N p') X.env) :: starEach [] X.env:=by rfl) (hpl:(backTo pos (starEach [.Name N p'] X.env)).any (·.1) = false:=by rfl) :
  PE X (.Call (.Name "isinstance" p) [e,.Name N p'] [] pos) (IP X.K i ans):=
 fun a b c d q I h=>a9 (yo (vv:=.ty M) (fun v r=>r) k3) hg hm jf (af he (af (Cw (v:=.ty M) gT k2 hv rfl hn hdb) ak h2) h1) (by decide) (by decide) h1 hpl a b c d q I (Fx h)
theorem tX {st:Stmt} {eA:List Stmt} {t:TS} (h:PS X st t):PSs X (st :: eA) (fun D=>t { D with nx:=fun _ _=>False }):=by
 intro pins s σ H D I q
 refine wpAny_execs_cons (eE (h pins s σ H _ I q) fun f s1 z=>?_)
 cases f with
 | next=>obtain ⟨_,_,_,y⟩:=z;exact y.elim
 | brk=>exact z
 | cont=>exact z
 | ret u=>exact z
theorem Fun.okX {P:Program} {w:World} {K:W.Frag} {mg:Str -> Option Value} {base:Heap} {x qual:Str} {st:Stmt} {f:Addr} {fd:FuncData} {N ps:List Str} {k:Nat} {sp:Sp} (F:Fun K x qual st f fd) (S:FnScope N ps (au st)) (len:∀ vs H Q E,sp vs H Q E -> vs.length = ps.length)
  (hbody:∀ (cdv:Value) (A:Around) (outer:List Env) (s:Shared) (H:Hp) (vs:List V) (Q:VK) (E:XK),Room k (A.deeper (envOfC qual (au st) s.heap.objs.size f cdv)) -> sp vs H Q E ->
   ∃ t,PSs (mw (qY P w) P w K mg base N qual (au st) f cdv A outer s H E) (ba st) t /\ t { nx:=fun _ H'=>Q .non H',rt:=Q } (bJ N vs) H):FnOk P w K mg base (qY P w) (k + 1) f fd ps sp:=by
 obtain ⟨oc,od,kV,doc,pm,an,cdv,ct,osl,rfl,lk,hcd⟩:=F.ex
 exact Ci lk hcd S len fun A outer s H vs Q E hr hsp=>hbody cdv A outer s H vs Q E hr hsp
end
end L2
namespace M
open PySem L2
section
variable {K:W.Frag} {S S' H H':Hp}
noncomputable def O8:List D -> Option D
 | [.int i]=>some (.int (if i < 0 then -i else i))
 | _=>none
inductive RO where
 | rz (N:Str) | nx (ρ:Env)
noncomputable abbrev XR:=Env -> Option RO
def XDone (K:W.Frag) (A S:Hp) (E:XK) (N:Str):Prop:=∀ C S' H',Same S S' -> Same S' H' -> Same A H' -> (∀ b,S' b = none \/ A b = none \/ ∃ u,A b = some u /\ IT u) -> W.nsIn K mainGlobals N = some (some (.ref C)) -> E (.ref C) none H'
theorem XDone.mono {A:Hp} {E:XK} {N:Str} (s:Same S S') (h:XDone K A S E N):XDone K A S' E N:=fun C S1 H1 z=>h C S1 H1 (s.trans z)
noncomputable def DoneX (K:W.Frag) (A:Hp) (Λ:Nat -> Option Addr) (S:Hp) (E:XK) (D:Ends):RO -> Prop
 | .rz N=>XDone K A S E N
 | .nx ρ=>∀ σ' S' H',RlA K A Λ ρ σ' S' H' -> Same S S' -> D.nx σ' H'
theorem DoneX.mono {A:Hp} {Λ:Nat -> Option Addr} {E:XK} {D:Ends} {o:RO} (s:Same S S') (h:DoneX K A Λ S E D o):DoneX K A Λ S' E D o:=by
 cases o with
 | rz N=>exact XDone.mono s h
 | nx ρ=>exact fun σ1 S1 H1 r z=>h σ1 S1 H1 r (s.trans z)
def SX (K:W.Frag) (E:XK) (t:TS) (m:XR):Prop:=∀ A Λ ρ σ S H (D:Ends) o,RlA K A Λ ρ σ S H -> m ρ = some o -> DoneX K A Λ S E D o -> t D σ H
def MI (K:W.Frag) (E:XK) (t:TE) (m:Env -> Option Str):Prop:=∀ A Λ ρ σ S H (Q:VK) N,RlA K A Λ ρ σ S H -> m ρ = some N -> XDone K A S E N -> t σ H Q
variable {E:XK}
@[simp] noncomputable def BU:XR:=fun ρ=>some (.nx ρ)
theorem CV:SX K E C0 BU:=fun A Λ ρ σ S H D o r x k=>by cases x;exact k σ S H r (Same.refl _)
@[simp] noncomputable def x0 (N:Str):XR:=fun _=>some (.rz N)
theorem Ac {N:Str} {v:V}:SX K E (GV K N (tC v) E) (x0 N):=fun A Λ ρ σ S H D o r x k=>by
 cases x
 exact fun C hC=>⟨rfl,k C S H (Same.refl _) r.sub r.asub r.adis hC⟩
@[simp] noncomputable def He (c:XT) (m n:XR):XR:=fun ρ=>(c ρ).bind fun b=>if b = true then m ρ else n ρ
theorem Jt {tc:TT} {t u:TS} {c:XT} {m n:XR} (hc:ST K tc c) (ht:SX K E t m) (hu:SX K E u n):SX K E (KN tc t u) (He c m n):=fun A Λ ρ σ S H D o r x k=>by
 obtain ⟨q,qc,x⟩:=bind_some x
 refine hc ρ σ S H _ q r.toRl qc fun S1 H1 z1=>?_
 cases q with
 | true=>exact yQ (ht A Λ ρ σ S1 H1 D o (r.ext z1) (by simpa using x) (k.mono z1.sh))
 | false=>exact yP (hu A Λ ρ σ S1 H1 D o (r.ext z1) (by simpa using x) (k.mono z1.sh))
@[simp] noncomputable def Am (m n:XR):XR:=fun ρ=>(m ρ).bind fun o=>match o with | .nx ρ'=>n ρ' | .rz N=>some (.rz N)
theorem BF {t u:TS} {m n:XR} (ht:SX K E t m) (hu:SX K E u n):SX K E (IR t u) (Am m n):=fun A Λ ρ σ S H D o r x k=>by
 obtain ⟨om,q,x⟩:=bind_some x
 refine ht A Λ ρ σ S H _ om r q ?_
 cases om with
 | nx ρ'=>exact fun σ' S' H' r' z=>hu A Λ ρ' σ' S' H' D o r' x (k.mono z)
 | rz N=>cases x;exact k
@[simp] noncomputable def nT (m:XR):XR:=fun ρ=>(m ρ).bind fun o=>match o with | .nx _=>none | .rz N=>some (.rz N)
theorem xT {t:TS} {m:XR} (ht:SX K E t m):SX K E (fun D=>t { D with nx:=fun _ _=>False }) (nT m):=fun A Λ ρ σ S H D o r x k=>by
 obtain ⟨om,q,x⟩:=bind_some x
 cases om with
 | nx ρ'=>cases x
 | rz N=>cases x;exact ht A Λ ρ σ S H _ _ r q k
@[simp] noncomputable def Mz (m:Env -> Option Str):XR:=fun ρ=>(m ρ).map .rz
theorem CU {t:TE} {m:Env -> Option Str} (h:MI K E t m):SX K E (CZ t) (Mz m):=fun A Λ ρ σ S H D o r x k=>by
 unfold Mz at x
 cases q:m ρ with
 | none=>rw [q] at x;cases x
 | some N=>rw [q] at x;cases x;exact h A Λ ρ σ S H _ N r q k
noncomputable def K8 (K:W.Frag) (n:Nat) (m:List D -> Option Str):Sp:=fun vs H _ E=>vs.length = n /\ ∃ S ds N,Same S H /\ Dens K S ds vs /\ m ds = some N /\ ∀ C S' H',Ext S H S' H' -> W.nsIn K mainGlobals N = some (some (.ref C)) -> E (.ref C) none H'
theorem JV {A S H S1 H1:Hp} {Λ:Nat -> Option Addr} {ρ:Env} {σ:St} (r:RlA K A Λ ρ σ S H) (z:Ext S H S1 H1):Same S S1 /\ Same S1 H1 /\ Same A H1 /\ ∀ b,S1 b = none \/ A b = none \/ ∃ u,A b = some u /\ IT u:=⟨z.sh,z.sub,(r.ext z).asub,(r.ext z).adis⟩
@[simp] noncomputable def BS (m:List D -> Option Str) (a:XA):Env -> Option Str:=fun ρ=>(a ρ).bind m
theorem Ae {n:Nat} {m:List D -> Option Str} {t:TA} {a:XA} (h:SA K t a) (hn:∀ ρ ds,a ρ = some ds -> ds.length = n):MI K E (wj (K8 K n m) [] E t) (BS m a):=fun A Λ ρ σ S H Q N r x k=>by
 obtain ⟨ds,q,x⟩:=bind_some x
 refine h ρ σ S H _ ds r.toRl q fun vs S1 H1 z1 d1=>?_
 rw [List.append_nil]
 refine ⟨by rw [<- d1.length];exact hn ρ ds q,S1,ds,N,z1.sub,d1,x,fun C S2 H2 z2 hC=>?_⟩
 obtain ⟨e1,e2,e3,e4⟩:=JV r (z1.trans z2)
 exact k C S2 H2 e1 e2 e3 e4 hC
noncomputable def Hf (n:Nat) (m:XR) (ds:List D):Option Str:=match m (ds.map .sh ++ List.replicate (n - ds.length) .un) with
 | some (.rz N)=>some N
 | _=>none
theorem JU {S1 H1:Hp} (s1:Same S S1) (s2:Same S1 H1) (s3:Same (ic S H) H1) (s4:∀ b,S1 b = none \/ ic S H b = none \/ ∃ u,ic S H b = some u /\ IT u):Ext S H S1 H1:=⟨s1,s2,fun b o hb hn=>by
 have ha:=r8 hb hn
 refine ⟨s3 b o ha,?_⟩
 rcases s4 b with z | z | ⟨u,z,hu⟩
 ·exact .inl z
 ·rw [ha] at z;cases z
 ·rw [ha] at z;cases z;exact .inr hu⟩
theorem Bo {t:TS} {m:XR} {N:List Str} {n k:Nat} {vs:List V} {H:Hp} {Q:VK} (hs:SX K E t m) (hN:N.length = n) (h:K8 K k (Hf n m) vs H Q E):t { nx:=fun _ H'=>Q .non H',rt:=Q } (L2.bJ N vs) H:=by
 obtain ⟨_,S,ds,M,s,dd,y,q⟩:=h
 subst hN
 unfold Hf at y
 have r:=zR (N:=N) s dd
 split at y <;> cases y
 rename_i qx
 exact hs _ _ _ _ S H _ _ r qx fun C S' H' s1 s2 s3 s4 hC=>q C S' H' (JU s1 s2 s3 s4) hC
theorem Cb:∀ bs:List Bool,Dens K S (bs.map D.bl) (bs.map V.bl)
 | []=>.nil
 | b :: bs=>.cons (den_bl.mpr rfl) (Cb bs)
noncomputable def tz (N:Str):List (List (Str × Bool)) -> Option (List Bool)
 | []=>some []
 | a :: l=>(a.lookup N).bind fun b=>(tz N l).map fun bs=>b :: bs
theorem Gy {i:Nat} {N:Str}:∀ {l:List (List (Str × Bool))} {bs:List Bool},tz N l = some bs -> ∀ σ H (Q:List V -> Hp -> Prop) e C,σ[i]? = some (some (.ref e)) -> H e = some (sN C e) -> W.nsIn K mainGlobals N = some (some (.ref C)) -> Q (bs.map V.bl) H -> Af K i l σ H Q
 | [],bs,h,σ,H,Q,e,C,_,_,_,q=>by cases h;exact q
 | a :: l,bs,h,σ,H,Q,e,C,h1,h2,h3,q=>by
  obtain ⟨b,qa,h⟩:=bind_some h
  cases ql:tz N l with
  | none=>rw [ql] at h;cases h
  | some bs'=>
   rw [ql] at h
   cases h
   exact ⟨e,C,N,b,h1,h2,h3,qa,Gy ql σ H _ e C h1 h2 h3 q⟩
noncomputable def wl (K:W.Frag) (i:Nat):List (Nat × List (List (Str × Bool))) -> TS
 | []=>C0
 | [p]=>uZ (EC (Af K i p.2)) (jE p.1)
 | p :: l=>IR (uZ (EC (Af K i p.2)) (jE p.1)) (wl K i l)
noncomputable def ij (i:Nat) (N:Str):List (Nat × List (List (Str × Bool))) -> Env -> Option Env
 | [],ρ=>some ρ
 | p :: l,ρ=>if p.1 = i then none else (tz N p.2).bind fun bs=>if bs.length <= 1000 then ij i N l (ρ.set p.1 (.sh (.lst (bs.map .bl)))) else none
def SU (K:W.Frag) (i:Nat) (N:Str) (t:TS) (f:Env -> Option Env):Prop:=∀ A Λ ρ σ S H (D:Ends) e C ρ',RlA K A Λ ρ σ S H -> f ρ = some ρ' -> σ[i]? = some (some (.ref e)) -> H e = some (sN C e) -> W.nsIn K mainGlobals N = some (some (.ref C)) ->
 (∀ σ' S' H',RlA K A Λ ρ' σ' S' H' -> Same S S' -> σ'[i]? = some (some (.ref e)) -> H' e = some (sN C e) -> D.nx σ' H') -> t D σ H
theorem GT {i:Nat} {N:Str} (p:Nat × List (List (Str × Bool))):SU K i N (uZ (EC (Af K i p.2)) (jE p.1)) (ij i N [p]):=fun A Λ ρ σ S H D e C ρ' r hf h1 h2 h3 k=>by
 unfold ij at hf
 split at hf
 ·cases hf
 ·rename_i hij
  obtain ⟨bs,ql,hf⟩:=bind_some hf
  split at hf
  ·rename_i hl
   cases hf
   refine Gy ql σ H _ e C h1 h2 h3 ⟨by rw [List.length_map];exact Nat.le_trans hl (by rw [sizeLine_eq];decide),fun a ha=>?_⟩
   have z:Ext S H (d8 S a (.lst (bs.map V.bl))) (d8 H a (.lst (bs.map V.bl))):=Ext.new r.sub ha
   refine k _ (d8 S a (.lst (bs.map V.bl))) _ ((r.ext z).set p.1 (den_lst.mpr ⟨a,bs.map V.bl,rfl,.inl a7,Cb bs⟩)) z.sh ?_ ?_
   ·rw [List.getElem?_set_ne hij];exact h1
   ·rw [aS (aP h2 ha)];exact h2
  ·cases hf
theorem AS {i:Nat} {N:Str} {p:Nat × List (List (Str × Bool))} {l:List (Nat × List (List (Str × Bool)))} {ρ ρ':Env} (h:ij i N (p :: l) ρ = some ρ'):∃ ρ1,ij i N [p] ρ = some ρ1 /\ ij i N l ρ1 = some ρ':=by
 rw [ij] at h
 split at h
 ·cases h
 ·rename_i hij
  obtain ⟨bs,ql,h⟩:=bind_some h
  split at h
  ·rename_i hl
   refine ⟨ρ.set p.1 (.sh (.lst (bs.map .bl))),?_,h⟩
   rw [ij,if_neg hij,ql]
   show (if bs.length <= 1000 then _ else none) = _
   rw [if_pos hl]
   rfl
  ·cases h
theorem xS {i:Nat} {N:Str}:∀ l:List (Nat × List (List (Str × Bool))),SU K i N (wl K i l) (ij i N l)
 | []=>fun A Λ ρ σ S H D e C ρ' r hf h1 h2 h3 k=>by cases hf;exact k σ S H r (Same.refl _) h1 h2
 | [p]=>GT p
 | p :: q :: l=>fun A Λ ρ σ S H D e C ρ' r hf h1 h2 h3 k=>by
  obtain ⟨ρ1,f1,f2⟩:=AS hf
  refine GT p A Λ ρ σ S H _ e C ρ1 r f1 h1 h2 h3 fun σ' S' H' r' z a b=>?_
  exact xS (q :: l) A Λ ρ1 σ' S' H' D e C ρ' r' f2 a b h3 fun σ2 S2 H2 r2 z2 a2 b2=>k σ2 S2 H2 r2 (z.trans z2) a2 b2
theorem RlA.drop {A:Hp} {Λ:Nat -> Option Addr} {ρ:Env} {σ:St} (r:RlA K A Λ ρ σ S H) (i:Nat):RlA K A Λ (ρ.set i .un) (σ.set i none) S H:=by
 obtain ⟨Φ,f⟩:=r
 have ge:∀ (j:Nat) t,(ρ.set i .un)[j]? = some t -> t ≠ .un -> j ≠ i /\ ρ[j]? = some t:=fun j t h n=>by
  rcases cF h with ⟨_,e,_⟩ | ⟨hij,h⟩
  ·exact absurd e n
  ·exact ⟨Ne.symm hij,h⟩
 exact ⟨Φ,{
  len:=by rw [List.length_set,List.length_set];exact f.len
  sub:=f.sub
  sh:=fun j d h=>by
   obtain ⟨hj,h⟩:=ge j _ h (by intro z;cases z)
   rw [List.getElem?_set_ne (Ne.symm hj)]
   exact f.sh j d h
  ow:=fun j o h=>by
   obtain ⟨hj,h⟩:=ge j _ h (by intro z;cases z)
   rw [List.getElem?_set_ne (Ne.symm hj)]
   exact f.ow j o h
  dj:=fun j k o o' hjk h1 h2=>f.dj j k o o' hjk (ge j _ h1 (by intro z;cases z)).2 (ge k _ h2 (by intro z;cases z)).2
  lo:=fun j h=>by
   obtain ⟨hj,h⟩:=ge j _ h (by intro z;cases z)
   rw [List.getElem?_set_ne (Ne.symm hj)]
   exact f.lo j h
  asub:=f.asub
  adis:=f.adis }⟩
@[simp] noncomputable def K1 (L:List Str) (i:Nat) (m:XR) (l:List (Nat × List (List (Str × Bool)))):XS:=fun ρ=>if i < ρ.length then (m ρ).bind fun o=>match o with
 | .rz N=>if L.contains N then (ij i N l (ρ.map fun _=>.un)).map fun ρ'=>.nx (ρ'.set i .un) else none
 | .nx ρ'=>some (.nx ρ') else none
theorem Mb {L:List Str} {i:Nat} {tb:XK -> TS} {m:XR} {l:List (Nat × List (List (Str × Bool)))} (hb:∀ E,SX K E (tb E) m):SS K (Mq K L i tb (wl K i l)) (K1 L i m l):=fun A Λ ρ σ S H D o r q k=>by
 unfold K1 at q
 split at q <;> try (cases q;done)
 rename_i hi
 obtain ⟨om,qm,q⟩:=bind_some q
 have hlen:σ.length = ρ.length:=by obtain ⟨_,f⟩:=r;exact f.len
 refine hb _ A Λ ρ σ S H D om r qm ?_
 cases om with
 | nx ρ'=>cases q;exact k
 | rz N=>
  dsimp only at q
  split at q <;> try (cases q;done)
  rename_i hN
  cases qf:ij i N l (ρ.map fun _=>.un) with
  | none=>rw [qf] at q;cases q
  | some ρ'=>
   rw [qf] at q
   cases q
   intro C S1 H1 s1 s2 s3 s4 hC
   refine ⟨N,C,by simpa using hN,rfl,hC,fun e he=>?_⟩
   have r0:RlA K A Λ (ρ.map fun _=>Sl.un) ((List.replicate σ.length none).set i (some (.ref e))) S1 (d8 H1 e (sN C e)):=by
    have no:∀ (j:Nat) t,(ρ.map fun _=>Sl.un)[j]? = some t -> t = .un:=fun j t h=>by
     rw [List.getElem?_map] at h
     cases qj:ρ[j]? with
     | none=>rw [qj] at h;cases h
     | some _=>rw [qj] at h;cases h;rfl
    exact ⟨fun _=>[],{
     len:=by rw [List.length_set,List.length_replicate,List.length_map];exact hlen
     sub:=fun b o h=>by rw [aS (aP (s2 b o h) he)];exact s2 b o h
     sh:=fun j d h=>by cases no j _ h
     ow:=fun j d h=>by cases no j _ h
     dj:=fun j _ d _ _ h=>by cases no j _ h
     lo:=fun j h=>by cases no j _ h
     asub:=fun b o h=>by rw [aS (aP (s3 b o h) he)];exact s3 b o h
     adis:=s4 }⟩
   refine xS l A Λ _ _ S1 _ _ e C ρ' r0 qf (List.getElem?_set_self (by rw [List.length_replicate,hlen];exact hi)) a7 hC fun σ' S' H' r' z _ _=>?_
   exact k _ S' H' (r'.drop i) (s1.trans z)
end
end M
namespace L2
open PySem PySem.Spec PyProof.Rows
theorem EG {P:Program} {w:World} {K:W.Frag} {tg:Expr} (it:Addr) (lo:Int) (n:Nat):Turn P w K tg (JD lo n) [it] it (fun i h=>IsLongIter h it (lo + (i:Nat) * 1) ((n:Int) - (i:Nat)) 1) where
 mem:=by simp
 obj:=fun i h st b hb=>by
  obtain rfl:b = it:=by simpa using hb
  refine ⟨_,st,fun v z=>?_⟩
  have y:Data.fields _ = Data.cell v:=z
  cases y
 keep:=fun i h h' st k=>k it (by simp) _ st
 item:=by
  intro X hP hw hK hc i pins s σ H E I hf st hg
  subst hP hw hK
  have ⟨g0,g1,g2,g3,g4,g5⟩:=hf it (by simp)
  refine keep I.tk ((Walks.longrange (prog:=X.prog) (w:=X.w) (I.ok.hd hc) it lo 1 n).item i s _ _ hg st fun v h' tk hv st' kk hk=>?_)
  obtain ⟨t,rfl⟩:=hv
  have J:Inv X pins σ H { s with heap:=h',toks:=tk }:=I.turned (fun b o hb q=>kk b o (by simpa using hb) q) g0 g1 g3 g4 g5
  exact ⟨_,rfl,Ck (s:={ s with heap:=h',toks:=tk }) (n := "longrange_iterator") st' rfl rfl (by decide) ⟨.int (lo + i),H,J,⟨t,by rw [Int.mul_one]⟩,⟨rfl,rfl⟩,st',fun b hb=>(hf b hb).1⟩⟩
 done:=by
  intro X hP hw hK hc i pins s σ H E I hf st hg
  subst hP hw hK
  have ⟨g0,g1,g2,g3,g4,g5⟩:=hf it (by simp)
  exact wpAny_pyNext_long_end (I.ok.hd hc) st (by have:n <= i:=hg;lia) fun h' eb=>⟨rfl,I.turned (t':=s.toks) (fun b o hb q=>eb b o hb q) g0 g1 g3 g4 g5⟩
 self:=fun _ _ _ _ _ st h=>wpAny_pyIter_longiter st h
section
variable {X:Cx} {tg:Expr}
theorem Eh {pins:List (Addr × Obj)} {σ:St} {H:Hp} {s:Shared} {R:It -> Hp -> Prop} {E:Value -> Shared -> Prop} {lo hi:Int} {t u v:Tok} {tk:Nat} (I:Inv X pins σ H s) (q:R (JD lo (hi - lo).toNat) H) (htk:s.toks <= tk \/ NN <= tk:=by first | assumption | exact .inl (by lia) | exact .inl (by dsimp only;lia) | exact .inr (by assumption) | exact .inr (L2.Inv.tk (by assumption)) | exact .inr (Nat.le_succ_of_le (by assumption)) | exact .inr (by dsimp only at *;lia)) :
  wpAny (model X.prog X.w) X.A (pyIter (.ref s.heap.objs.size)) (ME X pins σ tg R) E { s with heap:=s.heap.push { cls:=.type "range",data:=.fields #[.int lo t,.int hi u,.int 1 v] },toks:=tk }:=by
 have J:Inv X pins σ H { s with heap:=s.heap.push { cls:=.type "range",data:=.fields #[.int lo t,.int hi u,.int 1 v] },toks:=tk }:=I.kept fun b o z=>Heap.get?_push_of_some _ z
 have hs:(((hi - lo).toNat:Nat):Int) - ((0:Nat):Int) = Builtin.Range.rangeSize lo hi 1:=by rw [rangeSize_one];split <;> lia
 have h0:lo + ((0:Nat):Int) * 1 = lo:=by simp
 cases hb:Builtin.Range.small lo hi 1 with
 | true=>
  refine wpAny_pyIter_range (IsRange.new ..) hb ?_
  refine ⟨_,[(s.heap.push { cls:=.type "range",data:=.fields #[.int lo t,.int hi u,.int 1 v] }).objs.size],_,_,H,rfl,J.kept (t':=tk) fun b o z=>Heap.get?_push_of_some _ z,um _ lo (hi - lo).toNat,?_,fun b hb=>?_,q⟩
  ·show IsRangeIter _ _ (lo + ((0:Nat):Int) * 1) ((((hi - lo).toNat:Nat):Int) - ((0:Nat):Int)) 1
   rw [h0,hs]
   exact Heap.get?_push_size _ rfl
  ·have z:b = (s.heap.push { cls:=.type "range",data:=.fields #[.int lo t,.int hi u,.int 1 v] }).objs.size:=by simpa using hb
   subst z
   exact J.fpOk (Nat.le_refl _) (J.hok.fresh (Nat.le_refl _))
 | false=>
  refine wpAny_pyIter_longrange (IsRange.new ..) hb ?_
  refine ⟨_,[(s.heap.push { cls:=.type "range",data:=.fields #[.int lo t,.int hi u,.int 1 v] }).objs.size],_,_,H,rfl,J.kept (t':=tk) fun b o z=>Heap.get?_push_of_some _ z,EG _ lo (hi - lo).toNat,?_,fun b hb=>?_,q⟩
  ·show IsLongIter _ _ (lo + ((0:Nat):Int) * 1) ((((hi - lo).toNat:Nat):Int) - ((0:Nat):Int)) 1
   rw [h0,hs]
   exact Heap.get?_push_size _ rfl
  ·have z:b = (s.heap.push { cls:=.type "range",data:=.fields #[.int lo t,.int hi u,.int 1 v] }).objs.size:=by simpa using hb
   subst z
   exact J.fpOk (Nat.le_refl _) (J.hok.fresh (Nat.le_refl _))
noncomputable def Jf (ta:TA):TI:=fun σ H R=>ta σ H fun vs H1=>∃ i j:Int,vs = [.int i,.int j] /\ R (JD i (j - i).toNat) H1
theorem pZ {a b:Expr} {ta:TA} {p pos:Pos} (hg:Gl X "range") (hm:X.mg "range" = none) (ha:PA X [a,b] ta) (hs:starEach [a,b] X.env = [(false,eval a X.env),(false,eval b X.env)]:=by rfl) (hs2:starEach [b] X.env = [(false,eval b X.env)]:=by rfl) :
  PI X tg (.Call (.Name "range" p) [a,b] [] pos) (Jf ta):=by
 intro pins s σ H R I h
 refine Call_ (pN I hg hm boot_range (PyProof.Rows.callWith_type1 (eE (ha pos pins s σ H _ I h) fun us s1 hpt9=>?_) (by rw [hs,hs2]) (by rw [hs2];rfl)))
 obtain ⟨vs,H1,I1,r1,q1⟩:=hpt9
 obtain ⟨i,j,rfl,q⟩:=q1
 obtain ⟨u1,u2,rfl,r,r'⟩:=Vals.two r1
 obtain ⟨t,rfl⟩:=r
 obtain ⟨t',rfl⟩:=r'
 exact call_range_2 (Eh I1 q)
end
end L2
namespace M
open PySem L2
section
variable {K:W.Frag} {S S' H H':Hp}
noncomputable def Il:List D -> Option (List D)
 | [.int i,.int j]=>some (bd i (j - i).toNat)
 | _=>none
@[simp] noncomputable def Da (a:XA):XA:=fun ρ=>(a ρ).bind Il
theorem AU {ta tb:TE} {a b:XE} (h:SPk K ta a) (hb:SPk K tb b):SI K (Jf (eN ta (eN tb kG))) (Da (ag a (ag b az))):=fun ρ σ S H R l r x k=>by
 obtain ⟨ds,q,x⟩:=bind_some x
 obtain ⟨d,e,qa,qb,rfl⟩:=iE q
 obtain ⟨d2,e2,qa2,qb2,rfl⟩:=iE qb
 cases qb2
 cases d <;> try (cases x;done)
 cases d2 <;> try (cases x;done)
 cases x
 refine h ρ σ S H _ _ r qa fun v S1 H1 z1 d1=>hb ρ σ S1 H1 _ _ (r.ext z1) qa2 fun w S2 H2 z2 d2=>?_
 exact ⟨_,_,by rw [d1.int,d2.int],k _ S2 H2 (z1.trans z2) (wv _ _)⟩
end
end M
namespace L2
open PySem PySem.Spec PyProof.Rows
section
variable {X:Cx} {tg:Expr}
noncomputable def L4:V -> Option Int -> Option Int -> Hp -> VK -> Prop:=fun x lo hi H Q=>∃ y,x = .str y /\ y.length <= sizeLine /\ Q (.str (Txt.slice y lo hi)) H
theorem Bz:Oa X L4:=by
 intro pins s σ H x v vl vu lo hi sl Q I rx hs pl pu h
 obtain ⟨y,rfl,hz,q⟩:=h
 obtain ⟨t,rfl⟩:=rx
 have fin:∀ t' k,NN <= k -> EP X pins σ Q (.str (Txt.slice y lo hi) t') { s with toks:=k }:=fun t' k hk=>⟨.str _,H,I.tok k,⟨t',rfl⟩,q⟩
 refine ⟨"str",_,F.slot_str_getitem.lookup,typeIs_str _ _ _,keep I.tk ?_⟩
 cases pl <;> cases pu
 ·exact wpAny_getItem_str_slice (l:=none) (u:=none) (st:=none) hs rfl (post_val_or_str ⟨Nat.le_trans (Txt.slice_le y _ _) hz,fin⟩)
 ·exact wpAny_getItem_str_slice (l:=none) (u:=some (_,_)) (st:=none) hs rfl (post_val_or_str ⟨Nat.le_trans (Txt.slice_le y _ _) hz,fin⟩)
 ·exact wpAny_getItem_str_slice (l:=some (_,_)) (u:=none) (st:=none) hs rfl (post_val_or_str ⟨Nat.le_trans (Txt.slice_le y _ _) hz,fin⟩)
 ·exact wpAny_getItem_str_slice (l:=some (_,_)) (u:=some (_,_)) (st:=none) hs rfl (post_val_or_str ⟨Nat.le_trans (Txt.slice_le y _ _) hz,fin⟩)
theorem zP (z:Array Nat) (h:z.size = 1):∀ (n:Nat) (a:Array Nat),((List.replicate n z).foldl (· ++ ·) a).size = a.size + n
 | 0,_=>rfl
 | n + 1,a=>by
  rw [List.replicate_succ,List.foldl_cons,zP z h n,Array.size_append,h]
  lia
noncomputable def LV:R2:=fun x y H Q=>∃ i j,x = .str i /\ y = .str j /\ Q (.bl (!(Builtin.Str.occurrences j i 0 j.length 1).isEmpty)) H
theorem FY:OpR X (compareOp .In) LV:=Eb
noncomputable def Jm:R2:=fun x y H Q=>∃ z i,x = .str z /\ y = .int i /\ z.length = 1 /\ 1 < i /\ i <= 1000 /\ Q (.str ⟨(List.replicate i.toNat z.cps).foldl (· ++ ·) #[]⟩) H
theorem H9:OpR X (binaryOp .Mult) Jm:=by
 intro pins s σ H x y v u Q I rx ry h
 obtain ⟨z,i,rfl,rfl,hz,h1,h2,q⟩:=h
 obtain ⟨t,rfl⟩:=rx
 obtain ⟨t',rfl⟩:=ry
 have n1:¬ i < 1:=by lia
 have n2:¬ (i == 1 || z.length == 0) = true:=by
  rw [hz]
  simp
  lia
 refine P.mul_str ?_ (fun _ _=>?_) (fun _ _=>?_) ?_
 ·have a:¬ i < -(2 ^ 63:Int):=by lia
  have b:¬ i ≥ 2 ^ 63:=by lia
  rw [decide_eq_false a,decide_eq_false b];rfl
 ·rw [hz]
  have:(1:Int) <= (2 ^ 63 - 1) / i:=by
   rw [Int.le_ediv_iff_mul_le (by lia)]
   lia
  show ¬ ((1:Nat):Int) > _
  lia
 ·rw [hz]
  unfold Builtin.Str.tooLong
  have:=sizeLine_eq
  simp
  lia
 ·rw [if_neg n1,if_neg n2]
  refine ⟨?_,.str _,H,I.tok _,⟨_,rfl⟩,q⟩
  have:=sizeLine_eq
  have:=zP z.cps hz i.toNat #[]
  show ((List.replicate i.toNat z.cps).foldl (· ++ ·) #[]).size <= sizeLine
  rw [this,sizeLine_eq]
  simp
  lia
end
end L2
namespace M
open PySem L2
section
variable {K:W.Frag} {S S' H H':Hp}
noncomputable def KE (x:Str):List D:=x.cps.toList.map fun c=>D.str ⟨#[c]⟩
noncomputable def Po:D -> Option (List D)
 | .str x=>some (KE x)
 | _=>none
@[simp] noncomputable def Pz (e:XE):XA:=fun ρ=>(e ρ).bind Po
noncomputable def Hs (d:D) (lo hi:Option Int):Option D:=match d with
 | .str x=>if x.length <= cG then some (.str (Txt.slice x lo hi)) else none
 | _=>none
@[simp] noncomputable def G9 (a:XE) (lo hi:XO):XE:=fun ρ=>(a ρ).bind fun d=>(lo ρ).bind fun l=>(hi ρ).bind fun h=>Hs d l h
theorem GB {te:TE} {tl th:TO} {a:XE} {lo hi:XO} (ha:SPk K te a) (hl:SO K tl lo) (hh:SO K th hi):SE K (Ov L4 te tl th) (G9 a lo hi):=fun ρ σ S H Q g r x k=>by
 unfold G9 at x
 cases q:a ρ with
 | none=>rw [q] at x;cases x
 | some d=>
  rw [q] at x
  dsimp only [Option.bind] at x
  cases ql:lo ρ with
  | none=>rw [ql] at x;cases x
  | some l=>
   rw [ql] at x
   dsimp only at x
   cases qh:hi ρ with
   | none=>rw [qh] at x;cases x
   | some h=>
    rw [qh] at x
    dsimp only at x
    refine ha ρ σ S H _ d r q fun v S1 H1 z1 d1=>?_
    have r1:=r.ext z1
    refine hl ρ σ S1 H1 _ l r1 ql fun S2 H2 z2=>?_
    have r2:=r1.ext z2
    refine hh ρ σ S2 H2 _ h r2 qh fun S3 H3 z3=>?_
    cases d <;> try (cases x;done)
    rename_i y
    have x:(if y.length <= cG then some (D.str (Txt.slice y l h)) else none) = some g:=x
    split at x
    ·rename_i hy
     cases x
     exact ⟨y,d1.str,nG hy,k _ S3 H3 (z1.trans (z2.trans z3)) (den_str.mpr rfl)⟩
    ·cases x
noncomputable def MO:D -> D -> Option D
 | .str y,.str z=>some (.bl (decide (z.length <= y.length) && Builtin.Str.subAt y z 0))
 | _,_=>none
noncomputable def Oh:List D -> Option D
 | [.int i]=>if i.natAbs.log2 < 1920 then some (.str (toString i)) else none
 | _=>none
noncomputable def Ca:D -> D -> Option D
 | .str z,.int i=>if z.length = 1 /\ 1 < i /\ i <= 1000 then some (.str ⟨(List.replicate i.toNat z.cps).foldl (· ++ ·) #[]⟩) else none
 | _,_=>none
theorem Ks:uv K Jm Ca:=fun S H x y d e z Q s dx dy q k=>by
 unfold Ca at q
 split at q
 ·rename_i u i
  split at q
  ·rename_i c
   cases q
   exact ⟨u,i,dx.str,dy.int,c.1,c.2.1,c.2.2,k _ S H (Ext.refl s) (den_str.mpr rfl)⟩
  ·cases q
 ·cases q
noncomputable def AH:D -> D -> Option D
 | .str i,.str j=>some (.bl (!(Builtin.Str.occurrences j i 0 j.length 1).isEmpty))
 | _,_=>none
theorem Jq:uv K LV AH:=fun S H x y d e z Q s dx dy q k=>by
 unfold AH at q
 split at q
 ·cases q
  exact ⟨_,_,dx.str,dy.str,k _ S H (Ext.refl s) (den_bl.mpr rfl)⟩
 ·cases q
end
end M
namespace L2
open PySem
end L2
namespace L2
open PySem PySem.Spec PyProof.Rows
section
variable {X:Cx}
noncomputable def Jk (K:W.Frag):V -> List V -> Hp -> VK -> Prop:=fun x vs H Q=>∃ sep p,∃ ys:List Str,x = .str sep /\ vs = [.ref p] /\ SqL K H p (ys.map V.str) /\ (ys.map (·.length)).sum + ys.length * sep.length <= 16777216 /\ Q (.str (Txt.join sep ys)) H
theorem CT:∀ {ys:List Str} {us:List Value},Vals (ys.map V.str) us -> StrsAre us ys
 | [],us,h=>by cases h;exact .nil
 | y :: ys,us,h=>by
  cases h with
  | cons a r=>
   obtain ⟨t,rfl⟩:=a
   exact .cons _ _ (CT r)
theorem HR:Lf X "str.join" (Jk X.K):=by
 intro pins s σ H x vs v us Q I rx rv h
 obtain ⟨sep,p,ys,rfl,rfl,hS,hz,q⟩:=h
 obtain ⟨t,rfl⟩:=rx
 obtain ⟨u,rfl,ru⟩:=rv.one
 cases ru
 obtain ⟨its,rl,pl,_⟩:=I.list hS
 exact keep I.tk (join_list (items:=its.toArray) pl.isList (by simpa using CT rl) hz fun t' k hk=>⟨.str _,H,I.tok k,⟨t',rfl⟩,q⟩)
noncomputable def rSplit:V -> List V -> Hp -> VK -> Prop:=fun x vs H Q=>∃ y z,x = .str y /\ vs = [.str z] /\ z.length ≠ 0 /\ y.length + 2 <= sizeLine /\ ∀ l,H l = none -> Q (.ref l) (d8 H l (.lst ((Txt.split y z).map V.str)))
theorem wq:∀ (ys:List Str) (n:Nat),Vals (ys.map V.str) (strsFrom n ys)
 | [],_=>.nil
 | _ :: ys,n=>.cons ⟨_,rfl⟩ (wq ys (n + 1))
theorem FS:Lf X "str.split" rSplit:=by
 intro pins s σ H x vs v us Q I rx rv h
 obtain ⟨y,z,rfl,rfl,hz,hy,q⟩:=h
 obtain ⟨t,rfl⟩:=rx
 obtain ⟨u,rfl,ru⟩:=rv.one
 obtain ⟨t',rfl⟩:=ru
 have hz':(z.length == 0) = false:=by simpa using hz
 refine keep I.tk ?_
 have fin:∀ (ys:List Str) (its:List Value) (tk:Nat),Txt.split y z = ys -> Vals (ys.map V.str) its -> ys.length <= sizeLine -> NN <= tk -> EP X pins σ Q (.ref s.heap.objs.size) { s with heap:=s.heap.push { cls:=.type "list",data:=.seq its.toArray },toks:=tk }:=fun ys its tk e r hl hk=>by
  subst e
  refine ⟨.ref s.heap.objs.size,_,I.laid (o:=.lst ((Txt.split y z).map V.str)) (fun b ob q=>Heap.get?_push_of_some _ q) (Nat.le_refl _) ?_,rfl,q _ (I.hok.fresh (Nat.le_refl _))⟩
  exact ⟨by rw [List.length_map];exact hl,its,0,r,Heap.get?_push_size _ rfl⟩
 cases h1:(decide (y.length < z.length) || decide (Builtin.Str.strKind y < Builtin.Str.strKind z)) with
 | true=>
  refine call_meets F.slot_str_split (typeIs_str _ _ _) F.entry_str_split (F.args_str_split_2 _ _) (meets_str_split_cannot_occur y z t t' h1) ?_
  exact fin [y] [.str y t] s.toks (by unfold Txt.split;simp [h1]) (.cons ⟨t,rfl⟩ .nil) (by show 1 <= sizeLine;decide)
 | false=>
  cases hf:(Builtin.Str.occurrences y z 0 y.length (y.length + 1)).isEmpty with
  | true=>
   refine call_meets F.slot_str_split (typeIs_str _ _ _) F.entry_str_split (F.args_str_split_2 _ _) (meets_str_split_not_found y z t t' h1 hz' hf) ?_
   exact fin [y] [.str y t] s.toks (by unfold Txt.split;simp [h1,hf]) (.cons ⟨t,rfl⟩ .nil) (by show 1 <= sizeLine;decide)
  | false=>
   have hl:(Builtin.Str.partsBetween y (Builtin.Str.occurrences y z 0 y.length (y.length + 1)) z.length).length <= sizeLine:=by
    rw [length_partsBetween]
    have:=StrLaws.occ_length_le_len y z 0 y.length (y.length + 1)
    lia
   refine call_meets F.slot_str_split (typeIs_str _ _ _) F.entry_str_split (F.args_str_split_2 _ _) (meets_str_split_sep y z t t' h1 hz' hf (Nat.le_trans (Nat.le_add_right _ _) hy) hl) ?_
   exact fin _ _ _ (by unfold Txt.split;simp [h1,hf]) (wq _ _) hl
inductive PJ (X:Cx):List Expr -> List TE -> Prop
 | nil:PJ X [] []
 | cons {e:Expr} {t:TE} {es:List Expr} {ts:List TE}:PE X e t -> PJ X es ts -> PJ X (e :: es) (t :: ts)
end
end L2
namespace M
open PySem L2
section
variable {K:W.Frag} {S S' H H':Hp}
noncomputable def kF:List D -> Option (List Str)
 | []=>some []
 | .str x :: l=>(kF l).map fun r=>x :: r
 | _ :: _=>none
theorem wf:∀ {l:List D} {ys:List Str},kF l = some ys -> l = ys.map D.str
 | [],ys,h=>by cases h;rfl
 | d :: l,ys,h=>by
  cases d <;> try (cases h;done)
  rename_i x
  have h:(kF l).map (fun r=>x :: r) = some ys:=h
  cases q:kF l with
  | none=>rw [q] at h;cases h
  | some r=>rw [q] at h;cases h;rw [wf q];rfl
theorem vz:∀ {ys:List Str} {xs:List V},Dens K S (ys.map D.str) xs -> xs = ys.map V.str
 | [],xs,h=>h
 | b :: bs,xs,h=>by
  obtain ⟨y,ys,rfl,a,r⟩:=h
  rw [den_str.mp a,vz r];rfl
theorem wg:∀ ys:List Str,Dens K S (ys.map D.str) (ys.map V.str)
 | []=>.nil
 | _ :: ys=>.cons (den_str.mpr rfl) (wg ys)
noncomputable def Fe:D -> D -> Option D
 | .str sep,.lst l=>(kF l).bind fun ys=>if (ys.map (·.length)).sum + ys.length * sep.length <= cG then some (.str (Txt.join sep ys)) else none
 | _,_=>none
theorem Js {T:String} {r:V -> List V -> Hp -> VK -> Prop} {f:D -> D -> Option D} {ta tb:TE} {a b:XE} (ht:∀ {d e:D} {g:D},f d e = some g -> ∃ x,d = .str x) (hT:T = "str")
  (hr:∀ S H y e g (Q:VK) v,Same S H -> DenP K S H e v -> f (.str y) e = some g -> (∀ v S' H',Ext S H S' H' -> Den K S' g v -> Q v H') -> r (.str y) [v] H Q)
  (ha:SPk K ta a) (hb:SPk K tb b):SE K (IL K T r ta (eN tb kG)) (aF f a b):=fun ρ σ S H Q g rl x k=>by
 obtain ⟨da,qa,x⟩:=bind_some x
 obtain ⟨db,qb,x⟩:=bind_some x
 have x:f da db = some g:=x
 obtain ⟨y,rfl⟩:=ht x
 refine ha ρ σ S H _ _ rl qa fun v S1 H1 z1 d1=>?_
 rw [d1.str]
 refine ⟨hT,?_⟩
 refine hb ρ σ S1 H1 _ _ (rl.ext z1) qb fun v S2 H2 z2 d2=>?_
 exact hr S2 H2 y db g Q v z2.sub d2 x fun v S3 H3 z3 d3=>k v S3 H3 (z1.trans (z2.trans z3)) d3
theorem Ky {ta tb:TE} {a b:XE} (ha:SPk K ta a) (hb:SPk K tb b):SE K (IL K "str" (Jk K) ta (eN tb kG)) (aF Fe a b):=Js (fun {d e g} h=>by
  cases d <;> first | (cases h;done) | exact ⟨_,rfl⟩) rfl (fun S H y e g Q v s d x k=>by
  cases e <;> try (cases x;done)
  rename_i l
  have x:((kF l).bind fun ys=>if (ys.map (·.length)).sum + ys.length * y.length <= cG then some (D.str (Txt.join y ys)) else none) = some g:=x
  obtain ⟨ys,q,x⟩:=bind_some x
  split at x
  ·rename_i hl
   cases x
   obtain ⟨p,xs,rfl,h1,h2⟩:=d.lst s
   have e:=wf q
   subst e
   have e:=vz h2
   subst e
   have:=eU
   exact ⟨y,p,ys,rfl,rfl,.inl h1,by rw [eU] at hl;lia,k _ S H (Ext.refl s) (den_str.mpr rfl)⟩
  ·cases x) ha hb
noncomputable def Oi:D -> D -> Option D
 | .str y,.str z=>if z.length ≠ 0 /\ y.length <= cG then some (.tup [.str (Txt.partition y z).1,.str (Txt.partition y z).2.1,.str (Txt.partition y z).2.2]) else none
 | _,_=>none
noncomputable def wR:D -> D -> Option D
 | .str y,.str z=>if z.length ≠ 0 /\ y.length + 2 <= cG then some (.lst ((Txt.split y z).map D.str)) else none
 | _,_=>none
theorem Iv {ta tb:TE} {a b:XE} (ha:SPk K ta a) (hb:SPk K tb b):SE K (IL K "str" rSplit ta (eN tb kG)) (aF wR a b):=Js (fun {d e g} h=>by
  cases d <;> first | (cases h;done) | exact ⟨_,rfl⟩) rfl (fun S H y e g Q v s d x k=>by
  cases e <;> try (cases x;done)
  rename_i z
  have x:(if z.length ≠ 0 /\ y.length + 2 <= cG then some (D.lst ((Txt.split y z).map D.str)) else none) = some g:=x
  split at x
  ·rename_i c
   cases x
   rw [d.str]
   refine ⟨y,z,rfl,rfl,c.1,nG c.2,fun l hl=>?_⟩
   have z4:=Ext.new (o:=.lst ((Txt.split y z).map V.str)) s hl
   exact k _ _ _ z4 (den_lst.mpr ⟨l,_,rfl,.inl a7,wg _⟩)
  ·cases x) ha hb
noncomputable def Pb:D -> Option D
 | .int i=>if i.natAbs.log2 < 1920 then some (.str (toString i)) else none
 | .str y=>if y.length <= cG then some (.str y) else none
 | _=>none
@[simp] noncomputable def PK (e:XE):XE:=fun ρ=>(e ρ).bind Pb
inductive SJ (K:W.Frag):List TE -> List XE -> Prop
 | nil:SJ K [] []
 | cons {t:TE} {a:XE} {ts:List TE} {as:List XE}:SPk K t a -> SJ K ts as -> SJ K (t :: ts) (a :: as)
end
end M
namespace L2
open PySem PySem.Spec PyProof.Rows
section
variable {M:Model} {A:Around} {Ex:Value -> Shared -> Prop} {s:Shared}
end
section
variable {P:Program} {w:World} {K:W.Frag} {mg:Str -> Option Value} {base:Heap} {N:List Str} {qual:Str} {scope:Scope} {f:Addr} {cdv:Value} {A:Around} {outer:List Env} {s:Shared} {H:Hp} {E:XK}
end
section
variable {X:Cx} {pins:List (Addr × Obj)} {σ:St} {H:Hp} {s:Shared} {XN N:List Str} {sc scope:Scope} {js:List (Option Nat)}
variable {tg iter elt:Expr} {ifs:List Expr} {pos:Pos} {wi:TI} {g:TG} {tt:JI} {te:TE} {E:XK}
end
noncomputable def Mn (t u:TS):TS:=fun D σ H=>t D σ H \/ u D σ H
section
variable {X:Cx}
theorem LN {st:Stmt} {t u:TS} (h:PS X st t) (k:PS X st u):PS X st (Mn t u):=fun pins s σ H D I q=>q.elim (h pins s σ H D I) (k pins s σ H D I)
end
end L2
namespace M
open PySem L2
section
variable {K:W.Frag} {S S' H H':Hp} {E:XK}
@[simp] noncomputable def EN (m:XS):XR:=fun ρ=>match m ρ with | some (.nx ρ')=>some (.nx ρ') | _=>none
theorem CW {t:TS} {m:XS} (h:SS K t m):SX K E t (EN m):=fun A Λ ρ σ S H D o r x k=>by
 unfold EN at x
 split at x <;> cases x
 rename_i q
 exact h A Λ ρ σ S H D _ r q k
@[simp] noncomputable def K2 (n:Env -> Option Str) (m:XS):XR:=fun ρ=>match n ρ with | some N=>some (.rz N) | none=>(match m ρ with | some (.nx ρ')=>some (.nx ρ') | _=>none)
theorem Mi {t u:TS} {n:Env -> Option Str} {m:XS} (ht:SX K E t (Mz n)) (hu:SS K u m):SX K E (Mn t u) (K2 n m):=fun A Λ ρ σ S H D o r x k=>by
 unfold K2 at x
 cases q:n ρ with
 | some N=>
  rw [q] at x
  cases x
  exact .inl (ht A Λ ρ σ S H D _ r (by unfold Mz;rw [q];rfl) k)
 | none=>
  rw [q] at x
  exact .inr (CW (E:=E) hu A Λ ρ σ S H D o r x k)
@[simp] noncomputable def NY (m:Env -> Option Str):Env -> Option Str:=m
@[simp] noncomputable def NZ (e:XE) (m:Env -> Option Str):Env -> Option Str:=fun ρ=>(e ρ).bind fun _=>m ρ
@[simp] noncomputable def PH (n:Env -> Option Str) (e:XE) (m:Env -> Option Str):Env -> Option Str:=fun ρ=>match n ρ with | some N=>some N | none=>(e ρ).bind fun _=>m ρ
@[simp] noncomputable def Hb (i:Nat) (m:Env -> Option Str):Env -> Option Str:=fun ρ=>match ρ[i]? with | some (.ow (.lst _))=>m ρ | _=>none
theorem IK {t:TE} {i:Nat} {r:V -> List V -> Hp -> VK -> Prop} {tr:TA} {m:Env -> Option Str} (h:MI K E t m):MI K E (IL K "list" r (ul i) (eN t tr)) (Hb i m):=fun A Λ ρ σ S H Q N rl x k=>by
 unfold Hb at x
 split at x <;> try (cases x;done)
 rename_i l q
 obtain ⟨Φ,f⟩:=rl
 obtain ⟨v,ev,ow,_⟩:=f.ow i _ q
 obtain ⟨a,xs,g,rfl,_,hx,_⟩:=own_lst.mp ow
 exact ⟨.ref a,ev,.inl ⟨rfl,xs,SqL.of hx⟩,h A Λ ρ σ S H _ N ⟨Φ,f⟩ x k⟩
noncomputable def Fb (g:XG) (c:XT) (e:XE) (n:Env -> Option Str) (ρ0:Env):List D -> Option Str
 | []=>none
 | d :: l=>(g d ρ0).bind fun ρ1=>(c ρ1).bind fun b=>if b = true then (match n ρ1 with | some N=>some N | none=>(e ρ1).bind fun _=>Fb g c e n ρ0 l) else Fb g c e n ρ0 l
@[simp] noncomputable def N0 (js:List (Option Nat)) (w:XA) (g:XG) (c:XT) (e:XE) (n:Env -> Option Str):Env -> Option Str:=fun ρ=>(w ρ).bind fun l=>if l.length <= cG then Fb g c e n (xc js ρ) l else none
noncomputable def tD (g:XG) (m:XR):List D -> Env -> Option RO
 | [],ρ=>some (.nx ρ)
 | d :: l,ρ=>(g d ρ).bind fun ρ1=>(m ρ1).bind fun o=>match o with | .nx ρ2=>tD g m l ρ2 | .rz N=>some (.rz N)
@[simp] noncomputable def Hc (e:XA) (g:XG) (m:XR):XR:=fun ρ=>(e ρ).bind fun l=>tD g m l ρ
end
end M
namespace L2
open PySem
end L2
namespace L2
open PySem PySem.Spec PyProof.Rows M
section
variable {X:Cx}
end
end L2
namespace M
open PySem L2
section
variable {K:W.Frag}
end
end M
namespace L2
open PySem PySem.Spec PyProof.Rows
section
variable {X:Cx} {tg:Expr}
end
end L2
namespace M
open PySem L2
section
variable {K:W.Frag} {S H:Hp}
noncomputable def KJ (a c:Int) (n:Nat):List D:=(List.range n).map fun i:Nat=>D.int (a + (i:Int) * c)
noncomputable def L7:List D -> Option (List D)
 | [.int a,.int j,.int c]=>vI (c ≠ 0 /\ (-1000000 < c /\ c < 1000000) /\ Builtin.Range.small a j c = true) (some (KJ a c (Builtin.Range.rangeSize a j c).toNat)) none
 | _=>none
@[simp] noncomputable def O6 (a:XA):XA:=fun ρ=>(a ρ).bind L7
end
end M
namespace L2
open PySem PySem.Spec PyProof.Rows
section
variable {X:Cx}
end
end L2
namespace M
open PySem L2
section
variable {K:W.Frag}
noncomputable def LG:D -> Option (List D)
 | .int j=>vI (0 <= j /\ j < 1000000) (some ((List.range j.toNat).map fun i:Nat=>D.int (i:Int))) none
 | _=>none
@[simp] noncomputable def NU (a:XE):XA:=fun ρ=>(a ρ).bind LG
end
end M
namespace L2
open PySem PySem.Spec PyProof.Rows
theorem wN:bootBuiltins "enumerate" = some (.type "enumerate"):=by decide +kernel
section
variable {X:Cx} {pins:List (Addr × Obj)} {σ:List (Option V)} {H H':Hp} {s:Shared} {h':Heap}
theorem Inv.turned2 {t':Nat} {it jt:Addr} (I:Inv X pins σ H s) (k:∀ b o,b ≠ it -> b ≠ jt -> s.heap.get? b = some o -> h'.get? b = some o) (hn:H it = none) (hL:it ≠ X.env.locals)
  (h1:it ∈ X.ex \/ X.s₀.heap.objs.size <= it) (h2:∀ x c,X.env.cells.lookup x = some c -> c ≠ it) (h3:∀ p ∈ X.pn ++ pins,p.1 ≠ it)
  (jn:H jt = none) (jL:jt ≠ X.env.locals)
  (j1:jt ∈ X.ex \/ X.s₀.heap.objs.size <= jt) (j2:∀ x c,X.env.cells.lookup x = some c -> c ≠ jt) (j3:∀ p ∈ X.pn ++ pins,p.1 ≠ jt) (ht:s.toks <= t' \/ NN <= t':=by first | assumption | exact .inl (by lia) | exact .inl (by dsimp only;lia) | exact .inr (by assumption) | exact .inr (L2.Inv.tk (by assumption)) | exact .inr (Nat.le_succ_of_le (by assumption)) | exact .inr (by dsimp only at *;lia)):Inv X pins σ H { s with heap:=h',toks:=t' }:=by
 have nit:∀ b u,H b = some u -> b ≠ it:=fun b u e z=>by rw [z,hn] at e;cases e
 have njt:∀ b u,H b = some u -> b ≠ jt:=fun b u e z=>by rw [z,jn] at e;cases e
 refine I.step (g':=s.gens) (d':=s.drawn) (ch:=[it,jt]) (fun b hb=>?_) (fun b o _ _ hc e _=>k b o (fun z=>hc (by simp [z])) (fun z=>hc (by simp [z])) e) (fun b o _ _ hc e _=>⟨o.slots,k b o (fun z=>hc (by simp [z])) (fun z=>hc (by simp [z])) e⟩) (fun _ _ _ _ n=>n)
  (fun b o hc e=>⟨o,k b o (fun z=>hc (by simp [z])) (fun z=>hc (by simp [z])) e⟩) (fun _ _ e=>e) (fun _ _ _ e=>e) (fun b ps e=>⟨#[],by rw [e];simp⟩) (fun m hm=>?_) (fun b u e=>?_) I.bare
 ·rcases List.mem_cons.mp hb with e | hb
  ·subst e
   exact ⟨h1,hL,h2,h3⟩
  ·have e:b = jt:=by simpa using hb
   subst e
   exact ⟨j1,jL,j2,j3⟩
 ·obtain ⟨o,es,ep,ho,r⟩:=hm
  exact ⟨o,es,ep,k _ o (Ne.symm hL) (Ne.symm jL) ho,r⟩
 ·refine (I.hok b u e).stay (fun c v hc q=>k c v ?_ ?_ q) (fun _ q=>q) fun _ _ q=>q
  ·rcases hc with z | z
   ·rw [z];exact nit b u e
   ·exact nit c _ z
  ·rcases hc with z | z
   ·rw [z];exact njt b u e
   ·exact njt c _ z
end
noncomputable def N1 (K:W.Frag) (a:Addr) (xs:List V):It:=
 ⟨fun i H=>SqL K H a xs /\ ∃ x,xs[i]? = some x,fun i H v H'=>∃ p x,v = .ref p /\ H p = none /\ xs[i]? = some x /\ H' = d8 H p (.tup [.int (i:Nat),x]),fun i H=>SqL K H a xs /\ xs.length = i⟩
noncomputable def Oj (K:W.Frag) (ta:TA):TI:=fun σ H R=>ta σ H fun vs H1=>∃ a xs,vs = [.ref a] /\ SqL K H1 a xs /\ R (N1 K a xs) H1
section
variable {X:Cx}
theorem EE {P:Program} {w:World} {K:W.Frag} {elts:List Expr} {x1:Nat} {pos:Pos} (a e it:Addr) (hne:e ≠ it) (xs:List V) :
  Turn P w K (.Tuple elts x1 pos) (N1 K a xs) [e,it] e (fun i h=>(∃ old,IsEnum h e it (i:Nat) old) /\ h.IsListIter it a i) where
 mem:=by simp
 obj:=fun i h st b hb=>by
  obtain ⟨⟨old,he⟩,o,eo,c,d⟩:=st
  rcases List.mem_cons.mp hb with z | hb
  ·subst z
   exact ⟨_,he,fun v z=>by cases z⟩
  ·have z:b = it:=by simpa using hb
   subst z
   exact ⟨o,eo,fun v z=>by rw [d] at z;cases z⟩
 keep:=fun i h h' st k=>⟨let ⟨old,he⟩:=st.1;⟨old,k e (by simp) _ he⟩,st.2.at fun o x=>k it (by simp) o x⟩
 item:=by
  intro X hP hw hK hc i pins s σ H E I hf st hg
  subst hP hw hK
  obtain ⟨hq,x,hx⟩:=hg
  obtain ⟨⟨old,he⟩,hit⟩:=st
  obtain ⟨its,rv,p,hz⟩:=I.list hq
  obtain ⟨u,hu,ru⟩:=rv.get hx
  obtain ⟨f0,f1,f2,f3,f4,f5⟩:=hf e (by simp)
  obtain ⟨g0,g1,g2,g3,g4,g5⟩:=hf it (by simp)
  have el:e < s.heap.objs.size:=Heap.lt_size he
  have il:it < s.heap.objs.size:=by obtain ⟨_,q,_⟩:=hit;exact Heap.lt_size q
  refine wpAny_pyNext_enum_item he hit p.isList (x:=u) (by simpa using hu) hne fun h1 ho hit1 hT hsz hk=>⟨_,rfl,?_⟩
  refine wpAny_letOwnedTupleGo_enum (s:={ s with heap:=h1,toks:=s.toks + 1 }) ho fun h2 he2 hs2=>?_
  replace hs2:Heap.SameBut e h1 h2:=hs2
  have I1:Inv X pins σ (d8 H s.heap.objs.size (.tup [.int (i:Nat),x])) { s with heap:=s.heap.push { cls:=.type "tuple",data:=.seq #[.int i s.toks,u] },toks:=s.toks + 1 }:=by
   refine I.laid (fun b o q=>Heap.get?_push_of_some _ q) (Nat.le_refl _) ⟨?_,[.int i s.toks,u],.cons ⟨_,rfl⟩ (.cons ru .nil),_,Heap.get?_push_size _ rfl,rfl,_,rfl⟩
   rw [sizeLine_eq,List.length_cons,List.length_cons,List.length_nil]
   decide
  have e1:(d8 H s.heap.objs.size (.tup [.int (i:Nat),x])) e = none:=by rw [aS (Nat.ne_of_lt el)];exact f0
  have e2:(d8 H s.heap.objs.size (.tup [.int (i:Nat),x])) it = none:=by rw [aS (Nat.ne_of_lt il)];exact g0
  have I2:Inv X pins σ (d8 H s.heap.objs.size (.tup [.int (i:Nat),x])) { s with heap:=h2,toks:=s.toks + 1 }:=by
   refine Inv.turned2 (s:={ s with heap:=s.heap.push { cls:=.type "tuple",data:=.seq #[.int i s.toks,u] },toks:=s.toks + 1 }) (it:=e) (jt:=it) I1 (fun b o n1 n2 q=>?_) e1 f1 f3 f4 f5 e2 g1 g3 g4 g5
   rw [hs2.2 b n1]
   rcases Heap.get?_push_cases q with ⟨rfl,rfl⟩ | q
   ·exact hT
   ·exact hk b o n1 n2 q
  refine ⟨.ref s.heap.objs.size,_,I2,rfl,⟨_,x,rfl,I.hok.fresh (Nat.le_refl _),hx,rfl⟩,⟨⟨u,?_⟩,?_⟩,fun b hb=>?_⟩
  ·have:((i + 1:Nat):Int) = (i:Int) + 1:=by push_cast;rfl
   rw [this]
   exact he2
  ·exact hit1.at fun o y=>(hs2.2 it hne.symm).trans y
  ·rcases List.mem_cons.mp hb with z | hb
   ·rw [z];exact e1
   ·rw [List.mem_singleton.mp hb];exact e2
 done:=by
  intro X hP hw hK hc i pins s σ H E I hf st hg
  subst hP hw hK
  obtain ⟨hq,hx⟩:=hg
  obtain ⟨⟨old,he⟩,hit⟩:=st
  obtain ⟨its,rv,p,hz⟩:=I.list hq
  obtain ⟨g0,g1,g2,g3,g4,g5⟩:=hf it (by simp)
  have hl:=rv.length
  exact wpAny_pyNext_enum_end (I.ok.hd hc) he hit p.isList (by simp;lia) fun h' eb=>⟨rfl,I.turned (t':=s.toks) (fun b o hb e=>eb b o hb e) g0 g1 g3 g4 g5⟩
 self:=fun _ _ _ _ _ st h=>let ⟨_,he⟩:=st.1;wpAny_pyIter_enum he h
theorem Cz {elts:List Expr} {x1:Nat} {tpos:Pos} {a:Expr} {ta:TA} {p pos:Pos} (hg:Gl X "enumerate") (hm:X.mg "enumerate" = none) (ha:PA X [a] ta) (hs:starEach [a] X.env = [(false,eval a X.env)]:=by rfl) :
  PI X (.Tuple elts x1 tpos) (.Call (.Name "enumerate" p) [a] [] pos) (Oj X.K ta):=by
 intro pins s σ H R I h
 refine Call_ (pN I hg hm wN (PyProof.Rows.callWith_type1 (eE (ha pos pins s σ H _ I h) fun us s1 h1=>?_) hs rfl))
 obtain ⟨vs,H1,I1,r1,t,xs,rfl,hq,q⟩:=h1
 obtain ⟨u,rfl,rx⟩:=C5 r1
 cases rx
 obtain ⟨its,rv,p,hz⟩:=I1.list hq
 refine call_enumerate_list p.isList fun h' he hit hsz kp=>?_
 have I2:Inv X pins σ H1 { s1 with heap:=h' }:=I1.kept (t':=s1.toks) kp
 refine wpAny_pyIter_enum (s:={ s1 with heap:=h' }) he ?_
 refine ⟨s1.heap.objs.size + 1,[s1.heap.objs.size + 1,s1.heap.objs.size],_,_,H1,rfl,I2,EE t _ _ (Nat.succ_ne_self _) xs,⟨⟨_,he⟩,hit⟩,fun b hb=>?_,q⟩
 rcases List.mem_cons.mp hb with z | hb
 ·rw [z];exact I1.fpOk (by lia) (I1.hok.fresh (by lia))
 ·rw [List.mem_singleton.mp hb];exact I1.fpOk (Nat.le_refl _) I1.fresh
end
end L2
namespace M
open PySem L2
section
variable {K:W.Frag} {S S' H H':Hp}
noncomputable def Cd (k:Nat):List D -> List D
 | []=>[]
 | d :: l=>.tup [.int (k:Int),d] :: Cd (k + 1) l
theorem Cf:∀ (l:List D) (k:Nat),(Cd k l).length = l.length
 | [],_=>rfl
 | _ :: l,k=>by unfold Cd;rw [List.length_cons,List.length_cons,Cf l (k + 1)]
theorem Ce:∀ (l:List D) (k i:Nat) (d:D),(Cd k l)[i]? = some d -> ∃ x,l[i]? = some x /\ d = .tup [.int ((k + i:Nat):Int),x]
 | [],_,i,d,h=>by simp [Cd] at h
 | y :: l,k,0,d,h=>by
  unfold Cd at h
  simp at h
  exact ⟨y,rfl,by rw [<- h];rfl⟩
 | y :: l,k,i + 1,d,h=>by
  unfold Cd at h
  rw [List.getElem?_cons_succ] at h
  obtain ⟨x,e1,e2⟩:=Ce l (k + 1) i d h
  exact ⟨x,by rw [List.getElem?_cons_succ];exact e1,by rw [e2];congr 3;congr 1;lia⟩
@[simp] noncomputable def KY (a:XE):XA:=fun ρ=>(a ρ).bind fun d=>match d with | .lst l=>some (Cd 0 l) | _=>none
end
end M
namespace L2
open PySem PySem.Spec PyProof.Rows M
section
variable {X:Cx}
end
end L2
namespace M
open PySem L2
section
variable {K:W.Frag}
end
section
variable {K:W.Frag} {S S' H H':Hp}
@[simp] noncomputable def PD (i:Nat) (p:XP):XA:=fun ρ=>match ρ[i]? with
 | some (.ow o)=>(p ρ).bind fun is=>match eM o is with | some (.lst l)=>nV l | _=>none
 | _=>none
end
section
variable {K:W.Frag}
@[simp] noncomputable def NT (f g:D -> D -> Option D) (a b c:XE):XE:=fun ρ=>(a ρ).bind fun x=>(b ρ).bind fun y=>(f x y).bind fun z=>match z with
 | .bl true=>(c ρ).bind fun w=>g y w
 | .bl false=>some (.bl false)
 | _=>none
end
end M
namespace L2
open PySem PySem.Spec PyProof.Rows
section
variable {X:Cx} {tg:Expr}
end
end L2
namespace M
open PySem L2
section
variable {K:W.Frag} {S S' H H':Hp}
noncomputable def L5:List D -> Option (List D)
 | [.lst l]=>some l.reverse | _=>none
@[simp] noncomputable def O4 (a:XA):XA:=fun ρ=>(a ρ).bind L5
end
end M
namespace L2
open PySem PySem.Spec PyProof.Rows
def yc (CX:BV) (X:Cx) (σ:St) (E:XK):Prop:=∀ (pins:List (Addr × Obj)) (H:Hp) (s:Shared) (e:Value) (s':Shared),Inv X pins σ H s -> CX X.stack H s E e s' -> X.xe e s'
section
variable {X:Cx} {CX:BV} {k:Nat} {f:Addr} {fd:FuncData} {ps:List Str} {sp:Sp} {E:XK} {x y:Str} {p cpos pos pos':Pos} {e:Expr} {es:List Expr} {t:TA}
theorem Gr {pins:List (Addr × Obj)} {σ:St} {H:Hp} {s:Shared} {Q:VK} {us:List Value} {vs:List V} (F:FnOk X.prog X.w X.K X.mg X.base CX k f fd ps sp) (hr:Room k X.A) (hb:Binds X.K fd ps []) (hx:yc CX X σ E)
  (I:Inv X pins σ H s) (r:Vals vs us) (h:sp vs H Q E):wpAny (model X.prog X.w) X.A (call (.ref f) us) (EP X pins σ Q) X.xe s:=by
 have r2:Vals (vs ++ []) (us ++ []):=r.append .nil
 rw [List.append_nil] at r2
 have hl:(us ++ []).length = ps.length:=by rw [<- r2.length];exact F.len _ _ _ _ h
 refine wpAny_call (codeAny_mono (F.run X.A X.stack s H ⟨us,[]⟩ (us ++ []) vs Q E hr I.env0 (hb s us I.kIn hl) r2 h) fun r s' hq=>?_)
 cases r with
 | error e=>exact hx pins H s e s' I hq
 | ok fl=>
  cases fl with
  | ret u=>exact I.after hq
  | next=>exact False.elim hq
  | brk=>exact False.elim hq
  | cont=>exact False.elim hq
def PB (X:Cx) (body:List Stmt) (tx:XK -> St -> Hp -> Prop):Prop:=∀ (ps:List (Addr × Obj)) (W:Value -> Shared -> Prop) (E:XK) (σ:St),yc (qY X.prog X.w) ((X.pin ps).wish W) σ E -> ∀ s H,Inv ((X.pin ps).wish W) [] σ H s -> tx E σ H -> wpAny (model X.prog X.w) X.A (execs body X.env) (fun _ _=>False) W s
noncomputable def Oq (sp:Sp) (t:TA):XK -> St -> Hp -> Prop:=fun E σ H=>t σ H fun vs H1=>sp vs H1 (fun _ _=>False) E
theorem Kj (F:FnOk X.prog X.w X.K X.mg X.base (qY X.prog X.w) k f fd ps sp) (hr:Room k X.A) (hg:Gl X x) (hm:X.mg x = some (.ref f)) (hk:PySem.W.keepIn X.K (.ref f) = true) (hb:Binds X.K fd ps [])
  (ha:∀ ps W,PA ((X.pin ps).wish W) (e :: es) t) (hdb:(x == ("__debug__" : Str)) = false:=by decide) (he:starEach (e :: es) X.env = (false,eval e X.env) :: starEach es X.env:=by rfl) (hpl:(backTo cpos (starEach es X.env)).any (·.1) = false:=by rfl)
  (hs:swapsWith (.Call (.Name x p) (e :: es) [] cpos) (some (.Name y pos')) pos.line X.env = pure false:=by rfl) :
  PB X [.Assign [.Name y pos'] (.Call (.Name x p) (e :: es) [] cpos) pos] (Oq sp t):=by
 intro ps' W E σ hx s H I h
 refine wpAny_execs_cons (eE (wpAny_Assign_Name (Q:=fun _ _=>False) (eE (Q:=EP ((X.pin ps').wish W) [] σ fun _ _=>False) ?_ fun v s1 ⟨_,_,_,_,q⟩=>q.elim) hs) fun _ _ q=>q.elim)
 refine wpAny_Call_Name_kw (ki (X:=(X.pin ps').wish W) I hg hm ?_ hdb)
 refine PySem.W.callWith_K (h₀:=X.base) I.ok.mod.kin hk (eE (ha ps' W cpos [] s σ H _ I h) fun us s1 ⟨vs,H1,I1,r,q⟩=>⟨I1.kIn,?_⟩) he hpl
 exact Gr (X:=(X.pin ps').wish W) F hr hb hx I1 r q
end
noncomputable def Jy (K:W.Frag) (L:List Str) (i:Nat) (tx:XK -> St -> Hp -> Prop) (tu ts:TS):TS:=fun D σ H=>
 tx (fun cls _ H'=>∃ N C,N ∈ L /\ cls = .ref C /\ W.nsIn K mainGlobals N = some (some (.ref C)) /\ ∀ e,H' e = none ->
  ts { nx:=fun σ' H2=>D.nx (σ'.set i none) H2,rt:=fun _ _=>False } (σ.set i (some (.ref e))) (d8 H' e (sN C e))) σ H \/ tu D σ H
section
variable {X:Cx} {body suite:List Stmt} {b0:Stmt} {x n:Str} {i:Nat} {L:List Str} {tx:XK -> St -> Hp -> Prop} {tu ts:TS} {np hp pos:Pos}
theorem Ig (hst:X.stack = X.env :: X.outer) (hfr:X.env.frame = some X.env.locals) (hN:X.N.Nodup) (hi:X.N[i]? = some n) (hl:X.env.kindOf n = some .local) (hm:∃ T:Addr,X.mg x = some (.ref T) /\ ∀ N ∈ L,∀ C:Addr,PySem.W.nsIn X.K mainGlobals N = some (some (.ref C)) -> PySem.W.exmOne X.K (.ref C) (.ref T) = some true) (hg:Gl X x)
  (hx:PB X body tx) (hu:∀ (ps:List (Addr × Obj)) (W:Value -> Shared -> Prop),PSs ((X.pin ps).wish W) body tu) (hs:∀ e,PSs (X.hold e) (b0 :: suite) ts) (hdb:(x == ("__debug__" : Str)) = false:=by decide)
  (hf:X.fn n = true \/ X.env.scope.names.lookup n = some .local:=by first | exact .inl rfl | exact .inr rfl | assumption) :
  PS X (.Try body [.ExceptHandler (some (.Name x np)) (some n) (b0 :: suite) hp] [] [] pos) (Jy X.K L i tx tu ts):=by
 intro pins s σ H D I h
 refine wpAny_Try_except ?_
 rcases h with h | h
 ·refine wpAny_mono (hx pins (fun v s1=>wpAny (model X.prog X.w) X.A (noteFrame v X.env) (fun _ s2=>wpAny (model X.prog X.w) X.A (setFlight v none) (fun _ s3=>wpAny (model X.prog X.w) X.A (handleBy v X.env [.ExceptHandler (some (.Name x np)) (some n) (b0 :: suite) hp]) (SP X pins D) X.xe s3) X.xe s2) X.xe s1) _ σ ?_ s H (I.toPin.wish _) h) (fun f s1 q=>q.elim) fun _ _ z=>z
  intro ps H1 s1 v s' J hx
  obtain ⟨e,cls,a0,H',B,rfl,ho,hgn,un,hok,hE,fl,k1,k2⟩:=hx
  obtain ⟨M,C,hM,rfl,hC,hh⟩:=hE
  obtain ⟨T,hm,hmt⟩:=hm
  have hmt:=hmt M hM C hC
  have J1:Inv X pins σ H1 s1:=Inv.ofPin I.ok J.unwish
  have fl:Heap.FlyingW B (X.env :: X.outer) e (.ref C) a0 s'.heap:=hst ▸ fl
  have hfrm:X.A.frames = some (X.env :: X.outer):=by rw [I.ok.frames,hst]
  refine wpAny_looks_onW hfrm hfr fl fun h4 held sm4=>?_
  refine wpAny_landsW held fun h5 fl5 sm5=>?_
  have sm5:=sm4.trans sm5
  -- the state ahead of the clause
  have J5:Inv X pins σ H' { s' with heap:=h5 }:=J1.call' ho (sR un k2 J1.nfS J1.stkFree fl.1 fl5.1 sm5) (oz hok fl.1 fl5.1 k1) hgn.1 (fun b z=>by cases z) (.inr hgn.2)
  obtain ⟨oe,vs,he,hc,hd,_⟩:=fl5.first
  refine wpAny_handleBy_cons (codeAny_handlers_test (ki (X:=X.hold e) (J5.hold e) hg hm ?_ hdb)) (by intro z;cases z)
  have LT:PySem.W.Looks (model X.prog X.w) h5 (typeOf (.ref e)) (.ref C):=hc ▸ (PySem.W.Looks.ld he).andThen .now
  refine (PySem.W.exm_one (J5.kIn) LT hmt).here ?_
  refine codeAny_handlers_suite_as ?_
  refine lands_againW fl5 fun h6 fl6 sm6=>?_
  have sm6:=sm5.trans sm6
  obtain ⟨oe,vs,he,hc,hd,_⟩:=fl6.first
  have heB:H' e = none:=by
   cases q:H' e with
   | none=>rfl
   | some u=>
    obtain ⟨o,q1⟩:=k1 e u q
    rw [fl6.2.1] at q1
    cases q1
  have un6:=sR un k2 J1.nfS J1.stkFree fl.1 fl6.1 sm6
  have hnew:∀ b o,s1.heap.get? b = some o -> b ≠ e:=fun b o q z=>by
   subst z
   by_cases hz:b ∈ wZ X.stack
   ·obtain ⟨sl,q2⟩:=un6.slot b o q (J1.stkFree b hz) hz (by intro y;cases y)
    rw [he] at q2
    cases q2
    exact J1.nfS b hz o q _ hd
   ·obtain ⟨o',q1⟩:=k2 b o q hz
    rw [fl6.2.1] at q1
    cases q1
  have J6:Inv X pins σ (d8 H' e (sN C e)) { s' with heap:=h6 }:=by
   refine J1.call' ho (ch:=[]) ⟨un6.keep,un6.slot,fun b o q z y=>?_,un6.there,fun b xs q=>?_,fun b o u q=>?_,fun b ps' q=>?_⟩ (fun b u q=>?_) hgn.1 (fun b z=>by cases z) (.inr hgn.2)
   ·rw [aS (hnew b o q)];exact un6.free b o q z y
   ·have:=un6.tups b xs q;rw [aS (aP this heB)];exact this
   ·have:=un6.frzs b o u q;rw [aS (aP this heB)];exact this
   ·obtain ⟨mr,this⟩:=un6.tbls b ps' q;exact ⟨mr,by rw [aS (aP this heB)];exact this⟩
   ·have hok6:=oz hok fl.1 fl6.1 k1
    by_cases hbe:b = e
    ·subst hbe
     rw [a7] at q
     cases q
     refine ⟨⟨oe,vs,he,hc,hd⟩,⟨oe,he⟩,fun h1 h2 ⟨o1,v1,z1,z2,z3⟩ kk=>⟨o1,v1,kk _ z1,z2,z3⟩⟩
    ·rw [aS hbe] at q
     exact (hok6 b u q).stay (fun _ _ _ z=>z) (fun c z=>by rw [aS (aP z heB)];exact z) fun c xs z=>by rw [aS (aP z heB)];exact z
  refine lK (X:=X.hold e) (J6.hold e) hN hi (.inl hl) (v:=.ref e) rfl (fun s7 J7=>?_) hf
  refine wpAny_mono (hs e pins s7 _ _ _ J7 (hh e heB)) (fun f s8 q=>?_) fun _ _ z=>z.elim
  cases f with
  | next=>
   obtain ⟨σ8,H8,J8,q8⟩:=q
   exact Cm (Inv.unhold I.ok J8) hN hi hl fun s9 J9=>⟨_,H8,J9,q8⟩
  | brk=>obtain ⟨_,_,_,z⟩:=q;exact z.elim
  | cont=>obtain ⟨_,_,_,z⟩:=q;exact z.elim
  | ret u=>obtain ⟨_,_,_,_,_,z⟩:=q;exact z.elim
 ·refine wpAny_mono (hu pins (fun v s1=>wpAny (model X.prog X.w) X.A (noteFrame v X.env) (fun _ s2=>wpAny (model X.prog X.w) X.A (setFlight v none) (fun _ s3=>wpAny (model X.prog X.w) X.A (handleBy v X.env [.ExceptHandler (some (.Name x np)) (some n) (b0 :: suite) hp]) (SP X pins D) X.xe s3) X.xe s2) X.xe s1) [] s σ H D (I.toPin.wish _) h) (fun f s1 q=>?_) fun _ _ z=>z
  have q:SP X pins D f s1:=by
   have q:=q.unwish
   cases f with
   | next=>obtain ⟨σ',H',J,z⟩:=q;exact ⟨σ',H',Inv.ofPin I.ok J,z⟩
   | brk=>obtain ⟨σ',H',J,z⟩:=q;exact ⟨σ',H',Inv.ofPin I.ok J,z⟩
   | cont=>obtain ⟨σ',H',J,z⟩:=q;exact ⟨σ',H',Inv.ofPin I.ok J,z⟩
   | ret u=>obtain ⟨v,σ',H',J,r,z⟩:=q;exact ⟨v,σ',H',Inv.ofPin I.ok J,r,z⟩
  cases f with
  | next=>exact wpAny_execs_nil q
  | brk=>exact q
  | cont=>exact q
  | ret u=>exact q
end
end L2
namespace M
open PySem L2
section
variable {K:W.Frag} {S S' H H':Hp}
theorem RlA.put {A:Hp} {Λ:Nat -> Option Addr} {ρ:Env} {σ:St} (r:RlA K A Λ ρ σ S H) (i:Nat) (v:Option V):RlA K A Λ (ρ.set i .un) (σ.set i v) S H:=by
 obtain ⟨Φ,f⟩:=r
 have ge:∀ (j:Nat) t,(ρ.set i .un)[j]? = some t -> t ≠ .un -> j ≠ i /\ ρ[j]? = some t:=fun j t h n=>by
  rcases cF h with ⟨_,e,_⟩ | ⟨hij,h⟩
  ·exact absurd e n
  ·exact ⟨Ne.symm hij,h⟩
 exact ⟨Φ,{
  len:=by rw [List.length_set,List.length_set];exact f.len
  sub:=f.sub
  sh:=fun j d h=>by
   obtain ⟨hj,h⟩:=ge j _ h (by intro z;cases z)
   rw [List.getElem?_set_ne (Ne.symm hj)]
   exact f.sh j d h
  ow:=fun j o h=>by
   obtain ⟨hj,h⟩:=ge j _ h (by intro z;cases z)
   rw [List.getElem?_set_ne (Ne.symm hj)]
   exact f.ow j o h
  dj:=fun j k o o' hjk h1 h2=>f.dj j k o o' hjk (ge j _ h1 (by intro z;cases z)).2 (ge k _ h2 (by intro z;cases z)).2
  lo:=fun j h=>by
   obtain ⟨hj,h⟩:=ge j _ h (by intro z;cases z)
   rw [List.getElem?_set_ne (Ne.symm hj)]
   exact f.lo j h
  asub:=f.asub
  adis:=f.adis }⟩
@[simp] noncomputable def Db (L:List Str) (i:Nat) (n:List D -> Option Str) (a:XA) (m:XS) (l:List (Nat × List (List (Str × Bool)))):XS:=fun ρ=>if i < ρ.length then (match (a ρ).bind n with
 | some N=>if L.contains N then (ij i N l (ρ.set i .un)).map fun ρ'=>.nx (ρ'.set i .un) else none
 | none=>(match m ρ with | some (.nx ρ')=>some (.nx ρ') | _=>none)) else none
theorem KB {L:List Str} {i c:Nat} {n:List D -> Option Str} {t:TA} {a:XA} {tu:TS} {m:XS} {l:List (Nat × List (List (Str × Bool)))} (h:SA K t a) (hn:∀ ρ ds,a ρ = some ds -> ds.length = c) (hu:SS K tu m):SS K (Jy K L i (Oq (K8 K c n) t) tu (wl K i l)) (Db L i n a m l):=fun A Λ ρ σ S H D o r q k=>by
 unfold Db at q
 split at q <;> try (cases q;done)
 rename_i hi
 have hlen:σ.length = ρ.length:=by obtain ⟨_,f⟩:=r;exact f.len
 cases qa:(a ρ).bind n with
 | none=>
  rw [qa] at q
  dsimp only at q
  right
  refine hu A Λ ρ σ S H D o r ?_ k
  cases qm:m ρ with
  | none=>rw [qm] at q;cases q
  | some om=>
   rw [qm] at q
   cases om <;> first | exact q | (cases q;done)
 | some N=>
  rw [qa] at q
  dsimp only at q
  left
  split at q <;> try (cases q;done)
  rename_i hN
  cases qf:ij i N l (ρ.set i .un) with
  | none=>rw [qf] at q;cases q
  | some ρ'=>
   rw [qf] at q
   cases q
   cases qd:a ρ with
   | none=>rw [qd] at qa;cases qa
   | some ds=>
    rw [qd] at qa
    refine h ρ σ S H _ ds r.toRl qd fun vs S1 H1 z1 d1=>?_
    refine ⟨by rw [<- d1.length];exact hn ρ ds qd,S1,ds,N,z1.sub,d1,qa,fun C S2 H2 z2 hC=>⟨N,C,by simpa using hN,rfl,hC,fun e he=>?_⟩⟩
    have z3:=(z1.trans z2).trans (Ext.own (o:=sN C e) z2.sub he)
    have r0:=(r.ext z3).put i (some (.ref e))
    refine xS l A Λ _ _ S2 _ _ e C ρ' r0 qf (List.getElem?_set_self (by rw [hlen];exact hi)) a7 hC fun σ' S' H' r' z _ _=>?_
    exact k _ S' H' (r'.drop i) (z3.sh.trans z)
end
section
variable {K:W.Frag} {S S' H H':Hp}
theorem Cn {t:TE} {a:XE} (h:SE K t a):MH K (Oj K (eN t kG)) (KY a):=fun ρ σ S H R l r x k=>by
 obtain ⟨d,q,x⟩:=bind_some x
 split at x <;> try (cases x;done)
 rename_i l'
 cases x
 refine h ρ σ S H _ _ r q fun v S1 H1 z1 d1=>?_
 obtain ⟨p,xs,rfl,h1,h2⟩:=den_lst.mp d1
 refine ⟨p,xs,rfl,.inl (cW z1.sub h1),k _ S1 H1 z1 fun S' H' s1 s2=>?_⟩
 have hm:SqL K H' p xs:=.inl (cW (s1.trans s2) h1)
 refine ⟨fun i d hd=>?_,hm,by rw [Cf];exact h2.length.symm⟩
 obtain ⟨y,e1,rfl⟩:=Ce l' 0 i d hd
 obtain ⟨w,e3,e4⟩:=h2.get e1
 refine ⟨⟨hm,w,e3⟩,fun x H'' hy=>?_⟩
 obtain ⟨b,u,rfl,hb,e5,rfl⟩:=hy
 rw [e3] at e5
 cases e5
 refine ⟨d8 S' b _,Ext.new s2 hb,den_tup.mpr ⟨b,_,rfl,TpA.of a7,.cons (den_int.mpr (by rw [Nat.zero_add])) (.cons (e4.mono (s1.trans (Ext.new (o:=.tup [.int (i:Nat),w]) s2 hb).sh)) .nil)⟩⟩
noncomputable def Op:D -> Option (List D)
 | .lst l=>some l
 | _=>none
@[simp] noncomputable def OP (a b:XE):XA:=fun ρ=>(a ρ).bind fun d=>(Op d).bind fun l=>(b ρ).bind fun e=>(Op e).bind fun m=>if l.length + m.length <= cG then some (l ++ m) else none
end
end M
namespace L2
open PySem
theorem FunD.okX {P:Program} {w:World} {K:W.Frag} {mg:Str -> Option Value} {base:Heap} {x qual:Str} {st:Stmt} {T f:Addr} {fd:FuncData} {N ps:List Str} {k:Nat} {sp:Sp} (F:FunD K x qual st T f fd) (S:FnScope N ps (au st)) (len:∀ vs H Q E,sp vs H Q E -> vs.length = ps.length)
  (hb:∀ (cdv:Value) (A:Around) (outer:List Env) (s:Shared) (H:Hp) (vs:List V) (Q:VK) (E:XK),Room k (A.deeper (PyProof.Rows.envOfC qual (au st) s.heap.objs.size f cdv)) -> sp vs H Q E -> ∃ t,PSs (mw (qY P w) P w K mg base N qual (au st) f cdv A outer s H E) (ba st) t /\ t { nx:=fun _ H'=>Q .non H',rt:=Q } (bJ N vs) H):FnOk P w K mg base (qY P w) (k + 1) f fd ps sp:=by
 obtain ⟨oc,od,kV,doc,pm,an,cdv,ct,osl,rfl,lk,hcd⟩:=F.ex
 exact Ci lk hcd S len fun A outer s H vs Q E hr hsp=>hb cdv A outer s H vs Q E hr hsp
section
variable {X:Cx}
noncomputable def Jc (y z:Str):Int:=match Builtin.Str.occurrences y z 0 y.length 1 with | i :: _=>(i:Int) | []=>-1
noncomputable def uW (y z:Str):Int:=match Builtin.Str.lastOccurrence y z 0 y.length with | some i=>(i:Int) | none=>-1
noncomputable def rFind:V -> List V -> Hp -> VK -> Prop:=fun x vs H Q=>∃ y z,x = .str y /\ vs = [.str z] /\ Q (.int (Jc y z)) H
theorem HQ:Lf X "str.find" rFind:=by
 intro pins s σ H x vs v us Q I rx rv h
 obtain ⟨y,z,rfl,rfl,q⟩:=h
 obtain ⟨t,rfl⟩:=rx
 obtain ⟨u,rfl,ru⟩:=rv.one
 obtain ⟨t',rfl⟩:=ru
 exact call_gives F.slot_str_find (typeIs_str _ _ _) F.entry_str_find (F.args_str_find_2 _ _) (gives_str_find y z t t') ⟨.int _,H,I.tok _,⟨_,rfl⟩,q⟩
noncomputable def rRFind:V -> List V -> Hp -> VK -> Prop:=fun x vs H Q=>∃ y z,x = .str y /\ vs = [.str z] /\ Q (.int (uW y z)) H
theorem FQ:Lf X "str.rfind" rRFind:=by
 intro pins s σ H x vs v us Q I rx rv h
 obtain ⟨y,z,rfl,rfl,q⟩:=h
 obtain ⟨t,rfl⟩:=rx
 obtain ⟨u,rfl,ru⟩:=rv.one
 obtain ⟨t',rfl⟩:=ru
 exact call_gives F.slot_str_rfind (typeIs_str _ _ _) F.entry_str_rfind (F.args_str_rfind_2 _ _) (gives_str_rfind y z t t') ⟨.int _,H,I.tok _,⟨_,rfl⟩,q⟩
noncomputable def Jw (y z:Str) (to:TE):TE:=fun σ H Q=>to σ H fun x H1=>∃ a,x = .str a /\ a.length <= 1000 /\ Q (.str (Txt.replace a y z)) H1
theorem rF {o:Expr} {to:TE} {n y z:Str} {u:Tok} {j:Nat} {apos cpos p1 p2:Pos} (hz:z.length <= 14) (hyz:(y == z) = false) (hg:Gl X n) (hm:X.mg n = some (.str y u)) (h0:u ≠ 0) (h1:u < NN) (ho:PE X o to)
  (hd:(n == ("__debug__" : Str)) = false:=by decide)
  (hbase:attributeBase o "replace" X.env (eval o X.env) = eval o X.env:=by rfl)
  (hfew:((backTo cpos (starEach [.Name n p1,.Constant (.str z) j p2] X.env)).all (fun x=>!x.1) && (backToKw cpos (keywordEach [] X.env)).all (fun x=>x.1.isSome)
   && decide (([.Name n p1,.Constant (.str z) j p2]:List Expr).length + ([]:List Keyword).length + (if ([]:List Keyword).isEmpty then 0 else 1) < 30)) = true:=by rfl)
  (hline:(apos.endLine == cpos.line) = true:=by rfl)
  (hs:starEach [.Name n p1,.Constant (.str z) j p2] X.env = (false,eval (.Name n p1) X.env) :: starEach [.Constant (.str z) j p2] X.env:=by rfl)
  (hs2:starEach [.Constant (.str z) j p2] X.env = (false,eval (.Constant (.str z) j p2) X.env) :: starEach [] X.env:=by rfl)
  (hplain:(backTo cpos (starEach [.Constant (.str z) j p2] X.env)).any (·.1) = false:=by rfl) :
  PE X (.Call (.Attribute o "replace" apos) [.Name n p1,.Constant (.str z) j p2] [] cpos) (Jw y z to):=by
 intro pins s σ H Q I h
 refine wpAny_Call_method_late hbase hfew hline rfl (eE (ho pins s σ H _ I h) fun v s1 hv=>?_)
 obtain ⟨x,H1,I1,r1,a,rfl,hl,q1⟩:=hv
 obtain ⟨g1,g2⟩:=G3 (T := "str") I1 r1 rfl
 refine ⟨"str", "str.replace",PySem.F.plainAttrs_str,PySem.F.slot_str_replace,PySem.F.type_str_replace,g1,g2,?_⟩
 obtain ⟨t,rfl⟩:=r1
 rw [hs]
 refine Calls.callWith_builtin (by show (false || (backTo cpos (starEach [.Constant (.str z) j p2] X.env)).any (·.1)) = false;rw [hplain] <;> rfl) (Calls.evalArgs_plain ?_)
 show wpAny _ _ (spliced ((false,eval (.Name n p1) X.env) :: backTo cpos (starEach [.Constant (.str z) j p2] X.env))) _ _ s1
 refine Calls.spliced_cons (ki I1 hg hm ?_ hd)
 rw [hs2]
 show wpAny _ _ (spliced ((false,eval (.Constant (.str z) j p2) X.env) :: backTo cpos (starEach [] X.env))) _ _ s1
 refine Calls.spliced_cons (Calls.Constant_str (Calls.spliced_nil ?_))
 have hn:NN <= s1.toks:=I1.tk
 have hp:0 < s1.toks:=Nat.lt_of_lt_of_le (Nat.zero_lt_of_lt h1) hn
 refine keep (Nat.le_succ_of_le hn) (SC.replaceW h0 (Nat.ne_of_gt hp) (Nat.ne_of_lt (Nat.lt_of_lt_of_le h1 hn)) hyz (Nat.le_trans hl (by decide)) hz fun t' k hk=>?_)
 exact ⟨.str _,H1,I1.tok k,⟨t',rfl⟩,q1⟩
end
end L2
namespace M
open PySem L2
section
variable {K:W.Frag} {S S' H H':Hp}
noncomputable def B9:D -> D -> Option D
 | .str y,.str z=>some (.int (Jc y z))
 | _,_=>none
theorem Kx {ta tb:TE} {a b:XE} (ha:SPk K ta a) (hb:SPk K tb b):SE K (IL K "str" rFind ta (eN tb kG)) (aF B9 a b):=fun ρ σ S H Q g r x k=>by
 obtain ⟨da,qa,x⟩:=bind_some x
 obtain ⟨db,qb,x⟩:=bind_some x
 cases da <;> try (cases x;done)
 cases db <;> try (cases x;done)
 cases x
 refine ha ρ σ S H _ _ r qa fun v S1 H1 z1 d1=>?_
 rw [d1.str]
 refine ⟨rfl,?_⟩
 refine hb ρ σ S1 H1 _ _ (r.ext z1) qb fun v S2 H2 z2 d2=>?_
 rw [d2.str]
 exact ⟨_,_,rfl,rfl,k _ S2 H2 (z1.trans z2) (den_int.mpr rfl)⟩
noncomputable def wQ:D -> D -> Option D
 | .str y,.str z=>some (.int (uW y z))
 | _,_=>none
theorem Iu {ta tb:TE} {a b:XE} (ha:SPk K ta a) (hb:SPk K tb b):SE K (IL K "str" rRFind ta (eN tb kG)) (aF wQ a b):=fun ρ σ S H Q g r x k=>by
 obtain ⟨da,qa,x⟩:=bind_some x
 obtain ⟨db,qb,x⟩:=bind_some x
 cases da <;> try (cases x;done)
 cases db <;> try (cases x;done)
 cases x
 refine ha ρ σ S H _ _ r qa fun v S1 H1 z1 d1=>?_
 rw [d1.str]
 refine ⟨rfl,?_⟩
 refine hb ρ σ S1 H1 _ _ (r.ext z1) qb fun v S2 H2 z2 d2=>?_
 rw [d2.str]
 exact ⟨_,_,rfl,rfl,k _ S2 H2 (z1.trans z2) (den_int.mpr rfl)⟩
noncomputable def Ff (y z:Str):D -> Option D
 | .str x=>if x.length <= 1000 then some (.str (Txt.replace x y z)) else none
 | _=>none
@[simp] noncomputable def ur (y z:Str) (a:XE):XE:=fun ρ=>(a ρ).bind (Ff y z)
theorem xM {y z:Str} {ta:TE} {a:XE} (ha:SPk K ta a):SE K (Jw y z ta) (ur y z a):=fun ρ σ S H Q g r x k=>by
 obtain ⟨d,q,x⟩:=bind_some x
 unfold Ff at x
 split at x <;> try (cases x;done)
 split at x
 ·rename_i hl
  cases x
  refine ha ρ σ S H _ _ r q fun v S1 H1 z1 d1=>?_
  exact ⟨_,d1.str,hl,k _ S1 H1 z1 (den_str.mpr rfl)⟩
 ·cases x
theorem IJ {E:XK} {wi:TI} {g:TG} {tb:TS} {e:XA} {x:XG} {m:XR} (hi:MH K wi e) (hg:SG K g x) (hb:SX K E tb m):SX K E (IM wi g tb) (Hc e x m):=fun A Λ ρ σ S H D o r y k=>by
 obtain ⟨l,q,y⟩:=bind_some y
 refine hi ρ σ S H _ l r.toRl q fun J S1 H1 z1 wk=>?_
 have r1:=r.ext z1
 refine ⟨fun i n σ' H'=>n = l.length - i /\ i <= l.length /\ ∃ ρ' S',RlA K A Λ ρ' σ' S' H' /\ Same S1 S' /\ tD x m (l.drop i) ρ' = some o,⟨_,rfl,Nat.zero_le _,ρ,S1,r1,Same.refl _,y⟩,?_⟩
 rintro i n σ2 H2 ⟨rfl,hil,ρ2,S2,r2,s2,y2⟩
 obtain ⟨w1,w2⟩:=wk S2 H2 s2 r2.sub
 cases qd:l[i]? with
 | none=>
  have:l.length = i:=by have:=List.getElem?_eq_none_iff.mp qd;lia
  subst this
  rw [List.drop_of_length_le (Nat.le_refl _)] at y2
  cases y2
  exact .inl ⟨w2,k σ2 S2 H2 r2 (z1.sh.trans s2)⟩
 | some d=>
  obtain ⟨g1,g2⟩:=w1 i d qd
  have hlt:=(List.getElem?_eq_some_iff.mp qd).1
  rw [sI qd] at y2
  obtain ⟨ρ3,qx,y2⟩:=bind_some y2
  refine .inr ⟨g1,fun σ' H'=>∃ ρ' S',RlA K A Λ ρ' σ' S' H' /\ Same S1 S' /\ tD x m (l.drop (i + 1)) ρ' = some o,fun σ' H' ⟨ρ',S',a1,a2,a3⟩=>⟨_,by lia,rfl,hlt,ρ',S',a1,a2,a3⟩,fun xv H3 hy=>?_⟩
  obtain ⟨S3,z3,dx⟩:=g2 xv H3 hy
  refine hg A Λ ρ2 σ2 S3 H3 xv d _ ρ3 (r2.ext z3) dx qx fun σ3 r3=>?_
  obtain ⟨om,qm,y2⟩:=bind_some y2
  refine hb A Λ ρ3 σ3 S3 H3 _ om r3 qm ?_
  cases om with
  | nx ρ4=>exact fun σ4 S4 H4 r4 s4=>⟨ρ4,S4,r4,s2.trans (z3.sh.trans s4),y2⟩
  | rz N=>cases y2;exact DoneX.mono (z1.sh.trans (s2.trans z3.sh)) k
theorem Ir {n:Nat} {m:List D -> Option O} {E:XK} {t:TA} {a:XA} (h:MF K t a) (hn:∀ ρ ds,a ρ = some ds -> ds.length = n):SQ K (wj (gH K n m) [] E t) (bB (fun ds=>(m ds).map O.d) a):=fun ρ σ S H Q d rl x k=>by
 unfold bB at x
 obtain ⟨ds,q,x⟩:=bind_some x
 cases q2:m ds with
 | none=>rw [q2] at x;cases x
 | some o=>
  rw [q2] at x
  cases x
  refine h ρ σ S H _ ds rl q fun vs S1 H1 z1 d1=>?_
  rw [List.append_nil]
  refine ⟨by rw [<- d1.length];exact hn ρ ds q,H1,ds,o,Same.refl _,d1,q2,fun v fp S2 H2 z2 ow nd n=>?_⟩
  exact k v S1 H2 (z1.trans (Cg (S2:=S1) z1.sub z2)) (ow.denH z2.sub)
@[simp] noncomputable def xY (m:List D -> Option D) (e f:D) (a:XA):XE:=fun ρ=>(a ρ).bind fun ds=>m (ds ++ [e,f])
theorem Gu {n:Nat} {m:List D -> Option O} {E:XK} {t:TA} {a:XA} {e f:D} {v w:V} (hv:k9 e = some v) (hw:k9 f = some w) (h:SA K t a) (hn:∀ ρ ds,a ρ = some ds -> ds.length = n):SE K (wj (gH K (n + 2) m) [v,w] E t) (xY (fun ds=>(m ds).map O.d) e f a):=fun ρ σ S H Q d r x k=>by
 unfold xY at x
 cases q:a ρ with
 | none=>rw [q] at x;cases x
 | some ds=>
  rw [q] at x
  dsimp only [Option.bind] at x
  cases qg:m (ds ++ [e,f]) with
  | none=>rw [qg] at x;cases x
  | some o=>
   rw [qg] at x
   cases x
   refine h ρ σ S H _ ds r q fun vs S1 H1 z1 d1=>?_
   refine ⟨by rw [List.length_append,<- d1.length,hn ρ ds q];rfl,S1,ds ++ [e,f],o,z1.sub,d1.append (.cons (jC hv) (.cons (jC hw) .nil)),qg,fun v fp S3 H3 z3 ow nd fr=>?_⟩
   exact k v _ H3 (z1.trans (yK z3 fr)) (ow.den (lZ fun b hb=>(fr b hb).2) fun b hb=>rq hb)
end
end M
namespace Rw
noncomputable abbrev R:=List (Int × Int)
def iI (r:R) (x:Int):Prop:=∃ p ∈ r,p.1 <= x /\ x <= p.2
def Ok (r:R):Prop:=∀ p ∈ r,p.1 <= p.2
def cH (r:R):Prop:=Ok r /\ r.Pairwise fun p q=>p.2 + 2 <= q.1
theorem bX (x:Int):¬ iI [] x:=by rintro ⟨p,h,_⟩;cases h
theorem mem_cons (p:Int × Int) (r:R) (x:Int):iI (p :: r) x ↔ (p.1 <= x /\ x <= p.2) \/ iI r x:=by
 constructor
 ·rintro ⟨q,h,e⟩
  rcases List.mem_cons.mp h with rfl | h
  ·exact .inl e
  ·exact .inr ⟨q,h,e⟩
 ·rintro (e | ⟨q,h,e⟩)
  ·exact ⟨p,List.mem_cons_self,e⟩
  ·exact ⟨q,List.mem_cons_of_mem _ h,e⟩
theorem mem_append (r t:R) (x:Int):iI (r ++ t) x ↔ iI r x \/ iI t x:=by
 constructor
 ·rintro ⟨q,h,e⟩
  rcases List.mem_append.mp h with h | h
  ·exact .inl ⟨q,h,e⟩
  ·exact .inr ⟨q,h,e⟩
 ·rintro (⟨q,h,e⟩ | ⟨q,h,e⟩)
  ·exact ⟨q,List.mem_append_left _ h,e⟩
  ·exact ⟨q,List.mem_append_right _ h,e⟩
theorem FL {r t:R} (h:r.Perm t) (x:Int):iI r x ↔ iI t x:=
 ⟨fun ⟨q,m,e⟩=>⟨q,h.mem_iff.mp m,e⟩,fun ⟨q,m,e⟩=>⟨q,h.mem_iff.mpr m,e⟩⟩
theorem mem_filter (r:R) (x:Int):iI (r.filter fun p=>decide (p.1 <= p.2)) x ↔ iI r x:=by
 constructor
 ·rintro ⟨q,m,e⟩
  exact ⟨q,(List.mem_filter.mp m).1,e⟩
 ·rintro ⟨q,m,e⟩
  exact ⟨q,List.mem_filter.mpr ⟨m,by simp;lia⟩,e⟩
theorem g8:cH []:=⟨fun _ h=>(by cases h),.nil⟩
theorem canon_cons {p:Int × Int} {r:R}:cH (p :: r) ↔ p.1 <= p.2 /\ (∀ q ∈ r,p.2 + 2 <= q.1) /\ cH r:=by
 constructor
 ·rintro ⟨h1,h2⟩
  have h3:=List.pairwise_cons.mp h2
  exact ⟨h1 p List.mem_cons_self,h3.1,fun q hq=>h1 q (List.mem_cons_of_mem _ hq),h3.2⟩
 ·rintro ⟨h1,h2,h3,h4⟩
  refine ⟨fun q hq=>?_,List.pairwise_cons.mpr ⟨h2,h4⟩⟩
  rcases List.mem_cons.mp hq with rfl | hq
  ·exact h1
  ·exact h3 q hq
theorem eY {p:Int × Int} {r:R} (c:cH (p :: r)) {x:Int} (h:iI r x):p.2 + 2 <= x:=by
 obtain ⟨q,m,e,_⟩:=h
 have:=(canon_cons.mp c).2.1 q m
 lia
theorem pB {p:Int × Int} {r:R} (c:cH (p :: r)) {x:Int} (h:iI (p :: r) x):p.1 <= x:=by
 rcases (mem_cons p r x).mp h with h | h
 ·exact h.1
 ·have:=eY c h
  have:=(canon_cons.mp c).1
  lia
theorem G4:∀ {r t:R},cH r -> cH t -> (∀ x,iI r x ↔ iI t x) -> r = t
 | [],[],_,_,_=>rfl
 | [],q :: t,_,ct,h=>by
  have:=(h q.1).mpr ((mem_cons ..).mpr (.inl ⟨Int.le_refl _,(canon_cons.mp ct).1⟩))
  exact (bX _ this).elim
 | p :: r,[],cr,_,h=>by
  have:=(h p.1).mp ((mem_cons ..).mpr (.inl ⟨Int.le_refl _,(canon_cons.mp cr).1⟩))
  exact (bX _ this).elim
 | p :: r,q :: t,cr,ct,h=>by
  have hp:=(canon_cons.mp cr).1
  have hq:=(canon_cons.mp ct).1
  have a1:q.1 <= p.1:=pB ct ((h p.1).mp ((mem_cons ..).mpr (.inl ⟨Int.le_refl _,hp⟩)))
  have a2:p.1 <= q.1:=pB cr ((h q.1).mpr ((mem_cons ..).mpr (.inl ⟨Int.le_refl _,hq⟩)))
  have e1:p.1 = q.1:=by lia
  have n1:¬ iI (p :: r) (p.2 + 1):=fun m=>by
   rcases (mem_cons ..).mp m with m | m
   ·lia
   ·have:=eY cr m;lia
  have n2:¬ iI (q :: t) (q.2 + 1):=fun m=>by
   rcases (mem_cons ..).mp m with m | m
   ·lia
   ·have:=eY ct m;lia
  have e2:p.2 = q.2:=by
   by_cases l1:p.2 < q.2
   ·exact (n1 ((h _).mpr ((mem_cons ..).mpr (.inl ⟨by lia,by lia⟩)))).elim
   ·by_cases l2:q.2 < p.2
    ·exact (n2 ((h _).mp ((mem_cons ..).mpr (.inl ⟨by lia,by lia⟩)))).elim
    ·lia
  have e:p = q:=by
   obtain ⟨a,b⟩:=p
   obtain ⟨c,d⟩:=q
   simp only at e1 e2
   rw [e1,e2]
  subst e
  have ih:r = t:=G4 (canon_cons.mp cr).2.2 (canon_cons.mp ct).2.2 fun x=>by
   constructor
   ·intro m
    rcases (mem_cons ..).mp ((h x).mp ((mem_cons ..).mpr (.inr m))) with k | k
    ·have:=eY cr m;lia
    ·exact k
   ·intro m
    rcases (mem_cons ..).mp ((h x).mpr ((mem_cons ..).mpr (.inr m))) with k | k
    ·have:=eY ct m;lia
    ·exact k
  rw [ih]
noncomputable def step (acc:R) (p:Int × Int):R:=
 match acc.getLast? with
 | none=>[p]
 | some q=>if p.1 <= q.2 + 1 then acc.dropLast ++ [(q.1,if p.2 > q.2 then p.2 else q.2)] else acc ++ [p]
noncomputable def oE (l:R):R:=l.foldl step []
theorem GS (p:Int × Int):step [] p = [p]:=rfl
theorem p9 (t:R) (q p:Int × Int):step (t ++ [q]) p = if p.1 <= q.2 + 1 then t ++ [(q.1,if p.2 > q.2 then p.2 else q.2)] else t ++ [q] ++ [p]:=by
 unfold step
 simp
theorem canon_snoc {t:R} {q:Int × Int}:cH (t ++ [q]) ↔ cH t /\ q.1 <= q.2 /\ ∀ p ∈ t,p.2 + 2 <= q.1:=by
 constructor
 ·rintro ⟨h1,h2⟩
  have h3:=List.pairwise_append.mp h2
  exact ⟨⟨fun p hp=>h1 p (List.mem_append_left _ hp),h3.1⟩,h1 q (List.mem_append_right _ List.mem_cons_self),fun p hp=>h3.2.2 p hp q List.mem_cons_self⟩
 ·rintro ⟨⟨h1,h2⟩,h3,h4⟩
  refine ⟨fun p hp=>?_,List.pairwise_append.mpr ⟨h2,.cons (fun _ h=>(by cases h)) .nil,fun p hp x hx=>?_⟩⟩
  ·rcases List.mem_append.mp hp with hp | hp
   ·exact h1 p hp
   ·rw [List.mem_singleton.mp hp];exact h3
  ·rw [List.mem_singleton.mp hx];exact h4 p hp
theorem IH {acc:R} {p:Int × Int} (c:cH acc) (hp:p.1 <= p.2) (lo:∀ q ∈ acc,q.1 <= p.1) :
  cH (step acc p) /\ (∀ x,iI (step acc p) x ↔ iI acc x \/ (p.1 <= x /\ x <= p.2)) /\ (∀ q ∈ step acc p,q.1 <= p.1):=by
 rcases List.eq_nil_or_concat acc with rfl | ⟨t,q,rfl⟩
 ·rw [GS]
  refine ⟨canon_cons.mpr ⟨hp,fun _ h=>(by cases h),g8⟩,fun x=>?_,fun q hq=>?_⟩
  ·rw [mem_cons]
   constructor
   ·rintro (h | h)
    ·exact .inr h
    ·exact .inl h
   ·rintro (h | h)
    ·exact .inr h
    ·exact .inl h
  ·rw [List.mem_singleton.mp hq];exact Int.le_refl _
 ·rw [List.concat_eq_append] at *
  obtain ⟨ct,hq,ht⟩:=canon_snoc.mp c
  have lq:q.1 <= p.1:=lo q (List.mem_append_right _ List.mem_cons_self)
  rw [p9]
  by_cases h:p.1 <= q.2 + 1
  ·rw [if_pos h]
   have m:∀ z,(if p.2 > q.2 then p.2 else q.2) = z -> q.2 <= z /\ p.2 <= z /\ (z = p.2 \/ z = q.2):=fun z e=>by
    split at e <;> lia
   obtain ⟨m1,m2,m3⟩:=m _ rfl
   generalize (if p.2 > q.2 then p.2 else q.2) = z at *
   refine ⟨canon_snoc.mpr ⟨ct,by dsimp only;lia,ht⟩,fun x=>?_,fun s hs=>?_⟩
   ·rw [mem_append,mem_append,mem_cons,mem_cons]
    dsimp only
    constructor
    ·rintro (k | k | k)
     ·exact .inl (.inl k)
     ·by_cases hx:x <= q.2
      ·exact .inl (.inr (.inl ⟨k.1,hx⟩))
      ·right;lia
     ·exact (bX _ k).elim
    ·rintro ((k | k | k) | k)
     ·exact .inl k
     ·right;left;lia
     ·exact (bX _ k).elim
     ·right;left;lia
   ·rcases List.mem_append.mp hs with hs | hs
    ·exact lo s (List.mem_append_left _ hs)
    ·rw [List.mem_singleton.mp hs];exact lq
  ·rw [if_neg h]
   refine ⟨canon_snoc.mpr ⟨c,hp,fun s hs=>?_⟩,fun x=>?_,fun s hs=>?_⟩
   ·rcases List.mem_append.mp hs with hs | hs
    ·have:=ht s hs;lia
    ·rw [List.mem_singleton.mp hs];lia
   ·rw [mem_append,mem_cons]
    constructor
    ·rintro (k | k | k)
     ·exact .inl k
     ·exact .inr k
     ·exact (bX _ k).elim
    ·rintro (k | k)
     ·exact .inl k
     ·exact .inr (.inl k)
   ·rcases List.mem_append.mp hs with hs | hs
    ·exact lo s hs
    ·rw [List.mem_singleton.mp hs];exact Int.le_refl _
theorem Cj:∀ (l:R) (acc:R),cH acc -> Ok l -> l.Pairwise (fun p q=>p.1 <= q.1) -> (∀ q ∈ acc,∀ p ∈ l,q.1 <= p.1) ->
  cH (l.foldl step acc) /\ ∀ x,iI (l.foldl step acc) x ↔ iI acc x \/ iI l x
 | [],acc,c,_,_,_=>⟨c,fun x=>⟨fun h=>.inl h,fun h=>h.elim id fun k=>(bX _ k).elim⟩⟩
 | p :: l,acc,c,o,w,lo=>by
  obtain ⟨w1,w2⟩:=List.pairwise_cons.mp w
  obtain ⟨c1,m1,l1⟩:=IH c (o p List.mem_cons_self) fun q hq=>lo q hq p List.mem_cons_self
  obtain ⟨c2,m2⟩:=Cj l (step acc p) c1 (fun q hq=>o q (List.mem_cons_of_mem _ hq)) w2 fun q hq s hs=>by
   have:=l1 q hq
   have:=w1 s hs
   lia
  refine ⟨c2,fun x=>?_⟩
  show iI (l.foldl step (step acc p)) x ↔ _
  rw [m2,m1,mem_cons,or_assoc]
def I9 (ps r:R):Prop:=cH r /\ ∀ x,iI r x ↔ iI ps x
theorem FP {l ps:R} (o:Ok l) (w:l.Pairwise fun p q=>p.1 <= q.1) (h:∀ x,iI l x ↔ iI ps x):I9 ps (oE l):=by
 obtain ⟨c,m⟩:=Cj l [] g8 o w fun _ h=>(by cases h)
 exact ⟨c,fun x=>by
  show iI (l.foldl step []) x ↔ _
  rw [m x,<- h x]
  exact ⟨fun k=>k.elim (fun z=>(bX _ z).elim) id,.inr⟩⟩
end Rw
namespace Rw
noncomputable def Kh:List Int -> R
 | a :: b :: t=>(a,b - 1) :: Kh t
 | _=>[]
noncomputable def Nh (P:Int -> Prop) (L:Int):Nat -> Int
 | 0=>0
 | n + 1=>Nh P L n + (by classical exact if P (L + n) then 1 else 0)
end Rw
namespace P
open PySem L2 M
noncomputable abbrev I0:List Str:=["NoText", "TooGreat"]
noncomputable abbrev cY:List (Str × Bool):=[("NoText",true),("TooGreat",false)]
noncomputable abbrev bS:List (Str × Bool):=[("NoText",false),("TooGreat",true)]
noncomputable abbrev bw:List (Str × Bool):=[("NoText",true),("TooGreat",true)]
noncomputable def ee:XR:=nT (He (xB (aF (fN true) (ur (Str.ofString ".") (Str.ofString "") (ur (Str.ofString "#") (Str.ofString "") (aj 0))) (xC (.str (Str.ofString ""))))) (x0 "NoText") (BU))
noncomputable def bZ:List D -> Option Str:=Hf 6 ee
noncomputable def wC:XS:=aX (cE (xL (jS [none,some 0] (BP (ag (pf gP (ag (aj 0) az)) az)) (ao 0) (xB (aF (AH) (xC (.str (Str.ofString "#"))) (aF cf (aj 1) (aj 0)))) (aL 0))) (ao 1)) (aX (qw (xB (aF (fN false) (pf gP (ag (aj 1) az)) (xC (.int 0)))) (fe (xC .non)) dM) (aX (cE (pf vh (ag (xL (jS [none] (ES (aj 0)) (ao 0) (xB (aF (AH) (xC (.str (Str.ofString "#"))) (aj 0))) (aF B9 (aj 0) (xC (.str (Str.ofString "#")))))) az)) (ao 2)) (aX (cE (pf vg (ag (xL (jS [none] (ES (aj 0)) (ao 0) nS (aF wQ (aj 0) (xC (.str (Str.ofString "#")))))) az)) (ao 3)) (fe (bE (ag (aL 2) (ag (aF cf (aj 1) (xC (.int 0))) (ag (aL 3) (ag (aF cf (aj 1) (x5 ka (xC (.int 1)))) az)))))))))
noncomputable def rC:List D -> Option O:=gF 4 wC
noncomputable def dW:List D -> Option D:=fun ds=>(rC ds).map O.d
noncomputable def jW:XS:=aX (qw (xB (aF Ls (aj 1) (pf gP (ag (aj 0) az)))) (fe (aF cf (aj 0) (aj 1))) dM) (fe (xC (.int 0)))
noncomputable def iR:List D -> Option O:=gF 2 jW
noncomputable def aH:List D -> Option D:=fun ds=>(iR ds).map O.d
noncomputable def dg:XS:=qw (xB (aF (fN false) (aF cf (aF cf (aj 0) (aj 4)) (aj 6)) (xC (.str (Str.ofString "#"))))) (qw (EL (xB (aF EO (pf gP (ag (aj 5) az)) (xC (.int 0)))) (xB (aF (fN false) (aF cf (aF cf (aj 5) (x5 ka (xC (.int 1)))) (xC (.int 1))) (aF ig (aF cJ (aj 1) (aj 6)) (xC (.int 1)))))) (Ak 5 BO (x5 ka (xC (.int 1))) (bE (ag (aF cf (aF cf (aj 5) (x5 ka (xC (.int 1)))) (xC (.int 0))) (ag (aF cJ (aj 1) (aj 6)) az)))) (lN 5 BO (G8 (bE (ag (aF cJ (aj 1) (aj 6)) (ag (aF cJ (aj 1) (aj 6)) az)))))) dM
noncomputable def fg:XS:=aX (lP (g6 az) 5) (aX (rh (BP (ag (pf gP (ag (aF cf (aj 0) (aj 4)) az)) az)) (ao 6) (dg)) (qw (xB (aF EO (pf gP (ag (aj 5) az)) (xC (.int 0)))) (lN 3 BO (G8 (bE (ag (aF cJ (aj 2) (aj 4)) (ag (pf kU (ag (aj 5) az)) az))))) dM))
noncomputable def mS:XS:=aX (lP (g6 az) 3) (aX (rh (BP (ag (pf gP (ag (aj 0) az)) az)) (ao 4) (fg)) (fe (pf kU (ag (aj 3) az))))
noncomputable def lB:List D -> Option O:=gF 7 mS
noncomputable def cQ:List D -> Option D:=fun ds=>(lB ds).map O.d
noncomputable def lR:XS:=aX (qw (xB (aF Ls (aj 0) (xC (.int 0)))) (fe (aF ig (xC (.int 0)) (aF fO (aF ig (xC (.int 0)) (aj 0)) (aj 1)))) dM) (fe (aF fO (aj 0) (aj 1)))
noncomputable def kn:List D -> Option O:=gF 2 lR
noncomputable def dE:List D -> Option D:=fun ds=>(kn ds).map O.d
noncomputable def rS:XS:=aX (qw (xB (aF (fN false) (aj 0) (bE az))) (fe (xC .non)) dM) (aX (cE (pf vh (ag (xL (jS [none,none] (ES (aj 0)) (c7 (aJ (ao 0) (aJ (ao 1) cV))) nS (aF cf (aF cf (aj 1) (xC (.int 0))) (xC (.int 0))))) az)) (ao 1)) (aX (cE (pf vg (ag (xL (jS [none,none] (ES (aj 0)) (c7 (aJ (ao 0) (aJ (ao 1) cV))) nS (aF cf (aF cf (aj 1) (x5 ka (xC (.int 1)))) (xC (.int 1))))) az)) (ao 2)) (fe (bE (ag (aL 1) (ag (aF cf (aF cf (aj 0) (xC (.int 0))) (xC (.int 0))) (ag (aL 2) (ag (aF cf (aF cf (aj 0) (x5 ka (xC (.int 1)))) (xC (.int 0))) az))))))))
noncomputable def pU:List D -> Option O:=gF 3 rS
noncomputable def cz:List D -> Option D:=fun ds=>(pU ds).map O.d
noncomputable def eP:XT:=xB (aF Ls (aj 2) (aj 3))
noncomputable def eO:XS:=aX (cE (aF kO (aF cJ (aj 2) (aj 3)) (xC (.int 2))) (ao 4)) (qw (xB (aF Hr (aF cf (aF cf (aj 0) (aj 4)) (xC (.int 0))) (aj 1))) (cE (aF cJ (aj 4) (xC (.int 1))) (ao 2)) (cE (aL 4) (ao 3)))
noncomputable def jb:XS:=aX (cE (xC (.int 0)) (ao 2)) (aX (cE (pf gP (ag (aj 0) az)) (ao 3)) (aX (iG (eP) (eO)) (fe (aL 2))))
noncomputable def ir:List D -> Option O:=gF 5 jb
noncomputable def bz:List D -> Option D:=fun ds=>(ir ds).map O.d
noncomputable def cg:XS:=aX (qw (xB (aF (fN true) (aj 5) (xC (.str (Str.ofString ""))))) (lN 3 BO (G8 (bE (ag (aL 2) (ag (aL 4) (ag (aF ig (aF cJ (aj 4) (pf gP (ag (aj 5) az))) (xC (.int 1))) az)))))) dM) (KW 4 (aF cJ (pf gP (ag (aj 5) az)) (xC (.int 1))) yz)
noncomputable def fL:XS:=aX (qw (xB (aF (fN true) (ur (Str.ofString ".") (Str.ofString "") (ur (Str.ofString "#") (Str.ofString "") (aj 0))) (xC (.str (Str.ofString ""))))) (BN) dM) (aX (lP (g6 az) 3) (aX (cE (aL 1) (ao 4)) (aX (rh (ES (aF wR (aj 0) (xC (.str (Str.ofString "."))))) (ao 5) (cg)) (Aj 3))))
noncomputable def fy:List D -> Option O:=gF 6 fL
noncomputable def aY:List D -> Option D:=fun ds=>(fy ds).map O.d
noncomputable def fJ:XS:=qw (EL (rk (aj 1)) (xB (aF Hr (aj 2) (aF cJ (aF cf (aF cf (aj 1) (x5 ka (xC (.int 1)))) (xC (.int 1))) (xC (.int 1)))))) (Ak 1 BO (x5 ka (xC (.int 1))) (bE (ag (aF cf (aF cf (aj 1) (x5 ka (xC (.int 1)))) (xC (.int 0))) (ag (pf B2 (ag (aF cf (aF cf (aj 1) (x5 ka (xC (.int 1)))) (xC (.int 1))) (ag (aj 3) az))) az)))) (lN 1 BO (G8 (bE (ag (aL 2) (ag (aL 3) az)))))
noncomputable def rT:XS:=aX (lP (g6 az) 1) (aX (rh (ES (xL (G6 lU (ag (xL (jS [none,none] (ES (aj 0)) (c7 (aJ (ao 0) (aJ (ao 1) cV))) (xB (aF Hr (aj 0) (aj 1))) (bE (ag (aL 0) (ag (aL 1) az))))) az)))) (c7 (aJ (ao 2) (aJ (ao 3) cV))) (fJ)) (fe (pf kU (ag (aj 1) az))))
noncomputable def pY:List D -> Option O:=gF 4 rT
noncomputable def gy:List D -> Option D:=fun ds=>(pY ds).map O.d
noncomputable def wF:XR:=Am (EN (qw (xB (aF (fN false) (aj 0) (bE az))) (ww (K0 (g6 az))) dM)) (Am (EN (cE (bB cz (ag (aL 0) az)) (ao 1))) (nT (He (xB (aF EO (aF uy (aF cJ (aF ig (aF cf (aj 1) (xC (.int 2))) (aF cf (aj 1) (xC (.int 0)))) (xC (.int 1))) (aF cJ (aF ig (aF cf (aj 1) (xC (.int 3))) (aF cf (aj 1) (xC (.int 1)))) (xC (.int 1)))) (xC (.int (1000))))) (x0 "TooGreat") (BU))))
noncomputable def ku:List D -> Option Str:=Hf 2 wF
noncomputable def cI:XR:=K2 (Hb 3 (BS bZ (ag (aL 5) (ag (aL 1) (ag (aF cJ (aj 2) (aj 4)) az))))) (C9 3 BO (bB aY (ag (aL 5) (ag (aL 1) (ag (aF cJ (aj 2) (aj 4)) az)))))
noncomputable def jZ:XR:=Am (EN (lP (g6 az) 3)) (nT (Hc (KY (aL 0)) (c7 (aJ (ao 4) (aJ (ao 5) cV))) (cI)))
noncomputable def gd:List D -> Option Str:=Hf 6 jZ
noncomputable def gN:XS:=aX (cE (aF cJ (aj 4) (aF cf (xC (.str (Str.ofString ".#"))) (aF fO (aj 3) (xC (.int 2))))) (ao 4)) (cE (aF kO (aj 3) (xC (.int 2))) (ao 3))
noncomputable def gO:XS:=aX (cE (aF kO (aF fO (aF uy (bB aH (ag (aL 0) (ag (aF cJ (xC (.int 3)) (aj 2)) az))) (aF cf (xL (g6 (ag (xC (.int 48271)) (ag (xC (.int 39373)) az)))) (aF fO (aj 2) (xC (.int 2))))) (xC (.int 2147483647))) (xC (.int 37))) (ao 3)) (aX (cE (xC (.str (Str.ofString ""))) (ao 4)) (aX (rh (BP (ag (aF fO (aF kO (aj 3) (xC (.int 512))) (xC (.int 10))) az)) (ao 5) (gN)) (lN 1 BO (G8 (aL 4)))))
noncomputable def mR:XS:=aX (lP (g6 az) 1) (aX (rh (BP (ag (aF fO (bB aH (ag (aL 0) (ag (xC (.int 0)) az))) (xC (.int 10))) az)) (ao 2) (gO)) (Aj 1))
noncomputable def lA:List D -> Option O:=gF 6 mR
noncomputable def eV:List D -> Option D:=fun ds=>(lA ds).map O.d
noncomputable def jT:XS:=aX (cE (aF cJ (aF cf (aj 0) (aj 3)) (aF (Ca) (xC (.str (Str.ofString "."))) (xC (.int 10)))) (ao 4)) (lN 2 BO (G8 (G9 (aj 4) (Ai (aF cf (aj 1) (xC (.int 0)))) (Ai (aF cJ (aF cf (aj 1) (xC (.int 2))) (xC (.int 1)))))))
noncomputable def nZ:XS:=aX (cE (bB dW (ag (aL 0) az)) (ao 1)) (aX (qw (xB (aF (oj false) (aj 1) (xC .non))) (ww (K0 (g6 az))) dM) (aX (lP (g6 az) 2) (aX (rh (Da (ag (aF cf (aj 1) (xC (.int 1))) (ag (aF cJ (aF cf (aj 1) (xC (.int 3))) (xC (.int 1))) az))) (ao 3) (jT)) (Aj 2))))
noncomputable def e9:List D -> Option O:=gF 5 nZ
noncomputable def gv:List D -> Option D:=fun ds=>(e9 ds).map O.d
noncomputable def cX:XS:=aX (qw (K9 (EM (rk (Ha 1))) (xB (aF (fN true) (M3 (aF cf (aF cf (Ha 1) (x5 ka (xC (.int 1)))) (xC (.int 0)))) (aj 2)))) (lN 1 BO (JB (BM (G8 (aL 2)) (BM (JA G7) G7)))) dM) (lN 1 (NW (NW BO (x5 ka (xC (.int 1)))) (xC (.int 1))) (G8 (bE (ag (aL 3) (ag (aL 4) az)))))
noncomputable def jX:XS:=aX (lP (g6 az) 1) (aX (rh (ES (xL (G6 lU (ag (xL (jS [none,none,none] (ES (aj 0)) (c7 (aJ (ao 0) (aJ (ao 1) (aJ (ao 2) cV)))) (xB (aF Hr (aj 1) (aj 2))) (bE (ag (aL 0) (ag (aL 1) (ag (aL 2) az)))))) az)))) (c7 (aJ (ao 2) (aJ (ao 3) (aJ (ao 4) cV)))) (cX)) (IZ 1 (fe (pf kU (ag (xL (jS [none,none] (ES (aL 1)) (c7 (aJ (ao 0) (aJ (ao 1) cV))) nS (bE (ag (aL 0) (ag (bB gy (ag (aL 1) az)) az))))) az)))))
noncomputable def jq:List D -> Option O:=gF 5 jX
noncomputable def dn:List D -> Option D:=fun ds=>(jq ds).map O.d
noncomputable def kS:XS:=aX (cE (bB bz (ag (aL 0) (ag (aL 1) az))) (ao 2)) (aX (qw (EL (xB (aF EO (aj 2) (xC (.int 0)))) (xB (aF (fN false) (aF cf (aF cf (aj 0) (aF ig (aj 2) (xC (.int 1)))) (xC (.int 0))) (aj 1)))) (fe (aF cf (aF cf (aj 0) (aF ig (aj 2) (xC (.int 1)))) (xC (.int 1)))) dM) (fe (bE az)))
noncomputable def jJ:List D -> Option O:=gF 3 kS
noncomputable def eJ:List D -> Option D:=fun ds=>(jJ ds).map O.d
noncomputable def lS:XS:=aX (cE (bB bz (ag (aL 0) (ag (aL 1) az))) (ao 2)) (fe (qV (aF EO (aj 2) (xC (.int 0))) (aF Hr (aj 1) (aF cf (aF cf (aj 0) (aF ig (aj 2) (xC (.int 1)))) (xC (.int 1))))))
noncomputable def ko:List D -> Option O:=gF 3 lS
noncomputable def eh:List D -> Option D:=fun ds=>(ko ds).map O.d
noncomputable def iK:XS:=aX (cE (xL (jS [none,some 0] (BP (ag (pf gP (ag (aj 0) az)) az)) (ao 0) (xB (aF EO (pf gP (ag (aF cf (aj 1) (aj 0)) az)) (xC (.int 0)))) (aL 0))) (ao 4)) (aX (qw (xB (aF (fN false) (pf gP (ag (aj 4) az)) (xC (.int 0)))) (fe (xC (.bl true))) dM) (aX (cE (aF cf (aj 4) (aF fO (aj 1) (pf gP (ag (aj 4) az)))) (ao 5)) (aX (cE (aF fO (aF kO (aj 1) (xC (.int 10))) (pf gP (ag (aF cf (aj 0) (aj 5)) az))) (ao 6)) (aX (cE (aF cf (xL (g6 (ag (xC (.str (Str.ofString " "))) (ag (xC (.str (Str.ofString "x"))) (ag (xC (.str (Str.ofString "o"))) (ag (xC (.str (Str.ofString "*"))) (ag (xC (.str (Str.ofString ","))) (ag (xC (.str (Str.ofString "\n"))) az)))))))) (aF fO (aF kO (aj 1) (xC (.int 100))) (xC (.int 6)))) (ao 7)) (aX (lP (G6 sf (ag (aj 0) az)) 8) (aX (Ak 8 BO (aj 5) (aF cJ (aF cJ (G9 (aF cf (aj 0) (aj 5)) xZ (Ai (aj 6))) (aj 7)) (G9 (aF cf (aj 0) (aj 5)) (Ai (aF cJ (aj 6) (xC (.int 1)))) xZ))) (aX (cE (xC .non) (ao 9)) (aX (IZ 8 (K1 I0 10 (Mz (BS gd (ag (aL 8) (ag (aL 2) (ag (aL 3) az))))) [(9,[cY,bw,bS])])) (fe (aF (fN false) (aj 9) (xL (g6 (ag (xC (.bl true)) (ag (xC (.bl true)) (ag (xC (.bl false)) az)))))))))))))))
noncomputable def gR:List D -> Option O:=gF 11 iK
noncomputable def c9:List D -> Option D:=fun ds=>(gR ds).map O.d
noncomputable def mU:XS:=fe (aF Fe (xC (.str (Str.ofString ""))) (xL (jS [none,some 0] (Da (ag (aj 1) (ag (aF cJ (aj 2) (xC (.int 1))) az))) (ao 0) nS (KZ (rk (bB eh (ag (aL 1) (ag (aL 0) az)))) (xC (.str (Str.ofString "#"))) (xC (.str (Str.ofString ".")))))))
noncomputable def lF:List D -> Option O:=gF 3 mU
noncomputable def dX:List D -> Option D:=fun ds=>(lF ds).map O.d
noncomputable def fh:XS:=C9 3 BO (bB aY (ag (aL 5) (ag (aL 1) (ag (aF cJ (aj 2) (aj 4)) az))))
noncomputable def jY:XS:=aX (lP (g6 az) 3) (aX (rh (KY (aL 0)) (c7 (aJ (ao 4) (aJ (ao 5) cV))) (fh)) (IZ 3 (fe (bB dn (ag (aL 3) az)))))
noncomputable def jr:List D -> Option O:=gF 6 jY
noncomputable def aZ:List D -> Option D:=fun ds=>(jr ds).map O.d
noncomputable def wE:XS:=aX (qw (xB (aF (fN false) (aj 0) (bE az))) (ww (K0 (g6 az))) dM) (aX (cE (bB cz (ag (aL 0) az)) (ao 1)) (aX (qw (xB (aF EO (aF uy (aF cJ (aF ig (aF cf (aj 1) (xC (.int 2))) (aF cf (aj 1) (xC (.int 0)))) (xC (.int 1))) (aF cJ (aF ig (aF cf (aj 1) (xC (.int 3))) (aF cf (aj 1) (xC (.int 1)))) (xC (.int 1)))) (xC (.int (1000))))) (BN) dM) (ww (K0 (jS [none,some 0,some 1] (Da (ag (aF cf (aj 1) (xC (.int 1))) (ag (aF cJ (aF cf (aj 1) (xC (.int 3))) (xC (.int 1))) az))) (ao 0) nS (bB dX (ag (bB eJ (ag (aL 1) (ag (aL 0) az))) (ag (aF cf (aj 2) (xC (.int 0))) (ag (aF cf (aj 2) (xC (.int 2))) az)))))))))
noncomputable def gb:List D -> Option O:=gF 2 wE
noncomputable def fx:List D -> Option D:=fun ds=>(gb ds).map O.d
noncomputable def wD:XS:=aX (cE (aF cf (xL (g6 (ag (bE (ag (xC (.int 1000)) (ag (xC (.int 1)) (ag (xC (.bl false)) az)))) (ag (bE (ag (xC (.int 40)) (ag (xC (.int 25)) (ag (xC (.bl false)) az)))) (ag (bE (ag (xC (.int 1)) (ag (xC (.int 1000)) (ag (xC (.bl false)) az)))) (ag (bE (ag (xC (.int 1001)) (ag (xC (.int 1)) (ag (xC (.bl true)) az)))) (ag (bE (ag (xC (.int 77)) (ag (xC (.int 13)) (ag (xC (.bl true)) az)))) (ag (bE (ag (xC (.int 1)) (ag (xC (.int 1001)) (ag (xC (.bl true)) az)))) (ag (bE (ag (xC (.int 2)) (ag (xC (.int 501)) (ag (xC (.bl true)) az)))) (ag (bE (ag (aF wP (xC (.int 10)) (xC (.int 50))) (ag (xC (.int 1)) (ag (xC (.bl true)) az)))) az)))))))))) (aF fO (aj 0) (xC (.int 8)))) (c7 (aJ (ao 3) (aJ (ao 4) (aJ (ao 5) cV))))) (aX (cE (bE (ag (bE (ag (aL 2) (ag (bE (ag (bE (ag (aL 1) (ag (aL 1) az))) (ag (bE (ag (aF ig (aF cJ (aj 1) (aj 3)) (xC (.int 1))) (ag (aF ig (aF cJ (aj 1) (aj 3)) (xC (.int 1))) az))) az))) az))) az)) (ao 6)) (aX (qw (xB (aF EO (aj 4) (xC (.int 1)))) (cE (bE (ag (bE (ag (aL 2) (ag (bE (ag (bE (ag (aL 1) (ag (aL 1) az))) az)) az))) (ag (bE (ag (aF ig (aF cJ (aj 2) (aj 4)) (xC (.int 1))) (ag (bE (ag (bE (ag (aF ig (aF cJ (aj 1) (aj 3)) (xC (.int 1))) (ag (aF ig (aF cJ (aj 1) (aj 3)) (xC (.int 1))) az))) az)) az))) az))) (ao 6)) dM) (aX (cE (xC .non) (ao 7)) (aX (cE (xL (g6 az)) (ao 8)) (aX (Db I0 9 ku (ag (aL 6) az) (cE (bB fx (ag (aL 6) az)) (ao 8)) [(7,[bS,bw,cY])]) (aX (qw (rk (aj 5)) (fe (aF (fN false) (aj 7) (xL (g6 (ag (xC (.bl true)) (ag (xC (.bl true)) (ag (xC (.bl false)) az))))))) dM) (fe (qV (aF (oj false) (aj 7) (xC .non)) (qV (aF (fN false) (pf gP (ag (aj 8) az)) (aj 4)) (qV (aF (fN false) (aF cf (aF cf (aj 8) (xC (.int 0))) (xC (.int 0))) (xC (.str (Str.ofString "#")))) (aF (fN false) (aF cf (aF cf (aj 8) (x5 ka (xC (.int 1)))) (x5 ka (xC (.int 1)))) (xC (.str (Str.ofString "#"))))))))))))))
noncomputable def tG:List D -> Option O:=gF 10 wD
noncomputable def kl:List D -> Option D:=fun ds=>(tG ds).map O.d
noncomputable def u9:XS:=aX (cE (bB aH (ag (aL 0) (ag (xC (.int 0)) az))) (ao 1)) (aX (cE (bB dE (ag (bB aH (ag (aL 0) (ag (xC (.int 1)) az))) (ag (aF cf (xL (g6 (ag (xC (.int 9)) (ag (aF wP (xC (.int 10)) (xC (.int 58))) az)))) (aF fO (aF kO (aj 1) (xC (.int 10))) (xC (.int 2)))) az))) (ao 2)) (aX (cE (bB dE (ag (bB aH (ag (aL 0) (ag (xC (.int 2)) az))) (ag (aF cf (xL (g6 (ag (xC (.int 9)) (ag (aF wP (xC (.int 10)) (xC (.int 58))) az)))) (aF fO (aF kO (aj 1) (xC (.int 20))) (xC (.int 2)))) az))) (ao 3)) (aX (cE (bB eV (ag (aL 0) az)) (ao 4)) (aX (cE (xL (G6 sf (ag (aj 4) az))) (ao 5)) (aX (cE (bB cQ (ag (aL 4) (ag (aL 2) (ag (aL 3) az)))) (ao 6)) (aX (cE (bB aZ (ag (aL 5) (ag (aL 2) (ag (aL 3) az)))) (ao 7)) (aX (qw (K9 (xB (aF (fN true) (aj 7) (aj 6))) (K9 (EM (rk (pf wK (ag (aj 7) (ag (xC (.ty "tuple")) az))))) (xB (aF (fN true) (aj 5) (aj 4))))) (fe (xC (.bl false))) dM) (aX (qw (K9 (xB (aF (fN true) (xY aZ (.int 0) (.int 0) (ag (aL 5) az)) (bB cQ (ag (aL 4) (ag (xC (.int 0)) (ag (xC (.int 0)) az)))))) (EM (rk (bB c9 (ag (aL 4) (ag (bB aH (ag (aL 0) (ag (xC (.int 13)) az))) (ag (aL 2) (ag (aL 3) az)))))))) (fe (xC (.bl false))) dM) (aX (C8 (BL gb (ag (aL 6) az)) 8) (aX (cE (bB dW (ag (aL 4) az)) (ao 9)) (aX (qw (K9 (xB (aF (fN true) (aj 8) (bB gv (ag (aL 4) az)))) (EL (xB (aF (fN false) (aF fO (aF kO (aj 1) (xC (.int 40))) (xC (.int 4))) (xC (.int 1)))) (EM (rk (bB kl (ag (bB aH (ag (aL 0) (ag (xC (.int 14)) az))) (ag (aL 2) (ag (aL 3) az)))))))) (fe (xC (.bl false))) dM) (aX (qw (EL (xB (aF (oj true) (aj 9) (xC .non))) (xB (M3 (aF (fN true) (bB aZ (ag (aj 8) (ag (aF cJ (aj 2) (aF cf (aj 9) (xC (.int 0)))) (ag (aF cJ (aj 3) (aF cf (aj 9) (xC (.int 1)))) az)))) (aj 6))))) (fe (xC (.bl false))) dM) (aX (lN 8 BO (G8 (xC (.str (Str.ofString "#"))))) (fe (aF (fN false) (bB fx (ag (aL 6) az)) (bB gv (ag (aL 4) az)))))))))))))))))
noncomputable def pV:List D -> Option O:=gF 10 u9
noncomputable def y0:List D -> Option D:=fun ds=>(pV ds).map O.d
noncomputable abbrev dq (K:W.Frag):Sp:=K8 K 3 bZ
noncomputable def iu (K:W.Frag) (E:XK):{ t:TS // SX K E t ee }:=⟨_,xT (Jt (bi (SE.p (av (gX true) ((xM ((xM (ai 0)).p)).p) ((aQ rfl).p)))) (Ac (v:=(.str (Str.ofString "a drawing has the signs # and . alone")))) (CV))⟩
theorem nL {K:W.Frag} {vs:List V} {H:Hp} {Q:VK} {E:XK} (h:dq K vs H Q E):(iu K E).1 { nx:=fun _ H'=>Q .non H',rt:=Q } (bJ ["text", "x", "y", "stretches", "begin", "run"] vs) H:=Bo (iu K E).2 rfl h
noncomputable abbrev o6 (K:W.Frag):Sp:=gH K 1 rC
noncomputable def CA (K:W.Frag):{ t:TS // SS K t wC }:=⟨_,aI (bD ((iy (SI.p (pI ((gB gI (a8 (ai 0) bC)).p))) (aB 0) (bi (SE.p (av Jq ((aQ rfl).p) ((av bp (ai 1) (ai 0)).p)))) (aE 0)).e) (aB 1)) (aI (gY (bi (SE.p (av (gX false) ((gB gI (a8 (ai 1) bC)).p) ((aQ rfl).p)))) (df (aQ rfl)) cS) (aI (bD (gB E5 (a8 (((iy (nw (ai 0)) (aB 0) (bi (SE.p (av Jq ((aQ rfl).p) (ai 0)))) (Kx (ai 0) ((aQ rfl).p))).e).p) bC)) (aB 2)) (aI (bD (gB E4 (a8 (((iy (nw (ai 0)) (aB 0) v8 (Iu (ai 0) ((aQ rfl).p))).e).p) bC)) (aB 3)) (df (bP (ah (aE 2) (ah (av bp (ai 1) ((aQ rfl).p)) (ah (aE 3) (ah (av bp (ai 1) ((oY iY ((aQ rfl).p)).p)) aw)))))))))⟩
theorem Ii {K:W.Frag} {vs:List V} {H:Hp} {Q:VK} {E:XK} (h:o6 K vs H Q E):(CA K).1 { nx:=fun _ H'=>Q .non H',rt:=Q } (bJ ["_law_texts", "_law_rows", "_law_left", "_law_right"] vs) H:=fE (CA K).2 rfl h
noncomputable abbrev gE (K:W.Frag):Sp:=gH K 2 iR
noncomputable def qK (K:W.Frag):{ t:TS // SS K t jW }:=⟨_,aI (gY (bi (SE.p (av Kr (ai 1) ((gB gI (a8 (ai 0) bC)).p)))) (df (av bp (ai 0) (ai 1))) cS) (df (aQ rfl))⟩
theorem zK {K:W.Frag} {vs:List V} {H:Hp} {Q:VK} {E:XK} (h:gE K vs H Q E):(qK K).1 { nx:=fun _ H'=>Q .non H',rt:=Q } (bJ ["_law_script", "_law_k"] vs) H:=fE (qK K).2 rfl h
noncomputable abbrev i7 (K:W.Frag):Sp:=gH K 3 lB
noncomputable def qM (K:W.Frag):{ t:TS // SS K t mS }:=⟨_,aI (jy (fb aw)) (aI (qO (pI ((gB gI (a8 (ai 0) bC)).p)) (aB 4) (aI (jy (fb aw)) (aI (qO (pI ((gB gI (a8 ((av bp (ai 0) (ai 4)).p) bC)).p)) (aB 6) (gY (bi (SE.p (av (gX false) ((av bp ((av bp (ai 0) (ai 4)).p) (ai 6)).p) ((aQ rfl).p)))) (gY (zU (bi (SE.p (av zJ ((gB gI (a8 (ai 5) bC)).p) ((aQ rfl).p)))) (bi (SE.p (av (gX false) ((av bp ((av bp (ai 5) ((oY iY ((aQ rfl).p)).p)).p) ((aQ rfl).p)).p) ((av gM ((av b5 (ai 1) (ai 6)).p) ((aQ rfl).p)).p))))) (Bu (bP (ah (av bp ((av bp (ai 5) ((oY iY ((aQ rfl).p)).p)).p) ((aQ rfl).p)) (ah (av b5 (ai 1) (ai 6)) aw))) (iT 5) ((oY iY ((aQ rfl).p)).p)) (kx (iT 5) ((bP (ah (av b5 (ai 1) (ai 6)) (ah (av b5 (ai 1) (ai 6)) aw))).t))) cS)) (gY (bi (SE.p (av zJ ((gB gI (a8 (ai 5) bC)).p) ((aQ rfl).p)))) (kx (iT 3) ((bP (ah (av b5 (ai 2) (ai 4)) (ah (gB rp (a8 (ai 5) bC)) aw))).t)) cS)))) (df (gB rp (a8 (ai 3) bC))))⟩
theorem zM {K:W.Frag} {vs:List V} {H:Hp} {Q:VK} {E:XK} (h:i7 K vs H Q E):(qM K).1 { nx:=fun _ H'=>Q .non H',rt:=Q } (bJ ["_law_texts", "_law_x", "_law_y", "_law_rows", "_law_k", "_law_row", "_law_j"] vs) H:=fE (qM K).2 rfl h
noncomputable abbrev kD (K:W.Frag):Sp:=gH K 2 kn
noncomputable def tU (K:W.Frag):{ t:TS // SS K t lR }:=⟨_,aI (gY (bi (SE.p (av Kr (ai 0) ((aQ rfl).p)))) (df (av gM ((aQ rfl).p) ((av iX ((av gM ((aQ rfl).p) (ai 0)).p) (ai 1)).p))) cS) (df (av iX (ai 0) (ai 1)))⟩
theorem Bp {K:W.Frag} {vs:List V} {H:Hp} {Q:VK} {E:XK} (h:kD K vs H Q E):(tU K).1 { nx:=fun _ H'=>Q .non H',rt:=Q } (bJ ["_law_cell", "_law_most"] vs) H:=fE (tU K).2 rfl h
noncomputable abbrev jO (K:W.Frag):Sp:=gH K 1 pU
noncomputable def vV (K:W.Frag):{ t:TS // SS K t rS }:=⟨_,aI (gY (bi (SE.p (av (gX false) (ai 0) ((bP aw).p)))) (df (aQ rfl)) cS) (aI (bD (gB E5 (a8 (((iy (nw (ai 0)) (mH (cv (aB 0) (cv (aB 1) mG)) (bG (bG jm))) v8 (av bp ((av bp (ai 1) ((aQ rfl).p)).p) ((aQ rfl).p))).e).p) bC)) (aB 1)) (aI (bD (gB E4 (a8 (((iy (nw (ai 0)) (mH (cv (aB 0) (cv (aB 1) mG)) (bG (bG jm))) v8 (av bp ((av bp (ai 1) ((oY iY ((aQ rfl).p)).p)).p) ((aQ rfl).p))).e).p) bC)) (aB 2)) (df (bP (ah (aE 1) (ah (av bp ((av bp (ai 0) ((aQ rfl).p)).p) ((aQ rfl).p)) (ah (aE 2) (ah (av bp ((av bp (ai 0) ((oY iY ((aQ rfl).p)).p)).p) ((aQ rfl).p)) aw))))))))⟩
theorem Ej {K:W.Frag} {vs:List V} {H:Hp} {Q:VK} {E:XK} (h:jO K vs H Q E):(vV K).1 { nx:=fun _ H'=>Q .non H',rt:=Q } (bJ ["picture", "left", "right"] vs) H:=fE (vV K).2 rfl h
noncomputable abbrev d6 (K:W.Frag):Sp:=gH K 2 ir
noncomputable def lH (K:W.Frag):{ t:TS // SS K t jb }:=⟨_,aI (bD (aQ rfl) (aB 2)) (aI (bD (gB gI (a8 (ai 0) bC)) (aB 3)) (aI (Iw (bi (SE.p (av Kr (ai 2) (ai 3)))) (aI (bD (av oU ((av b5 (ai 2) (ai 3)).p) ((aQ rfl).p)) (aB 4)) (gY (bi (SE.p (av Gg ((av bp ((av bp (ai 0) (ai 4)).p) ((aQ rfl).p)).p) (ai 1)))) (bD (av b5 (ai 4) ((aQ rfl).p)) (aB 2)) (bD (aE 4) (aB 3))))) (df (aE 2))))⟩
theorem t5 {K:W.Frag} {vs:List V} {H:Hp} {Q:VK} {E:XK} (h:d6 K vs H Q E):(lH K).1 { nx:=fun _ H'=>Q .non H',rt:=Q } (bJ ["pairs", "number", "low", "high", "middle"] vs) H:=fE (lH K).2 rfl h
noncomputable abbrev cO (K:W.Frag):Sp:=gH K 3 fy
noncomputable def iV (K:W.Frag):{ t:TS // SS K t fL }:=⟨_,aI (gY (bi (SE.p (av (gX true) ((xM ((xM (ai 0)).p)).p) ((aQ rfl).p)))) (CO (t:=BG)) cS) (aI (jy (fb aw)) (aI (bD (aE 1) (aB 4)) (aI (qO (Ft (Iv (ai 0) ((aQ rfl).p))) (aB 5) (aI (gY (bi (SE.p (av (gX true) (ai 5) ((aQ rfl).p)))) (kx (iT 3) ((bP (ah (aE 2) (ah (aE 4) (ah (av gM ((av b5 (ai 4) ((gB gI (a8 (ai 5) bC)).p)).p) ((aQ rfl).p)) aw)))).t)) cS) (L8 ((av b5 ((gB gI (a8 (ai 5) bC)).p) ((aQ rfl).p)).p) Ih))) (Bs 3))))⟩
theorem oV {K:W.Frag} {vs:List V} {H:Hp} {Q:VK} {E:XK} (h:cO K vs H Q E):(iV K).1 { nx:=fun _ H'=>Q .non H',rt:=Q } (bJ ["text", "x", "y", "stretches", "begin", "run"] vs) H:=fE (iV K).2 rfl h
noncomputable abbrev mo (K:W.Frag):Sp:=gH K 1 pY
noncomputable def vX (K:W.Frag):{ t:TS // SS K t rT }:=⟨_,aI (jy (fb aw)) (aI (qO (Ft ((CN ym (a8 (((iy (nw (ai 0)) (mH (cv (aB 0) (cv (aB 1) mG)) (bG (bG jm))) (bi (SE.p (av Gg (ai 0) (ai 1)))) (bP (ah (aE 0) (ah (aE 1) aw)))).e).p) bC)).e)) (mH (cv (aB 2) (cv (aB 3) mG)) (bG (bG jm))) (gY (zU (p8 (ai 1)) (bi (SE.p (av Gg (ai 2) ((av b5 ((av bp ((av bp (ai 1) ((oY iY ((aQ rfl).p)).p)).p) ((aQ rfl).p)).p) ((aQ rfl).p)).p))))) (Bu (bP (ah (av bp ((av bp (ai 1) ((oY iY ((aQ rfl).p)).p)).p) ((aQ rfl).p)) (ah (gB JP (a8 ((av bp ((av bp (ai 1) ((oY iY ((aQ rfl).p)).p)).p) ((aQ rfl).p)).p) (a8 (ai 3) bC))) aw))) (iT 1) ((oY iY ((aQ rfl).p)).p)) (kx (iT 1) ((bP (ah (aE 2) (ah (aE 3) aw))).t)))) (df (gB rp (a8 (ai 1) bC))))⟩
theorem El {K:W.Frag} {vs:List V} {H:Hp} {Q:VK} {E:XK} (h:mo K vs H Q E):(vX K).1 { nx:=fun _ H'=>Q .non H',rt:=Q } (bJ ["pairs", "stretches", "a", "b"] vs) H:=fE (vX K).2 rfl h
noncomputable abbrev o5 (K:W.Frag):Sp:=K8 K 1 ku
noncomputable def zt (K:W.Frag) (E:XK):{ t:TS // SX K E t wF }:=⟨_,BF (CW (gY (bi (SE.p (av (gX false) (ai 0) ((bP aw).p)))) (xN (SF.t (fb aw))) cS)) (BF (CW (bD (bA (E:=E0) (ah (aE 0) aw) (aq (fun _ _ h=>aR h))) (aB 1))) (xT (Jt (bi (SE.p (av zJ ((av Gh ((av b5 ((av gM ((av bp (ai 1) ((aQ rfl).p)).p) ((av bp (ai 1) ((aQ rfl).p)).p)).p) ((aQ rfl).p)).p) ((av b5 ((av gM ((av bp (ai 1) ((aQ rfl).p)).p) ((av bp (ai 1) ((aQ rfl).p)).p)).p) ((aQ rfl).p)).p)).p) ((aQ rfl).p)))) (Ac (v:=(.str (Str.ofString "a picture with a box of more than a thousand cells is not drawn")))) (CV))))⟩
theorem Gk {K:W.Frag} {vs:List V} {H:Hp} {Q:VK} {E:XK} (h:o5 K vs H Q E):(zt K E).1 { nx:=fun _ H'=>Q .non H',rt:=Q } (bJ ["picture", "box"] vs) H:=Bo (zt K E).2 rfl h
noncomputable abbrev fG (K:W.Frag):Sp:=K8 K 3 gd
noncomputable def lG (K:W.Frag) (E:XK):{ t:TS // SX K E t jZ }:=⟨_,BF (CW (jy (fb aw))) (xT (IJ (Cn (aE 0)) (mH (cv (aB 4) (cv (aB 5) mG)) (bG (bG jm))) (Mi (CU (IK (i:=3) (r:=rExtM) (tr:=kG) (Ae (ah (aE 5) (ah (aE 1) (ah (av b5 (ai 2) (ai 4)) aw))) (aq (aq (aq (fun _ _ h=>aR h))))))) (Gv (iT 3) (bA (E:=E0) (ah (aE 5) (ah (aE 1) (ah (av b5 (ai 2) (ai 4)) aw))) (aq (aq (aq (fun _ _ h=>aR h)))))))))⟩
theorem t3 {K:W.Frag} {vs:List V} {H:Hp} {Q:VK} {E:XK} (h:fG K vs H Q E):(lG K E).1 { nx:=fun _ H'=>Q .non H',rt:=Q } (bJ ["rows", "x", "y", "stretches", "place", "text"] vs) H:=Bo (lG K E).2 rfl h
noncomputable abbrev i6 (K:W.Frag):Sp:=gH K 1 lA
noncomputable def qL (K:W.Frag):{ t:TS // SS K t mR }:=⟨_,aI (jy (fb aw)) (aI (qO (pI ((av iX ((bA (E:=E0) (ah (aE 0) (ah (aQ rfl) aw)) (aq (aq (fun _ _ h=>aR h)))).p) ((aQ rfl).p)).p)) (aB 2) (aI (bD (av oU ((av iX ((av Gh ((bA (E:=E0) (ah (aE 0) (ah (av b5 ((aQ rfl).p) (ai 2)) aw)) (aq (aq (fun _ _ h=>aR h)))).p) ((av bp (((fb (ah (aQ rfl) (ah (aQ rfl) aw))).e).p) ((av iX (ai 2) ((aQ rfl).p)).p)).p)).p) ((aQ rfl).p)).p) ((aQ rfl).p)) (aB 3)) (aI (bD (aQ rfl) (aB 4)) (aI (qO (pI ((av iX ((av oU (ai 3) ((aQ rfl).p)).p) ((aQ rfl).p)).p)) (aB 5) (aI (bD (av b5 (ai 4) ((av bp ((aQ rfl).p) ((av iX (ai 3) ((aQ rfl).p)).p)).p)) (aB 4)) (bD (av oU (ai 3) ((aQ rfl).p)) (aB 3)))) (kx (iT 1) ((aE 4).t)))))) (Bs 1))⟩
theorem zL {K:W.Frag} {vs:List V} {H:Hp} {Q:VK} {E:XK} (h:i6 K vs H Q E):(qL K).1 { nx:=fun _ H'=>Q .non H',rt:=Q } (bJ ["_law_script", "_law_texts", "_law_k", "_law_cell", "_law_text", "_law_j"] vs) H:=fE (qL K).2 rfl h
noncomputable abbrev mj (K:W.Frag):Sp:=gH K 1 e9
noncomputable def vU (K:W.Frag):{ t:TS // SS K t nZ }:=⟨_,aI (bD (bA (E:=E0) (ah (aE 0) aw) (aq (fun _ _ h=>aR h))) (aB 1)) (aI (gY (bi (SE.p (av Jr (ai 1) ((aQ rfl).p)))) (xN (SF.t (fb aw))) cS) (aI (jy (fb aw)) (aI (qO (AU ((av bp (ai 1) ((aQ rfl).p)).p) ((av b5 ((av bp (ai 1) ((aQ rfl).p)).p) ((aQ rfl).p)).p)) (aB 3) (aI (bD (av b5 ((av bp (ai 0) (ai 3)).p) ((av Ks ((aQ rfl).p) ((aQ rfl).p)).p)) (aB 4)) (kx (iT 2) ((GB (ai 4) (xK ((av bp (ai 1) ((aQ rfl).p)).p)) (xK ((av b5 ((av bp (ai 1) ((aQ rfl).p)).p) ((aQ rfl).p)).p))).t)))) (Bs 2))))⟩
theorem Ei {K:W.Frag} {vs:List V} {H:Hp} {Q:VK} {E:XK} (h:mj K vs H Q E):(vU K).1 { nx:=fun _ H'=>Q .non H',rt:=Q } (bJ ["_law_texts", "_law_box_here", "_law_found", "_law_k", "_law_text"] vs) H:=fE (vU K).2 rfl h
noncomputable abbrev gh (K:W.Frag):Sp:=gH K 1 jq
noncomputable def mI (K:W.Frag):{ t:TS // SS K t jX }:=⟨_,aI (jy (fb aw)) (aI (qO (Ft ((CN ym (a8 (((iy (nw (ai 0)) (mH (cv (aB 0) (cv (aB 1) (cv (aB 2) mG))) (bG (bG (bG jm)))) (bi (SE.p (av Gg (ai 1) (ai 2)))) (bP (ah (aE 0) (ah (aE 1) (ah (aE 2) aw))))).e).p) bC)).e)) (mH (cv (aB 2) (cv (aB 3) (cv (aB 4) mG))) (bG (bG (bG jm)))) (aI (gY (GA (CP (KA (GC 1))) (bi (SE.p (av (gX true) ((SQ.fl (Gz bp (Gz bp (GC 1) (((oY iY ((aQ rfl).p)).p).q)) (((aQ rfl).p).q))).p) (ai 2))))) (kx (iT 1) (KC (CS ((aE 2).t) (CS (Kz GQ) GQ)))) cS) (kx (LJ (LJ (iT 1) ((oY iY ((aQ rfl).p)).p)) ((aQ rfl).p)) ((bP (ah (aE 3) (ah (aE 4) aw))).t)))) (Gx 1 (df (gB rp (a8 (((iy (nw ((aE 1).p)) (mH (cv (aB 0) (cv (aB 1) mG)) (bG (bG jm))) v8 (bP (ah (aE 0) (ah (bA (E:=E0) (ah (aE 1) aw) (aq (fun _ _ h=>aR h))) aw)))).e).p) bC)))))⟩
theorem uU {K:W.Frag} {vs:List V} {H:Hp} {Q:VK} {E:XK} (h:gh K vs H Q E):(mI K).1 { nx:=fun _ H'=>Q .non H',rt:=Q } (bJ ["stretches", "pairs_by_row", "y", "a", "b"] vs) H:=fE (mI K).2 rfl h
noncomputable abbrev mn (K:W.Frag):Sp:=gH K 2 jJ
noncomputable def vW (K:W.Frag):{ t:TS // SS K t kS }:=⟨_,aI (bD (bA (E:=E0) (ah (aE 0) (ah (aE 1) aw)) (aq (aq (fun _ _ h=>aR h)))) (aB 2)) (aI (gY (zU (bi (SE.p (av zJ (ai 2) ((aQ rfl).p)))) (bi (SE.p (av (gX false) ((av bp ((av bp (ai 0) ((av gM (ai 2) ((aQ rfl).p)).p)).p) ((aQ rfl).p)).p) (ai 1))))) (df (av bp ((av bp (ai 0) ((av gM (ai 2) ((aQ rfl).p)).p)).p) ((aQ rfl).p))) cS) (df (bP aw)))⟩
theorem Ek {K:W.Frag} {vs:List V} {H:Hp} {Q:VK} {E:XK} (h:mn K vs H Q E):(vW K).1 { nx:=fun _ H'=>Q .non H',rt:=Q } (bJ ["picture", "y", "begun"] vs) H:=fE (vW K).2 rfl h
noncomputable abbrev kE (K:W.Frag):Sp:=gH K 2 ko
noncomputable def tV (K:W.Frag):{ t:TS // SS K t lS }:=⟨_,aI (bD (bA (E:=E0) (ah (aE 0) (ah (aE 1) aw)) (aq (aq (fun _ _ h=>aR h)))) (aB 2)) (df (xJ ((av zJ (ai 2) ((aQ rfl).p)).p) (av Gg (ai 1) ((av bp ((av bp (ai 0) ((av gM (ai 2) ((aQ rfl).p)).p)).p) ((aQ rfl).p)).p))))⟩
theorem Bq {K:W.Frag} {vs:List V} {H:Hp} {Q:VK} {E:XK} (h:kE K vs H Q E):(tV K).1 { nx:=fun _ H'=>Q .non H',rt:=Q } (bJ ["row", "x", "begun"] vs) H:=fE (tV K).2 rfl h
noncomputable abbrev gZ (K:W.Frag):Sp:=gH K 4 gR
noncomputable def oP (K:W.Frag):{ t:TS // SS K t iK }:=⟨_,aI (bD ((iy (SI.p (pI ((gB gI (a8 (ai 0) bC)).p))) (aB 0) (bi (SE.p (av zJ ((gB gI (a8 ((av bp (ai 1) (ai 0)).p) bC)).p) ((aQ rfl).p)))) (aE 0)).e) (aB 4)) (aI (gY (bi (SE.p (av (gX false) ((gB gI (a8 (ai 4) bC)).p) ((aQ rfl).p)))) (df (aQ rfl)) cS) (aI (bD (av bp (ai 4) ((av iX (ai 1) ((gB gI (a8 (ai 4) bC)).p)).p)) (aB 5)) (aI (bD (av iX ((av oU (ai 1) ((aQ rfl).p)).p) ((gB gI (a8 ((av bp (ai 0) (ai 5)).p) bC)).p)) (aB 6)) (aI (bD (av bp (((fb (ah (aQ rfl) (ah (aQ rfl) (ah (aQ rfl) (ah (aQ rfl) (ah (aQ rfl) (ah (aQ rfl) aw))))))).e).p) ((av iX ((av oU (ai 1) ((aQ rfl).p)).p) ((aQ rfl).p)).p)) (aB 7)) (aI (jy (CN E3 (a8 (ai 0) bC))) (aI (Bu (av b5 ((av b5 ((GB ((av bp (ai 0) (ai 5)).p) (zV) (xK (ai 6))).p) (ai 7)).p) ((GB ((av bp (ai 0) (ai 5)).p) (xK ((av b5 (ai 6) ((aQ rfl).p)).p)) (zV)).p)) (iT 8) (ai 5)) (aI (bD (aQ rfl) (aB 9)) (aI (Gx 8 (Mb (L:=I0) (i:=10) (l:=[(9,[cY,bw,bS])]) (fun E=>CU (Ae (ah (aE 8) (ah (aE 2) (ah (aE 3) aw))) (aq (aq (aq (fun _ _ h=>aR h)))))))) (df (av (gX false) (ai 9) (((fb (ah (aQ rfl) (ah (aQ rfl) (ah (aQ rfl) aw)))).e).p)))))))))))⟩
theorem xI {K:W.Frag} {vs:List V} {H:Hp} {Q:VK} {E:XK} (h:gZ K vs H Q E):(oP K).1 { nx:=fun _ H'=>Q .non H',rt:=Q } (bJ ["_law_texts", "_law_cell", "_law_x", "_law_y", "_law_some", "_law_k", "_law_j", "_law_sign", "_law_bad", "_law_caught", "e"] vs) H:=fE (oP K).2 rfl h
noncomputable abbrev i8 (K:W.Frag):Sp:=gH K 3 lF
noncomputable def qN (K:W.Frag):{ t:TS // SS K t mU }:=⟨_,df (Ky ((aQ rfl).p) (((iy (SI.p (AU (ai 1) ((av b5 (ai 2) ((aQ rfl).p)).p))) (aB 0) v8 (L9 (p8 ((bA (E:=E0) (ah (aE 1) (ah (aE 0) aw)) (aq (aq (fun _ _ h=>aR h)))).p)) (aQ rfl) (aQ rfl))).e).p))⟩
theorem zN {K:W.Frag} {vs:List V} {H:Hp} {Q:VK} {E:XK} (h:i8 K vs H Q E):(qN K).1 { nx:=fun _ H'=>Q .non H',rt:=Q } (bJ ["row", "first", "last"] vs) H:=fE (qN K).2 rfl h
noncomputable abbrev gi (K:W.Frag):Sp:=gH K 3 jr
noncomputable def mJ (K:W.Frag):{ t:TS // SS K t jY }:=⟨_,aI (jy (fb aw)) (aI (Gw (Cn (aE 0)) (mH (cv (aB 4) (cv (aB 5) mG)) (bG (bG jm))) (Gv (iT 3) (bA (E:=E0) (ah (aE 5) (ah (aE 1) (ah (av b5 (ai 2) (ai 4)) aw))) (aq (aq (aq (fun _ _ h=>aR h))))))) (Gx 3 (df (bA (E:=E0) (ah (aE 3) aw) (aq (fun _ _ h=>aR h))))))⟩
theorem uV {K:W.Frag} {vs:List V} {H:Hp} {Q:VK} {E:XK} (h:gi K vs H Q E):(mJ K).1 { nx:=fun _ H'=>Q .non H',rt:=Q } (bJ ["rows", "x", "y", "stretches", "place", "text"] vs) H:=fE (mJ K).2 rfl h
noncomputable abbrev o8 (K:W.Frag):Sp:=gH K 1 gb
noncomputable def CB (K:W.Frag):{ t:TS // SS K t wE }:=⟨_,aI (gY (bi (SE.p (av (gX false) (ai 0) ((bP aw).p)))) (xN (SF.t (fb aw))) cS) (aI (bD (bA (E:=E0) (ah (aE 0) aw) (aq (fun _ _ h=>aR h))) (aB 1)) (aI (gY (bi (SE.p (av zJ ((av Gh ((av b5 ((av gM ((av bp (ai 1) ((aQ rfl).p)).p) ((av bp (ai 1) ((aQ rfl).p)).p)).p) ((aQ rfl).p)).p) ((av b5 ((av gM ((av bp (ai 1) ((aQ rfl).p)).p) ((av bp (ai 1) ((aQ rfl).p)).p)).p) ((aQ rfl).p)).p)).p) ((aQ rfl).p)))) (CO (t:=BG)) cS) (xN (SF.t (iy (SI.p (AU ((av bp (ai 1) ((aQ rfl).p)).p) ((av b5 ((av bp (ai 1) ((aQ rfl).p)).p) ((aQ rfl).p)).p))) (aB 0) v8 (bA (E:=E0) (ah (bA (E:=E0) (ah (aE 1) (ah (aE 0) aw)) (aq (aq (fun _ _ h=>aR h)))) (ah (av bp (ai 2) ((aQ rfl).p)) (ah (av bp (ai 2) ((aQ rfl).p)) aw))) (aq (aq (aq (fun _ _ h=>aR h))))))))))⟩
theorem Ij {K:W.Frag} {vs:List V} {H:Hp} {Q:VK} {E:XK} (h:o8 K vs H Q E):(CB K).1 { nx:=fun _ H'=>Q .non H',rt:=Q } (bJ ["picture", "box"] vs) H:=fE (CB K).2 rfl h
noncomputable abbrev o7 (K:W.Frag):Sp:=gH K 3 tG
noncomputable def zu (K:W.Frag):{ t:TS // SS K t wD }:=⟨_,aI (bD (av bp (((fb (ah (bP (ah (aQ rfl) (ah (aQ rfl) (ah (aQ rfl) aw)))) (ah (bP (ah (aQ rfl) (ah (aQ rfl) (ah (aQ rfl) aw)))) (ah (bP (ah (aQ rfl) (ah (aQ rfl) (ah (aQ rfl) aw)))) (ah (bP (ah (aQ rfl) (ah (aQ rfl) (ah (aQ rfl) aw)))) (ah (bP (ah (aQ rfl) (ah (aQ rfl) (ah (aQ rfl) aw)))) (ah (bP (ah (aQ rfl) (ah (aQ rfl) (ah (aQ rfl) aw)))) (ah (bP (ah (aQ rfl) (ah (aQ rfl) (ah (aQ rfl) aw)))) (ah (bP (ah (av Gi ((aQ rfl).p) ((aQ rfl).p)) (ah (aQ rfl) (ah (aQ rfl) aw)))) aw))))))))).e).p) ((av iX (ai 0) ((aQ rfl).p)).p)) (mH (cv (aB 3) (cv (aB 4) (cv (aB 5) mG))) (bG (bG (bG jm))))) (aI (bD (bP (ah (bP (ah (aE 2) (ah (bP (ah (bP (ah (aE 1) (ah (aE 1) aw))) (ah (bP (ah (av gM ((av b5 (ai 1) (ai 3)).p) ((aQ rfl).p)) (ah (av gM ((av b5 (ai 1) (ai 3)).p) ((aQ rfl).p)) aw))) aw))) aw))) aw)) (aB 6)) (aI (gY (bi (SE.p (av zJ (ai 4) ((aQ rfl).p)))) (bD (bP (ah (bP (ah (aE 2) (ah (bP (ah (bP (ah (aE 1) (ah (aE 1) aw))) aw)) aw))) (ah (bP (ah (av gM ((av b5 (ai 2) (ai 4)).p) ((aQ rfl).p)) (ah (bP (ah (bP (ah (av gM ((av b5 (ai 1) (ai 3)).p) ((aQ rfl).p)) (ah (av gM ((av b5 (ai 1) (ai 3)).p) ((aQ rfl).p)) aw))) aw)) aw))) aw))) (aB 6)) cS) (aI (bD (aQ rfl) (aB 7)) (aI (bD ((fb aw).e) (aB 8)) (aI (KB (L:=I0) (i:=9) (l:=[(7,[bS,bw,cY])]) (ah (aE 6) aw) (aq (fun _ _ h=>aR h)) (bD (bA (E:=E0) (ah (aE 6) aw) (aq (fun _ _ h=>aR h))) (aB 8))) (aI (gY (p8 (ai 5)) (df (av (gX false) (ai 7) (((fb (ah (aQ rfl) (ah (aQ rfl) (ah (aQ rfl) aw)))).e).p))) cS) (df (xJ ((av Jr (ai 7) ((aQ rfl).p)).p) (xJ ((av (gX false) ((gB gI (a8 (ai 8) bC)).p) (ai 4)).p) (xJ ((av (gX false) ((av bp ((av bp (ai 8) ((aQ rfl).p)).p) ((aQ rfl).p)).p) ((aQ rfl).p)).p) (av (gX false) ((av bp ((av bp (ai 8) ((oY iY ((aQ rfl).p)).p)).p) ((oY iY ((aQ rfl).p)).p)).p) ((aQ rfl).p))))))))))))⟩
theorem Gm {K:W.Frag} {vs:List V} {H:Hp} {Q:VK} {E:XK} (h:o7 K vs H Q E):(zu K).1 { nx:=fun _ H'=>Q .non H',rt:=Q } (bJ ["_law_cell", "_law_x", "_law_y", "_law_wide", "_law_high", "_law_great", "_law_picture_here", "_law_caught", "_law_found", "e"] vs) H:=fE (zu K).2 rfl h
noncomputable abbrev ug (K:W.Frag):Sp:=gH K 1 pV
noncomputable def F6 (K:W.Frag):{ t:TS // SS K t u9 }:=⟨_,aI (bD (bA (E:=E0) (ah (aE 0) (ah (aQ rfl) aw)) (aq (aq (fun _ _ h=>aR h)))) (aB 1)) (aI (bD (bA (E:=E0) (ah (bA (E:=E0) (ah (aE 0) (ah (aQ rfl) aw)) (aq (aq (fun _ _ h=>aR h)))) (ah (av bp (((fb (ah (aQ rfl) (ah (av Gi ((aQ rfl).p) ((aQ rfl).p)) aw))).e).p) ((av iX ((av oU (ai 1) ((aQ rfl).p)).p) ((aQ rfl).p)).p)) aw)) (aq (aq (fun _ _ h=>aR h)))) (aB 2)) (aI (bD (bA (E:=E0) (ah (bA (E:=E0) (ah (aE 0) (ah (aQ rfl) aw)) (aq (aq (fun _ _ h=>aR h)))) (ah (av bp (((fb (ah (aQ rfl) (ah (av Gi ((aQ rfl).p) ((aQ rfl).p)) aw))).e).p) ((av iX ((av oU (ai 1) ((aQ rfl).p)).p) ((aQ rfl).p)).p)) aw)) (aq (aq (fun _ _ h=>aR h)))) (aB 3)) (aI (bD (bA (E:=E0) (ah (aE 0) aw) (aq (fun _ _ h=>aR h))) (aB 4)) (aI (bD ((CN E3 (a8 (ai 4) bC)).e) (aB 5)) (aI (bD (bA (E:=E0) (ah (aE 4) (ah (aE 2) (ah (aE 3) aw))) (aq (aq (aq (fun _ _ h=>aR h))))) (aB 6)) (aI (bD (bA (E:=E0) (ah (aE 5) (ah (aE 2) (ah (aE 3) aw))) (aq (aq (aq (fun _ _ h=>aR h))))) (aB 7)) (aI (gY (GA (bi (SE.p (av (gX true) (ai 7) (ai 6)))) (GA (CP (p8 ((gB Lr (a8 (ai 7) (a8 (SE.p (aQ rfl)) bC))).p))) (bi (SE.p (av (gX true) (ai 5) (ai 4)))))) (df (aQ rfl)) cS) (aI (gY (GA (bi (SE.p (av (gX true) ((Gu (E:=E0) (v:=.int 0) (w:=.int 0) rfl rfl (ah (aE 5) aw) (aq (fun _ _ h=>aR h))).p) ((bA (E:=E0) (ah (aE 4) (ah (aQ rfl) (ah (aQ rfl) aw))) (aq (aq (aq (fun _ _ h=>aR h))))).p)))) (CP (p8 ((bA (E:=E0) (ah (aE 4) (ah (bA (E:=E0) (ah (aE 0) (ah (aQ rfl) aw)) (aq (aq (fun _ _ h=>aR h)))) (ah (aE 2) (ah (aE 3) aw)))) (aq (aq (aq (aq (fun _ _ h=>aR h)))))).p)))) (df (aQ rfl)) cS) (aI (Gs (CM (E:=E0) (ah (aE 6) aw) (aq (fun _ _ h=>aR h)))) (aI (bD (bA (E:=E0) (ah (aE 4) aw) (aq (fun _ _ h=>aR h))) (aB 9)) (aI (gY (GA (bi (SE.p (av (gX true) (ai 8) ((bA (E:=E0) (ah (aE 4) aw) (aq (fun _ _ h=>aR h))).p)))) (zU (bi (SE.p (av (gX false) ((av iX ((av oU (ai 1) ((aQ rfl).p)).p) ((aQ rfl).p)).p) ((aQ rfl).p)))) (CP (p8 ((bA (E:=E0) (ah (bA (E:=E0) (ah (aE 0) (ah (aQ rfl) aw)) (aq (aq (fun _ _ h=>aR h)))) (ah (aE 2) (ah (aE 3) aw))) (aq (aq (aq (fun _ _ h=>aR h))))).p))))) (df (aQ rfl)) cS) (aI (gY (zU (bi (SE.p (av Kt (ai 9) ((aQ rfl).p)))) (bi (SE.p (SQ.fl (Gz (gX true) (Ir (E:=E0) (xR ((ai 8).q) (xR (((av b5 (ai 2) ((av bp (ai 9) ((aQ rfl).p)).p)).p).q) (xR (((av b5 (ai 3) ((av bp (ai 9) ((aQ rfl).p)).p)).p).q) (KI)))) (aq (aq (aq (fun _ _ h=>aR h))))) ((ai 6).q)))))) (df (aQ rfl)) cS) (aI (kx (iT 8) ((aQ rfl).t)) (df (av (gX false) ((bA (E:=E0) (ah (aE 6) aw) (aq (fun _ _ h=>aR h))).p) ((bA (E:=E0) (ah (aE 4) aw) (aq (fun _ _ h=>aR h))).p))))))))))))))))⟩
theorem Ku {K:W.Frag} {vs:List V} {H:Hp} {Q:VK} {E:XK} (h:ug K vs H Q E):(F6 K).1 { nx:=fun _ H'=>Q .non H',rt:=Q } (bJ ["_law_script", "_law_first", "_law_x", "_law_y", "_law_texts", "_law_handed", "_law_picture_here", "_law_found", "_law_drawn_here", "_law_box_here"] vs) H:=fE (F6 K).2 rfl h
end P
namespace P
open PySem L2 M Rw
noncomputable def uI (p:Int × Int):List Int:=[p.1,p.2]
theorem yW:∀ r:R,keys (r.map gL) = some (r.map uI)
 | []=>rfl
 | p :: r=>by
  rw [List.map_cons,keys,yW r]
  rfl
theorem Fv:∀ {r:R},r ≠ [] -> di (r.map gL) = none
 | [],h=>absurd rfl h
 | p :: r,_=>rfl
noncomputable def Cv:List Int -> Int × Int
 | [a,b]=>(a,b)
 | _=>(0,0)
noncomputable def o4 (ps:R):R:=(iA (ps.map uI)).map Cv
theorem ue (ps:R):(o4 ps).map uI = iA (ps.map uI):=by
 unfold o4
 rw [List.map_map]
 have h:∀ k ∈ iA (ps.map uI),(uI ∘ Cv) k = k:=fun k hk=>by
  have:=(iB _).mem_iff.mp hk
  obtain ⟨p,_,rfl⟩:=List.mem_map.mp this
  rfl
 rw [List.map_congr_left h,List.map_id']
theorem kB (ps:R):(o4 ps).Perm ps:=by
 have h:=(iB (ps.map uI)).map Cv
 rw [List.map_map] at h
 have e:(Cv ∘ uI) = id:=rfl
 rw [e,List.map_id] at h
 exact h
theorem GN (ps:R):(o4 ps).Pairwise fun p q=>p.1 <= q.1:=by
 have h:=ud (ps.map uI)
 rw [<- ue,List.pairwise_map] at h
 refine h.imp fun {p q} e=>?_
 have e':(if q.1 = p.1 then HT.cU [q.2] [p.2] else decide (q.1 < p.1)) = false:=e
 by_cases hq:q.1 = p.1
 ·lia
 ·rw [if_neg hq] at e'
  have:=of_decide_eq_false e'
  lia
theorem yl (ps:R) (h:ps.length < 30000):lU [DS ps] = some ((o4 ps).map gL):=by
 show (if (ps.map gL).length < 30000 then _ else _) = _
 rw [if_pos (by rw [List.length_map];exact h)]
 by_cases e:ps = []
 ·subst e
  have e0:o4 [] = []:=List.length_eq_zero_iff.mp (by rw [(kB []).length_eq];rfl)
  have e1:qT [] = []:=List.length_eq_zero_iff.mp (by rw [(nO []).length_eq];rfl)
  show some ((qT []).map D.int) = _
  rw [e0,e1]
  rfl
 ·rw [Fv e]
  dsimp only
  rw [yW]
  have:(o4 ps).map gL = (iA (ps.map uI)).map u0:=by
   rw [<- ue,List.map_map]
   rfl
  rw [this]
  rfl
noncomputable def uG (p:Int × Int):Bool:=decide (p.1 <= p.2)
noncomputable def vZ (ps:R):R:=oE (o4 (ps.filter uG))
theorem iQ (ps:R):I9 ps (vZ ps):=by
 refine FP ?_ (GN _) fun x=>?_
 ·intro p hp
  have:=(kB _).mem_iff.mp hp
  simpa [uG] using (List.mem_filter.mp this).2
 ·rw [FL (kB _)]
  exact mem_filter ps x
theorem GR (acc:R) (p:Int × Int):(step acc p).length <= acc.length + 1:=by
 rcases List.eq_nil_or_concat acc with rfl | ⟨t,q,rfl⟩
 ·simp [Rw.step]
 ·rw [List.concat_eq_append,p9]
  split <;> simp
theorem vR:∀ (l acc:R),(l.foldl step acc).length <= acc.length + l.length
 | [],acc=>by simp
 | p :: l,acc=>by
  have h1:=vR l (step acc p)
  have h2:=GR acc p
  rw [List.foldl_cons,List.length_cons]
  lia
theorem bH {n:Nat} (h:n <= 100000):n <= cG:=Nat.le_trans h (by rw [eU];decide)
theorem gQ {n:Nat} (h:n <= 100000):n < cG:=Nat.lt_of_le_of_lt h (by rw [eU];decide)
theorem xV (a b:Int):D.tup [.int a,.int b] = gL (a,b):=rfl
theorem vE:∀ ps:R,ps.filterMap (fun p=>if p.1 <= p.2 then some (gL p) else none) = (ps.filter uG).map gL
 | []=>rfl
 | p :: t=>by
  rw [List.filterMap_cons,List.filter_cons,vE t]
  by_cases h:p.1 <= p.2
  ·simp [uG,h]
  ·simp [uG,h]
theorem Dm (ps:R):eZ (c7 (aJ (ao 0) (aJ (ao 1) cV))) (xB (aF Hr (aj 0) (aj 1))) (bE (ag (aL 0) (ag (aL 1) az))) [.un,.un] (ps.map gL) = some ((ps.filter uG).map gL):=by
 rw [ie gL (fun p=>if p.1 <= p.2 then some (gL p) else none) ps,vE]
 intro p _
 by_cases h:p.1 <= p.2 <;> simp [nJ,h]
theorem A5 (pre:R) (p:Int × Int):oE (pre ++ [p]) = step (oE pre) p:=by
 unfold oE
 rw [List.foldl_append]
 rfl
theorem FO (pre:R):(oE pre).length <= pre.length:=by
 have:=vR pre []
 unfold oE
 simpa using this
theorem Ln {r:R} {i:Nat} {p:Int × Int} (h:r[i]? = some p):b7 (r.map gL) (i:Int) = some (gL p):=aN (by rw [List.getElem?_map,h];rfl)
theorem yN (n:Nat):bd 0 n = (List.range n).map fun k:Nat=>D.int (k:Int):=by
 apply List.ext_getElem?
 intro i
 cases q:(bd 0 n)[i]? with
 | none=>
  have:=List.getElem?_eq_none_iff.mp q
  rw [fQ] at this
  rw [List.getElem?_eq_none (by rw [List.length_map,List.length_range];exact this)]
 | some d=>
  obtain ⟨h1,rfl⟩:=pJ n 0 i d q
  rw [List.getElem?_map,List.getElem?_range h1]
  simp
noncomputable def rd (r:R) (x:Int):Bool:=r.any fun p=>decide (p.1 <= x) && decide (x <= p.2)
theorem lv (r:R) (x:Int):rd r x = true ↔ iI r x:=by
 unfold rd iI
 rw [List.any_eq_true]
 simp
theorem Iq {m n:XS} {ρ ρ':M.Env} (h:m ρ = some (.nx ρ')):aX m n ρ = n ρ':=by unfold aX;rw [h]
theorem vf (a b d:XS) (ρ:M.Env):aX a (aX b d) ρ = aX (aX a b) d ρ:=by
 unfold aX
 cases a ρ with
 | none=>rfl
 | some o=>cases o <;> rfl
theorem zT (s0:Sl) (acc:R) (a b:Int) (h:acc.length <= 30000):fJ [s0,vT (acc.map gL),.sh (.int a),.sh (.int b)] = some (.nx [s0,vT ((step acc (a,b)).map gL),.sh (.int a),.sh (.int b)]):=by
 rcases List.eq_nil_or_concat acc with rfl | ⟨t,q,rfl⟩
 ·simp [fJ,Rw.step,gL]
 ·rw [List.concat_eq_append] at *
  rw [p9]
  have hl:t.length + 1 <= 30000:=by simpa using h
  have hlim:t.length + 1 < cG:=gQ (by lia)
  have at1:b7 (t.map gL ++ [gL q]) (-1) = some (gL q):=jA _ _
  by_cases hc:a <= q.2 + 1
  ·simp [fJ,at1,hc,lm,xV]
  ·simp [fJ,at1,hc,hlim,xV]
theorem y6 (ps:R) (h:ps.length < 30000):gy [DS ps] = some (Eo (vZ ps)):=by
 have hf:=List.length_filter_le uG ps
 have hs:=(kB (ps.filter uG)).length_eq
 have key:∃ ρ',bO (c7 (aJ (ao 2) (aJ (ao 3) cV))) fJ ((o4 (ps.filter uG)).map gL) [.sh (DS ps),.ow (.lst []),.un,.un] = some (.nx ρ') /\ ∃ va vb,ρ' = [.sh (DS ps),vT ((vZ ps).map gL),va,vb]:=by
  refine vP gL (fun pre ρ=>∃ va vb,ρ = [.sh (DS ps),vT ((oE pre).map gL),va,vb]) _ _ ⟨_,_,rfl⟩ ?_
  rintro pre p post _ e ⟨va,vb,rfl⟩
  have hp:pre.length <= 30000:=by
   have:=congrArg List.length e
   rw [List.length_append] at this
   lia
  refine ⟨_,_,rfl,.inl (zT _ (oE pre) p.1 p.2 (by have:=FO pre;lia)),.sh (.int p.1),.sh (.int p.2),by rw [A5]⟩
 obtain ⟨ρ',k1,va,vb,rfl⟩:=key
 have hc:=Dm ps
 have hb:=yl (ps.filter uG) (by lia)
 have hl:ps.length <= cG:=bH (by lia)
 simp [gy,pY,gF,rT,hl,hc,hb,k1]
noncomputable abbrev hZ:=Int × Int × Int
noncomputable abbrev c6 (t:hZ):D:=.tup [.int t.1,.int t.2.1,.int t.2.2]
noncomputable abbrev iJ:=List (Int × R)
noncomputable abbrev fI (q:Int × R):D:=.tup [.int q.1,Eo q.2]
noncomputable abbrev eH (p:iJ):D:=.tup (p.map fI)
def kN (ts:List hZ) (x y:Int):Prop:=∃ t ∈ ts,t.1 = y /\ t.2.1 <= x /\ x <= t.2.2
def fc (p:iJ) (x y:Int):Prop:=∃ q ∈ p,q.1 = y /\ iI q.2 x
def b8 (p:iJ):Prop:=(∀ q ∈ p,cH q.2 /\ q.2 ≠ []) /\ p.Pairwise fun a b=>a.1 < b.1
theorem cZ (x y:Int):¬ fc [] x y:=by rintro ⟨_,h,_⟩;cases h
theorem bv (q:Int × R) (p:iJ) (x y:Int):fc (q :: p) x y ↔ (q.1 = y /\ iI q.2 x) \/ fc p x y:=by
 constructor
 ·rintro ⟨s,h,e⟩
  rcases List.mem_cons.mp h with rfl | h
  ·exact .inl e
  ·exact .inr ⟨s,h,e⟩
 ·rintro (e | ⟨s,h,e⟩)
  ·exact ⟨q,List.mem_cons_self,e⟩
  ·exact ⟨s,List.mem_cons_of_mem _ h,e⟩
theorem iW (p q:iJ) (x y:Int):fc (p ++ q) x y ↔ fc p x y \/ fc q x y:=by
 constructor
 ·rintro ⟨s,h,e⟩
  rcases List.mem_append.mp h with h | h
  ·exact .inl ⟨s,h,e⟩
  ·exact .inr ⟨s,h,e⟩
 ·rintro (⟨s,h,e⟩ | ⟨s,h,e⟩)
  ·exact ⟨s,List.mem_append_left _ h,e⟩
  ·exact ⟨s,List.mem_append_right _ h,e⟩
theorem qu (t:hZ) (ts:List hZ) (x y:Int):kN (t :: ts) x y ↔ (t.1 = y /\ t.2.1 <= x /\ x <= t.2.2) \/ kN ts x y:=by
 constructor
 ·rintro ⟨s,h,e⟩
  rcases List.mem_cons.mp h with rfl | h
  ·exact .inl e
  ·exact .inr ⟨s,h,e⟩
 ·rintro (e | ⟨s,h,e⟩)
  ·exact ⟨t,List.mem_cons_self,e⟩
  ·exact ⟨s,List.mem_cons_of_mem _ h,e⟩
theorem i9 (a b:List hZ) (x y:Int):kN (a ++ b) x y ↔ kN a x y \/ kN b x y:=by
 constructor
 ·rintro ⟨s,h,e⟩
  rcases List.mem_append.mp h with h | h
  ·exact .inl ⟨s,h,e⟩
  ·exact .inr ⟨s,h,e⟩
 ·rintro (⟨s,h,e⟩ | ⟨s,h,e⟩)
  ·exact ⟨s,List.mem_append_left _ h,e⟩
  ·exact ⟨s,List.mem_append_right _ h,e⟩
theorem ED {a b:List hZ} (h:a.Perm b) (x y:Int):kN a x y ↔ kN b x y:=
 ⟨fun ⟨q,m,e⟩=>⟨q,h.mem_iff.mp m,e⟩,fun ⟨q,m,e⟩=>⟨q,h.mem_iff.mpr m,e⟩⟩
theorem kr:b8 []:=⟨fun _ h=>(by cases h),.nil⟩
theorem pcanon_cons {q:Int × R} {p:iJ}:b8 (q :: p) ↔ (cH q.2 /\ q.2 ≠ []) /\ (∀ s ∈ p,q.1 < s.1) /\ b8 p:=by
 constructor
 ·rintro ⟨h1,h2⟩
  have h3:=List.pairwise_cons.mp h2
  exact ⟨h1 q List.mem_cons_self,h3.1,fun s hs=>h1 s (List.mem_cons_of_mem _ hs),h3.2⟩
 ·rintro ⟨h1,h2,h3,h4⟩
  refine ⟨fun s hs=>?_,List.pairwise_cons.mpr ⟨h2,h4⟩⟩
  rcases List.mem_cons.mp hs with rfl | hs
  ·exact h1
  ·exact h3 s hs
theorem iL {r:R} (c:cH r) (h:r ≠ []):∃ x,iI r x:=by
 cases r with
 | nil=>exact absurd rfl h
 | cons p r=>exact ⟨p.1,(mem_cons ..).mpr (.inl ⟨Int.le_refl _,(canon_cons.mp c).1⟩)⟩
theorem xF:∀ {p q:iJ},b8 p -> b8 q -> (∀ x y,fc p x y ↔ fc q x y) -> p = q
 | [],[],_,_,_=>rfl
 | [],b :: q,_,cq,h=>by
  obtain ⟨⟨c1,c2⟩,_⟩:=pcanon_cons.mp cq
  obtain ⟨x,hx⟩:=iL c1 c2
  exact (cZ _ _ ((h x b.1).mpr ((bv ..).mpr (.inl ⟨rfl,hx⟩)))).elim
 | a :: p,[],cp,_,h=>by
  obtain ⟨⟨c1,c2⟩,_⟩:=pcanon_cons.mp cp
  obtain ⟨x,hx⟩:=iL c1 c2
  exact (cZ _ _ ((h x a.1).mp ((bv ..).mpr (.inl ⟨rfl,hx⟩)))).elim
 | a :: p,b :: q,cp,cq,h=>by
  obtain ⟨⟨ca,na⟩,la,cp'⟩:=pcanon_cons.mp cp
  obtain ⟨⟨cb,nb⟩,lb,cq'⟩:=pcanon_cons.mp cq
  obtain ⟨xa,ha⟩:=iL ca na
  obtain ⟨xb,hb⟩:=iL cb nb
  have ey:a.1 = b.1:=by
   have h1:b.1 <= a.1:=by
    rcases (bv ..).mp ((h xa a.1).mp ((bv ..).mpr (.inl ⟨rfl,ha⟩))) with ⟨e,_⟩ | ⟨s,hs,e,_⟩
    ·lia
    ·have:=lb s hs;lia
   have h2:a.1 <= b.1:=by
    rcases (bv ..).mp ((h xb b.1).mpr ((bv ..).mpr (.inl ⟨rfl,hb⟩))) with ⟨e,_⟩ | ⟨s,hs,e,_⟩
    ·lia
    ·have:=la s hs;lia
   lia
  have er:a.2 = b.2:=G4 ca cb fun x=>by
   have hx:=h x a.1
   rw [bv,bv] at hx
   have n1:¬ fc p x a.1:=by rintro ⟨s,hs,e,_⟩;have:=la s hs;lia
   have n2:¬ fc q x a.1:=by rintro ⟨s,hs,e,_⟩;have:=lb s hs;lia
   constructor
   ·intro hm
    rcases hx.mp (.inl ⟨rfl,hm⟩) with z | z
    ·exact z.2
    ·exact absurd z n2
   ·intro hm
    rcases hx.mpr (.inl ⟨ey.symm,hm⟩) with z | z
    ·exact z.2
    ·exact absurd z n1
  have eab:a = b:=by
   obtain ⟨a1,a2⟩:=a
   obtain ⟨b1,b2⟩:=b
   simp only at ey er
   rw [ey,er]
  subst eab
  have ih:p = q:=xF cp' cq' fun x y=>by
   have hx:=h x y
   rw [bv,bv] at hx
   constructor
   ·intro hm
    rcases hx.mp (.inr hm) with z | z
    ·obtain ⟨s,hs,e,_⟩:=hm;have:=la s hs;lia
    ·exact z
   ·intro hm
    rcases hx.mpr (.inr hm) with z | z
    ·obtain ⟨s,hs,e,_⟩:=hm;have:=lb s hs;lia
    ·exact z
  rw [ih]
noncomputable def uJ (t:hZ):List Int:=[t.1,t.2.1,t.2.2]
noncomputable def xu:List Int -> hZ
 | [a,b,c]=>(a,b,c)
 | _=>(0,0,0)
theorem vL:∀ r:List hZ,keys (r.map c6) = some (r.map uJ)
 | []=>rfl
 | p :: r=>by rw [List.map_cons,keys,vL r];rfl
theorem DH:∀ {r:List hZ},r ≠ [] -> di (r.map c6) = none
 | [],h=>absurd rfl h
 | _ :: _,_=>rfl
noncomputable def gD (ts:List hZ):List hZ:=(iA (ts.map uJ)).map xu
theorem uf (ts:List hZ):(gD ts).map uJ = iA (ts.map uJ):=by
 unfold gD
 rw [List.map_map]
 have h:∀ k ∈ iA (ts.map uJ),(uJ ∘ xu) k = k:=fun k hk=>by
  have:=(iB _).mem_iff.mp hk
  obtain ⟨p,_,rfl⟩:=List.mem_map.mp this
  rfl
 rw [List.map_congr_left h,List.map_id']
theorem iC (ts:List hZ):(gD ts).Perm ts:=by
 have h:=(iB (ts.map uJ)).map xu
 rw [List.map_map] at h
 have e:(xu ∘ uJ) = id:=rfl
 rw [e,List.map_id] at h
 exact h
theorem Ab (ts:List hZ):(gD ts).Pairwise fun p q=>p.1 <= q.1:=by
 have h:=ud (ts.map uJ)
 rw [<- uf,List.pairwise_map] at h
 refine h.imp fun {p q} e=>?_
 have e':(if q.1 = p.1 then HT.cU [q.2.1,q.2.2] [p.2.1,p.2.2] else decide (q.1 < p.1)) = false:=e
 by_cases hq:q.1 = p.1
 ·lia
 ·rw [if_neg hq] at e'
  have:=of_decide_eq_false e'
  lia
theorem wL (ts:List hZ) (h:ts.length < 30000):lU [.lst (ts.map c6)] = some ((gD ts).map c6):=by
 show (if (ts.map c6).length < 30000 then _ else _) = _
 rw [if_pos (by rw [List.length_map];exact h)]
 by_cases e:ts = []
 ·subst e
  have e0:gD [] = []:=List.length_eq_zero_iff.mp (by rw [(iC []).length_eq];rfl)
  have e1:qT [] = []:=List.length_eq_zero_iff.mp (by rw [(nO []).length_eq];rfl)
  show some ((qT []).map D.int) = _
  rw [e0,e1]
  rfl
 ·rw [DH e]
  dsimp only
  rw [vL]
  have:(gD ts).map c6 = (iA (ts.map uJ)).map u0:=by
   rw [<- uf,List.map_map]
   rfl
  rw [this]
  rfl
noncomputable def eD (t:hZ):Bool:=decide (t.2.1 <= t.2.2)
theorem Ag (ts:List hZ) (x y:Int):kN (ts.filter eD) x y ↔ kN ts x y:=by
 constructor
 ·rintro ⟨q,m,e⟩
  exact ⟨q,(List.mem_filter.mp m).1,e⟩
 ·rintro ⟨q,m,e⟩
  exact ⟨q,List.mem_filter.mpr ⟨m,by simp [eD];lia⟩,e⟩
theorem sQ:∀ ps:List hZ,ps.filterMap (fun p=>if p.2.1 <= p.2.2 then some (c6 p) else none) = (ps.filter eD).map c6
 | []=>rfl
 | p :: t=>by
  rw [List.filterMap_cons,List.filter_cons,sQ t]
  by_cases h:p.2.1 <= p.2.2
  ·simp [eD,h]
  ·simp [eD,h]
theorem AA (ps:List hZ):eZ (c7 (aJ (ao 0) (aJ (ao 1) (aJ (ao 2) cV)))) (xB (aF Hr (aj 1) (aj 2))) (bE (ag (aL 0) (ag (aL 1) (ag (aL 2) az)))) [.un,.un,.un] (ps.map c6) = some ((ps.filter eD).map c6):=by
 rw [ie c6 (fun p=>if p.2.1 <= p.2.2 then some (c6 p) else none) ps,sQ]
 intro p _
 by_cases h:p.2.1 <= p.2.2 <;> simp [nJ,h]
noncomputable def kI (gs:iJ) (t:hZ):iJ:=match gs.getLast? with
 | none=>[(t.1,[t.2])]
 | some g=>if g.1 = t.1 then gs.dropLast ++ [(g.1,g.2 ++ [t.2])] else gs ++ [(t.1,[t.2])]
theorem DE (t:hZ):kI [] t = [(t.1,[t.2])]:=rfl
theorem nu (gs:iJ) (g:Int × R) (t:hZ):kI (gs ++ [g]) t = if g.1 = t.1 then gs ++ [(g.1,g.2 ++ [t.2])] else gs ++ [g] ++ [(t.1,[t.2])]:=by
 unfold kI
 simp
noncomputable def ft (ts:List hZ):iJ:=ts.foldl kI []
theorem sS (pre:List hZ) (t:hZ):ft (pre ++ [t]) = kI (ft pre) t:=by
 unfold ft
 rw [List.foldl_append]
 rfl
structure GOk (gs:iJ) (ts:List hZ):Prop where
 ne:∀ g ∈ gs,g.2 ≠ [] /\ Ok g.2
 up:gs.Pairwise fun a b=>a.1 < b.1
 mem:∀ x y,fc gs x y ↔ kN ts x y
 le:∀ g ∈ gs,∃ t ∈ ts,g.1 = t.1
 len:(gs.map fun g=>g.2.length).sum = ts.length
theorem Fp {gs:iJ} {ts:List hZ} {t:hZ} (o:GOk gs ts) (ht:t.2.1 <= t.2.2) (hb:∀ s ∈ ts,s.1 <= t.1):GOk (kI gs t) (ts ++ [t]):=by
 have tm:∀ x y,kN (ts ++ [t]) x y ↔ kN ts x y \/ (t.1 = y /\ t.2.1 <= x /\ x <= t.2.2):=fun x y=>by
  rw [i9,qu]
  constructor
  ·rintro (h | h | ⟨_,h,_⟩)
   ·exact .inl h
   ·exact .inr h
   ·cases h
  ·rintro (h | h)
   ·exact .inl h
   ·exact .inr (.inl h)
 have okt:Ok [t.2]:=fun p hp=>by rw [List.mem_singleton.mp hp];exact ht
 rcases List.eq_nil_or_concat gs with rfl | ⟨gs0,g,rfl⟩
 ·rw [DE]
  have e0:ts = []:=List.length_eq_zero_iff.mp (by have:=o.len;simpa using this.symm)
  subst e0
  refine ⟨fun g hg=>?_,List.pairwise_singleton _ _,fun x y=>?_,fun g hg=>⟨t,by simp,by rw [List.mem_singleton.mp hg]⟩,by simp⟩
  ·rw [List.mem_singleton.mp hg];exact ⟨by simp,okt⟩
  ·rw [tm,bv,mem_cons]
   constructor
   ·rintro (⟨h1,h2 | h2⟩ | h)
    ·exact .inr ⟨h1,h2⟩
    ·exact (bX _ h2).elim
    ·exact (cZ _ _ h).elim
   ·rintro (⟨_,h,_⟩ | h)
    ·cases h
    ·exact .inl ⟨h.1,.inl h.2⟩
 ·rw [List.concat_eq_append] at *
  have up:=List.pairwise_append.mp o.up
  rw [nu]
  have glast:g.1 <= t.1:=by
   obtain ⟨s,hs,e⟩:=o.le g (by simp)
   have:=hb s hs
   lia
  by_cases h:g.1 = t.1
  ·rw [if_pos h]
   refine ⟨fun q hq=>?_,?_,fun x y=>?_,fun q hq=>?_,?_⟩
   ·rcases List.mem_append.mp hq with hq | hq
    ·exact o.ne q (List.mem_append_left _ hq)
    ·rw [List.mem_singleton.mp hq]
     refine ⟨by simp,fun p hp=>?_⟩
     rcases List.mem_append.mp hp with hp | hp
     ·exact (o.ne g (by simp)).2 p hp
     ·exact okt p hp
   ·refine List.pairwise_append.mpr ⟨up.1,List.pairwise_singleton _ _,fun a ha b hb=>?_⟩
    rw [List.mem_singleton.mp hb]
    exact up.2.2 a ha g (by simp)
   ·rw [tm,<- o.mem,iW,iW,bv,bv]
    dsimp only
    rw [mem_append,mem_cons]
    have n0:=cZ x y
    have n1:=bX x
    constructor
    ·rintro (k | ⟨k1,k2 | k2 | k2⟩ | k)
     ·exact .inl (.inl k)
     ·exact .inl (.inr (.inl ⟨k1,k2⟩))
     ·exact .inr ⟨by lia,k2⟩
     ·exact absurd k2 n1
     ·exact absurd k n0
    ·rintro ((k | ⟨k1,k2⟩ | k) | ⟨k1,k2⟩)
     ·exact .inl k
     ·exact .inr (.inl ⟨k1,.inl k2⟩)
     ·exact absurd k n0
     ·exact .inr (.inl ⟨by lia,.inr (.inl k2)⟩)
   ·rcases List.mem_append.mp hq with hq | hq
    ·obtain ⟨s,hs,e⟩:=o.le q (List.mem_append_left _ hq)
     exact ⟨s,List.mem_append_left _ hs,e⟩
    ·rw [List.mem_singleton.mp hq]
     exact ⟨t,by simp,h⟩
   ·have:=o.len
    simp only [List.map_append,List.sum_append,List.map_cons,List.map_nil,List.sum_cons,List.sum_nil,List.length_append,List.length_cons,List.length_nil] at this ⊢
    lia
  ·rw [if_neg h]
   refine ⟨fun q hq=>?_,?_,fun x y=>?_,fun q hq=>?_,?_⟩
   ·rcases List.mem_append.mp hq with hq | hq
    ·exact o.ne q hq
    ·rw [List.mem_singleton.mp hq];exact ⟨by simp,okt⟩
   ·refine List.pairwise_append.mpr ⟨o.up,List.pairwise_singleton _ _,fun a ha b hb'=>?_⟩
    rw [List.mem_singleton.mp hb']
    rcases List.mem_append.mp ha with ha | ha
    ·have:=up.2.2 a ha g (by simp)
     dsimp only
     lia
    ·rw [List.mem_singleton.mp ha];dsimp only;lia
   ·rw [tm,<- o.mem,iW,bv]
    dsimp only
    rw [mem_cons]
    have n0:=cZ x y
    have n1:=bX x
    constructor
    ·rintro (k | ⟨k1,k2 | k2⟩ | k)
     ·exact .inl k
     ·exact .inr ⟨k1,k2⟩
     ·exact absurd k2 n1
     ·exact absurd k n0
    ·rintro (k | ⟨k1,k2⟩)
     ·exact .inl k
     ·exact .inr (.inl ⟨k1,.inl k2⟩)
   ·rcases List.mem_append.mp hq with hq | hq
    ·obtain ⟨s,hs,e⟩:=o.le q hq
     exact ⟨s,List.mem_append_left _ hs,e⟩
    ·rw [List.mem_singleton.mp hq]
     exact ⟨t,by simp,rfl⟩
   ·have:=o.len
    simp only [List.map_append,List.sum_append,List.map_cons,List.map_nil,List.sum_cons,List.sum_nil,List.length_append,List.length_cons,List.length_nil] at this ⊢
    lia
theorem yM:∀ (post pre:List hZ),(∀ t ∈ pre ++ post,t.2.1 <= t.2.2) -> (pre ++ post).Pairwise (fun p q=>p.1 <= q.1) -> GOk (ft pre) pre -> GOk (ft (pre ++ post)) (pre ++ post)
 | [],pre,_,_,o=>by rw [List.append_nil];exact o
 | t :: post,pre,h1,h2,o=>by
  have e:pre ++ t :: post = (pre ++ [t]) ++ post:=by simp
  rw [e] at h1 h2 ⊢
  refine yM post (pre ++ [t]) h1 h2 ?_
  rw [sS]
  have h3:=List.pairwise_append.mp h2
  have h4:=List.pairwise_append.mp h3.1
  exact Fp o (h1 t (by simp)) fun s hs=>h4.2.2 s hs t (by simp)
theorem vH {ts:List hZ} (h1:∀ t ∈ ts,t.2.1 <= t.2.2) (h2:ts.Pairwise fun p q=>p.1 <= q.1):GOk (ft ts) ts:=
 yM ts [] h1 h2 ⟨fun _ h=>(by cases h),.nil,fun x y=>⟨fun h=>(cZ _ _ h).elim,fun ⟨_,h,_⟩=>by cases h⟩,fun _ h=>(by cases h),rfl⟩
noncomputable def qJ (ts:List hZ):iJ:=(ft (gD (ts.filter eD))).map fun g=>(g.1,vZ g.2)
theorem qU (ts:List hZ):GOk (ft (gD (ts.filter eD))) (gD (ts.filter eD)):=vH (fun t ht=>by
 have:=(iC _).mem_iff.mp ht
 simpa [eD] using (List.mem_filter.mp this).2) (Ab _)
theorem Go {ps:R} (h:ps ≠ []) (o:Ok ps):vZ ps ≠ []:=fun e=>by
 cases ps with
 | nil=>exact h rfl
 | cons p ps=>
  have:=((iQ (p :: ps)).2 p.1).mpr ((mem_cons ..).mpr (.inl ⟨Int.le_refl _,o p List.mem_cons_self⟩))
  rw [e] at this
  exact bX _ this
theorem zr (ts:List hZ):b8 (qJ ts) /\ ∀ x y,fc (qJ ts) x y ↔ kN ts x y:=by
 have o:=qU ts
 refine ⟨⟨fun q hq=>?_,?_⟩,fun x y=>?_⟩
 ·obtain ⟨g,hg,rfl⟩:=List.mem_map.mp hq
  obtain ⟨h1,h2⟩:=o.ne g hg
  exact ⟨(iQ g.2).1,Go h1 h2⟩
 ·unfold qJ
  rw [List.pairwise_map]
  exact o.up
 ·rw [<- Ag ts,<- ED (iC _),<- o.mem]
  constructor
  ·rintro ⟨q,hq,e,hm⟩
   obtain ⟨g,hg,rfl⟩:=List.mem_map.mp hq
   exact ⟨g,hg,e,((iQ g.2).2 x).mp hm⟩
  ·rintro ⟨g,hg,e,hm⟩
   exact ⟨_,List.mem_map.mpr ⟨g,hg,rfl⟩,e,((iQ g.2).2 x).mpr hm⟩
theorem tS {ts:List hZ} {p:iJ} (c:b8 p) (h:∀ x y,kN ts x y ↔ fc p x y):qJ ts = p:=
 xF (zr ts).1 c fun x y=>((zr ts).2 x y).trans (h x y)
mutual
theorem yI:∀ (n:Nat) (d:D),b9 n d = true -> kd d d = true
 | _,.non,_=>by simp [kd]
 | _,.bl _,_=>by simp [kd]
 | _,.int _,_=>by simp [kd]
 | _,.str _,_=>by simp [kd]
 | 0,.lst _,h=>by simp [b9] at h
 | n + 1,.lst l,h=>by rw [kd];exact eqDs_refl n l (by simpa [b9] using h)
 | 0,.tup _,h=>by simp [b9] at h
 | n + 1,.tup l,h=>by rw [kd];exact eqDs_refl n l (by simpa [b9] using h)
 | 0,.mtp _,h=>by simp [b9] at h
 | n + 1,.mtp l,h=>by rw [kd];exact eqDs_refl n l (by simpa [b9] using h)
 | n,.ty _,h=>by cases n <;> simp [b9] at h
 | n,.scr _,h=>by cases n <;> simp [b9] at h
 | n,.ins _ _ _,h=>by cases n <;> simp [b9] at h
 | n,.dic _,h=>by cases n <;> simp [b9] at h
theorem eqDs_refl:∀ (n:Nat) (l:List D),okDs n l = true -> eqDs l l = true
 | _,[],_=>by simp [eqDs]
 | n,d :: l,h=>by
  rw [okDs,Bool.and_eq_true] at h
  rw [eqDs,yI n d h.1,eqDs_refl n l h.2]
  rfl
end
theorem tL {α:Type} {n:Nat} {f:α -> D}:∀ (l:List α),(∀ a ∈ l,b9 n (f a) = true) -> okDs n (l.map f) = true
 | [],_=>by simp [okDs]
 | a :: l,h=>by rw [List.map_cons,okDs,h a List.mem_cons_self,tL l fun b hb=>h b (List.mem_cons_of_mem _ hb)];rfl
theorem gj {d:D} (neg:Bool) (h:b9 50 d = true):fN neg d d = some (.bl (!neg)):=by
 unfold fN
 rw [if_pos ⟨h,h⟩,yI 50 d h]
 cases neg <;> rfl
theorem ma (p:iJ):b9 50 (eH p) = true:=by
 rw [b9]
 refine tL p fun q _=>?_
 simp only [b9,okDs]
 rw [zi 46 q.2]
 rfl
noncomputable def Hg (g:Int × R):O:=.tup [.sh (.int g.1),.lst (g.2.map (O.sh ∘ gL))]
noncomputable def K7 (g:Int × R):D:=.tup [.int g.1,DS g.2]
theorem LB (g:Int × R):(Hg g).d = K7 g:=by simp [Hg,K7]
theorem Jd:∀ gs:iJ,O.ds (gs.map Hg) = gs.map K7
 | []=>by simp
 | g :: gs=>by rw [List.map_cons,Dc,LB,Jd gs];rfl
theorem DD (gs:iJ) (t:hZ):(kI gs t).length <= gs.length + 1:=by
 rcases List.eq_nil_or_concat gs with rfl | ⟨gs0,g,rfl⟩
 ·simp [kI]
 ·rw [List.concat_eq_append,nu]
  split <;> simp
theorem vG:∀ ts:List hZ,(ft ts).length <= ts.length:=by
 intro ts
 have key:∀ (l:List hZ) (gs:iJ),(l.foldl kI gs).length <= gs.length + l.length:=by
  intro l
  induction l with
  | nil=>intro gs;simp
  | cons t l ih=>
   intro gs
   have h1:=ih (kI gs t)
   have h2:=DD gs t
   rw [List.foldl_cons,List.length_cons]
   lia
 have:=key ts []
 unfold ft
 simpa using this
theorem xz (s0:Sl) (gs:iJ) (t:hZ) (h:gs.length <= 30000) (hg:∀ g ∈ gs,g.2.length <= 30000):cX [s0,.ow (.lst (gs.map Hg)),.sh (.int t.1),.sh (.int t.2.1),.sh (.int t.2.2)] = some (.nx [s0,.ow (.lst ((kI gs t).map Hg)),.sh (.int t.1),.sh (.int t.2.1),.sh (.int t.2.2)]):=by
 rcases List.eq_nil_or_concat gs with rfl | ⟨gs0,g,rfl⟩
 ·simp [cX,kI,Hg]
 ·rw [List.concat_eq_append] at *
  rw [nu]
  have hl:gs0.length + 1 <= 30000:=by simpa using h
  have hlim:gs0.length + 1 < cG:=gQ (by lia)
  have hg2:g.2.length < cG:=gQ (by have:=hg g (by simp);lia)
  by_cases hc:g.1 = t.1
  ·simp [cX,hc,hg2,Hg]
  ·simp [cX,hc,hlim,Hg]
theorem nF:∀ {l:List Nat} {n:Nat},n ∈ l -> n <= l.sum
 | [],_,h=>by cases h
 | m :: l,n,h=>by
  rw [List.sum_cons]
  rcases List.mem_cons.mp h with rfl | h
  ·lia
  ·have:=nF h;lia
theorem q9 (ts:List hZ) (h:ts.length < 30000):dn [.lst (ts.map c6)] = some (eH (qJ ts)):=by
 have hf:=List.length_filter_le eD ts
 have hs:=(iC (ts.filter eD)).length_eq
 have og:=qU ts
 have key:∃ ρ',bO (c7 (aJ (ao 2) (aJ (ao 3) (aJ (ao 4) cV)))) cX ((gD (ts.filter eD)).map c6) [.sh (.lst (ts.map c6)),.ow (.lst []),.un,.un,.un] = some (.nx ρ') /\ ∃ va vb vc,ρ' = [.sh (.lst (ts.map c6)),.ow (.lst ((ft (gD (ts.filter eD))).map Hg)),va,vb,vc]:=by
  refine vP c6 (fun pre ρ=>∃ va vb vc,ρ = [.sh (.lst (ts.map c6)),.ow (.lst ((ft pre).map Hg)),va,vb,vc]) _ _ ⟨_,_,_,rfl⟩ ?_
  rintro pre t post _ e ⟨va,vb,vc,rfl⟩
  have hp:pre.length <= 30000:=by
   have:=congrArg List.length e
   rw [List.length_append] at this
   lia
  have gl:=vG pre
  have gp:GOk (ft pre) pre:=by
   refine vH (fun s hs=>?_) ?_
   ·have:=(iC _).mem_iff.mp (show s ∈ gD (ts.filter eD) by rw [e];simp [hs])
    simpa [eD] using (List.mem_filter.mp this).2
   ·have:=Ab (ts.filter eD)
    rw [e] at this
    exact (List.pairwise_append.mp this).1
  have gg:∀ g ∈ ft pre,g.2.length <= 30000:=fun g hg=>by
   have h1:=gp.len
   have h2:g.2.length <= ((ft pre).map fun g=>g.2.length).sum:=nF (List.mem_map.mpr ⟨g,hg,rfl⟩)
   lia
  refine ⟨_,_,rfl,.inl (xz _ (ft pre) t (by lia) gg),.sh (.int t.1),.sh (.int t.2.1),.sh (.int t.2.2),by rw [sS]⟩
 obtain ⟨ρ',k1,va,vb,vc,rfl⟩:=key
 have hc:=AA ts
 have hb:=wL (ts.filter eD) (by lia)
 have hl:ts.length <= cG:=bH (by lia)
 have gl:=vG (gD (ts.filter eD))
 have hl2:(ft (gD (ts.filter eD))).length <= cG:=bH (by lia)
 have c2:eZ (c7 (aJ (ao 0) (aJ (ao 1) cV))) nS (bE (ag (aL 0) (ag (bB gy (ag (aL 1) az)) az))) [.un,.un] ((ft (gD (ts.filter eD))).map K7) = some ((qJ ts).map fI):=by
  rw [g9 K7 (fun g=>fI (g.1,vZ g.2))]
  ·unfold qJ
   rw [List.map_map]
   rfl
  ·intro g hg
   have h1:g.2.length < 30000:=by
    have h2:g.2.length <= ((ft (gD (ts.filter eD))).map fun g=>g.2.length).sum:=nF (List.mem_map.mpr ⟨g,hg,rfl⟩)
    have:=og.len
    lia
   have h3:=y6 g.2 h1
   simp [nJ,K7,h3]
 simp [dn,jq,gF,jX,hl,hc,hb,k1,frz,Jd,hl2,c2]
theorem jI {α:Type} (l:List α) (k:α -> Int) (enc:α -> D) (x:Int) (he:∀ a,cf (enc a) (.int 0) = some (.int (k a))) (hl:l.length <= 100000) (pw:l.Pairwise fun a b=>k a < k b) :
  ∃ n:Nat,n <= l.length /\ bz [.tup (l.map enc),.int x] = some (.int n) /\ ∀ (i:Nat) a,l[i]? = some a -> (k a <= x ↔ i < n):=by
 have lt:∀ (i j:Nat) a b,l[i]? = some a -> l[j]? = some b -> i < j -> k a < k b:=fun i j a b hi hj hij=>by
  obtain ⟨h1,rfl⟩:=List.getElem?_eq_some_iff.mp hi
  obtain ⟨h2,rfl⟩:=List.getElem?_eq_some_iff.mp hj
  exact List.pairwise_iff_getElem.mp pw i j h1 h2 hij
 obtain ⟨ρ',k1,n,v3,v4,rfl,h1,h2⟩:=BR (c:=eP) (m:=eO)
  (fun ρ=>∃ (lo hi:Nat) (v4:Sl),ρ = [.sh (.tup (l.map enc)),.sh (.int x),.sh (.int lo),.sh (.int hi),v4] /\ lo <= hi /\ hi <= l.length /\ (∀ (i:Nat) a,l[i]? = some a -> i < lo -> k a <= x) /\ ∀ (i:Nat) a,l[i]? = some a -> hi <= i -> x < k a)
  (fun ρ=>match ρ with | [_,_,.sh (.int lo),.sh (.int hi),_]=>(hi - lo).toNat | _=>0)
  (fun ρ=>∃ (n:Nat) (v3 v4:Sl),ρ = [.sh (.tup (l.map enc)),.sh (.int x),.sh (.int n),v3,v4] /\ n <= l.length /\ ∀ (i:Nat) a,l[i]? = some a -> (k a <= x ↔ i < n))
  (by
   rintro _ ⟨lo,hi,v4,rfl,h1,h2,h3,h4⟩
   by_cases hc:lo < hi
   ·right
    have hc':(lo:Int) < hi:=by lia
    obtain ⟨a,ha⟩:∃ a,l[(lo + hi) / 2]? = some a:=⟨_,List.getElem?_eq_getElem (by lia)⟩
    have em:((lo:Int) + hi) / 2 = (((lo + hi) / 2:Nat):Int):=by lia
    have ea:b7 (l.map enc) (((lo:Int) + hi) / 2) = some (enc a):=by rw [em];exact aN (by rw [List.getElem?_map,ha];rfl)
    refine ⟨by simp [eP,hc'],?_⟩
    by_cases ck:k a <= x
    ·refine ⟨[.sh (.tup (l.map enc)),.sh (.int x),.sh (.int (((lo + hi) / 2 + 1:Nat):Int)),.sh (.int hi),.sh (.int (((lo:Int) + hi) / 2))],?_,⟨(lo + hi) / 2 + 1,hi,_,rfl,by lia,h2,fun i b hb hi'=>?_,h4⟩,by dsimp only;lia⟩
     ·simp [eO,ea,he,ck]
     ·by_cases z:i = (lo + hi) / 2
      ·subst z;rw [ha] at hb;cases hb;exact ck
      ·have:=lt i _ b a hb ha (by lia);lia
    ·refine ⟨[.sh (.tup (l.map enc)),.sh (.int x),.sh (.int lo),.sh (.int (((lo + hi) / 2:Nat):Int)),.sh (.int (((lo:Int) + hi) / 2))],?_,⟨lo,(lo + hi) / 2,_,rfl,by lia,by lia,h3,fun i b hb hi'=>?_⟩,by dsimp only;lia⟩
     ·simp [eO,ea,he,ck]
     ·by_cases z:i = (lo + hi) / 2
      ·subst z;rw [ha] at hb;cases hb;lia
      ·have:=lt _ i a b ha hb (by lia);lia
   ·left
    have hc':¬ (lo:Int) < hi:=by lia
    have e:lo = hi:=by lia
    subst e
    refine ⟨by simp [eP],lo,_,_,rfl,h2,fun i a ha=>⟨fun hk=>?_,fun hi'=>h3 i a ha hi'⟩⟩
    by_cases z:i < lo
    ·exact z
    ·have:=h4 i a ha (by lia);lia)
  [.sh (.tup (l.map enc)),.sh (.int x),.sh (.int 0),.sh (.int l.length),.un]
  ⟨0,l.length,_,rfl,Nat.zero_le _,Nat.le_refl _,fun i a _ h=>absurd h (Nat.not_lt_zero _),fun i a ha h=>by have:=(List.getElem?_eq_some_iff.mp ha).1;lia⟩
 refine ⟨n,h1,?_,h2⟩
 simp [bz,ir,gF,jb,k1]
theorem E9 {r:R} (c:cH r) {i j:Nat} {p q:Int × Int} (hi:r[i]? = some p) (hj:r[j]? = some q) (hij:i < j):p.2 + 2 <= q.1:=by
 obtain ⟨h1,rfl⟩:=List.getElem?_eq_some_iff.mp hi
 obtain ⟨h2,rfl⟩:=List.getElem?_eq_some_iff.mp hj
 exact List.pairwise_iff_getElem.mp c.2 i j h1 h2 hij
theorem Fa {r:R} (c:cH r):r.Pairwise fun a b=>a.1 < b.1:=by
 refine List.Pairwise.imp_of_mem ?_ c.2
 intro a b ha _ hab
 have:=c.1 a ha
 lia
theorem xm (r:R) (x:Int) (c:cH r) (h:r.length <= 100000):eh [Eo r,.int x] = some (.bl (rd r x)):=by
 obtain ⟨n,h1,h2,h3⟩:=jI r (·.1) gL x (fun a=>by simp) h (Fa c)
 by_cases hn:n = 0
 ·subst hn
  have e:rd r x = false:=by
   rw [Bool.eq_false_iff]
   intro hm
   obtain ⟨q,hq,h4,h5⟩:=(lv r x).mp hm
   obtain ⟨j,ej⟩:=List.getElem?_of_mem hq
   exact absurd ((h3 j q ej).mp h4) (Nat.not_lt_zero _)
  simp at h2
  simp [eh,ko,gF,lS,h2,e]
 ·obtain ⟨p,hp⟩:∃ p,r[n - 1]? = some p:=⟨_,List.getElem?_eq_getElem (by lia)⟩
  have en:(n:Int) - 1 = ((n - 1:Nat):Int):=by lia
  have ea:b7 (r.map gL) ((n:Int) - 1) = some (gL p):=by rw [en];exact Ln hp
  have hn':(0:Int) < n:=by lia
  have hn2:0 < n:=by lia
  have e:rd r x = decide (x <= p.2):=by
   rw [Bool.eq_iff_iff,lv,decide_eq_true_eq]
   constructor
   ·rintro ⟨q,hq,h4,h5⟩
    obtain ⟨j,ej⟩:=List.getElem?_of_mem hq
    have hj:=(h3 j q ej).mp h4
    by_cases z:j = n - 1
    ·subst z;rw [hp] at ej;cases ej;exact h5
    ·have:=E9 c ej hp (by lia)
     have:=(h3 _ _ hp).mpr (by lia)
     lia
   ·intro hx
    exact ⟨p,List.mem_of_getElem? hp,(h3 _ _ hp).mpr (by lia),hx⟩
  simp [eh,ko,gF,lS,h2,hn,hn',hn2,ea,e]
noncomputable def dY (p:iJ) (y:Int):R:=match p.find? fun q=>decide (q.1 = y) with | some q=>q.2 | none=>[]
theorem oW {p:iJ} (c:b8 p) {q:Int × R} (hq:q ∈ p):dY p q.1 = q.2:=by
 unfold dY
 cases e:p.find? fun s=>decide (s.1 = q.1) with
 | none=>
  have:=List.find?_eq_none.mp e q hq
  simp at this
 | some s=>
  have h1:=List.find?_some e
  have h2:=List.mem_of_find?_eq_some e
  have h3:s.1 = q.1:=of_decide_eq_true h1
  have:s = q:=by
   obtain ⟨i,hi⟩:=List.getElem?_of_mem h2
   obtain ⟨j,hj⟩:=List.getElem?_of_mem hq
   obtain ⟨li,ei⟩:=List.getElem?_eq_some_iff.mp hi
   obtain ⟨lj,ej⟩:=List.getElem?_eq_some_iff.mp hj
   have pw:=List.pairwise_iff_getElem.mp c.2
   by_cases z:i < j
   ·have:=pw i j li lj z;rw [ei,ej] at this;lia
   ·by_cases z2:j < i
    ·have:=pw j i lj li z2;rw [ei,ej] at this;lia
    ·have:i = j:=by lia
     subst this
     rw [hi] at hj;exact Option.some.inj hj
  rw [this]
theorem kv {p:iJ} {y:Int} (h:∀ q ∈ p,q.1 ≠ y):dY p y = []:=by
 unfold dY
 have:p.find? (fun q=>decide (q.1 = y)) = none:=List.find?_eq_none.mpr fun q hq=>by simpa using h q hq
 rw [this]
theorem zS {p:iJ} (c:b8 p) (y:Int):cH (dY p y):=by
 by_cases h:∃ q ∈ p,q.1 = y
 ·obtain ⟨q,hq,rfl⟩:=h
  rw [oW c hq];exact (c.1 q hq).1
 ·rw [kv fun q hq e=>h ⟨q,hq,e⟩];exact g8
theorem p6 {p:iJ} (c:b8 p) (x y:Int):iI (dY p y) x ↔ fc p x y:=by
 constructor
 ·intro h
  by_cases k:∃ q ∈ p,q.1 = y
  ·obtain ⟨q,hq,rfl⟩:=k
   rw [oW c hq] at h
   exact ⟨q,hq,rfl,h⟩
  ·rw [kv fun q hq e=>k ⟨q,hq,e⟩] at h
   exact (bX _ h).elim
 ·rintro ⟨q,hq,rfl,h⟩
  rw [oW c hq];exact h
theorem y3 (p:iJ) (y:Int) (c:b8 p) (h:p.length <= 100000):eJ [eH p,.int y] = some (Eo (dY p y)):=by
 obtain ⟨n,h1,h2,h3⟩:=jI p (·.1) fI y (fun a=>by simp) h c.2
 by_cases hn:n = 0
 ·subst hn
  have e:dY p y = []:=kv fun q hq e=>by
   obtain ⟨j,ej⟩:=List.getElem?_of_mem hq
   exact absurd ((h3 j q ej).mp (by lia)) (Nat.not_lt_zero _)
  simp at h2
  simp [eJ,jJ,gF,kS,h2,e]
 ·obtain ⟨q,hq⟩:∃ q,p[n - 1]? = some q:=⟨_,List.getElem?_eq_getElem (by lia)⟩
  have en:(n:Int) - 1 = ((n - 1:Nat):Int):=by lia
  have ea:b7 (p.map fI) ((n:Int) - 1) = some (fI q):=by rw [en];exact aN (by rw [List.getElem?_map,hq];rfl)
  have hn':(0:Int) < n:=by lia
  have hn2:0 < n:=by lia
  by_cases hy:q.1 = y
  ·have e:dY p y = q.2:=by rw [<- hy];exact oW c (List.mem_of_getElem? hq)
   simp [eJ,jJ,gF,kS,h2,hn,hn',hn2,ea,hy,e]
  ·have e:dY p y = []:=kv fun s hs e=>by
    obtain ⟨j,ej⟩:=List.getElem?_of_mem hs
    have hj:=(h3 j s ej).mp (by lia)
    by_cases z:j = n - 1
    ·subst z;rw [hq] at ej;cases ej;exact hy e
    ·obtain ⟨l1,e1⟩:=List.getElem?_eq_some_iff.mp ej
     obtain ⟨l2,e2⟩:=List.getElem?_eq_some_iff.mp hq
     have:=List.pairwise_iff_getElem.mp c.2 j (n - 1) l1 l2 (by lia)
     rw [e1,e2] at this
     have:=(h3 _ _ hq).mpr (by lia)
     lia
   simp [eJ,jJ,gF,kS,h2,hn,hn',hn2,ea,hy,e]
end P
namespace P
open PySem L2 M PySem.NumText
noncomputable abbrev T9 (l:List Nat):Str:=⟨l.toArray⟩
theorem uk (l:List Nat):(T9 l).length = l.length:=rfl
theorem CY (l:List Nat):(T9 l).cps.toList = l:=rfl
theorem qq {x:Str} {l:List Nat} (h:x.cps.toList = l):x = T9 l:=by cases x;subst h;rfl
theorem KM {a b:List Nat} (h:T9 a = T9 b):a = b:=by
 have:=congrArg (fun x:Str=>x.cps.toList) h
 exact this
theorem uj (a b:List Nat):T9 a ++ T9 b = T9 (a ++ b):=qq (by
 show (a.toArray ++ b.toArray).toList = a ++ b
 simp)
theorem Pm {l:List Nat} (h:∀ c ∈ l,c < 1114112):PyData.strOk (T9 l) = true:=by
 unfold PyData.strOk
 rw [Array.all_eq_true']
 intro c hc
 exact decide_eq_true (h c (by simpa using hc))
end P
namespace P
open PySem L2 M PySem.NumText StrLaws
noncomputable def jn (y:List Nat):List (List Nat) -> List Nat
 | []=>[]
 | [p]=>p
 | p :: q :: r=>p ++ (y ++ jn y (q :: r))
theorem Aw (l y:List Nat) (k:Nat):StrLaws.At (T9 l) (T9 y) (T9 l).length k ↔ k + y.length <= l.length /\ (l.drop k).take y.length = y:=by
 unfold StrLaws.At
 rw [StrLaws.subAt_eq,beq_iff_eq]
 exact Iff.rfl
theorem wJ {l y:List Nat} {c k:Nat} (h:StrLaws.At (T9 l) (T9 (c :: y)) (T9 l).length k):l[k]? = some c:=by
 obtain ⟨h1,h2⟩:=(Aw l (c :: y) k).mp h
 have e:(l.drop k)[0]? = some c:=by
  have:((l.drop k).take (c :: y).length)[0]? = some c:=by rw [h2];rfl
  rwa [List.getElem?_take_of_lt (by rw [List.length_cons];lia)] at this
 rwa [List.getElem?_drop,Nat.add_zero] at e
theorem tQ (c:Nat) (y:List Nat) (l:List Nat):∀ (parts:List (List Nat)) (a:Nat) (cuts:List Nat) (f:Nat),parts ≠ [] -> (∀ p ∈ parts,c ∉ p) -> a <= l.length -> l.drop a = jn (c :: y) parts ->
  ChainG (T9 l) (T9 (c :: y)) (T9 l).length a cuts f -> (∀ k,f <= k -> ¬ StrLaws.At (T9 l) (T9 (c :: y)) (T9 l).length k) -> partsFrom (T9 l) (T9 (c :: y)).length a cuts = parts.map T9
 | [],_,_,_,h,_,_,_,_,_=>absurd rfl h
 | [p],a,cuts,f,_,hp,ha,e,hc,hf=>by
  have e:l.drop a = p:=e
  have nc:∀ k,a <= k -> l[k]? ≠ some c:=fun k hk z=>by
   have:(l.drop a)[k - a]? = some c:=by rw [List.getElem?_drop,show a + (k - a) = k by lia];exact z
   rw [e] at this
   exact hp p List.mem_cons_self (List.mem_of_getElem? this)
  cases cuts with
  | nil=>
   show [Builtin.Str.strSub (T9 l) a (T9 l).length] = [T9 p]
   congr 1
   refine qq ?_
   rw [StrLaws.strSub_toList]
   show (l.drop a).take (l.length - a) = p
   rw [e]
   exact List.take_of_length_le (by rw [<- e,List.length_drop];exact Nat.le_refl _)
  | cons d cs=>
   exact absurd (wJ hc.2.1) (nc d hc.1)
 | p :: q :: r,a,cuts,f,_,hp,ha,e,hc,hf=>by
  have e:l.drop a = p ++ ((c :: y) ++ jn (c :: y) (q :: r)):=e
  have len:l.length = a + p.length + (c :: y).length + (jn (c :: y) (q :: r)).length:=by
   have:=congrArg List.length e
   rw [List.length_drop,List.length_append,List.length_append] at this
   lia
  have dr:l.drop (a + p.length) = (c :: y) ++ jn (c :: y) (q :: r):=by
   rw [<- List.drop_drop,e,List.drop_left]
  have hat:StrLaws.At (T9 l) (T9 (c :: y)) (T9 l).length (a + p.length):=(Aw l (c :: y) _).mpr ⟨by lia,by rw [dr,List.take_left]⟩
  have np:∀ k,a <= k -> k < a + p.length -> l[k]? ≠ some c:=fun k h1 h2 z=>by
   have:(l.drop a)[k - a]? = some c:=by rw [List.getElem?_drop,show a + (k - a) = k by lia];exact z
   rw [e,List.getElem?_append_left (by lia)] at this
   exact hp p List.mem_cons_self (List.mem_of_getElem? this)
  cases cuts with
  | nil=>
   have:f = a:=hc
   exact absurd hat (hf _ (by lia))
  | cons d cs=>
   obtain ⟨h1,h2,h3,h4⟩:=hc
   have hd:d = a + p.length:=by
    have k1:¬ a + p.length < d:=fun z=>h3 _ (by lia) z hat
    have k2:¬ d < a + p.length:=fun z=>np d h1 z (wJ h2)
    lia
   subst hd
   have ih:=tQ c y l (q :: r) (a + p.length + (T9 (c :: y)).length) cs f (by simp) (fun x hx=>hp x (List.mem_cons_of_mem _ hx)) (by rw [uk];lia) (by
    rw [uk,<- List.drop_drop,dr,List.drop_left]) h4 hf
   show Builtin.Str.strSub (T9 l) a (a + p.length) :: partsFrom (T9 l) _ _ cs = T9 p :: (q :: r).map T9
   rw [ih]
   congr 1
   refine qq ?_
   rw [StrLaws.strSub_toList]
   show (l.drop a).take (a + p.length - a) = p
   rw [e,show a + p.length - a = p.length by lia,List.take_left]
theorem LF {y:List Nat} (h:∀ d ∈ y,d < 256):Builtin.Str.strKind (T9 y) = 1:=by
 unfold Builtin.Str.strKind
 rw [if_pos]
 rw [Array.all_eq_true']
 intro d hd
 exact decide_eq_true (h d (by simpa using hd))
theorem HJ (x:Str):1 <= Builtin.Str.strKind x:=by
 unfold Builtin.Str.strKind
 split
 ·exact Nat.le_refl _
 ·split <;> decide
theorem GP (c:Nat) (y:List Nat) (hk:∀ d ∈ c :: y,d < 256) (parts:List (List Nat)) (hne:parts ≠ []) (hp:∀ p ∈ parts,c ∉ p):Txt.split (T9 (jn (c :: y) parts)) (T9 (c :: y)) = parts.map T9:=by
 obtain ⟨f,hc,hf⟩:=StrLaws.occ_tight (T9 (jn (c :: y) parts)) (T9 (c :: y)) (by rw [uk,List.length_cons];lia)
 have key:=tQ c y (jn (c :: y) parts) parts 0 _ f hne hp (Nat.zero_le _) rfl hc hf
 unfold Txt.split
 split
 ·rename_i h
  rw [Bool.or_eq_true,decide_eq_true_eq,decide_eq_true_eq] at h
  have h:(T9 (jn (c :: y) parts)).length < (T9 (c :: y)).length:=h.resolve_right (by rw [LF hk];have:=HJ (T9 (jn (c :: y) parts));lia)
  cases q:Builtin.Str.occurrences (T9 (jn (c :: y) parts)) (T9 (c :: y)) 0 (T9 (jn (c :: y) parts)).length ((T9 (jn (c :: y) parts)).length + 1) with
  | nil=>
   rw [q] at key
   rw [<- key]
   show _ = [Builtin.Str.strSub _ 0 _]
   rw [StrLaws.sub_whole]
  | cons d cs=>
   rw [q] at hc
   have:=hc.2.1.1
   lia
 ·split
  ·rename_i h
   have q:Builtin.Str.occurrences (T9 (jn (c :: y) parts)) (T9 (c :: y)) 0 (T9 (jn (c :: y) parts)).length ((T9 (jn (c :: y) parts)).length + 1) = []:=List.isEmpty_iff.mp h
   rw [q] at key
   rw [<- key]
   show _ = [Builtin.Str.strSub _ 0 _]
   rw [StrLaws.sub_whole]
  ·rw [StrLaws.partsBetween_eq]
   exact key
theorem xh (y:List Nat):∀ parts:List (List Nat),Txt.join (T9 y) (parts.map T9) = T9 (jn y parts)
 | []=>by show Builtin.Str.glued (T9 y) [] = _;rw [StrLaws.glued_eq_join];rfl
 | [p]=>by show Builtin.Str.glued (T9 y) [T9 p] = _;rw [StrLaws.glued_eq_join];rfl
 | p :: q :: r=>by
  have ih:=xh y (q :: r)
  unfold Txt.join at ih ⊢
  rw [StrLaws.glued_eq_join] at ih ⊢
  show T9 p ++ T9 y ++ Str.join (T9 y) ((q :: r).map T9) = _
  rw [ih,uj,uj,List.append_assoc]
  rfl
noncomputable def iH (c:Nat):List Nat -> List (List Nat)
 | []=>[[]]
 | d :: l=>if d = c then [] :: iH c l else match iH c l with | p :: r=>(d :: p) :: r | []=>[[d]]
theorem xQ (c:Nat):∀ l,iH c l ≠ []
 | []=>by simp [iH]
 | d :: l=>by
  rw [iH]
  split
  ·simp
  ·split <;> simp
theorem jP {c d:Nat} (h:d ≠ c) (l:List Nat):∃ p r,iH c l = p :: r /\ iH c (d :: l) = (d :: p) :: r:=by
 cases q:iH c l with
 | nil=>exact absurd q (xQ c l)
 | cons p r=>exact ⟨p,r,rfl,by rw [iH,if_neg h,q]⟩
theorem BD (c:Nat):∀ l,∀ p ∈ iH c l,c ∉ p
 | []=>fun p hp=>by simp [iH] at hp;subst hp;simp
 | d :: l=>fun p hp=>by
  have ih:=BD c l
  by_cases h:d = c
  ·rw [iH,if_pos h] at hp
   rcases List.mem_cons.mp hp with rfl | hp
   ·simp
   ·exact ih p hp
  ·obtain ⟨q,r,e1,e2⟩:=jP h l
   rw [e2] at hp
   rw [e1] at ih
   rcases List.mem_cons.mp hp with rfl | hp
   ·intro hc
    rcases List.mem_cons.mp hc with e | hc
    ·exact h e.symm
    ·exact ih q List.mem_cons_self hc
   ·exact ih p (List.mem_cons_of_mem _ hp)
theorem yR (y:List Nat) {r:List (List Nat)} (h:r ≠ []):jn y ([] :: r) = y ++ jn y r:=by
 cases r with
 | nil=>exact absurd rfl h
 | cons a r=>rfl
theorem HD (y p:List Nat) (d:Nat) (r:List (List Nat)):jn y ((d :: p) :: r) = d :: jn y (p :: r):=by
 cases r <;> rfl
theorem BC (c:Nat):∀ l,jn [c] (iH c l) = l
 | []=>rfl
 | d :: l=>by
  have ih:=BC c l
  by_cases h:d = c
  ·rw [iH,if_pos h,yR _ (xQ c l),ih,h];rfl
  ·obtain ⟨q,r,e1,e2⟩:=jP h l
   rw [e2,HD,<- e1,ih]
theorem uh (c:Nat):∀ l,(iH c l).flatten = l.filter fun d=>decide (d ≠ c)
 | []=>rfl
 | d :: l=>by
  have ih:=uh c l
  by_cases h:d = c
  ·rw [iH,if_pos h,List.flatten_cons,ih,List.filter_cons];simp [h]
  ·obtain ⟨q,r,e1,e2⟩:=jP h l
   rw [e1] at ih
   rw [e2,List.filter_cons,<- ih];simp [h]
theorem xf:∀ ps:List (List Nat),jn [] ps = ps.flatten
 | []=>rfl
 | [p]=>by simp [jn]
 | p :: q :: r=>by
  show p ++ ([] ++ jn [] (q :: r)) = _
  rw [xf (q :: r)];simp
theorem GO (c:Nat) (hc:c < 256) (l:List Nat):Txt.split (T9 l) (T9 [c]) = (iH c l).map T9:=by
 have:=GP c [] (fun d hd=>by simp at hd;lia) (iH c l) (xQ c l) (BD c l)
 rwa [BC] at this
theorem Ik (c:Nat) (l:List Nat):Txt.replace (T9 l) (T9 [c]) (T9 []) = T9 (l.filter fun d=>decide (d ≠ c)):=by
 obtain ⟨f,h1,hf⟩:=StrLaws.occ_tight (T9 l) (T9 [c]) (by rw [uk,List.length_cons];lia)
 have key:=tQ c [] l (iH c l) 0 _ f (xQ c l) (BD c l) (Nat.zero_le _) (by rw [List.drop_zero,BC]) h1 hf
 unfold Txt.replace
 split
 ·rename_i h
  have q:Builtin.Str.occurrences (T9 l) (T9 [c]) 0 (T9 l).length ((T9 l).length + 1) = []:=by
   rcases Bool.or_eq_true_iff.mp h with h | h
   ·exact List.isEmpty_iff.mp h
   ·exact absurd (show ((1:Nat) == 0 && (0:Nat) == 0) = true from h) (by decide)
  rw [q] at key
  have k2:[Builtin.Str.strSub (T9 l) 0 (T9 l).length] = (iH c l).map T9:=key
  rw [StrLaws.sub_whole] at k2
  rw [<- uh]
  match hs:iH c l,k2 with
  | [p],k2=>
   have e:T9 l = T9 p:=by simpa using k2
   rw [e];simp
 ·rw [StrLaws.partsBetween_eq]
  have k3:partsFrom (T9 l) (T9 [c]).length 0 (Builtin.Str.occurrences (T9 l) (T9 [c]) 0 (T9 l).length ((T9 l).length + 1)) = (iH c l).map T9:=key
  rw [k3]
  have:=xh [] (iH c l)
  unfold Txt.join at this
  rw [this,xf,uh]
end P
namespace P
open PySem L2 M PySem.NumText StrLaws Rw
noncomputable def xU (y:Int):Int -> List (List Nat) -> List hZ
 | _,[]=>[]
 | b,p :: r=>(if p = [] then [] else [(y,b,b + p.length - 1)]) ++ xU y (b + p.length + 1) r
theorem rK (y:Int):∀ (ps:List (List Nat)) (b:Int),(xU y b ps).length <= ps.length
 | [],_=>Nat.le_refl _
 | p :: r,b=>by
  have:=rK y r (b + p.length + 1)
  rw [xU,List.length_append,List.length_cons]
  split <;> simp <;> lia
def qX (l:List Nat):Prop:=(∀ c ∈ l,c < 256) /\ l.length <= 20
theorem Au {l:List Nat} (h:qX l):PyData.strOk (T9 l) = true:=Pm fun c hc=>Nat.lt_trans (h.1 c hc) (by decide)
theorem B1:qX []:=⟨fun _ h=>absurd h List.not_mem_nil,Nat.zero_le _⟩
theorem rm {c:Nat} (h:c < 256):qX [c]:=⟨fun d hd=>by rw [List.mem_singleton.mp hd];exact h,Nat.le_of_ble_eq_true rfl⟩
theorem KL (a b:List Nat):(T9 a == T9 b) = decide (a = b):=by
 by_cases h:a = b
 ·subst h;simp
 ·rw [decide_eq_false h,beq_eq_false_iff_ne]
  exact fun e=>h (KM e)
theorem wW (n:Bool) {a b:List Nat} (ha:qX a) (hb:qX b):fN n (.str (T9 a)) (.str (T9 b)) = some (.bl (n != decide (a = b))):=by
 unfold fN
 rw [if_pos ⟨by rw [b9];exact Au ha,by rw [b9];exact Au hb⟩]
 simp only [kd,KL]
 cases n <;> cases decide (a = b) <;> rfl
theorem len_str {a:List Nat} (ha:qX a):gP [.str (T9 a)] = some (.int a.length):=by
 show (if a.length <= cG then some (D.int a.length) else none) = _
 rw [if_pos (Nat.le_trans ha.2 (bH (by decide)))]
theorem oH:Str.ofString "" = T9 []:=rfl
theorem oo:Str.ofString "." = T9 [46]:=rfl
theorem f9:Str.ofString "#" = T9 [35]:=rfl
theorem Ip (t sx:Sl) (y b:Int) (acc:List hZ) (p:List Nat) (h:acc.length < 1000) (hp:qX p) :
  cg [t,sx,.sh (.int y),.ow (.lst (acc.map (O.sh ∘ c6))),.sh (.int b),.sh (.str (T9 p))] =
   some (.nx [t,sx,.sh (.int y),.ow (.lst ((acc ++ (if p = [] then [] else [(y,b,b + p.length - 1)])).map (O.sh ∘ c6))),.sh (.int (b + p.length + 1)),.sh (.str (T9 p))]):=by
 have hl:acc.length < cG:=gQ (by lia)
 have h3:(3:Nat) <= cG:=bH (by decide)
 have e:=wW true hp B1
 have l:=len_str hp
 by_cases hq:p = []
 ·subst hq
  simp [cg,e,l,oH,yz,dI]
 ·simp [cg,e,l,oH,hq,hl,h3,yz,dI,Int.add_assoc]
theorem CK (t sx:Sl) (y:Int):∀ (ps:List (List Nat)) (b:Int) (acc:List hZ) (v:Sl),acc.length + ps.length <= 1000 -> (∀ p ∈ ps,qX p) ->
  ∃ b' v',bO (ao 5) cg (ps.map fun p=>.str (T9 p)) [t,sx,.sh (.int y),.ow (.lst (acc.map (O.sh ∘ c6))),.sh (.int b),v] =
   some (.nx [t,sx,.sh (.int y),.ow (.lst ((acc ++ xU y b ps).map (O.sh ∘ c6))),b',v'])
 | [],b,acc,v,_,_=>⟨.sh (.int b),v,by simp [bO,xU]⟩
 | p :: ps,b,acc,v,h,hp=>by
  rw [List.length_cons] at h
  obtain ⟨b',v',e⟩:=CK t sx y ps (b + p.length + 1) (acc ++ (if p = [] then [] else [(y,b,b + p.length - 1)])) (.sh (.str (T9 p))) (by
   rw [List.length_append];split <;> simp <;> lia) fun q hq=>hp q (List.mem_cons_of_mem _ hq)
  refine ⟨b',v',?_⟩
  rw [List.map_cons,bO]
  have s:=Ip t sx y b acc p (by lia) (hp p List.mem_cons_self)
  simp only [ao,Option.bind_some]
  rw [show List.set [t,sx,Sl.sh (.int y),.ow (.lst (acc.map (O.sh ∘ c6))),.sh (.int b),v] 5 (.sh (.str (T9 p))) = [t,sx,.sh (.int y),.ow (.lst (acc.map (O.sh ∘ c6))),.sh (.int b),.sh (.str (T9 p))] from rfl,s]
  simp only []
  rw [e,xU,List.append_assoc]
def Sg (l:List Nat):Prop:=(∀ d ∈ l,d = 35 \/ d = 46) /\ l.length <= 20
theorem kA {l:List Nat} (h:Sg l):qX l:=⟨fun c hc=>by rcases h.1 c hc with e | e <;> lia,h.2⟩
theorem IG {c:Nat}:∀ {l:List Nat},qX l -> ∀ p ∈ iH c l,qX p:=fun {l} h p hp=>by
 have key:∀ l:List Nat,∀ p ∈ iH c l,(∀ d ∈ p,d ∈ l) /\ p.length <= l.length:=by
  intro l
  induction l with
  | nil=>intro p hp;simp [iH] at hp;subst hp;simp
  | cons d l ih=>
   intro p hp
   by_cases h:d = c
   ·rw [iH,if_pos h] at hp
    rcases List.mem_cons.mp hp with rfl | hp
    ·simp
    ·exact ⟨fun e he=>List.mem_cons_of_mem _ ((ih p hp).1 e he),Nat.le_succ_of_le (ih p hp).2⟩
   ·obtain ⟨q,r,e1,e2⟩:=jP h l
    rw [e2] at hp
    rw [e1] at ih
    rcases List.mem_cons.mp hp with rfl | hp
    ·refine ⟨fun e he=>?_,Nat.succ_le_succ (ih q List.mem_cons_self).2⟩
     rcases List.mem_cons.mp he with rfl | he
     ·exact List.mem_cons_self
     ·exact List.mem_cons_of_mem _ ((ih q List.mem_cons_self).1 e he)
    ·have:=ih p (List.mem_cons_of_mem _ hp)
     exact ⟨fun e he=>List.mem_cons_of_mem _ (this.1 e he),Nat.le_succ_of_le this.2⟩
 exact ⟨fun d hd=>h.1 d ((key l p hp).1 d hd),Nat.le_trans (key l p hp).2 h.2⟩
theorem o9 (c:Nat):∀ l:List Nat,(iH c l).length <= l.length + 1
 | []=>Nat.le_refl _
 | d :: l=>by
  have ih:=o9 c l
  by_cases h:d = c
  ·rw [iH,if_pos h,List.length_cons,List.length_cons];lia
  ·obtain ⟨q,r,e1,e2⟩:=jP h l
   rw [e2]
   rw [e1] at ih
   simp at ih ⊢
   lia
theorem yA (c:Nat) {l:List Nat} (h:l.length <= 20):Ff (T9 [c]) (T9 []) (.str (T9 l)) = some (.str (T9 (l.filter fun d=>!decide (d = c)))):=by
 show (if l.length <= 1000 then some (D.str (Txt.replace (T9 l) (T9 [c]) (T9 []))) else none) = _
 rw [if_pos (by lia),Ik]
 simp
noncomputable def eA (l:List Nat):List Nat:=(l.filter fun d=>!decide (d = 35)).filter fun d=>!decide (d = 46)
theorem CJ {l:List Nat} (h:Sg l):eA l = []:=by
 unfold eA
 rw [List.filter_filter,List.filter_eq_nil_iff]
 intro d hd
 rcases h.1 d hd with e | e <;> simp [e]
theorem Gn {l:List Nat} (h:qX l):qX (eA l):=⟨fun c hc=>h.1 c (List.mem_filter.mp (List.mem_filter.mp hc).1).1,Nat.le_trans (List.length_filter_le _ _) (Nat.le_trans (List.length_filter_le _ _) h.2)⟩
theorem t7 {l:List Nat} (h:qX l) (r:M.Env):xB (aF (fN true) (ur (Str.ofString ".") (Str.ofString "") (ur (Str.ofString "#") (Str.ofString "") (aj 0))) (xC (.str (Str.ofString "")))) (.sh (.str (T9 l)) :: r) = some (!decide (eA l = [])):=by
 have e1:=yA 35 h.2
 have e2:=yA 46 (l:=l.filter fun d=>!decide (d = 35)) (Nat.le_trans (List.length_filter_le _ _) h.2)
 have e3:=wW true (Gn h) B1
 have e4:(l.filter fun d=>!decide (d = 35)).filter (fun d=>!decide (d = 46)) = eA l:=rfl
 rw [e4] at e2
 rw [oH,oo,f9]
 generalize eA l = z at *
 simp [e1,e2,e3]
theorem EA {l:List Nat} (h:l.length <= 20):wR (.str (T9 l)) (.str (T9 [46])) = some (.lst ((iH 46 l).map fun p=>D.str (T9 p))):=by
 have e:=GO 46 (by decide) l
 have h2:l.length + 2 <= cG:=bH (by lia)
 simp [wR,e,Str.length,h2]
theorem gJ {l:List Nat} (h:Sg l) (x y:Int):aY [.str (T9 l),.int x,.int y] = some (.lst ((xU y x (iH 46 l)).map c6)):=by
 obtain ⟨b',v',e⟩:=CK (.sh (.str (T9 l))) (.sh (.int x)) y (iH 46 l) x [] .un (by have:=o9 46 l;have:=h.2;simp;lia) (IG (kA h))
 have c:=t7 (kA h) [.sh (.int x),.sh (.int y),.un,.un,.un]
 rw [CJ h] at c
 have s:=EA h.2
 simp only [List.map_nil,List.nil_append] at e
 unfold aY fy gF fL
 rw [oo] at c ⊢
 simp at c
 simp [c,s,e]
theorem GZ (y X Y:Int):∀ (l:List Nat) (x:Int),(∀ d ∈ l,d = 35 \/ d = 46) -> (kN (xU y x (iH 46 l)) X Y ↔ Y = y /\ ∃ j:Nat,l[j]? = some 35 /\ X = x + j)
 | [],x,_=>by
  constructor
  ·rintro ⟨t,ht,_⟩
   simp [iH,xU] at ht
  ·rintro ⟨_,j,h,_⟩
   simp at h
 | d :: l,x,h=>by
  have ih:=GZ y X Y l (x + 1) fun e he=>h e (List.mem_cons_of_mem _ he)
  have sh:(∃ j:Nat,(d :: l)[j]? = some 35 /\ X = x + j) ↔ (d = 35 /\ X = x) \/ ∃ j:Nat,l[j]? = some 35 /\ X = x + 1 + j:=by
   constructor
   ·rintro ⟨j,h1,h2⟩
    cases j with
    | zero=>exact .inl ⟨by simpa using h1,by lia⟩
    | succ j=>exact .inr ⟨j,by simpa using h1,by lia⟩
   ·rintro (⟨h1,h2⟩ | ⟨j,h1,h2⟩)
    ·exact ⟨0,by simp [h1],by lia⟩
    ·exact ⟨j + 1,by simpa using h1,by lia⟩
  rw [sh]
  by_cases hd:d = 46
  ·rw [iH,if_pos hd,xU]
   simp only [if_pos,List.nil_append,List.length_nil,Int.ofNat_zero,Int.natCast_zero,Int.add_zero]
   rw [ih]
   constructor
   ·rintro ⟨a,b⟩;exact ⟨a,.inr b⟩
   ·rintro ⟨a,b | b⟩
    ·lia
    ·exact ⟨a,b⟩
  ·have hd3:d = 35:=(h d List.mem_cons_self).resolve_right hd
   obtain ⟨p,r,e1,e2⟩:=jP hd l
   rw [e1,xU] at ih
   rw [e2,xU,if_neg (by simp),i9,qu]
   rw [i9] at ih
   have e3:x + ((d :: p).length:Int) + 1 = x + 1 + (p.length:Int) + 1:=by rw [List.length_cons];lia
   rw [e3]
   have nn:¬ kN [] X Y:=by rintro ⟨_,h,_⟩;cases h
   have e4:kN (if p = [] then [] else [(y,x + 1,x + 1 + (p.length:Int) - 1)]) X Y ↔ y = Y /\ x + 1 <= X /\ X <= x + 1 + (p.length:Int) - 1:=by
    split
    ·rename_i hp
     subst hp
     constructor
     ·intro z;exact absurd z nn
     ·rintro ⟨_,a,b⟩
      simp at b
      lia
    ·rw [qu]
     constructor
     ·rintro (z | z)
      ·exact z
      ·exact absurd z nn
     ·exact .inl
   rw [e4] at ih
   rw [List.length_cons]
   constructor
   ·rintro ((⟨a,b,c⟩ | z) | z)
    ·by_cases hx:X = x
     ·exact ⟨a.symm,.inl ⟨hd3,hx⟩⟩
     ·have:=ih.mp (.inl ⟨a,by dsimp only at b;lia,by dsimp only at c;push_cast at c;lia⟩)
      exact ⟨this.1,.inr this.2⟩
    ·exact absurd z nn
    ·have:=ih.mp (.inr z)
     exact ⟨this.1,.inr this.2⟩
   ·rintro ⟨a,⟨_,b⟩ | b⟩
    ·refine .inl (.inl ⟨a.symm,?_,?_⟩)
     ·dsimp only;lia
     ·dsimp only;push_cast;lia
    ·rcases ih.mpr ⟨a,b⟩ with ⟨c1,c2,c3⟩ | z
     ·refine .inl (.inl ⟨c1,?_,?_⟩)
      ·dsimp only;lia
      ·dsimp only;push_cast;lia
     ·exact .inr z
def dN (ts:List (List Nat)) (i j:Nat):Prop:=∃ l,ts[i]? = some l /\ l[j]? = some 35
noncomputable def r9 (x:Int):Int -> List (List Nat) -> List hZ
 | _,[]=>[]
 | y,l :: r=>xU y x (iH 46 l) ++ r9 x (y + 1) r
theorem BH (x X Y:Int):∀ (ts:List (List Nat)) (y:Int),(∀ l ∈ ts,Sg l) -> (kN (r9 x y ts) X Y ↔ ∃ i j:Nat,dN ts i j /\ X = x + j /\ Y = y + i)
 | [],y,_=>by
  constructor
  ·rintro ⟨t,ht,_⟩;cases ht
  ·rintro ⟨i,j,⟨l,h,_⟩,_⟩;simp at h
 | l :: ts,y,h=>by
  have ih:=BH x X Y ts (y + 1) fun m hm=>h m (List.mem_cons_of_mem _ hm)
  rw [r9,i9,ih,GZ y X Y l x (h l List.mem_cons_self).1]
  constructor
  ·rintro (⟨a,j,b,c⟩ | ⟨i,j,⟨m,a,b⟩,c,d⟩)
   ·exact ⟨0,j,⟨l,rfl,b⟩,c,by lia⟩
   ·exact ⟨i + 1,j,⟨m,by simpa using a,b⟩,c,by lia⟩
  ·rintro ⟨i,j,⟨m,a,b⟩,c,d⟩
   cases i with
   | zero=>
    have e:l = m:=by simpa using a
    subst e
    exact .inl ⟨by lia,j,b,c⟩
   | succ i=>exact .inr ⟨i,j,⟨m,by simpa using a,b⟩,c,by lia⟩
theorem B0 (x:Int):∀ (ts:List (List Nat)) (y:Int),(∀ l ∈ ts,Sg l) -> (r9 x y ts).length <= 21 * ts.length
 | [],_,_=>Nat.le_refl _
 | l :: ts,y,h=>by
  have ih:=B0 x ts (y + 1) fun m hm=>h m (List.mem_cons_of_mem _ hm)
  have h1:=rK y (iH 46 l) x
  have h2:=o9 46 l
  have h3:=(h l List.mem_cons_self).2
  rw [r9,List.length_append,List.length_cons]
  lia
theorem CI (t:Sl) (x y:Int):∀ (ts:List (List Nat)) (k:Nat) (acc:List hZ) (v w:Sl),(∀ l ∈ ts,Sg l) -> acc.length + 21 * ts.length <= 1000 ->
  ∃ v' w',bO (c7 (aJ (ao 4) (aJ (ao 5) cV))) fh (Cd k (ts.map fun l=>D.str (T9 l))) [t,.sh (.int x),.sh (.int y),.ow (.lst (acc.map (O.sh ∘ c6))),v,w] =
   some (.nx [t,.sh (.int x),.sh (.int y),.ow (.lst ((acc ++ r9 x (y + k) ts).map (O.sh ∘ c6))),v',w'])
 | [],k,acc,v,w,_,_=>⟨v,w,by simp [bO,Cd,r9]⟩
 | l :: ts,k,acc,v,w,h,hn=>by
  have h1:=rK (y + k) (iH 46 l) x
  have h2:=o9 46 l
  have h3:=(h l List.mem_cons_self).2
  rw [List.length_cons] at hn
  obtain ⟨v',w',e⟩:=CI t x y ts (k + 1) (acc ++ xU (y + k) x (iH 46 l)) (.sh (.int k)) (.sh (.str (T9 l))) (fun m hm=>h m (List.mem_cons_of_mem _ hm)) (by rw [List.length_append];lia)
  refine ⟨v',w',?_⟩
  have m:=gJ (h l List.mem_cons_self) x (y + k)
  have hl:acc.length + (xU (y + k) x (iH 46 l)).length <= cG:=bH (by lia)
  rw [List.map_cons,Cd,bO]
  have s:fh [t,.sh (.int x),.sh (.int y),.ow (.lst (acc.map (O.sh ∘ c6))),.sh (.int k),.sh (.str (T9 l))] = some (.nx [t,.sh (.int x),.sh (.int y),.ow (.lst ((acc ++ xU (y + k) x (iH 46 l)).map (O.sh ∘ c6))),.sh (.int k),.sh (.str (T9 l))]):=by
   simp [fh,m,hl]
  simp only [c7,aJ,cV,ao,Option.bind_some]
  rw [show (List.set (List.set [t,Sl.sh (.int x),.sh (.int y),.ow (.lst (acc.map (O.sh ∘ c6))),v,w] 4 (.sh (.int k))) 5 (.sh (.str (T9 l)))) = [t,.sh (.int x),.sh (.int y),.ow (.lst (acc.map (O.sh ∘ c6))),.sh (.int k),.sh (.str (T9 l))] from rfl,s]
  simp only []
  rw [e,r9,List.append_assoc]
  push_cast
  rw [Int.add_assoc]
theorem Mc:∀ l:List hZ,O.ds (l.map (O.sh ∘ c6)) = l.map c6
 | []=>by simp [O.ds]
 | t :: l=>by rw [List.map_cons,O.ds,Mc l];simp [O.d]
noncomputable abbrev fZ (ts:List (List Nat)):D:=.lst (ts.map fun l=>D.str (T9 l))
theorem kL {ts:List (List Nat)} (h:∀ l ∈ ts,Sg l) (hn:ts.length <= 20) (x y:Int):aZ [fZ ts,.int x,.int y] = some (eH (qJ (r9 x y ts))):=by
 obtain ⟨v,w,e⟩:=CI (.sh (fZ ts)) x y ts 0 [] .un .un h (by simp;lia)
 have l:=B0 x ts y h
 have m:=q9 (r9 x y ts) (by lia)
 simp only [List.map_nil,List.nil_append,Int.ofNat_zero,Int.natCast_zero,Int.add_zero] at e
 have d:=Mc (r9 x y ts)
 simp [aZ,jr,gF,jY,e,frz,d,m]
theorem Bn {l:List Nat} (h:qX l) (hb:eA l ≠ []) (x y:Int):bZ [.str (T9 l),.int x,.int y] = some (Str.ofString "NoText"):=by
 have c:=t7 h [.sh (.int x),.sh (.int y),.un,.un,.un]
 unfold bZ Hf ee
 rw [decide_eq_false hb] at c
 simp only [nT,He]
 rw [show (List.map Sl.sh [D.str (T9 l),.int x,.int y] ++ List.replicate (6 - [D.str (T9 l),.int x,.int y].length) Sl.un) = [.sh (.str (T9 l)),.sh (.int x),.sh (.int y),.un,.un,.un] from rfl,c]
 rfl
theorem zI {l:List Nat} (h:Sg l) (x y:Int):bZ [.str (T9 l),.int x,.int y] = none:=by
 have c:=t7 (kA h) [.sh (.int x),.sh (.int y),.un,.un,.un]
 unfold bZ Hf ee
 rw [CJ h] at c
 simp only [nT,He]
 rw [show (List.map Sl.sh [D.str (T9 l),.int x,.int y] ++ List.replicate (6 - [D.str (T9 l),.int x,.int y].length) Sl.un) = [.sh (.str (T9 l)),.sh (.int x),.sh (.int y),.un,.un,.un] from rfl,c]
 rfl
theorem CG (t:Sl) (x y:Int) (bad:List Nat) (hb:qX bad) (hr:eA bad ≠ []) (post:List (List Nat)):∀ (ts:List (List Nat)) (k:Nat) (acc:List hZ) (v w:Sl),(∀ l ∈ ts,Sg l) -> acc.length + 21 * ts.length <= 1000 ->
  tD (c7 (aJ (ao 4) (aJ (ao 5) cV))) cI (Cd k ((ts ++ bad :: post).map fun l=>D.str (T9 l))) [t,.sh (.int x),.sh (.int y),.ow (.lst (acc.map (O.sh ∘ c6))),v,w] = some (.rz (Str.ofString "NoText"))
 | [],k,acc,v,w,_,_=>by
  have e:=Bn hb hr x (y + k)
  rw [List.nil_append,List.map_cons,Cd,tD]
  have s:cI [t,.sh (.int x),.sh (.int y),.ow (.lst (acc.map (O.sh ∘ c6))),.sh (.int k),.sh (.str (T9 bad))] = some (.rz (Str.ofString "NoText")):=by
   simp [cI,e]
  simp only [c7,aJ,cV,ao,Option.bind_some]
  rw [show (List.set (List.set [t,Sl.sh (.int x),.sh (.int y),.ow (.lst (acc.map (O.sh ∘ c6))),v,w] 4 (.sh (.int k))) 5 (.sh (.str (T9 bad)))) = [t,.sh (.int x),.sh (.int y),.ow (.lst (acc.map (O.sh ∘ c6))),.sh (.int k),.sh (.str (T9 bad))] from rfl,s]
  rfl
 | l :: ts,k,acc,v,w,h,hn=>by
  have h1:=rK (y + k) (iH 46 l) x
  have h2:=o9 46 l
  have h3:=(h l List.mem_cons_self).2
  rw [List.length_cons] at hn
  have ih:=CG t x y bad hb hr post ts (k + 1) (acc ++ xU (y + k) x (iH 46 l)) (.sh (.int k)) (.sh (.str (T9 l))) (fun m hm=>h m (List.mem_cons_of_mem _ hm)) (by rw [List.length_append];lia)
  have m:=gJ (h l List.mem_cons_self) x (y + k)
  have e:=zI (h l List.mem_cons_self) x (y + k)
  have hl:acc.length + (xU (y + k) x (iH 46 l)).length <= cG:=bH (by lia)
  rw [List.cons_append,List.map_cons,Cd,tD]
  have s:cI [t,.sh (.int x),.sh (.int y),.ow (.lst (acc.map (O.sh ∘ c6))),.sh (.int k),.sh (.str (T9 l))] = some (.nx [t,.sh (.int x),.sh (.int y),.ow (.lst ((acc ++ xU (y + k) x (iH 46 l)).map (O.sh ∘ c6))),.sh (.int k),.sh (.str (T9 l))]):=by
   simp [cI,e,m,hl]
  simp only [c7,aJ,cV,ao,Option.bind_some]
  rw [show (List.set (List.set [t,Sl.sh (.int x),.sh (.int y),.ow (.lst (acc.map (O.sh ∘ c6))),v,w] 4 (.sh (.int k))) 5 (.sh (.str (T9 l)))) = [t,.sh (.int x),.sh (.int y),.ow (.lst (acc.map (O.sh ∘ c6))),.sh (.int k),.sh (.str (T9 l))] from rfl,s]
  simp only [Option.bind_some]
  exact ih
theorem zH {ts post:List (List Nat)} {bad:List Nat} (h:∀ l ∈ ts,Sg l) (hn:ts.length <= 20) (hb:qX bad) (hr:eA bad ≠ []) (x y:Int):gd [fZ (ts ++ bad :: post),.int x,.int y] = some (Str.ofString "NoText"):=by
 have e:=CG (.sh (fZ (ts ++ bad :: post))) x y bad hb hr post ts 0 [] .un .un h (by simp;lia)
 simp only [List.map_nil] at e
 unfold gd Hf jZ
 simp only [Am,EN,nT,Hc]
 rw [show (List.map Sl.sh [fZ (ts ++ bad :: post),.int x,.int y] ++ List.replicate (6 - [fZ (ts ++ bad :: post),D.int x,.int y].length) Sl.un) = [.sh (fZ (ts ++ bad :: post)),.sh (.int x),.sh (.int y),.un,.un,.un] from rfl]
 generalize ts ++ bad :: post = tt at *
 simp [e]
theorem wm {ts:List (List Nat)} {k:Nat} {l:List Nat} (h:ts[k]? = some l):cf (fZ ts) (.int k) = some (.str (T9 l)):=aN (by rw [List.getElem?_map,h];rfl)
theorem GH {l:List Nat} (h:l.length <= 20) {j c:Nat} (hj:l[j]? = some c):cf (.str (T9 l)) (.int j) = some (.str (T9 [c])):=by
 show (if l.length <= cG then (b7 l (j:Int)).map fun c=>D.str ⟨#[c]⟩ else none) = _
 rw [if_pos (bH (by lia)),aN hj]
 rfl
theorem HP {ts:List (List Nat)} {k j c:Nat} {l:List Nat} (hk:ts[k]? = some l) (hj:l[j]? = some c) (hs:Sg l) (x:Int) (sy s3:Sl) (acc:R) (ca:cH acc) (hx:∀ p ∈ acc,p.2 <= x + j - 1) (hl:acc.length <= 100) :
  ∃ acc',dg [.sh (fZ ts),.sh (.int x),sy,s3,.sh (.int k),vT (acc.map gL),.sh (.int j)] = some (.nx [.sh (fZ ts),.sh (.int x),sy,s3,.sh (.int k),vT (acc'.map gL),.sh (.int j)]) /\
   cH acc' /\ (∀ p ∈ acc',p.2 <= x + j) /\ acc'.length <= acc.length + 1 /\ ∀ X,iI acc' X ↔ iI acc X \/ (c = 35 /\ X = x + j):=by
 have hlim:acc.length < cG:=gQ (by lia)
 have e1:=wm hk
 have e2:=GH hs.2 hj
 have hc:=hs.1 c (List.mem_of_getElem? hj)
 have e3:=wW false (rm (c:=c) (by rcases hc with e | e <;> lia)) (rm (c:=35) (by decide))
 simp only [fZ] at e1
 by_cases h35:c = 35
 ·subst h35
  rcases List.eq_nil_or_concat acc with rfl | ⟨t,p,rfl⟩
  ·refine ⟨[(x + j,x + j)],?_,canon_cons.mpr ⟨by dsimp only;lia,fun _ h=>(by cases h),g8⟩,fun p hp=>?_,by simp,fun X=>?_⟩
   ·simp [dg,e1,e2,e3,f9,gL]
   ·rw [List.mem_singleton.mp hp];dsimp only;lia
   ·rw [mem_cons]
    constructor
    ·rintro (z | z)
     ·exact .inr ⟨rfl,by dsimp only at z;lia⟩
     ·exact absurd z (bX _)
    ·rintro (z | z)
     ·exact absurd z (bX _)
     ·exact .inl ⟨by dsimp only;lia,by dsimp only;lia⟩
  ·rw [List.concat_eq_append] at *
   obtain ⟨ct,hp,ht⟩:=canon_snoc.mp ca
   have at1:b7 (t.map gL ++ [gL p]) (-1) = some (gL p):=jA _ _
   have hpx:=hx p (by simp)
   have hlim':t.length + 1 < cG:=by simpa using hlim
   have hpos:(0:Int) < (t.length:Int) + 1:=by lia
   by_cases he:p.2 = x + j - 1
   ·refine ⟨t ++ [(p.1,x + j)],?_,canon_snoc.mpr ⟨ct,by dsimp only;lia,ht⟩,fun r hr=>?_,by simp,fun X=>?_⟩
    ·simp [dg,e1,e2,e3,f9,at1,he,lm,xV,hpos]
    ·rcases List.mem_append.mp hr with hr | hr
     ·have:=hx r (by simp [hr]);lia
     ·rw [List.mem_singleton.mp hr];dsimp only;lia
    ·rw [mem_append,mem_append,mem_cons,mem_cons]
     have nn:=bX X
     constructor
     ·rintro (z | z | z)
      ·exact .inl (.inl z)
      ·dsimp only at z
       by_cases hX:X = x + j
       ·exact .inr ⟨rfl,hX⟩
       ·exact .inl (.inr (.inl ⟨z.1,by lia⟩))
      ·exact absurd z nn
     ·rintro ((z | z | z) | z)
      ·exact .inl z
      ·exact .inr (.inl ⟨z.1,by dsimp only;lia⟩)
      ·exact absurd z nn
      ·exact .inr (.inl ⟨by dsimp only;lia,by dsimp only;lia⟩)
   ·refine ⟨t ++ [p] ++ [(x + j,x + j)],?_,canon_snoc.mpr ⟨ca,by dsimp only;lia,fun r hr=>?_⟩,fun r hr=>?_,by simp,fun X=>?_⟩
    ·simp [dg,e1,e2,e3,f9,at1,he,lm,xV,hpos,hlim']
    ·dsimp only
     rcases List.mem_append.mp hr with hr | hr
     ·have:=ht r hr;lia
     ·rw [List.mem_singleton.mp hr];lia
    ·rcases List.mem_append.mp hr with hr | hr
     ·have:=hx r hr;lia
     ·rw [List.mem_singleton.mp hr];dsimp only;lia
    ·rw [mem_append,mem_cons]
     have nn:=bX X
     constructor
     ·rintro (z | z | z)
      ·exact .inl z
      ·exact .inr ⟨rfl,by dsimp only at z;lia⟩
      ·exact absurd z nn
     ·rintro (z | z)
      ·exact .inl z
      ·exact .inr (.inl ⟨by dsimp only;lia,by dsimp only;lia⟩)
 ·refine ⟨acc,by simp [dg,e1,e2,e3,f9,h35],ca,fun p hp=>by have:=hx p hp;lia,by lia,fun X=>?_⟩
  constructor
  ·exact .inl
  ·rintro (z | z)
   ·exact z
   ·exact absurd z.1 h35
theorem FH {ts:List (List Nat)} {k:Nat} {l:List Nat} (hk:ts[k]? = some l) (hs:Sg l) (x:Int) (sy s3:Sl):∀ (m j:Nat) (acc:R) (v:Sl),j + m = l.length -> cH acc -> (∀ p ∈ acc,p.2 <= x + j - 1) -> acc.length <= j ->
  ∃ acc' v',bO (ao 6) dg (bd j m) [.sh (fZ ts),.sh (.int x),sy,s3,.sh (.int k),vT (acc.map gL),v] = some (.nx [.sh (fZ ts),.sh (.int x),sy,s3,.sh (.int k),vT (acc'.map gL),v']) /\
   cH acc' /\ acc'.length <= 20 /\ ∀ X,iI acc' X ↔ iI acc X \/ ∃ i:Nat,j <= i /\ l[i]? = some 35 /\ X = x + i
 | 0,j,acc,v,hm,ca,hx,hl=>⟨acc,v,by simp [bO,bd],ca,by have:=hs.2;lia,fun X=>⟨.inl,fun z=>z.elim id fun hpt0=>by
   obtain ⟨i,h1,h2,_⟩:=hpt0
   have:=(List.getElem?_eq_some_iff.mp h2).1
   lia⟩⟩
 | m + 1,j,acc,v,hm,ca,hx,hl=>by
  have hj:l[j]? = some l[j]:=List.getElem?_eq_getElem (by lia)
  have h20:=hs.2
  obtain ⟨a1,e,c1,x1,l1,m1⟩:=HP hk hj hs x sy s3 acc ca hx (by lia)
  obtain ⟨a2,v2,e2,c2,l2,m2⟩:=FH hk hs x sy s3 m (j + 1) a1 (.sh (.int j)) (by lia) c1 (fun p hp=>by have:=x1 p hp;push_cast;lia) (by lia)
  refine ⟨a2,v2,?_,c2,l2,fun X=>?_⟩
  ·rw [bd,bO]
   simp only [ao,Option.bind_some]
   rw [show List.set [Sl.sh (fZ ts),.sh (.int x),sy,s3,.sh (.int k),vT (acc.map gL),v] 6 (.sh (.int j)) = [.sh (fZ ts),.sh (.int x),sy,s3,.sh (.int k),vT (acc.map gL),.sh (.int j)] from rfl,e]
   simp only []
   rw [show ((j:Int) + 1) = ((j + 1:Nat):Int) by push_cast;rfl]
   exact e2
  ·rw [m2,m1]
   constructor
   ·rintro ((z | z) | ⟨i,h1,h2,h3⟩)
    ·exact .inl z
    ·exact .inr ⟨j,Nat.le_refl _,by rw [hj,z.1],z.2⟩
    ·exact .inr ⟨i,by lia,h2,h3⟩
   ·rintro (z | ⟨i,h1,h2,h3⟩)
    ·exact .inl (.inl z)
    ·by_cases hi:i = j
     ·subst hi
      rw [hj] at h2
      exact .inl (.inr ⟨Option.some.inj h2,h3⟩)
     ·exact .inr ⟨i,by lia,h2,h3⟩
theorem HN {ts:List (List Nat)} {k:Nat} {l:List Nat} (hk:ts[k]? = some l) (hs:Sg l) (x y:Int) (acc:iJ) (v5 v6:Sl) (hl:acc.length <= 100) :
  ∃ r:R,∃ v5' v6',fg [.sh (fZ ts),.sh (.int x),.sh (.int y),vT (acc.map fI),.sh (.int k),v5,v6] = some (.nx [.sh (fZ ts),.sh (.int x),.sh (.int y),vT ((acc ++ (if r = [] then [] else [(y + k,r)])).map fI),.sh (.int k),v5',v6']) /\
   cH r /\ ∀ X,iI r X ↔ ∃ j:Nat,l[j]? = some 35 /\ X = x + j:=by
 have hlim:acc.length < cG:=gQ (by lia)
 obtain ⟨r,v,e,cr,lr,mr⟩:=FH hk hs x (.sh (.int y)) (vT (acc.map fI)) l.length 0 [] v6 (by lia) g8 (fun _ h=>(by cases h)) (Nat.le_refl _)
 have h20:=hs.2
 have hlr:r.length <= cG:=bH (by lia)
 have e1:=wm hk
 have e2:=len_str (kA hs)
 simp only [fZ] at e1
 have rn:Br [.int (l.length:Int)] = some (bd 0 l.length):=by
  show (vI _ _ _) = _
  rw [fv (by lia)]
  rfl
 refine ⟨r,vT (r.map gL),v,?_,cr,fun X=>?_⟩
 ·simp only [List.map_nil,Int.ofNat_zero,Int.natCast_zero] at e
  rw [show vT ([]:List D) = Sl.ow (O.lst []) from rfl] at e
  by_cases hr:r = []
  ·subst hr
   simp [fg,e1,e2,rn,e]
  ·have hp:0 < r.length:=List.length_pos_iff.mpr hr
   simp [fg,e1,e2,rn,e,hr,hp,hlim,hlr]
 ·rw [mr]
  constructor
  ·rintro (z | ⟨i,_,z⟩)
   ·exact absurd z (bX _)
   ·exact ⟨i,z⟩
  ·rintro ⟨i,z⟩
   exact .inr ⟨i,Nat.zero_le _,z⟩
theorem FG {ts:List (List Nat)} (h:∀ l ∈ ts,Sg l) (x y:Int):∀ (m k:Nat) (acc:iJ) (v4 v5 v6:Sl),k + m = ts.length -> ts.length <= 20 -> b8 acc -> (∀ q ∈ acc,q.1 <= y + k - 1) -> acc.length <= k ->
  ∃ acc' v4' v5' v6',bO (ao 4) fg (bd k m) [.sh (fZ ts),.sh (.int x),.sh (.int y),vT (acc.map fI),v4,v5,v6] = some (.nx [.sh (fZ ts),.sh (.int x),.sh (.int y),vT (acc'.map fI),v4',v5',v6']) /\
   b8 acc' /\ acc'.length <= 20 /\ ∀ X Y,fc acc' X Y ↔ fc acc X Y \/ ∃ i j:Nat,k <= i /\ dN ts i j /\ X = x + j /\ Y = y + i
 | 0,k,acc,v4,v5,v6,hm,hn,ca,hx,hl=>⟨acc,v4,v5,v6,by simp [bO,bd],ca,by lia,fun X Y=>⟨.inl,fun z=>z.elim id fun hpt0=>by
   obtain ⟨i,j,h1,⟨l,h2,_⟩,_⟩:=hpt0
   have:=(List.getElem?_eq_some_iff.mp h2).1
   lia⟩⟩
 | m + 1,k,acc,v4,v5,v6,hm,hn,ca,hx,hl=>by
  have hk:ts[k]? = some ts[k]:=List.getElem?_eq_getElem (by lia)
  obtain ⟨r,w5,w6,e,cr,mr⟩:=HN hk (h _ (List.mem_of_getElem? hk)) x y acc v5 v6 (by lia)
  have cn:b8 (acc ++ (if r = [] then [] else [(y + (k:Int),r)])):=by
   split
   ·rw [List.append_nil];exact ca
   ·rename_i hr
    refine ⟨fun q hq=>?_,List.pairwise_append.mpr ⟨ca.2,List.pairwise_singleton _ _,fun a ha b hb=>?_⟩⟩
    ·rcases List.mem_append.mp hq with hq | hq
     ·exact ca.1 q hq
     ·rw [List.mem_singleton.mp hq];exact ⟨cr,hr⟩
    ·rw [List.mem_singleton.mp hb]
     have:=hx a ha
     dsimp only
     lia
  have nx:∀ q ∈ acc ++ (if r = [] then [] else [(y + (k:Int),r)]),q.1 <= y + ((k + 1:Nat):Int) - 1:=fun q hq=>by
   push_cast
   rcases List.mem_append.mp hq with hq | hq
   ·have:=hx q hq;lia
   ·split at hq
    ·cases hq
    ·rw [List.mem_singleton.mp hq];dsimp only;lia
  obtain ⟨a2,w4,u5,u6,e2,c2,l2,m2⟩:=FG h x y m (k + 1) _ (.sh (.int k)) w5 w6 (by lia) hn cn nx (by rw [List.length_append];split <;> simp <;> lia)
  refine ⟨a2,w4,u5,u6,?_,c2,l2,fun X Y=>?_⟩
  ·rw [bd,bO]
   simp only [ao,Option.bind_some]
   rw [show List.set [Sl.sh (fZ ts),.sh (.int x),.sh (.int y),vT (acc.map fI),v4,v5,v6] 4 (.sh (.int k)) = [.sh (fZ ts),.sh (.int x),.sh (.int y),vT (acc.map fI),.sh (.int k),v5,v6] from rfl,e]
   simp only []
   rw [show ((k:Int) + 1) = ((k + 1:Nat):Int) by push_cast;rfl]
   exact e2
  ·have pm:fc (if r = [] then [] else [(y + (k:Int),r)]) X Y ↔ Y = y + k /\ iI r X:=by
    split
    ·rename_i hr
     constructor
     ·intro z;exact absurd z (cZ _ _)
     ·rintro ⟨_,z⟩;rw [hr] at z;exact absurd z (bX _)
    ·rw [bv]
     constructor
     ·rintro (z | z)
      ·exact ⟨z.1.symm,z.2⟩
      ·exact absurd z (cZ _ _)
     ·rintro ⟨a,b⟩;exact .inl ⟨a.symm,b⟩
   rw [m2,iW,pm,mr]
   constructor
   ·rintro ((z | ⟨a,j,b,c⟩) | ⟨i,j,h1,h2,h3⟩)
    ·exact .inl z
    ·exact .inr ⟨k,j,Nat.le_refl _,⟨_,hk,b⟩,c,a⟩
    ·exact .inr ⟨i,j,by lia,h2,h3⟩
   ·rintro (z | ⟨i,j,h1,⟨l,h2,h3⟩,h4,h5⟩)
    ·exact .inl (.inl z)
    ·by_cases hi:i = k
     ·subst hi
      rw [hk] at h2
      cases h2
      exact .inl (.inr ⟨h5,j,h3,h4⟩)
     ·exact .inr ⟨i,j,by lia,⟨l,h2,h3⟩,h4,h5⟩
theorem pR {ts:List (List Nat)} (h:∀ l ∈ ts,Sg l) (hn:ts.length <= 20) (x y:Int):∃ p:iJ,cQ [fZ ts,.int x,.int y] = some (eH p) /\ b8 p /\ p.length <= 20 /\ ∀ X Y,fc p X Y ↔ ∃ i j:Nat,dN ts i j /\ X = x + j /\ Y = y + i:=by
 obtain ⟨p,v4,v5,v6,e,c,l,m⟩:=FG h x y ts.length 0 [] .un .un .un (by lia) hn kr (fun _ h=>(by cases h)) (Nat.le_refl _)
 refine ⟨p,?_,c,l,fun X Y=>?_⟩
 ·have rn:Br [.int (ts.length:Int)] = some (bd 0 ts.length):=by
   show (vI _ _ _) = _
   rw [fv (by lia)]
   rfl
  simp only [List.map_nil,Int.ofNat_zero,Int.natCast_zero] at e
  rw [show vT ([]:List D) = Sl.ow (O.lst []) from rfl] at e
  simp [cQ,lB,gF,mS,rn,e]
 ·rw [m]
  constructor
  ·rintro (z | ⟨i,j,_,z⟩)
   ·exact absurd z (cZ _ _)
   ·exact ⟨i,j,z⟩
  ·rintro ⟨i,j,z⟩
   exact .inr ⟨i,j,Nat.zero_le _,z⟩
theorem zO {ts:List (List Nat)} (h:∀ l ∈ ts,Sg l) (hn:ts.length <= 20) (x y:Int):∃ p:iJ,cQ [fZ ts,.int x,.int y] = some (eH p) /\ aZ [fZ ts,.int x,.int y] = some (eH p) /\ b8 p /\ p.length <= 20 /\ ∀ X Y,fc p X Y ↔ ∃ i j:Nat,dN ts i j /\ X = x + j /\ Y = y + i:=by
 obtain ⟨p,e,c,l,m⟩:=pR h hn x y
 refine ⟨p,e,?_,c,l,m⟩
 rw [kL h hn x y,tS c fun X Y=>(BH x X Y ts y h).trans (m X Y).symm]
theorem pr (l:List Nat) (c k:Nat):StrLaws.At (T9 l) (T9 [c]) (T9 l).length k ↔ l[k]? = some c:=by
 constructor
 ·exact wJ
 ·intro h
  obtain ⟨h1,h2⟩:=List.getElem?_eq_some_iff.mp h
  refine (Aw l [c] k).mpr ⟨by simp;lia,?_⟩
  rw [List.drop_eq_getElem_cons h1]
  simp [h2]
theorem wY (l:List Nat):(35 ∉ l /\ Builtin.Str.occurrences (T9 l) (T9 [35]) 0 (T9 l).length 1 = []) \/ ∃ i:Nat,Jc (T9 l) (T9 [35]) = i /\ l[i]? = some 35 /\ (∀ k,k < i -> l[k]? ≠ some 35) /\ Builtin.Str.occurrences (T9 l) (T9 [35]) 0 (T9 l).length 1 ≠ []:=by
 rcases StrLaws.occ_head (T9 l) (T9 [35]) 1 (Nat.le_refl _) with ⟨e,h⟩ | ⟨i,r,e,h1,h2⟩
 ·refine .inl ⟨fun hm=>?_,e⟩
  obtain ⟨k,hk,e2⟩:=List.getElem_of_mem hm
  exact h k ((pr l 35 k).mpr (by rw [List.getElem?_eq_getElem hk,e2]))
 ·refine .inr ⟨i,by unfold Jc;rw [e],(pr l 35 i).mp h1,fun k hk z=>h2 k hk ((pr l 35 k).mpr z),by rw [e];simp⟩
theorem t8 (l:List Nat):(35 ∉ l /\ uW (T9 l) (T9 [35]) = -1) \/ ∃ i:Nat,uW (T9 l) (T9 [35]) = i /\ l[i]? = some 35 /\ ∀ k,i < k -> l[k]? ≠ some 35:=by
 rcases StrLaws.last_spec (T9 l) (T9 [35]) with ⟨e,h⟩ | ⟨i,e,h1,h2⟩
 ·refine .inl ⟨fun hm=>?_,by unfold uW;rw [e]⟩
  obtain ⟨k,hk,e2⟩:=List.getElem_of_mem hm
  exact h k ((pr l 35 k).mpr (by rw [List.getElem?_eq_getElem hk,e2]))
 ·exact .inr ⟨i,by unfold uW;rw [e],(pr l 35 i).mp h1,fun k hk z=>h2 k hk ((pr l 35 k).mpr z)⟩
theorem Fu (l:List Nat):AH (.str (T9 [35])) (.str (T9 l)) = some (.bl (decide (35 ∈ l))):=by
 show some (D.bl (!(Builtin.Str.occurrences (T9 l) (T9 [35]) 0 (T9 l).length 1).isEmpty)) = _
 rcases wY l with ⟨h1,h2⟩ | ⟨i,_,h1,_,h2⟩
 ·rw [h2,decide_eq_false h1];rfl
 ·rw [decide_eq_true (List.mem_of_getElem? h1)]
  cases q:Builtin.Str.occurrences (T9 l) (T9 [35]) 0 (T9 l).length 1 with
  | nil=>exact absurd q h2
  | cons a b=>rfl
noncomputable def vM (ts:List (List Nat)):List Int:=(ts.filter fun l=>decide (35 ∈ l)).map fun l=>Jc (T9 l) (T9 [35])
noncomputable def nN (ts:List (List Nat)):List Int:=ts.map fun l=>uW (T9 l) (T9 [35])
noncomputable def fF (ts:List (List Nat)):List Nat:=(List.range ts.length).filter fun k=>decide (35 ∈ ts.getD k [])
theorem lY {α β:Type} (c:α -> Bool) (f:α -> β):∀ l:List α,l.filterMap (fun a=>if c a = true then some (f a) else none) = (l.filter c).map f
 | []=>rfl
 | a :: l=>by
  rw [List.filterMap_cons,List.filter_cons,lY c f l]
  by_cases h:c a = true <;> simp [h]
theorem Dr (ts:List (List Nat)):eZ (ao 0) (xB (aF (AH) (xC (.str (Str.ofString "#"))) (aF cf (aj 1) (aj 0)))) (aL 0) [.un,.sh (fZ ts)] (bd 0 ts.length) = some ((fF ts).map fun k:Nat=>D.int k):=by
 unfold fF
 rw [yN,ie (fun k:Nat=>D.int (k:Int)) (fun k=>if decide (35 ∈ ts.getD k []) = true then some (D.int (k:Int)) else none) (List.range ts.length),lY]
 intro k hk
 have hk:=List.mem_range.mp hk
 have e1:=wm (List.getElem?_eq_getElem hk)
 have e2:=Fu ts[k]
 simp only [fZ] at e1
 have e3:ts.getD k [] = ts[k]:=by simp [hk]
 rw [e3]
 by_cases h:35 ∈ ts[k] <;> simp [nJ,e1,e2,f9,h]
theorem AC (ts:List (List Nat)):eZ (ao 0) (xB (aF (AH) (xC (.str (Str.ofString "#"))) (aj 0))) (aF B9 (aj 0) (xC (.str (Str.ofString "#")))) [.un] (ts.map fun l=>D.str (T9 l)) = some ((vM ts).map D.int):=by
 unfold vM
 rw [List.map_map,ie (fun l:List Nat=>D.str (T9 l)) (fun l=>if decide (35 ∈ l) = true then some (D.int (Jc (T9 l) (T9 [35]))) else none) ts,lY]
 ·rfl
 intro l hl
 have e2:=Fu l
 by_cases h:35 ∈ l <;> simp [nJ,e2,f9,h,B9]
theorem yu (ts:List (List Nat)):eZ (ao 0) nS (aF wQ (aj 0) (xC (.str (Str.ofString "#")))) [.un] (ts.map fun l=>D.str (T9 l)) = some ((nN ts).map D.int):=by
 unfold nN
 rw [List.map_map]
 refine g9 (fun l:List Nat=>D.str (T9 l)) _ ts fun l hl=>?_
 simp [nJ,f9,wQ]
structure Bx (ts:List (List Nat)) (L T R B:Nat):Prop where
 all:∀ i j,dN ts i j -> T <= i /\ i <= B /\ L <= j /\ j <= R
 top:∃ j,dN ts T j
 bot:∃ j,dN ts B j
 lef:∃ i,dN ts i L
 rig:∃ i,dN ts i R
theorem mem_row {ts:List (List Nat)} {k:Nat}:k ∈ fF ts ↔ ∃ j,dN ts k j:=by
 unfold fF
 rw [List.mem_filter,List.mem_range,decide_eq_true_eq]
 constructor
 ·rintro ⟨h1,h2⟩
  have e:ts.getD k [] = ts[k]:=by simp [h1]
  rw [e] at h2
  obtain ⟨j,hj,e2⟩:=List.getElem_of_mem h2
  exact ⟨j,ts[k],List.getElem?_eq_getElem h1,by rw [List.getElem?_eq_getElem hj,e2]⟩
 ·rintro ⟨j,l,h1,h2⟩
  obtain ⟨h3,rfl⟩:=List.getElem?_eq_some_iff.mp h1
  exact ⟨h3,by simp [h3];exact List.mem_of_getElem? h2⟩
theorem Im (ts:List (List Nat)):(fF ts).Pairwise (· < ·):=List.Pairwise.filter _ List.pairwise_lt_range
theorem Cs {ns:List Int} (h:ns ≠ []):lz ns ∈ ns /\ ∀ b ∈ ns,lz ns <= b:=by
 cases ns with
 | nil=>exact absurd rfl h
 | cons a l=>exact pT a l
theorem Cr {ns:List Int} (h:ns ≠ []):kP ns ∈ ns /\ ∀ b ∈ ns,b <= kP ns:=by
 cases ns with
 | nil=>exact absurd rfl h
 | cons a l=>exact pS a l
theorem B4 {ns:List Int} (h:ns ≠ []):vh [.lst (ns.map D.int)] = some (.int (lz ns)):=by
 unfold vh
 simp only [jF,Option.bind_some]
 rw [if_pos (List.length_pos_iff.mpr h)]
theorem B3 {ns:List Int} (h:ns ≠ []):vg [.lst (ns.map D.int)] = some (.int (kP ns)):=by
 unfold vg
 simp only [jF,Option.bind_some]
 rw [if_pos (List.length_pos_iff.mpr h)]
theorem xk {ts:List (List Nat)} (hn:ts.length <= 20):((∀ i j,¬ dN ts i j) /\ dW [fZ ts] = some .non) \/ ∃ L T R B,Bx ts L T R B /\ dW [fZ ts] = some (.tup [.int (L:Nat),.int (T:Nat),.int (R:Nat),.int (B:Nat)]):=by
 have c1:=Dr ts
 have c2:=AC ts
 have c3:=yu ts
 have hl:ts.length <= cG:=bH (by lia)
 have rn:Br [.int (ts.length:Int)] = some (bd 0 ts.length):=by
  show (vI _ _ _) = _
  rw [fv (by lia)]
  rfl
 have il:(bd 0 ts.length).length <= cG:=by rw [fQ];exact hl
 have ez:∀ n:Int,fN false (.int n) (.int 0) = some (.bl (decide (n = 0))):=fun n=>by
  unfold fN
  rw [if_pos ⟨by simp [b9],by simp [b9]⟩]
  simp only [kd]
  rfl
 by_cases h0:fF ts = []
 ·refine .inl ⟨fun i j hc=>?_,?_⟩
  ·have:=mem_row.mpr ⟨j,hc⟩
   rw [h0] at this
   cases this
  ·rw [h0] at c1
   simp [dW,rC,gF,wC,rn,hl,il,c1,ez]
 ·obtain ⟨T,tl,eT⟩:∃ T tl,fF ts = T :: tl:=by
   cases q:fF ts with
   | nil=>exact absurd q h0
   | cons a b=>exact ⟨a,b,rfl⟩
  obtain ⟨ini,B,eB⟩:∃ ini B,fF ts = ini ++ [B]:=by
   rcases List.eq_nil_or_concat (fF ts) with q | ⟨a,b,q⟩
   ·exact absurd q h0
   ·exact ⟨a,b,by rw [q,List.concat_eq_append]⟩
  have pw:=Im ts
  have hT:∀ k ∈ fF ts,T <= k:=fun k hk=>by
   rw [eT] at hk pw
   rcases List.mem_cons.mp hk with rfl | hk
   ·exact Nat.le_refl _
   ·exact Nat.le_of_lt ((List.pairwise_cons.mp pw).1 k hk)
  have hB:∀ k ∈ fF ts,k <= B:=fun k hk=>by
   rw [eB] at hk pw
   rcases List.mem_append.mp hk with hk | hk
   ·exact Nat.le_of_lt ((List.pairwise_append.mp pw).2.2 k hk B (by simp))
   ·rw [List.mem_singleton.mp hk];exact Nat.le_refl _
  have mT:T ∈ fF ts:=by rw [eT];simp
  have mB:B ∈ fF ts:=by rw [eB];simp
  obtain ⟨j0,l0,hl0,hj0⟩:=mem_row.mp mT
  have m0:l0 ∈ ts:=List.mem_of_getElem? hl0
  have i0:35 ∈ l0:=List.mem_of_getElem? hj0
  have nl:vM ts ≠ []:=fun z=>by
   have:Jc (T9 l0) (T9 [35]) ∈ vM ts:=List.mem_map_of_mem (List.mem_filter.mpr ⟨m0,decide_eq_true i0⟩)
   rw [z] at this
   cases this
  have nr:nN ts ≠ []:=fun z=>by
   have:uW (T9 l0) (T9 [35]) ∈ nN ts:=List.mem_map_of_mem m0
   rw [z] at this
   cases this
  obtain ⟨a1,a2⟩:=Cs nl
  obtain ⟨b1,b2⟩:=Cr nr
  obtain ⟨l1,h1,e1⟩:=List.mem_map.mp a1
  obtain ⟨h1a,h1b⟩:=List.mem_filter.mp h1
  obtain ⟨L,eL,cL,_⟩:=(wY l1).resolve_left fun z=>z.1 (of_decide_eq_true h1b)
  have hr0:(0:Int) <= kP (nN ts):=by
   obtain ⟨i,e,_⟩:=(t8 l0).resolve_left fun z=>z.1 i0
   have:=b2 _ (List.mem_map_of_mem (f:=fun l=>uW (T9 l) (T9 [35])) m0)
   rw [e] at this
   lia
  obtain ⟨l2,h2,e2⟩:=List.mem_map.mp b1
  obtain ⟨R,eR,cR,_⟩:=(t8 l2).resolve_left fun z=>by rw [<- e2,z.2] at hr0;lia
  have eL':lz (vM ts) = (L:Int):=by rw [<- e1,eL]
  have eR':kP (nN ts) = (R:Int):=by rw [<- e2,eR]
  refine .inr ⟨L,T,R,B,⟨fun i j hc=>?_,mem_row.mp mT,mem_row.mp mB,?_,?_⟩,?_⟩
  ·have hi:=mem_row.mpr ⟨j,hc⟩
   obtain ⟨l,c4,c5⟩:=hc
   have ml:=List.mem_of_getElem? c4
   have il2:=List.mem_of_getElem? c5
   refine ⟨hT i hi,hB i hi,?_,?_⟩
   ·obtain ⟨k,ek,_,fk,_⟩:=(wY l).resolve_left fun z=>z.1 il2
    have:=a2 _ (List.mem_map_of_mem (f:=fun l=>Jc (T9 l) (T9 [35])) (List.mem_filter.mpr ⟨ml,decide_eq_true il2⟩))
    rw [ek,eL'] at this
    have:¬ j < k:=fun z=>fk j z c5
    lia
   ·obtain ⟨k,ek,_,fk⟩:=(t8 l).resolve_left fun z=>z.1 il2
    have:=b2 _ (List.mem_map_of_mem (f:=fun l=>uW (T9 l) (T9 [35])) ml)
    rw [ek,eR'] at this
    have:¬ k < j:=fun z=>fk j z c5
    lia
  ·obtain ⟨i,hi,e⟩:=List.getElem_of_mem h1a
   exact ⟨i,l1,by rw [List.getElem?_eq_getElem hi,e],cL⟩
  ·obtain ⟨i,hi,e⟩:=List.getElem_of_mem h2
   exact ⟨i,l2,by rw [List.getElem?_eq_getElem hi,e],cR⟩
  ·have f0:b7 ((fF ts).map fun k:Nat=>D.int (k:Int)) 0 = some (.int (T:Int)):=by
    rw [eT]
    exact aN (j:=0) rfl
   have f1:b7 ((fF ts).map fun k:Nat=>D.int (k:Int)) (-1) = some (.int (B:Int)):=by
    rw [eB,List.map_append]
    exact jA _ _
   have m1:=B4 nl
   have m2:=B3 nr
   rw [eL'] at m1
   rw [eR'] at m2
   have nz:¬ fF ts = []:=h0
   have rl:(fF ts).length ≠ 0:=fun z=>h0 (List.length_eq_zero_iff.mp z)
   generalize fF ts = rr at *
   generalize vM ts = ll at *
   generalize nN ts = rg at *
   simp [dW,rC,gF,wC,rn,hl,il,c1,c2,c3,ez,f0,f1,m1,m2,rl,nz]
noncomputable def vQ (p:iJ):List Int:=p.map fun q=>(q.2.head?.getD (0,0)).1
noncomputable def pH (p:iJ):List Int:=p.map fun q=>(q.2.getLast?.getD (0,0)).2
theorem Dq (p:iJ) (hn:∀ q ∈ p,q.2 ≠ []):eZ (c7 (aJ (ao 0) (aJ (ao 1) cV))) nS (aF cf (aF cf (aj 1) (xC (.int 0))) (xC (.int 0))) [.un,.un] (p.map fI) = some ((vQ p).map D.int):=by
 unfold vQ
 rw [List.map_map]
 refine g9 fI _ p fun q hq=>?_
 obtain ⟨y,r⟩:=q
 cases r with
 | nil=>exact absurd rfl (hn _ hq)
 | cons a r=>
  have f0:b7 (gL a :: r.map gL) 0 = some (gL a):=aN (j:=0) rfl
  have f1:b7 [D.int a.1,D.int a.2] 0 = some (.int a.1):=aN (j:=0) rfl
  simp [nJ,f0,f1]
theorem AB (p:iJ) (hn:∀ q ∈ p,q.2 ≠ []):eZ (c7 (aJ (ao 0) (aJ (ao 1) cV))) nS (aF cf (aF cf (aj 1) (x5 ka (xC (.int 1)))) (xC (.int 1))) [.un,.un] (p.map fI) = some ((pH p).map D.int):=by
 unfold pH
 rw [List.map_map]
 refine g9 fI _ p fun q hq=>?_
 obtain ⟨y,r⟩:=q
 rcases List.eq_nil_or_concat r with rfl | ⟨r0,a,rfl⟩
 ·exact absurd rfl (hn _ hq)
 ·have f0:b7 ((r0 ++ [a]).map gL) (-1) = some (gL a):=by
   unfold b7
   rw [List.length_map,List.length_append,List.length_singleton,lm]
   simp
  have f1:b7 [D.int a.1,D.int a.2] 1 = some (.int a.2):=aN (j:=1) rfl
  rw [List.map_append] at f0
  simp at f0
  simp [nJ,f0,f1]
structure PBx (p:iJ) (a b c d:Int):Prop where
 all:∀ X Y,fc p X Y -> a <= X /\ X <= c /\ b <= Y /\ Y <= d
 top:∃ X,fc p X b
 bot:∃ X,fc p X d
 lef:∃ Y,fc p a Y
 rig:∃ Y,fc p c Y
theorem FK {r:R} (c:cH r) {p:Int × Int} {t:R} (e:r = t ++ [p]) {x:Int} (h:iI r x):x <= p.2:=by
 subst e
 obtain ⟨_,h1,h2⟩:=canon_snoc.mp c
 rcases (mem_append ..).mp h with ⟨q,hq,z⟩ | h
 ·have:=h2 q hq;lia
 ·rcases (mem_cons ..).mp h with z | z
  ·exact z.2
  ·exact absurd z (bX _)
theorem qH {p:iJ} (cp:b8 p) (hp:p ≠ []) (hl:p.length <= 1000):∃ a b c d,PBx p a b c d /\ cz [eH p] = some (.tup [.int a,.int b,.int c,.int d]):=by
 have c1:=Dq p fun q hq=>(cp.1 q hq).2
 have c2:=AB p fun q hq=>(cp.1 q hq).2
 have hlim:p.length <= cG:=bH (by lia)
 have nl:vQ p ≠ []:=fun z=>hp (List.map_eq_nil_iff.mp z)
 have nh:pH p ≠ []:=fun z=>hp (List.map_eq_nil_iff.mp z)
 obtain ⟨a1,a2⟩:=Cs nl
 obtain ⟨b1,b2⟩:=Cr nh
 obtain ⟨q0,tl,e0⟩:∃ q0 tl,p = q0 :: tl:=by
  cases p with
  | nil=>exact absurd rfl hp
  | cons a b=>exact ⟨a,b,rfl⟩
 obtain ⟨ini,q1,e1⟩:∃ ini q1,p = ini ++ [q1]:=by
  rcases List.eq_nil_or_concat p with z | ⟨a,b,z⟩
  ·exact absurd z hp
  ·exact ⟨a,b,by rw [z,List.concat_eq_append]⟩
 have m0:q0 ∈ p:=by rw [e0];simp
 have m1:q1 ∈ p:=by rw [e1];simp
 have hfst:∀ q ∈ p,∃ u v,q.2 = u :: v /\ (q.2.head?.getD (0,0)).1 = u.1 /\ iI q.2 u.1:=fun q hq=>by
  obtain ⟨cq,nq⟩:=cp.1 q hq
  cases e:q.2 with
  | nil=>exact absurd e nq
  | cons u v=>
   rw [e] at cq
   exact ⟨u,v,rfl,rfl,(mem_cons ..).mpr (.inl ⟨Int.le_refl _,(canon_cons.mp cq).1⟩)⟩
 have hlst:∀ q ∈ p,∃ u v,q.2 = v ++ [u] /\ (q.2.getLast?.getD (0,0)).2 = u.2 /\ iI q.2 u.2:=fun q hq=>by
  obtain ⟨cq,nq⟩:=cp.1 q hq
  rcases List.eq_nil_or_concat q.2 with e | ⟨v,u,e⟩
  ·exact absurd e nq
  ·rw [List.concat_eq_append] at e
   rw [e] at cq
   refine ⟨u,v,e,by rw [e];simp,?_⟩
   rw [e]
   exact (mem_append ..).mpr (.inr ((mem_cons ..).mpr (.inl ⟨(canon_snoc.mp cq).2.1,Int.le_refl _⟩)))
 have pw:=cp.2
 refine ⟨lz (vQ p),q0.1,kP (pH p),q1.1,⟨fun X Y h=>?_,?_,?_,?_,?_⟩,?_⟩
 ·obtain ⟨q,hq,rfl,hm⟩:=h
  refine ⟨?_,?_,?_,?_⟩
  ·obtain ⟨u,v,e,e2,_⟩:=hfst q hq
   have:=a2 _ (List.mem_map_of_mem (f:=fun q:Int × R=>(q.2.head?.getD (0,0)).1) hq)
   rw [e2] at this
   have c3:=(cp.1 q hq).1
   rw [e] at hm c3
   have:=pB c3 hm
   lia
  ·obtain ⟨u,v,e,e2,_⟩:=hlst q hq
   have:=b2 _ (List.mem_map_of_mem (f:=fun q:Int × R=>(q.2.getLast?.getD (0,0)).2) hq)
   rw [e2] at this
   have:=FK (cp.1 q hq).1 e hm
   lia
  ·rw [e0] at hq pw
   rcases List.mem_cons.mp hq with rfl | hq
   ·exact Int.le_refl _
   ·exact Int.le_of_lt ((List.pairwise_cons.mp pw).1 q hq)
  ·rw [e1] at hq pw
   rcases List.mem_append.mp hq with hq | hq
   ·exact Int.le_of_lt ((List.pairwise_append.mp pw).2.2 q hq q1 (by simp))
   ·rw [List.mem_singleton.mp hq];exact Int.le_refl _
 ·obtain ⟨u,_,_,_,h⟩:=hfst q0 m0
  exact ⟨u.1,q0,m0,rfl,h⟩
 ·obtain ⟨u,_,_,_,h⟩:=hfst q1 m1
  exact ⟨u.1,q1,m1,rfl,h⟩
 ·obtain ⟨q,hq,e⟩:=List.mem_map.mp a1
  obtain ⟨u,_,_,e2,h⟩:=hfst q hq
  rw [<- e,e2]
  exact ⟨q.1,q,hq,rfl,h⟩
 ·obtain ⟨q,hq,e⟩:=List.mem_map.mp b1
  obtain ⟨u,_,_,e2,h⟩:=hlst q hq
  rw [<- e,e2]
  exact ⟨q.1,q,hq,rfl,h⟩
 ·have d0:fN false (eH p) (.tup []) = some (.bl false):=by
   unfold fN
   rw [if_pos ⟨ma _,by simp [b9,okDs]⟩,e0]
   simp [kd,eqDs]
  have f0:b7 (p.map fI) 0 = some (fI q0):=by rw [e0];exact aN (j:=0) rfl
  have f1:b7 (p.map fI) (-1) = some (fI q1):=by rw [e1,List.map_append];exact jA _ _
  have g0:∀ (y:Int) (d:D),b7 [D.int y,d] 0 = some (.int y):=fun y d=>aN (j:=0) rfl
  have k1:=B4 nl
  have k2:=B3 nh
  have ll:(vQ p).length = p.length:=by unfold vQ;rw [List.length_map]
  have lh:(pH p).length = p.length:=by unfold pH;rw [List.length_map]
  simp only [eH] at d0
  simp [cz,pU,gF,rS,d0,c1,c2,ll,lh,hlim,k1,k2,f0,f1,g0]
theorem pK:∀ (n:Nat) (a:Int),bd a n = (List.range n).map fun k:Nat=>D.int (a + k)
 | 0,_=>rfl
 | n + 1,a=>by
  rw [bd,pK n (a + 1),List.range_succ_eq_map,List.map_cons,List.map_map]
  congr 1
  ·simp
  ·refine List.map_congr_left fun k _=>?_
   simp
   lia
theorem BE (l:List (List Nat)):kF (l.map fun p=>D.str (T9 p)) = some (l.map T9):=by
 induction l with
 | nil=>rfl
 | cons p l ih=>
  show ((kF (l.map fun p=>D.str (T9 p))).map fun r=>T9 p :: r) = _
  rw [ih]
  rfl
theorem zn:∀ l:List Nat,((((l.map fun c=>[c]).map T9).map Str.length).sum) = l.length
 | []=>rfl
 | c :: l=>by
  have:=zn l
  simp only [List.map_cons,List.sum_cons,List.length_cons] at this ⊢
  rw [this]
  show 1 + l.length = _
  lia
theorem vF:∀ l:List Nat,(l.map fun c=>[c]).flatten = l
 | []=>rfl
 | c :: l=>by rw [List.map_cons,List.flatten_cons,vF l];rfl
theorem DJ (l:List Nat) (h:l.length <= 1000):Fe (.str (T9 [])) (.lst (l.map fun c=>D.str (T9 [c]))) = some (.str (T9 l)):=by
 have e:(l.map fun c=>D.str (T9 [c])) = (l.map fun c=>[c]).map fun p=>D.str (T9 p):=by rw [List.map_map];rfl
 show ((kF (l.map fun c=>D.str (T9 [c]))).bind fun ys=>if (ys.map (·.length)).sum + ys.length * (T9 []).length <= cG then some (D.str (Txt.join (T9 []) ys)) else none) = _
 rw [e,BE]
 simp only [Option.bind_some]
 have s:=zn l
 rw [if_pos (by
  rw [show (T9 []).length = 0 from rfl,Nat.mul_zero,Nat.add_zero]
  exact Nat.le_trans (Nat.le_of_eq s) (bH (by lia))),xh,xf]
 rw [vF]
noncomputable def Nm (b:Bool):Nat:=if b = true then 35 else 46
noncomputable def gC (r:R) (a:Int) (n:Nat):List Nat:=(List.range n).map fun i:Nat=>Nm (rd r (a + i))
theorem uK {r:R} (c:cH r) (hr:r.length <= 1000) (a b:Int) (hn:(b + 1 - a).toNat <= 1000):dX [Eo r,.int a,.int b] = some (.str (T9 (gC r a (b + 1 - a).toNat))):=by
 generalize en:(b + 1 - a).toNat = n at *
 have cm:eZ (ao 0) nS (KZ (rk (bB eh (ag (aL 1) (ag (aL 0) az)))) (xC (.str (Str.ofString "#"))) (xC (.str (Str.ofString ".")))) [.un,.sh (Eo r)] (bd a n) = some ((gC r a n).map fun c=>D.str (T9 [c])):=by
  unfold gC
  rw [pK,List.map_map]
  refine g9 (fun k:Nat=>D.int (a + k)) _ (List.range n) fun k _=>?_
  have e:=xm r (a + k) c (by lia)
  cases hm:rd r (a + k) <;> rw [hm] at e <;> simp [nJ,e,f9,oo,Nm,hm]
 have jo:=DJ (gC r a n) (by unfold gC;simp;lia)
 have hl:(bd a n).length <= cG:=by rw [fQ];exact bH (by lia)
 have ra:Il [.int a,.int (b + 1)] = some (bd a n):=by
  show some (bd a (b + 1 - a).toNat) = _
  rw [en]
 simp [dX,lF,gF,mU,ra,hl,cm,jo,oH]
noncomputable def ji (p:iJ) (a b:Int) (m n:Nat):List (List Nat):=(List.range m).map fun k:Nat=>gC (dY p (b + k)) a n
theorem En {p:iJ} (c:b8 p) {n:Nat} (h:∀ q ∈ p,q.2.length <= n) (y:Int):(dY p y).length <= n:=by
 unfold dY
 cases q:p.find? fun q=>decide (q.1 = y) with
 | none=>exact Nat.zero_le _
 | some z=>exact h z (List.mem_of_find?_eq_some q)
theorem tH {p:iJ} (cp:b8 p) (hp:p ≠ []) (hl:p.length <= 1000) (hr:∀ q ∈ p,q.2.length <= 1000) {a b c d:Int} (hb:cz [eH p] = some (.tup [.int a,.int b,.int c,.int d])) (h1:a <= c) (h2:b <= d) (h3:d - b + 1 <= 1000) (h4:(c - a + 1) * (d - b + 1) <= 1000) :
  gb [eH p] = some (.lst ((ji p a b (d + 1 - b).toNat (c + 1 - a).toNat).map fun l=>O.sh (.str (T9 l)))):=by
 have hw:c - a + 1 <= 1000:=by
  have:(c - a + 1) * 1 <= (c - a + 1) * (d - b + 1):=Int.mul_le_mul_of_nonneg_left (by lia) (by lia)
  lia
 generalize em:(d + 1 - b).toNat = m at *
 have d0:fN false (eH p) (.tup []) = some (.bl false):=by
  unfold fN
  rw [if_pos ⟨ma _,by simp [b9,okDs]⟩]
  cases p with
  | nil=>exact absurd rfl hp
  | cons q t=>simp [kd,eqDs]
 have f:∀ a b c d:D,b7 [a,b,c,d] 0 = some a /\ b7 [a,b,c,d] 1 = some b /\ b7 [a,b,c,d] 2 = some c /\ b7 [a,b,c,d] 3 = some d:=fun a b c d=>⟨aN (j:=0) rfl,aN (j:=1) rfl,aN (j:=2) rfl,aN (j:=3) rfl⟩
 obtain ⟨f0,f1,f2,f3⟩:=f (.int a) (.int b) (.int c) (.int d)
 have mu:uy (.int (c - a + 1)) (.int (d - b + 1)) = some (.int ((c - a + 1) * (d - b + 1))):=xW (by lia)
 have cm:eZ (ao 0) nS (bB dX (ag (bB eJ (ag (aL 1) (ag (aL 0) az))) (ag (aF cf (aj 2) (xC (.int 0))) (ag (aF cf (aj 2) (xC (.int 2))) az)))) [.un,.sh (eH p),.sh (.tup [.int a,.int b,.int c,.int d])] (bd b m) = some ((ji p a b m (c + 1 - a).toNat).map fun l=>D.str (T9 l)):=by
  unfold ji
  rw [pK,List.map_map]
  refine g9 (fun k:Nat=>D.int (b + k)) _ (List.range m) fun k _=>?_
  have e1:=y3 p (b + k) cp (by lia)
  have e2:=uK (zS cp (b + k)) (En cp hr (b + k)) a c (by lia)
  simp [nJ,e1,e2,f0,f2]
 have hlm:(bd b m).length <= cG:=by rw [fQ];exact bH (by lia)
 have ra:Il [.int b,.int (d + 1)] = some (bd b m):=by
  show some (bd b (d + 1 - b).toNat) = _
  rw [em]
 have hg:¬ (1000:Int) < (c - a + 1) * (d - b + 1):=by lia
 simp only [eH] at d0 hb cm
 generalize (c - a + 1) * (d - b + 1) = area at *
 simp [gb,gF,wE,d0,hb,f0,f1,f2,f3,mu,hg,ra,hlm,cm]
theorem uT {p:iJ} (hp:p ≠ []) {a b c d:Int} (hb:cz [eH p] = some (.tup [.int a,.int b,.int c,.int d])) (h2:-10000 < d - b + 1) (h3:d - b + 1 <= 10000) (h4:1000 < (c - a + 1) * (d - b + 1)):ku [eH p] = some (Str.ofString "TooGreat"):=by
 have d0:fN false (eH p) (.tup []) = some (.bl false):=by
  unfold fN
  rw [if_pos ⟨ma _,by simp [b9,okDs]⟩]
  cases p with
  | nil=>exact absurd rfl hp
  | cons q t=>simp [kd,eqDs]
 have f:∀ a b c d:D,b7 [a,b,c,d] 0 = some a /\ b7 [a,b,c,d] 1 = some b /\ b7 [a,b,c,d] 2 = some c /\ b7 [a,b,c,d] 3 = some d:=fun a b c d=>⟨aN (j:=0) rfl,aN (j:=1) rfl,aN (j:=2) rfl,aN (j:=3) rfl⟩
 obtain ⟨f0,f1,f2,f3⟩:=f (.int a) (.int b) (.int c) (.int d)
 have mu:uy (.int (c - a + 1)) (.int (d - b + 1)) = some (.int ((c - a + 1) * (d - b + 1))):=xW (by lia)
 simp only [eH] at d0 hb
 generalize (c - a + 1) * (d - b + 1) = area at *
 simp [ku,Hf,wF,d0,hb,f0,f1,f2,f3,mu,h4]
theorem xH {p:iJ} (hp:p ≠ []) {a b c d:Int} (hb:cz [eH p] = some (.tup [.int a,.int b,.int c,.int d])) (h2:-10000 < d - b + 1) (h3:d - b + 1 <= 10000) (h4:(c - a + 1) * (d - b + 1) <= 1000):ku [eH p] = none:=by
 have d0:fN false (eH p) (.tup []) = some (.bl false):=by
  unfold fN
  rw [if_pos ⟨ma _,by simp [b9,okDs]⟩]
  cases p with
  | nil=>exact absurd rfl hp
  | cons q t=>simp [kd,eqDs]
 have f:∀ a b c d:D,b7 [a,b,c,d] 0 = some a /\ b7 [a,b,c,d] 1 = some b /\ b7 [a,b,c,d] 2 = some c /\ b7 [a,b,c,d] 3 = some d:=fun a b c d=>⟨aN (j:=0) rfl,aN (j:=1) rfl,aN (j:=2) rfl,aN (j:=3) rfl⟩
 obtain ⟨f0,f1,f2,f3⟩:=f (.int a) (.int b) (.int c) (.int d)
 have mu:uy (.int (c - a + 1)) (.int (d - b + 1)) = some (.int ((c - a + 1) * (d - b + 1))):=xW (by lia)
 have hg:¬ (1000:Int) < (c - a + 1) * (d - b + 1):=by lia
 simp only [eH] at d0 hb
 generalize (c - a + 1) * (d - b + 1) = area at *
 simp [ku,Hf,wF,d0,hb,f0,f1,f2,f3,mu,hg]
theorem Ew (l:List Nat) (i j:Nat) (h1:i <= j) (h2:j <= l.length):Txt.slice (T9 l) (some (i:Int)) (some (j:Int)) = T9 ((l.drop i).take (j - i)):=by
 have h:=beq_iff_eq.mp (PyProof.Rows.slice_closes (x:=T9 l) (i:=i) (j:=j) ⟨by lia,by lia,by rw [CY];lia⟩)
 rw [h]
 refine qq ?_
 show (List.take _ (List.drop _ l)) = _
 rw [Int.toNat_natCast,show ((j:Int) - (i:Int)).toNat = j - i by lia]
theorem GK (l:List Nat) (j:Nat) (h2:j <= l.length):Txt.slice (T9 l) none (some (j:Int)) = T9 (l.take j):=by
 have h:=beq_iff_eq.mp (PyProof.Rows.slice_closes_to (x:=T9 l) (j:=j) ⟨by lia,by rw [CY];lia⟩)
 rw [h]
 refine qq ?_
 show (List.take _ (List.drop _ l)) = _
 rw [show (0:Int).toNat = 0 from rfl,List.drop_zero,show ((j:Int) - 0).toNat = j by lia]
theorem Ey (l:List Nat) (i:Nat) (h2:i <= l.length):Txt.slice (T9 l) (some (i:Int)) none = T9 (l.drop i):=by
 have h:=PyProof.Rows.slice_from_eq (x:=T9 l) (i:=i) (b:=(l.length:Int)) (by lia) (by rw [uk];lia) rfl
 rw [h]
 refine qq ?_
 show (List.take _ (List.drop _ l)) = _
 rw [Int.toNat_natCast]
 exact List.take_of_length_le (by rw [List.length_drop];lia)
noncomputable def lu (l:List Nat) (L n:Nat):List Nat:=((l ++ List.replicate 10 46).drop L).take n
noncomputable def mv (ts:List (List Nat)) (T L n:Nat):Nat -> List (List Nat)
 | 0=>[]
 | m + 1=>lu (ts.getD T []) L n :: mv ts (T + 1) L n m
theorem GY:Ca (.str (T9 [46])) (.int 10) = some (.str (T9 (List.replicate 10 46))):=by
 show (if (T9 [46]).length = 1 /\ (1:Int) < 10 /\ (10:Int) <= 1000 then some (D.str ⟨(List.replicate (10:Int).toNat (T9 [46]).cps).foldl (· ++ ·) #[]⟩) else none) = _
 rw [if_pos ⟨rfl,by decide,by decide⟩]
 rfl
theorem Hv {ts:List (List Nat)} {k:Nat} {l:List Nat} (hk:ts[k]? = some l) (h9:l.length <= 9) (L T R B:Nat) (hLR:L <= R) (hR:R < 9) (acc:List (List Nat)) (v:Sl) (ha:acc.length <= 1000) :
  ∃ v',jT [.sh (fZ ts),.sh (.tup [.int (L:Nat),.int (T:Nat),.int (R:Nat),.int (B:Nat)]),.ow (.lst (acc.map fun l=>O.sh (.str (T9 l)))),.sh (.int k),v] =
   some (.nx [.sh (fZ ts),.sh (.tup [.int (L:Nat),.int (T:Nat),.int (R:Nat),.int (B:Nat)]),.ow (.lst ((acc ++ [lu l L (R + 1 - L)]).map fun l=>O.sh (.str (T9 l)))),.sh (.int k),v']):=by
 have e1:=wm hk
 have e2:=GY
 have lw:l.length + 10 <= cG:=bH (by lia)
 have e3:cJ (.str (T9 l)) (.str (T9 (List.replicate 10 46))) = some (.str (T9 (l ++ List.replicate 10 46))):=by
  show (if l.length + 10 <= cG then some (D.str (T9 l ++ T9 (List.replicate 10 46))) else none) = _
  rw [if_pos lw,uj]
 have e4:=Ew (l ++ List.replicate 10 46) L (R + 1) (by lia) (by rw [List.length_append,List.length_replicate];lia)
 have e5:Hs (.str (T9 (l ++ List.replicate 10 46))) (some (L:Int)) (some ((R:Int) + 1)) = some (.str (T9 (lu l L (R + 1 - L)))):=by
  show (if (l ++ List.replicate 10 46).length <= cG then some (D.str (Txt.slice (T9 (l ++ List.replicate 10 46)) (some (L:Int)) (some ((R:Int) + 1)))) else none) = _
  rw [if_pos (by rw [List.length_append,List.length_replicate];exact lw),show ((R:Int) + 1) = ((R + 1:Nat):Int) by push_cast;rfl,e4]
  rfl
 have hl:acc.length < cG:=gQ (by lia)
 have f:∀ a b c d:D,b7 [a,b,c,d] 0 = some a /\ b7 [a,b,c,d] 2 = some c:=fun a b c d=>⟨aN (j:=0) rfl,aN (j:=2) rfl⟩
 obtain ⟨f0,f2⟩:=f (.int (L:Nat)) (.int (T:Nat)) (.int (R:Nat)) (.int (B:Nat))
 simp only [fZ] at e1
 generalize T9 (List.replicate 10 46) = dots at *
 refine ⟨.sh (.str (T9 (l ++ List.replicate 10 46))),?_⟩
 generalize T9 (l ++ List.replicate 10 46) = lw at *
 simp [jT,e1,e2,e3,e5,f0,f2,hl,oo]
theorem Cc {ts:List (List Nat)} (h9:∀ l ∈ ts,l.length <= 9) (L T R B:Nat) (hLR:L <= R) (hR:R < 9):∀ (m k:Nat) (acc:List (List Nat)) (v3 v4:Sl),k + m <= ts.length -> acc.length + m <= 1000 ->
  ∃ v3' v4',bO (ao 3) jT (bd k m) [.sh (fZ ts),.sh (.tup [.int (L:Nat),.int (T:Nat),.int (R:Nat),.int (B:Nat)]),.ow (.lst (acc.map fun l=>O.sh (.str (T9 l)))),v3,v4] =
   some (.nx [.sh (fZ ts),.sh (.tup [.int (L:Nat),.int (T:Nat),.int (R:Nat),.int (B:Nat)]),.ow (.lst ((acc ++ mv ts k L (R + 1 - L) m).map fun l=>O.sh (.str (T9 l)))),v3',v4'])
 | 0,k,acc,v3,v4,_,_=>⟨v3,v4,by simp [bO,bd,mv]⟩
 | m + 1,k,acc,v3,v4,hk,ha=>by
  have hk1:ts[k]? = some ts[k]:=List.getElem?_eq_getElem (by lia)
  obtain ⟨v,e⟩:=Hv hk1 (h9 _ (List.mem_of_getElem? hk1)) L T R B hLR hR acc v4 (by lia)
  obtain ⟨v3',v4',e2⟩:=Cc h9 L T R B hLR hR m (k + 1) (acc ++ [lu ts[k] L (R + 1 - L)]) (.sh (.int k)) v (by lia) (by rw [List.length_append,List.length_singleton];lia)
  refine ⟨v3',v4',?_⟩
  rw [bd,bO]
  simp only [ao,Option.bind_some]
  rw [show List.set [Sl.sh (fZ ts),.sh (.tup [.int (L:Nat),.int (T:Nat),.int (R:Nat),.int (B:Nat)]),.ow (.lst (acc.map fun l=>O.sh (.str (T9 l)))),v3,v4] 3 (.sh (.int k)) = [.sh (fZ ts),.sh (.tup [.int (L:Nat),.int (T:Nat),.int (R:Nat),.int (B:Nat)]),.ow (.lst (acc.map fun l=>O.sh (.str (T9 l)))),.sh (.int k),v4] from rfl,e]
  simp only []
  rw [show ((k:Int) + 1) = ((k + 1:Nat):Int) by push_cast;rfl,e2,mv,show ts.getD k [] = ts[k] by simp [show k < ts.length by lia],List.append_assoc]
  rfl
theorem Ja {ts:List (List Nat)} {L T R B:Nat} (b:Bx ts L T R B) (h9:∀ l ∈ ts,l.length <= 9):L <= R /\ T <= B /\ R < 9 /\ B < ts.length:=by
 obtain ⟨i,hi⟩:=b.rig
 obtain ⟨j,hj⟩:=b.bot
 have h1:=b.all _ _ hi
 have h2:=b.all _ _ hj
 obtain ⟨l,e1,e2⟩:=hi
 have:=(List.getElem?_eq_some_iff.mp e2).1
 have:=h9 l (List.mem_of_getElem? e1)
 obtain ⟨l2,e3,_⟩:=hj
 have:=(List.getElem?_eq_some_iff.mp e3).1
 lia
theorem re {ts:List (List Nat)} (h9:∀ l ∈ ts,l.length <= 9) (hn:ts.length <= 9) {L T R B:Nat} (b:Bx ts L T R B) (hb:dW [fZ ts] = some (.tup [.int (L:Nat),.int (T:Nat),.int (R:Nat),.int (B:Nat)])) :
  e9 [fZ ts] = some (.lst ((mv ts T L (R + 1 - L) (B + 1 - T)).map fun l=>O.sh (.str (T9 l)))):=by
 obtain ⟨h1,h2,h3,h4⟩:=Ja b h9
 obtain ⟨v3,v4,e⟩:=Cc h9 L T R B h1 h3 (B + 1 - T) T [] .un .un (by lia) (by simp;lia)
 have f:∀ a b c d:D,b7 [a,b,c,d] 1 = some b /\ b7 [a,b,c,d] 3 = some d:=fun a b c d=>⟨aN (j:=1) rfl,aN (j:=3) rfl⟩
 obtain ⟨f1,f3⟩:=f (.int (L:Nat)) (.int (T:Nat)) (.int (R:Nat)) (.int (B:Nat))
 have ra:Il [.int (T:Nat),.int ((B:Int) + 1)] = some (bd T (B + 1 - T)):=by
  show some (bd T ((B:Int) + 1 - (T:Int)).toNat) = _
  rw [show ((B:Int) + 1 - (T:Int)).toNat = B + 1 - T by lia]
 simp only [List.map_nil,List.nil_append] at e
 simp [e9,gF,nZ,hb,f1,f3,ra,e,oj,ik]
theorem pW {ts:List (List Nat)} (hb:dW [fZ ts] = some .non):e9 [fZ ts] = some (.lst []):=by
 simp [e9,gF,nZ,hb,oj,ik]
theorem pP (l:List Nat) (L n i:Nat) (h:L + n <= 10):(lu l L n)[i]? = if i < n then some (match l[L + i]? with | some c=>c | none=>46) else none:=by
 unfold lu
 by_cases hi:i < n
 ·rw [if_pos hi,List.getElem?_take_of_lt hi,List.getElem?_drop]
  by_cases hl:L + i < l.length
  ·rw [List.getElem?_append_left hl,List.getElem?_eq_getElem hl]
  ·rw [List.getElem?_append_right (by lia),List.getElem?_eq_none (l:=l) (by lia),List.getElem?_replicate,if_pos (by lia)]
 ·rw [if_neg hi,List.getElem?_eq_none]
  rw [List.length_take]
  lia
theorem FF {l:List Nat} (h:Sg l) (L n:Nat) (hn:L + n <= 10):Sg (lu l L n):=by
 refine ⟨fun d hd=>?_,by unfold lu;rw [List.length_take];lia⟩
 obtain ⟨i,hi,e⟩:=List.getElem_of_mem hd
 have:=pP l L n i hn
 rw [List.getElem?_eq_getElem hi,e] at this
 split at this
 ·have e2:=Option.some.inj this
  cases q:l[L + i]? with
  | none=>rw [q] at e2;exact .inr e2
  | some c=>rw [q] at e2;rw [e2];exact h.1 c (List.mem_of_getElem? q)
 ·cases this
theorem yZ (l:List Nat) (L n i:Nat) (h:L + n <= 10):(lu l L n)[i]? = some 35 ↔ i < n /\ l[L + i]? = some 35:=by
 rw [pP l L n i h]
 split
 ·rename_i hi
  cases q:l[L + i]? with
  | none=>simp
  | some c=>simp [hi]
 ·rename_i hi
  simp [hi]
theorem sD (ts:List (List Nat)) (L n:Nat):∀ (m T i:Nat),(mv ts T L n m)[i]? = if i < m then some (lu (ts.getD (T + i) []) L n) else none
 | 0,T,i=>by simp [mv]
 | m + 1,T,i=>by
  rw [mv]
  cases i with
  | zero=>simp
  | succ i=>
   rw [List.getElem?_cons_succ,sD ts L n m (T + 1) i,show T + 1 + i = T + (i + 1) by lia]
   by_cases h:i < m
   ·rw [if_pos h,if_pos (by lia)]
   ·rw [if_neg h,if_neg (by lia)]
theorem sE (ts:List (List Nat)) (L n:Nat):∀ (m T:Nat),(mv ts T L n m).length = m
 | 0,_=>rfl
 | m + 1,T=>by rw [mv,List.length_cons,sE ts L n m]
theorem B8 {ts:List (List Nat)} (h:∀ l ∈ ts,Sg l) (T L n m:Nat) (hn:L + n <= 10):∀ l ∈ mv ts T L n m,Sg l:=fun l hl=>by
 obtain ⟨i,hi,e⟩:=List.getElem_of_mem hl
 have:=sD ts L n m T i
 rw [List.getElem?_eq_getElem hi,e] at this
 split at this
 ·rw [Option.some.inj this]
  refine FF ?_ L n hn
  by_cases hk:T + i < ts.length
  ·rw [show ts.getD (T + i) [] = ts[T + i] by simp [hk]]
   exact h _ (List.getElem_mem hk)
  ·rw [show ts.getD (T + i) [] = [] by simp [List.getElem?_eq_none (show ts.length <= T + i by lia)]]
   exact ⟨fun _ z=>absurd z List.not_mem_nil,Nat.zero_le _⟩
 ·cases this
theorem getD_cell {ts:List (List Nat)} {k j:Nat}:(ts.getD k [])[j]? = some 35 ↔ dN ts k j:=by
 by_cases hk:k < ts.length
 ·rw [show ts.getD k [] = ts[k] by simp [hk]]
  constructor
  ·intro h;exact ⟨_,List.getElem?_eq_getElem hk,h⟩
  ·rintro ⟨l,e,h⟩
   rw [List.getElem?_eq_getElem hk] at e
   rw [Option.some.inj e];exact h
 ·rw [show ts.getD k [] = [] by simp [List.getElem?_eq_none (show ts.length <= k by lia)]]
  constructor
  ·intro h;simp at h
  ·rintro ⟨l,e,_⟩
   rw [List.getElem?_eq_none (by lia)] at e
   cases e
theorem vw (ts:List (List Nat)) (T L n m i j:Nat) (hn:L + n <= 10):dN (mv ts T L n m) i j ↔ i < m /\ j < n /\ dN ts (T + i) (L + j):=by
 unfold dN
 rw [sD]
 constructor
 ·rintro ⟨l,e,h⟩
  split at e
  ·rename_i hi
   rw [<- Option.some.inj e,yZ _ _ _ _ hn] at h
   exact ⟨hi,h.1,getD_cell.mp h.2⟩
  ·cases e
 ·rintro ⟨hi,hj,h⟩
  exact ⟨_,if_pos hi,(yZ _ _ _ _ hn).mpr ⟨hj,getD_cell.mpr h⟩⟩
section
variable {ts:List (List Nat)} {p:iJ} {x y:Int} {L T R B:Nat}
theorem E6 (m:∀ X Y,fc p X Y ↔ ∃ i j:Nat,dN ts i j /\ X = x + j /\ Y = y + i) (b:Bx ts L T R B) {a1 b1 c1 d1:Int} (pb:PBx p a1 b1 c1 d1):a1 = x + L /\ b1 = y + T /\ c1 = x + R /\ d1 = y + B:=by
 have k1:∀ i j,dN ts i j -> a1 <= x + j /\ x + j <= c1 /\ b1 <= y + i /\ y + i <= d1:=fun i j h=>pb.all _ _ ((m _ _).mpr ⟨i,j,h,rfl,rfl⟩)
 obtain ⟨Y1,h1⟩:=pb.lef
 obtain ⟨Y2,h2⟩:=pb.rig
 obtain ⟨X1,h3⟩:=pb.top
 obtain ⟨X2,h4⟩:=pb.bot
 obtain ⟨i1,j1,g1,e1,_⟩:=(m _ _).mp h1
 obtain ⟨i2,j2,g2,e2,_⟩:=(m _ _).mp h2
 obtain ⟨i3,j3,g3,_,e3⟩:=(m _ _).mp h3
 obtain ⟨i4,j4,g4,_,e4⟩:=(m _ _).mp h4
 have q1:=b.all _ _ g1
 have q2:=b.all _ _ g2
 have q3:=b.all _ _ g3
 have q4:=b.all _ _ g4
 obtain ⟨u1,r1⟩:=b.lef
 obtain ⟨u2,r2⟩:=b.rig
 obtain ⟨u3,r3⟩:=b.top
 obtain ⟨u4,r4⟩:=b.bot
 have s1:=k1 _ _ r1
 have s2:=k1 _ _ r2
 have s3:=k1 _ _ r3
 have s4:=k1 _ _ r4
 lia
theorem GL (cp:b8 p) (m:∀ X Y,fc p X Y ↔ ∃ i j:Nat,dN ts i j /\ X = x + j /\ Y = y + i) (h:∀ l ∈ ts,Sg l) (k n:Nat) (hn:L + n <= 10):gC (dY p (y + k)) (x + L) n = lu (ts.getD k []) L n:=by
 apply List.ext_getElem?
 intro i
 rw [pP _ _ _ _ hn]
 unfold gC
 rw [List.getElem?_map]
 by_cases hi:i < n
 ·rw [List.getElem?_range hi,if_pos hi]
  simp only [Option.map_some]
  congr 1
  have key:rd (dY p (y + k)) (x + L + i) = true ↔ dN ts k (L + i):=by
   rw [lv,p6 cp,m]
   constructor
   ·rintro ⟨a,b,h1,h2,h3⟩
    have e1:a = k:=by lia
    have e2:b = L + i:=by lia
    rw [<- e1,<- e2];exact h1
   ·intro h1
    exact ⟨k,L + i,h1,by push_cast;lia,rfl⟩
  cases hm:rd (dY p (y + k)) (x + L + i) with
  | true=>
   rw [getD_cell.mpr (key.mp hm)]
   rfl
  | false=>
   have nc:¬ dN ts k (L + i):=fun z=>by rw [key.mpr z] at hm;cases hm
   cases q:(ts.getD k [])[L + i]? with
   | none=>rfl
   | some c=>
    have hk:k < ts.length:=by
     by_cases hk:k < ts.length
     ·exact hk
     ·rw [show ts.getD k [] = [] by simp [List.getElem?_eq_none (show ts.length <= k by lia)]] at q
      simp at q
    have hc:c = 35 \/ c = 46:=by
     rw [show ts.getD k [] = ts[k] by simp [hk]] at q
     exact (h _ (List.getElem_mem hk)).1 c (List.mem_of_getElem? q)
    rcases hc with rfl | rfl
    ·exact absurd (getD_cell.mp q) nc
    ·rfl
 ·rw [if_neg hi,List.getElem?_eq_none (by rw [List.length_range];lia)]
  rfl
theorem vA (cp:b8 p) (mm:∀ X Y,fc p X Y ↔ ∃ i j:Nat,dN ts i j /\ X = x + j /\ Y = y + i) (h:∀ l ∈ ts,Sg l) (n:Nat) (hn:L + n <= 10):∀ (m T:Nat),ji p (x + L) (y + T) m n = mv ts T L n m
 | 0,_=>rfl
 | m + 1,T=>by
  have ih:=vA cp mm h n hn m (T + 1)
  unfold ji at ih ⊢
  rw [List.range_succ_eq_map,List.map_cons,List.map_map,mv]
  congr 1
  ·simpa using GL (x:=x) (L:=L) cp mm h T n hn
  ·rw [<- ih]
   refine List.map_congr_left fun k _=>?_
   show gC (dY p (y + T + ((k + 1:Nat):Int))) (x + L) n = gC (dY p (y + ((T + 1:Nat):Int) + k)) (x + L) n
   rw [show y + T + ((k + 1:Nat):Int) = y + ((T + 1:Nat):Int) + k by push_cast;lia]
theorem Em (cp:b8 p) (mm:∀ X Y,fc p X Y ↔ ∃ i j:Nat,dN ts i j /\ X = x + j /\ Y = y + i) (h:∀ l ∈ ts,Sg l) (b:Bx ts L T R B) (hR:R < 9) (hn:ts.length <= 9) (hB:B < ts.length) (hLR:L <= R) :
  aZ [fZ (mv ts T L (R + 1 - L) (B + 1 - T)),.int (x + L),.int (y + T)] = some (eH p):=by
 have sg:=B8 h T L (R + 1 - L) (B + 1 - T) (by lia)
 rw [kL sg (by rw [sE];lia),tS cp fun X Y=>?_]
 rw [BH _ X Y _ _ sg,mm]
 constructor
 ·rintro ⟨i,j,h1,h2,h3⟩
  rw [vw _ _ _ _ _ _ _ (by lia)] at h1
  exact ⟨T + i,L + j,h1.2.2,by push_cast;lia,by push_cast;lia⟩
 ·rintro ⟨i,j,h1,h2,h3⟩
  obtain ⟨q1,q2,q3,q4⟩:=b.all _ _ h1
  refine ⟨i - T,j - L,(vw _ _ _ _ _ _ _ (by lia)).mpr ⟨by lia,by lia,?_⟩,by lia,by lia⟩
  rw [show T + (i - T) = i by lia,show L + (j - L) = j by lia]
  exact h1
end
theorem bM (ns:List Int) (k:Nat):∃ f:Int,aH [.scr (ns.map D.int),.int k] = some (.int f):=by
 by_cases h:k < ns.length
 ·have ea:b7 (ns.map D.int) (k:Int) = some (.int ns[k]):=aN (by rw [List.getElem?_map,List.getElem?_eq_getElem h];rfl)
  have h':(k:Int) < (ns.length:Int):=by lia
  exact ⟨ns[k],by simp [aH,iR,gF,jW,h,h',ea]⟩
 ·have h':¬ (k:Int) < (ns.length:Int):=by lia
  exact ⟨0,by simp [aH,iR,gF,jW,h,h']⟩
theorem kJ (c m:Int) (h:0 < m):∃ f:Int,dE [.int c,.int m] = some (.int f):=by
 by_cases hc:c < 0
 ·exact ⟨_,by simp [dE,kn,gF,lR,h,hc];rfl⟩
 ·exact ⟨_,by simp [dE,kn,gF,lR,h,hc];rfl⟩
theorem nQ (c:Int):c % 2 = 0 \/ c % 2 = 1:=by lia
theorem IA (c:Int):∃ s,(s = 35 \/ s = 46) /\ cf (.str (T9 [46,35])) (.int (c % 2)) = some (.str (T9 [s])):=by
 have h2:([46,35]:List Nat).length <= 20:=by decide
 rcases nQ c with e | e
 ·exact ⟨46,.inr rfl,by rw [e];exact GH (j:=0) h2 rfl⟩
 ·exact ⟨35,.inl rfl,by rw [e];exact GH (j:=1) h2 rfl⟩
theorem C3 (s0 s1 s2:Sl):∀ (n:Nat) (j:Int) (c:Int) (l:List Nat) (v:Sl),Sg l -> l.length + n <= 20 ->
  ∃ l' c' v',bO (ao 5) gN (bd j n) [s0,s1,s2,.sh (.int c),.sh (.str (T9 l)),v] = some (.nx [s0,s1,s2,.sh (.int c'),.sh (.str (T9 l')),v']) /\ Sg l' /\ l'.length = l.length + n
 | 0,j,c,l,v,h,_=>⟨l,c,v,by simp [bO,bd],h,rfl⟩
 | n + 1,j,c,l,v,h,hn=>by
  obtain ⟨s,hs,e⟩:=IA c
  have lw:l.length + 1 <= cG:=bH (by lia)
  have e3:cJ (.str (T9 l)) (.str (T9 [s])) = some (.str (T9 (l ++ [s]))):=by
   show (if l.length + 1 <= cG then some (D.str (T9 l ++ T9 [s])) else none) = _
   rw [if_pos lw,uj]
  have sg:Sg (l ++ [s]):=⟨fun d hd=>by
   rcases List.mem_append.mp hd with hd | hd
   ·exact h.1 d hd
   ·rw [List.mem_singleton.mp hd];exact hs,by rw [List.length_append,List.length_singleton];lia⟩
  obtain ⟨l',c',v',e2,g1,g2⟩:=C3 s0 s1 s2 n (j + 1) (c / 2) (l ++ [s]) (.sh (.int j)) sg (by rw [List.length_append,List.length_singleton];lia)
  refine ⟨l',c',v',?_,g1,by rw [g2,List.length_append,List.length_singleton];lia⟩
  have st:gN [s0,s1,s2,.sh (.int c),.sh (.str (T9 l)),.sh (.int j)] = some (.nx [s0,s1,s2,.sh (.int (c / 2)),.sh (.str (T9 (l ++ [s]))),.sh (.int j)]):=by
   have dt:Str.ofString ".#" = T9 [46,35]:=rfl
   simp [gN,dt,e,e3]
  rw [bd,bO]
  simp only [ao,Option.bind_some]
  rw [show List.set [s0,s1,s2,Sl.sh (.int c),.sh (.str (T9 l)),v] 5 (.sh (.int j)) = [s0,s1,s2,.sh (.int c),.sh (.str (T9 l)),.sh (.int j)] from rfl,st]
  simp only []
  exact e2
theorem GX (ns:List Int):∀ (n k:Nat) (acc:List (List Nat)) (v2 v3 v4 v5:Sl),(∀ l ∈ acc,Sg l /\ l.length <= 9) -> acc.length + n <= 20 ->
  ∃ (acc':List (List Nat)) (v2' v3' v4' v5':Sl),bO (ao 2) gO (bd k n) [.sh (.scr (ns.map D.int)),.ow (.lst (acc.map fun l=>O.sh (.str (T9 l)))),v2,v3,v4,v5] =
   some (.nx [.sh (.scr (ns.map D.int)),.ow (.lst (acc'.map fun l=>O.sh (.str (T9 l)))),v2',v3',v4',v5']) /\ (∀ l ∈ acc',Sg l /\ l.length <= 9) /\ acc'.length = acc.length + n
 | 0,k,acc,v2,v3,v4,v5,h,_=>⟨acc,v2,v3,v4,v5,by simp [bO,bd],h,rfl⟩
 | n + 1,k,acc,v2,v3,v4,v5,h,hn=>by
  obtain ⟨f,hf⟩:=bM ns (3 + k)
  obtain ⟨q,hq⟩:∃ q:Int,cf (.lst [.int 48271,.int 39373]) (.int ((k:Int) % 2)) = some (.int q) /\ -100000 < q /\ q < 100000:=by
   rcases nQ k with e | e
   ·exact ⟨48271,by rw [e];exact aN (j:=0) rfl,by decide,by decide⟩
   ·exact ⟨39373,by rw [e];exact aN (j:=1) rfl,by decide,by decide⟩
  have mu:uy (.int f) (.int q) = some (.int (f * q)):=xW (by lia)
  have m1:fO (.int (f * q)) (.int 2147483647) = some (.int (f * q % 2147483647)):=mM (by decide)
  have d1:kO (.int (f * q % 2147483647)) (.int 37) = some (.int (f * q % 2147483647 / 37)):=uo (by decide)
  generalize ec:f * q % 2147483647 / 37 = c at *
  have d2:kO (.int c) (.int 512) = some (.int (c / 512)):=uo (by decide)
  have m2:fO (.int (c / 512)) (.int 10) = some (.int (c / 512 % 10)):=mM (by decide)
  have hm0:0 <= c / 512 % 10:=Int.emod_nonneg _ (by decide)
  have hm1:c / 512 % 10 < 10:=Int.emod_lt_of_pos _ (by decide)
  generalize c / 512 % 10 = g at *
  have rn:Br [.int g] = some (bd 0 g.toNat):=by
   show (vI _ _ _) = _
   rw [fv (by lia)]
  obtain ⟨l,c',v',e,sg,ll⟩:=C3 (.sh (.scr (ns.map D.int))) (.ow (.lst (acc.map fun l=>O.sh (.str (T9 l))))) (.sh (.int k)) g.toNat 0 c [] v5 ⟨fun _ z=>absurd z List.not_mem_nil,Nat.zero_le _⟩ (by simp;lia)
  have hl:acc.length < cG:=gQ (by lia)
  have hf':aH [.scr (ns.map D.int),.int (3 + (k:Int))] = some (.int f):=by
   rw [<- hf];push_cast;rfl
  have st:gO [.sh (.scr (ns.map D.int)),.ow (.lst (acc.map fun l=>O.sh (.str (T9 l)))),.sh (.int k),v3,v4,v5] = some (.nx [.sh (.scr (ns.map D.int)),.ow (.lst ((acc ++ [l]).map fun l=>O.sh (.str (T9 l)))),.sh (.int k),.sh (.int c'),.sh (.str (T9 l)),v']):=by
   have h2:(2:Nat) <= cG:=bH (by decide)
   simp [gO,hf',hq.1,mu,m1,d1,d2,m2,rn,e,hl,h2,oH]
  obtain ⟨a2,w2,w3,w4,w5,e2,g1,g2⟩:=GX ns n (k + 1) (acc ++ [l]) (.sh (.int k)) (.sh (.int c')) (.sh (.str (T9 l))) v' (fun m hm=>by
   rcases List.mem_append.mp hm with hm | hm
   ·exact h m hm
   ·rw [List.mem_singleton.mp hm];exact ⟨sg,by rw [ll];simp;lia⟩) (by rw [List.length_append,List.length_singleton];lia)
  refine ⟨a2,w2,w3,w4,w5,?_,g1,by rw [g2,List.length_append,List.length_singleton];lia⟩
  rw [bd,bO]
  simp only [ao,Option.bind_some]
  rw [show List.set [Sl.sh (.scr (ns.map D.int)),.ow (.lst (acc.map fun l=>O.sh (.str (T9 l)))),v2,v3,v4,v5] 2 (.sh (.int k)) = [.sh (.scr (ns.map D.int)),.ow (.lst (acc.map fun l=>O.sh (.str (T9 l)))),.sh (.int k),v3,v4,v5] from rfl,st]
  simp only []
  rw [show ((k:Int) + 1) = ((k + 1:Nat):Int) by push_cast;rfl]
  exact e2
theorem nP:∀ l:List (List Nat),O.ds (l.map fun l=>O.sh (.str (T9 l))) = l.map fun l=>D.str (T9 l)
 | []=>by simp [O.ds]
 | t :: l=>by rw [List.map_cons,O.ds,nP l];simp [O.d]
theorem pQ (ns:List Int):∃ ts:List (List Nat),eV [.scr (ns.map D.int)] = some (fZ ts) /\ (∀ l ∈ ts,Sg l /\ l.length <= 9) /\ ts.length <= 9:=by
 obtain ⟨f,hf⟩:=bM ns 0
 have hm0:0 <= f % 10:=Int.emod_nonneg _ (by decide)
 have hm1:f % 10 < 10:=Int.emod_lt_of_pos _ (by decide)
 have m1:fO (.int f) (.int 10) = some (.int (f % 10)):=mM (by decide)
 generalize f % 10 = g at *
 have rn:Br [.int g] = some (bd 0 g.toNat):=by
  show (vI _ _ _) = _
  rw [fv (by lia)]
 obtain ⟨ts,v2,v3,v4,v5,e,h1,h2⟩:=GX ns g.toNat 0 [] .un .un .un .un (fun _ z=>absurd z List.not_mem_nil) (by simp;lia)
 refine ⟨ts,?_,h1,by rw [h2];simp;lia⟩
 have d:=nP ts
 have hf':aH [.scr (ns.map D.int),.int 0] = some (.int f):=hf
 simp only [List.map_nil,Int.ofNat_zero,Int.natCast_zero] at e
 simp [eV,lA,gF,mR,hf',m1,rn,e,d]
theorem HC {n k:Nat} (h:k < n):x4 n (k:Int) = some k:=by
 unfold x4
 rw [if_pos (by lia)]
 simp [h]
noncomputable def iZ (ts:List (List Nat)):List Nat:=(List.range ts.length).filter fun k=>decide (0 < (ts.getD k []).length)
theorem Ds {ts:List (List Nat)} (h:∀ l ∈ ts,Sg l):eZ (ao 0) (xB (aF EO (pf gP (ag (aF cf (aj 1) (aj 0)) az)) (xC (.int 0)))) (aL 0) [.un,.sh (fZ ts)] (bd 0 ts.length) = some ((iZ ts).map fun k:Nat=>D.int k):=by
 unfold iZ
 rw [yN,ie (fun k:Nat=>D.int (k:Int)) (fun k=>if decide (0 < (ts.getD k []).length) = true then some (D.int (k:Int)) else none) (List.range ts.length),lY]
 intro k hk
 have hk:=List.mem_range.mp hk
 have e1:=wm (List.getElem?_eq_getElem hk)
 have e2:=len_str (kA (h _ (List.getElem_mem hk)))
 simp only [fZ] at e1
 rw [show ts.getD k [] = ts[k] by simp [hk]]
 by_cases h0:0 < ts[k].length
 ·have h1:(0:Int) < (ts[k].length:Int):=by lia
  simp [nJ,e1,e2,h0]
 ·have h1:¬ (0:Int) < (ts[k].length:Int):=by lia
  simp [nJ,e1,e2,h0]
theorem yn (c:Int):∃ s:Nat,(s ≠ 35 /\ s ≠ 46 /\ s < 256) /\ cf (.lst [.str (Str.ofString " "),.str (Str.ofString "x"),.str (Str.ofString "o"),.str (Str.ofString "*"),.str (Str.ofString ","),.str (Str.ofString "\n")]) (.int (c % 6)) = some (.str (T9 [s])):=by
 have:c % 6 = 0 \/ c % 6 = 1 \/ c % 6 = 2 \/ c % 6 = 3 \/ c % 6 = 4 \/ c % 6 = 5:=by lia
 rcases this with e | e | e | e | e | e
 ·exact ⟨32,by decide,by rw [e];exact aN (j:=0) rfl⟩
 ·exact ⟨120,by decide,by rw [e];exact aN (j:=1) rfl⟩
 ·exact ⟨111,by decide,by rw [e];exact aN (j:=2) rfl⟩
 ·exact ⟨42,by decide,by rw [e];exact aN (j:=3) rfl⟩
 ·exact ⟨44,by decide,by rw [e];exact aN (j:=4) rfl⟩
 ·exact ⟨10,by decide,by rw [e];exact aN (j:=5) rfl⟩
theorem wd {α:Type}:∀ (l:List α) (k:Nat) (a:α),k < l.length -> l.set k a = l.take k ++ a :: l.drop (k + 1)
 | [],k,a,h=>by simp at h
 | b :: l,0,a,h=>by simp
 | b :: l,k + 1,a,h=>by
  rw [List.set_cons_succ,wd l k a (by simpa using h)]
  simp
theorem GE (ts:List (List Nat)) (k:Nat) (l:List Nat):(ts.map fun l=>D.str (T9 l)).set k (.str (T9 l)) = (ts.set k l).map fun l=>D.str (T9 l):=by
 rw [List.map_set]
theorem zY:∀ l:List (List Nat),nV ((l.map fun l=>D.str (T9 l)).map O.sh) = some (l.map fun l=>D.str (T9 l))
 | []=>rfl
 | t :: l=>by simp [nV,zY l]
theorem Fs {N:Str} {l:List (List (Str × Bool))} {bs:List Bool} (h:tz N l = some bs) (hb:bs.length <= 1000) {i j:Nat} (hij:j ≠ i) (ρ:M.Env):ij i N [(j,l)] ρ = some (ρ.set j (.sh (.lst (bs.map .bl)))):=by
 rw [ij,if_neg hij,h]
 show (if bs.length <= 1000 then _ else none) = _
 rw [if_pos hb]
 rfl
theorem oD {ts:List (List Nat)} (h:∀ l ∈ ts,Sg l /\ l.length <= 9) (hn:ts.length <= 9) (cell x y:Int):c9 [fZ ts,.int cell,.int x,.int y] = some (.bl true):=by
 have hl:ts.length <= cG:=bH (by lia)
 have rn:Br [.int (ts.length:Int)] = some (bd 0 ts.length):=by
  show (vI _ _ _) = _
  rw [fv (by lia)]
  rfl
 have il:(bd 0 ts.length).length <= cG:=by rw [fQ];exact hl
 have c1:=Ds fun l hl=>(h l hl).1
 have ez:∀ n:Int,fN false (.int n) (.int 0) = some (.bl (decide (n = 0))):=fun n=>by
  unfold fN
  rw [if_pos ⟨by simp [b9],by simp [b9]⟩]
  simp only [kd]
  rfl
 by_cases h0:iZ ts = []
 ·rw [h0] at c1
  simp [c9,gR,gF,iK,rn,il,c1,ez]
 ·have lp:0 < (iZ ts).length:=List.length_pos_iff.mpr h0
  have m1:fO (.int cell) (.int ((iZ ts).length:Int)) = some (.int (cell % ((iZ ts).length:Int))):=mM (by lia)
  have hk0:=Int.emod_nonneg cell (show ((iZ ts).length:Int) ≠ 0 by lia)
  have hk1:=Int.emod_lt_of_pos cell (show (0:Int) < ((iZ ts).length:Int) by lia)
  obtain ⟨kk,ek⟩:∃ kk:Nat,cell % ((iZ ts).length:Int) = kk:=⟨(cell % ((iZ ts).length:Int)).toNat,by lia⟩
  have hkk:kk < (iZ ts).length:=by lia
  obtain ⟨k,hk⟩:∃ k,(iZ ts)[kk]? = some k:=⟨_,List.getElem?_eq_getElem hkk⟩
  have a1:b7 ((iZ ts).map fun k:Nat=>D.int (k:Int)) (kk:Int) = some (.int (k:Int)):=aN (by rw [List.getElem?_map,hk];rfl)
  obtain ⟨hr,hp⟩:=List.mem_filter.mp (List.mem_of_getElem? hk)
  have hkt:k < ts.length:=List.mem_range.mp hr
  have hkl:ts[k]? = some ts[k]:=List.getElem?_eq_getElem hkt
  rw [show ts.getD k [] = ts[k] by simp [hkt]] at hp
  obtain ⟨sgl,h9⟩:=h _ (List.getElem_mem hkt)
  have e1:=wm hkl
  generalize el:ts[k] = l at *
  have hp:0 < l.length:=of_decide_eq_true hp
  have e2:=len_str (kA sgl)
  have d1:kO (.int cell) (.int 10) = some (.int (cell / 10)):=uo (by decide)
  have m2:fO (.int (cell / 10)) (.int (l.length:Int)) = some (.int (cell / 10 % (l.length:Int))):=mM (by lia)
  have hj0:=Int.emod_nonneg (cell / 10) (show (l.length:Int) ≠ 0 by lia)
  have hj1:=Int.emod_lt_of_pos (cell / 10) (show (0:Int) < (l.length:Int) by lia)
  obtain ⟨j,ej⟩:∃ j:Nat,cell / 10 % (l.length:Int) = j:=⟨(cell / 10 % (l.length:Int)).toNat,by lia⟩
  have hj:j < l.length:=by lia
  rw [ej] at m2
  rw [ek] at m1
  have d2:kO (.int cell) (.int 100) = some (.int (cell / 100)):=uo (by decide)
  have m3:fO (.int (cell / 100)) (.int 6) = some (.int (cell / 100 % 6)):=mM (by decide)
  obtain ⟨s,⟨s1,s2,s3⟩,e3⟩:=yn (cell / 100)
  have lw:l.length <= cG:=bH (by lia)
  have p1:Hs (.str (T9 l)) none (some (j:Int)) = some (.str (T9 (l.take j))):=by
   show (if l.length <= cG then some (D.str (Txt.slice (T9 l) none (some (j:Int)))) else none) = _
   rw [if_pos lw,GK l j (by lia)]
  have p2:Hs (.str (T9 l)) (some ((j:Int) + 1)) none = some (.str (T9 (l.drop (j + 1)))):=by
   show (if l.length <= cG then some (D.str (Txt.slice (T9 l) (some ((j:Int) + 1)) none)) else none) = _
   rw [if_pos lw,show ((j:Int) + 1) = ((j + 1:Nat):Int) by push_cast;rfl,Ey l (j + 1) (by lia)]
  have add:∀ a b:List Nat,a.length + b.length <= 100 -> cJ (.str (T9 a)) (.str (T9 b)) = some (.str (T9 (a ++ b))):=fun a b hab=>by
   show (if a.length + b.length <= cG then some (D.str (T9 a ++ T9 b)) else none) = _
   rw [if_pos (bH (by lia)),uj]
  have q1:=add (l.take j) [s] (by rw [List.length_take];simp;lia)
  have q2:=add (l.take j ++ [s]) (l.drop (j + 1)) (by simp;lia)
  have asb:qX (l.take j ++ [s] ++ l.drop (j + 1)):=⟨fun c hc=>by
   rcases List.mem_append.mp hc with hc | hc
   ·rcases List.mem_append.mp hc with hc | hc
    ·exact (kA sgl).1 c (List.mem_of_mem_take hc)
    ·rw [List.mem_singleton.mp hc];exact s3
   ·exact (kA sgl).1 c (List.mem_of_mem_drop hc),by simp;lia⟩
  have rb:eA (l.take j ++ [s] ++ l.drop (j + 1)) ≠ []:=fun z=>by
   have:s ∈ eA (l.take j ++ [s] ++ l.drop (j + 1)):=List.mem_filter.mpr ⟨List.mem_filter.mpr ⟨by simp,by simp [s1]⟩,by simp [s2]⟩
   rw [z] at this
   cases this
  generalize eb:l.take j ++ [s] ++ l.drop (j + 1) = bl at *
  have rx:=zH (ts:=ts.take k) (post:=ts.drop (k + 1)) (fun m hm=>(h m (List.mem_of_mem_take hm)).1) (by rw [List.length_take];lia) asb rb x y
  rw [<- wd ts k bl hkt] at rx
  have ix:=HC hkt
  have sm:=GE ts k bl
  have sh:=zY ts
  have ds:=nP (ts.set k bl)
  have de:=gj false (d:=.lst [.bl true,.bl true,.bl false]) (by simp [b9,okDs])
  have dsx:O.ds ((ts.map (O.sh ∘ fun l=>D.str (T9 l))).set k (O.sh (.str (T9 bl)))) = (ts.set k bl).map fun l=>D.str (T9 l):=by
   rw [<- nP,List.map_set]
   rfl
  have l1:tz (Str.ofString "NoText") [cY,bw,bS] = some [true,true,false]:=by first | rfl | decide +kernel
  have hs:=Fs l1 (by decide) (i:=10) (j:=9) (by decide) [Sl.un,Sl.un,Sl.un,Sl.un,Sl.un,Sl.un,Sl.un,Sl.un,Sl.un,Sl.un,Sl.un]
  simp only [List.map_cons,List.map_nil] at hs
  have l3:(3:Nat) <= cG:=bH (by decide)
  simp only [fZ] at e1 rx
  rw [<- sm] at rx dsx
  generalize iZ ts = ss at *
  have nl:¬ (ss.length:Int) = 0:=by lia
  have nl':¬ ss = []:=h0
  have l6:(6:Nat) <= cG:=bH (by decide)
  simp at de
  simp [c9,gR,gF,iK,rn,il,c1,ez,nl,nl',m1,a1,e1,e2,d1,m2,d2,m3,e3,p1,p2,q1,q2,ix,sh,frz,dsx,rx,hs,l6,l3,de]
theorem IB (cell:Int):∃ q:Int,wP (.int 10) (.int 50) = some (.int q) /\ ∃ (w h:Int) (g:Bool),1 <= w /\ 1 <= h /\ h <= 1001 /\ (h = 1 -> 3 <= w) /\ (g = false -> w * h <= 1000) /\ (g = true -> 1000 < w * h) /\
  cf (.lst [.tup [.int 1000,.int 1,.bl false],.tup [.int 40,.int 25,.bl false],.tup [.int 1,.int 1000,.bl false],.tup [.int 1001,.int 1,.bl true],.tup [.int 77,.int 13,.bl true],.tup [.int 1,.int 1001,.bl true],.tup [.int 2,.int 501,.bl true],.tup [.int q,.int 1,.bl true]]) (.int (cell % 8)) = some (.tup [.int w,.int h,.bl g]):=by
 obtain ⟨q,hq1,hq⟩:∃ q:Int,1001 <= q /\ wP (.int 10) (.int 50) = some (.int q):=⟨_,by decide,Jz (by decide)⟩
 refine ⟨q,hq,?_⟩
 have:cell % 8 = 0 \/ cell % 8 = 1 \/ cell % 8 = 2 \/ cell % 8 = 3 \/ cell % 8 = 4 \/ cell % 8 = 5 \/ cell % 8 = 6 \/ cell % 8 = 7:=by lia
 rcases this with e | e | e | e | e | e | e | e <;> rw [e]
 ·exact ⟨1000,1,false,by decide,by decide,by decide,by decide,by decide,by decide,aN (j:=0) rfl⟩
 ·exact ⟨40,25,false,by decide,by decide,by decide,by decide,by decide,by decide,aN (j:=1) rfl⟩
 ·exact ⟨1,1000,false,by decide,by decide,by decide,by decide,by decide,by decide,aN (j:=2) rfl⟩
 ·exact ⟨1001,1,true,by decide,by decide,by decide,by decide,by decide,by decide,aN (j:=3) rfl⟩
 ·exact ⟨77,13,true,by decide,by decide,by decide,by decide,by decide,by decide,aN (j:=4) rfl⟩
 ·exact ⟨1,1001,true,by decide,by decide,by decide,by decide,by decide,by decide,aN (j:=5) rfl⟩
 ·exact ⟨2,501,true,by decide,by decide,by decide,by decide,by decide,by decide,aN (j:=6) rfl⟩
 ·exact ⟨q,1,true,by lia,by decide,by decide,by lia,(fun z=>by cases z),(fun _=>by lia),aN (j:=7) rfl⟩
noncomputable def jQ (x y w h:Int):iJ:=if 1 < h then [(y,[(x,x)]),(y + h - 1,[(x + w - 1,x + w - 1)])] else [(y,[(x,x),(x + w - 1,x + w - 1)])]
theorem pD (a:Int):cH [(a,a)]:=canon_cons.mpr ⟨Int.le_refl _,fun _ h=>(by cases h),g8⟩
theorem xn (a X:Int):iI [(a,a)] X ↔ X = a:=by
 rw [mem_cons]
 constructor
 ·rintro (z | z)
  ·dsimp only at z;lia
  ·exact absurd z (bX _)
 ·intro z
  exact .inl ⟨by dsimp only;lia,by dsimp only;lia⟩
theorem BJ {x y w h:Int} (hw:1 <= w) (hh:1 <= h) (h3:h = 1 -> 3 <= w):b8 (jQ x y w h) /\ jQ x y w h ≠ [] /\ (jQ x y w h).length <= 1000 /\ (∀ q ∈ jQ x y w h,q.2.length <= 1000) /\ ∀ X Y,fc (jQ x y w h) X Y ↔ (X = x /\ Y = y) \/ (X = x + w - 1 /\ Y = y + h - 1):=by
 unfold jQ
 split
 ·rename_i h1
  refine ⟨pcanon_cons.mpr ⟨⟨pD x,by simp⟩,fun s hs=>?_,pcanon_cons.mpr ⟨⟨pD _,by simp⟩,fun s hs=>(by cases hs),kr⟩⟩,by simp,by simp,fun q hq=>?_,fun X Y=>?_⟩
  ·rw [List.mem_singleton.mp hs];dsimp only;lia
  ·rcases List.mem_cons.mp hq with rfl | hq
   ·simp
   ·rw [List.mem_singleton.mp hq];simp
  ·rw [bv,bv,xn,xn]
   have n0:=cZ X Y
   constructor
   ·rintro (⟨a,b⟩ | ⟨a,b⟩ | z)
    ·exact .inl ⟨b,a.symm⟩
    ·exact .inr ⟨b,a.symm⟩
    ·exact absurd z n0
   ·rintro (⟨a,b⟩ | ⟨a,b⟩)
    ·exact .inl ⟨b.symm,a⟩
    ·exact .inr (.inl ⟨b.symm,a⟩)
 ·rename_i h1
  have e1:h = 1:=by lia
  have h3':=h3 e1
  refine ⟨pcanon_cons.mpr ⟨⟨canon_cons.mpr ⟨Int.le_refl _,fun q hq=>?_,pD _⟩,by simp⟩,fun s hs=>(by cases hs),kr⟩,by simp,by simp,fun q hq=>?_,fun X Y=>?_⟩
  ·rw [List.mem_singleton.mp hq];dsimp only;lia
  ·rw [List.mem_singleton.mp hq];simp
  ·rw [bv,mem_cons,xn]
   have n0:=cZ X Y
   constructor
   ·rintro (⟨a,b | b⟩ | z)
    ·dsimp only at a b;exact .inl ⟨by lia,a.symm⟩
    ·dsimp only at a;exact .inr ⟨b,by lia⟩
    ·exact absurd z n0
   ·rintro (⟨a,b⟩ | ⟨a,b⟩)
    ·exact .inl ⟨b.symm,.inl ⟨by dsimp only;lia,by dsimp only;lia⟩⟩
    ·exact .inl ⟨by dsimp only;lia,.inr a⟩
theorem C4 {x y w h:Int} (hw:1 <= w) (hh:1 <= h) (h3:h = 1 -> 3 <= w):cz [eH (jQ x y w h)] = some (.tup [.int x,.int y,.int (x + w - 1),.int (y + h - 1)]):=by
 obtain ⟨c1,c2,c3,_,m⟩:=BJ (x:=x) (y:=y) hw hh h3
 obtain ⟨a,b,c,d,pb,e⟩:=qH c1 c2 c3
 have k1:=pb.all _ _ ((m x y).mpr (.inl ⟨rfl,rfl⟩))
 have k2:=pb.all _ _ ((m (x + w - 1) (y + h - 1)).mpr (.inr ⟨rfl,rfl⟩))
 obtain ⟨Y1,h1⟩:=pb.lef
 obtain ⟨Y2,h2⟩:=pb.rig
 obtain ⟨X1,h3⟩:=pb.top
 obtain ⟨X2,h4⟩:=pb.bot
 have h1:=(m _ _).mp h1
 have h2:=(m _ _).mp h2
 have h3:=(m _ _).mp h3
 have h4:=(m _ _).mp h4
 have ea:a = x:=by lia
 have eb:b = y:=by lia
 have ec:c = x + w - 1:=by lia
 have ed:d = y + h - 1:=by lia
 rw [e,ea,eb,ec,ed]
theorem GG {l:List Nat} (h:l.length <= 1000) {j:Int} {c:Nat} (hj:b7 l j = some c):cf (.str (T9 l)) (.int j) = some (.str (T9 [c])):=by
 show (if l.length <= cG then (b7 l j).map fun c=>D.str ⟨#[c]⟩ else none) = _
 rw [if_pos (bH (by lia)),hj]
 rfl
theorem yh {α:Type} {l:List α} {n:Nat} {a:α} (h:l.length = n + 1) (hn:l[n]? = some a):b7 l (-1) = some a:=by
 unfold b7
 rw [h,lm]
 exact hn
theorem EH {x y w h:Int} (hw:1 <= w) (hh:1 <= h) (hh2:h <= 1001) (h3:h = 1 -> 3 <= w) (ha:w * h <= 1000):∃ ls:List (List Nat),fx [eH (jQ x y w h)] = some (fZ ls) /\ (ls.length:Int) = h /\ ∃ l0 l1,b7 (ls.map fun l=>D.str (T9 l)) 0 = some (.str (T9 l0)) /\ b7 (ls.map fun l=>D.str (T9 l)) (-1) = some (.str (T9 l1)) /\ cf (.str (T9 l0)) (.int 0) = some (.str (T9 [35])) /\ cf (.str (T9 l1)) (.int (-1)) = some (.str (T9 [35])):=by
 obtain ⟨c1,c2,c3,c4,m⟩:=BJ (x:=x) (y:=y) hw hh h3
 have hb:=C4 (x:=x) (y:=y) hw hh h3
 have hh3:h <= 1000:=by
  have:1 * h <= w * h:=Int.mul_le_mul_of_nonneg_right hw (by lia)
  lia
 have hw3:w <= 1000:=by
  have:w * 1 <= w * h:=Int.mul_le_mul_of_nonneg_left hh (by lia)
  lia
 have e:=tH c1 c2 c3 c4 hb (by lia) (by lia) (by lia) (by
  rw [show x + w - 1 - x + 1 = w by lia,show y + h - 1 - y + 1 = h by lia];exact ha)
 rw [show y + h - 1 + 1 - y = h by lia,show x + w - 1 + 1 - x = w by lia] at e
 have hn:h.toNat - 1 + 1 = h.toNat:=by lia
 have wn:w.toNat - 1 + 1 = w.toNat:=by lia
 have ll:(ji (jQ x y w h) x y h.toNat w.toNat).length = h.toNat:=by unfold ji;simp
 have gk:∀ k,k < h.toNat -> (ji (jQ x y w h) x y h.toNat w.toNat)[k]? = some (gC (dY (jQ x y w h) (y + k)) x w.toNat):=fun k hk=>by
  unfold ji
  rw [List.getElem?_map,List.getElem?_range hk]
  rfl
 have gl:∀ (r:R) j,j < w.toNat -> (gC r x w.toNat)[j]? = some (Nm (rd r (x + j))):=fun r j hj=>by
  unfold gC
  rw [List.getElem?_map,List.getElem?_range hj]
  rfl
 have sl:∀ r:R,(gC r x w.toNat).length = w.toNat:=fun r=>by unfold gC;simp
 refine ⟨ji (jQ x y w h) x y h.toNat w.toNat,by show (gb _).map O.d = _;rw [e];simp [O.d,nP],by rw [ll];lia,gC (dY (jQ x y w h) (y + ((0:Nat):Int))) x w.toNat,gC (dY (jQ x y w h) (y + ((h.toNat - 1:Nat):Int))) x w.toNat,?_,?_,?_,?_⟩
 ·exact aN (j:=0) (by rw [List.getElem?_map,gk 0 (by lia)];rfl)
 ·exact yh (n:=h.toNat - 1) (by rw [List.length_map,ll];lia) (by rw [List.getElem?_map,gk (h.toNat - 1) (by lia)];rfl)
 ·refine GG (by rw [sl];lia) (aN (j:=0) ?_)
  rw [gl _ 0 (by lia)]
  have:rd (dY (jQ x y w h) (y + ((0:Nat):Int))) (x + ((0:Nat):Int)) = true:=by
   rw [lv,p6 c1,m]
   exact .inl ⟨by simp,by simp⟩
  rw [this]
  rfl
 ·refine GG (by rw [sl];lia) (yh (n:=w.toNat - 1) (by rw [sl];lia) ?_)
  rw [gl _ (w.toNat - 1) (by lia)]
  have:rd (dY (jQ x y w h) (y + ((h.toNat - 1:Nat):Int))) (x + ((w.toNat - 1:Nat):Int)) = true:=by
   rw [lv,p6 c1,m]
   exact .inr ⟨by lia,by lia⟩
  rw [this]
  rfl
theorem uL (cell x y:Int):kl [.int cell,.int x,.int y] = some (.bl true):=by
 obtain ⟨q,hq,w,h,g,hw,hh,hh2,h3,hg0,hg1,e0⟩:=IB cell
 have m8:fO (.int cell) (.int 8) = some (.int (cell % 8)):=mM (by decide)
 obtain ⟨_,hne,_⟩:=BJ (x:=x) (y:=y) hw hh h3
 have hb:=C4 (x:=x) (y:=y) hw hh h3
 have l8:(8:Nat) <= cG:=bH (by decide)
 have l3:(3:Nat) <= cG:=bH (by decide)
 have l2:(2:Nat) <= cG:=bH (by decide)
 have l1':(1:Nat) <= cG:=bH (by decide)
 have de:=gj false (d:=.lst [.bl true,.bl true,.bl false]) (by simp [b9,okDs])
 simp at de
 have la:tz (Str.ofString "TooGreat") [bS,bw,cY] = some [true,true,false]:=by first | rfl | decide +kernel
 have ea:(x + w - 1 - x + 1) * (y + h - 1 - y + 1) = w * h:=by
  rw [show x + w - 1 - x + 1 = w by lia,show y + h - 1 - y + 1 = h by lia]
 have main:∀ pd:D,pd = eH (jQ x y w h) -> ∀ ρ:M.Env,ρ = [.sh (.int cell),.sh (.int x),.sh (.int y),.sh (.int w),.sh (.int h),.sh (.bl g),.sh pd,.un,.un,.un] ->
   ∃ ρ',aX (cE (xC .non) (ao 7)) (aX (cE (xL (g6 az)) (ao 8)) (aX (Db I0 9 ku (ag (aL 6) az) (cE (bB fx (ag (aL 6) az)) (ao 8)) [(7,[bS,bw,cY])]) (aX (qw (rk (aj 5)) (fe (aF (fN false) (aj 7) (xL (g6 (ag (xC (.bl true)) (ag (xC (.bl true)) (ag (xC (.bl false)) az))))))) dM) (fe (qV (aF (oj false) (aj 7) (xC .non)) (qV (aF (fN false) (pf gP (ag (aj 8) az)) (aj 4)) (qV (aF (fN false) (aF cf (aF cf (aj 8) (xC (.int 0))) (xC (.int 0))) (xC (.str (Str.ofString "#")))) (aF (fN false) (aF cf (aF cf (aj 8) (x5 ka (xC (.int 1)))) (x5 ka (xC (.int 1)))) (xC (.str (Str.ofString "#")))))))))))  ρ = some (.rt (.bl true)) /\ ρ' = ρ:=by
  intro pd ep ρ eρ
  subst eρ
  refine ⟨_,?_,rfl⟩
  cases g with
  | true=>
   have rx:=uT hne hb (by lia) (by lia) (by rw [ea];exact hg1 rfl)
   rw [<- ep] at rx
   have hs:=Fs la (by decide) (i:=9) (j:=7) (by decide) [Sl.sh (.int cell),.sh (.int x),.sh (.int y),.sh (.int w),.sh (.int h),.sh (.bl true),.sh pd,.sh .non,.sh (.lst []),.un]
   simp only [List.map_cons,List.map_nil] at hs
   simp [rx,hs,l3,de]
  | false=>
   have rx:=xH hne hb (by lia) (by lia) (by rw [ea];exact hg0 rfl)
   obtain ⟨ls,d1,d2,k0,k1,a0,a1,b0,b1⟩:=EH (x:=x) (y:=y) hw hh hh2 h3 (hg0 rfl)
   rw [<- ep] at rx d1
   have eq:=wW false (rm (c:=35) (by decide)) (rm (c:=35) (by decide))
   simp at eq
   have ez:fN false (.int (ls.length:Int)) (.int h) = some (.bl true):=by
    rw [d2]
    unfold fN
    rw [if_pos ⟨by simp [b9],by simp [b9]⟩]
    simp [kd]
   simp [rx,d1,ez,a0,a1,b0,b1,eq,f9,oj,ik]
 obtain ⟨pd,ep,pre⟩:∃ pd:D,pd = eH (jQ x y w h) /\ (aX (aX (cE (aF cf (xL (g6 (ag (bE (ag (xC (.int 1000)) (ag (xC (.int 1)) (ag (xC (.bl false)) az)))) (ag (bE (ag (xC (.int 40)) (ag (xC (.int 25)) (ag (xC (.bl false)) az)))) (ag (bE (ag (xC (.int 1)) (ag (xC (.int 1000)) (ag (xC (.bl false)) az)))) (ag (bE (ag (xC (.int 1001)) (ag (xC (.int 1)) (ag (xC (.bl true)) az)))) (ag (bE (ag (xC (.int 77)) (ag (xC (.int 13)) (ag (xC (.bl true)) az)))) (ag (bE (ag (xC (.int 1)) (ag (xC (.int 1001)) (ag (xC (.bl true)) az)))) (ag (bE (ag (xC (.int 2)) (ag (xC (.int 501)) (ag (xC (.bl true)) az)))) (ag (bE (ag (aF wP (xC (.int 10)) (xC (.int 50))) (ag (xC (.int 1)) (ag (xC (.bl true)) az)))) az)))))))))) (aF fO (aj 0) (xC (.int 8)))) (c7 (aJ (ao 3) (aJ (ao 4) (aJ (ao 5) cV))))) (cE (bE (ag (bE (ag (aL 2) (ag (bE (ag (bE (ag (aL 1) (ag (aL 1) az))) (ag (bE (ag (aF ig (aF cJ (aj 1) (aj 3)) (xC (.int 1))) (ag (aF ig (aF cJ (aj 1) (aj 3)) (xC (.int 1))) az))) az))) az))) az)) (ao 6))) (qw (xB (aF EO (aj 4) (xC (.int 1)))) (cE (bE (ag (bE (ag (aL 2) (ag (bE (ag (bE (ag (aL 1) (ag (aL 1) az))) az)) az))) (ag (bE (ag (aF ig (aF cJ (aj 2) (aj 4)) (xC (.int 1))) (ag (bE (ag (bE (ag (aF ig (aF cJ (aj 1) (aj 3)) (xC (.int 1))) (ag (aF ig (aF cJ (aj 1) (aj 3)) (xC (.int 1))) az))) az)) az))) az))) (ao 6)) dM)) [Sl.sh (.int cell),.sh (.int x),.sh (.int y),.un,.un,.un,.un,.un,.un,.un] = some (.nx [.sh (.int cell),.sh (.int x),.sh (.int y),.sh (.int w),.sh (.int h),.sh (.bl g),.sh pd,.un,.un,.un]):=by
  by_cases h1:1 < h
  ·exact ⟨.tup [.tup [.int y,.tup [.tup [.int x,.int x]]],.tup [.int (y + h - 1),.tup [.tup [.int (x + w - 1),.int (x + w - 1)]]]],by simp [jQ,h1,gL],by simp [hq,m8,e0,l8,l3,l2,l1',c7,aJ,cV,h1]⟩
  ·exact ⟨.tup [.tup [.int y,.tup [.tup [.int x,.int x],.tup [.int (x + w - 1),.int (x + w - 1)]]]],by simp [jQ,h1,gL],by simp [hq,m8,e0,l8,l3,l2,l1',c7,aJ,cV,h1]⟩
 obtain ⟨_,k,_⟩:=main _ ep _ rfl
 unfold kl tG gF wD
 rw [vf,vf]
 refine (congrArg (fun z=>Option.map O.d (match z with | some (Out.rt d)=>some (O.sh d) | some (Out.ro o)=>some o | some (Out.nx _)=>some (O.sh D.non) | _=>none)) ((Iq pre).trans k)).trans ?_
 rfl
theorem Bb {ts:List (List Nat)} (h:∀ l ∈ ts,Sg l):b9 50 (fZ ts) = true:=by
 rw [b9]
 exact tL ts fun l hl=>by rw [b9];exact Au (kA (h l hl))
theorem Ct (c q:Int) (hq:0 < q):∃ m:Int,0 < m /\ cf (.lst [.int 9,.int q]) (.int (c % 2)) = some (.int m):=by
 rcases nQ c with e | e
 ·exact ⟨9,by decide,by rw [e];exact aN (j:=0) rfl⟩
 ·exact ⟨q,hq,by rw [e];exact aN (j:=1) rfl⟩
theorem Gp:∀ (r:List (Int × Int)) (lo hi:Int),cH r -> (∀ X,iI r X -> lo <= X /\ X <= hi) -> (r.length:Int) <= max 0 (hi - lo + 1)
 | [],lo,hi,_,_=>by simp;lia
 | u :: v,lo,hi,cr,hm=>by
  obtain ⟨k1,k2,k3⟩:=canon_cons.mp cr
  have h1:=hm u.1 ((mem_cons ..).mpr (.inl ⟨Int.le_refl _,k1⟩))
  have:=Gp v (u.1 + 1) hi k3 fun X hX=>⟨by have:=eY cr hX;lia,(hm X ((mem_cons ..).mpr (.inr hX))).2⟩
  rw [List.length_cons]
  push_cast
  lia
theorem AL {ts:List (List Nat)} (h:∀ l ∈ ts,Sg l /\ l.length <= 9) (hn:ts.length <= 9) {x y:Int} {p:iJ} (cp:b8 p) (hp:p.length <= 20) (m:∀ X Y,fc p X Y ↔ ∃ i j:Nat,dN ts i j /\ X = x + j /\ Y = y + i) :
  ∃ dl:List (List Nat),(∀ l ∈ dl,Sg l) /\ dl.length <= 20 /\ gb [eH p] = some (.lst ((dl.map fun l=>D.str (T9 l)).map O.sh)) /\ gv [fZ ts] = some (fZ dl) /\
   (dW [fZ ts] = some .non \/ ∃ L T R B:Nat,dW [fZ ts] = some (.tup [.int (L:Nat),.int (T:Nat),.int (R:Nat),.int (B:Nat)]) /\ aZ [fZ dl,.int (x + L),.int (y + T)] = some (eH p)):=by
 have hs:∀ l ∈ ts,Sg l:=fun l hl=>(h l hl).1
 have h9:∀ l ∈ ts,l.length <= 9:=fun l hl=>(h l hl).2
 rcases xk (ts:=ts) (by lia) with ⟨n0,hb⟩ | ⟨L,T,R,B,b,hb⟩
 ·have e:p = []:=xF cp kr fun X Y=>by
   rw [m]
   constructor
   ·rintro ⟨i,j,z,_⟩;exact absurd z (n0 i j)
   ·intro z;exact absurd z (cZ _ _)
  subst e
  refine ⟨[],fun _ z=>absurd z List.not_mem_nil,by simp,?_,?_,.inl hb⟩
  ·have d0:=gj false (d:=.tup []) (by simp [b9,okDs])
   simp at d0
   show gb [.tup []] = _
   simp [gb,gF,wE,d0]
  ·show (e9 _).map O.d = _
   rw [pW hb]
   simp [O.d,O.ds]
 ·obtain ⟨g1,g2,g3,g4⟩:=Ja b h9
  obtain ⟨i0,c0⟩:=b.lef
  have hp0:p ≠ []:=fun z=>by
   have:=(m _ _).mpr ⟨i0,L,c0,rfl,rfl⟩
   rw [z] at this
   exact absurd this (cZ _ _)
  obtain ⟨a1,b1,c1,d1,pb,e⟩:=qH cp hp0 (by lia)
  obtain ⟨ea,eb,ec,ed⟩:=E6 m b pb
  subst ea eb ec ed
  have hr:∀ q ∈ p,q.2.length <= 1000:=fun q hq=>by
   have cq:=(cp.1 q hq).1
   have:=Gp q.2 (x + L) (x + R) cq fun X hX=>by
    have:=pb.all X q.1 ⟨q,hq,rfl,hX⟩
    exact ⟨this.1,this.2.1⟩
   lia
  have area:(x + R - (x + L) + 1) * (y + B - (y + T) + 1) <= 1000:=by
   have w1:x + R - (x + L) + 1 <= 9:=by lia
   have w2:y + B - (y + T) + 1 <= 9:=by lia
   have:(x + R - (x + L) + 1) * (y + B - (y + T) + 1) <= 9 * 9:=Int.mul_le_mul w1 w2 (by lia) (by lia)
   lia
  have dr:=tH cp hp0 (by lia) hr e (by lia) (by lia) (by lia) area
  have en:(x + (R:Int) + 1 - (x + (L:Int))).toNat = R + 1 - L:=by lia
  have em:(y + (B:Int) + 1 - (y + (T:Int))).toNat = B + 1 - T:=by lia
  rw [en,em,vA cp m hs (R + 1 - L) (by lia) (B + 1 - T) T] at dr
  refine ⟨mv ts T L (R + 1 - L) (B + 1 - T),B8 hs _ _ _ _ (by lia),by rw [sE];lia,?_,?_,.inr ⟨L,T,R,B,hb,Em cp m hs b g3 hn g4 g1⟩⟩
  ·rw [dr,List.map_map];rfl
  ·show (e9 _).map O.d = _
   rw [re h9 hn b hb]
   simp [O.d,nP]
theorem FJ (ns:List Int) (_:ns.length <= 63):y0 [.scr (ns.map D.int)] = some (.bl true):=by
 obtain ⟨f0,c0⟩:=bM ns 0
 obtain ⟨f1,c1⟩:=bM ns 1
 obtain ⟨f2,c2⟩:=bM ns 2
 obtain ⟨f13,c13⟩:=bM ns 13
 obtain ⟨f14,c14⟩:=bM ns 14
 obtain ⟨q,hq1,hq⟩:∃ q:Int,0 < q /\ wP (.int 10) (.int 58) = some (.int q):=⟨_,by decide,Jz (by decide)⟩
 obtain ⟨mx,hx1,hx⟩:=Ct (f0 / 10) q hq1
 obtain ⟨my,hy1,hy⟩:=Ct (f0 / 20) q hq1
 obtain ⟨x,sx⟩:=kJ f1 mx hx1
 obtain ⟨y,sy⟩:=kJ f2 my hy1
 obtain ⟨ts,td,h,hn⟩:=pQ ns
 have hs:∀ l ∈ ts,Sg l:=fun l hl=>(h l hl).1
 obtain ⟨p,e1,e2,cp,hp,m⟩:=zO hs (by lia) x y
 obtain ⟨p0,e3,e4,_⟩:=zO hs (by lia) 0 0
 have bs:=oD h hn f13 x y
 have sz:=uL f14 x y
 obtain ⟨dl,hd,hdl,dr,ld,bx⟩:=AL h hn cp hp m
 have ok1:=ma p
 have ok2:=Bb hs
 have q1:=gj true ok1
 have q2:=gj true ok2
 have q3:=gj true (ma p0)
 have q4:=gj true (Bb hd)
 have q5:=gj false (Bb hd)
 have md:fx [eH p] = some (fZ dl):=by
  show (gb _).map O.d = _
  rw [dr]
  have:O.ds ((dl.map fun l=>D.str (T9 l)).map O.sh) = dl.map fun l=>D.str (T9 l):=by
   rw [List.map_map];exact nP dl
  simp [O.d,this]
 have d10:kO (.int f0) (.int 10) = some (.int (f0 / 10)):=uo (by decide)
 have d20:kO (.int f0) (.int 20) = some (.int (f0 / 20)):=uo (by decide)
 have d40:kO (.int f0) (.int 40) = some (.int (f0 / 40)):=uo (by decide)
 have k10:fO (.int (f0 / 10)) (.int 2) = some (.int (f0 / 10 % 2)):=mM (by decide)
 have k20:fO (.int (f0 / 20)) (.int 2) = some (.int (f0 / 20 % 2)):=mM (by decide)
 have k40:fO (.int (f0 / 40)) (.int 4) = some (.int (f0 / 40 % 4)):=mM (by decide)
 have ez:∀ n:Int,fN false (.int n) (.int 1) = some (.bl (decide (n = 1))):=fun n=>by
  unfold fN
  rw [if_pos ⟨by simp [b9],by simp [b9]⟩]
  simp only [kd]
  rfl
 have l2:(2:Nat) <= cG:=bH (by decide)
 have ll:dl.length < cG:=gQ (by lia)
 have isi:wK [eH p,.ty "tuple"] = some (.bl true):=rfl
 have f:∀ a b c d:D,b7 [a,b,c,d] 0 = some a /\ b7 [a,b,c,d] 1 = some b:=fun a b c d=>⟨aN (j:=0) rfl,aN (j:=1) rfl⟩
 have c0':aH [.scr (ns.map D.int),.int 0] = some (.int f0):=c0
 have c1':aH [.scr (ns.map D.int),.int 1] = some (.int f1):=c1
 have c2':aH [.scr (ns.map D.int),.int 2] = some (.int f2):=c2
 have c13':aH [.scr (ns.map D.int),.int 13] = some (.int f13):=c13
 have c14':aH [.scr (ns.map D.int),.int 14] = some (.int f14):=c14
 simp only [fZ,eH] at *
 generalize ns.map D.int = sc at *
 generalize ts.map (fun l=>D.str (T9 l)) = tl at *
 generalize p.map fI = pl at *
 generalize p0.map fI = pl0 at *
 have dm:dl.length = (dl.map fun l=>D.str (T9 l)).length:=by rw [List.length_map]
 rw [dm] at ll
 generalize dl.map (fun l=>D.str (T9 l)) = dd at *
 simp at q1 q2 q3 q4 q5
 rcases bx with hb | ⟨L,T,R,B,hb,rc⟩
 ·by_cases h40:f0 / 40 % 4 = 1
  ·simp [y0,pV,gF,u9,c0',c1',c2',c13',c14',hq,d10,d20,d40,k10,k20,k40,hx,hy,sx,sy,td,e1,e2,e3,e4,q1,q2,q3,q4,q5,isi,bs,sz,dr,ld,hb,l2,ez,h40,ll,md,oj,ik]
  ·simp [y0,pV,gF,u9,c0',c1',c2',c13',c14',hq,d10,d20,d40,k10,k20,k40,hx,hy,sx,sy,td,e1,e2,e3,e4,q1,q2,q3,q4,q5,isi,bs,sz,dr,ld,hb,l2,ez,h40,ll,md,oj,ik]
 ·obtain ⟨a0,a1⟩:=f (.int (L:Nat)) (.int (T:Nat)) (.int (R:Nat)) (.int (B:Nat))
  by_cases h40:f0 / 40 % 4 = 1
  ·simp [y0,pV,gF,u9,c0',c1',c2',c13',c14',hq,d10,d20,d40,k10,k20,k40,hx,hy,sx,sy,td,e1,e2,e3,e4,q1,q2,q3,q4,q5,isi,bs,sz,dr,ld,hb,l2,ez,h40,ll,md,oj,ik,a0,a1,rc,k9]
  ·simp [y0,pV,gF,u9,c0',c1',c2',c13',c14',hq,d10,d20,d40,k10,k20,k40,hx,hy,sx,sy,td,e1,e2,e3,e4,q1,q2,q3,q4,q5,isi,bs,sz,dr,ld,hb,l2,ez,h40,ll,md,oj,ik,a0,a1,rc,k9]
end P
namespace Lw
open PySem L2 M P
noncomputable def top (i : Nat) : Stmt := PySem.Challenge.pw_shapethin_k24_drawn_and_read.main.body.getD i (.Pass ⟨0, 0, 0, 0⟩)
noncomputable abbrev iz:Stmt:=top 5
noncomputable abbrev dG:Stmt:=top 6
noncomputable abbrev hW:Stmt:=top 7
noncomputable abbrev cN:Stmt:=top 10
noncomputable abbrev jN:Stmt:=top 11
noncomputable abbrev gA:Stmt:=top 12
noncomputable abbrev lI:Stmt:=top 16
noncomputable abbrev eX:Stmt:=top 17
noncomputable abbrev bq:Stmt:=top 18
noncomputable abbrev bN:Stmt:=top 19
noncomputable abbrev fW:Stmt:=top 21
noncomputable abbrev hV:Stmt:=top 22
noncomputable abbrev fX:Stmt:=top 23
noncomputable abbrev fY:Stmt:=top 24
noncomputable abbrev kw:Stmt:=top 25
noncomputable abbrev jM:Stmt:=top 26
noncomputable abbrev dZ:Stmt:=top 27
noncomputable abbrev mh:Stmt:=top 28
noncomputable abbrev oX:Stmt:=top 29
structure Txt (K:W.Frag) (mg:Str -> Option Value):Prop where
 ValueError:mg "ValueError" = none
 enumerate:mg "enumerate" = none
 isinstance:mg "isinstance" = none
 len:mg "len" = none
 list:mg "list" = none
 max:mg "max" = none
 min:mg "min" = none
 range:mg "range" = none
 sorted:mg "sorted" = none
 tuple:mg "tuple" = none
 CELL_IN:∃ t:Tok,mg "CELL_IN" = some (.str (Str.ofString "#") t) /\ t ≠ 0 /\ t < NN
 CELL_OUT:∃ t:Tok,mg "CELL_OUT" = some (.str (Str.ofString ".") t) /\ t ≠ 0 /\ t < NN
 MOST_CELLS:∃ t:Tok,mg "MOST_CELLS" = some (.int (1000) t)
 xc_ShapeError:∃ T:Addr,mg "ShapeError" = some (.ref T) /\ ∀ N ∈ I0,∀ C:Addr,W.nsIn K mainGlobals N = some (some (.ref C)) -> W.exmOne K (.ref C) (.ref T) = some true
 xa_NoText:∃ T:Addr,mg "NoText" = some (.ref T) /\ qW K cY (.ref T)
 xa_TooGreat:∃ T:Addr,mg "TooGreat" = some (.ref T) /\ qW K bS (.ref T)
 xa_ValueError:qW K bw (.type "ValueError")
 xr_NoText:∃ C:Addr,W.nsIn K mainGlobals "NoText" = some (some (.ref C)) /\ W.excIn K C JS "ValueError.__new__" = true /\ mg "NoText" = some (.ref C)
 xr_TooGreat:∃ C:Addr,W.nsIn K mainGlobals "TooGreat" = some (some (.ref C)) /\ W.excIn K C JS "ValueError.__new__" = true /\ mg "TooGreat" = some (.ref C)
section
variable {P:Program} {w:World} {K:W.Frag} {mg:Str -> Option Value} {base:Heap}
seal L2.CallR L2.OpR L2.PA L2.PC L2.PE L2.PG L2.PI L2.PO L2.PS L2.PSs L2.PT L2.PW L2.IxR
theorem wc:FnScope ["pairs", "stretches", "a", "b"] ["pairs"] (au iz):=⟨rfl,rfl,rfl,by decide +kernel,rfl,by decide +kernel,by decide +kernel⟩
theorem lJ:FnScope ["pairs", "number", "low", "high", "middle"] ["pairs", "number"] (au dG):=⟨rfl,rfl,rfl,by decide +kernel,rfl,by decide +kernel,by decide +kernel⟩
theorem wa:FnScope ["picture", "left", "right"] ["picture"] (au gA):=⟨rfl,rfl,rfl,by decide +kernel,rfl,by decide +kernel,by decide +kernel⟩
theorem dJ:FnScope ["text", "x", "y", "stretches", "begin", "run"] ["text", "x", "y"] (au bN):=⟨rfl,rfl,rfl,by decide +kernel,rfl,by decide +kernel,by decide +kernel⟩
theorem qP:FnScope ["_law_script", "_law_k"] ["_law_script", "_law_k"] (au fW):=⟨rfl,rfl,rfl,by decide +kernel,rfl,by decide +kernel,by decide +kernel⟩
theorem t9:FnScope ["_law_cell", "_law_most"] ["_law_cell", "_law_most"] (au hV):=⟨rfl,rfl,rfl,by decide +kernel,rfl,by decide +kernel,by decide +kernel⟩
theorem qR:FnScope ["_law_texts", "_law_x", "_law_y", "_law_rows", "_law_k", "_law_row", "_law_j"] ["_law_texts", "_law_x", "_law_y"] (au fY):=⟨rfl,rfl,rfl,by decide +kernel,rfl,by decide +kernel,by decide +kernel⟩
theorem CQ:FnScope ["_law_texts", "_law_rows", "_law_left", "_law_right"] ["_law_texts"] (au kw):=⟨rfl,rfl,rfl,by decide +kernel,rfl,by decide +kernel,by decide +kernel⟩
theorem ua:FnScope ["row", "x", "begun"] ["row", "x"] (au hW):=⟨rfl,rfl,rfl,by decide +kernel,rfl,by decide +kernel,by decide +kernel⟩
theorem mL:FnScope ["stretches", "pairs_by_row", "y", "a", "b"] ["stretches"] (au cN):=⟨rfl,rfl,rfl,by decide +kernel,rfl,by decide +kernel,by decide +kernel⟩
theorem wb:FnScope ["picture", "y", "begun"] ["picture", "y"] (au jN):=⟨rfl,rfl,rfl,by decide +kernel,rfl,by decide +kernel,by decide +kernel⟩
theorem qQ:FnScope ["_law_script", "_law_texts", "_law_k", "_law_cell", "_law_text", "_law_j"] ["_law_script"] (au fX):=⟨rfl,rfl,rfl,by decide +kernel,rfl,by decide +kernel,by decide +kernel⟩
theorem v9:FnScope ["_law_texts", "_law_box_here", "_law_found", "_law_k", "_law_text"] ["_law_texts"] (au jM):=⟨rfl,rfl,rfl,by decide +kernel,rfl,by decide +kernel,by decide +kernel⟩
theorem qS:FnScope ["row", "first", "last"] ["row", "first", "last"] (au eX):=⟨rfl,rfl,rfl,by decide +kernel,rfl,by decide +kernel,by decide +kernel⟩
theorem gf:FnScope ["rows", "x", "y", "stretches", "place", "text"] ["rows", "x", "y"] (au bq):=⟨rfl,rfl,rfl,by decide +kernel,rfl,by decide +kernel,by decide +kernel⟩
theorem oZ:FnScope ["_law_texts", "_law_cell", "_law_x", "_law_y", "_law_some", "_law_k", "_law_j", "_law_sign", "_law_bad", "_law_caught", "e"] ["_law_texts", "_law_cell", "_law_x", "_law_y"] (au dZ):=⟨rfl,rfl,rfl,by decide +kernel,rfl,by decide +kernel,by decide +kernel⟩
theorem rH:FnScope ["picture", "box"] ["picture"] (au lI):=⟨rfl,rfl,rfl,by decide +kernel,rfl,by decide +kernel,by decide +kernel⟩
theorem zW:FnScope ["_law_cell", "_law_x", "_law_y", "_law_wide", "_law_high", "_law_great", "_law_picture_here", "_law_caught", "_law_found", "e"] ["_law_cell", "_law_x", "_law_y"] (au mh):=⟨rfl,rfl,rfl,by decide +kernel,rfl,by decide +kernel,by decide +kernel⟩
theorem GD:FnScope ["_law_script", "_law_first", "_law_x", "_law_y", "_law_texts", "_law_handed", "_law_picture_here", "_law_found", "_law_drawn_here", "_law_box_here"] ["_law_script"] (au oX):=⟨rfl,rfl,rfl,by decide +kernel,rfl,by decide +kernel,by decide +kernel⟩
theorem nI {f:Addr} {fd:FuncData} (F:Fun K "read_drawn_row" "read_drawn_row" bN f fd) (T:Txt K mg):FnOk P w K mg base (qY P w) 1 f fd ["text", "x", "y"] (dq K):=by
 refine F.okX dJ (fun vs H Q E h=>h.1) (fun cdv A outer s H vs Q E hr h=>?_)
 have nd:=(dJ).nd
 exact ⟨_,tX (dc (aW (kq hr.units) (rF (by decide) (by decide +kernel) (by rfl) T.CELL_OUT.choose_spec.1 T.CELL_OUT.choose_spec.2.1 T.CELL_OUT.choose_spec.2.2 (rF (by decide) (by decide +kernel) (by rfl) T.CELL_IN.choose_spec.1 T.CELL_IN.choose_spec.2.1 T.CELL_IN.choose_spec.2.2 (pv 0))) (cB) (a5 _)) (aA (zD CH T.xr_NoText hr.hd (by rfl) (cB))) bI),nL h⟩
theorem HY {f:Addr} {fd:FuncData} (F:Fun K "_law_box" "_law_box" kw f fd) (T:Txt K mg):FnOk P w K mg base d9 1 f fd ["_law_texts"] (o6 K):=by
 refine F.ok CQ (fun vs H Q E h=>h.1) (fun cdv A outer s H vs Q E hr h=>?_)
 have nd:=(CQ).nd
 exact ⟨_,ap (CD (i:=1) (hN:=nd) (hi0:=rfl) (hx:=Or.inl rfl) (ck:=(show CmpOk ["_law_texts", "_law_rows", "_law_left", "_law_right"] (au kw) _ ["_law_k", "_law_texts"] [none,some 0] from k7)) (hi:=hU (by rfl) T.range (af (a9 bK (by rfl) T.len eF (af (pv 0) ak)) ak)) (hg:=fun _=>aV (i:=0) (show List.Nodup (["_law_k", "_law_texts"]:List Str) from by decide +kernel) rfl (.inl rfl)) (hs:=cP) (ht:=fun _=>oO (aW FY (cB) (aK aC (pv 1) (pv 0) (fun _ _=>rfl)) rfl)) (he:=fun _=>pv 0)) (ap (dc (aW (eW hr.units) (a9 bK (by rfl) T.len eF (af (pv 1) ak)) am (a5 _)) (aA (bu (nK))) bI) (ap (aO (i:=2) nd rfl (.inl rfl) (a9 (sr rfl) (by rfl) T.min E7 (af (gW (show CmpOk ["_law_texts", "_law_rows", "_law_left", "_law_right"] (au kw) _ ["_law_text"] [none] from k7) (jv (pv 0)) (fun _=>aV (i:=0) (show List.Nodup (["_law_text"]:List Str) from by decide +kernel) rfl (.inl rfl)) cP (fun _=>oO (aW FY (cB) (pv 0) rfl)) (fun _=>gK PySem.F.plainAttrs_str PySem.F.slot_str_find PySem.F.type_str_find HQ (pv 0) (af (cB) ak))) ak))) (ap (aO (i:=3) nd rfl (.inl rfl) (a9 (sk rfl) (by rfl) T.max Ax (af (gW (show CmpOk ["_law_texts", "_law_rows", "_law_left", "_law_right"] (au kw) _ ["_law_text"] [none] from k7) (jv (pv 0)) (fun _=>aV (i:=0) (show List.Nodup (["_law_text"]:List Str) from by decide +kernel) rfl (.inl rfl)) cP (fun _=>mf) (fun _=>gK PySem.F.plainAttrs_str PySem.F.slot_str_rfind PySem.F.type_str_rfind FQ (pv 0) (af (cB) ak))) ak))) (aA (bu (bg (af (pv 2) (af (aK aC (pv 1) am (fun _ _=>rfl)) (af (pv 3) (af (aK aC (pv 1) (iU fH am) (fun _ _=>rfl)) ak)))))))))),Ii h⟩
theorem zj {f:Addr} {fd:FuncData} (F:Fun K "_law_cell_at" "_law_cell_at" fW f fd) (T:Txt K mg):FnOk P w K mg base d9 1 f fd ["_law_script", "_law_k"] (gE K):=by
 refine F.ok qP (fun vs H Q E h=>h.1) (fun cdv A outer s H vs Q E hr h=>?_)
 have nd:=(qP).nd
 exact ⟨_,ap (dc (aW F0 (pv 1) (a9 bK (by rfl) T.len eF (af (pv 0) ak)) (a5 _)) (aA (bu (aK aC (pv 0) (pv 1) (fun _ _=>rfl)))) bI) (aA (bu am)),zK h⟩
theorem zl {f:Addr} {fd:FuncData} (F:Fun K "_law_picture" "_law_picture" fY f fd) (T:Txt K mg):FnOk P w K mg base d9 1 f fd ["_law_texts", "_law_x", "_law_y"] (i7 K):=by
 refine F.ok qR (fun vs H Q E h=>h.1) (fun cdv A outer s H vs Q E hr h=>?_)
 have nd:=(qR).nd
 exact ⟨_,ap (aO (i:=3) nd rfl (.inl rfl) (cA ak)) (ap (jx PassesOwn.never rfl (hU (by rfl) T.range (af (a9 bK (by rfl) T.len eF (af (pv 0) ak)) ak)) (aV (i:=4) nd rfl (.inl rfl)) (ap (aO (i:=5) nd rfl (.inl rfl) (cA ak)) (ap (jx PassesOwn.never rfl (hU (by rfl) T.range (af (a9 bK (by rfl) T.len eF (af (aK aC (pv 0) (pv 4) (fun _ _=>rfl)) ak)) ak)) (aV (i:=6) nd rfl (.inl rfl)) (aA (dc (aW (eW hr.units) (aK aC (aK aC (pv 0) (pv 4) (fun _ _=>rfl)) (pv 6) (fun _ _=>rfl)) (cB) (a5 _)) (aA (dc (PW.pt (t0 (aW qI (a9 bK (by rfl) T.len eF (af (pv 5) ak)) am (a5 _)) (oT (aW (eW hr.units) (aK aC (aK aC (pv 5) (iU fH am) (fun _ _=>rfl)) am (fun _ _=>rfl)) (aG eG (aG a6 (pv 1) (pv 6)) am) (a5 _))))) (aA (xD (bg (af (aK aC (aK aC (pv 5) (iU fH am) (fun _ _=>rfl)) am (fun _ _=>rfl)) (af (aG a6 (pv 1) (pv 6)) ak))) (Bj (pv 5) (iU fH am) ub))) (aA (et (gK PySem.F.plainAttrs_list PySem.F.slot_list_append PySem.F.type_list_append dF (pv 5) (af (bg (af (aG a6 (pv 1) (pv 6)) (af (aG a6 (pv 1) (pv 6)) ak))) ak)))))) bI))) (aA (dc (aW qI (a9 bK (by rfl) T.len eF (af (pv 5) ak)) am (a5 _)) (aA (et (gK PySem.F.plainAttrs_list PySem.F.slot_list_append PySem.F.type_list_append dF (pv 3) (af (bg (af (aG a6 (pv 2) (pv 4)) (af (hJ f6 (by rfl) T.tuple kY (af (pv 5) ak)) ak))) ak)))) bI))))) (aA (bu (hJ f6 (by rfl) T.tuple kY (af (pv 3) ak))))),zM h⟩
theorem Bc {f:Addr} {fd:FuncData} (F:Fun K "_law_signed" "_law_signed" hV f fd) (T:Txt K mg):FnOk P w K mg base d9 1 f fd ["_law_cell", "_law_most"] (kD K):=by
 refine F.ok t9 (fun vs H Q E h=>h.1) (fun cdv A outer s H vs Q E hr h=>?_)
 have nd:=(t9).nd
 exact ⟨_,ap (dc (aW F0 (pv 0) am (a5 _)) (aA (bu (aG eG am (aG fB (aG eG am (pv 0)) (pv 1))))) bI) (aA (bu (aG fB (pv 0) (pv 1)))),Bp h⟩
theorem D8 {f:Addr} {fd:FuncData} (F:Fun K "box_of" "box_of" gA f fd) (T:Txt K mg):FnOk P w K mg base d9 1 f fd ["picture"] (jO K):=by
 refine F.ok wa (fun vs H Q E h=>h.1) (fun cdv A outer s H vs Q E hr h=>?_)
 have nd:=(wa).nd
 exact ⟨_,ap (dc (aW (eW hr.units) (pv 0) (bg ak) (a5 _)) (aA (bu (nK))) bI) (ap (aO (i:=1) nd rfl (.inl rfl) (a9 (sr rfl) (by rfl) T.min E7 (af (gW (show CmpOk ["picture", "left", "right"] (au gA) _ ["y", "row"] [none,none] from k7) (jv (pv 0)) (fun _=>ju rfl (bj (aV (i:=0) (show List.Nodup (["y", "row"]:List Str) from by decide +kernel) rfl (.inl rfl)) (bj (aV (i:=1) (show List.Nodup (["y", "row"]:List Str) from by decide +kernel) rfl (.inl rfl)) gc))) (ui (d7 cP (d7 cP pe cu) cu)) (fun _=>mf) (fun _=>aK aC (aK aC (pv 1) am (fun _ _=>rfl)) am (fun _ _=>rfl))) ak))) (ap (aO (i:=2) nd rfl (.inl rfl) (a9 (sk rfl) (by rfl) T.max Ax (af (gW (show CmpOk ["picture", "left", "right"] (au gA) _ ["y", "row"] [none,none] from k7) (jv (pv 0)) (fun _=>ju rfl (bj (aV (i:=0) (show List.Nodup (["y", "row"]:List Str) from by decide +kernel) rfl (.inl rfl)) (bj (aV (i:=1) (show List.Nodup (["y", "row"]:List Str) from by decide +kernel) rfl (.inl rfl)) gc))) (ui (d7 cP (d7 cP pe cu) cu)) (fun _=>mf) (fun _=>aK aC (aK aC (pv 1) (iU fH am) (fun _ _=>rfl)) am (fun _ _=>rfl))) ak))) (aA (bu (bg (af (pv 1) (af (aK aC (aK aC (pv 0) am (fun _ _=>rfl)) am (fun _ _=>rfl)) (af (pv 2) (af (aK aC (aK aC (pv 0) (iU fH am) (fun _ _=>rfl)) am (fun _ _=>rfl)) ak))))))))),Ej h⟩
theorem tP {f:Addr} {fd:FuncData} (F:Fun K "count_up_to" "count_up_to" dG f fd) (T:Txt K mg):FnOk P w K mg base d9 1 f fd ["pairs", "number"] (d6 K):=by
 refine F.ok lJ (fun vs H Q E h=>h.1) (fun cdv A outer s H vs Q E hr h=>?_)
 have nd:=(lJ).nd
 exact ⟨_,ap (aO (i:=2) nd rfl (.inl rfl) am) (ap (aO (i:=3) nd rfl (.inl rfl) (a9 bK (by rfl) T.len eF (af (pv 0) ak))) (ap (F9 PassesOwn.never (aW F0 (pv 2) (pv 3) (a5 _)) (ap (aO (i:=4) nd rfl (.inl rfl) (aG gS (aG a6 (pv 2) (pv 3)) am)) (aA (dc (aW zo (aK aC (aK aC (pv 0) (pv 4) (fun _ _=>rfl)) am (fun _ _=>rfl)) (pv 1) (a5 _)) (aA (aO (i:=2) nd rfl (.inl rfl) (aG a6 (pv 4) am))) (aA (aO (i:=3) nd rfl (.inl rfl) (pv 4))))))) (aA (bu (pv 2))))),t5 h⟩
theorem oM {f:Addr} {fd:FuncData} (F:Fun K "read_drawn_row" "read_drawn_row" bN f fd) (T:Txt K mg):FnOk P w K mg base d9 1 f fd ["text", "x", "y"] (cO K):=by
 refine F.ok dJ (fun vs H Q E h=>h.1) (fun cdv A outer s H vs Q E hr h=>?_)
 have nd:=(dJ).nd
 exact ⟨_,ap (dc (aW (kq hr.units) (rF (by decide) (by decide +kernel) (by rfl) T.CELL_OUT.choose_spec.1 T.CELL_OUT.choose_spec.2.1 T.CELL_OUT.choose_spec.2.2 (rF (by decide) (by decide +kernel) (by rfl) T.CELL_IN.choose_spec.1 T.CELL_IN.choose_spec.2.1 T.CELL_IN.choose_spec.2.2 (pv 0))) (cB) (a5 _)) (aA (zC)) bI) (ap (aO (i:=3) nd rfl (.inl rfl) (cA ak)) (ap (aO (i:=4) nd rfl (.inl rfl) (pv 1)) (ap (jx PassesOwn.never rfl (jv (gK PySem.F.plainAttrs_str PySem.F.slot_str_split PySem.F.type_str_split FS (pv 0) (af (me (v:=.str (Str.ofString ".")) (by rfl) T.CELL_OUT.choose_spec.1 ⟨_,rfl⟩) ak))) (aV (i:=5) nd rfl (.inl rfl)) (ap (dc (aW (kq hr.units) (pv 5) (cB) (a5 _)) (aA (et (gK PySem.F.plainAttrs_list PySem.F.slot_list_append PySem.F.type_list_append dF (pv 3) (af (bg (af (pv 2) (af (pv 4) (af (aG eG (aG a6 (pv 4) (a9 bK (by rfl) T.len eF (af (pv 5) ak))) am) ak)))) ak)))) bI) (aA (Km (i:=4) nd rfl (.inl rfl) (aG a6 (a9 bK (by rfl) T.len eF (af (pv 5) ak)) am) JZ)))) (aA (bu (pv 3)))))),oV h⟩
theorem Ea {f:Addr} {fd:FuncData} (F:Fun K "row_of" "row_of" iz f fd) (T:Txt K mg):FnOk P w K mg base d9 1 f fd ["pairs"] (mo K):=by
 refine F.ok wc (fun vs H Q E h=>h.1) (fun cdv A outer s H vs Q E hr h=>?_)
 have nd:=(wc).nd
 exact ⟨_,ap (aO (i:=1) nd rfl (.inl rfl) (cA ak)) (ap (jx PassesOwn.never rfl (jv (a9 n9 (by rfl) T.sorted vn (af (gW (show CmpOk ["pairs", "stretches", "a", "b"] (au iz) _ ["a", "b"] [none,none] from k7) (jv (pv 0)) (fun _=>ju rfl (bj (aV (i:=0) (show List.Nodup (["a", "b"]:List Str) from by decide +kernel) rfl (.inl rfl)) (bj (aV (i:=1) (show List.Nodup (["a", "b"]:List Str) from by decide +kernel) rfl (.inl rfl)) gc))) (ui (d7 cP (d7 cP pe cu) cu)) (fun _=>oO (aW zo (pv 0) (pv 1) (a5 _))) (fun _=>bg (af (pv 0) (af (pv 1) ak)))) ak))) (ju rfl (bj (aV (i:=2) nd rfl (.inl rfl)) (bj (aV (i:=3) nd rfl (.inl rfl)) gc))) (aA (dc (PW.pt (t0 (iw (pv 1) (fun _=>rfl)) (oT (aW zo (pv 2) (aG a6 (aK aC (aK aC (pv 1) (iU fH am) (fun _ _=>rfl)) am (fun _ _=>rfl)) am) (a5 _))))) (aA (xD (bg (af (aK aC (aK aC (pv 1) (iU fH am) (fun _ _=>rfl)) am (fun _ _=>rfl)) (af (a9 (Dk rfl) (by rfl) T.max Ax (af (aK aC (aK aC (pv 1) (iU fH am) (fun _ _=>rfl)) am (fun _ _=>rfl)) (af (pv 3) ak))) ak))) (Bj (pv 1) (iU fH am) ub))) (aA (et (gK PySem.F.plainAttrs_list PySem.F.slot_list_append PySem.F.type_list_append dF (pv 1) (af (bg (af (pv 2) (af (pv 3) ak))) ak))))))) (aA (bu (hJ f6 (by rfl) T.tuple kY (af (pv 1) ak))))),El h⟩
theorem FW {f:Addr} {fd:FuncData} (F:Fun K "draw" "draw" lI f fd) (T:Txt K mg) {du:Addr} {jD:FuncData} (jz:FnOk P w K mg base d9 1 du jD ["picture"] (jO K)) (cz:mg "box_of" = some (.ref du)) (fw:W.keepIn K (.ref du) = true) (jB:Binds K jD ["picture"] []):FnOk P w K mg base (qY P w) 2 f fd ["picture"] (o5 K):=by
 refine F.okX rH (fun vs H Q E h=>h.1) (fun cdv A outer s H vs Q E hr h=>?_)
 have nd:=(rH).nd
 exact ⟨_,ap (dc (aW (eW hr.units) (pv 0) (bg ak) (a5 _)) (aA (bu (cA ak))) bI) (ap (aO (i:=1) nd rfl (.inr rfl) (aU jz (hr.mono (by decide)) (by rfl) cz fw jB .nil bU (af (pv 0) ak))) (tX (dc (aW qI (aG Bf (aG a6 (aG eG (aK aC (pv 1) am (fun _ _=>rfl)) (aK aC (pv 1) am (fun _ _=>rfl))) am) (aG a6 (aG eG (aK aC (pv 1) am (fun _ _=>rfl)) (aK aC (pv 1) am (fun _ _=>rfl))) am)) (me (v:=.int (1000)) (by rfl) T.MOST_CELLS.choose_spec ⟨_,rfl⟩) (a5 _)) (aA (zD CH T.xr_TooGreat hr.hd (by rfl) (cB))) bI))),Gk h⟩
theorem tN {f td:Addr} {fd:FuncData} (F:FunD K "read_drawn" "read_drawn" bq td f fd) (T:Txt K mg) {aM:Addr} {bW:FuncData} (cc:FnOk P w K mg base d9 1 aM bW ["text", "x", "y"] (cO K)) (aY:mg "read_drawn_row" = some (.ref aM)) (bf:W.keepIn K (.ref aM) = true) (bL:Binds K bW ["text", "x", "y"] []) (fi:FnOk P w K mg base (qY P w) 1 aM bW ["text", "x", "y"] (dq K)):FnOk P w K mg base (qY P w) 2 f fd ["rows", "x", "y"] (fG K):=by
 refine F.okX gf (fun vs H Q E h=>h.1) (fun cdv A outer s H vs Q E hr h=>?_)
 have nd:=(gf).nd
 exact ⟨_,ap (aO (i:=3) nd rfl (.inl rfl) (cA ak)) (tX (jx PassesOwn.leaving rfl (Cz (by rfl) T.enumerate (af (pv 0) ak)) (ju rfl (bj (aV (i:=4) nd rfl (.inl rfl)) (bj (aV (i:=5) nd rfl (.inl rfl)) gc))) (aA (LN (et (gK PySem.F.plainAttrs_list PySem.F.slot_list_extend PySem.F.type_list_extend xp (pv 3) (af (aU fi (hr.mono (by decide)) (by rfl) aY bf bL .nil Ki (af (pv 5) (af (pv 1) (af (aG a6 (pv 2) (pv 4)) ak)))) ak))) (et (gK PySem.F.plainAttrs_list PySem.F.slot_list_extend PySem.F.type_list_extend xp (pv 3) (af (aU cc (hr.mono (by decide)) (by rfl) aY bf bL .nil bU (af (pv 5) (af (pv 1) (af (aG a6 (pv 2) (pv 4)) ak)))) ak))))))),t3 h⟩
theorem zk {f:Addr} {fd:FuncData} (F:Fun K "_law_drawing" "_law_drawing" fX f fd) (T:Txt K mg) {b6:Addr} {gu:FuncData} (ci:FnOk P w K mg base d9 1 b6 gu ["_law_script", "_law_k"] (gE K)) (aH:mg "_law_cell_at" = some (.ref b6)) (bF:W.keepIn K (.ref b6) = true) (cj:Binds K gu ["_law_script", "_law_k"] []):FnOk P w K mg base d9 2 f fd ["_law_script"] (i6 K):=by
 refine F.ok qQ (fun vs H Q E h=>h.1) (fun cdv A outer s H vs Q E hr h=>?_)
 have nd:=(qQ).nd
 exact ⟨_,ap (aO (i:=1) nd rfl (.inl rfl) (cA ak)) (ap (jx PassesOwn.never rfl (hU (by rfl) T.range (af (aG fB (aU ci (hr.mono (by decide)) (by rfl) aH bF cj .nil bU (af (pv 0) (af am ak))) am) ak)) (aV (i:=2) nd rfl (.inl rfl)) (ap (aO (i:=3) nd rfl (.inl rfl) (aG gS (aG fB (aG Bf (aU ci (hr.mono (by decide)) (by rfl) aH bF cj .nil bU (af (pv 0) (af (aG a6 am (pv 2)) ak))) (aK aC (cA (af am (af am ak))) (aG fB (pv 2) am) (fun _ _=>rfl))) am) am)) (ap (aO (i:=4) nd rfl (.inl rfl) (cB)) (ap (jx PassesOwn.never rfl (hU (by rfl) T.range (af (aG fB (aG gS (pv 3) am) am) ak)) (aV (i:=5) nd rfl (.inl rfl)) (ap (aO (i:=4) nd rfl (.inl rfl) (aG a6 (pv 4) (aK aC (cB) (aG fB (pv 3) am) (fun _ _=>rfl)))) (aA (aO (i:=3) nd rfl (.inl rfl) (aG gS (pv 3) am))))) (aA (et (gK PySem.F.plainAttrs_list PySem.F.slot_list_append PySem.F.type_list_append dF (pv 1) (af (pv 4) ak)))))))) (aA (bu (pv 1)))),zL h⟩
theorem D7 {f:Addr} {fd:FuncData} (F:Fun K "_law_drawn" "_law_drawn" jM f fd) (T:Txt K mg) {gG:Addr} {oy:FuncData} (pi:FnOk P w K mg base d9 1 gG oy ["_law_texts"] (o6 K)) (dW:mg "_law_box" = some (.ref gG)) (kf:W.keepIn K (.ref gG) = true) (pz:Binds K oy ["_law_texts"] []):FnOk P w K mg base d9 2 f fd ["_law_texts"] (mj K):=by
 refine F.ok v9 (fun vs H Q E h=>h.1) (fun cdv A outer s H vs Q E hr h=>?_)
 have nd:=(v9).nd
 exact ⟨_,ap (aO (i:=1) nd rfl (.inl rfl) (aU pi (hr.mono (by decide)) (by rfl) dW kf pz .nil bU (af (pv 0) ak))) (ap (dc (aW FZ (pv 1) (nK) (a5 _)) (aA (bu (cA ak))) bI) (ap (aO (i:=2) nd rfl (.inl rfl) (cA ak)) (ap (jx PassesOwn.never rfl (pZ (by rfl) T.range (af (aK aC (pv 1) am (fun _ _=>rfl)) (af (aG a6 (aK aC (pv 1) am (fun _ _=>rfl)) am) ak))) (aV (i:=3) nd rfl (.inl rfl)) (ap (aO (i:=4) nd rfl (.inl rfl) (aG a6 (aK aC (pv 0) (pv 3) (fun _ _=>rfl)) (aG H9 (cB) am))) (aA (et (gK PySem.F.plainAttrs_list PySem.F.slot_list_append PySem.F.type_list_append dF (pv 2) (af (tR Bz (pv 4) (rG (aK aC (pv 1) am (fun _ _=>rfl))) (rG (aG a6 (aK aC (pv 1) am (fun _ _=>rfl)) am))) ak)))))) (aA (bu (pv 2)))))),Ei h⟩
theorem uQ {f:Addr} {fd:FuncData} (F:Fun K "picture_of" "picture_of" cN f fd) (T:Txt K mg) {gt:Addr} {vD:FuncData} (rQ:FnOk P w K mg base d9 1 gt vD ["pairs"] (mo K)) (gy:mg "row_of" = some (.ref gt)) (jH:W.keepIn K (.ref gt) = true) (sj:Binds K vD ["pairs"] []):FnOk P w K mg base d9 2 f fd ["stretches"] (gh K):=by
 refine F.ok mL (fun vs H Q E h=>h.1) (fun cdv A outer s H vs Q E hr h=>?_)
 have nd:=(mL).nd
 exact ⟨_,ap (aO (i:=1) nd rfl (.inl rfl) (cA ak)) (ap (jx PassesOwn.never rfl (jv (a9 n9 (by rfl) T.sorted vn (af (gW (show CmpOk ["stretches", "pairs_by_row", "y", "a", "b"] (au cN) _ ["y", "a", "b"] [none,none,none] from k7) (jv (pv 0)) (fun _=>ju rfl (bj (aV (i:=0) (show List.Nodup (["y", "a", "b"]:List Str) from by decide +kernel) rfl (.inl rfl)) (bj (aV (i:=1) (show List.Nodup (["y", "a", "b"]:List Str) from by decide +kernel) rfl (.inl rfl)) (bj (aV (i:=2) (show List.Nodup (["y", "a", "b"]:List Str) from by decide +kernel) rfl (.inl rfl)) gc)))) (ui (d7 cP (d7 cP (d7 cP pe cu) cu) cu)) (fun _=>oO (aW zo (pv 1) (pv 2) (a5 _))) (fun _=>bg (af (pv 0) (af (pv 1) (af (pv 2) ak))))) ak))) (ju rfl (bj (aV (i:=2) nd rfl (.inl rfl)) (bj (aV (i:=3) nd rfl (.inl rfl)) (bj (aV (i:=4) nd rfl (.inl rfl)) gc)))) (ap (dc (PW.pt (zE (xE (iw (pv 1) (fun _=>rfl))) (xG (aW (kq hr.units) (aK aC (aK aC (pv 1) (iU fH am) (fun _ _=>rfl)) am (fun _ _=>rfl)) (pv 2) (a5 _))))) (aA (et (gK PySem.F.plainAttrs_list PySem.F.slot_list_append PySem.F.type_list_append dF (pv 1) (af (bg (af (pv 2) (af (cA ak) ak))) ak)))) bI) (aA (et (gK PySem.F.plainAttrs_list PySem.F.slot_list_append PySem.F.type_list_append dF (aK aC (aK aC (pv 1) (iU fH am) (fun _ _=>rfl)) am (fun _ _=>rfl)) (af (bg (af (pv 3) (af (pv 4) ak))) ak)))))) (aA (bu (hJ f6 (by rfl) T.tuple kY (af (gW (show CmpOk ["stretches", "pairs_by_row", "y", "a", "b"] (au cN) _ ["y", "pairs"] [none,none] from k7) (jv (pv 1)) (fun _=>ju rfl (bj (aV (i:=0) (show List.Nodup (["y", "pairs"]:List Str) from by decide +kernel) rfl (.inl rfl)) (bj (aV (i:=1) (show List.Nodup (["y", "pairs"]:List Str) from by decide +kernel) rfl (.inl rfl)) gc))) (ui (d7 cP (d7 cP pe cu) cu)) (fun _=>mf) (fun _=>bg (af (pv 0) (af (aU rQ (hr.mono (by decide)) (by rfl) gy jH sj .nil bU (af (pv 1) ak)) ak)))) ak))))),uU h⟩
theorem D9 {f:Addr} {fd:FuncData} (F:Fun K "row_at" "row_at" jN f fd) (T:Txt K mg) {bn:Addr} {dU:FuncData} (dw:FnOk P w K mg base d9 1 bn dU ["pairs", "number"] (d6 K)) (bz:mg "count_up_to" = some (.ref bn)) (bQ:W.keepIn K (.ref bn) = true) (dB:Binds K dU ["pairs", "number"] []):FnOk P w K mg base d9 2 f fd ["picture", "y"] (mn K):=by
 refine F.ok wb (fun vs H Q E h=>h.1) (fun cdv A outer s H vs Q E hr h=>?_)
 have nd:=(wb).nd
 exact ⟨_,ap (aO (i:=2) nd rfl (.inl rfl) (aU dw (hr.mono (by decide)) (by rfl) bz bQ dB .nil bU (af (pv 0) (af (pv 1) ak)))) (ap (dc (PW.pt (t0 (aW qI (pv 2) am (a5 _)) (oT (aW (eW hr.units) (aK aC (aK aC (pv 0) (aG eG (pv 2) am) (fun _ _=>rfl)) am (fun _ _=>rfl)) (pv 1) (a5 _))))) (aA (bu (aK aC (aK aC (pv 0) (aG eG (pv 2) am) (fun _ _=>rfl)) am (fun _ _=>rfl)))) bI) (aA (bu (bg ak)))),Ek h⟩
theorem Bd {f:Addr} {fd:FuncData} (F:Fun K "row_has" "row_has" hW f fd) (T:Txt K mg) {bn:Addr} {dU:FuncData} (dw:FnOk P w K mg base d9 1 bn dU ["pairs", "number"] (d6 K)) (bz:mg "count_up_to" = some (.ref bn)) (bQ:W.keepIn K (.ref bn) = true) (dB:Binds K dU ["pairs", "number"] []):FnOk P w K mg base d9 2 f fd ["row", "x"] (kE K):=by
 refine F.ok ua (fun vs H Q E h=>h.1) (fun cdv A outer s H vs Q E hr h=>?_)
 have nd:=(ua).nd
 exact ⟨_,ap (aO (i:=2) nd rfl (.inl rfl) (aU dw (hr.mono (by decide)) (by rfl) bz bQ dB .nil bU (af (pv 0) (af (pv 1) ak)))) (aA (bu (xx (gU qI (pv 2) am (a5 _)) (F3 (gU zo (pv 1) (aK aC (aK aC (pv 0) (aG eG (pv 2) am) (fun _ _=>rfl)) am (fun _ _=>rfl)) (a5 _)))))),Bq h⟩
theorem xw {f:Addr} {fd:FuncData} (F:Fun K "_law_bad_sign" "_law_bad_sign" dZ f fd) (T:Txt K mg) {bh:Addr} {dD:FuncData} (ja:FnOk P w K mg base (qY P w) 2 bh dD ["rows", "x", "y"] (fG K)) (aZ:mg "read_drawn" = some (.ref bh)) (bR:PySem.W.keepIn K (.ref bh) = true) (dh:Binds K dD ["rows", "x", "y"] []):FnOk P w K mg base d9 3 f fd ["_law_texts", "_law_cell", "_law_x", "_law_y"] (gZ K):=by
 refine F.ok oZ (fun vs H Q E h=>h.1) (fun cdv A outer s H vs Q E hr h=>?_)
 have nd:=(oZ).nd
 exact ⟨_,ap (CD (i:=4) (hN:=nd) (hi0:=rfl) (hx:=Or.inl rfl) (ck:=(show CmpOk ["_law_texts", "_law_cell", "_law_x", "_law_y", "_law_some", "_law_k", "_law_j", "_law_sign", "_law_bad", "_law_caught", "e"] (au dZ) _ ["_law_k", "_law_texts"] [none,some 0] from k7)) (hi:=hU (by rfl) T.range (af (a9 bK (by rfl) T.len eF (af (pv 0) ak)) ak)) (hg:=fun _=>aV (i:=0) (show List.Nodup (["_law_k", "_law_texts"]:List Str) from by decide +kernel) rfl (.inl rfl)) (hs:=cP) (ht:=fun _=>oO (aW qI (a9 bK (by rfl) T.len eF (af (aK aC (pv 1) (pv 0) (fun _ _=>rfl)) ak)) am (a5 _))) (he:=fun _=>pv 0)) (ap (dc (aW (eW hr.units) (a9 bK (by rfl) T.len eF (af (pv 4) ak)) am (a5 _)) (aA (bu fD)) bI) (ap (aO (i:=5) nd rfl (.inl rfl) (aK aC (pv 4) (aG fB (pv 1) (a9 bK (by rfl) T.len eF (af (pv 4) ak))) (fun _ _=>rfl))) (ap (aO (i:=6) nd rfl (.inl rfl) (aG fB (aG gS (pv 1) am) (a9 bK (by rfl) T.len eF (af (aK aC (pv 0) (pv 5) (fun _ _=>rfl)) ak)))) (ap (aO (i:=7) nd rfl (.inl rfl) (aK aC (cA (af (cB) (af (cB) (af (cB) (af (cB) (af (cB) (af (cB) ak))))))) (aG fB (aG gS (pv 1) am) am) (fun _ _=>rfl))) (ap (aO (i:=8) nd rfl (.inl rfl) (hJ n8 (by rfl) T.list B5 (af (pv 0) ak))) (ap (xD (aG a6 (aG a6 (tR Bz (aK aC (pv 0) (pv 5) (fun _ _=>rfl)) (CC) (rG (pv 6))) (pv 7)) (tR Bz (aK aC (pv 0) (pv 5) (fun _ _=>rfl)) (rG (aG a6 (pv 6) am)) (CC))) (Bj (pv 8) (pv 5) ub)) (ap (aO (i:=9) nd rfl (.inl rfl) (nK)) (ap (Kn (L:=I0) (i:=10) rfl rfl nd rfl rfl T.xc_ShapeError (by rfl) (fun ps W E hp=>aA (et (aU ja (hr.mono (by decide)) (by rfl) aZ bR dh .nil hp (af (pv 8) (af (pv 2) (af (pv 3) ak)))))) (fun e=>(show PSs _ _ (wl K 10 [(9,[cY,bw,bS])]) from aA (aO (i:=9) nd rfl (.inl rfl) (cA (af (xy T.xa_NoText (by rfl) T.isinstance (by rfl) (pv 10)) (af (Cy T.ValueError PyProof.Rows.Boot.«ValueError» T.xa_ValueError (by rfl) T.isinstance (by rfl) (pv 10)) (af (xy T.xa_TooGreat (by rfl) T.isinstance (by rfl) (pv 10)) ak)))))))) (aA (bu (gU (eW hr.units) (pv 9) (cA (af fD (af fD (af fD ak)))) (a5 _)))))))))))),xI h⟩
theorem zm {f:Addr} {fd:FuncData} (F:Fun K "draw_row" "draw_row" eX f fd) (T:Txt K mg) {e7:Addr} {sP:FuncData} (pj:FnOk P w K mg base d9 2 e7 sP ["row", "x"] (kE K)) (eh:mg "row_has" = some (.ref e7)) (hG:W.keepIn K (.ref e7) = true) (pA:Binds K sP ["row", "x"] []):FnOk P w K mg base d9 3 f fd ["row", "first", "last"] (i8 K):=by
 refine F.ok qS (fun vs H Q E h=>h.1) (fun cdv A outer s H vs Q E hr h=>?_)
 have nd:=(qS).nd
 exact ⟨_,aA (bu (gK PySem.F.plainAttrs_str PySem.F.slot_str_join PySem.F.type_str_join HR (cB) (af (gW (show CmpOk ["row", "first", "last"] (au eX) _ ["x", "row"] [none,some 0] from k7) (pZ (by rfl) T.range (af (pv 1) (af (aG a6 (pv 2) am) ak))) (fun _=>aV (i:=0) (show List.Nodup (["x", "row"]:List Str) from by decide +kernel) rfl (.inl rfl)) cP (fun _=>mf) (fun _=>F2 (iw (aU pj (hr.mono (by decide)) (by rfl) eh hG pA .nil bU (af (pv 1) (af (pv 0) ak))) (fun _=>rfl)) (me (v:=.str (Str.ofString "#")) (by rfl) T.CELL_IN.choose_spec.1 ⟨_,rfl⟩) (me (v:=.str (Str.ofString ".")) (by rfl) T.CELL_OUT.choose_spec.1 ⟨_,rfl⟩))) ak))),zN h⟩
theorem uR {f td:Addr} {fd:FuncData} (F:FunD K "read_drawn" "read_drawn" bq td f fd) (T:Txt K mg) {aM:Addr} {bW:FuncData} (cc:FnOk P w K mg base d9 1 aM bW ["text", "x", "y"] (cO K)) (aY:mg "read_drawn_row" = some (.ref aM)) (bf:W.keepIn K (.ref aM) = true) (bL:Binds K bW ["text", "x", "y"] []) {cK:Addr} {mF:FuncData} (jV:FnOk P w K mg base d9 2 cK mF ["stretches"] (gh K)) (dn:mg "picture_of" = some (.ref cK)) (eg:W.keepIn K (.ref cK) = true) (j9:Binds K mF ["stretches"] []):FnOk P w K mg base d9 3 f fd ["rows", "x", "y"] (gi K):=by
 refine F.ok gf (fun vs H Q E h=>h.1) (fun cdv A outer s H vs Q E hr h=>?_)
 have nd:=(gf).nd
 exact ⟨_,ap (aO (i:=3) nd rfl (.inl rfl) (cA ak)) (ap (jx PassesOwn.never rfl (Cz (by rfl) T.enumerate (af (pv 0) ak)) (ju rfl (bj (aV (i:=4) nd rfl (.inl rfl)) (bj (aV (i:=5) nd rfl (.inl rfl)) gc))) (aA (et (gK PySem.F.plainAttrs_list PySem.F.slot_list_extend PySem.F.type_list_extend xp (pv 3) (af (aU cc (hr.mono (by decide)) (by rfl) aY bf bL .nil bU (af (pv 5) (af (pv 1) (af (aG a6 (pv 2) (pv 4)) ak)))) ak))))) (aA (bu (aU jV (hr.mono (by decide)) (by rfl) dn eg j9 .nil bU (af (pv 3) ak))))),uV h⟩
theorem HZ {f:Addr} {fd:FuncData} (F:Fun K "draw" "draw" lI f fd) (T:Txt K mg) {du:Addr} {jD:FuncData} (jz:FnOk P w K mg base d9 1 du jD ["picture"] (jO K)) (cz:mg "box_of" = some (.ref du)) (fw:W.keepIn K (.ref du) = true) (jB:Binds K jD ["picture"] []) {dS:Addr} {qF:FuncData} (mQ:FnOk P w K mg base d9 3 dS qF ["row", "first", "last"] (i8 K)) (dX:mg "draw_row" = some (.ref dS)) (fU:W.keepIn K (.ref dS) = true) (m6:Binds K qF ["row", "first", "last"] []) {gq:Addr} {vC:FuncData} (rP:FnOk P w K mg base d9 2 gq vC ["picture", "y"] (mn K)) (eJ:mg "row_at" = some (.ref gq)) (jG:W.keepIn K (.ref gq) = true) (si:Binds K vC ["picture", "y"] []):FnOk P w K mg base d9 4 f fd ["picture"] (o8 K):=by
 refine F.ok rH (fun vs H Q E h=>h.1) (fun cdv A outer s H vs Q E hr h=>?_)
 have nd:=(rH).nd
 exact ⟨_,ap (dc (aW (eW hr.units) (pv 0) (bg ak) (a5 _)) (aA (bu (cA ak))) bI) (ap (aO (i:=1) nd rfl (.inr rfl) (aU jz (hr.mono (by decide)) (by rfl) cz fw jB .nil bU (af (pv 0) ak))) (ap (dc (aW qI (aG Bf (aG a6 (aG eG (aK aC (pv 1) am (fun _ _=>rfl)) (aK aC (pv 1) am (fun _ _=>rfl))) am) (aG a6 (aG eG (aK aC (pv 1) am (fun _ _=>rfl)) (aK aC (pv 1) am (fun _ _=>rfl))) am)) (me (v:=.int (1000)) (by rfl) T.MOST_CELLS.choose_spec ⟨_,rfl⟩) (a5 _)) (aA (zC)) bI) (aA (bu (gW (show CmpOk ["picture", "box"] (au lI) _ ["y", "picture", "box"] [none,some 0,some 1] from k7) (pZ (by rfl) T.range (af (aK aC (pv 1) am (fun _ _=>rfl)) (af (aG a6 (aK aC (pv 1) am (fun _ _=>rfl)) am) ak))) (fun _=>aV (i:=0) (show List.Nodup (["y", "picture", "box"]:List Str) from by decide +kernel) rfl (.inl rfl)) cP (fun _=>mf) (fun _=>aU mQ (hr.mono (by decide)) (by rfl) dX fU m6 .nil bU (af (aU rP (hr.mono (by decide)) (by rfl) eJ jG si .nil bU (af (pv 1) (af (pv 0) ak))) (af (aK aC (pv 2) am (fun _ _=>rfl)) (af (aK aC (pv 2) am (fun _ _=>rfl)) ak))))))))),Ij h⟩
theorem FX {f:Addr} {fd:FuncData} (F:Fun K "_law_size" "_law_size" mh f fd) (T:Txt K mg) {fm:Addr} {lX:FuncData} (mP:FnOk P w K mg base d9 4 fm lX ["picture"] (o8 K)) (fx:mg "draw" = some (.ref fm)) (ip:PySem.W.keepIn K (.ref fm) = true) (kX:Binds K lX ["picture"] []) (wz:FnOk P w K mg base (qY P w) 2 fm lX ["picture"] (o5 K)):FnOk P w K mg base d9 5 f fd ["_law_cell", "_law_x", "_law_y"] (o7 K):=by
 refine F.ok zW (fun vs H Q E h=>h.1) (fun cdv A outer s H vs Q E hr h=>?_)
 have nd:=(zW).nd
 exact ⟨_,ap (xD (aK aC (cA (af (bg (af am (af am (af fD ak)))) (af (bg (af am (af am (af fD ak)))) (af (bg (af am (af am (af fD ak)))) (af (bg (af am (af am (af fD ak)))) (af (bg (af am (af am (af fD ak)))) (af (bg (af am (af am (af fD ak)))) (af (bg (af am (af am (af fD ak)))) (af (bg (af (aG Bg am am) (af am (af fD ak)))) ak))))))))) (aG fB (pv 0) am) (fun _ _=>rfl)) (ju rfl (bj (aV (i:=3) nd rfl (.inl rfl)) (bj (aV (i:=4) nd rfl (.inl rfl)) (bj (aV (i:=5) nd rfl (.inl rfl)) gc))))) (ap (aO (i:=6) nd rfl (.inl rfl) (bg (af (bg (af (pv 2) (af (bg (af (bg (af (pv 1) (af (pv 1) ak))) (af (bg (af (aG eG (aG a6 (pv 1) (pv 3)) am) (af (aG eG (aG a6 (pv 1) (pv 3)) am) ak))) ak))) ak))) ak))) (ap (dc (aW qI (pv 4) am (a5 _)) (aA (aO (i:=6) nd rfl (.inl rfl) (bg (af (bg (af (pv 2) (af (bg (af (bg (af (pv 1) (af (pv 1) ak))) ak)) ak))) (af (bg (af (aG eG (aG a6 (pv 2) (pv 4)) am) (af (bg (af (bg (af (aG eG (aG a6 (pv 1) (pv 3)) am) (af (aG eG (aG a6 (pv 1) (pv 3)) am) ak))) ak)) ak))) ak))))) bI) (ap (aO (i:=7) nd rfl (.inl rfl) (nK)) (ap (aO (i:=8) nd rfl (.inl rfl) (cA ak)) (ap (Ig (L:=I0) (i:=9) rfl rfl nd rfl rfl T.xc_ShapeError (by rfl) (Kj wz (hr.mono (by decide)) (by rfl) fx ip kX (fun ps W=>af (pv 6) ak)) (fun ps W=>aA (aO (i:=8) nd rfl (.inl rfl) (aU mP (hr.mono (by decide)) (by rfl) fx ip kX .nil bU (af (pv 6) ak)))) (fun e=>(show PSs _ _ (wl K 9 [(7,[bS,bw,cY])]) from aA (aO (i:=7) nd rfl (.inl rfl) (cA (af (xy T.xa_TooGreat (by rfl) T.isinstance (by rfl) (pv 9)) (af (Cy T.ValueError PyProof.Rows.Boot.«ValueError» T.xa_ValueError (by rfl) T.isinstance (by rfl) (pv 9)) (af (xy T.xa_NoText (by rfl) T.isinstance (by rfl) (pv 9)) ak)))))))) (ap (dc (iw (pv 5) (fun _=>rfl)) (aA (bu (gU (eW hr.units) (pv 7) (cA (af fD (af fD (af fD ak)))) (a5 _)))) bI) (aA (bu (xx (gU FZ (pv 7) (nK) (a5 _)) (xx (gU (eW hr.units) (a9 bK (by rfl) T.len eF (af (pv 8) ak)) (pv 4) (a5 _)) (xx (gU (eW hr.units) (aK aC (aK aC (pv 8) am (fun _ _=>rfl)) am (fun _ _=>rfl)) (cB) (a5 _)) (F3 (gU (eW hr.units) (aK aC (aK aC (pv 8) (iU fH am) (fun _ _=>rfl)) (iU fH am) (fun _ _=>rfl)) (cB) (a5 _)))))))))))))),Gm h⟩
theorem Kf {f:Addr} {fd:FuncData} (F:Fun K "law" "law" oX f fd) (T:Txt K mg) {b6:Addr} {gu:FuncData} (ci:FnOk P w K mg base d9 1 b6 gu ["_law_script", "_law_k"] (gE K)) (aH:mg "_law_cell_at" = some (.ref b6)) (bF:W.keepIn K (.ref b6) = true) (cj:Binds K gu ["_law_script", "_law_k"] []) {e6:Addr} {sO:FuncData} (lQ:FnOk P w K mg base d9 1 e6 sO ["_law_cell", "_law_most"] (kD K)) (dE:mg "_law_signed" = some (.ref e6)) (fT:W.keepIn K (.ref e6) = true) (lV:Binds K sO ["_law_cell", "_law_most"] []) {dP:Addr} {qD:FuncData} (mO:FnOk P w K mg base d9 2 dP qD ["_law_script"] (i6 K)) (eV:mg "_law_drawing" = some (.ref dP)) (fS:W.keepIn K (.ref dP) = true) (mZ:Binds K qD ["_law_script"] []) {dQ:Addr} {qE:FuncData} (jU:FnOk P w K mg base d9 1 dQ qE ["_law_texts", "_law_x", "_law_y"] (i7 K)) (cQ:mg "_law_picture" = some (.ref dQ)) (eS:W.keepIn K (.ref dQ) = true) (j8:Binds K qE ["_law_texts", "_law_x", "_law_y"] []) {bh:Addr} {dD:FuncData} (fj:FnOk P w K mg base d9 3 bh dD ["rows", "x", "y"] (gi K)) (aZ:mg "read_drawn" = some (.ref bh)) (bR:W.keepIn K (.ref bh) = true) (dh:Binds K dD ["rows", "x", "y"] []) (je:∃ t u:Tok,Binds K dD ["rows", "x", "y"] [.int 0 t,.int 0 u]) {c8:Addr} {ox:FuncData} (kQ:FnOk P w K mg base d9 3 c8 ox ["_law_texts", "_law_cell", "_law_x", "_law_y"] (gZ K)) (c9:mg "_law_bad_sign" = some (.ref c8)) (e8:W.keepIn K (.ref c8) = true) (kW:Binds K ox ["_law_texts", "_law_cell", "_law_x", "_law_y"] []) {fm:Addr} {lX:FuncData} (mP:FnOk P w K mg base d9 4 fm lX ["picture"] (o8 K)) (fx:mg "draw" = some (.ref fm)) (ip:W.keepIn K (.ref fm) = true) (kX:Binds K lX ["picture"] []) {gG:Addr} {oy:FuncData} (pi:FnOk P w K mg base d9 1 gG oy ["_law_texts"] (o6 K)) (dW:mg "_law_box" = some (.ref gG)) (kf:W.keepIn K (.ref gG) = true) (pz:Binds K oy ["_law_texts"] []) {gm:Addr} {vB:FuncData} (nY:FnOk P w K mg base d9 2 gm vB ["_law_texts"] (mj K)) (gv:mg "_law_drawn" = some (.ref gm)) (im:W.keepIn K (.ref gm) = true) (n6:Binds K vB ["_law_texts"] []) {iP:Addr} {yJ:FuncData} (wA:FnOk P w K mg base d9 5 iP yJ ["_law_cell", "_law_x", "_law_y"] (o7 K)) (kl:mg "_law_size" = some (.ref iP)) (l7:W.keepIn K (.ref iP) = true) (wM:Binds K yJ ["_law_cell", "_law_x", "_law_y"] []):FnOk P w K mg base d9 6 f fd ["_law_script"] (ug K):=by
 refine F.ok GD (fun vs H Q E h=>h.1) (fun cdv A outer s H vs Q E hr h=>?_)
 have nd:=(GD).nd
 exact ⟨_,ap (aO (i:=1) nd rfl (.inl rfl) (aU ci (hr.mono (by decide)) (by rfl) aH bF cj .nil bU (af (pv 0) (af am ak)))) (ap (aO (i:=2) nd rfl (.inl rfl) (aU lQ (hr.mono (by decide)) (by rfl) dE fT lV .nil bU (af (aU ci (hr.mono (by decide)) (by rfl) aH bF cj .nil bU (af (pv 0) (af am ak))) (af (aK aC (cA (af am (af (aG Bg am am) ak))) (aG fB (aG gS (pv 1) am) am) (fun _ _=>rfl)) ak)))) (ap (aO (i:=3) nd rfl (.inl rfl) (aU lQ (hr.mono (by decide)) (by rfl) dE fT lV .nil bU (af (aU ci (hr.mono (by decide)) (by rfl) aH bF cj .nil bU (af (pv 0) (af am ak))) (af (aK aC (cA (af am (af (aG Bg am am) ak))) (aG fB (aG gS (pv 1) am) am) (fun _ _=>rfl)) ak)))) (ap (aO (i:=4) nd rfl (.inl rfl) (aU mO (hr.mono (by decide)) (by rfl) eV fS mZ .nil bU (af (pv 0) ak))) (ap (aO (i:=5) nd rfl (.inl rfl) (hJ n8 (by rfl) T.list B5 (af (pv 4) ak))) (ap (aO (i:=6) nd rfl (.inl rfl) (aU jU (hr.mono (by decide)) (by rfl) cQ eS j8 .nil bU (af (pv 4) (af (pv 2) (af (pv 3) ak))))) (ap (aO (i:=7) nd rfl (.inl rfl) (aU fj (hr.mono (by decide)) (by rfl) aZ bR dh .nil bU (af (pv 5) (af (pv 2) (af (pv 3) ak))))) (ap (dc (PW.pt (zE (aW (kq hr.units) (pv 7) (pv 6) (a5 _)) (zE (xE (iw (a9 Dj (by rfl) T.isinstance jf (af (pv 7) (af (Cw (v:=.ty "tuple") (by rfl) T.tuple kY rfl) ak))) (fun _=>rfl))) (xG (aW (kq hr.units) (pv 5) (pv 4) (a5 _)))))) (aA (bu fD)) bI) (ap (dc (PW.pt (zE (aW (kq hr.units) (aU fj (hr.mono (by decide)) (by rfl) aZ bR je.choose_spec.choose_spec (.cons (show RelV (.int 0) (Value.int 0 _) from ⟨_,rfl⟩) (.cons (show RelV (.int 0) (Value.int 0 _) from ⟨_,rfl⟩) .nil)) bU (af (pv 5) ak)) (aU jU (hr.mono (by decide)) (by rfl) cQ eS j8 .nil bU (af (pv 4) (af am (af am ak)))) (a5 _)) (xG (xE (iw (aU kQ (hr.mono (by decide)) (by rfl) c9 e8 kW .nil bU (af (pv 4) (af (aU ci (hr.mono (by decide)) (by rfl) aH bF cj .nil bU (af (pv 0) (af am ak))) (af (pv 2) (af (pv 3) ak))))) (fun _=>rfl)))))) (aA (bu fD)) bI) (ap (aO (i:=8) nd rfl (.inl rfl) (aU mP (hr.mono (by decide)) (by rfl) fx ip kX .nil bU (af (pv 6) ak))) (ap (aO (i:=9) nd rfl (.inl rfl) (aU pi (hr.mono (by decide)) (by rfl) dW kf pz .nil bU (af (pv 4) ak))) (ap (dc (PW.pt (zE (aW (kq hr.units) (pv 8) (aU nY (hr.mono (by decide)) (by rfl) gv im n6 .nil bU (af (pv 4) ak)) (a5 _)) (xG (PW.pt (t0 (aW (eW hr.units) (aG fB (aG gS (pv 1) am) am) am (a5 _)) (oT (xE (iw (aU wA (hr.mono (by decide)) (by rfl) kl l7 wM .nil bU (af (aU ci (hr.mono (by decide)) (by rfl) aH bF cj .nil bU (af (pv 0) (af am ak))) (af (pv 2) (af (pv 3) ak)))) (fun _=>rfl))))))))) (aA (bu fD)) bI) (ap (dc (PW.pt (t0 (aW Ia (pv 9) (nK) (a5 _)) (oT (aW (kq hr.units) (aU fj (hr.mono (by decide)) (by rfl) aZ bR dh .nil bU (af (pv 8) (af (aG a6 (pv 2) (aK aC (pv 9) am (fun _ _=>rfl))) (af (aG a6 (pv 3) (aK aC (pv 9) am (fun _ _=>rfl))) ak)))) (pv 6) (a5 _))))) (aA (bu fD)) bI) (ap (et (gK PySem.F.plainAttrs_list PySem.F.slot_list_append PySem.F.type_list_append dF (pv 8) (af (cB) ak))) (aA (bu (gU (eW hr.units) (aU mP (hr.mono (by decide)) (by rfl) fx ip kX .nil bU (af (pv 6) ak)) (aU nY (hr.mono (by decide)) (by rfl) gv im n6 .nil bU (af (pv 4) ak)) (a5 _))))))))))))))))),Ku h⟩
end
theorem Hh {us:List Value} {n:Nat} (h:us.length = n + 1):∃ a v,us = a :: v /\ v.length = n:=by
 cases us with
 | nil=>cases h
 | cons a v=>exact ⟨a,v,rfl,Nat.succ.inj h⟩
theorem KS {us:List Value} (h:us.length = 1):∃ a0,us = [a0]:=by
 obtain ⟨a0,v0,rfl,h0⟩:=Hh h
 cases v0 with
 | nil=>exact ⟨a0,rfl⟩
 | cons a v=>cases h0
theorem Ms {us:List Value} (h:us.length = 2):∃ a0 a1,us = [a0,a1]:=by
 obtain ⟨a0,v0,rfl,h0⟩:=Hh h
 obtain ⟨a1,v1,rfl,h1⟩:=Hh h0
 cases v1 with
 | nil=>exact ⟨a0,a1,rfl⟩
 | cons a v=>cases h1
theorem M1 {us:List Value} (h:us.length = 3):∃ a0 a1 a2,us = [a0,a1,a2]:=by
 obtain ⟨a0,v0,rfl,h0⟩:=Hh h
 obtain ⟨a1,v1,rfl,h1⟩:=Hh h0
 obtain ⟨a2,v2,rfl,h2⟩:=Hh h1
 cases v2 with
 | nil=>exact ⟨a0,a1,a2,rfl⟩
 | cons a v=>cases h2
theorem Pq {us:List Value} (h:us.length = 4):∃ a0 a1 a2 a3,us = [a0,a1,a2,a3]:=by
 obtain ⟨a0,v0,rfl,h0⟩:=Hh h
 obtain ⟨a1,v1,rfl,h1⟩:=Hh h0
 obtain ⟨a2,v2,rfl,h2⟩:=Hh h1
 obtain ⟨a3,v3,rfl,h3⟩:=Hh h2
 cases v3 with
 | nil=>exact ⟨a0,a1,a2,a3,rfl⟩
 | cons a v=>cases h3
theorem JM {l:W.OpenLaw} {w:World} {K:W.Frag} {h:Heap} {mg:Str -> Option Value} {fa:Addr} (X:K.In h) (G:h.Ns mainGlobals mg) (hfa:mg "law" = some (.ref fa))
  {gt:Addr} {D5 Di:Option Addr} {Ev:Array (Option Value)} {D1 DP DB Ef vt Dw:Value}
  {bn:Addr} {tK sd:Option Addr} {uc:Array (Option Value)} {tJ sX sG tW kZ sF:Value}
  {e7:Addr} {A9 As:Option Addr} {Bw:Array (Option Value)} {A7 AX AJ Bl sv AF:Value}
  {cK:Addr} {uO uw:Option Addr} {uX:Array (Option Value)} {uM uH uz uS mD ux:Value}
  {gq:Addr} {D4 Dh:Option Addr} {Eu:Array (Option Value)} {D0 DN DA Ee vq Dv:Value}
  {du:Addr} {D3 Dg:Option Addr} {Et:Array (Option Value)} {DZ DM Dz Ed vp Du:Value}
  {fm:Addr} {HW Hl:Option Addr} {IE:Array (Option Value)} {HU HF Hu Ie B7 Hq:Value}
  {dS:Addr} {zh yg:Option Addr} {Aa:Array (Option Value)} {zd yV yE zB qC yy:Value}
  {bh:Addr} {uP jd:Option Addr} {uY:Array (Option Value)} {uN jk jh jw f7 jg:Value}
  {eI:Addr} {dc_read_drawn_:Value} {uA:Option Addr} {uB:Nat} {uC:Array (Option Value)}
  {uD uE:Tok}
  {aM:Addr} {oJ n4:Option Addr} {o3:Array (Option Value)} {oI oB ol oQ iM oi:Value}
  {b6:Addr} {ze yd:Option Addr} {z7:Array (Option Value)} {za yS yB zw qz yv:Value}
  {e6:Addr} {A8 Ar:Option Addr} {Bv:Array (Option Value)} {A6 AW AI Bk su AE:Value}
  {dP:Addr} {zf ye:Option Addr} {z8:Array (Option Value)} {zb yT yC zz qA yw:Value}
  {dQ:Addr} {zg yf:Option Addr} {z9:Array (Option Value)} {zc yU yD zA qB yx:Value}
  {gG:Addr} {HV Hk:Option Addr} {IC:Array (Option Value)} {HS HE Ht Ic B6 Ho:Value}
  {gm:Addr} {D2 Df:Option Addr} {Er:Array (Option Value)} {DY DK Dy Ec vo Dt:Value}
  {c8:Addr} {xr wH:Option Addr} {xO:Array (Option Value)} {xq xi wS xA oh wO:Value}
  {iP:Addr} {FV EZ:Option Addr} {GJ:Array (Option Value)} {FU Fy Fg F7 yp Fc:Value}
  {Fm:Addr} {Ke E1:Option Addr} {KG:Array (Option Value)} {Kd Fz Fh F8 Az Fd:Value}
  {c_NoText:Addr}
  {c_ShapeError:Addr}
  {c_TooGreat:Addr}
  {t_CELL_IN:Tok}
  {t_CELL_OUT:Tok}
  {t_MOST_CELLS:Tok}
  (rZ:W.nsIn K mainGlobals "row_of" = some (some (.ref gt))) (tj:K.lookup gt = some ⟨D1,D5,.func (W.fnOf "row_of" "row_of" (bo iz) (ba iz) (au iz) .none DP DB Ef Di vt Dw),Ev⟩) (sM:W.codeIn K vt "row_of" = true) (jH:W.keepIn K (.ref gt) = true)
  (jc:W.nsIn K mainGlobals "count_up_to" = some (some (.ref bn))) (jl:K.lookup bn = some ⟨tJ,tK,.func (W.fnOf "count_up_to" "count_up_to" (bo dG) (ba dG) (au dG) .none sX sG tW sd kZ sF),uc⟩) (jj:W.codeIn K kZ "count_up_to" = true) (bQ:W.keepIn K (.ref bn) = true)
  (pp:W.nsIn K mainGlobals "row_has" = some (some (.ref e7))) (pM:K.lookup e7 = some ⟨A7,A9,.func (W.fnOf "row_has" "row_has" (bo hW) (ba hW) (au hW) .none AX AJ Bl As sv AF),Bw⟩) (pG:W.codeIn K sv "row_has" = true) (hG:W.keepIn K (.ref e7) = true)
  (j5:W.nsIn K mainGlobals "picture_of" = some (some (.ref cK))) (kg:K.lookup cK = some ⟨uM,uO,.func (W.fnOf "picture_of" "picture_of" (bo cN) (ba cN) (au cN) .none uH uz uS uw mD ux),uX⟩) (kb:W.codeIn K mD "picture_of" = true) (eg:W.keepIn K (.ref cK) = true)
  (rY:W.nsIn K mainGlobals "row_at" = some (some (.ref gq))) (tf:K.lookup gq = some ⟨D0,D4,.func (W.fnOf "row_at" "row_at" (bo jN) (ba jN) (au jN) .none DN DA Ee Dh vq Dv),Eu⟩) (sL:W.codeIn K vq "row_at" = true) (jG:W.keepIn K (.ref gq) = true)
  (rX:W.nsIn K mainGlobals "box_of" = some (some (.ref du))) (sZ:K.lookup du = some ⟨DZ,D3,.func (W.fnOf "box_of" "box_of" (bo gA) (ba gA) (au gA) .none DM Dz Ed Dg vp Du),Et⟩) (sK:W.codeIn K vp "box_of" = true) (fw:W.keepIn K (.ref du) = true)
  (Aq:W.nsIn K mainGlobals "draw" = some (some (.ref fm))) (A1:K.lookup fm = some ⟨HU,HW,.func (W.fnOf "draw" "draw" (bo lI) (ba lI) (au lI) .none HF Hu Ie Hl B7 Hq),IE⟩) (AN:W.codeIn K B7 "draw" = true) (ip:W.keepIn K (.ref fm) = true)
  (mY:W.nsIn K mainGlobals "draw_row" = some (some (.ref dS))) (nD:K.lookup dS = some ⟨zd,zh,.func (W.fnOf "draw_row" "draw_row" (bo eX) (ba eX) (au eX) .none yV yE zB yg qC yy),Aa⟩) (nt:W.codeIn K qC "draw_row" = true) (fU:W.keepIn K (.ref dS) = true)
  (j6:W.nsIn K mainGlobals "read_drawn" = some (some (.ref bh))) (kh:K.lookup bh = some ⟨uN,uP,.func (W.fnOf "read_drawn" "read_drawn" (bo bq) (ba bq) (au bq) (.ref eI) jk jh jw jd f7 jg),uY⟩) (kc:W.codeIn K f7 "read_drawn" = true) (bR:W.keepIn K (.ref bh) = true)
  (f8:K.lookup eI = some ⟨dc_read_drawn_,uA,.seq #[.int 0 uD,.int 0 uE] uB,uC⟩)
  (fM:W.nsIn K mainGlobals "read_drawn_row" = some (some (.ref aM))) (fV:K.lookup aM = some ⟨oI,oJ,.func (W.fnOf "read_drawn_row" "read_drawn_row" (bo bN) (ba bN) (au bN) .none oB ol oQ n4 iM oi),o3⟩) (fP:W.codeIn K iM "read_drawn_row" = true) (bf:W.keepIn K (.ref aM) = true)
  (mV:W.nsIn K mainGlobals "_law_cell_at" = some (some (.ref b6))) (ny:K.lookup b6 = some ⟨za,ze,.func (W.fnOf "_law_cell_at" "_law_cell_at" (bo fW) (ba fW) (au fW) .none yS yB zw yd qz yv),z7⟩) (m9:W.codeIn K qz "_law_cell_at" = true) (bF:W.keepIn K (.ref b6) = true)
  (pk:W.nsIn K mainGlobals "_law_signed" = some (some (.ref e6))) (pL:K.lookup e6 = some ⟨A6,A8,.func (W.fnOf "_law_signed" "_law_signed" (bo hV) (ba hV) (au hV) .none AW AI Bk Ar su AE),Bv⟩) (pF:W.codeIn K su "_law_signed" = true) (fT:W.keepIn K (.ref e6) = true)
  (mW:W.nsIn K mainGlobals "_law_drawing" = some (some (.ref dP))) (nA:K.lookup dP = some ⟨zb,zf,.func (W.fnOf "_law_drawing" "_law_drawing" (bo fX) (ba fX) (au fX) .none yT yC zz ye qA yw),z8⟩) (nj:W.codeIn K qA "_law_drawing" = true) (fS:W.keepIn K (.ref dP) = true)
  (mX:W.nsIn K mainGlobals "_law_picture" = some (some (.ref dQ))) (nB:K.lookup dQ = some ⟨zc,zg,.func (W.fnOf "_law_picture" "_law_picture" (bo fY) (ba fY) (au fY) .none yU yD zA yf qB yx),z9⟩) (nk:W.codeIn K qB "_law_picture" = true) (eS:W.keepIn K (.ref dQ) = true)
  (Ap:W.nsIn K mainGlobals "_law_box" = some (some (.ref gG))) (A0:K.lookup gG = some ⟨HS,HV,.func (W.fnOf "_law_box" "_law_box" (bo kw) (ba kw) (au kw) .none HE Ht Ic Hk B6 Ho),IC⟩) (AM:W.codeIn K B6 "_law_box" = true) (kf:W.keepIn K (.ref gG) = true)
  (rV:W.nsIn K mainGlobals "_law_drawn" = some (some (.ref gm))) (sY:K.lookup gm = some ⟨DY,D2,.func (W.fnOf "_law_drawn" "_law_drawn" (bo jM) (ba jM) (au jM) .none DK Dy Ec Df vo Dt),Er⟩) (sJ:W.codeIn K vo "_law_drawn" = true) (im:W.keepIn K (.ref gm) = true)
  (kT:W.nsIn K mainGlobals "_law_bad_sign" = some (some (.ref c8))) (ln:K.lookup c8 = some ⟨xq,xr,.func (W.fnOf "_law_bad_sign" "_law_bad_sign" (bo dZ) (ba dZ) (au dZ) .none xi wS xA wH oh wO),xO⟩) (k8:W.codeIn K oh "_law_bad_sign" = true) (e8:W.keepIn K (.ref c8) = true)
  (wG:W.nsIn K mainGlobals "_law_size" = some (some (.ref iP))) (xj:K.lookup iP = some ⟨FU,FV,.func (W.fnOf "_law_size" "_law_size" (bo mh) (ba mh) (au mh) .none Fy Fg F7 EZ yp Fc),GJ⟩) (wV:W.codeIn K yp "_law_size" = true) (l7:W.keepIn K (.ref iP) = true)
  (EY:W.nsIn K mainGlobals "law" = some (some (.ref Fm))) (FC:K.lookup Fm = some ⟨Kd,Ke,.func (W.fnOf "law" "law" (bo oX) (ba oX) (au oX) .none Fz Fh F8 E1 Az Fd),KG⟩) (Fi:W.codeIn K Az "law" = true) (FA:W.keepIn K (.ref Fm) = true)
  (n_NoText:W.nsIn K mainGlobals "NoText" = some (some (.ref c_NoText)))
  (n_ShapeError:W.nsIn K mainGlobals "ShapeError" = some (some (.ref c_ShapeError)))
  (n_TooGreat:W.nsIn K mainGlobals "TooGreat" = some (some (.ref c_TooGreat)))
  (xg:W.specialIn K (.builtin "object.__class__") "__get__" = some (some (.builtin "getset_descriptor.__get__"))) (xt:W.takesIn K (.builtin "object.__class__") = some true)
  (x1_NoText:W.hasDictIn K c_NoText = true) (x2_NoText:W.findIn K (.ref c_NoText) "__getattribute__" = some (some (.builtin "BaseException.__getattribute__"))) (x3_NoText:W.findIn K (.ref c_NoText) "__getattr__" = some none) (x4_NoText:W.findIn K (.ref c_NoText) "__class__" = some (some (.builtin "object.__class__"))) (x5_NoText:W.mroIn K c_NoText (.type "object") = some true) (x6_NoText:W.mroIn K c_NoText (.type "BaseException") = some true) (xe_NoText:W.excIn K c_NoText JS "ValueError.__new__" = true)
  (xo_NoText_NoText:W.kitOne K (.ref c_NoText) (.ref c_NoText) = some true)
  (xo_NoText_TooGreat:W.kitOne K (.ref c_NoText) (.ref c_TooGreat) = some false)
  (xo_NoText_ValueError:W.kitOne K (.ref c_NoText) (.type "ValueError") = some true)
  (xm_NoText_ShapeError:W.exmOne K (.ref c_NoText) (.ref c_ShapeError) = some true)
  (x1_TooGreat:W.hasDictIn K c_TooGreat = true) (x2_TooGreat:W.findIn K (.ref c_TooGreat) "__getattribute__" = some (some (.builtin "BaseException.__getattribute__"))) (x3_TooGreat:W.findIn K (.ref c_TooGreat) "__getattr__" = some none) (x4_TooGreat:W.findIn K (.ref c_TooGreat) "__class__" = some (some (.builtin "object.__class__"))) (x5_TooGreat:W.mroIn K c_TooGreat (.type "object") = some true) (x6_TooGreat:W.mroIn K c_TooGreat (.type "BaseException") = some true) (xe_TooGreat:W.excIn K c_TooGreat JS "ValueError.__new__" = true)
  (xo_TooGreat_NoText:W.kitOne K (.ref c_TooGreat) (.ref c_NoText) = some false)
  (xo_TooGreat_TooGreat:W.kitOne K (.ref c_TooGreat) (.ref c_TooGreat) = some true)
  (xo_TooGreat_ValueError:W.kitOne K (.ref c_TooGreat) (.type "ValueError") = some true)
  (xm_TooGreat_ShapeError:W.exmOne K (.ref c_TooGreat) (.ref c_ShapeError) = some true)
  (z_ValueError:W.nsIn K mainGlobals "ValueError" = some none)
  (z_enumerate:W.nsIn K mainGlobals "enumerate" = some none)
  (z_isinstance:W.nsIn K mainGlobals "isinstance" = some none)
  (z_len:W.nsIn K mainGlobals "len" = some none)
  (z_list:W.nsIn K mainGlobals "list" = some none)
  (z_max:W.nsIn K mainGlobals "max" = some none)
  (z_min:W.nsIn K mainGlobals "min" = some none)
  (z_range:W.nsIn K mainGlobals "range" = some none)
  (z_sorted:W.nsIn K mainGlobals "sorted" = some none)
  (z_tuple:W.nsIn K mainGlobals "tuple" = some none)
  (y_CELL_IN:W.nsIn K mainGlobals "CELL_IN" = some (some (.str (Str.ofString "#") t_CELL_IN)))
  (q_CELL_IN:t_CELL_IN ≠ 0 /\ t_CELL_IN < NN)
  (y_CELL_OUT:W.nsIn K mainGlobals "CELL_OUT" = some (some (.str (Str.ofString ".") t_CELL_OUT)))
  (q_CELL_OUT:t_CELL_OUT ≠ 0 /\ t_CELL_OUT < NN)
  (y_MOST_CELLS:W.nsIn K mainGlobals "MOST_CELLS" = some (some (.int (1000) t_MOST_CELLS)))
  : ∃ fd:FuncData,(∀ (s:Shared) (v:Value),BindsTo s fd ⟨[v],[]⟩ [("_law_script",v)]) /\ ∀ base:Heap,K.In base -> base.Ns mainGlobals mg -> FnOk l.prog w K mg base d9 6 fa fd ["_law_script"] (ug K):=by
 have e:=hfa.symm.trans (W.mg_of X G EY)
 cases e
 have xc_ShapeError:∃ T:Addr,mg "ShapeError" = some (.ref T) /\ ∀ N ∈ I0,∀ C:Addr,W.nsIn K mainGlobals N = some (some (.ref C)) -> W.exmOne K (.ref C) (.ref T) = some true:=by
  refine ⟨c_ShapeError,W.mg_of X G n_ShapeError,fun N hN C hC=>?_⟩
  simp only [List.mem_cons,List.not_mem_nil,or_false] at hN
  rcases hN with rfl | rfl
  ·rw [n_NoText] at hC;cases hC;exact xm_NoText_ShapeError
  ·rw [n_TooGreat] at hC;cases hC;exact xm_TooGreat_ShapeError
 have xa_NoText:∃ T:Addr,mg "NoText" = some (.ref T) /\ qW K cY (.ref T):=⟨c_NoText,W.mg_of X G n_NoText,g7 (fun C hC=>by rw [n_NoText] at hC;cases hC;exact ⟨⟨x1_NoText,x2_NoText,x3_NoText,x4_NoText,xg,xt,x5_NoText,x6_NoText⟩,xo_NoText_NoText⟩) (g7 (fun C hC=>by rw [n_TooGreat] at hC;cases hC;exact ⟨⟨x1_TooGreat,x2_TooGreat,x3_TooGreat,x4_TooGreat,xg,xt,x5_TooGreat,x6_TooGreat⟩,xo_TooGreat_NoText⟩) (se))⟩
 have xa_TooGreat:∃ T:Addr,mg "TooGreat" = some (.ref T) /\ qW K bS (.ref T):=⟨c_TooGreat,W.mg_of X G n_TooGreat,g7 (fun C hC=>by rw [n_NoText] at hC;cases hC;exact ⟨⟨x1_NoText,x2_NoText,x3_NoText,x4_NoText,xg,xt,x5_NoText,x6_NoText⟩,xo_NoText_TooGreat⟩) (g7 (fun C hC=>by rw [n_TooGreat] at hC;cases hC;exact ⟨⟨x1_TooGreat,x2_TooGreat,x3_TooGreat,x4_TooGreat,xg,xt,x5_TooGreat,x6_TooGreat⟩,xo_TooGreat_TooGreat⟩) (se))⟩
 have xa_ValueError:qW K bw (.type "ValueError"):=g7 (fun C hC=>by rw [n_NoText] at hC;cases hC;exact ⟨⟨x1_NoText,x2_NoText,x3_NoText,x4_NoText,xg,xt,x5_NoText,x6_NoText⟩,xo_NoText_ValueError⟩) (g7 (fun C hC=>by rw [n_TooGreat] at hC;cases hC;exact ⟨⟨x1_TooGreat,x2_TooGreat,x3_TooGreat,x4_TooGreat,xg,xt,x5_TooGreat,x6_TooGreat⟩,xo_TooGreat_ValueError⟩) (se))
 have xr_NoText:∃ C:Addr,W.nsIn K mainGlobals "NoText" = some (some (.ref C)) /\ W.excIn K C JS "ValueError.__new__" = true /\ mg "NoText" = some (.ref C):=⟨c_NoText,n_NoText,xe_NoText,W.mg_of X G n_NoText⟩
 have xr_TooGreat:∃ C:Addr,W.nsIn K mainGlobals "TooGreat" = some (some (.ref C)) /\ W.excIn K C JS "ValueError.__new__" = true /\ mg "TooGreat" = some (.ref C):=⟨c_TooGreat,n_TooGreat,xe_TooGreat,W.mg_of X G n_TooGreat⟩
 have T:Txt K mg:=⟨W.mg_none_of X G z_ValueError,W.mg_none_of X G z_enumerate,W.mg_none_of X G z_isinstance,W.mg_none_of X G z_len,W.mg_none_of X G z_list,W.mg_none_of X G z_max,W.mg_none_of X G z_min,W.mg_none_of X G z_range,W.mg_none_of X G z_sorted,W.mg_none_of X G z_tuple,⟨_,W.mg_of X G y_CELL_IN,q_CELL_IN⟩,⟨_,W.mg_of X G y_CELL_OUT,q_CELL_OUT⟩,⟨_,W.mg_of X G y_MOST_CELLS⟩,xc_ShapeError,xa_NoText,xa_TooGreat,xa_ValueError,xr_NoText,xr_TooGreat⟩
 have ya:=dH (st:=iz) tj sM jH
 have sj:=(ya).binds (ps:=["pairs"]) fun _ _ _ _ _ _ us hl=>by obtain ⟨a0,rfl⟩:=KS hl;rfl
 have gy:=W.mg_of X G rZ
 have mz:=dH (st:=dG) jl jj bQ
 have dB:=(mz).binds (ps:=["pairs", "number"]) fun _ _ _ _ _ _ us hl=>by obtain ⟨a0,a1,rfl⟩:=Ms hl;rfl
 have bz:=W.mg_of X G jc
 have x8:=dH (st:=gA) sZ sK fw
 have jB:=(x8).binds (ps:=["picture"]) fun _ _ _ _ _ _ us hl=>by obtain ⟨a0,rfl⟩:=KS hl;rfl
 have cz:=W.mg_of X G rX
 have fK:=dH (st:=bN) fV fP bf
 have bL:=(fK).binds (ps:=["text", "x", "y"]) fun _ _ _ _ _ _ us hl=>by obtain ⟨a0,a1,a2,rfl⟩:=M1 hl;rfl
 have aY:=W.mg_of X G fM
 have rL:=dH (st:=fW) ny m9 bF
 have cj:=(rL).binds (ps:=["_law_script", "_law_k"]) fun _ _ _ _ _ _ us hl=>by obtain ⟨a0,a1,rfl⟩:=Ms hl;rfl
 have aH:=W.mg_of X G mV
 have u7:=dH (st:=hV) pL pF fT
 have lV:=(u7).binds (ps:=["_law_cell", "_law_most"]) fun _ _ _ _ _ _ us hl=>by obtain ⟨a0,a1,rfl⟩:=Ms hl;rfl
 have dE:=W.mg_of X G pk
 have rN:=dH (st:=fY) nB nk eS
 have j8:=(rN).binds (ps:=["_law_texts", "_law_x", "_law_y"]) fun _ _ _ _ _ _ us hl=>by obtain ⟨a0,a1,a2,rfl⟩:=M1 hl;rfl
 have cQ:=W.mg_of X G mX
 have ET:=dH (st:=kw) A0 AM kf
 have pz:=(ET).binds (ps:=["_law_texts"]) fun _ _ _ _ _ _ us hl=>by obtain ⟨a0,rfl⟩:=KS hl;rfl
 have dW:=W.mg_of X G Ap
 have u8:=dH (st:=hW) pM pG hG
 have pA:=(u8).binds (ps:=["row", "x"]) fun _ _ _ _ _ _ us hl=>by obtain ⟨a0,a1,rfl⟩:=Ms hl;rfl
 have eh:=W.mg_of X G pp
 have nW:=dH (st:=cN) kg kb eg
 have j9:=(nW).binds (ps:=["stretches"]) fun _ _ _ _ _ _ us hl=>by obtain ⟨a0,rfl⟩:=KS hl;rfl
 have dn:=W.mg_of X G j5
 have x9:=dH (st:=jN) tf sL jG
 have si:=(x9).binds (ps:=["picture", "y"]) fun _ _ _ _ _ _ us hl=>by obtain ⟨a0,a1,rfl⟩:=Ms hl;rfl
 have eJ:=W.mg_of X G rY
 have rM:=dH (st:=fX) nA nj fS
 have mZ:=(rM).binds (ps:=["_law_script"]) fun _ _ _ _ _ _ us hl=>by obtain ⟨a0,rfl⟩:=KS hl;rfl
 have eV:=W.mg_of X G mW
 have x6:=dH (st:=jM) sY sJ im
 have n6:=(x6).binds (ps:=["_law_texts"]) fun _ _ _ _ _ _ us hl=>by obtain ⟨a0,rfl⟩:=KS hl;rfl
 have gv:=W.mg_of X G rV
 have rO:=dH (st:=eX) nD nt fU
 have m6:=(rO).binds (ps:=["row", "first", "last"]) fun _ _ _ _ _ _ us hl=>by obtain ⟨a0,a1,a2,rfl⟩:=M1 hl;rfl
 have dX:=W.mg_of X G mY
 have nX:FunD K "read_drawn" "read_drawn" bq eI bh _:=⟨⟨_,_,_,_,_,_,_,_,_,rfl,kh,kc⟩⟩
 have je:∃ t u:Tok,Binds K (W.fnOf "read_drawn" "read_drawn" (bo bq) (ba bq) (au bq) (.ref eI) jk jh jw jd f7 jg) ["rows", "x", "y"] [.int 0 t,.int 0 u]:=⟨_,_,fun s us X hl=>match us,(show us.length = 1 by simpa using hl) with | [_],_=>W.binds_K X rfl f8 rfl rfl rfl⟩
 have dh:Binds K (W.fnOf "read_drawn" "read_drawn" (bo bq) (ba bq) (au bq) (.ref eI) jk jh jw jd f7 jg) ["rows", "x", "y"] []:=fun s us X hl=>match us,(show us.length = 3 by simpa using hl) with | [_,_,_],_=>W.binds_K X rfl f8 rfl rfl rfl
 have aZ:=W.mg_of X G j6
 have qy:=dH (st:=dZ) ln k8 e8
 have kW:=(qy).binds (ps:=["_law_texts", "_law_cell", "_law_x", "_law_y"]) fun _ _ _ _ _ _ us hl=>by obtain ⟨a0,a1,a2,a3,rfl⟩:=Pq hl;rfl
 have c9:=W.mg_of X G kT
 have An:=dH (st:=lI) A1 AN ip
 have kX:=(An).binds (ps:=["picture"]) fun _ _ _ _ _ _ us hl=>by obtain ⟨a0,rfl⟩:=KS hl;rfl
 have fx:=W.mg_of X G Aq
 have BW:=dH (st:=mh) xj wV l7
 have wM:=(BW).binds (ps:=["_law_cell", "_law_x", "_law_y"]) fun _ _ _ _ _ _ us hl=>by obtain ⟨a0,a1,a2,rfl⟩:=M1 hl;rfl
 have kl:=W.mg_of X G wG
 have Lb:=dH (st:=oX) FC Fi FA
 refine ⟨W.fnOf "law" "law" (bo oX) (ba oX) (au oX) .none Fz Fh F8 E1 Az Fd,fun s v=>.of_eq rfl,fun base _ _=>?_⟩
 have fi:FnOk l.prog w K mg base (qY l.prog w) 1 aM _ ["text", "x", "y"] (dq K):=nI fK T
 have pi:FnOk l.prog w K mg base d9 1 gG _ ["_law_texts"] (o6 K):=HY ET T
 have ci:FnOk l.prog w K mg base d9 1 b6 _ ["_law_script", "_law_k"] (gE K):=zj rL T
 have jU:FnOk l.prog w K mg base d9 1 dQ _ ["_law_texts", "_law_x", "_law_y"] (i7 K):=zl rN T
 have lQ:FnOk l.prog w K mg base d9 1 e6 _ ["_law_cell", "_law_most"] (kD K):=Bc u7 T
 have jz:FnOk l.prog w K mg base d9 1 du _ ["picture"] (jO K):=D8 x8 T
 have dw:FnOk l.prog w K mg base d9 1 bn _ ["pairs", "number"] (d6 K):=tP mz T
 have cc:FnOk l.prog w K mg base d9 1 aM _ ["text", "x", "y"] (cO K):=oM fK T
 have rQ:FnOk l.prog w K mg base d9 1 gt _ ["pairs"] (mo K):=Ea ya T
 have wz:FnOk l.prog w K mg base (qY l.prog w) 2 fm _ ["picture"] (o5 K):=FW An T jz cz fw jB
 have ja:FnOk l.prog w K mg base (qY l.prog w) 2 bh _ ["rows", "x", "y"] (fG K):=tN nX T cc aY bf bL fi
 have mO:FnOk l.prog w K mg base d9 2 dP _ ["_law_script"] (i6 K):=zk rM T ci aH bF cj
 have nY:FnOk l.prog w K mg base d9 2 gm _ ["_law_texts"] (mj K):=D7 x6 T pi dW kf pz
 have jV:FnOk l.prog w K mg base d9 2 cK _ ["stretches"] (gh K):=uQ nW T rQ gy jH sj
 have rP:FnOk l.prog w K mg base d9 2 gq _ ["picture", "y"] (mn K):=D9 x9 T dw bz bQ dB
 have pj:FnOk l.prog w K mg base d9 2 e7 _ ["row", "x"] (kE K):=Bd u8 T dw bz bQ dB
 have kQ:FnOk l.prog w K mg base d9 3 c8 _ ["_law_texts", "_law_cell", "_law_x", "_law_y"] (gZ K):=xw qy T ja aZ bR dh
 have mQ:FnOk l.prog w K mg base d9 3 dS _ ["row", "first", "last"] (i8 K):=zm rO T pj eh hG pA
 have fj:FnOk l.prog w K mg base d9 3 bh _ ["rows", "x", "y"] (gi K):=uR nX T cc aY bf bL jV dn eg j9
 have mP:FnOk l.prog w K mg base d9 4 fm _ ["picture"] (o8 K):=HZ An T jz cz fw jB mQ dX fU m6 rP eJ jG si
 have wA:FnOk l.prog w K mg base d9 5 iP _ ["_law_cell", "_law_x", "_law_y"] (o7 K):=FX BW T mP fx ip kX wz
 exact Kf Lb T ci aH bF cj lQ dE fT lV mO eV fS mZ jU cQ eS j8 fj aZ bR dh je kQ c9 e8 kW mP fx ip kX pi dW kf pz nY gv im n6 wA kl l7 wM
theorem walk {l:W.OpenLaw} {q:Program} {loose:List Str} {XP:(Str -> Option Value) -> Heap -> Prop} {YP:World -> Heap -> Prop} {d:DefRec} {K:Params -> W.Frag} (hn:l.most = some 63) (hdf:d.params.defaults = [])
  (hY:∀ (w:World) (h:Heap),YP w h -> (K w.params).In h)
  (F:∀ (w:World) (mg:Str -> Option Value) (fa:Addr) (h:Heap),(K w.params).In h -> h.Ns mainGlobals mg -> mg d.name = some (.ref fa) ->
   ∃ fd:FuncData,(∀ (s:Shared) (u:Value),BindsTo s fd ⟨[u],[]⟩ [("_law_script",u)]) /\ ∀ base:Heap,(K w.params).In base -> base.Ns mainGlobals mg -> FnOk l.prog w (K w.params) mg base d9 6 fa fd ["_law_script"] (ug (K w.params))) :
  Att.BZ q loose XP YP l.row.toRowW d [] (fun f vs=>PySem.call f vs):=
 L2.IV (n:=63) (k:=6) (x := "_law_script") (CX:=fun _=>d9) (sp:=fun w=>ug (K w.params)) hn (by decide) hdf ⟨rfl,by decide,by decide⟩ hY F (fun _ H a ns hl _ hS=>M.Ez hS (FJ ns hl)) fun _ _ _ _ _ z=>z
end Lw
open PySem PySem.W PyProof.Rows
set_option maxRecDepth 100000 in
set_option maxHeartbeats 0 in
theorem PySem.Challenge.cw_shapethin_k24_drawn_and_read_holds : PySem.Challenge.rw_shapethin_k24_drawn_and_read.Holds := by
 w_on;refine holds_law Hd.e2 fun said=>?_
 refine Tk.holds (q:=Hd.q) (XP:=XL Hd.q []) (YP:=Hook.says Hd.H) (N:=100000) Hd.e1 (fun w s e=>Nat.le_of_ble_eq_true (congrArg Prod.snd e)) (fun w s e=>Hook.of Hd.H w s (congrArg Prod.fst e)) (Hook.keeps Hd.H) (fun s e=>xl_of s (Bool.and_eq_true_iff.mp e).1) XL.keeps (by rfl) (by rfl) (by rfl) (fun s e=>recFacts_of (Bool.and_eq_true_iff.mp e).2) (by rfl) (by assumption) (by decide +kernel) (by decide +kernel) (by decide +kernel) (by decide +kernel) ⟨rfl,rfl,rfl,rfl,rfl,by decide +kernel⟩ ?hw ?hc
 case hw=>w_witness2
 refine Lw.walk (l := PySem.Challenge.rw_shapethin_k24_drawn_and_read) rfl rfl (fun w h Y => W.kIn_of Y) ?F
 case F=>
  intro w mg fa h KX G hmg
  refine' Lw.JM KX G hmg ?rZ ?tj ?sM ?jH ?jc ?jl ?jj ?bQ ?pp ?pM ?pG ?hG ?j5 ?kg ?kb ?eg ?rY ?tf ?sL ?jG ?rX ?sZ ?sK ?fw ?Aq ?A1 ?AN ?ip ?mY ?nD ?nt ?fU ?j6 ?kh ?kc ?bR ?f8 ?fM ?fV ?fP ?bf ?mV ?ny ?m9 ?bF ?pk ?pL ?pF ?fT ?mW ?nA ?nj ?fS ?mX ?nB ?nk ?eS ?Ap ?A0 ?AM ?kf ?rV ?sY ?sJ ?im ?kT ?ln ?k8 ?e8 ?wG ?xj ?wV ?l7 ?EY ?FC ?Fi ?FA ?n_NoText ?n_ShapeError ?n_TooGreat ?xg ?xt ?x1_NoText ?x2_NoText ?x3_NoText ?x4_NoText ?x5_NoText ?x6_NoText ?xe_NoText ?xo_NoText_NoText ?xo_NoText_TooGreat ?xo_NoText_ValueError ?xm_NoText_ShapeError ?x1_TooGreat ?x2_TooGreat ?x3_TooGreat ?x4_TooGreat ?x5_TooGreat ?x6_TooGreat ?xe_TooGreat ?xo_TooGreat_NoText ?xo_TooGreat_TooGreat ?xo_TooGreat_ValueError ?xm_TooGreat_ShapeError ?z_ValueError ?z_enumerate ?z_isinstance ?z_len ?z_list ?z_max ?z_min ?z_range ?z_sorted ?z_tuple ?y_CELL_IN ?q_CELL_IN ?y_CELL_OUT ?q_CELL_OUT ?y_MOST_CELLS
  (case rZ=>k_is)
  (case tj=>k_is)
  (case sM=>k_is)
  (case jH=>k_is)
  (case jc=>k_is)
  (case jl=>k_is)
  (case jj=>k_is)
  (case bQ=>k_is)
  (case pp=>k_is)
  (case pM=>k_is)
  (case pG=>k_is)
  (case hG=>k_is)
  (case j5=>k_is)
  (case kg=>k_is)
  (case kb=>k_is)
  (case eg=>k_is)
  (case rY=>k_is)
  (case tf=>k_is)
  (case sL=>k_is)
  (case jG=>k_is)
  (case rX=>k_is)
  (case sZ=>k_is)
  (case sK=>k_is)
  (case fw=>k_is)
  (case Aq=>k_is)
  (case A1=>k_is)
  (case AN=>k_is)
  (case ip=>k_is)
  (case mY=>k_is)
  (case nD=>k_is)
  (case nt=>k_is)
  (case fU=>k_is)
  (case j6=>k_is)
  (case kh=>k_is)
  (case kc=>k_is)
  (case bR=>k_is)
  (case f8=>k_is)
  (case fM=>k_is)
  (case fV=>k_is)
  (case fP=>k_is)
  (case bf=>k_is)
  (case mV=>k_is)
  (case ny=>k_is)
  (case m9=>k_is)
  (case bF=>k_is)
  (case pk=>k_is)
  (case pL=>k_is)
  (case pF=>k_is)
  (case fT=>k_is)
  (case mW=>k_is)
  (case nA=>k_is)
  (case nj=>k_is)
  (case fS=>k_is)
  (case mX=>k_is)
  (case nB=>k_is)
  (case nk=>k_is)
  (case eS=>k_is)
  (case Ap=>k_is)
  (case A0=>k_is)
  (case AM=>k_is)
  (case kf=>k_is)
  (case rV=>k_is)
  (case sY=>k_is)
  (case sJ=>k_is)
  (case im=>k_is)
  (case kT=>k_is)
  (case ln=>k_is)
  (case k8=>k_is)
  (case e8=>k_is)
  (case wG=>k_is)
  (case xj=>k_is)
  (case wV=>k_is)
  (case l7=>k_is)
  (case EY=>k_is)
  (case FC=>k_is)
  (case Fi=>k_is)
  (case FA=>k_is)
  (case n_NoText=>k_is)
  (case n_ShapeError=>k_is)
  (case n_TooGreat=>k_is)
  (case xg=>k_is)
  (case xt=>k_is)
  (case x1_NoText=>k_is)
  (case x2_NoText=>k_is)
  (case x3_NoText=>k_is)
  (case x4_NoText=>k_is)
  (case x5_NoText=>k_is)
  (case x6_NoText=>k_is)
  (case xe_NoText=>k_exc)
  (case xo_NoText_NoText=>kit_is)
  (case xo_NoText_TooGreat=>kit_is)
  (case xo_NoText_ValueError=>kit_is)
  (case xm_NoText_ShapeError=>kts_exm)
  (case x1_TooGreat=>k_is)
  (case x2_TooGreat=>k_is)
  (case x3_TooGreat=>k_is)
  (case x4_TooGreat=>k_is)
  (case x5_TooGreat=>k_is)
  (case x6_TooGreat=>k_is)
  (case xe_TooGreat=>k_exc)
  (case xo_TooGreat_NoText=>kit_is)
  (case xo_TooGreat_TooGreat=>kit_is)
  (case xo_TooGreat_ValueError=>kit_is)
  (case xm_TooGreat_ShapeError=>kts_exm)
  (case z_ValueError=>k_is)
  (case z_enumerate=>k_is)
  (case z_isinstance=>k_is)
  (case z_len=>k_is)
  (case z_list=>k_is)
  (case z_max=>k_is)
  (case z_min=>k_is)
  (case z_range=>k_is)
  (case z_sorted=>k_is)
  (case z_tuple=>k_is)
  (case y_CELL_IN=>k_is)
  (case q_CELL_IN=>decide)
  (case y_CELL_OUT=>k_is)
  (case q_CELL_OUT=>decide)
  (case y_MOST_CELLS=>k_is)

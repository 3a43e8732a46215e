import PyProof.Rows.All
import Wide.All
import OpenK.AllK
import Wide.FinOn
import Lean
import PyProof.EqAt
import PyProof.EqKinds
import PyProof.TupleCall
import PySem.Challenge.RW_shapethin_k49_whole_pieces_less_holes
set_option genSizeOf false
set_option bootstrap.genMatcherCode false
set_option compiler.extract_closed false
set_option linter.all false
set_option maxHeartbeats 4000000
set_option maxRecDepth 100000
namespace Hd
open PySem PySem.W PySem.Calls PyProof.Rows
noncomputable def Fq (stp:SharedT -> Thread -> Option (SharedT × Thread)) (ok:Thread -> Bool):Nat -> SharedT -> Thread -> Option SharedT
 | 0,_,_=>none
 | n + 1,s,t=>match through t with
  | true=>some s
  | false=>match ok t with
   | false=>none
   | true=>match stp s t with
    | some (s',t')=>Fq stp ok n s' t'
    | none=>none
theorem t6 {tb:String -> Option Builtin}   {n₀:Nat}  : ∀ (n:Nat) (s:SharedT) (t:Thread) (r:SharedT),Fq (stepT (denote tb) p w) (stepOk n₀ ann) n s t = some r -> topRun tb p w n₀ ann n s.abs t = some r.abs
 | 0,_,_,_,h=>by cases h
 | n + 1,s,t,r,h=>by
  unfold Fq at h
  unfold topRun
  cases ht:through t with
  | true=>rw [ht] at h;cases h;rfl
  | false=>
   rw [ht] at h
   cases hk:stepOk n₀ ann t with
   | false=>rw [hk] at h;cases h
   | true=>
    rw [hk] at h
    cases hs:stepT (denote tb) p w s t with
    | none=>rw [hs] at h;cases h
    | some x=>
     obtain ⟨s',t'⟩:=x
     rw [hs] at h
     rw [stepT_spec hs]
     exact t6 n s' t' r h
noncomputable def FT:List Obj -> Nat -> BT -> BT
 | [],_,t=>t
 | o :: l,n,t=>FT l (n + 1) (t.ins n o)
noncomputable def T0 (P:Params):BT:=FT (boot_heap P).objs.toList 0 .nil
theorem K8 (P:Params):absHeap (T0 P) 11 (boot_heap P).life = boot_heap P:=by kernel_rfl
theorem sz (P:Params):((boot_heap P).isNs mainGlobals,(boot_heap P).objs.size,(boot_heap P).nsMap mainGlobals "__annotations__") = (true,11,some (.ref 6)):=by kernel_rfl
noncomputable def S0 (w:World) (os:OsState):SharedT:=⟨T0 w.params,11,(boot_heap w.params).life,Array.mk [],boot_drawn,boot_toks,os⟩
theorem GP    {α:Type} {Yf:Shared -> α} {Ya:World -> α} {N M:Nat} {g0:Bool}
  (open_:∀ w:World,(fencedOpening treeTable p w N).map (fun s=>(s.heap,s.gens,s.drawn,s.toks)) = some (boot_heap w.params,Array.mk [],boot_drawn,boot_toks)) (le:Nat.ble M N = true)
  (big:∀ w:World,(fun os=>(Fq (stepT (denote treeTable) p w) (stepOk 11 (some (.ref 6))) M (S0 w os) (topStub p)).map fun r=>((staticsOk (importedModules p.main.body) (boot_heap w.params) r.abs.heap && namesBound p r.abs.heap && gensDone r.abs && laidKept (boot_heap w.params) r.abs.heap),
    openSeen q loose (importedModules p.main.body) Xt g0 r.abs,Yf r.abs)) = fun _=>some (true,openGood q loose,Ya w)):LeftO p q loose Xt Yf Ya N g0:=fun w=>by
 obtain ⟨⟨h,gs,d,k,os⟩,e,e'⟩:=Option.map_eq_some_iff.mp (open_ w)
 obtain ⟨rfl,rfl,rfl,rfl⟩:h = boot_heap w.params /\ gs = Array.mk [] /\ d = boot_drawn /\ k = boot_toks:=by simpa using e'
 obtain ⟨z1,z2,z3⟩:_ /\ _ /\ _:=by simpa only [Prod.mk.injEq] using sz w.params
 obtain ⟨r,hr,hb⟩:=Option.map_eq_some_iff.mp (congrFun (big w) os)
 obtain ⟨l1,l2,l3⟩:_ /\ _ /\ _:=by simpa only [Prod.mk.injEq] using hb
 have ha:(S0 w os).abs = ⟨boot_heap w.params,Array.mk [],boot_drawn,boot_toks,os⟩:=by
  unfold S0 SharedT.abs
  dsimp only
  rw [K8]
 have t:=topRun_mono (N - M) _ _ _ _ (t6 _ _ _ _ hr)
 rw [show M + (N - M) = N by have:=Nat.le_of_ble_eq_true le;lia,ha] at t
 have t2:topFrom treeTable p w N ⟨boot_heap w.params,Array.mk [],boot_drawn,boot_toks,os⟩ = some r.abs:=by
  unfold topFrom
  dsimp only
  rw [z1,z2,z3,t]
  show (match staticsOk (importedModules p.main.body) (boot_heap w.params) r.abs.heap && namesBound p r.abs.heap && gensDone r.abs && laidKept (boot_heap w.params) r.abs.heap with | true=>_ | false=>_) = _
  rw [l1]
 unfold openEnds
 rw [e]
 show (topFrom treeTable p w N _).map _ = _
 rw [t2]
 exact congrArg some (Prod.ext l2 l3)
theorem GQ    {α:Type} {Yf:Shared -> α} {Ya:World -> α} {g0:Bool}
  (open_:∀ w:World,(fencedOpening treeTable p w 100000).map (fun s=>(s.heap,s.gens,s.drawn,s.toks)) = some (boot_heap w.params,Array.mk [],boot_drawn,boot_toks))
  (big:∀ w:World,(fun os=>(Fq (Fast.tw10156331382660048174 (Fast.tw11892475500146522536 Fast.tw14364793385576792824) p w) (Fast.tw6613529449190102663 11 (some (.ref 6))) 100000 (S0 w os) (topStub p)).map fun r=>((staticsOk (Fast.tw5923862056798008813 p.main.body) (boot_heap w.params) r.abs.heap && namesBound p r.abs.heap && gensDone r.abs && laidKept (boot_heap w.params) r.abs.heap),
    Fast.tw4187177175401517315 q loose (Fast.tw5923862056798008813 p.main.body) Xt g0 r.abs,Yf r.abs)) = fun _=>some (true,openGood q loose,Ya w)):LeftO p q loose Xt Yf Ya 100000 g0:=by
 rw [<- Fast.te10156331382660048174,<- Fast.te11892475500146522536,<- Fast.te14364793385576792824,<- Fast.te6613529449190102663,<- Fast.te5923862056798008813,<- Fast.te4187177175401517315] at big
 exact GP open_ rfl big
theorem Hv  (h:Fast.tw9446332074065402090 l = true):l.wellSaid = true:=by
 rw [Fast.te9446332074065402090]
 exact h
end Hd
set_option Elab.async false
section
open PySem PySem.W PyProof.Rows
noncomputable def Hd.q : Program := view PySem.Challenge.pw_shapethin_k49_whole_pieces_less_holes [0, 2, 3, 5, 6, 7, 8, 9, 11, 12, 13, 14, 15, 16, 17, 19, 20, 21, 22, 23, 24, 26, 27, 28, 30, 31, 32, 33, 34, 35, 36, 38, 39, 40, 41, 43, 44, 45, 46, 47, 48, 49]
local macro_rules | `(tactic| o_head $_)=>`(tactic| assumption)
set_option maxHeartbeats 0 in
theorem Hd.e0 : PySem.Challenge.rw_shapethin_k49_whole_pieces_less_holes.row.Holds -> PySem.Challenge.rw_shapethin_k49_whole_pieces_less_holes.row.Holds := by intro h; w_on; k_head
noncomputable def Hd.as:List Addr:=(Hd.e0.heap_1 { strHash:=fun _=>0,shareClass:=fun _=>0,mergeTok:=id,idOf:=fun _=>0,idOfShared:=fun _ _=>0,followText:=fun _=>true,idOfImm:=fun _=>0 }).map (·.1)
theorem Hd.ae (P:Params):Hd.as = (Hd.e0.heap_1 P).map (·.1):=by kernel_rfl
noncomputable abbrev Hd.H:Hook:=kHook Hd.e0.heap_1 Hd.as Hd.ae
set_option maxHeartbeats 0 in
theorem Hd.e1 : LeftO PySem.Challenge.rw_shapethin_k49_whole_pieces_less_holes.row.prog Hd.q [] (fun s => xlAt Hd.q [] s && recOk (RowW.records (OpenRow.toRowW (OpenLaw.row PySem.Challenge.rw_shapethin_k49_whole_pieces_less_holes))) s) (Hook.obs Hd.H) (Hook.val Hd.H) 100000 := Hd.GQ (boot_open (by rfl) rfl (fun s => rfl)) (by intro w; kernel_rfl)
set_option maxHeartbeats 0 in
theorem Hd.e2 : PySem.Challenge.rw_shapethin_k49_whole_pieces_less_holes.wellSaid = true := Hd.Hv (by kernel_rfl)
end
set_option Elab.async false
set_option linter.all false
set_option maxRecDepth 100000
namespace L2
open PySem PySem.Spec PyProof.Rows
noncomputable abbrev Key:=Sum Int Str
noncomputable def tO:Key -> Value -> Bool
 | .inl k,v=>Value.isInt k v
 | .inr x,v=>Value.isStrOf x v
noncomputable def Nh (w:World):Key -> Int
 | .inl k=>hashInt k
 | .inr x=>hashStr w x
theorem bw:∀ {k:Key} {v:Value},tO k v = true -> (∃ i t,k = Sum.inl i /\ v = Value.int i t) \/ (∃ x t,k = Sum.inr x /\ v = Value.str x t)
 | .inl i,v,h=>by
  obtain ⟨t,e⟩:=Value.isInt_shape (k:=i) (v:=v) h
  exact .inl ⟨i,t,rfl,e⟩
 | .inr x,v,h=>by
  obtain ⟨t,e⟩:=Value.isStrOf_shape (x:=x) (v:=v) h
  exact .inr ⟨x,t,rfl,e⟩
theorem B5 (i:Int) (t:Tok):tO (.inl i) (.int i t) = true:=by simp [tO,Value.isInt]
theorem B6 (x:Str) (t:Tok):tO (.inr x) (.str x t) = true:=by simp [tO,Value.isStrOf]
theorem JC (a b:Int):decide ((Sum.inl a:Key) = Sum.inl b) = (a == b):=by
 by_cases e:a = b
 ·subst e;simp
 ·have h:¬ (Sum.inl a:Key) = Sum.inl b:=fun q=>e (Sum.inl.inj q)
  rw [decide_eq_false h]
  exact (beq_eq_false_iff_ne.mpr e).symm
theorem JF (a b:Str):decide ((Sum.inr a:Key) = Sum.inr b) = decide (a = b):=by
 by_cases e:a = b
 ·subst e;simp
 ·have h:¬ (Sum.inr a:Key) = Sum.inr b:=fun q=>e (Sum.inr.inj q)
  rw [decide_eq_false h,decide_eq_false e]
theorem JD (a:Int) (b:Str):decide ((Sum.inl a:Key) = Sum.inr b) = false:=decide_eq_false (fun q=>nomatch q)
theorem JE (a:Str) (b:Int):decide ((Sum.inr a:Key) = Sum.inl b) = false:=decide_eq_false (fun q=>nomatch q)
noncomputable def aY (prog:Program) (w:World):PySem.KeyKind prog w Key where
 is:=tO
 hash:=Nh w
 inj:=fun v a b ha hb=>by
  rcases bw ha with ⟨i,t,rfl,rfl⟩ | ⟨x,t,rfl,rfl⟩
  ·rcases bw hb with ⟨j,u,rfl,e⟩ | ⟨y,u,rfl,e⟩
   ·injection e with e1 _;rw [e1]
   ·exact nomatch e
  ·rcases bw hb with ⟨j,u,rfl,e⟩ | ⟨y,u,rfl,e⟩
   ·exact nomatch e
   ·injection e with e1 _;rw [e1]
 byValue:=fun k v h=>by
  rcases bw h with ⟨i,t,rfl,rfl⟩ | ⟨x,t,rfl,rfl⟩ <;> rfl
 pyHash:=fun hv h=>by
  rcases bw hv with ⟨i,t,rfl,rfl⟩ | ⟨x,t,rfl,rfl⟩
  ·exact wpAny_pyHash_int h
  ·exact wpAny_pyHash_str h
 eqBool:=fun hu hv h=>by
  rcases bw hu with ⟨i,t,rfl,rfl⟩ | ⟨x,t,rfl,rfl⟩
  ·rcases bw hv with ⟨j,u,rfl,rfl⟩ | ⟨y,u,rfl,rfl⟩
   ·rw [JC] at h;exact wpAny_eqBool_int h
   ·rw [JD] at h;exact SeqAt.EqAt.int_str i t y u _ _ _ _ h
  ·rcases bw hv with ⟨j,u,rfl,rfl⟩ | ⟨y,u,rfl,rfl⟩
   ·rw [JE] at h;exact SeqAt.EqAt.str_int x t j u _ _ _ _ h
   ·rw [JF] at h;exact wpAny_eqBool_str h
 «strs»:=fun k x t v h=>by
  rcases bw h with ⟨i,u,rfl,e⟩ | ⟨y,u,rfl,e⟩
  ·exact nomatch e
  ·injection e with e1 _
   subst e1
   cases v <;> rfl
theorem xz (prog:Program) (w:World) (i:Int) (t:Tok):(aY prog w).is (.inl i) (.int i t) = true:=B5 i t
theorem xA (prog:Program) (w:World) (x:Str) (t:Tok):(aY prog w).is (.inr x) (.str x t) = true:=B6 x t
inductive V where
 | non | bl (b:Bool) | int (i:Int) | str (x:Str) | byt (b:Array UInt8) | flt (b:UInt64) | ref (a:Addr) | ty (n:String)
 deriving DecidableEq
noncomputable def RelV:V -> Value -> Prop
 | .non,u=>u = Value.none
 | .bl b,u=>u = Value.bool b
 | .int i,u=>∃ t,u = Value.int i t
 | .str x,u=>∃ t,u = Value.str x t
 | .byt b,u=>∃ t,u = Value.bytes b t
 | .flt b,u=>∃ t,u = Value.float b t
 | .ref a,u=>u = Value.ref a
 | .ty n,u=>u = Value.type n
noncomputable abbrev Vals:List V -> List Value -> Prop:=Paired RelV
theorem Vals.length {xs:List V} {us:List Value} (r:Vals xs us):xs.length = us.length:=Paired.length r
theorem Vals.get:∀ {xs:List V} {us:List Value} {i:Nat} {x:V},Vals xs us -> xs[i]? = some x -> ∃ u,us[i]? = some u /\ RelV x u
 | _,_,_,_,.nil,e=>by simp at e
 | _,_,0,_,.cons r _,e=>by simp at e;subst e;exact ⟨_,rfl,r⟩
 | _,_,i + 1,x,.cons _ t,e=>by
  obtain ⟨u,h1,h2⟩:=Vals.get (i:=i) (x:=x) t (by simpa using e)
  exact ⟨u,by simpa using h1,h2⟩
theorem Vals.set {x:V} {u:Value} (r:RelV x u):∀ {xs:List V} {us:List Value} (i:Nat),Vals xs us -> Vals (xs.set i x) (us.set i u)
 | _,_,_,.nil=>.nil
 | _,_,0,.cons _ t=>.cons r t
 | _,_,i + 1,.cons q t=>.cons q (Vals.set r i t)
theorem Vals.append:∀ {xs ys:List V} {us ws:List Value},Vals xs us -> Vals ys ws -> Vals (xs ++ ys) (us ++ ws)
 | _,_,_,_,.nil,s=>s
 | _,_,_,_,.cons r t,s=>.cons r (Vals.append t s)
theorem Vals.take:∀ {xs:List V} {us:List Value} (n:Nat),Vals xs us -> Vals (xs.take n) (us.take n)
 | _,_,0,_=>.nil
 | _,_,_ + 1,.nil=>.nil
 | _,_,n + 1,.cons r t=>.cons r (Vals.take n t)
theorem Vals.drop:∀ {xs:List V} {us:List Value} (n:Nat),Vals xs us -> Vals (xs.drop n) (us.drop n)
 | _,_,0,r=>r
 | _,_,_ + 1,.nil=>.nil
 | _,_,n + 1,.cons _ t=>Vals.drop n t
noncomputable def RelO:Option V -> Option Value -> Prop
 | some v,some u=>RelV v u
 | none,none=>True
 | _,_=>False
noncomputable def KV {κ:Type}:List (κ × V) -> List (κ × Value) -> Prop:=Paired fun (p:κ × V) (q:κ × Value)=>p.1 = q.1 /\ RelV p.2 q.2
noncomputable def kV:Key -> V
 | .inl i=>.int i
 | .inr x=>.str x
inductive HO where
  | lst (xs:List V)
  | tup (xs:List V)
  | dK (kvs:List (Key × V)) | dT (kvs:List (List Key × V))
  | set (S:Int -> Bool) (n:Nat)
  | ins (C dx:Addr) (fs:List (Str × V))
  | own (x:Addr)
  | xd (fs:List (Str × V))
  | met (f x:Addr)
  | rng (lo hi:Int)
  | frz (o:Obj) (u:HO)
  | tbl (ps:Array Value)
  | ext (φ:Heap -> Prop)
noncomputable abbrev Hp:=Addr -> Option HO
noncomputable def upd (H:Hp) (a:Addr) (o:HO):Hp:=fun b=>if b = a then some o else H b
theorem av:upd H a o a = some o:=by unfold upd;rw [if_pos rfl]
theorem aw  {a b:Addr}  (h:b ≠ a):upd H a o b = H b:=by unfold upd;rw [if_neg h]
theorem HL:upd (upd H a o) a u = upd H a u:=by
 funext b;unfold upd;split <;> rfl
theorem AJ {H:Hp} {a b:Addr} {o u:HO} (h:H a = some o) (h':H b = some u) (d:o ≠ u):a ≠ b:=by
 intro e;subst e;rw [h] at h';exact d (Option.some.inj h')
theorem aH {H:Hp} {a b:Addr} {o:HO} (h:H a = some o) (h':H b = none):a ≠ b:=by
 intro e;subst e;rw [h] at h';cases h'
section
variable (P:Program) (w:World)
noncomputable def ObjOk (H:Hp) (h:Heap) (a:Addr):HO -> Prop
 | .lst xs=>xs.length <= sizeLine /\ ∃ (its:List Value) (n:Nat),Vals xs its /\ h.get? a = some { cls:=.type "list",data:=.seq its.toArray n }
 | .tup xs=>xs.length <= sizeLine /\ ∃ its:List Value,Vals xs its /\ IsTup h a its.toArray
 | .dK kvs=>kvs.length <= sizeLine /\ (a == sysModules) = false /\ ∃ vs,KV kvs vs /\ h.DictOf (aY P w) a vs
 | .dT kvs=>kvs.length <= sizeLine /\ (a == sysModules) = false /\ ∃ xs:List (List Key × Addr × Value),
   Paired (fun (p:List Key × V) (q:List Key × Addr × Value)=>p.1 = q.1 /\ H q.2.1 = some (.tup (p.1.map kV)) /\ RelV p.2 q.2.2) kvs xs /\
   ∃ o es ep,h.get? a = some o /\ o.ExactDict /\ o.data = .dict es ep /\ es.toList = xs.map (entryOfKey (tupleKind (aY P w))) /\ (xs.map (·.1)).Nodup
 | .set S n=>h.SetOf (intKind P w) a S n
 | .ins C dx fs=>H dx = some (.own a) /\ fs.length <= 1000 /\ dx ≠ a /\ h.get? a = some (W.instObj C dx) /\
   ∃ mA,h.Ns1 dx mA /\ (∀ f,RelO (fs.lookup f) (mA f)) /\ PySem.Within mA (fs.map (·.1))
 | .own _=>∃ o,h.get? a = some o
 | .xd fs=>∃ mA,h.Ns1 a mA /\ ∀ f,RelO (fs.lookup f) (mA f)
 | .rng lo hi=>∃ t u v,h.get? a = some { cls:=.type "range",data:=.fields #[.int lo t,.int hi u,.int 1 v] }
 | .frz o u=>h.get? a = some o /\ ObjOk H h a u
 | .tbl ps=>h.get? a = some { cls:=.none,data:=.fields ps }
 | .met f x=>h.get? a = some (W.methodObj (.ref f) (.ref x))
 | .ext φ=>φ h /\ (∃ o,h.get? a = some o) /\ ∀ h1 h2:Heap,φ h1 -> (∀ o,h1.get? a = some o -> h2.get? a = some o) -> φ h2
def HOk (H:Hp) (h:Heap):Prop:=∀ a o,H a = some o -> ObjOk P w H h a o
end
section
variable {P:Program} {w:World} {H H':Hp} {h h':Heap} {a:Addr} {o:HO}
theorem ObjOk.lt (x:ObjOk P w H h a o):a < h.objs.size:=by
 cases o with
 | lst xs=>obtain ⟨_,_,_,_,e⟩:=x;exact Heap.lt_size e
 | tup xs=>obtain ⟨_,_,_,p⟩:=x;exact p.lt
 | dK kvs=>obtain ⟨_,_,_,_,o,_,_,e,_⟩:=x;exact Heap.lt_size e
 | dT kvs=>obtain ⟨_,_,_,_,o,_,_,e,_⟩:=x;exact Heap.lt_size e
 | set S n=>obtain ⟨o,_,_,_,e,_⟩:=x;exact Heap.lt_size e
 | ins C dx fs=>obtain ⟨_,_,_,e,_⟩:=x;exact Heap.lt_size e
 | own y=>obtain ⟨_,e⟩:=x;exact Heap.lt_size e
 | xd fs=>obtain ⟨_,⟨_,_,_,e,_⟩,_⟩:=x;exact Heap.lt_size e
 | rng lo hi=>obtain ⟨_,_,_,e⟩:=x;exact Heap.lt_size e
 | frz ob u=>obtain ⟨e,_⟩:=x;exact Heap.lt_size e
 | tbl ps=>exact Heap.lt_size (show h.get? a = some _ from x)
 | met f y=>exact Heap.lt_size (show h.get? a = some _ from x)
 | ext φ=>obtain ⟨_,⟨_,e⟩,_⟩:=x;exact Heap.lt_size e
theorem Paired.mapP {α β:Type} {F G:α -> β -> Prop}:∀ {l₁:List α} {l₂:List β},Paired F l₁ l₂ -> (∀ a b,F a b -> G a b) -> Paired G l₁ l₂
 | _,_,.nil,_=>.nil
 | _,_,.cons r t,f=>.cons (f _ _ r) (Paired.mapP t f)
theorem ObjOk.stay (x:ObjOk P w H h a o) (k:∀ b u,(b = a \/ H b = some (.own a)) -> h.get? b = some u -> h'.get? b = some u)
  (ho:∀ b,H b = some (.own a) -> H' b = some (.own a)) (ht:∀ b xs,H b = some (.tup xs) -> H' b = some (.tup xs)):ObjOk P w H' h' a o:=by
 induction o with
 | lst xs=>obtain ⟨z,its,n,r,e⟩:=x;exact ⟨z,its,n,r,k _ _ (.inl rfl) e⟩
 | tup xs=>obtain ⟨z,its,r,ob,e,c⟩:=x;exact ⟨z,its,r,ob,k _ _ (.inl rfl) e,c⟩
 | dK kvs=>obtain ⟨z,y,vs,r,ob,es,ep,e,c⟩:=x;exact ⟨z,y,vs,r,ob,es,ep,k _ _ (.inl rfl) e,c⟩
 | dT kvs=>
  obtain ⟨z,y,xs,r,ob,es,ep,e,c⟩:=x
  exact ⟨z,y,xs,Paired.mapP r fun p q z=>⟨z.1,ht _ _ z.2.1,z.2.2⟩,ob,es,ep,k _ _ (.inl rfl) e,c⟩
 | set S n=>obtain ⟨ob,es,ep,t,e,c⟩:=x;exact ⟨ob,es,ep,t,k _ _ (.inl rfl) e,c⟩
 | ins C dx fs=>
  obtain ⟨d,z,ne,e,mA,⟨od,es,ep,e2,c⟩,r⟩:=x
  exact ⟨ho _ d,z,ne,k _ _ (.inl rfl) e,mA,⟨od,es,ep,k _ _ (.inr d) e2,c⟩,r⟩
 | own y=>obtain ⟨ob,e⟩:=x;exact ⟨ob,k _ _ (.inl rfl) e⟩
 | xd fs=>obtain ⟨mA,⟨od,es,ep,e,c⟩,r⟩:=x;exact ⟨mA,⟨od,es,ep,k _ _ (.inl rfl) e,c⟩,r⟩
 | rng lo hi=>obtain ⟨t,u,v,e⟩:=x;exact ⟨t,u,v,k _ _ (.inl rfl) e⟩
 | frz ob u ih=>obtain ⟨e,q⟩:=x;exact ⟨k _ _ (.inl rfl) e,ih q⟩
 | tbl ps=>
  have e:h.get? a = some { cls:=.none,data:=.fields ps }:=x
  show h'.get? a = some { cls:=.none,data:=.fields ps }
  exact k a _ (.inl rfl) e
 | met f y=>
  have e:h.get? a = some (W.methodObj (.ref f) (.ref y)):=x
  show h'.get? a = some (W.methodObj (.ref f) (.ref y))
  exact k a _ (.inl rfl) e
 | ext φ=>obtain ⟨p,⟨o,e⟩,st⟩:=x;exact ⟨st _ _ p fun o q=>k _ _ (.inl rfl) q,⟨o,k _ _ (.inl rfl) e⟩,st⟩
theorem HOk.lt (x:HOk P w H h) (e:H a = some o):a < h.objs.size:=(x a o e).lt
theorem HOk.fresh (x:HOk P w H h) (e:h.objs.size <= a):H a = none:=by
 cases q:H a with
 | none=>rfl
 | some u=>exact absurd (Nat.lt_of_lt_of_le (x.lt q) e) (Nat.lt_irrefl _)
theorem HOk.kept (x:HOk P w H h) (k:∀ b u,h.get? b = some u -> h'.get? b = some u):HOk P w H h':=fun a o e=>
 (x a o e).stay (fun b u _ q=>k b u q) (fun _ q=>q) fun _ _ q=>q
theorem HOk.laid (x:HOk P w H h) (k:∀ b u,h.get? b = some u -> h'.get? b = some u) (hp:h.objs.size <= a) (new:ObjOk P w (upd H a o) h' a o):HOk P w (upd H a o) h':=fun b u e=>by
 have hn:=x.fresh hp
 by_cases hb:b = a
 ·subst hb;rw [av] at e;cases e;exact new
 ·rw [aw hb] at e
  exact (x b u e).stay (fun c v _ q=>k c v q) (fun c q=>by rw [aw (aH q hn)];exact q) fun c xs q=>by rw [aw (aH q hn)];exact q
end
def Rd (H:Hp) (a:Addr) (u:HO):Prop:=H a = some u \/ ∃ o,H a = some (.frz o u)
theorem Rd.ok {P:Program} {w:World} {H:Hp} {h:Heap} {a:Addr} {u:HO} (r:Rd H a u) (x:HOk P w H h):ObjOk P w H h a u:=by
 rcases r with r | ⟨o,r⟩
 ·exact x a u r
 ·obtain ⟨_,q⟩:=x a _ r
  exact q
noncomputable def Mut:Option HO -> Prop
 | some (.lst _)=>True
 | some (.dK _)=>True
 | some (.dT _)=>True
 | some (.set _ _)=>True
 | some (.ins _ _ _)=>True
 | some (.ext _)=>True
 | _=>False
section
variable {P:Program} {w:World} {H:Hp} {h h':Heap} {x e:Addr} {o':HO}
theorem HOk.write (ok:HOk P w H h) (mu:Mut (H x)) (he:e = x \/ H e = some (.own x)) (k:∀ b u,b ≠ e -> h.get? b = some u -> h'.get? b = some u) (heo:∃ u,h'.get? e = some u)
  (new:ObjOk P w (upd H x o') h' x o'):HOk P w (upd H x o') h':=fun b u q=>by
 have nown:∀ c y,H c = some (.own y) -> c ≠ x:=fun c y r z=>by subst z;rw [r] at mu;exact mu
 have ntup:∀ c xs,H c = some (.tup xs) -> c ≠ x:=fun c xs r z=>by subst z;rw [r] at mu;exact mu
 by_cases hb:b = x
 ·subst hb;rw [av] at q;cases q;exact new
 ·rw [aw hb] at q
  by_cases hbe:b = e
  ·have q':H b = some (.own x):=by
    rcases he with z | z
    ·exact absurd (hbe.trans z) hb
    ·rw [hbe];exact z
   rw [q] at q';cases q'
   obtain ⟨v,hv⟩:=heo
   exact ⟨v,by rw [hbe];exact hv⟩
  ·refine (ok b u q).stay (fun c v hc r=>k c v ?_ r) (fun c r=>by rw [aw (nown c b r)];exact r) fun c xs r=>by rw [aw (ntup c xs r)];exact r
   rcases hc with rfl | hc
   ·exact hbe
   ·rintro rfl
    rcases he with z | z
    ·exact nown c b hc z
    ·rw [hc] at z;cases z;exact hb rfl
end
structure Un (fs ex:List Addr) (H H':Hp) (h h':Heap):Prop where
 keep:∀ b o,h.get? b = some o -> H b = none -> b ∉ fs -> b ∉ ex -> h'.get? b = some o
 slot:∀ b o,h.get? b = some o -> H b = none -> b ∈ fs -> b ∉ ex -> ∃ sl,h'.get? b = some { o with slots:=sl }
 free:∀ b o,h.get? b = some o -> H b = none -> b ∉ ex -> H' b = none
 there:∀ b o,h.get? b = some o -> b ∉ ex -> ∃ o',h'.get? b = some o'
 tups:∀ b xs,H b = some (.tup xs) -> H' b = some (.tup xs)
 frzs:∀ b o u,H b = some (.frz o u) -> H' b = some (.frz o u)
 tbls:∀ b ps,H b = some (.tbl ps) -> ∃ more,H' b = some (.tbl (ps ++ more))
section
variable {fs fs' ex ex':List Addr} {H H1 H2:Hp} {h h1 h2 h':Heap} {a x e:Addr} {o:HO}
theorem Un.any (u:Un fs ex H H1 h h1)  {ob:Obj} (q:h.get? b = some ob) (n:H b = none) (hx:b ∉ ex):∃ sl,h1.get? b = some { ob with slots:=sl }:=by
 by_cases hb:b ∈ fs
 ·exact u.slot b ob q n hb hx
 ·exact ⟨ob.slots,u.keep b ob q n hb hx⟩
theorem Un.trans (a:Un fs ex H H1 h h1) (b:Un fs ex H1 H2 h1 h2):Un fs ex H H2 h h2 where
 keep:=fun c ob q n hc hx=>b.keep c ob (a.keep c ob q n hc hx) (a.free c ob q n hx) hc hx
 slot:=fun c ob q n hc hx=>by
  obtain ⟨sl,e1⟩:=a.slot c ob q n hc hx
  obtain ⟨sl',e2⟩:=b.slot c _ e1 (a.free c ob q n hx) hc hx
  exact ⟨sl',e2⟩
 free:=fun c ob q n hx=>by
  obtain ⟨o',e1⟩:=a.there c ob q hx
  exact b.free c o' e1 (a.free c ob q n hx) hx
 there:=fun c ob q hx=>by
  obtain ⟨o',e1⟩:=a.there c ob q hx
  exact b.there c o' e1 hx
 tups:=fun c xs q=>b.tups c xs (a.tups c xs q)
 frzs:=fun c ob xs q=>b.frzs c ob xs (a.frzs c ob xs q)
 tbls:=fun c ps q=>by
  obtain ⟨m1,e1⟩:=a.tbls c ps q
  obtain ⟨m2,e2⟩:=b.tbls c _ e1
  exact ⟨m1 ++ m2,by rw [e2,Array.append_assoc]⟩
theorem Un.kept (k:∀ b u,h.get? b = some u -> h'.get? b = some u):Un fs ex H H h h':=
 ⟨fun b ob q _ _ _=>k b ob q,fun b ob q _ _ _=>⟨ob.slots,k b ob q⟩,fun _ _ _ n _=>n,fun b ob q _=>⟨ob,k b ob q⟩,fun _ _ q=>q,fun _ _ _ q=>q,fun _ ps q=>⟨#[],by rw [q];simp⟩⟩
theorem Un.refl:Un fs ex H H h h:=Un.kept fun _ _ q=>q
theorem Un.laid (k:∀ b u,h.get? b = some u -> h'.get? b = some u) (hp:h.objs.size <= a) (hn:H a = none):Un fs ex H (upd H a o) h h' where
 keep:=fun b u q _ _ _=>k b u q
 slot:=fun b u q _ _ _=>⟨u.slots,k b u q⟩
 free:=fun b u q n _=>by rw [aw (Nat.ne_of_lt (Nat.lt_of_lt_of_le (Heap.lt_size q) hp))];exact n
 there:=fun b u q _=>⟨u,k b u q⟩
 tups:=fun b xs q=>by rw [aw (aH q hn)];exact q
 frzs:=fun b u xs q=>by rw [aw (aH q hn)];exact q
 tbls:=fun b ps q=>⟨#[],by rw [aw (aH q hn),q];simp⟩
theorem Un.write (mu:Mut (H x)) (he:e = x \/ H e = some (.own x)) (k:∀ b u,b ≠ e -> h.get? b = some u -> h'.get? b = some u) (heo:∃ u,h'.get? e = some u):Un fs ex H (upd H x o) h h':=by
 have hx:∀ b,H b = none -> b ≠ x:=fun b n z=>by subst z;rw [n] at mu;exact mu
 have hb:∀ b,H b = none -> b ≠ e:=fun b n z=>by
  subst z
  rcases he with r | r
  ·exact hx b n r
  ·rw [n] at r;cases r
 have hm:∀ b u,H b = some u -> ¬ Mut (some u) -> b ≠ x:=fun b u q nm z=>by subst z;rw [q] at mu;exact nm mu
 refine ⟨fun b u q n _ _=>k b u (hb b n) q,fun b u q n _ _=>⟨u.slots,k b u (hb b n) q⟩,fun b u q n _=>by rw [aw (hx b n)];exact n,fun b u q _=>?_,
  fun b xs q=>by rw [aw (hm b _ q fun z=>z)];exact q,fun b u xs q=>by rw [aw (hm b _ q fun z=>z)];exact q,fun b ps q=>⟨#[],by rw [aw (hm b _ q fun z=>z),q];simp⟩⟩
 by_cases hbe:b = e
 ·subst hbe;exact heo
 ·exact ⟨u,k b u hbe q⟩
end
noncomputable def trk (h:Heap) (H:Hp):List Addr:=(List.range h.objs.size).filter fun a=>(H a).isSome
noncomputable def uO (h:Heap) (H:Hp):Heap:=W.hideAll h (trk h H)
theorem BZ (h:Heap) (H:Hp):(uO h H).objs.size = h.objs.size:=W.hideAll_size _ _
theorem Ea {h:Heap} {H:Hp} {b:Addr} {o:Obj} (e:h.get? b = some o) (n:H b = none):(uO h H).get? b = some o:=
 W.hideAll_get _ e fun hm=>by
  have q:(H b).isSome = true:=(List.mem_filter.mp hm).2
  rw [n] at q;simp at q
theorem GZ   {b:Addr} {o:Obj} (e:(uO h H).get? b = some o):h.get? b = some o /\ H b = none:=by
 have e':h.get? b = some o:=W.of_hideAll (trk h H) e
 refine ⟨e',?_⟩
 cases q:H b with
 | none=>rfl
 | some x=>
  have hm:b ∈ trk h H:=List.mem_filter.mpr ⟨List.mem_range.mpr (Heap.lt_size e'),by simp [q]⟩
  have z:(uO h H).get? b = none:=W.hideAll_none (trk h H) hm
  rw [z] at e;cases e
noncomputable def Gf (g h:Heap) (L:Addr):List (Addr × Obj):=(List.range h.objs.size).filterMap fun a=>if a = L \/ (g.get? a).isSome = true then none else (h.get? a).map fun o=>(a,o)
noncomputable def rest (g h:Heap) (L d:Addr):List (Addr × Obj):=(Gf g h L).filter fun p=>decide (p.1 ≠ d)
structure Mod (K:W.Frag) (mg:Str -> Option Value) (base:Heap):Prop where
 kin:K.In base
 glob:base.Ns mainGlobals mg
 blt:∃ mb,base.Ns builtinsNs mb /\ ∀ x:Str,x ≠ "__name__" -> mb x = bootBuiltins x
 nolimit:base.NoLimit
structure Cx where
 prog:Program
 w:World
 K:W.Frag
 mg:Str -> Option Value
 base:Heap
 A:Around
 N:List Str
 s₀:Shared
 H₀:Hp
 env:Env
 outer:List Env
 stack:List Env
 ex:List Addr
 fn:Str -> Bool
 calm:Bool
 pn:List (Addr × Obj)
 xe:Value -> Shared -> Prop
noncomputable def frs (l:List Env):List Addr:=l.filterMap (·.frame)
noncomputable abbrev Cx.fs (X:Cx):List Addr:=frs X.outer
def Vis (sc:Scope) (x:Str):Prop:=sc.names.lookup x = some .local \/ sc.names.lookup x = some .cell \/ sc.names.lookup x = some .free
def Loc (sc:Scope) (x:Str):Prop:=sc.names.lookup x = some .local \/ sc.names.lookup x = some .cell
def M5 (env:Env) (h:Heap) (m:Str -> Option Value) (x:Str) (u:Value):Prop:=
 (env.kindOf x = some .local /\ m x = some u) \/ ((env.kindOf x = some .cell \/ env.kindOf x = some .free) /\ ∃ c,env.cells.lookup x = some c /\ h.IsCell c (some u))
structure Cx.Ok (X:Cx):Prop where
 mod:Mod X.K X.mg X.base
 kind:X.env.scope.kind = .function
 glob:X.env.globals = mainGlobals
 blt:X.env.builtins = builtinsNs
 above:X.s₀.heap.objs.size <= X.env.locals
 inj:∀ x y c,X.env.cells.lookup x = some c -> X.env.cells.lookup y = some c -> x = y
 has:∀ x,(X.env.kindOf x = some .cell \/ X.env.kindOf x = some .free) -> ∃ c,X.env.cells.lookup x = some c
 cab:∀ x c,X.fn x = true -> X.env.cells.lookup x = some c -> X.s₀.heap.objs.size <= c
 hd:X.calm = true -> X.A.handled = none
 frames:X.A.frames = some X.stack
 stk:X.stack = X.outer \/ (X.stack = X.env :: X.outer /\ X.env.frame = some X.env.locals)
 exf:∀ b ∈ X.ex,b ≠ X.env.locals /\ ∀ x c,X.env.cells.lookup x = some c -> c ≠ b
 bs:∀ b o,X.base.get? b = some o -> X.s₀.heap.get? b = some o /\ X.H₀ b = none
 bsz:X.base.objs.size <= X.s₀.heap.objs.size
 noex:∀ b o,X.base.get? b = some o -> b ∉ X.ex
 exfs:∀ b ∈ X.ex,b ∉ X.fs
 funs:X.s₀.heap.FunFrames X.base X.outer
 frf:∀ b ∈ X.fs,X.H₀ b = none
structure Inv (X:Cx) (pins:List (Addr × Obj)) (σ:List (Option V)) (H:Hp) (s:Shared):Prop where
 ok:X.Ok
 os:s.os = X.s₀.os
 bare:AllBare s.gens
 base:Un X.fs X.ex X.H₀ H X.s₀.heap s.heap
 loc:∃ m,s.heap.Ns X.env.locals m /\ ∀ (i:Nat) (x:Str) (v:V),X.N[i]? = some x -> σ[i]? = some (some v) -> Vis X.env.scope x -> ∃ u,RelV v u /\ M5 X.env s.heap m x u
 cell:∀ x c,X.env.cells.lookup x = some c -> ∃ v,s.heap.IsCell c v
 free:H X.env.locals = none
 freeC:∀ x c,X.env.cells.lookup x = some c -> H c = none
 pin:∀ p ∈ X.pn ++ pins,s.heap.get? p.1 = some p.2 /\ H p.1 = none /\ p.1 ≠ X.env.locals /\ p.1 ∉ X.fs /\ ∀ v,p.2.data ≠ .cell v
 hok:HOk X.prog X.w H s.heap
 len:σ.length = X.N.length
section
variable {X:Cx} {pins:List (Addr × Obj)} {σ:List (Option V)} {H H':Hp} {s:Shared} {h':Heap}
theorem Cx.Ok.nofr (ok:X.Ok)  {o:Obj} (e:X.base.get? b = some o):b ∉ X.fs:=fun hb=>by
 have:=(ok.funs.mem hb).1
 rw [e] at this;cases this
theorem Inv.bs (I:Inv X pins σ H s):∀ b o,X.base.get? b = some o -> s.heap.get? b = some o /\ H b = none:=fun b o e=>
 ⟨I.base.keep b o (I.ok.bs b o e).1 (I.ok.bs b o e).2 (I.ok.nofr e) (I.ok.noex b o e),I.base.free b o (I.ok.bs b o e).1 (I.ok.bs b o e).2 (I.ok.noex b o e)⟩
theorem Inv.bk (I:Inv X pins σ H s):∀ b o,X.base.get? b = some o -> s.heap.get? b = some o:=fun b o e=>(I.bs b o e).1
theorem Inv.mod (I:Inv X pins σ H s):Mod X.K X.mg X.base:=I.ok.mod
theorem Inv.kIn (I:Inv X pins σ H s):X.K.In s.heap:=I.ok.mod.kin.keeps I.bk
theorem Inv.fr (I:Inv X pins σ H s):∃ m,Fr X.base X.env.locals s.heap m:=
 let ⟨m,hn,_⟩:=I.loc
 ⟨m,hn,I.bk,Nat.le_trans I.ok.bsz I.ok.above⟩
theorem Inv.lt (I:Inv X pins σ H s):X.env.locals < s.heap.objs.size:=let ⟨_,hn,_⟩:=I.loc;hn.lt
theorem Inv.sz (I:Inv X pins σ H s):X.s₀.heap.objs.size <= s.heap.objs.size:=Nat.le_trans I.ok.above (Nat.le_of_lt I.lt)
theorem Inv.nofs (I:Inv X pins σ H s) {a:Addr} (h:s.heap.objs.size <= a):a ∉ X.fs:=fun hb=>by
 obtain ⟨_,o,ho,_⟩:=I.ok.funs.mem hb
 exact absurd (Nat.lt_of_lt_of_le (Heap.lt_size ho) (Nat.le_trans I.sz h)) (Nat.lt_irrefl _)
theorem Inv.cne (I:Inv X pins σ H s):∀ x c,X.env.cells.lookup x = some c -> c ≠ X.env.locals:=fun x c e z=>by
 obtain ⟨v,o,ho,hd⟩:=I.cell x c e
 obtain ⟨m,⟨o',es,ep,ho',hd',_⟩,_⟩:=I.loc
 rw [z,ho'] at ho;cases ho;rw [hd'] at hd;cases hd
theorem Inv.funs (I:Inv X pins σ H s):s.heap.FunFrames X.base X.outer:=by
 have all:∀ (l:List Env),(∀ b ∈ frs l,b ∈ X.fs) -> X.s₀.heap.FunFrames X.base l -> s.heap.FunFrames X.base l:=by
  intro l
  induction l with
  | nil=>intro _ _;trivial
  | cons env r ih=>
   intro hs hl
   obtain ⟨hk,⟨L,o,hf,hn,ho,hd⟩,hr⟩:=hl
   have hL:L ∈ X.fs:=hs L (by unfold frs;rw [List.filterMap_cons,hf];exact List.mem_cons_self)
   obtain ⟨sl,e⟩:=I.base.slot L o ho (I.ok.frf L hL) hL fun z=>I.ok.exfs L z hL
   exact ⟨hk,⟨L,_,hf,hn,e,hd⟩,ih (fun b hb=>hs b (by unfold frs;rw [List.filterMap_cons,hf];exact List.mem_cons_of_mem _ hb)) hr⟩
 exact all X.outer (fun _ hb=>hb) I.ok.funs
theorem Inv.stack (I:Inv X pins σ H s):s.heap.FunFrames X.base X.stack:=by
 rcases I.ok.stk with e | ⟨e,hf⟩
 ·rw [e];exact I.funs
 ·rw [e]
  obtain ⟨m,hn,_⟩:=I.loc
  refine .cons (by rw [I.ok.kind];decide) hf hn ?_ I.funs
  exact Heap.get?_none_of_le (Nat.le_trans I.ok.bsz I.ok.above)
theorem Inv.stkSub (I:Inv X pins σ H s):∀ b ∈ frs X.stack,b ∈ X.env.locals :: X.fs:=fun b hb=>by
 rcases I.ok.stk with e | ⟨e,hf⟩
 ·rw [e] at hb;exact List.mem_cons_of_mem _ hb
 ·rw [e] at hb
  unfold frs at hb
  rw [List.filterMap_cons,hf] at hb
  exact hb
theorem Inv.stkFree (I:Inv X pins σ H s):∀ b ∈ frs X.stack,H b = none:=fun b hb=>by
 rcases List.mem_cons.mp (I.stkSub b hb) with e | hb
 ·rw [e];exact I.free
 ·obtain ⟨_,o,ho,_⟩:=I.ok.funs.mem hb
  exact I.base.free b o ho (I.ok.frf b hb) fun z=>I.ok.exfs b z hb
theorem Inv.step  {t':Nat} {d':Drawn} {ch:List Addr} (I:Inv X pins σ H s)
  (hch:∀ b ∈ ch,(b ∈ X.ex \/ X.s₀.heap.objs.size <= b) /\ b ≠ X.env.locals /\ (∀ x c,X.env.cells.lookup x = some c -> c ≠ b) /\ ∀ p ∈ X.pn ++ pins,p.1 ≠ b)
  (keep:∀ b o,b ≠ X.env.locals -> b ∉ X.fs -> b ∉ ch -> s.heap.get? b = some o -> H b = none -> h'.get? b = some o)
  (slot:∀ b o,b ≠ X.env.locals -> b ∈ X.fs -> b ∉ ch -> s.heap.get? b = some o -> H b = none -> ∃ sl,h'.get? b = some { o with slots:=sl }) (free:∀ b o,b ∉ ch -> s.heap.get? b = some o -> H b = none -> H' b = none)
  (there:∀ b o,b ∉ ch -> s.heap.get? b = some o -> ∃ o',h'.get? b = some o')
  (tups:∀ b xs,H b = some (.tup xs) -> H' b = some (.tup xs)) (frzs:∀ b o u,H b = some (.frz o u) -> H' b = some (.frz o u)) (tbls:∀ b ps,H b = some (.tbl ps) -> ∃ more,H' b = some (.tbl (ps ++ more)))
  (ns:∀ m,s.heap.Ns X.env.locals m -> h'.Ns X.env.locals m) (hok:HOk X.prog X.w H' h') (hg:AllBare g') :
  Inv X pins σ H' { s with heap:=h',gens:=g',drawn:=d',toks:=t' }:=by
 have neL:∀ b o,X.s₀.heap.get? b = some o -> b ≠ X.env.locals:=fun b o e=>Nat.ne_of_lt (Nat.lt_of_lt_of_le (Heap.lt_size e) I.ok.above)
 have neC:∀ b o,X.s₀.heap.get? b = some o -> b ∉ X.ex -> b ∉ ch:=fun b o e hx hb=>by
  rcases (hch b hb).1 with z | z
  ·exact hx z
  ·exact absurd (Nat.lt_of_lt_of_le (Heap.lt_size e) z) (Nat.lt_irrefl _)
 have cellK:∀ x c,X.env.cells.lookup x = some c -> ∀ v,s.heap.IsCell c v -> h'.IsCell c v:=fun x c e v hpt0=>by
  obtain ⟨o,ho,hd⟩:=hpt0
  have nch:c ∉ ch:=fun z=>(hch c z).2.2.1 x c e rfl
  by_cases hc:c ∈ X.fs
  ·obtain ⟨sl,q⟩:=slot c o (I.cne x c e) hc nch ho (I.freeC x c e)
   exact ⟨_,q,hd⟩
  ·exact ⟨o,keep c o (I.cne x c e) hc nch ho (I.freeC x c e),hd⟩
 refine ⟨I.ok,I.os,hg,⟨fun b o e n hb hx=>?_,fun b o e n hb hx=>?_,fun b o e n hx=>?_,fun b o e hx=>?_,fun b xs e=>tups b xs (I.base.tups b xs e),fun b o xs e=>frzs b o xs (I.base.frzs b o xs e),fun b ps e=>?_⟩,?_,fun x c e=>?_,?_,fun x c e=>?_,fun p hp=>?_,hok,I.len⟩
 ·exact keep b o (neL b o e) hb (neC b o e hx) (I.base.keep b o e n hb hx) (I.base.free b o e n hx)
 ·obtain ⟨sl,e1⟩:=I.base.slot b o e n hb hx
  obtain ⟨sl',e2⟩:=slot b _ (neL b o e) hb (neC b o e hx) e1 (I.base.free b o e n hx)
  exact ⟨sl',e2⟩
 ·obtain ⟨o',e1⟩:=I.base.there b o e hx
  exact free b o' (neC b o e hx) e1 (I.base.free b o e n hx)
 ·obtain ⟨o',e1⟩:=I.base.there b o e hx
  exact there b o' (neC b o e hx) e1
 ·obtain ⟨m1,e1⟩:=I.base.tbls b ps e
  obtain ⟨m2,e2⟩:=tbls b _ e1
  exact ⟨m1 ++ m2,by rw [e2,Array.append_assoc]⟩
 ·obtain ⟨m,hn,hl⟩:=I.loc
  refine ⟨m,ns m hn,fun i x v e1 e2 e3=>?_⟩
  obtain ⟨u,r,l⟩:=hl i x v e1 e2 e3
  refine ⟨u,r,?_⟩
  rcases l with l | ⟨k,c,e,z⟩
  ·exact .inl l
  ·exact .inr ⟨k,c,e,cellK x c e _ z⟩
 ·obtain ⟨v,z⟩:=I.cell x c e
  exact ⟨v,cellK x c e v z⟩
 ·obtain ⟨m,⟨o,_,_,ho,_⟩,_⟩:=I.loc
  exact free _ o (fun z=>(hch _ z).2.1 rfl) ho I.free
 ·obtain ⟨v,o,ho,hd⟩:=I.cell x c e
  exact free c o (fun z=>(hch c z).2.2.1 x c e rfl) ho (I.freeC x c e)
 ·obtain ⟨e,n,ne,nf,d⟩:=I.pin p hp
  have nch:p.1 ∉ ch:=fun z=>(hch p.1 z).2.2.2 p hp rfl
  exact ⟨keep p.1 p.2 ne nf nch e n,free p.1 p.2 nch e n,ne,nf,d⟩
theorem Inv.un {t':Nat} (I:Inv X pins σ H s) (u:Un X.fs [] H H' s.heap h') (hok:HOk X.prog X.w H' h'):Inv X pins σ H' { s with heap:=h',toks:=t' }:=by
 obtain ⟨m,⟨o,es,ep,ho,r⟩,_⟩:=id I.loc
 obtain ⟨sl,hL⟩:=u.any ho I.free (by simp)
 exact I.step (g':=s.gens) (d':=s.drawn) (ch:=[]) (fun _ z=>nomatch z) (fun b o _ hb _ e n=>u.keep b o e n hb (by simp)) (fun b o _ hb _ e n=>u.slot b o e n hb (by simp)) (fun b o _ e n=>u.free b o e n (by simp)) (fun b o _ e=>u.there b o e (by simp)) u.tups u.frzs u.tbls (fun m' hm=>by
  obtain ⟨o',es',ep',ho',r'⟩:=hm
  rw [ho] at ho';cases ho'
  exact ⟨_,es',ep',hL,r'⟩) hok I.bare
theorem Inv.call  {t':Nat} {d':Drawn}  (I:Inv X pins σ H s) (u:Un (frs X.stack) ch H H' s.heap h') (hok:HOk X.prog X.w H' h') (hg:AllBare g')
  (hch:∀ b ∈ ch,(b ∈ X.ex \/ X.s₀.heap.objs.size <= b) /\ b ≠ X.env.locals /\ (∀ x c,X.env.cells.lookup x = some c -> c ≠ b) /\ ∀ p ∈ X.pn ++ pins,p.1 ≠ b) :
  Inv X pins σ H' { s with heap:=h',gens:=g',drawn:=d',toks:=t' }:=by
 obtain ⟨m,⟨o,es,ep,ho,r⟩,_⟩:=id I.loc
 obtain ⟨sl,hL⟩:=u.any ho I.free fun z=>(hch _ z).2.1 rfl
 exact I.step (ch:=ch) hch (fun b o hL hb hc e n=>u.keep b o e n (fun z=>(List.mem_cons.mp (I.stkSub b z)).elim hL hb) hc) (fun b o _ _ hc e n=>u.any e n hc) (fun b o hc e n=>u.free b o e n hc) (fun b o hc e=>u.there b o e hc) u.tups u.frzs u.tbls (fun m' hm=>by
  obtain ⟨o',es',ep',ho',r'⟩:=hm
  rw [ho] at ho';cases ho'
  exact ⟨_,es',ep',hL,r'⟩) hok hg
theorem Inv.turned {t':Nat} {it:Addr} (I:Inv X pins σ H s) (k:∀ b o,b ≠ it -> s.heap.get? b = some o -> h'.get? b = some o) (hn:H it = none) (hL:it ≠ X.env.locals)
  (h1:it ∈ X.ex \/ X.s₀.heap.objs.size <= it) (h2:∀ x c,X.env.cells.lookup x = some c -> c ≠ it) (h3:∀ p ∈ X.pn ++ pins,p.1 ≠ it):Inv X pins σ H { s with heap:=h',toks:=t' }:=by
 have nit:∀ b u,H b = some u -> b ≠ it:=fun b u e z=>by rw [z,hn] at e;cases e
 refine I.step (g':=s.gens) (d':=s.drawn) (ch:=[it]) (fun b hb=>?_) (fun b o _ _ hc e _=>k b o (fun z=>hc (by simp [z])) e) (fun b o _ _ hc e _=>⟨o.slots,k b o (fun z=>hc (by simp [z])) e⟩) (fun _ _ _ _ n=>n)
  (fun b o hc e=>⟨o,k b o (fun z=>hc (by simp [z])) e⟩) (fun _ _ e=>e) (fun _ _ _ e=>e) (fun b ps e=>⟨#[],by rw [e];simp⟩) (fun m hm=>?_) (fun b u e=>?_) I.bare
 ·have e:b = it:=by simpa using hb
  subst e
  exact ⟨h1,hL,h2,h3⟩
 ·obtain ⟨o,es,ep,ho,r⟩:=hm
  exact ⟨o,es,ep,k _ o (Ne.symm hL) ho,r⟩
 ·refine (I.hok b u e).stay (fun c v hc q=>k c v ?_ q) (fun _ q=>q) fun _ _ q=>q
  rcases hc with z | z
  ·rw [z];exact nit b u e
  ·exact nit c _ z
theorem Inv.tok (I:Inv X pins σ H s) (t:Nat):Inv X pins σ H { s with toks:=t }:=I.un (h':=s.heap) (t':=t) Un.refl I.hok
theorem Inv.kept {t':Nat} (I:Inv X pins σ H s) (k:∀ b u,s.heap.get? b = some u -> h'.get? b = some u):Inv X pins σ H { s with heap:=h',toks:=t' }:=I.un (Un.kept k) (I.hok.kept k)
theorem Inv.laid {a:Addr}  {t':Nat} (I:Inv X pins σ H s) (k:∀ b u,s.heap.get? b = some u -> h'.get? b = some u) (hp:s.heap.objs.size <= a) (new:ObjOk X.prog X.w (upd H a o) h' a o) :
  Inv X pins σ (upd H a o) { s with heap:=h',toks:=t' }:=I.un (Un.laid k hp (I.hok.fresh hp)) (I.hok.laid k hp new)
theorem Inv.write {e:Addr}  {t':Nat} (I:Inv X pins σ H s) (mu:Mut (H x)) (he:e = x \/ H e = some (.own x)) (k:∀ b u,b ≠ e -> s.heap.get? b = some u -> h'.get? b = some u) (heo:∃ u,h'.get? e = some u)
  (new:ObjOk X.prog X.w (upd H x o) h' x o):Inv X pins σ (upd H x o) { s with heap:=h',toks:=t' }:=I.un (Un.write mu he k heo) (I.hok.write mu he k heo new)
theorem Inv.weak {σ':List (Option V)} (I:Inv X pins σ H s) (hl:σ'.length = σ.length) (w:∀ (i:Nat) v,σ'[i]? = some (some v) -> σ[i]? = some (some v)):Inv X pins σ' H s:=
 ⟨I.ok,I.os,I.bare,I.base,let ⟨m,hn,hl'⟩:=I.loc;⟨m,hn,fun i x v e1 e2 e3=>hl' i x v e1 (w i v e2) e3⟩,I.cell,I.free,I.freeC,I.pin,I.hok,hl.trans I.len⟩
theorem Inv.pins_of {pins':List (Addr × Obj)} (I:Inv X pins σ H s) (h:∀ p ∈ pins',s.heap.get? p.1 = some p.2 /\ H p.1 = none /\ p.1 ≠ X.env.locals /\ p.1 ∉ X.fs /\ ∀ v,p.2.data ≠ .cell v):Inv X pins' σ H s:=
 ⟨I.ok,I.os,I.bare,I.base,I.loc,I.cell,I.free,I.freeC,fun p hp=>(List.mem_append.mp hp).elim (fun z=>I.pin p (List.mem_append_left _ z)) (h p),I.hok,I.len⟩
theorem xG {N:List Str} (hN:N.Nodup) {i j:Nat} {x:Str} (a:N[i]? = some x) (b:N[j]? = some x):i = j:=by
 obtain ⟨h1,e1⟩:=List.getElem?_eq_some_iff.mp a
 obtain ⟨h2,e2⟩:=List.getElem?_eq_some_iff.mp b
 exact (List.getElem_inj hN).mp (e1.trans e2.symm)
theorem CU    {i:Nat} {x:Str}   {Q:Unit -> Shared -> Prop} (I:Inv X pins σ H s) (hN:X.N.Nodup) (hi:X.N[i]? = some x) (hx:Loc X.env.scope x) (r:RelV v u)
  (h:∀ s',Inv X pins (σ.set i (some v)) H s' -> (∃ a,Heap.SameBut a s.heap s'.heap /\ (a = X.env.locals \/ X.env.cells.lookup x = some a)) -> Q () s') (hf:X.fn x = true \/ X.env.scope.names.lookup x = some .local:=by first | exact .inl rfl | exact .inr rfl | assumption):wpAny M A (storeName X.env x u) Q E s:=by
 obtain ⟨m,hn,hl⟩:=id I.loc
 have hcls:(X.env.scope.kind == .class || (X.env.scope.kind == .module && X.env.locals != X.env.globals)) = false:=by rw [I.ok.kind];rfl
 have hiσ:i < σ.length:=by rw [I.len];exact (List.getElem?_eq_some_iff.mp hi).1
 have cne:=I.cne
 have tracked:∀ {a:Addr} {h':Heap},(∃ o,s.heap.get? a = some o /\ H a = none) -> Heap.SameBut a s.heap h' -> HOk X.prog X.w H h':=fun {a h'} ha hs b ob e=>by
  obtain ⟨_,_,hfree⟩:=ha
  refine (I.hok b ob e).stay (fun c w' hc q=>(hs.2 c ?_).trans q) (fun _ q=>q) fun _ _ q=>q
  rintro rfl
  rcases hc with rfl | hc
  ·rw [hfree] at e;cases e
  ·rw [hfree] at hc;cases hc
 rcases hx with hk | hk
 ·refine wpAny_storeName_local hk hn (fun h' hn' hs=>?_) hcls
  obtain ⟨oL,_,_,hoL,_⟩:=id hn
  refine h _ ⟨I.ok,I.os,I.bare,⟨fun b o e n hb hx=>?_,fun b o e n hb hx=>?_,I.base.free,fun b o e hx=>?_,I.base.tups,I.base.frzs,I.base.tbls⟩,⟨_,hn',fun j y v' e1 e2 e3=>?_⟩,fun y c e=>?_,I.free,I.freeC,fun p hp=>?_,tracked ⟨oL,hoL,I.free⟩ hs,by simpa using I.len⟩ ⟨_,hs,.inl rfl⟩
  ·exact (hs.2 b (Nat.ne_of_lt (Nat.lt_of_lt_of_le (Heap.lt_size e) I.ok.above))).trans (I.base.keep b o e n hb hx)
  ·obtain ⟨sl,e1⟩:=I.base.slot b o e n hb hx
   exact ⟨sl,(hs.2 b (Nat.ne_of_lt (Nat.lt_of_lt_of_le (Heap.lt_size e) I.ok.above))).trans e1⟩
  ·obtain ⟨o',e1⟩:=I.base.there b o e hx
   exact ⟨o',(hs.2 b (Nat.ne_of_lt (Nat.lt_of_lt_of_le (Heap.lt_size e) I.ok.above))).trans e1⟩
  ·by_cases hj:j = i
   ·subst hj
    rw [hi] at e1;cases e1
    rw [List.getElem?_set_self hiσ] at e2
    cases e2
    exact ⟨u,r,.inl ⟨hk,by simp⟩⟩
   ·rw [List.getElem?_set_ne (Ne.symm hj)] at e2
    obtain ⟨u',r',q⟩:=hl j y v' e1 e2 e3
    refine ⟨u',r',?_⟩
    rcases q with ⟨k,e⟩ | ⟨k,c,e,z⟩
    ·refine .inl ⟨k,?_⟩
     have:y ≠ x:=fun e=>hj (xG hN e1 (e ▸ hi))
     simp [this,e]
    ·exact .inr ⟨k,c,e,z.sameBut hs (cne y c e)⟩
  ·obtain ⟨w',z⟩:=I.cell y c e
   exact ⟨w',z.sameBut hs (cne y c e)⟩
  ·obtain ⟨e,n,ne,nf,d⟩:=I.pin p hp
   exact ⟨(hs.2 p.1 ne).trans e,n,ne,nf,d⟩
 ·have hfn:X.fn x = true:=by
   rcases hf with z | z
   ·exact z
   ·rw [z] at hk;cases hk
  obtain ⟨c,hc⟩:=I.ok.has x (.inl hk)
  obtain ⟨w',z⟩:=I.cell x c hc
  refine wpAny_storeName_cell I.ok.kind hk hc z (fun h' hc' hs=>?_)
  obtain ⟨oc,hoc,hocd⟩:=id z
  refine h { s with heap:=h' } ⟨I.ok,I.os,I.bare,⟨fun b o e n hb hx=>?_,fun b o e n hb hx=>?_,I.base.free,fun b o e hx=>?_,I.base.tups,I.base.frzs,I.base.tbls⟩,⟨m,hn.sameBut hs (Ne.symm (cne x c hc)),fun j y v' e1 e2 e3=>?_⟩,fun y c' e=>?_,I.free,I.freeC,fun p hp=>?_,tracked ⟨oc,hoc,I.freeC x c hc⟩ hs,by simpa using I.len⟩ ⟨c,hs,.inr hc⟩
  ·exact (hs.2 b (Nat.ne_of_lt (Nat.lt_of_lt_of_le (Heap.lt_size e) (I.ok.cab x c hfn hc)))).trans (I.base.keep b o e n hb hx)
  ·obtain ⟨sl,e1⟩:=I.base.slot b o e n hb hx
   exact ⟨sl,(hs.2 b (Nat.ne_of_lt (Nat.lt_of_lt_of_le (Heap.lt_size e) (I.ok.cab x c hfn hc)))).trans e1⟩
  ·obtain ⟨o',e1⟩:=I.base.there b o e hx
   exact ⟨o',(hs.2 b (Nat.ne_of_lt (Nat.lt_of_lt_of_le (Heap.lt_size e) (I.ok.cab x c hfn hc)))).trans e1⟩
  ·by_cases hj:j = i
   ·subst hj
    rw [hi] at e1;cases e1
    rw [List.getElem?_set_self hiσ] at e2
    cases e2
    exact ⟨u,r,.inr ⟨.inl hk,c,hc,hc'⟩⟩
   ·rw [List.getElem?_set_ne (Ne.symm hj)] at e2
    obtain ⟨u',r',q⟩:=hl j y v' e1 e2 e3
    refine ⟨u',r',?_⟩
    rcases q with q | ⟨k,c',e,z'⟩
    ·exact .inl q
    ·refine .inr ⟨k,c',e,z'.sameBut hs ?_⟩
     rintro rfl
     exact hj (xG hN e1 (I.ok.inj _ _ _ e hc ▸ hi))
  ·by_cases hcc:c' = c
   ·subst hcc;exact ⟨_,hc'⟩
   ·obtain ⟨w2,z2⟩:=I.cell y c' e
    exact ⟨w2,z2.sameBut hs hcc⟩
  ·obtain ⟨e,n,ne,nf,d⟩:=I.pin p hp
   refine ⟨(hs.2 p.1 ?_).trans e,n,ne,nf,d⟩
   intro q
   rw [q,hoc] at e
   have q':oc = p.2:=Option.some.inj e
   exact d w' (by rw [<- q'];exact hocd)
theorem rP {M:Model} {A:Around} {E:Value -> Shared -> Prop} {i:Nat} {x:Str} {v:V} {u:Value} {Q:Unit -> Shared -> Prop} (I:Inv X pins σ H s) (hN:X.N.Nodup) (hi:X.N[i]? = some x) (hx:Loc X.env.scope x) (r:RelV v u)
  (h:∀ s',Inv X pins (σ.set i (some v)) H s' -> Q () s') (hf:X.fn x = true \/ X.env.scope.names.lookup x = some .local:=by first | exact .inl rfl | exact .inr rfl | assumption):wpAny M A (storeName X.env x u) Q E s:=
 CU I hN hi hx r (fun s' I' _=>h s' I') hf
theorem Inv.call' {s':Shared}  (I:Inv X pins σ H s) (ho:s'.os = s.os) (u:Un (frs X.stack) ch H H' s.heap s'.heap) (hok:HOk X.prog X.w H' s'.heap) (hg:AllBare s'.gens)
  (hch:∀ b ∈ ch,(b ∈ X.ex \/ X.s₀.heap.objs.size <= b) /\ b ≠ X.env.locals /\ (∀ x c,X.env.cells.lookup x = some c -> c ≠ b) /\ ∀ p ∈ X.pn ++ pins,p.1 ≠ b):Inv X pins σ H' s':=by
 obtain ⟨h',g',d',t',o'⟩:=s'
 have e:o' = s.os:=ho
 subst e
 exact I.call (g':=g') (t':=t') (d':=d') u hok hg hch
end
noncomputable abbrev XK:=Value -> Option Addr -> Hp -> Prop
noncomputable abbrev St:=List (Option V)
noncomputable abbrev VK:=V -> Hp -> Prop
noncomputable abbrev TE:=St -> Hp -> VK -> Prop
noncomputable abbrev TT:=St -> Hp -> (Bool -> Hp -> Prop) -> Prop
noncomputable abbrev TA:=St -> Hp -> (List V -> Hp -> Prop) -> Prop
structure Ends where
 nx:St -> Hp -> Prop
 rt:VK
 bk:St -> Hp -> Prop:=fun _ _=>False
 ct:St -> Hp -> Prop:=fun _ _=>False
noncomputable abbrev TS:=Ends -> St -> Hp -> Prop
def EP (X:Cx) (pins:List (Addr × Obj)) (σ:St) (Q:VK) (u:Value) (s':Shared):Prop:=∃ v H',Inv X pins σ H' s' /\ RelV v u /\ Q v H'
def TP (X:Cx) (pins:List (Addr × Obj)) (σ:St) (Q:Bool -> Hp -> Prop) (b:Bool) (s':Shared):Prop:=∃ H',Inv X pins σ H' s' /\ Q b H'
def AP (X:Cx) (pins:List (Addr × Obj)) (σ:St) (Q:List V -> Hp -> Prop) (us:List Value) (s':Shared):Prop:=∃ vs H',Inv X pins σ H' s' /\ Vals vs us /\ Q vs H'
def SP (X:Cx) (pins:List (Addr × Obj)) (D:Ends) (f:Flow) (s':Shared):Prop:=
 match f with
 | .next=>∃ σ' H',Inv X pins σ' H' s' /\ D.nx σ' H'
 | .brk=>∃ σ' H',Inv X pins σ' H' s' /\ D.bk σ' H'
 | .cont=>∃ σ' H',Inv X pins σ' H' s' /\ D.ct σ' H'
 | .ret u=>∃ v σ' H',Inv X pins σ' H' s' /\ RelV v u /\ D.rt v H'
def PE (X:Cx) (e:Expr) (t:TE):Prop:=
 ∀ (pins:List (Addr × Obj)) (s:Shared) (σ:St) (H:Hp) (Q:VK),Inv X pins σ H s -> t σ H Q -> wpAny (model X.prog X.w) X.A (eval e X.env) (EP X pins σ Q) X.xe s
def PT (X:Cx) (e:Expr) (t:TT):Prop:=
 ∀ (pins:List (Addr × Obj)) (s:Shared) (σ:St) (H:Hp) (Q:Bool -> Hp -> Prop),Inv X pins σ H s -> t σ H Q -> wpAny (model X.prog X.w) X.A (isTrue e X.env (eval e X.env)) (TP X pins σ Q) X.xe s
def PW (X:Cx) (e:Expr) (t:TT):Prop:=
 ∀ (whole:Sem Value) (pins:List (Addr × Obj)) (s:Shared) (σ:St) (H:Hp) (Q:Bool -> Hp -> Prop),Inv X pins σ H s -> t σ H Q -> wpAny (model X.prog X.w) X.A (isTrue e X.env whole) (TP X pins σ Q) X.xe s
theorem PW.pt {X:Cx} {e:Expr} {t:TT} (h:PW X e t):PT X e t:=h _
def PA (X:Cx) (es:List Expr) (t:TA):Prop:=
 ∀ (pos:Pos) (pins:List (Addr × Obj)) (s:Shared) (σ:St) (H:Hp) (Q:List V -> Hp -> Prop),Inv X pins σ H s -> t σ H Q -> wpAny (model X.prog X.w) X.A (spliced (backTo pos (starEach es X.env))) (AP X pins σ Q) X.xe s
def PS (X:Cx) (st:Stmt) (t:TS):Prop:=
 ∀ (pins:List (Addr × Obj)) (s:Shared) (σ:St) (H:Hp) (D:Ends),Inv X pins σ H s -> t D σ H -> wpAny (model X.prog X.w) X.A (exec st X.env) (SP X pins D) X.xe s
def PSs (X:Cx) (st:List Stmt) (t:TS):Prop:=
 ∀ (pins:List (Addr × Obj)) (s:Shared) (σ:St) (H:Hp) (D:Ends),Inv X pins σ H s -> t D σ H -> wpAny (model X.prog X.w) X.A (execs st X.env) (SP X pins D) X.xe s
theorem thn {α:Type} {t:Sem α} {Q Q':α -> Shared -> Prop} {M:Model} {A:Around} {E:Value -> Shared -> Prop} {s:Shared} (h:wpAny M A t Q E s) (hQ:∀ a s,Q a s -> Q' a s):wpAny M A t Q' E s:=wpAny_mono h hQ fun _ _ x=>x
section
variable {X:Cx}
noncomputable def lV (i:Nat):TE:=fun σ H Q=>∃ v,σ[i]? = some (some v) /\ Q v H
noncomputable def tC (v:V):TE:=fun _ H Q=>Q v H
theorem JU {i:Nat} {x:Str} {pos:Pos} (hN:X.N[i]? = some x) (hv:Vis X.env.scope x) (hd:(x == ("__debug__" : Str)) = false:=by decide) (hcd:(x == ("__classdict__" : Str)) = false:=by decide):PE X (.Name x pos) (lV i):=by
 intro pins s σ H Q I h
 obtain ⟨v,e,h⟩:=h
 obtain ⟨m,hn,hl⟩:=I.loc
 obtain ⟨u,r,l⟩:=hl i x v hN e hv
 have fin:EP X pins σ Q u s:=⟨v,H,I,r,h⟩
 rcases l with ⟨hk,hm⟩ | ⟨hk,c,hc,hcell⟩
 ·exact wpAny_Name (wpAny_loadName_local I.ok.kind hk hn hm fin) hd
 ·rcases hk with hk | hk
  ·exact wpAny_Name (wpAny_loadName_cell I.ok.kind hk hc hcell fin) hd
  ·exact wpAny_Name (wpAny_loadName_free I.ok.kind hk hc hcell fin hcd) hd
theorem ER {i j pos}:PE X (.Constant (.int i) j pos) (tC (.int i)):=fun _ _ _ H _ I h=>wpAny_Constant_int ⟨.int i,H,I.tok _,⟨_,rfl⟩,h⟩
theorem LL {b j pos}:PE X (.Constant (.bool b) j pos) (tC (.bl b)):=fun _ _ _ H _ I h=>Constant_bool ⟨.bl b,H,I,rfl,h⟩
theorem JT {j pos}:PE X (.Constant .none j pos) (tC .non):=fun _ _ _ H _ I h=>Constant_none ⟨.non,H,I,rfl,h⟩
def Gl (X:Cx) (x:Str):Prop:=X.env.kindOf x = some .globalImplicit
theorem uV  {pins:List (Addr × Obj)}     {u:Value} {pos:Pos} {Q:Value -> Shared -> Prop} (I:Inv X pins σ H s) (hg:Gl X x) (hm:X.mg x = some u) (h:Q u s)
  (hd:(x == ("__debug__" : Str)) = false:=by decide):wpAny (model X.prog X.w) X.A (eval (.Name x pos) X.env) Q E s:=
 Calls.Name_function_global I.ok.kind hg (Calls.loadGlobal_global (by rw [I.ok.glob];exact I.mod.glob.keeps I.bk) hm h) hd
theorem qF {E:Value -> Shared -> Prop} {pins:List (Addr × Obj)} {s:Shared} {σ:St} {H:Hp} {x:Str} {u:Value} {pos:Pos} {Q:Value -> Shared -> Prop} (I:Inv X pins σ H s) (hg:Gl X x) (hm:X.mg x = none) (hv:bootBuiltins x = some u) (h:Q u s)
  (hn:x ≠ "__name__" := by decide) (hd:(x == ("__debug__" : Str)) = false:=by decide):wpAny (model X.prog X.w) X.A (eval (.Name x pos) X.env) Q E s:=by
 obtain ⟨mb,h1,h2⟩:=I.mod.blt
 exact Calls.Name_function_global I.ok.kind hg (Calls.loadGlobal_builtin (by rw [I.ok.glob];exact I.mod.glob.keeps I.bk) hm (by rw [I.ok.blt];exact h1.keeps I.bk) ((h2 x hn).trans hv) h) hd
theorem vi   {u:Value} {pos:Pos} (hg:Gl X x) (hm:X.mg x = some u) (r:RelV v u) (hd:(x == ("__debug__" : Str)) = false:=by decide):PE X (.Name x pos) (tC v):=
 fun _ _ _ H _ I h=>uV I hg hm ⟨v,H,I,r,h⟩ hd
variable {a b:Expr} {ta tb:TE} {pos:Pos}
def PC (X:Cx) (op:CmpOp) (a b:Expr) (t:TE):Prop:=
 ∀ (pins:List (Addr × Obj)) (s:Shared) (σ:St) (H:Hp) (Q:VK),Inv X pins σ H s -> t σ H Q ->
  wpAny (model X.prog X.w) X.A (eval a X.env) (fun v s₁=>wpAny (model X.prog X.w) X.A (eval b X.env) (fun u s₂=>wpAny (model X.prog X.w) X.A (compareOp op v u) (EP X pins σ Q) X.xe s₂) X.xe s₁) X.xe s
noncomputable def tB (t:TE):TT:=fun σ H Q=>t σ H fun x H1=>∃ c,x = .bl c /\ Q c H1
theorem J5 {op:CmpOp} {t:TE} (h:PC X op a b t) (h1:behindInMarks op b = false:=by first | exact nobehind _ (by decide) (by decide) | rfl):PT X (.Compare a [op] [b] pos) (tB t):=by
 intro pins s σ H Q I hw
 refine wpAny_isTrue_Compare1 (thn (h pins s σ H _ I hw) fun v s1 h1=>thn h1 fun u s2 h2=>thn h2 fun c s3 hpt9=>?_) h1
 obtain ⟨x,H1,I1,r1,q1⟩:=hpt9
 obtain ⟨d,rfl,q⟩:=q1
 cases r1
 exact wpAny_truthy_bool ⟨H1,I1,q⟩
variable {tA tB':TT} {rest:List Expr}
noncomputable def KH (t u:TT):TT:=fun σ H Q=>t σ H fun c H1=>if c = true then u σ H1 Q else Q false H1
noncomputable def tOr (t u:TT):TT:=fun σ H Q=>t σ H fun c H1=>if c = true then Q true H1 else u σ H1 Q
noncomputable def KL (t:TT):TT:=fun σ H Q=>t σ H fun c H1=>Q (!c) H1
theorem Hn (ha:PT X a tA):PW X (.BoolOp .And [a] pos) tA:=by
 intro wh pins s σ H Q I h
 refine isTrue_and (thn (ha pins s σ H Q I h) fun c s1 e=>?_)
 cases c with
 | true=>exact isTrue_and_nil e
 | false=>exact e
theorem J7 (ha:PT X a tA):PW X (.BoolOp .Or [a] pos) tA:=by
 intro wh pins s σ H Q I h
 refine isTrue_or (thn (ha pins s σ H Q I h) fun c s1 e=>?_)
 cases c with
 | false=>exact isTrue_or_nil e
 | true=>exact e
theorem Fa (ha:PT X a tA) (hb:PW X (.BoolOp .And (b :: rest) pos) tB'):PW X (.BoolOp .And (a :: b :: rest) pos) (KH tA tB'):=by
 intro wh pins s σ H Q I h
 refine isTrue_and (thn (ha pins s σ H _ I h) fun c s1 hpt9=>?_)
 obtain ⟨H1,I1,q1⟩:=hpt9
 cases c with
 | true=>exact hb wh pins s1 σ H1 Q I1 q1
 | false=>exact ⟨H1,I1,q1⟩
theorem Ir (ha:PT X a tA) (hb:PW X (.BoolOp .Or (b :: rest) pos) tB'):PW X (.BoolOp .Or (a :: b :: rest) pos) (tOr tA tB'):=by
 intro wh pins s σ H Q I h
 refine isTrue_or (thn (ha pins s σ H _ I h) fun c s1 hpt9=>?_)
 obtain ⟨H1,I1,q1⟩:=hpt9
 cases c with
 | true=>exact ⟨H1,I1,q1⟩
 | false=>exact hb wh pins s1 σ H1 Q I1 q1
theorem E8 (ha:PT X a tA):PT X (.UnaryOp .Not a pos) (KL tA):=by
 intro pins s σ H Q I h
 exact isTrue_not (ha pins s σ H (fun c H1=>Q (!c) H1) I h)
end
def SqL (K:W.Frag) (H:Hp) (a:Addr) (xs:List V):Prop:=
 Rd H a (.lst xs) \/
  ∃ (o:Obj) (its:Array Value) (n:Nat),K.lookup a = some o /\ o.cls = .type "list" /\ o.dict = none /\ o.data = .seq its n /\ its.size <= sizeLine /\ Vals xs its.toList
def SqT (K:W.Frag) (H:Hp) (a:Addr) (xs:List V):Prop:=
 Rd H a (.tup xs) \/
  ∃ (o:Obj) (its:Array Value) (n:Nat),K.lookup a = some o /\ o.cls = .type "tuple" /\ o.data = .seq its n /\ its.size <= sizeLine /\ Vals xs its.toList
noncomputable def M8:Value -> Option V
 | .none=>some .non
 | .bool b=>some (.bl b)
 | .int i _=>some (.int i)
 | .str x _=>some (.str x)
 | .bytes b _=>some (.byt b)
 | .float b _=>some (.flt b)
 | .ref a=>some (.ref a)
 | .type n=>some (.ty n)
 | _=>none
theorem RelV.abs   (r:RelV x u):M8 u = some x:=by
 cases x with
 | non=>cases r;rfl
 | bl _=>cases r;rfl
 | int _=>obtain ⟨t,rfl⟩:=r;rfl
 | str _=>obtain ⟨t,rfl⟩:=r;rfl
 | byt _=>obtain ⟨t,rfl⟩:=r;rfl
 | flt _=>obtain ⟨t,rfl⟩:=r;rfl
 | ref _=>cases r;rfl
 | ty _=>cases r;rfl
theorem RelV.inj   (r:RelV x u) (q:RelV y u):x = y:=Option.some.inj (r.abs.symm.trans q.abs)
theorem Vals.inj {xs ys:List V} {us:List Value} (h:Vals xs us) (k:Vals ys us):xs = ys:=by
 induction h generalizing ys with
 | nil=>cases k;rfl
 | cons r t ih=>
  cases k with
  | cons r' t'=>rw [r.inj r',ih t']
section
variable {X:Cx} {pins:List (Addr × Obj)} {σ:St} {H:Hp} {s:Shared} {a:Addr} {xs ys:List V}
theorem SqL.of {K:W.Frag} (h:H a = some (.lst xs)):SqL K H a xs:=.inl (.inl h)
theorem SqT.of {K:W.Frag} (h:H a = some (.tup xs)):SqT K H a xs:=.inl (.inl h)
theorem Inv.list (I:Inv X pins σ H s) (h:SqL X.K H a xs):∃ its:List Value,Vals xs its /\ PlainL s.heap a its.toArray /\ xs.length <= sizeLine:=by
 rcases h with h | ⟨o,its,n,hk,hc,hd,hs,hz,r⟩
 ·obtain ⟨z,its,n,r,e⟩:=h.ok I.hok
  exact ⟨its,r,⟨_,n,e,rfl,rfl,rfl⟩,z⟩
 ·refine ⟨its.toList,r,⟨o,n,I.kIn a o hk,hc,hd,by simpa using hs⟩,?_⟩
  have e:=r.length
  simp only [Array.length_toList] at e
  lia
theorem Inv.tuple (I:Inv X pins σ H s) (h:SqT X.K H a xs):∃ its:List Value,Vals xs its /\ IsTup s.heap a its.toArray /\ xs.length <= sizeLine:=by
 rcases h with h | ⟨o,its,n,hk,hc,hs,hz,r⟩
 ·obtain ⟨z,its,r,p⟩:=h.ok I.hok
  exact ⟨its,r,p,z⟩
 ·refine ⟨its.toList,r,⟨o,I.kIn a o hk,hc,n,by simpa using hs⟩,?_⟩
  have e:=r.length
  simp only [Array.length_toList] at e
  lia
theorem Inv.list_inj (I:Inv X pins σ H s) (h:SqL X.K H a xs) (h':SqL X.K H a ys):xs = ys:=by
 obtain ⟨its,r,⟨o,n,e,_,_,d⟩,_⟩:=I.list h
 obtain ⟨its',r',⟨o',n',e',_,_,d'⟩,_⟩:=I.list h'
 rw [e] at e';cases e'
 rw [d] at d'
 injection d' with d1 _
 have:its = its':=by simpa using congrArg Array.toList d1
 subst this
 exact r.inj r'
theorem Inv.tuple_inj (I:Inv X pins σ H s) (h:SqT X.K H a xs) (h':SqT X.K H a ys):xs = ys:=by
 obtain ⟨its,r,⟨o,e,_,n,d⟩,_⟩:=I.tuple h
 obtain ⟨its',r',⟨o',e',_,n',d'⟩,_⟩:=I.tuple h'
 rw [e] at e';cases e'
 rw [d] at d'
 injection d' with d1 _
 have:its = its':=by simpa using congrArg Array.toList d1
 subst this
 exact r.inj r'
end
noncomputable abbrev Cx.wish (X:Cx) (E:Value -> Shared -> Prop):Cx:={ X with xe:=E }
noncomputable abbrev Cx.nox (X:Cx):Cx:=X.wish fun _ _=>False
theorem Cx.Ok.wish {X:Cx} (ok:X.Ok) (E:Value -> Shared -> Prop):(X.wish E).Ok:=
 ⟨ok.mod,ok.kind,ok.glob,ok.blt,ok.above,ok.inj,ok.has,ok.cab,ok.hd,ok.frames,ok.stk,ok.exf,ok.bs,ok.bsz,ok.noex,ok.exfs,ok.funs,ok.frf⟩
theorem Cx.Ok.unwish {X:Cx} {E:Value -> Shared -> Prop} (ok:(X.wish E).Ok):X.Ok:=
 ⟨ok.mod,ok.kind,ok.glob,ok.blt,ok.above,ok.inj,ok.has,ok.cab,ok.hd,ok.frames,ok.stk,ok.exf,ok.bs,ok.bsz,ok.noex,ok.exfs,ok.funs,ok.frf⟩
section
variable {X:Cx} {pins:List (Addr × Obj)} {σ:St} {H:Hp} {s:Shared} {E:Value -> Shared -> Prop}
theorem Inv.wish (I:Inv X pins σ H s) (E:Value -> Shared -> Prop):Inv (X.wish E) pins σ H s:=⟨I.ok.wish E,I.os,I.bare,I.base,I.loc,I.cell,I.free,I.freeC,I.pin,I.hok,I.len⟩
theorem Inv.unwish (I:Inv (X.wish E) pins σ H s):Inv X pins σ H s:=⟨I.ok.unwish,I.os,I.bare,I.base,I.loc,I.cell,I.free,I.freeC,I.pin,I.hok,I.len⟩
theorem SP.unwish   {s':Shared} (h:SP (X.wish E) pins D f s'):SP X pins D f s':=by
 cases f with
 | next=>obtain ⟨σ',H',I,q⟩:=h;exact ⟨σ',H',I.unwish,q⟩
 | brk=>obtain ⟨σ',H',I,q⟩:=h;exact ⟨σ',H',I.unwish,q⟩
 | cont=>obtain ⟨σ',H',I,q⟩:=h;exact ⟨σ',H',I.unwish,q⟩
 | ret u=>obtain ⟨v,σ',H',I,r,q⟩:=h;exact ⟨v,σ',H',I.unwish,r,q⟩
theorem PSs.nox {st:List Stmt}  (h:PSs X.nox st t):PSs X st t:=fun pins s σ H D I hw=>
 wpAny_mono (h pins s σ H D (I.wish _) hw) (fun _ _ q=>q.unwish) fun _ _ z=>False.elim z
end
section
variable {X:Cx} {st:Stmt} {rest:List Stmt} {t u:TS} {e:Expr} {te:TE} {pos:Pos}
noncomputable def A5:TS:=fun D σ H=>D.nx σ H
noncomputable def HJ (t u:TS):TS:=fun D σ H=>t { D with nx:=u D } σ H
theorem vp:PSs X [] A5:=fun _ _ σ H _ I h=>wpAny_execs_nil ⟨σ,H,I,h⟩
theorem aL (h1:PS X st t) (h2:PSs X rest u):PSs X (st :: rest) (HJ t u):=by
 intro pins s σ H D I h
 refine wpAny_execs_cons (thn (h1 pins s σ H { D with nx:=u D } I h) fun f s1 q=>?_)
 cases f with
 | next=>
  obtain ⟨σ',H',I',q⟩:=q
  exact h2 pins s1 σ' H' D I' q
 | ret v | brk | cont=>exact q
theorem bn (h1:PS X st t):PSs X [st] t:=by
 intro pins s σ H D I h
 refine wpAny_execs_cons (thn (h1 pins s σ H D I h) fun f s1 q=>?_)
 cases f with
 | next=>exact wpAny_execs_nil q
 | ret v | brk | cont=>exact q
theorem Inv.quiet {pins:List (Addr × Obj)} {σ:St} {H:Hp} {s:Shared} (I:Inv X pins σ H s):interactive X.env = false:=by simp [interactive,I.ok.kind]
noncomputable def rT (te:TE):TS:=fun D σ H=>te σ H fun _ H1=>D.nx σ H1
theorem j5 (he:PE X e te) (hs:swapsWith e none pos.line X.env = pure false:=by rfl):PS X (.Expr e pos) (rT te):=by
 intro pins s σ H D I h
 exact wpAny_Expr_any (thn (he pins s σ H _ I h) fun v s1 ⟨x,H1,I1,r1,q1⟩=>⟨σ,H1,I1,q1⟩) I.quiet hs
noncomputable def FS (te:TE):TS:=fun D σ H=>te σ H D.rt
theorem fU (he:PE X e te):PS X (.Return (some e) pos) (FS te):=by
 intro pins s σ H D I h
 exact wpAny_Return_some (thn (he pins s σ H _ I h) fun v s1 ⟨x,H1,I1,r1,q1⟩=>⟨x,σ,H1,I1,r1,q1⟩)
noncomputable def HG (c:TT) (t u:TS):TS:=fun D σ H=>c σ H fun b H1=>if b = true then t D σ H1 else u D σ H1
theorem E5 {c:Expr} {a b:List Stmt} {tc:TT} (hc:PT X c tc) (ha:PSs X a t) (hb:PSs X b u):PS X (.If c a b pos) (HG tc t u):=by
 intro pins s σ H D I h
 refine wpAny_If (thn (hc pins s σ H _ I h) fun d s1 hpt9=>?_)
 obtain ⟨H1,I1,q1⟩:=hpt9
 cases d with
 | true=>exact ha pins s1 σ H1 D I1 q1
 | false=>exact hb pins s1 σ H1 D I1 q1
noncomputable def FP:TS:=fun _ _ _=>False
theorem CB:PSs X sts FP:=fun _ _ _ _ _ _ h=>h.elim
end
noncomputable abbrev TG:=V -> St -> Hp -> (St -> Hp -> Prop) -> Prop
noncomputable abbrev TGs:=List V -> St -> Hp -> (St -> Hp -> Prop) -> Prop
def PG (X:Cx) (target:Expr) (t:TG):Prop:=
 ∀ (pins:List (Addr × Obj)) (s:Shared) (σ:St) (H:Hp) (v:V) (u:Value) (Q:St -> Hp -> Prop),Inv X pins σ H s -> RelV v u -> t v σ H Q ->
  wpAny (model X.prog X.w) X.A (assign target X.env u) (fun _ s'=>∃ σ' H',Inv X pins σ' H' s' /\ Q σ' H') X.xe s
def PGs (X:Cx) (ts:List Expr) (t:TGs):Prop:=
 ∀ (pins:List (Addr × Obj)) (s:Shared) (σ:St) (H:Hp) (vs:List V) (us:List Value) (Q:St -> Hp -> Prop),Inv X pins σ H s -> Vals vs us -> t vs σ H Q ->
  wpAny (model X.prog X.w) X.A (assignInOrder ((assignEach ts X.env).map (·.2)) us) (fun _ s'=>∃ σ' H',Inv X pins σ' H' s' /\ Q σ' H') X.xe s
noncomputable abbrev IQ:=V -> V -> V -> Hp -> (Hp -> Prop) -> Prop
def IP (X:Cx) (t:IQ):Prop:=
 ∀ (pins:List (Addr × Obj)) (s:Shared) (σ:St) (H:Hp) (o i v:V) (ov iv u:Value) (Q:Hp -> Prop),Inv X pins σ H s -> RelV o ov -> RelV i iv -> RelV v u -> t o i v H Q ->
  wpAny (model X.prog X.w) X.A (setItem ov iv u) (fun _ s'=>∃ H',Inv X pins σ H' s' /\ Q H') X.xe s
noncomputable abbrev TIp:=V -> V -> Hp -> VK -> Prop
def PIp (X:Cx) (op:Operator) (t:TIp):Prop:=
 ∀ (pins:List (Addr × Obj)) (s:Shared) (σ:St) (H:Hp) (x y:V) (v u:Value) (Q:VK),Inv X pins σ H s -> RelV x v -> RelV y u -> t x y H Q ->
  wpAny (model X.prog X.w) X.A (inplaceOp op v u) (EP X pins σ Q) X.xe s
section
variable {X:Cx} {pos:Pos}
noncomputable def gv (i:Nat):TG:=fun v σ H Q=>Q (σ.set i (some v)) H
theorem pz {i:Nat} {x:Str} (hN:X.N.Nodup) (hi:X.N[i]? = some x) (hx:Loc X.env.scope x) (hf:X.fn x = true \/ X.env.scope.names.lookup x = some .local:=by first | exact .inl rfl | exact .inr rfl | assumption):PG X (.Name x pos) (gv i):=by
 intro pins s σ H v u Q I r h
 exact wpAny_assign_Name (rP I hN hi hx r (fun s' I'=>⟨_,H,I',h⟩) hf)
noncomputable def GB:TGs:=fun vs σ H Q=>vs = [] /\ Q σ H
noncomputable def AA (t:TG) (u:TGs):TGs:=fun vs σ H Q=>∃ v r,vs = v :: r /\ t v σ H fun σ' H'=>u r σ' H' Q
theorem He:PGs X [] GB:=by
 intro pins s σ H vs us Q I r h
 obtain ⟨e,h⟩:=h
 subst e
 cases r
 exact assignInOrder_nil ⟨σ,H,I,h⟩
theorem EY {e:Expr} {es:List Expr} {t:TG} {u:TGs} (h1:PG X e t) (h2:PGs X es u)
  (hs:(assignEach (e :: es) X.env).map (·.2) = assign e X.env :: (assignEach es X.env).map (·.2):=by rfl):PGs X (e :: es) (AA t u):=by
 intro pins s σ H vs us Q I r h
 obtain ⟨v,vr,e1,h⟩:=h
 subst e1
 cases r with
 | cons r rr=>
  rw [hs]
  refine assignInOrder_cons (thn (h1 pins s σ H _ _ _ I r h) fun _ s1 hpt9=>?_)
  obtain ⟨σ1,H1,I1,q1⟩:=hpt9
  exact h2 pins s1 σ1 H1 _ _ Q I1 rr q1
noncomputable def GC (K:W.Frag) (n:Nat) (t:TGs):TG:=fun v σ H Q=>∃ a xs,v = .ref a /\ SqT K H a xs /\ xs.length = n /\ t xs σ H Q
theorem JW {es:List Expr} {k:Nat}  {n:Nat} (hc:X.calm = true) (h:PGs X es t)
  (hn:(assignEach es X.env).length = n:=by rfl) (hst:(assignEach es X.env).findIdx? (·.1) = none:=by rfl):PG X (.Tuple es k pos) (GC X.K n t):=by
 intro pins s σ H v u Q I r hw
 obtain ⟨a,xs,e1,hq,hl,hw⟩:=hw
 subst e1
 cases r
 obtain ⟨its,rv,ht,hz⟩:=I.tuple hq
 refine assign_Tuple_tuple (I.ok.hd hc) ht (by simp [hn,<- hl,rv.length]) hst fun h' hx=>?_
 have I1:Inv X pins σ H { s with heap:=h' }:=I.kept (t':=s.toks) fun b o e=>hx b o (Nat.ne_of_lt (Heap.lt_size e)) e
 exact h pins _ σ H xs _ Q I1 (by simpa using rv) hw
noncomputable def Jq (to ti:TE) (t:IQ):TG:=fun v σ H Q=>to σ H fun o H1=>ti σ H1 fun i H2=>t o i v H2 fun H3=>Q σ H3
theorem JV {o i:Expr} {to ti:TE} {t:IQ} (ho:PE X o to) (hi:PE X i ti) (hs:IP X t)
  (ha:∀ v,assign (.Subscript o i pos) X.env v = (do
   let ov ← holding [v] (eval o X.env)
   let iv ← holding [v,ov] (eval i X.env)
   standAt pos
   holding [v,ov,iv] (setItem ov iv v)
   release [v,ov,iv] []):=by intro _;rfl):PG X (.Subscript o i pos) (Jq to ti t):=by
 intro pins s σ H v u Q I r h
 rw [ha]
 refine wpAny_bind (wpAny_holding (thn (ho pins s σ H _ I h) fun ov s1 hpt9=>?_))
 obtain ⟨x,H1,I1,r1,q1⟩:=hpt9
 refine wpAny_bind (wpAny_holding (thn (hi pins s1 σ H1 _ I1 q1) fun iv s2 hpt9=>?_))
 obtain ⟨y,H2,I2,r2,q2⟩:=hpt9
 refine wpAny_bind (wpAny_standAt (wpAny_bind (wpAny_holding (thn (hs pins s2 σ H2 x y v ov iv u _ I2 r1 r2 r q2) fun _ s3 hpt9=>?_))))
 obtain ⟨H3,I3,q3⟩:=hpt9
 exact wpAny_release ⟨σ,H3,I3,q3⟩
noncomputable def vH (te:TE) (g:TG):TS:=fun D σ H=>te σ H fun x H1=>g x σ H1 D.nx
theorem JZ {tg e:Expr} {te:TE} {g:TG} (he:PE X e te) (hg:PG X tg g) (hs:swapsWithSole [tg] e pos.line X.env = pure false:=by rfl) (hw:swappedStores [tg] e X.env = pure none:=by rfl)
  (h1:(assignEach [tg] X.env).map (·.2) = [assign tg X.env]:=by rfl):PS X (.Assign [tg] e pos) (vH te g):=by
 intro pins s σ H D I h
 refine wpAny_Assign_stores (thn (he pins s σ H _ I h) fun v s1 hpt9=>?_) hs hw
 obtain ⟨x,H1,I1,r1,q1⟩:=hpt9
 rw [h1]
 exact thn (hg pins s1 σ H1 x v _ I1 r1 q1) fun _ s2 q=>q
theorem E6 {i:Nat} {x:Str} {e:Expr} {te:TE} {pos':Pos} (hN:X.N.Nodup) (hi:X.N[i]? = some x) (hx:Loc X.env.scope x) (he:PE X e te) (hs:swapsWith e (some (.Name x pos')) pos.line X.env = pure false:=by rfl) (hf:X.fn x = true \/ X.env.scope.names.lookup x = some .local:=by first | exact .inl rfl | exact .inr rfl | assumption) :
  PS X (.Assign [.Name x pos'] e pos) (vH te (gv i)):=by
 intro pins s σ H D I h
 refine wpAny_Assign_Name (thn (he pins s σ H _ I h) fun v s1 hpt9=>?_) hs
 obtain ⟨y,H1,I1,r1,q1⟩:=hpt9
 exact rP I1 hN hi hx r1 (fun s2 I2=>⟨_,H1,I2,q1⟩) hf
noncomputable def KI (i:Nat) (te:TE) (ti:TIp):TS:=fun D σ H=>∃ x,σ[i]? = some (some x) /\ te σ H fun y H1=>ti x y H1 fun z H2=>D.nx (σ.set i (some z)) H2
theorem J2 {i:Nat} {x:Str} {e:Expr} {te:TE} {op:Operator} {ti:TIp} {pos':Pos} (hN:X.N.Nodup) (hi:X.N[i]? = some x) (hx:Loc X.env.scope x) (he:PE X e te) (ho:PIp X op ti) (hf:X.fn x = true \/ X.env.scope.names.lookup x = some .local:=by first | exact .inl rfl | exact .inr rfl | assumption) :
  PS X (.AugAssign (.Name x pos') op e pos) (KI i te ti):=by
 intro pins s σ H D I h
 obtain ⟨v,e1,h⟩:=h
 obtain ⟨m,hn,hl⟩:=I.loc
 have vis:Vis X.env.scope x:=by rcases hx with k | k;exact .inl k;exact .inr (.inl k)
 obtain ⟨u,r,l⟩:=hl i x v hi e1 vis
 refine wpAny_AugAssign_Name ?_
 have go:wpAny (model X.prog X.w) X.A (eval e X.env) (fun w s₂=>wpAny (model X.prog X.w) X.A (inplaceOp op u w) (fun r s₃=>wpAny (model X.prog X.w) X.A (storeName X.env x r) (fun _=>SP X pins D .next) X.xe s₃) X.xe s₂) X.xe s:=by
  refine thn (he pins s σ H _ I h) fun w s1 hpt9=>?_
  obtain ⟨y,H1,I1,r1,q1⟩:=hpt9
  refine thn (ho pins s1 σ H1 v y u w _ I1 r r1 q1) fun z s2 hpt9=>?_
  obtain ⟨zv,H2,I2,r2,q2⟩:=hpt9
  exact rP I2 hN hi hx r2 (fun s3 I3=>⟨_,H2,I3,q2⟩) hf
 rcases l with ⟨hk,hm⟩ | ⟨hk,c,hc,hcell⟩
 ·exact wpAny_loadName_local I.ok.kind hk hn hm go
 ·rcases hk with hk | hk
  ·exact wpAny_loadName_cell I.ok.kind hk hc hcell go
  ·rcases hx with k | k
   ·have:X.env.scope.names.lookup x = some .free:=hk
    rw [k] at this;cases this
   ·have:X.env.scope.names.lookup x = some .free:=hk
    rw [k] at this;cases this
noncomputable def ipI (f:Int -> Int -> Int):TIp:=fun x y H Q=>∃ i j,x = .int i /\ y = .int j /\ Q (.int (f i j)) H
theorem Jx:PIp X .Add (ipI fun i j=>i + j):=by
 intro pins s σ H x y v u Q I r1 r2 h
 obtain ⟨i,j,e1,e2,q⟩:=h
 subst e1;subst e2
 obtain ⟨t,rfl⟩:=r1
 obtain ⟨t',rfl⟩:=r2
 exact iadd_int ⟨.int _,H,I.tok _,⟨_,rfl⟩,q⟩
end
section
variable {X:Cx} {pos:Pos}
noncomputable def Ac (c:TT) (tb:TS):TS:=fun D σ H=>∃ W:Nat -> St -> Hp -> Prop,(∃ m,W m σ H) /\ ∀ m σ H,W m σ H ->
 c σ H fun b H1=>if b = true then ∃ N:St -> Hp -> Prop,(∀ σ' H',N σ' H' -> ∃ m',m' < m /\ W m' σ' H') /\ tb { D with nx:=N,ct:=N,bk:=D.nx } σ H1 else D.nx σ H1
theorem E7 {c:Expr} {body:List Stmt} {tc:TT} {tb:TS} (hp:PassesOwn (model X.prog X.w) X.A X.env X.xe) (hc:PT X c tc) (hb:PSs X body tb):PS X (.While c body [] pos) (Ac tc tb):=by
 intro pins s σ H D I h
 obtain ⟨W,⟨m0,w0⟩,turn⟩:=h
 refine wpAny_While (codeAny_whileLoop (fun n s'=>∃ σ' H',Inv X pins σ' H' s' /\ W n σ' H') ?_ m0 ⟨σ,H,I,w0⟩)
 rintro n s1 ⟨σ1,H1,I1,w1⟩
 refine wpAny_passesOwn hp (thn (hc pins s1 σ1 H1 _ I1 (turn n σ1 H1 w1)) fun b s2 hpt9=>?_)
 obtain ⟨H2,I2,q2⟩:=hpt9
 cases b with
 | true=>
  obtain ⟨N,hN,q2⟩:=q2
  rw [if_pos rfl]
  refine wpAny_passesOwn hp (thn (hb pins s2 σ1 H2 _ I2 q2) fun f s3 q3=>?_)
  cases f with
  | next=>
   obtain ⟨σ3,H3,I3,n3⟩:=q3
   obtain ⟨m',hm,w3⟩:=hN σ3 H3 n3
   exact ⟨m',hm,σ3,H3,I3,w3⟩
  | cont=>
   obtain ⟨σ3,H3,I3,n3⟩:=q3
   obtain ⟨m',hm,w3⟩:=hN σ3 H3 n3
   exact ⟨m',hm,σ3,H3,I3,w3⟩
  | brk | ret _=>exact q3
 | false=>
  rw [if_neg Bool.false_ne_true]
  exact wpAny_execs_nil ⟨σ1,H2,I2,q2⟩
end
structure It where
 go:Nat -> Hp -> Prop
 yld:Nat -> Hp -> V -> Hp -> Prop
 stop:Nat -> Hp -> Prop
def pJ (X:Cx) (pins:List (Addr × Obj)) (H:Hp) (b:Addr):Prop:=
 H b = none /\ b ≠ X.env.locals /\ b ∉ X.fs /\ (b ∈ X.ex \/ X.s₀.heap.objs.size <= b) /\ (∀ x c,X.env.cells.lookup x = some c -> c ≠ b) /\ ∀ p ∈ X.pn ++ pins,p.1 ≠ b
theorem Inv.fpOk  {pins:List (Addr × Obj)}  {H':Hp}  {b:Addr} (I:Inv X pins σ H s) (hb:s.heap.objs.size <= b) (hn:H' b = none):pJ X pins H' b:=by
 refine ⟨hn,Nat.ne_of_gt (Nat.lt_of_lt_of_le I.lt hb),I.nofs hb,.inr (Nat.le_trans I.sz hb),fun x c e z=>?_,fun p hp z=>?_⟩
 ·obtain ⟨v,q⟩:=I.cell x c e
  exact absurd (Nat.lt_of_lt_of_le q.lt (by rw [z];exact hb)) (Nat.lt_irrefl _)
 ·exact absurd (Nat.lt_of_lt_of_le (Heap.lt_size (I.pin p hp).1) (by rw [z];exact hb)) (Nat.lt_irrefl _)
structure Turn (P:Program) (w:World) (K:W.Frag) (tg:Expr) (J:It) (fp:List Addr) (it:Addr) (tn:Nat -> Heap -> Prop):Prop where
 mem:it ∈ fp
 obj:∀ i h,tn i h -> ∀ b ∈ fp,∃ o,h.get? b = some o /\ ∀ v,o.data ≠ .cell v
 keep:∀ i h h',tn i h -> (∀ b ∈ fp,∀ o,h.get? b = some o -> h'.get? b = some o) -> tn i h'
 item:∀ (X:Cx),X.prog = P -> X.w = w -> X.K = K -> X.calm = true -> ∀ (i:Nat) (pins:List (Addr × Obj)) (s:Shared) (σ:St) (H:Hp) (E:Value -> Shared -> Prop),Inv X pins σ H s -> (∀ b ∈ fp,pJ X pins H b) -> tn i s.heap -> J.go i H ->
  wpAny (model P w) X.A (pyNext (.ref it)) (fun r s1=>∃ u,r = some u /\
   wpAny (model P w) X.A (letOwnedTupleGo tg (.ref it) u) (fun _ s2=>∃ x H',Inv X pins σ H' s2 /\ RelV x u /\ J.yld i H x H' /\ tn (i + 1) s2.heap /\ ∀ b ∈ fp,H' b = none) E s1) E s
 done:∀ (X:Cx),X.prog = P -> X.w = w -> X.K = K -> X.calm = true -> ∀ (i:Nat) (pins:List (Addr × Obj)) (s:Shared) (σ:St) (H:Hp) (E:Value -> Shared -> Prop),Inv X pins σ H s -> (∀ b ∈ fp,pJ X pins H b) -> tn i s.heap -> J.stop i H ->
  wpAny (model P w) X.A (pyNext (.ref it)) (fun r s1=>r = none /\ Inv X pins σ H s1) E s
 self:∀ (A:Around) (i:Nat) (s:Shared) (Q:Value -> Shared -> Prop) (E:Value -> Shared -> Prop),tn i s.heap -> Q (.ref it) s -> wpAny (model P w) A (pyIter (.ref it)) Q E s
noncomputable abbrev TI:=St -> Hp -> (It -> Hp -> Prop) -> Prop
def PIE (X:Cx) (pins:List (Addr × Obj)) (σ:St) (tg:Expr) (R:It -> Hp -> Prop) (itv:Value) (s2:Shared):Prop:=
 ∃ (it:Addr) (fp:List Addr) (tn:Nat -> Heap -> Prop) (J:It) (H':Hp),itv = .ref it /\ Inv X pins σ H' s2 /\ Turn X.prog X.w X.K tg J fp it tn /\ tn 0 s2.heap /\ (∀ b ∈ fp,pJ X pins H' b) /\ R J H'
def PI (X:Cx) (tg iter:Expr) (wi:TI):Prop:=
 ∀ (pins:List (Addr × Obj)) (s:Shared) (σ:St) (H:Hp) (R:It -> Hp -> Prop),Inv X pins σ H s -> wi σ H R ->
  wpAny (model X.prog X.w) X.A (eval iter X.env) (fun v s1=>wpAny (model X.prog X.w) X.A (pyIter v) (PIE X pins σ tg R) X.xe s1) X.xe s
theorem xk    {s:Shared} {tg:Expr} {it:Addr}  {o:Obj} {n:String} {vs:Array Value} {Q:Unit -> Shared -> Prop} (ho:s.heap.get? it = some o) (hc:o.cls = .type n) (hd:o.data = .fields vs)
  (hn:["enumerate", "zip", "dict_itemiterator", "dict_reverseitemiterator", "odict_iterator", "itertools.zip_longest", "itertools.pairwise"].contains n = false) (hQ:Q () s):wpAny M A (letOwnedTupleGo tg (.ref it) u) Q E s:=by
 unfold letOwnedTupleGo
 cases tg <;> first
  | exact wpAny_pure hQ
  | (cases u <;> first
    | exact wpAny_pure hQ
    | (refine wpAny_bind (wpAny_load ho ?_)
       rw [hc,hd]
       show wpAny M A (if (["enumerate", "zip", "dict_itemiterator", "dict_reverseitemiterator", "odict_iterator", "itertools.zip_longest", "itertools.pairwise"].contains n && vs[0]? == some (rawInt _)) = true then _ else _) Q E s
       rw [if_neg (by intro h;rw [hn,Bool.false_and] at h;cases h)]
       exact wpAny_pure hQ))
noncomputable def Itl (K:W.Frag) (a:Addr):It:=
 ⟨fun i H=>∃ xs x,SqL K H a xs /\ xs[i]? = some x,fun i H x H'=>H' = H /\ ∀ xs,SqL K H a xs -> xs[i]? = some x,fun i H=>∃ xs,SqL K H a xs /\ xs.length <= i⟩
noncomputable def Itt (K:W.Frag) (a:Addr):It:=
 ⟨fun i H=>∃ xs x,SqT K H a xs /\ xs[i]? = some x,fun i H x H'=>H' = H /\ ∀ xs,SqT K H a xs -> xs[i]? = some x,fun i H=>∃ xs,SqT K H a xs /\ xs.length <= i⟩
noncomputable def Itr (lo:Int) (n:Nat):It:=⟨fun i _=>i < n,fun i H x H'=>H' = H /\ x = .int (lo + i),fun i _=>n <= i⟩
theorem CW {P:Program} {w:World} {K:W.Frag} {tg:Expr} (a it:Addr):Turn P w K tg (Itl K a) [it] it (fun i h=>h.IsListIter it a i) where
 mem:=by simp
 obj:=fun i h st b hb=>by
  have e:b = it:=by simpa using hb
  subst e
  obtain ⟨o,e,c,d⟩:=st
  exact ⟨o,e,fun v z=>by rw [d] at z;cases z⟩
 keep:=fun i h h' st k=>st.at fun o e=>k it (by simp) o e
 item:=by
  intro X hP hw hK hc i pins s σ H E I hf st hg
  subst hP hw hK
  obtain ⟨xs,x,hq,hx⟩:=hg
  obtain ⟨its,rv,p,hz⟩:=I.list hq
  obtain ⟨u,hu,ru⟩:=rv.get hx
  obtain ⟨f0,f1,f2,f3,f4,f5⟩:=hf it (by simp)
  refine wpAny_pyNext_list_item st p.isList (x:=u) (by simpa using hu) fun h' st' sb=>?_
  have I1:Inv X pins σ H { s with heap:=h' }:=I.turned (t':=s.toks) (fun b o hb e=>(sb.2 b hb).trans e) f0 f1 f3 f4 f5
  obtain ⟨o,e,c,d⟩:=id st'
  exact ⟨u,rfl,xk (s:={ s with heap:=h' }) e c d (by decide) ⟨x,H,I1,ru,⟨rfl,fun ys hy=>by rw [I.list_inj hy hq];exact hx⟩,st',fun b hb=>(hf b hb).1⟩⟩
 done:=by
  intro X hP hw hK hc i pins s σ H E I hf st hg
  subst hP hw hK
  obtain ⟨xs,hq,hx⟩:=hg
  obtain ⟨its,rv,p,hz⟩:=I.list hq
  obtain ⟨f0,f1,f2,f3,f4,f5⟩:=hf it (by simp)
  have hl:=rv.length
  exact wpAny_pyNext_list_end (I.ok.hd hc) st p.isList (by simp;lia) fun h' eb=>⟨rfl,I.turned (t':=s.toks) (fun b o hb e=>eb b o hb e) f0 f1 f3 f4 f5⟩
 self:=fun _ _ _ _ _ st h=>wpAny_pyIter_listiter st h
theorem Af {P:Program} {w:World} {K:W.Frag} {tg:Expr} (a it:Addr):Turn P w K tg (Itt K a) [it] it (fun i h=>h.IsTupleIter it a i) where
 mem:=by simp
 obj:=fun i h st b hb=>by
  have e:b = it:=by simpa using hb
  subst e
  obtain ⟨o,e,c,d⟩:=st
  exact ⟨o,e,fun v z=>by rw [d] at z;cases z⟩
 keep:=fun i h h' st k=>st.at fun o e=>k it (by simp) o e
 item:=by
  intro X hP hw hK hc i pins s σ H E I hf st hg
  subst hP hw hK
  obtain ⟨xs,x,hq,hx⟩:=hg
  obtain ⟨its,rv,p,hz⟩:=I.tuple hq
  obtain ⟨u,hu,ru⟩:=rv.get hx
  obtain ⟨f0,f1,f2,f3,f4,f5⟩:=hf it (by simp)
  refine wpAny_pyNext_tuple_item st (show s.heap.IsTuple a its.toArray from p) (x:=u) (by simpa using hu) fun h' st' sb=>?_
  have I1:Inv X pins σ H { s with heap:=h' }:=I.turned (t':=s.toks) (fun b o hb e=>(sb.2 b hb).trans e) f0 f1 f3 f4 f5
  obtain ⟨o,e,c,d⟩:=id st'
  exact ⟨u,rfl,xk (s:={ s with heap:=h' }) e c d (by decide) ⟨x,H,I1,ru,⟨rfl,fun ys hy=>by rw [I.tuple_inj hy hq];exact hx⟩,st',fun b hb=>(hf b hb).1⟩⟩
 done:=by
  intro X hP hw hK hc i pins s σ H E I hf st hg
  subst hP hw hK
  obtain ⟨xs,hq,hx⟩:=hg
  obtain ⟨its,rv,p,hz⟩:=I.tuple hq
  obtain ⟨f0,f1,f2,f3,f4,f5⟩:=hf it (by simp)
  have hl:=rv.length
  exact wpAny_pyNext_tuple_end (I.ok.hd hc) st (show s.heap.IsTuple a its.toArray from p) (by simp;lia) fun h' eb=>⟨rfl,I.turned (t':=s.toks) (fun b o hb e=>eb b o hb e) f0 f1 f3 f4 f5⟩
 self:=fun _ _ _ _ _ st h=>wpAny_pyIter_tupleiter st h
theorem Ae {P:Program} {w:World} {K:PySem.W.Frag} {tg:Expr} (it:Addr) (lo:Int) (n:Nat):Turn P w K tg (Itr lo n) [it] it (fun i h=>IsRangeIter h it (lo + (i:Nat) * 1) ((n:Int) - (i:Nat)) 1) where
 mem:=by simp
 obj:=fun i h st b hb=>by
  have e:b = it:=by simpa using hb
  subst e
  exact ⟨_,st,fun v z=>by
   have z':Data.fields _ = Data.cell v:=z
   cases z'⟩
 keep:=fun i h h' st k=>k it (by simp) _ st
 item:=by
  intro X hP hw hK hc i pins s σ H E I hf st hg
  subst hP hw hK
  obtain ⟨f0,f1,f2,f3,f4,f5⟩:=hf it (by simp)
  have W:=Walks.range (prog:=X.prog) (w:=X.w) (I.ok.hd hc) it lo 1 n
  refine W.item i s _ _ hg st fun v h' tk hv st' kk=>?_
  obtain ⟨t,rfl⟩:=hv
  have I1:Inv X pins σ H { s with heap:=h',toks:=tk }:=I.turned (fun b o hb e=>kk b o (by simpa using hb) e) f0 f1 f3 f4 f5
  refine ⟨_,rfl,xk (s:={ s with heap:=h',toks:=tk }) (n := "range_iterator") st' rfl rfl (by decide) ⟨.int (lo + i),H,I1,⟨t,?_⟩,⟨rfl,rfl⟩,st',fun b hb=>(hf b hb).1⟩⟩
  rw [Int.mul_one]
 done:=by
  intro X hP hw hK hc i pins s σ H E I hf st hg
  subst hP hw hK
  obtain ⟨f0,f1,f2,f3,f4,f5⟩:=hf it (by simp)
  exact wpAny_pyNext_range_end (I.ok.hd hc) st (by have:n <= i:=hg;lia) fun h' eb=>⟨rfl,I.turned (t':=s.toks) (fun b o hb e=>eb b o hb e) f0 f1 f3 f4 f5⟩
 self:=fun _ _ _ _ _ st h=>wpAny_pyIter_rangeiter st h
section
variable {X:Cx} {tg:Expr}
theorem Fk {pins:List (Addr × Obj)} {σ:St} {H:Hp} {s:Shared} {R:It -> Hp -> Prop} {E:Value -> Shared -> Prop} {lo hi:Int} {t u v:Tok} {tk:Nat} (I:Inv X pins σ H s) (h1:-(2 ^ 62) <= lo) (h2:lo < 2 ^ 62) (h3:-(2 ^ 62) <= hi) (h4:hi < 2 ^ 62)
  (q:R (Itr lo (hi - lo).toNat) H):wpAny (model X.prog X.w) X.A (pyIter (.ref s.heap.objs.size)) (PIE X pins σ tg R) E { s with heap:=s.heap.push { cls:=.type "range",data:=.fields #[.int lo t,.int hi u,.int 1 v] },toks:=tk }:=by
 refine wpAny_pyIter_range (IsRange.new ..) (small_one h1 h2 h3 h4) ?_
 have I1:Inv X pins σ H { s with heap:=s.heap.push { cls:=.type "range",data:=.fields #[.int lo t,.int hi u,.int 1 v] },toks:=tk }:=I.kept fun b o e=>Heap.get?_push_of_some _ e
 refine ⟨(s.heap.push { cls:=.type "range",data:=.fields #[.int lo t,.int hi u,.int 1 v] }).objs.size,[(s.heap.push { cls:=.type "range",data:=.fields #[.int lo t,.int hi u,.int 1 v] }).objs.size],_,_,H,rfl,
  I1.kept (t':=tk) fun b o e=>Heap.get?_push_of_some _ e,Ae _ lo (hi - lo).toNat,?_,fun b hb=>?_,q⟩
 ·have e1:lo + ((0:Nat):Int) * 1 = lo:=by simp
  have e2:(((hi - lo).toNat:Nat):Int) - ((0:Nat):Int) = Builtin.Range.rangeSize lo hi 1:=by rw [rangeSize_one];split <;> lia
  show IsRangeIter _ _ (lo + ((0:Nat):Int) * 1) ((((hi - lo).toNat:Nat):Int) - ((0:Nat):Int)) 1
  rw [e1,e2]
  exact Heap.get?_push_size _ rfl
 ·have e:b = (s.heap.push { cls:=.type "range",data:=.fields #[.int lo t,.int hi u,.int 1 v] }).objs.size:=by simpa using hb
  subst e
  exact I1.fpOk (Nat.le_refl _) (I1.hok.fresh (Nat.le_refl _))
noncomputable def Ih (ta:TA):TI:=fun σ H R=>ta σ H fun vs H1=>∃ j:Int,vs = [.int j] /\ -(2 ^ 62) <= j /\ j < 2 ^ 62 /\ R (Itr 0 j.toNat) H1
theorem Cs {a:Expr} {ta:TA} {p pos:Pos} (hg:Gl X "range") (hm:X.mg "range" = none) (ha:PA X [a] ta) (hs:starEach [a] X.env = [(false,eval a X.env)]:=by rfl):PI X tg (.Call (.Name "range" p) [a] [] pos) (Ih ta):=by
 intro pins s σ H R I h
 refine Call_ (qF I hg hm boot_range (PyProof.Rows.callWith_type1 (thn (ha pos pins s σ H _ I h) fun us s1 hpt9=>?_) hs rfl))
 obtain ⟨vs,H1,I1,r1,q1⟩:=hpt9
 obtain ⟨j,e,q1,q2,q⟩:=q1
 subst e
 cases r1 with
 | cons r rr=>
  cases rr
  obtain ⟨t,rfl⟩:=r
  exact call_range_1 (Fk I1 (by lia) (by lia) q1 q2 (by simpa using q))
noncomputable def KJ (wi:TI) (g:TG) (tb:TS):TS:=fun D σ H=>wi σ H fun J H1=>∃ W:Nat -> Nat -> St -> Hp -> Prop,(∃ m,W 0 m σ H1) /\ ∀ i m σ H,W i m σ H ->
 (J.stop i H /\ D.nx σ H) \/ (J.go i H /\ ∃ N:St -> Hp -> Prop,(∀ σ' H',N σ' H' -> ∃ m',m' < m /\ W (i + 1) m' σ' H') /\ ∀ x H',J.yld i H x H' -> g x σ H' fun σ2 H2=>tb { D with nx:=N,ct:=N,bk:=D.nx } σ2 H2)
noncomputable def nQ (fp:List Addr) (h:Heap):List (Addr × Obj):=fp.filterMap fun b=>(h.get? b).map fun o=>(b,o)
theorem fN {fp:List Addr} {h:Heap} {b:Addr} {o:Obj} (hb:b ∈ fp) (e:h.get? b = some o):(b,o) ∈ nQ fp h:=List.mem_filterMap.mpr ⟨b,hb,by rw [e];rfl⟩
theorem Cn {fp:List Addr}  {p:Addr × Obj} (hp:p ∈ nQ fp h):p.1 ∈ fp /\ h.get? p.1 = some p.2:=by
 obtain ⟨b,hb,e⟩:=List.mem_filterMap.mp hp
 cases q:h.get? b with
 | none=>rw [q] at e;cases e
 | some o=>
  rw [q] at e
  have e':(b,o) = p:=Option.some.inj e
  subst e'
  exact ⟨hb,q⟩
theorem Inv.pinned {pins:List (Addr × Obj)}    {fp:List Addr} (I:Inv X pins σ H s) (hf:∀ b ∈ fp,pJ X pins H b) (ho:∀ b ∈ fp,∃ o,s.heap.get? b = some o /\ ∀ v,o.data ≠ .cell v):Inv X (pins ++ nQ fp s.heap) σ H s:=
 I.pins_of fun p hp=>(List.mem_append.mp hp).elim (fun z=>I.pin p (List.mem_append_right _ z)) fun z=>by
  obtain ⟨hb,e⟩:=Cn z
  obtain ⟨f0,f1,f2,_⟩:=hf p.1 hb
  obtain ⟨o,e',d⟩:=ho p.1 hb
  rw [e] at e';cases e'
  exact ⟨e,f0,f1,f2,d⟩
theorem Inv.unpinned {pins pl:List (Addr × Obj)}    (I:Inv X (pins ++ pl) σ H s):Inv X pins σ H s:=I.pins_of fun p hp=>I.pin p (List.mem_append_right _ (List.mem_append_left _ hp))
theorem lJ {iter:Expr} {body:List Stmt} {wi:TI} {g:TG} {tb:TS} {pos:Pos} (hp:PassesOwn (model X.prog X.w) X.A X.env X.xe) (hc:X.calm = true) (hi:PI X tg iter wi) (hg:PG X tg g) (hb:PSs X body tb)
  (hs:∀ x,foldedSetIterable iter X.env x = pure x:=by intro _;rfl):PS X (.For tg iter body [] pos) (KJ wi g tb):=by
 intro pins s σ H D I h
 refine wpAny_For (thn (hi pins s σ H _ I h) fun v s1 h1=>thn h1 fun itv s2 h2=>?_) hs
 obtain ⟨it,fp,tn,J,H2,e,I2,T,st2,f2,W,⟨m0,w0⟩,turn⟩:=h2
 subst e
 -- what stays true of the iterator's objects through the loop
 have stat:∀ {H':Hp},(∀ b ∈ fp,H' b = none) -> ∀ b ∈ fp,pJ X pins H' b:=fun hn b hb=>⟨hn b hb,(f2 b hb).2⟩
 refine codeAny_forLoop_any (fun n s'=>∃ i σ' H',Inv X pins σ' H' s' /\ tn i s'.heap /\ (∀ b ∈ fp,H' b = none) /\ W i n σ' H') ?_ m0 ⟨0,σ,H2,I2,st2,fun b hb=>(f2 b hb).1,w0⟩
 rintro n s3 ⟨i,σ3,H3,I3,st3,fr3,w3⟩
 rcases turn i n σ3 H3 w3 with ⟨stop,qn⟩ | ⟨go,N,hN,step⟩
 ·refine wpAny_passesOwn hp (thn (T.done X rfl rfl rfl hc i pins s3 σ3 H3 X.xe I3 (stat fr3) st3 stop) fun r s4 ⟨hr,I4⟩=>?_)
  subst hr
  exact wpAny_execs_nil ⟨σ3,H3,I4,qn⟩
 ·refine wpAny_passesOwn hp (thn (T.item X rfl rfl rfl hc i pins s3 σ3 H3 X.xe I3 (stat fr3) st3 go) fun r s4 ⟨u,hr,h4⟩=>?_)
  subst hr
  refine wpAny_passesOwn hp (thn h4 fun _ s5 hpt9=>?_)
  obtain ⟨x,H5,I5,r5,y5,st5,fr5⟩:=hpt9
  have I5':=I5.pinned (stat fr5) (T.obj _ _ st5)
  refine wpAny_passesOwn hp (thn (hg _ s5 σ3 H5 x u _ I5' r5 (step x H5 y5)) fun _ s6 hpt9=>?_)
  obtain ⟨σ6,H6,I6,q6⟩:=hpt9
  refine wpAny_passesOwn hp (thn (hb _ s6 σ6 H6 _ I6 q6) fun f s7 q7=>?_)
  have again:∀ {σ7:St} {H7:Hp},Inv X (pins ++ nQ fp s5.heap) σ7 H7 s7 -> N σ7 H7 -> ∃ m,m < n /\ ∃ i σ' H',Inv X pins σ' H' s7 /\ tn i s7.heap /\ (∀ b ∈ fp,H' b = none) /\ W i m σ' H':=fun {σ7 H7} I7 n7=>by
   obtain ⟨m',hm,w7⟩:=hN σ7 H7 n7
   refine ⟨m',hm,i + 1,σ7,H7,I7.unpinned,T.keep _ _ _ st5 fun b hb o e=>(I7.pin (b,o) (List.mem_append_right _ (List.mem_append_right _ (fN hb e)))).1,fun b hb=>?_,w7⟩
   obtain ⟨o,e,d⟩:=T.obj _ _ st5 b hb
   exact (I7.pin (b,o) (List.mem_append_right _ (List.mem_append_right _ (fN hb e)))).2.1
  cases f with
  | next=>obtain ⟨σ7,H7,I7,n7⟩:=q7;exact again I7 n7
  | cont=>obtain ⟨σ7,H7,I7,n7⟩:=q7;exact again I7 n7
  | brk=>obtain ⟨σ7,H7,I7,q7⟩:=q7;exact ⟨σ7,H7,I7.unpinned,q7⟩
  | ret v=>obtain ⟨x7,σ7,H7,I7,r7,q7⟩:=q7;exact ⟨x7,σ7,H7,I7.unpinned,r7,q7⟩
end
noncomputable abbrev R2:=V -> V -> Hp -> VK -> Prop
def OpR (X:Cx) (f:Value -> Value -> Sem Value) (r:R2):Prop:=
 ∀ (pins:List (Addr × Obj)) (s:Shared) (σ:St) (H:Hp) (x y:V) (v u:Value) (Q:VK),Inv X pins σ H s -> RelV x v -> RelV y u -> r x y H Q ->
  wpAny (model X.prog X.w) X.A (f v u) (EP X pins σ Q) X.xe s
def UnR (X:Cx) (f:Value -> Sem Value) (r:V -> Hp -> VK -> Prop):Prop:=
 ∀ (pins:List (Addr × Obj)) (s:Shared) (σ:St) (H:Hp) (x:V) (v:Value) (Q:VK),Inv X pins σ H s -> RelV x v -> r x H Q ->
  wpAny (model X.prog X.w) X.A (f v) (EP X pins σ Q) X.xe s
def CallR (X:Cx) (f:Value) (r:List V -> Hp -> VK -> Prop):Prop:=
 ∀ (pins:List (Addr × Obj)) (s:Shared) (σ:St) (H:Hp) (xs:List V) (us:List Value) (Q:VK),Inv X pins σ H s -> Vals xs us -> r xs H Q ->
  wpAny (model X.prog X.w) X.A (call f us) (EP X pins σ Q) X.xe s
def M7 (X:Cx) (r:V -> Hp -> (Bool -> Hp -> Prop) -> Prop):Prop:=
 ∀ (pins:List (Addr × Obj)) (s:Shared) (σ:St) (H:Hp) (x:V) (v:Value) (Q:Bool -> Hp -> Prop),Inv X pins σ H s -> RelV x v -> r x H Q ->
  wpAny (model X.prog X.w) X.A (truthy v) (TP X pins σ Q) X.xe s
noncomputable def tOp (r:R2) (ta tb:TE):TE:=fun σ H Q=>ta σ H fun x H1=>tb σ H1 fun y H2=>r x y H2 Q
noncomputable def tUn (r:V -> Hp -> VK -> Prop) (ta:TE):TE:=fun σ H Q=>ta σ H fun x H1=>r x H1 Q
noncomputable def rI (C:Int -> Int -> Prop) (g:Int -> Int -> V):R2:=fun x y H Q=>∃ i j,x = .int i /\ y = .int j /\ C i j /\ Q (g i j) H
noncomputable def rI0 (g:Int -> Int -> V):R2:=fun x y H Q=>∃ i j,x = .int i /\ y = .int j /\ Q (g i j) H
noncomputable def rU (g:Int -> V):V -> Hp -> VK -> Prop:=fun x H Q=>∃ i,x = .int i /\ Q (g i) H
section
variable {X:Cx} {a b c:Expr} {ta tb tc:TE} {pos:Pos}
theorem I9 (ha:PE X a ta) (hb:PE X b tb) {pins:List (Addr × Obj)} {s:Shared} {σ:St} {H:Hp} {R:V -> V -> Hp -> Prop} (I:Inv X pins σ H s)
  (h:ta σ H fun x H1=>tb σ H1 fun y H2=>R x y H2) {Q:Value -> Shared -> Prop} {f:Value -> Value -> Sem Value}
  (hf:∀ v u s2 x y H2,Inv X pins σ H2 s2 -> RelV x v -> RelV y u -> R x y H2 -> wpAny (model X.prog X.w) X.A (f v u) Q X.xe s2) :
  wpAny (model X.prog X.w) X.A (eval a X.env) (fun v s₁=>wpAny (model X.prog X.w) X.A (eval b X.env) (fun u s₂=>wpAny (model X.prog X.w) X.A (f v u) Q X.xe s₂) X.xe s₁) X.xe s:=by
 refine thn (ha pins s σ H _ I h) fun v s1 hpt9=>?_
 obtain ⟨x,H1,I1,r1,q1⟩:=hpt9
 refine thn (hb pins s1 σ H1 _ I1 q1) fun u s2 hpt9=>?_
 obtain ⟨y,H2,I2,r2,q2⟩:=hpt9
 exact hf v u s2 x y H2 I2 r1 r2 q2
theorem LN   (ho:OpR X (binaryOp op) r) (ha:PE X a ta) (hb:PE X b tb):PE X (.BinOp a op b pos) (tOp r ta tb):=by
 intro pins s σ H Q I h
 exact wpAny_BinOp (I9 ha hb I h fun v u s2 x y H2 I2 rx ry q=>ho pins s2 σ H2 x y v u Q I2 rx ry q)
theorem EV {op:UnaryOp} {r:V -> Hp -> VK -> Prop} (ho:UnR X (unaryOp op) r) (ha:PE X a ta):PE X (.UnaryOp op a pos) (tUn r ta):=by
 intro pins s σ H Q I h
 exact UnaryOp_ (thn (ha pins s σ H _ I h) fun v s1 ⟨x,H1,I1,r1,q1⟩=>ho pins s1 σ H1 x v Q I1 r1 q1)
theorem opI {f:Value -> Value -> Sem Value} {C:Int -> Int -> Prop} {g:Int -> Int -> Int}
  (rule:∀ (i j:Int) (t u:Tok) (s:Shared) (Q:Value -> Shared -> Prop) (E:Value -> Shared -> Prop),C i j -> Q (.int (g i j) s.toks) { s with toks:=s.toks + 1 } -> wpAny (model X.prog X.w) X.A (f (.int i t) (.int j u)) Q E s) :
  OpR X f (rI C fun i j=>.int (g i j)):=by
 intro pins s σ H x y v u Q I rx ry h
 obtain ⟨i,j,rfl,rfl,hc,q⟩:=h
 obtain ⟨t,rfl⟩:=rx
 obtain ⟨t',rfl⟩:=ry
 exact rule i j t t' s _ _ hc ⟨.int (g i j),H,I.tok _,⟨_,rfl⟩,q⟩
theorem LF {f:Value -> Value -> Sem Value} {g:Int -> Int -> Int}
  (rule:∀ (i j:Int) (t u:Tok) (s:Shared) (Q:Value -> Shared -> Prop) (E:Value -> Shared -> Prop),Q (.int (g i j) s.toks) { s with toks:=s.toks + 1 } -> wpAny (model X.prog X.w) X.A (f (.int i t) (.int j u)) Q E s) :
  OpR X f (rI0 fun i j=>.int (g i j)):=by
 intro pins s σ H x y v u Q I rx ry h
 obtain ⟨i,j,rfl,rfl,q⟩:=h
 obtain ⟨t,rfl⟩:=rx
 obtain ⟨t',rfl⟩:=ry
 exact rule i j t t' s _ _ ⟨.int (g i j),H,I.tok _,⟨_,rfl⟩,q⟩
theorem G3 {f:Value -> Value -> Sem Value} {g:Int -> Int -> Bool}
  (rule:∀ (i j:Int) (t u:Tok) (s:Shared) (Q:Value -> Shared -> Prop) (E:Value -> Shared -> Prop),Q (.bool (g i j)) s -> wpAny (model X.prog X.w) X.A (f (.int i t) (.int j u)) Q E s) :
  OpR X f (rI0 fun i j=>.bl (g i j)):=by
 intro pins s σ H x y v u Q I rx ry h
 obtain ⟨i,j,rfl,rfl,q⟩:=h
 obtain ⟨t,rfl⟩:=rx
 obtain ⟨t',rfl⟩:=ry
 exact rule i j t t' s _ _ ⟨.bl (g i j),H,I,rfl,q⟩
def K0 (i j:Int):Prop:=0 < j /\ j < 1073741824
def II (i j:Int):Prop:=0 <= j /\ j <= 1000000 /\ i.natAbs < 2 ^ 64
def CMul (i j:Int):Prop:=(-(2 ^ 64) < i /\ i < 2 ^ 64) \/ (-(2 ^ 64) < j /\ j < 2 ^ 64)
theorem CMul.ok {i j:Int} (h:CMul i j):IntMulOk i j:=by
 rcases h with ⟨h1,h2⟩ | ⟨h1,h2⟩
 ·exact .of_left (intBits_le_64 h1 h2)
 ·exact .of_right (intBits_le_64 h1 h2)
theorem op_add:OpR X (binaryOp .Add) (rI0 fun i j=>.int (i + j)):=LF fun _ _ _ _ _ _ _ q=>add_int q
theorem JQ:OpR X (binaryOp .Sub) (rI0 fun i j=>.int (i - j)):=LF fun _ _ _ _ _ _ _ q=>sub_int q
theorem JN:OpR X (binaryOp .Mult) (rI CMul fun i j=>.int (i * j)):=opI fun _ _ _ _ _ _ _ hc q=>mul_int q hc.ok
theorem G5:OpR X (binaryOp .FloorDiv) (rI K0 fun i j=>.int (i / j)):=opI fun i j _ _ _ _ _ hc q=>by
 have h1:(0:Int) < j:=hc.1
 have h2:j < 1073741824:=hc.2
 exact floordiv_int (by lia) (by rw [Int.fdiv_eq_ediv_of_nonneg i (by lia)];exact q) (.inl (PyProof.noPylong_small (by lia)))
theorem JM:OpR X (binaryOp .Mod) (rI (fun _ j=>0 < j) fun i j=>.int (i % j)):=opI fun i j _ _ _ _ _ hc q=>by
 have h1:(0:Int) < j:=hc
 exact mod_int' (by lia) (by rw [Int.fmod_eq_emod_of_nonneg i (by lia)];exact q)
theorem JP:OpR X (binaryOp .Pow) (rI II fun i j=>.int (i ^ j.toNat)):=opI fun _ _ _ _ _ _ _ hc q=>pow_int_small hc.1 hc.2.1 hc.2.2 q
theorem unI {f:Value -> Sem Value} {g:Int -> Int}
  (rule:∀ (i:Int) (t:Tok) (s:Shared) (Q:Value -> Shared -> Prop) (E:Value -> Shared -> Prop),Q (.int (g i) s.toks) { s with toks:=s.toks + 1 } -> wpAny (model X.prog X.w) X.A (f (.int i t)) Q E s) :
  UnR X f (rU fun i=>.int (g i)):=by
 intro pins s σ H x v Q I rx h
 obtain ⟨i,rfl,q⟩:=h
 obtain ⟨t,rfl⟩:=rx
 exact rule i t s _ _ ⟨.int (g i),H,I.tok _,⟨_,rfl⟩,q⟩
theorem Ag:UnR X (unaryOp .USub) (rU fun i=>.int (-i)):=unI fun _ _ _ _ _ q=>neg_int q
end
section
variable {X:Cx} {a b c:Expr} {ta tb tc:TE} {pos:Pos}
theorem Jp {pins:List (Addr × Obj)}    {Q:VK} {k k':Bool} (I:Inv X pins σ H s) (q:Q (.bl k) H) (e:k = k'):EP X pins σ Q (.bool k') s:=by
 subst e
 exact ⟨.bl k,H,I,rfl,q⟩
theorem Iq:OpR X (compareOp .Lt) (rI0 fun i j=>.bl (decide (i < j))):=G3 fun _ _ _ _ _ _ _ q=>lt_int q
theorem LJ:OpR X (compareOp .LtE) (rI0 fun i j=>.bl (decide (i <= j))):=G3 fun _ _ _ _ _ _ _ q=>le_int q
theorem LH:OpR X (compareOp .Gt) (rI0 fun i j=>.bl (decide (j < i))):=G3 fun _ _ _ _ _ _ _ q=>gt_int q
theorem LG:OpR X (compareOp .GtE) (rI0 fun i j=>.bl (decide (j <= i))):=G3 fun _ _ _ _ _ _ _ q=>ge_int q
theorem G6:OpR X (compareOp .IsNot) (fun x y H Q=>y = .non /\ Q (.bl (!decide (x = .non))) H):=by
 intro pins s σ H x y v u Q I rx ry h
 obtain ⟨rfl,q⟩:=h
 cases ry
 refine isnot_none_gen (Jp I q ?_)
 cases x <;> first
  | (cases rx;rfl)
  | (obtain ⟨t,rfl⟩:=rx;rfl)
theorem OpR.or   (h:OpR X f r) (h':OpR X f r'):OpR X f (fun x y H Q=>r x y H Q \/ r' x y H Q):=by
 intro pins s σ H x y v u Q I rx ry q
 rcases q with q | q
 ·exact h pins s σ H x y v u Q I rx ry q
 ·exact h' pins s σ H x y v u Q I rx ry q
theorem EG (b:Expr) {op:CmpOp} (h:op ≠ .In:=by decide) (h2:op ≠ .NotIn:=by decide):behindInMarks op b = false:=by
 have e1:(op == CmpOp.In) = false:=by cases op <;> first | rfl | exact absurd rfl h
 have e2:(op == CmpOp.NotIn) = false:=by cases op <;> first | rfl | exact absurd rfl h2
 cases b <;> simp [behindInMarks,e1,e2]
theorem G9   (ho:OpR X (compareOp op) r) (ha:PE X a ta) (hb:PE X b tb) (hm:behindInMarks op b = false):PE X (.Compare a [op] [b] pos) (tOp r ta tb):=by
 intro pins s σ H Q I h
 exact wpAny_Compare1 (I9 ha hb I h fun v u s2 x y H2 I2 rx ry q=>ho pins s2 σ H2 x y v u Q I2 rx ry q) hm
noncomputable def A6 (t:TE):TT:=fun σ H Q=>t σ H fun x H'=>∃ k,x = .bl k /\ Q k H'
theorem Hl {op:CmpOp} {r:R2} (ho:OpR X (compareOp op) r) (ha:PE X a ta) (hb:PE X b tb) (hm:behindInMarks op b = false):PT X (.Compare a [op] [b] pos) (A6 (tOp r ta tb)):=by
 intro pins s σ H Q I h
 refine wpAny_isTrue_Compare1 (thn (ha pins s σ H _ I h) fun v s1 ⟨x,H1,I1,r1,q1⟩=>thn (hb pins s1 σ H1 _ I1 q1) fun u s2 ⟨y,H2,I2,r2,q2⟩=>
  thn (ho pins s2 σ H2 x y v u _ I2 r1 r2 q2) fun c s3 ⟨z,H3,I3,r3,k,e,q3⟩=>?_) hm
 subst e
 cases r3
 exact wpAny_truthy_bool ⟨H3,I3,q3⟩
def Ge (K:W.Frag) (x:V) (H:Hp) (k:Bool):Prop:=
 match x with
 | .non=>k = false
 | .bl b=>k = b
 | .int i=>k = (i != 0)
 | .str y=>y.length <= sizeLine /\ k = ((y.length:Int) != 0)
 | .byt y=>y.size <= sizeLine /\ k = ((y.size:Int) != 0)
 | .ref p=>(∃ xs,SqL K H p xs /\ k = !xs.isEmpty) \/ (∃ xs,SqT K H p xs /\ k = !xs.isEmpty) \/ ∃ kvs,H p = some (.dK kvs) /\ k = !kvs.isEmpty
 | _=>False
theorem zb {κ:Type} {kvs:List (κ × V)} {vs:List (κ × Value)} (r:KV kvs vs):(!vs.isEmpty) = !kvs.isEmpty:=by
 cases r <;> rfl
theorem qC {xs:List V} {its:List Value} (r:Vals xs its):(!its.toArray.isEmpty) = !xs.isEmpty:=by
 cases r <;> simp
theorem lf:(sizeLine:Nat) < 2 ^ 63:=by rw [sizeLine_eq];decide
theorem KN:M7 X (fun x H Q=>∃ k,Ge X.K x H k /\ Q k H):=by
 intro pins s σ H x v Q I rx h
 obtain ⟨k,e,q⟩:=h
 have hl:=lf
 have hs:sizeLine = 16777216:=sizeLine_eq
 cases x with
 | non=>
  cases rx
  have e':k = false:=e
  subst e'
  exact truthy_none ⟨H,I,q⟩
 | bl b=>
  cases rx
  have e':k = b:=e
  subst e'
  exact wpAny_truthy_bool ⟨H,I,q⟩
 | int i=>
  obtain ⟨t,rfl⟩:=rx
  have e':k = (i != 0):=e
  subst e'
  exact PySem.P.truthy_int ⟨H,I,q⟩
 | str y=>
  obtain ⟨t,rfl⟩:=rx
  obtain ⟨hy,e'⟩:y.length <= sizeLine /\ k = ((y.length:Int) != 0):=e
  subst e'
  exact PySem.P.truthy_str (by lia) ⟨H,I.tok _,q⟩
 | byt y=>
  obtain ⟨t,rfl⟩:=rx
  obtain ⟨hy,e'⟩:y.size <= sizeLine /\ k = ((y.size:Int) != 0):=e
  subst e'
  exact W.truthy_bytes (by lia) ⟨H,I.tok _,q⟩
 | ref p=>
  cases rx
  have e':(∃ xs,SqL X.K H p xs /\ k = !xs.isEmpty) \/ (∃ xs,SqT X.K H p xs /\ k = !xs.isEmpty) \/ ∃ kvs,H p = some (.dK kvs) /\ k = !kvs.isEmpty:=e
  rcases e' with ⟨xs,hx,e'⟩ | ⟨xs,hx,e'⟩ | ⟨kvs,hx,e'⟩
  ·subst e'
   obtain ⟨its,r,pl,hz⟩:=I.list hx
   have hlen:=r.length
   exact wpAny_truthy_list pl.isList (by simp only [List.size_toArray];lia) ⟨H,I.tok _,by rw [qC r];exact q⟩
  ·subst e'
   obtain ⟨its,r,pl,hz⟩:=I.tuple hx
   have hlen:=r.length
   exact truthy_tuple pl (by simp only [List.size_toArray];lia) ⟨H,I.tok _,by rw [qC r];exact q⟩
  ·subst e'
   obtain ⟨hz,hS,vs,r,m⟩:kvs.length <= sizeLine /\ (p == sysModules) = false /\ ∃ vs,KV kvs vs /\ s.heap.DictOf (aY X.prog X.w) p vs:=I.hok p _ hx
   have hlen:kvs.length = vs.length:=Paired.length r
   exact wpAny_truthy_dict hS m (by lia) ⟨H,I.tok _,by rw [zb r];exact q⟩
 | _=>exact (show False from e).elim
theorem xV (ha:PE X a ta) (he:∀ whole,isTrue a X.env whole = (do let v ← whole;standAt a.pos;holding [v] (truthy v))) :
  PT X a (fun σ H Q=>ta σ H fun x H'=>∃ k,Ge X.K x H' k /\ Q k H'):=by
 intro pins s σ H Q I h
 exact isTrue_plain (thn (ha pins s σ H _ I h) fun v s1 ⟨x,H1,I1,r1,q1⟩=>KN pins s1 σ H1 x v Q I1 r1 q1) (he _)
theorem zE:OpR X (binaryOp .Add) (fun x y H Q=>∃ i j,x = .str i /\ y = .str j /\ i.length + j.length <= sizeLine /\ Q (.str (i ++ j)) H):=by
 intro pins s σ H x y v u Q I rx ry h
 obtain ⟨i,j,rfl,rfl,hz,q⟩:=h
 obtain ⟨t,rfl⟩:=rx
 obtain ⟨t',rfl⟩:=ry
 exact add_str (fun t' tk=>⟨.str (i ++ j),H,I.tok _,⟨_,rfl⟩,q⟩) hz
theorem FZ {x:V}  (r:Vals [x] us):∃ u,us = [u] /\ RelV x u:=by
 cases r with
 | cons r1 r2=>cases r2;exact ⟨_,rfl,r1⟩
theorem IE {x y:V}  (r:Vals [x,y] us):∃ u w',us = [u,w'] /\ RelV x u /\ RelV y w':=by
 cases r with
 | cons r1 r2=>
  cases r2 with
  | cons r3 r4=>cases r4;exact ⟨_,_,rfl,r1,r3⟩
theorem BA (hc:X.calm = true):CallR X (.builtin "max") (fun xs H Q=>∃ i j,xs = [.int i,.int j] /\ Q (.int (if j > i then j else i)) H):=by
 intro pins s σ H xs us Q I r h
 obtain ⟨i,j,rfl,q⟩:=h
 obtain ⟨u,w',rfl,⟨t,rfl⟩,⟨t',rfl⟩⟩:=IE r
 refine max_two_ints (I.ok.hd hc) fun h' tk k=>⟨_,H,I.kept k,?_,q⟩
 by_cases hj:j > i
 ·rw [if_pos hj,if_pos hj];exact ⟨_,rfl⟩
 ·rw [if_neg hj,if_neg hj];exact ⟨_,rfl⟩
theorem BB (hc:X.calm = true):CallR X (.builtin "min") (fun xs H Q=>∃ i j,xs = [.int i,.int j] /\ Q (.int (if j < i then j else i)) H):=by
 intro pins s σ H xs us Q I r h
 obtain ⟨i,j,rfl,q⟩:=h
 obtain ⟨u,w',rfl,⟨t,rfl⟩,⟨t',rfl⟩⟩:=IE r
 refine min_two_ints (I.ok.hd hc) fun h' tk k=>⟨_,H,I.kept k,?_,q⟩
 by_cases hj:j < i
 ·rw [if_pos hj,if_pos hj];exact ⟨_,rfl⟩
 ·rw [if_neg hj,if_neg hj];exact ⟨_,rfl⟩
def K4 (K:W.Frag) (x:V) (H:Hp) (n:Nat):Prop:=
 match x with
 | .str y=>y.length <= sizeLine /\ n = y.length
 | .byt y=>y.size <= sizeLine /\ n = y.size
 | .ref p=>(∃ xs,SqL K H p xs /\ n = xs.length) \/ ∃ xs,SqT K H p xs /\ n = xs.length
 | _=>False
theorem DB:CallR X (.builtin "len") (fun xs H Q=>∃ x n,xs = [x] /\ K4 X.K x H n /\ Q (.int n) H):=by
 intro pins s σ H xs us Q I r h
 obtain ⟨x,n,rfl,e,q⟩:=h
 obtain ⟨u,rfl,rx⟩:=FZ r
 have hl:=lf
 have hs:sizeLine = 16777216:=sizeLine_eq
 cases x with
 | str y=>
  obtain ⟨t,rfl⟩:=rx
  obtain ⟨hy,e'⟩:y.length <= sizeLine /\ n = y.length:=e
  subst e'
  exact len_str (by lia) ⟨.int _,H,I.tok _,⟨_,rfl⟩,q⟩
 | byt y=>
  obtain ⟨t,rfl⟩:=rx
  obtain ⟨hy,e'⟩:y.size <= sizeLine /\ n = y.size:=e
  subst e'
  exact W.len_bytes (by lia) ⟨.int _,H,I.tok _,⟨_,rfl⟩,q⟩
 | ref p=>
  cases rx
  have e':(∃ xs,SqL X.K H p xs /\ n = xs.length) \/ ∃ xs,SqT X.K H p xs /\ n = xs.length:=e
  rcases e' with ⟨xs,hx,e'⟩ | ⟨xs,hx,e'⟩
  ·subst e'
   obtain ⟨its,r',pl,hz⟩:=I.list hx
   have hlen:=r'.length
   exact Calls.call_len_list pl.isList (by simp only [List.size_toArray];lia) ⟨.int xs.length,H,I.tok _,⟨_,by simp only [List.size_toArray];rw [hlen]⟩,q⟩
  ·subst e'
   obtain ⟨its,r',pl,hz⟩:=I.tuple hx
   have hlen:=r'.length
   exact len_tuple pl (by simp only [List.size_toArray];lia) ⟨.int xs.length,H,I.tok _,⟨_,by simp only [List.size_toArray];rw [hlen]⟩,q⟩
 | _=>exact (show False from e).elim
end
structure ObjM (h:Heap) (x dx C:Addr) (mA:Str -> Option Value):Prop where
 obj:h.get? x = some (W.instObj C dx)
 ns:h.Ns1 dx mA
 ne:dx ≠ x
theorem B9 {h:Heap} {dx:Addr} {mA:Str -> Option Value} (n:h.Ns1 dx mA):∃ od,h.get? dx = some od /\ ∀ name,W.lookIn name od = some (mA name):=by
 obtain ⟨o,es,ep,ho,hd,hk,_,hm⟩:=n
 refine ⟨o,ho,fun name=>?_⟩
 have e:=hm name
 unfold nsFind findBy at e
 rw [<- Array.find?_toList] at e
 unfold W.lookIn
 rw [hd]
 dsimp only
 split
 ·rename_i y q
  rw [q] at e
  exact congrArg some e
 ·rename_i q
  rw [q] at e
  have a:es.toList.any (·.refKey) = false:=by
   rw [List.any_eq_false]
   intro y hy
   obtain ⟨z,t,hkey⟩:=hk y (Array.mem_toList_iff.mp hy)
   simp [DictEntry.refKey,hkey]
  have a':¬ es.toList.any (·.refKey) = true:=by rw [a];exact Bool.false_ne_true
  rw [if_neg a']
  exact congrArg some e
theorem ObjM.look  {dx:Addr} {mA:Str -> Option Value} (I:ObjM h x dx C mA):∃ od,W.InstAt h x (W.instObj C dx) C (some od) /\ ∀ name,W.lookIn name od = some (mA name):=
 let ⟨od,ho,hl⟩:=B9 I.ns
 ⟨od,⟨I.obj,rfl,rfl,ho⟩,hl⟩
section
variable {prog:Program} {w:World} {A:Around} {E:Value -> Shared -> Prop} {s:Shared} {K:W.Frag} {x dx C f:Addr} {mA:Str -> Option Value} {name:Str} {v:Value}
theorem GF {expr:Bool} {Q:Value -> Shared -> Prop} (X:K.In s.heap) (I:ObjM s.heap x dx C mA) (hg:W.plainGet K C name = true) (hh:W.hasDictIn K C = true)
  (ha:W.findIn K (.ref C) name = some none) (hv:mA name = some v) (hv':W.handedIn v = true) (h:Q v { s with toks:=s.toks + 1 }) :
  wpAny (model prog w) A (getAttr (.ref x) name expr) Q E s:=by
 obtain ⟨od,J,hl⟩:=I.look
 exact W.get_value X J (W.plainGet_of hg).1 (W.findObj_own hh ha rfl (by rw [hl,hv])) hv' h
theorem D6  {Q:Value × List Value -> Shared -> Prop} (X:K.In s.heap) (I:ObjM s.heap x dx C mA) (hg:W.plainGet K C name = true)
  (hf:W.findIn K (.ref C) name = some (some (.ref f))) (ht:W.isFn K (.ref f) = true) (hv:mA name = none) (h:Q (.ref f,[.ref x]) s) :
  wpAny (model prog w) A (getMethod (.ref x) name pl) Q E s:=by
 obtain ⟨od,J,hl⟩:=I.look
 exact W.method_fn X J (W.plainGet_of hg).1 (W.plainGet_of hg).2 hf (beq_iff_eq.mp ht) (by show (W.lookIn name od).map (·.isSome) = some false;rw [hl,hv];rfl) h
theorem Hw  {Q:Unit -> Shared -> Prop} (X:K.In s.heap) (I:ObjM s.heap x dx C mA)
  (hs:W.findIn K (.ref C) "__setattr__" = some (some (.builtin "object.__setattr__"))) (hp:W.plainOver K C = true) (ht:W.takerIn K C name = some none) (hh:W.hasDictIn K C = true)
  (hw:PySem.Within mA ns) (hsz:ns.length <= sizeLine)
  (h:∀ h',ObjM h' x dx C (fun y=>if y = name then some v else mA y) -> Heap.SameBut dx s.heap h' -> Q () { s with heap:=h',toks:=s.toks + 2 }) :
  wpAny (model prog w) A (setAttr (.ref x) name v) Q E s:=by
 obtain ⟨od,J,hl⟩:=I.look
 refine W.set_plain X J hs (W.osa_open (s:={ s with toks:=s.toks + 1 }) (r:=none) X J hp ht fun b=>?_)
 obtain ⟨cd,hc,hd'⟩:=W.any_some hh
 have hx:s.heap.get? x = some ⟨.ref C,some dx,.plain,#[]⟩:=I.obj
 refine wpAny_bind (wpAny_pure (wpAny_bind (wpAny_bind (wpAny_loadPart hx (wpAny_bind (W.Looks.here (s:={ s with toks:=s.toks + 1 }) (W.looks_clsIn X hc) ?_))))))
 rw [hd']
 refine wpAny_pure (a:=some dx) (wpAny_bind (wpAny_pure (wpAny_bind ?_)))
 refine wpAny_nsSet1 (s:={ s with toks:=s.toks + 1 }) I.ns fun h' hn2 hs2=>?_
 obtain ⟨oD,esD,epD,hoD,hdD,hcD⟩:=hn2.count (PySem.Within.cons name v hw)
 refine wpAny_bind (wpAny_lookBehind hoD (by rw [hdD];exact pastItsLine_dict (Nat.le_trans hcD (by rw [List.length_cons];lia))) ?_)
 exact wpAny_pure (h _ ⟨(hs2.2 _ (Ne.symm I.ne)).trans I.obj,hn2,I.ne⟩ hs2)
theorem Ew  {vs:List Value} {kw:List (Str × Value)} (X:K.In s.heap) (hm:W.makesIn K C = true)
  (hi:W.findIn K (.ref C) "__init__" = some (some (.ref f))) (hf:W.typeIn K (.ref f) = some (.type "function"))
  (h:codeAny (model prog w) (A.under (.builtin "type.__call__" ⟨.ref C :: vs,kw⟩)) (.call (.ref f) ⟨.ref (s.heap.objs.size + 1) :: vs,kw⟩) (W.InitBack (s.heap.objs.size + 1) R)
   { s with heap:=(s.heap.push W.emptyDict).push (W.instObj C s.heap.objs.size) }) :
  codeAny (model prog w) A (.call (.ref C) ⟨vs,kw⟩) R s:=by
 obtain ⟨hh,g,d,t,os⟩:=s
 exact W.make_core (W.makes_of X hm) (W.looks_findIn X hi) (fun self=>W.bind_fn X self hf) (.inl rfl) h
end
noncomputable def kh (f:Str) (v:V):List (Str × V) -> List (Str × V)
 | []=>[(f,v)]
 | (g,x) :: r=>if g = f then (g,v) :: r else (g,x) :: kh f v r
theorem oB (f g:Str) (v:V):∀ fs:List (Str × V),(kh f v fs).lookup g = if g = f then some v else fs.lookup g
 | []=>by
  show List.lookup g [(f,v)] = _
  by_cases h:g = f
  ·have hb:(g == f) = true:=beq_iff_eq.mpr h
   simp only [List.lookup,hb,if_pos h]
  ·have hb:(g == f) = false:=beq_eq_false_iff_ne.mpr h
   simp only [List.lookup,hb,if_neg h]
 | (k,x) :: r=>by
  have ih:=oB f g v r
  rw [show kh f v ((k,x) :: r) = (if k = f then (k,v) :: r else (k,x) :: kh f v r) from rfl]
  by_cases hk:k = f
  ·rw [if_pos hk]
   by_cases h:g = k
   ·have hb:(g == k) = true:=beq_iff_eq.mpr h
    simp only [List.lookup,hb,if_pos (h.trans hk)]
   ·have hb:(g == k) = false:=beq_eq_false_iff_ne.mpr h
    simp only [List.lookup,hb,if_neg (fun e:g = f=>h (e.trans hk.symm))]
  ·rw [if_neg hk]
   by_cases h:g = k
   ·have hb:(g == k) = true:=beq_iff_eq.mpr h
    simp only [List.lookup,hb,if_neg (fun e:g = f=>hk (h.symm.trans e))]
   ·have hb:(g == k) = false:=beq_eq_false_iff_ne.mpr h
    simp only [List.lookup,hb]
    exact ih
theorem nv (f:Str) (v:V):∀ fs:List (Str × V),f ∈ (kh f v fs).map (·.1) /\ ∀ g,g ∈ fs.map (·.1) -> g ∈ (kh f v fs).map (·.1)
 | []=>⟨by simp [kh],fun g h=>by simp at h⟩
 | (k,x) :: r=>by
  obtain ⟨i1,i2⟩:=nv f v r
  rw [show kh f v ((k,x) :: r) = (if k = f then (k,v) :: r else (k,x) :: kh f v r) from rfl]
  by_cases hk:k = f
  ·rw [if_pos hk]
   subst hk
   exact ⟨by simp,fun g h=>by simpa using h⟩
  ·rw [if_neg hk]
   refine ⟨?_,fun g h=>?_⟩
   ·rw [List.map_cons]
    exact List.mem_cons_of_mem _ i1
   ·rw [List.map_cons] at h ⊢
    rcases List.mem_cons.mp h with e | e
    ·exact List.mem_cons.mpr (.inl e)
    ·exact List.mem_cons_of_mem _ (i2 g e)
theorem oz (f:Str) (v:V):∀ fs:List (Str × V),(kh f v fs).length <= fs.length + 1
 | []=>by simp [kh]
 | (k,x) :: r=>by
  have ih:=oz f v r
  rw [show kh f v ((k,x) :: r) = (if k = f then (k,v) :: r else (k,x) :: kh f v r) from rfl]
  by_cases hk:k = f
  ·rw [if_pos hk,List.length_cons,List.length_cons];lia
  ·rw [if_neg hk,List.length_cons,List.length_cons];lia
theorem RelO.some_of {v:V}  (r:RelO (some v) o):∃ u,o = some u /\ RelV v u:=by
 cases o with
 | none=>exact (show False from r).elim
 | some u=>exact ⟨u,rfl,r⟩
theorem RelO.none_of  (r:RelO none o):o = none:=by
 cases o with
 | none=>rfl
 | some u=>exact (show False from r).elim
theorem BX   (r:RelV v u):W.handedIn u = true:=by
 cases v with
 | non=>cases (show u = Value.none from r);rfl
 | bl b=>cases (show u = Value.bool b from r);rfl
 | int i=>obtain ⟨t,e⟩:=(show ∃ t,u = Value.int i t from r);cases e;rfl
 | str x=>obtain ⟨t,e⟩:=(show ∃ t,u = Value.str x t from r);cases e;rfl
 | byt b=>obtain ⟨t,e⟩:=(show ∃ t,u = Value.bytes b t from r);cases e;rfl
 | flt b=>obtain ⟨t,e⟩:=(show ∃ t,u = Value.float b t from r);cases e;rfl
 | ref a=>cases (show u = Value.ref a from r);rfl
 | ty n=>cases (show u = Value.type n from r);rfl
section
variable {P:Program} {w:World} {H H':Hp} {h h':Heap} {a C dx:Addr} {fs fs':List (Str × V)}
theorem uR (hok:HOk P w H h) (e:H a = some (.ins C dx fs)):∃ mA,ObjM h a dx C mA /\ (∀ f,RelO (fs.lookup f) (mA f)) /\ PySem.Within mA (fs.map (·.1)) /\ fs.length <= 1000 /\ H dx = some (.own a):=by
 obtain ⟨d,z,ne,ob,mA,n,r,q⟩:=(show ObjOk P w H h a (.ins C dx fs) from hok a _ e)
 exact ⟨mA,⟨ob,n,ne⟩,r,q,z,d⟩
end
structure Cls (K:W.Frag) (C:Addr):Prop where
 pg:W.plainGet K C Str.empty = true
 hd:W.hasDictIn K C = true
 po:W.plainOver K C = true
 sa:W.findIn K (.ref C) "__setattr__" = some (some (.builtin "object.__setattr__"))
theorem Cls.get {K:W.Frag} {C:Addr} (c:Cls K C) (f:Str):W.plainGet K C f = true:=c.pg
def NoAttr (K:W.Frag) (C:Addr) (f:Str):Prop:=W.findIn K (.ref C) f = some none
theorem NoAttr.taker {K:W.Frag} {C:Addr} {f:Str} (n:NoAttr K C f):W.takerIn K C f = some none:=by
 unfold W.takerIn
 rw [show W.findIn K (.ref C) f = some none from n]
 rfl
structure Con (K:W.Frag) (C:Addr) (f:Str) (v:V) (u:Value):Prop where
 at_:W.findIn K (.ref C) f = some (some u)
 rel:RelV v u
 get:W.specialIn K u "__get__" = some none
 cp:W.copiedNames.contains f = false
structure Meth (K:W.Frag) (C:Addr) (m:Str) (f:Addr):Prop where
 at_:W.findIn K (.ref C) m = some (some (.ref f))
 fn:W.isFn K (.ref f) = true
 kp:W.keepIn K (.ref f) = true
section
variable {X:Cx} {pins:List (Addr × Obj)} {σ:St} {H:Hp} {s:Shared} {a C dx:Addr} {fs:List (Str × V)} {f:Str} {v:V} {A:Around} {E:Value -> Shared -> Prop}
theorem y8 {b:Bool} {Q:Value -> Shared -> Prop} (I:Inv X pins σ H s) (e:H a = some (.ins C dx fs)) (c:Cls X.K C) (n:NoAttr X.K C f) (l:fs.lookup f = some v)
  (h:∀ u s',Inv X pins σ H s' -> RelV v u -> Q u s'):wpAny (model X.prog X.w) A (getAttr (.ref a) f b) Q E s:=by
 obtain ⟨mA,O,r,_,_,_⟩:=uR I.hok e
 obtain ⟨u,hu,ru⟩:=RelO.some_of (v:=v) (o:=mA f) (by rw [<- l];exact r f)
 exact GF I.kIn O (c.get f) c.hd n hu (BX ru) (h u _ (I.tok _) ru)
theorem y9    {Q:Value × List Value -> Shared -> Prop} (I:Inv X pins σ H s) (e:H a = some (.ins C dx fs)) (c:Cls X.K C) (k:Meth X.K C m g) (l:fs.lookup m = none)
  (h:Q (.ref g,[.ref a]) s):wpAny (model X.prog X.w) A (getMethod (.ref a) m pl) Q E s:=by
 obtain ⟨mA,O,r,_,_,_⟩:=uR I.hok e
 have hn:mA m = none:=RelO.none_of (by rw [<- l];exact r m)
 exact D6 I.kIn O (c.get m) k.at_ k.fn hn h
theorem zS   {Q:Unit -> Shared -> Prop} (I:Inv X pins σ H s) (e:H a = some (.ins C dx fs)) (c:Cls X.K C) (n:NoAttr X.K C f) (hl:fs.length < 1000) (ry:RelV y u)
  (h:∀ s',Inv X pins σ (upd H a (.ins C dx (kh f y fs))) s' -> Q () s'):wpAny (model X.prog X.w) A (setAttr (.ref a) f u) Q E s:=by
 obtain ⟨mA,O,r,wi,_,ho⟩:=uR I.hok e
 have hz:(fs.map (·.1)).length <= sizeLine:=by rw [List.length_map,sizeLine_eq];lia
 refine Hw I.kIn O c.sa c.po n.taker c.hd wi hz fun h' O' sb=>h _ ?_
 have hd:∃ o,h'.get? dx = some o:=let ⟨o,_,_,e',_⟩:=O'.ns;⟨o,e'⟩
 refine I.write (x:=a) (e:=dx) (by rw [e];exact True.intro) (.inr ho) (fun b q hb z=>(sb.2 b hb).trans z) hd ?_
 refine ⟨by rw [aw O.ne];exact ho,?_,O.ne,O'.obj,_,O'.ns,fun g=>?_,fun g hg=>?_⟩
 ·have:=oz f y fs;lia
 ·show RelO ((kh f y fs).lookup g) (if g = f then some u else mA g)
  rw [oB]
  by_cases q:g = f
  ·rw [if_pos q,if_pos q];exact ry
  ·rw [if_neg q,if_neg q];exact r g
 ·by_cases q:g = f
  ·rw [q];exact (nv f y fs).1
  ·refine (nv f y fs).2 g (wi g fun z=>hg ?_)
   show (if g = f then some u else mA g) = none
   rw [if_neg q];exact z
theorem Inv.made (I:Inv X pins σ H s):Inv X pins σ (upd (upd H s.heap.objs.size (.own (s.heap.objs.size + 1))) (s.heap.objs.size + 1) (.ins C s.heap.objs.size []))
  { s with heap:=(s.heap.push W.emptyDict).push (W.instObj C s.heap.objs.size) }:=by
 have e1:(s.heap.push W.emptyDict).get? s.heap.objs.size = some W.emptyDict:=Heap.get?_push_size s.heap rfl
 have e2:((s.heap.push W.emptyDict).push (W.instObj C s.heap.objs.size)).get? (s.heap.objs.size + 1) = some (W.instObj C s.heap.objs.size):=by
  have:=Heap.get?_push_size (s.heap.push W.emptyDict) (o:=W.instObj C s.heap.objs.size) rfl
  rwa [Heap.size_push] at this
 have e3:(s.heap.push W.emptyDict).Ns s.heap.objs.size (fun _=>none):=⟨W.emptyDict,#[],_,e1,rfl,(fun e he=>absurd he (by simp)),fun _=>rfl⟩
 have I1:=I.laid (a:=s.heap.objs.size) (o:=.own (s.heap.objs.size + 1)) (h':=s.heap.push W.emptyDict) (t':=s.toks) (fun b u q=>Heap.get?_push_of_some _ q) (Nat.le_refl _) ⟨_,e1⟩
 refine I1.laid (a:=s.heap.objs.size + 1) (o:=.ins C s.heap.objs.size []) (t':=s.toks) (fun b u q=>Heap.get?_push_of_some _ q) (Nat.le_of_eq (Heap.size_push _ _)) ?_
 have ne:s.heap.objs.size ≠ s.heap.objs.size + 1:=Nat.ne_of_lt (Nat.lt_succ_self _)
 refine ⟨by rw [aw ne,av],Nat.zero_le _,ne,e2,fun _=>none,(Heap.Ns1.of_empty e3).at fun o q=>Heap.get?_push_of_some _ q,fun _=>True.intro,fun y hy=>absurd rfl hy⟩
theorem Gi {prog:Program}     {pos:Pos}   (hb:attributeBase e f env (eval e env) = eval e env)
  (h:wpAny (model prog w) A (eval e env) (fun o s₁=>wpAny (model prog w) A (getAttr o f true) Q E s₁) E s):wpAny (model prog w) A (eval (.Attribute e f pos) env) Q E s:=
 Attribute_any_ h (by rw [arm_eval_Attribute,hb])
end
noncomputable def Mj (K:W.Frag) (ta tv:TE) (f:Str):TS:=fun D σ H=>tv σ H fun y H1=>ta σ H1 fun x H2=>∃ a C dx fs,x = .ref a /\ H2 a = some (.ins C dx fs) /\ Cls K C /\ NoAttr K C f /\ fs.length < 1000 /\
 D.nx σ (upd H2 a (.ins C dx (kh f y fs)))
section
variable {X:Cx} {o e value:Expr} {f:Str} {pos pos' tpos:Pos} {ta tv:TE}
theorem J4 (ha:PE X o ta) (hv:PE X value tv) (hs:swapsWith value (some (.Attribute o f pos')) pos.line X.env = pure false):PS X (.Assign [.Attribute o f pos'] value pos) (Mj X.K ta tv f):=by
 intro pins s σ H D I h
 refine plainObj_wpAny_Assign_Attribute (thn (hv pins s σ H _ I h) fun u s1 ⟨y,H1,I1,ry,q⟩=>thn (ha pins s1 σ H1 _ I1 q) fun ov s2 hpt9=>?_) hs
 obtain ⟨x,H2,I2,rx,a,C,dx,fs,ex,ea,c,n,l,q2⟩:=hpt9
 subst ex
 obtain rfl:ov = Value.ref a:=rx
 exact zS I2 ea c n l ry fun s3 I3=>⟨σ,_,I3,q2⟩
end
section
variable {X:Cx} {pins:List (Addr × Obj)} {σ:St} {H:Hp} {s:Shared} {A:Around} {E:Value -> Shared -> Prop} {Q:Value -> Shared -> Prop} {c:Value} {b:Bool}
inductive TyOf (K:W.Frag) (H:Hp):V -> Value -> Prop where
 | non:TyOf K H .non (.type "NoneType")
 | bl (x:Bool):TyOf K H (.bl x) (.type "bool")
 | int (i:Int):TyOf K H (.int i) (.type "int")
 | str (x:Str):TyOf K H (.str x) (.type "str")
 | flt (x:UInt64):TyOf K H (.flt x) (.type "float")
 | lst {a:Addr} {xs:List V} (e:H a = some (.lst xs)):TyOf K H (.ref a) (.type "list")
 | frz {a:Addr} {o:Obj} {xs:List V} (e:H a = some (.frz o (.lst xs))):TyOf K H (.ref a) (.type "list")
 | tup {a:Addr} {xs:List V} (e:H a = some (.tup xs)):TyOf K H (.ref a) (.type "tuple")
 | dK {a:Addr} {kvs:List (Key × V)} (e:H a = some (.dK kvs)):TyOf K H (.ref a) (.type "dict")
 | dT {a:Addr} {kvs:List (List Key × V)} (e:H a = some (.dT kvs)):TyOf K H (.ref a) (.type "dict")
 | ins {a C dx:Addr} {fs:List (Str × V)} (e:H a = some (.ins C dx fs)) (cl:Cls K C) (ha:W.findIn K (.ref C) "__class__" = some (some (.builtin "object.__class__")))
   (hn:W.specialIn K (.builtin "object.__class__") "__get__" = some (some (.builtin "getset_descriptor.__get__"))) (htk:W.takesIn K (.builtin "object.__class__") = some true)
   (hm:W.mroIn K C (.type "object") = some true):TyOf K H (.ref a) (.ref C)
end
structure Room (k:Nat) (A:Around):Prop where
 hd:A.handled = none
 dp:A.depth + 3 * k + 5 < recursionLimit
 un:A.units + 16 * k + 200 < cLine
theorem Room.mono {j k:Nat}  (r:Room k A) (h:j <= k):Room j A:=⟨r.hd,by have:=r.dp;lia,by have:=r.un;lia⟩
theorem Room.deeper {k:Nat}  (r:Room (k + 1) A) (env:Env):Room k (A.deeper env):=
 ⟨r.hd,by have:=r.dp;show A.depth + 1 + 3 * k + 5 < _;lia,by have:=r.un;show A.units + 3 + 16 * k + 200 < _;lia⟩
theorem zp {A:Around} {C:Addr} {us:List Value} {kw:List (Str × Value)}:(A.under (.builtin "type.__call__" ⟨.ref C :: us,kw⟩)).depth = A.depth + 1:=by
 first | rfl | simp [Around.under,Code.weight,Code.isCreation,Code.isGuard,Code.isCaller,Code.frames,Code.isFrame,guardIds]
theorem zq {A:Around} {C:Addr} {us:List Value} {kw:List (Str × Value)}:(A.under (.builtin "type.__call__" ⟨.ref C :: us,kw⟩)).units = A.units + 1:=by
 first | rfl | simp [Around.under,Code.cUnits,Code.frames,Code.isFrame]
theorem Room.make {k:Nat}  (r:Room (k + 1) A) (C:Addr) (us:List Value) (kw:List (Str × Value)):Room k (A.under (.builtin "type.__call__" ⟨.ref C :: us,kw⟩)):=
 ⟨r.hd,by have:=r.dp;rw [zp];lia,by have:=r.un;rw [zq];lia⟩
theorem Room.depth {k:Nat}  (r:Room k A):A.depth < recursionLimit:=by have:=r.dp;lia
theorem Room.units {k:Nat}  (r:Room k A):A.units + 64 < cLine:=by have:=r.un;lia
noncomputable def rV:TA:=fun _ H Q=>Q [] H
noncomputable def ig (ta:TE) (tr:TA):TA:=fun σ H Q=>ta σ H fun x H1=>tr σ H1 fun xs H2=>Q (x :: xs) H2
section
variable {X:Cx} {e:Expr} {es:List Expr} {te:TE} {t:TA} {pos:Pos}
theorem bu:PA X [] rV:=fun _ _ _ _ H Q I h=>Calls.spliced_nil ⟨[],H,I,.nil,h⟩
theorem aF (ha:PE X e te) (hr:PA X es t) (hs:starEach (e :: es) X.env = (false,eval e X.env) :: starEach es X.env:=by rfl):PA X (e :: es) (ig te t):=by
 intro pos pins s σ H Q I h
 rw [hs]
 show wpAny _ _ (spliced ((false,eval e X.env) :: backTo pos (starEach es X.env))) _ _ s
 refine Calls.spliced_cons (thn (ha pins s σ H _ I h) fun u s1 hpt9=>?_)
 obtain ⟨x,H1,I1,r1,q1⟩:=hpt9
 exact thn (hr pos pins s1 σ H1 _ I1 q1) fun us s2 ⟨xs,H2,I2,r2,q2⟩=>⟨x :: xs,H2,I2,.cons r1 r2,q2⟩
noncomputable def HK (t:TA):TE:=fun σ H Q=>t σ H fun xs H1=>xs.length <= sizeLine /\ ∀ p,H1 p = none -> Q (.ref p) (upd H1 p (.tup xs))
noncomputable def HH (t:TA):TE:=fun σ H Q=>t σ H fun xs H1=>xs.length <= sizeLine /\ ∀ p,H1 p = none -> Q (.ref p) (upd H1 p (.lst xs))
theorem vj {x1} (h:PA X es t):PE X (.Tuple es x1 pos) (HK t):=by
 intro pins s σ H Q I hq
 refine wpAny_Tuple_spliced (thn (h pos pins s σ H _ I hq) fun us s1 ⟨xs,H1,I1,r,z,q⟩=>⟨by rw [<- r.length];exact z,?_⟩)
 have hf:H1 s1.heap.objs.size = none:=I1.hok.fresh (Nat.le_refl _)
 refine ⟨.ref s1.heap.objs.size,upd H1 s1.heap.objs.size (.tup xs),I1.laid (t':=s1.toks) (fun b u e=>Heap.get?_push_of_some _ e) (Nat.le_refl _) ?_,rfl,q _ hf⟩
 exact ⟨z,us,r,⟨_,Heap.get?_push_size _ rfl,rfl,_,rfl⟩⟩
theorem JS (h:PA X es t):PE X (.List es pos) (HH t):=by
 intro pins s σ H Q I hq
 refine wpAny_List_spliced (thn (h pos pins s σ H _ I hq) fun us s1 ⟨xs,H1,I1,r,z,q⟩=>⟨by rw [<- r.length];exact z,?_⟩)
 have hf:H1 s1.heap.objs.size = none:=I1.hok.fresh (Nat.le_refl _)
 refine ⟨.ref s1.heap.objs.size,upd H1 s1.heap.objs.size (.lst xs),I1.laid (t':=s1.toks) (fun b u e=>Heap.get?_push_of_some _ e) (Nat.le_refl _) ?_,rfl,q _ hf⟩
 exact ⟨z,us,0,r,Heap.get?_push_size _ rfl⟩
end
noncomputable abbrev Sp:=List V -> Hp -> VK -> XK -> Prop
noncomputable abbrev CXT:=List Env -> Hp -> Shared -> XK -> Value -> Shared -> Prop
structure Env0 (P:Program) (w:World) (K:W.Frag) (mg:Str -> Option Value) (base:Heap) (A:Around) (outer:List Env) (s:Shared) (H:Hp):Prop where
 frames:A.frames = some outer
 mod:Mod K mg base
 bs:∀ b o,base.get? b = some o -> s.heap.get? b = some o /\ H b = none
 bsz:base.objs.size <= s.heap.objs.size
 funs:s.heap.FunFrames base outer
 frf:∀ b ∈ frs outer,H b = none
 hok:HOk P w H s.heap
 bare:AllBare s.gens
def CE (outer:List Env) (P:Program) (w:World) (H:Hp) (s:Shared) (Q:VK) (u:Value) (s':Shared):Prop:=
 ∃ v H',s'.os = s.os /\ AllBare s'.gens /\ Un (frs outer) [] H H' s.heap s'.heap /\ HOk P w H' s'.heap /\ RelV v u /\ Q v H'
def CR (CX:CXT) (outer:List Env) (P:Program) (w:World) (H:Hp) (s:Shared) (Q:VK) (E:XK) (r:Result) (s':Shared):Prop:=
 match r with
 | .ok (.ret u)=>CE outer P w H s Q u s'
 | .ok _=>False
 | .error e=>CX outer H s E e s'
structure FnOk (P:Program) (w:World) (K:W.Frag) (mg:Str -> Option Value) (base:Heap) (CX:CXT) (k:Nat) (f:Addr) (fd:FuncData) (ps:List Str) (sp:Sp):Prop where
 len:∀ vs H Q E,sp vs H Q E -> vs.length = ps.length
 run:∀ (A:Around) (outer:List Env) (s:Shared) (H:Hp) (args:Args) (us:List Value) (vs:List V) (Q:VK) (E:XK),Room k A -> Env0 P w K mg base A outer s H -> BindsTo s fd args (ps.zip us) -> Vals vs us -> sp vs H Q E ->
  codeAny (model P w) A (.call (.ref f) args) (CR CX outer P w H s Q E) s
theorem Env0.make {P:Program} {w:World} {K:W.Frag} {mg:Str -> Option Value} {base:Heap} {A:Around} {outer:List Env} {s:Shared} {H:Hp} (e:Env0 P w K mg base A outer s H) (C:Addr) (us:List Value) (kw:List (Str × Value)) :
  Env0 P w K mg base (A.under (.builtin "type.__call__" ⟨.ref C :: us,kw⟩)) outer s H:=⟨by first | exact e.frames | (simpa [Around.under,Code.envs,Code.isFrame,pushEnvs] using e.frames),e.mod,e.bs,e.bsz,e.funs,e.frf,e.hok,e.bare⟩
section
variable {X:Cx} {pins:List (Addr × Obj)} {σ:St} {H:Hp} {s s':Shared}
theorem Inv.env0 (I:Inv X pins σ H s):Env0 X.prog X.w X.K X.mg X.base X.A X.stack s H:=
 ⟨I.ok.frames,I.ok.mod,I.bs,Nat.le_trans I.ok.bsz I.sz,I.stack,I.stkFree,I.hok,I.bare⟩
theorem Inv.after   (I:Inv X pins σ H s) (h:CE X.stack X.prog X.w H s Q u s'):EP X pins σ Q u s':=by
 obtain ⟨v,H',os,bare,un,hok,r,q⟩:=h
 obtain ⟨hh,g,d,t,os'⟩:=s'
 obtain rfl:os' = s.os:=os
 exact ⟨v,H',I.call (h':=hh) (g':=g) (d':=d) (t':=t) (ch:=[]) un hok bare (fun b z=>absurd z (by simp)),r,q⟩
end
noncomputable def oM (sp:Sp) (dvs:List V) (E:XK) (t:TA):TE:=fun σ H Q=>t σ H fun vs H1=>sp (vs ++ dvs) H1 Q E
noncomputable def IB (C:Addr) (sp:Sp) (dvs:List V) (E:XK) (t:TA):TE:=fun σ H Q=>t σ H fun vs H1=>∀ x dx,H1 x = none -> H1 dx = none -> dx ≠ x ->
 sp (.ref x :: (vs ++ dvs)) (upd (upd H1 dx (.own x)) x (.ins C dx [])) (fun v H2=>v = .non /\ Q (.ref x) H2) E
def Binds (K:W.Frag) (fd:FuncData) (ps:List Str) (ds:List Value):Prop:=
 ∀ (s:Shared) (us:List Value),K.In s.heap -> (us ++ ds).length = ps.length -> BindsTo s fd ⟨us,[]⟩ (ps.zip (us ++ ds))
theorem Binds.all {K:W.Frag} {fd:FuncData} {ps:List Str} (h:∀ us:List Value,us.length = ps.length -> bindArgs fd ⟨us,[]⟩ = pure (ps.zip us)):Binds K fd ps []:=fun s us _ hl=>by
 rw [List.append_nil] at hl ⊢
 exact .of_eq (h us hl)
def jt (CX:CXT) (X:Cx) (E:XK):Prop:=∀ (pins:List (Addr × Obj)) (σ:St) (H:Hp) (s:Shared) (e:Value) (s':Shared),Inv X pins σ H s -> CX X.stack H s E e s' -> X.xe e s'
section
variable {X:Cx} {CX:CXT} {k:Nat} {f C:Addr} {fd:FuncData} {ps:List Str} {sp:Sp} {dvs:List V} {ds:List Value} {E:XK} {x m:Str} {p pos apos:Pos} {e o:Expr} {es:List Expr} {ta:TE} {t:TA}
theorem zR {pins:List (Addr × Obj)}       (F:FnOk X.prog X.w X.K X.mg X.base CX k f fd ps sp) (hr:Room k X.A) (hb:Binds X.K fd ps ds) (hd:Vals dvs ds) (hx:jt CX X E)
  (I:Inv X pins σ H s) (r:Vals vs us) (h:sp (vs ++ dvs) H Q E):wpAny (model X.prog X.w) X.A (call (.ref f) us) (EP X pins σ Q) X.xe s:=by
 have r2:Vals (vs ++ dvs) (us ++ ds):=r.append hd
 have hl:(us ++ ds).length = ps.length:=by rw [<- r2.length];exact F.len _ _ _ _ h
 refine wpAny_call (codeAny_mono (F.run X.A X.stack s H ⟨us,[]⟩ (us ++ ds) (vs ++ dvs) Q E hr I.env0 (hb s us I.kIn hl) r2 h) fun r s' hq=>?_)
 cases r with
 | error e=>exact hx pins σ H s e s' I hq
 | ok fl=>
  cases fl with
  | ret u=>exact I.after hq
  | next=>exact False.elim hq
  | brk=>exact False.elim hq
  | cont=>exact False.elim hq
theorem G8 (F:FnOk X.prog X.w X.K X.mg X.base CX k f fd ps sp) (hr:Room k X.A) (hg:Gl X x) (hm:X.mg x = some (.ref f)) (hk:W.keepIn X.K (.ref f) = true) (hb:Binds X.K fd ps ds) (hd:Vals dvs ds) (hx:jt CX X E)
  (ha:PA X (e :: es) t) (hdb:(x == ("__debug__" : Str)) = false:=by decide) (he:starEach (e :: es) X.env = (false,eval e X.env) :: starEach es X.env:=by rfl) (hpl:(backTo pos (starEach es X.env)).any (·.1) = false:=by rfl) :
  PE X (.Call (.Name x p) (e :: es) [] pos) (oM sp dvs E t):=by
 intro pins s σ H Q I h
 refine wpAny_Call_Name_kw (uV I hg hm ?_ hdb)
 refine W.callWith_K (h₀:=X.base) I.ok.mod.kin hk (thn (ha pos pins s σ H _ I h) fun us s1 ⟨vs,H1,I1,r,q⟩=>⟨I1.kIn,?_⟩) he hpl
 exact zR F hr hb hd hx I1 r q
structure Mk (K:W.Frag) (C f:Addr):Prop where
 makes:W.makesIn K C = true
 init:W.findIn K (.ref C) "__init__" = some (some (.ref f))
 fn:W.isFn K (.ref f) = true
 kp:W.keepIn K (.ref C) = true
theorem Ft {pins:List (Addr × Obj)}    {Q:VK}   (M:Mk X.K C f) (F:FnOk X.prog X.w X.K X.mg X.base CX k f fd ps sp) (hr:Room (k + 1) X.A) (hb:Binds X.K fd ps ds) (hd:Vals dvs ds)
  (hx:jt CX X E) (I:Inv X pins σ H s) (r:Vals vs us)
  (h:∀ x dx,H x = none -> H dx = none -> dx ≠ x -> sp (.ref x :: (vs ++ dvs)) (upd (upd H dx (.own x)) x (.ins C dx [])) (fun v H2=>v = .non /\ Q (.ref x) H2) E) :
  wpAny (model X.prog X.w) X.A (call (.ref C) us) (EP X pins σ Q) X.xe s:=by
 have hq:=h (s.heap.objs.size + 1) s.heap.objs.size (I.hok.fresh (Nat.le_succ _)) (I.hok.fresh (Nat.le_refl _)) (Nat.ne_of_lt (Nat.lt_succ_self _))
 have I2:=Inv.made (C:=C) I
 have r2:Vals (V.ref (s.heap.objs.size + 1) :: (vs ++ dvs)) (Value.ref (s.heap.objs.size + 1) :: (us ++ ds)):=.cons rfl (r.append hd)
 have hl:(Value.ref (s.heap.objs.size + 1) :: us ++ ds).length = ps.length:=by
  have e:=r2.length
  rw [F.len _ _ _ _ hq] at e
  exact e.symm
 refine wpAny_call (Ew (f:=f) I.kIn M.makes M.init (beq_iff_eq.mp M.fn) (codeAny_mono (F.run _ X.stack _ _ ⟨Value.ref (s.heap.objs.size + 1) :: us,[]⟩ (Value.ref (s.heap.objs.size + 1) :: (us ++ ds)) _ _ E (hr.make C us [])
  (I2.env0.make C us []) (hb _ (Value.ref (s.heap.objs.size + 1) :: us) I2.kIn hl) r2 hq) fun r s' hq'=>?_))
 cases r with
 | error e=>exact hx pins σ _ _ e s' I2 hq'
 | ok fl=>
  cases fl with
  | ret u=>
   obtain ⟨v,H',I3,rv,ev,q3⟩:=I2.after hq'
   subst ev
   exact ⟨rv,⟨V.ref (s.heap.objs.size + 1),H',I3,rfl,q3⟩⟩
  | next=>exact False.elim hq'
  | brk=>exact False.elim hq'
  | cont=>exact False.elim hq'
theorem Hc (M:Mk X.K C f) (F:FnOk X.prog X.w X.K X.mg X.base CX k f fd ps sp) (hr:Room (k + 1) X.A) (hg:Gl X x) (hm:X.mg x = some (.ref C)) (hb:Binds X.K fd ps ds) (hd:Vals dvs ds) (hx:jt CX X E)
  (ha:PA X (e :: es) t) (hdb:(x == ("__debug__" : Str)) = false:=by decide) (he:starEach (e :: es) X.env = (false,eval e X.env) :: starEach es X.env:=by rfl) (hpl:(backTo pos (starEach es X.env)).any (·.1) = false:=by rfl) :
  PE X (.Call (.Name x p) (e :: es) [] pos) (IB C sp dvs E t):=by
 intro pins s σ H Q I h
 refine wpAny_Call_Name_kw (uV I hg hm ?_ hdb)
 refine W.callWith_K (h₀:=X.base) I.ok.mod.kin M.kp (thn (ha pos pins s σ H _ I h) fun us s1 ⟨vs,H1,I1,r,q⟩=>⟨I1.kIn,?_⟩) he hpl
 exact Ft M F hr hb hd hx I1 r q
end
section
variable {X:Cx} {CX:CXT} {k:Nat} {f C:Addr} {fd:FuncData} {ps ks:List Str} {sp:Sp} {E:XK} {x m:Str} {p pos apos kpos:Pos} {e o:Expr} {es:List Expr} {kws:List Keyword} {te ta:TE} {t tk:TA} {nm:Option Str}
variable {g:List Value -> List Value -> List Value} {gV:List V -> List V -> List V}
end
structure FnScope (N P:List Str) (sc:Scope):Prop where
 kind:sc.kind = .function
 co:sc.isCoroutine = false
 gen:sc.isGenerator = false
 nd:N.Nodup
 pre:N.take P.length = P
 par:∀ x ∈ P,sc.names.lookup x = some .local \/ sc.names.lookup x = some .cell
 nofree:∀ y ∈ sc.names,y.2 ≠ .free
theorem tf {kindOf:Str -> Option NameKind} {x:Str}:∀ {binds:List (Str × Value)} {m:Str -> Option Value},(∀ v,(x,v) ∉ binds) -> bindL kindOf binds m x = m x
 | [],_,_=>rfl
 | (n,v) :: r,m,h=>by
  unfold bindL
  rw [tf fun w hw=>h w (List.mem_cons_of_mem _ hw)]
  split
  ·have:x ≠ n:=by rintro rfl;exact h v List.mem_cons_self
   simp [this]
  ·rfl
theorem sZ {kindOf:Str -> Option NameKind} {x:Str}:∀ {binds:List (Str × Value)} {m:Str -> Option Value},(∀ v,(x,v) ∉ binds) -> bindC kindOf binds m x = m x
 | [],_,_=>rfl
 | (n,v) :: r,m,h=>by
  unfold bindC
  rw [sZ fun w hw=>h w (List.mem_cons_of_mem _ hw)]
  split
  ·rfl
  ·have:x ≠ n:=by rintro rfl;exact h v List.mem_cons_self
   simp [this]
theorem s9 {kindOf:Str -> Option NameKind} {x:Str} {v:Value}:∀ {P:List Str} {vs:List Value} {i:Nat} {m:Str -> Option Value},P.Nodup -> P[i]? = some x -> vs[i]? = some v -> kindOf x = some .local ->
  bindL kindOf (P.zip vs) m x = some v
 | [],_,_,_,_,h,_,_=>by simp at h
 | _ :: _,[],_,_,_,_,h,_=>by simp at h
 | p :: P,w :: vs,0,m,nd,h1,h2,hk=>by
  simp at h1 h2;subst h1;subst h2
  show bindL kindOf ((p,w) :: P.zip vs) m p = _
  unfold bindL
  rw [tf fun v hv=>(List.nodup_cons.mp nd).1 (List.of_mem_zip hv).1,if_pos hk]
  simp
 | p :: P,w :: vs,i + 1,m,nd,h1,h2,hk=>by
  show bindL kindOf ((p,w) :: P.zip vs) m x = _
  unfold bindL
  exact s9 (i:=i) (List.nodup_cons.mp nd).2 (by simpa using h1) (by simpa using h2) hk
theorem sY {kindOf:Str -> Option NameKind} {x:Str} {v:Value}:∀ {P:List Str} {vs:List Value} {i:Nat} {m:Str -> Option Value},P.Nodup -> P[i]? = some x -> vs[i]? = some v -> kindOf x ≠ some .local ->
  bindC kindOf (P.zip vs) m x = some v
 | [],_,_,_,_,h,_,_=>by simp at h
 | _ :: _,[],_,_,_,_,h,_=>by simp at h
 | p :: P,w :: vs,0,m,nd,h1,h2,hk=>by
  simp at h1 h2;subst h1;subst h2
  show bindC kindOf ((p,w) :: P.zip vs) m p = _
  unfold bindC
  rw [sZ fun v hv=>(List.nodup_cons.mp nd).1 (List.of_mem_zip hv).1,if_neg hk]
  simp
 | p :: P,w :: vs,i + 1,m,nd,h1,h2,hk=>by
  show bindC kindOf ((p,w) :: P.zip vs) m x = _
  unfold bindC
  exact sY (i:=i) (List.nodup_cons.mp nd).2 (by simpa using h1) (by simpa using h2) hk
noncomputable def eT (N:List Str) (vs:List V):St:=vs.map some ++ List.replicate (N.length - vs.length) none
noncomputable def wB (CX:CXT) (P:Program) (w:World) (K:W.Frag) (mg:Str -> Option Value) (base:Heap) (N:List Str) (qual:Str) (scope:Scope) (f:Addr) (cd:Value) (A:Around) (outer:List Env) (s:Shared) (H:Hp) (E:XK):Cx where
 prog:=P
 w:=w
 K:=K
 mg:=mg
 base:=base
 A:=A.deeper (envOfC qual scope s.heap.objs.size f cd)
 N:=N
 s₀:=s
 H₀:=H
 env:=envOfC qual scope s.heap.objs.size f cd
 outer:=outer
 stack:=envOfC qual scope s.heap.objs.size f cd :: outer
 ex:=[]
 calm:=true
 fn:=fun _=>true
 pn:=[]
 xe:=fun e s'=>wpAny (model P w) (A.deeper (envOfC qual scope s.heap.objs.size f cd)) (leaving (envOfC qual scope s.heap.objs.size f cd) e) (fun _ s''=>CX outer H s E e s'') (fun e' s''=>CX outer H s E e' s'') s'
theorem wq {sc:Scope} {n:Nat} {x:Str} (h:sc.names.lookup x = some .cell):∃ c,(cellsFrom n sc.names []).lookup x = some c:=by
 have q:=W.cellsFrom_some sc.names n [] (.inl h)
 exact Option.isSome_iff_exists.mp q
theorem B3 {CX:CXT} {P:Program} {w:World} {K:W.Frag} {mg:Str -> Option Value} {base:Heap} {N ps:List Str} {qual:Str} {scope:Scope} {f:Addr} {cd:Value} {A:Around} {outer:List Env} {s s1:Shared} {H:Hp} {E:XK} {us:List Value} {vs:List V}
  (S:FnScope N ps scope) (hd:A.handled = none) (e0:Env0 P w K mg base A outer s H) (hl:vs.length = ps.length) (r:Vals vs us)
  (x:InCallC s s.heap.objs.size (bindL (envOfC qual scope s.heap.objs.size f cd).kindOf (ps.zip us) fun _=>none) (cellsFrom (s.heap.objs.size + 1) scope.names []) (bindC (envOfC qual scope s.heap.objs.size f cd).kindOf (ps.zip us) fun _=>none) s1) :
  Inv (wB CX P w K mg base N qual scope f cd A outer s H E) [] (eT N vs) H s1:=by
 have hpl:ps.length <= N.length:=by have:=congrArg List.length S.pre;rw [List.length_take] at this;lia
 obtain ⟨h1,tk,rfl,hk⟩:=x.done
 have noA:∀ b:Addr,b ∉ (wB CX P w K mg base N qual scope f cd A outer s H E).ex:=fun b z=>absurd (show b ∈ ([]:List Addr) from z) (by simp)
 refine ⟨⟨e0.mod,S.kind,rfl,rfl,Nat.le_refl _,fun y z c h1 h2=>?_,fun y hy=>?_,fun y c _ h=>?_,fun _=>hd,Around.frames_deeper e0.frames,.inr ⟨rfl,rfl⟩,fun b z=>absurd z (noA b),e0.bs,e0.bsz,fun b _ _=>noA b,fun b z=>absurd z (noA b),e0.funs,e0.frf⟩,
  rfl,e0.bare,Un.kept hk,⟨_,x.toInCall.ns,fun i y v h1 h2 h3=>?_⟩,fun y c h=>⟨_,x.cell y c h⟩,e0.hok.fresh (Nat.le_refl _),fun y c h=>?_,fun p hp=>absurd (show p ∈ ([]:List (Addr × Obj)) from hp) (by simp),e0.hok.kept hk,?_⟩
 ·exact name_of_addr x.apart (PySem.mem_of_lookup h1) (PySem.mem_of_lookup h2)
 ·have hy:scope.names.lookup y = some .cell \/ scope.names.lookup y = some .free:=hy
  rcases hy with hy | hy
  ·exact wq hy
  ·exact absurd rfl (S.nofree _ (PySem.mem_of_lookup hy))
 ·exact Nat.le_of_lt (x.above y c (PySem.mem_of_lookup h))
 ·have hi:i < vs.length:=by
   unfold eT at h2
   by_cases hi:i < vs.length
   ·exact hi
   ·rw [List.getElem?_append_right (by simpa using hi)] at h2
    rw [List.getElem?_replicate] at h2
    split at h2 <;> cases h2
  have ha:vs[i]? = some v:=by
   unfold eT at h2
   rw [List.getElem?_append_left (by simpa using hi),List.getElem?_map] at h2
   cases e:vs[i]? with
   | none=>rw [e] at h2;cases h2
   | some a=>rw [e] at h2;cases h2;rfl
  obtain ⟨u,hu,rv⟩:=r.get ha
  have hp:ps[i]? = some y:=by
   rw [<- S.pre,List.getElem?_take_of_lt (by lia)];exact h1
  have ndP:ps.Nodup:=by rw [<- S.pre];exact S.nd.sublist (List.take_sublist _ _)
  refine ⟨u,rv,?_⟩
  rcases S.par y (List.mem_of_getElem? hp) with k | k
  ·exact .inl ⟨k,s9 ndP hp hu k⟩
  ·obtain ⟨c,e⟩:=wq (n:=s.heap.objs.size + 1) k
   refine .inr ⟨.inl k,c,e,?_⟩
   have q:=x.cell y c e
   rw [sY ndP hp hu (by show scope.names.lookup y ≠ _;rw [k];decide)] at q
   exact q
 ·exact e0.hok.fresh (Nat.le_of_lt (x.above y c (PySem.mem_of_lookup h)))
 ·unfold eT
  show _ = N.length
  rw [List.length_append,List.length_map,List.length_replicate]
  lia
theorem Lp {CX:CXT} {P:Program} {w:World} {K:W.Frag} {mg:Str -> Option Value} {base:Heap} {k:Nat} {f:Addr} {name qual:Str} {params:Arguments} {body:List Stmt} {scope:Scope} {dV kV doc pm cdv ct oc:Value} {an od:Option Addr}
  {osl:Array (Option Value)} {N ps:List Str} {sp:Sp} (lk:K.lookup f = some ⟨oc,od,.func (W.fnOf name qual params body scope dV kV doc pm an cdv ct),osl⟩) (hcd:W.codeIn K cdv qual = true) (S:FnScope N ps scope)
  (len:∀ vs H Q E,sp vs H Q E -> vs.length = ps.length)
  (hbody:∀ (A:Around) (outer:List Env) (s:Shared) (H:Hp) (vs:List V) (Q:VK) (E:XK),Room k (A.deeper (envOfC qual scope s.heap.objs.size f cdv)) -> sp vs H Q E ->
   ∃ t,PSs (wB CX P w K mg base N qual scope f cdv A outer s H E) body t /\ t { nx:=fun _ H'=>Q .non H',rt:=Q } (eT N vs) H) :
  FnOk P w K mg base CX (k + 1) f (W.fnOf name qual params body scope dV kV doc pm an cdv ct) ps sp:=by
 refine ⟨len,fun A outer s H args us vs Q E hr e0 hb r hsp=>?_⟩
 have hl:=len _ _ _ _ hsp
 have KX:K.In s.heap:=e0.mod.kin.keeps fun b o e=>(e0.bs b o e).1
 have lim:s.heap.NoLimit:=e0.mod.nolimit.keeps fun b o e=>(e0.bs b o e).1
 have hkind:∀ y ∈ ps.zip us,scope.names.lookup y.1 = some .local \/ (scope.names.lookup y.1 = some .cell /\ ((cellsFrom (s.heap.objs.size + 1) scope.names []).lookup y.1).isSome = true):=fun hpt0 hy=>by
  obtain ⟨n,v⟩:=hpt0
  rcases S.par n (List.of_mem_zip hy).1 with q | q
  ·exact .inl q
  ·exact .inr ⟨q,W.cellsFrom_some _ _ _ (.inl q)⟩
 refine codeAny_call_function hr.depth (KX _ _ lk) rfl S.co S.gen rfl (W.codeRec_of KX hcd) (hb _ _ _ _ ?_)
 refine wpAny_newFunctionEnv_cells S.kind hkind fun env he s1 x=>?_
 subst he
 refine ⟨lim.keeps x.toInCall.keep,codeAny_func ?_⟩
 obtain ⟨t,ht,hq⟩:=hbody A outer s H vs Q E (hr.deeper _) hsp
 have I:Inv (wB CX P w K mg base N qual scope f cdv A outer s H E) [] (eT N vs) H s1:=B3 S hr.hd e0 hl r x
 refine wpAny_mono (ht [] s1 (eT N vs) H _ I hq) (fun fl s' hs=>?_) fun e s' hs=>hs
 have fin:∀ {σ':St} {H':Hp} {v:V} {u:Value},Inv (wB CX P w K mg base N qual scope f cdv A outer s H E) [] σ' H' s' -> RelV v u -> Q v H' -> CE outer P w H s Q u s':=
  fun {σ' H' v u} J rv q=>⟨v,H',J.os,J.bare,J.base,J.hok,rv,q⟩
 cases fl with
 | ret u=>
  obtain ⟨v,σ',H',J,rv,q⟩:=hs
  exact fin J rv q
 | next=>
  obtain ⟨σ',H',J,q⟩:=hs
  exact fin (v:=V.non) (u:=Value.none) J rfl q
 | brk=>
  obtain ⟨_,_,_,q⟩:=hs
  exact False.elim q
 | cont=>
  obtain ⟨_,_,_,q⟩:=hs
  exact False.elim q
section
variable {X:Cx} {x:Str} {p pos:Pos} {e:Expr} {es:List Expr} {t:TA} {id T:String} {r:List V -> Hp -> VK -> Prop}
noncomputable def tCB (r:List V -> Hp -> VK -> Prop) (t:TA):TE:=fun σ H Q=>t σ H fun vs H1=>r vs H1 Q
theorem c6 (hc:CallR X (.builtin id) r) (hg:Gl X x) (hm:X.mg x = none) (hv:bootBuiltins x = some (.builtin id)) (ha:PA X (e :: es) t) (hn:x ≠ "__name__" := by decide) (hdb:(x == ("__debug__" : Str)) = false:=by decide)
  (he:starEach (e :: es) X.env = (false,eval e X.env) :: starEach es X.env:=by rfl) (hpl:(backTo pos (starEach es X.env)).any (·.1) = false:=by rfl):PE X (.Call (.Name x p) (e :: es) [] pos) (tCB r t):=by
 intro pins s σ H Q I h
 refine wpAny_Call_Name_kw (qF I hg hm hv ?_ hn hdb)
 exact PyProof.Rows.callWith_builtin1 (thn (ha pos pins s σ H _ I h) fun us s1 ⟨vs,H1,I1,r1,q1⟩=>hc pins s1 σ H1 vs us Q I1 r1 q1) he hpl
theorem fk (hc:CallR X (.type T) r) (hg:Gl X x) (hm:X.mg x = none) (hv:bootBuiltins x = some (.type T)) (ha:PA X (e :: es) t) (hn:x ≠ "__name__" := by decide) (hdb:(x == ("__debug__" : Str)) = false:=by decide)
  (he:starEach (e :: es) X.env = (false,eval e X.env) :: starEach es X.env:=by rfl) (hpl:(backTo pos (starEach es X.env)).any (·.1) = false:=by rfl):PE X (.Call (.Name x p) (e :: es) [] pos) (tCB r t):=by
 intro pins s σ H Q I h
 refine wpAny_Call_Name_kw (qF I hg hm hv ?_ hn hdb)
 exact PyProof.Rows.callWith_type1 (thn (ha pos pins s σ H _ I h) fun us s1 ⟨vs,H1,I1,r1,q1⟩=>hc pins s1 σ H1 vs us Q I1 r1 q1) he hpl
end
end L2
namespace HT
open PySem PyProof.Rows
noncomputable def bx:List Int -> List Int -> Bool
 | [],[]=>false
 | [],_ :: _=>true
 | _ :: _,[]=>false
 | x :: xs,y :: ys=>if x = y then bx xs ys else decide (x < y)
theorem zi (x y:Int) (xs ys:List Int):bx (x :: xs) (y :: ys) = if x = y then bx xs ys else decide (x < y):=rfl
section
open PySem.SeqAt
open PySem.AutoSeq1 (wpAny_loadPart')
open PySem.MeetsSeq PySem.MeetsSeq2 PySem.MeetsSeq3
end
section
variable {prog:Program} {w:World} {A:Around} {E:Value -> Shared -> Prop} {s:Shared}
theorem Gm  {vs ws:List Value} {Q:Value -> Shared -> Prop} (ht:IsTup s.heap t vs.toArray) (hb:IsTup s.heap b ws.toArray) (hv:vs ≠ [])
  (h1:ws = [] -> Q (.ref t) s) (h2:ws ≠ [] -> Q (.ref s.heap.objs.size) { s with heap:=s.heap.push { cls:=.type "tuple",data:=.seq (vs ++ ws).toArray } })
  (hsz:vs.length + ws.length <= sizeLine):wpAny (model prog w) A (binaryOp .Add (.ref t) (.ref b)) Q E s:=by
 obtain ⟨⟨cls,dd,data,sl⟩,ho,hc,n,hd⟩:=id ht
 obtain ⟨⟨cls2,dd2,data2,sl2⟩,ho2,hc2,n2,hd2⟩:=id hb
 simp only at hc hd hc2 hd2
 subst hc hd hc2 hd2
 have e:vs.toArray ++ ws.toArray = (vs ++ ws).toArray:=by simp
 by_cases hw:ws = []
 ·exact concat_meets ⟨_,ho,rfl⟩ ⟨_,ho2,rfl⟩ noFill_tuple_add seq_tuple_add PySem.F.slot_tuple_add PySem.F.entry_tuple_add (PySem.F.args_tuple_add_2 _ _)
   (tuple_addW1 t b vs.toArray ws.toArray n n2 dd dd2 sl sl2 (by simpa using hv) (by simp [hw])) ⟨ho,ho2,h1 hw⟩
 ·refine concat_meets ⟨_,ho,rfl⟩ ⟨_,ho2,rfl⟩ noFill_tuple_add seq_tuple_add PySem.F.slot_tuple_add PySem.F.entry_tuple_add (PySem.F.args_tuple_add_2 _ _)
   (tuple_addW2 t b vs.toArray ws.toArray n n2 dd dd2 sl sl2 (by simpa using hv) (by simpa using hw) (by rw [List.size_toArray,List.size_toArray];exact hsz)) ⟨ho,ho2,?_⟩
  rw [e]
  exact h2 hw
noncomputable def sIx (n d:Nat):Option Int -> Nat
 | none=>d
 | some v=>if v < 0 then (v + (n:Int)).toNat else min v.toNat n
theorem Ke (n d:Nat) (hd:d <= n) (o:Option Int):sIx n d o <= n:=by
 cases o with
 | none=>exact hd
 | some v=>
  show (if v < 0 then (v + (n:Int)).toNat else min v.toNat n) <= n
  by_cases hv:v < 0
  ·rw [if_pos hv];lia
  ·rw [if_neg hv];exact Nat.min_le_right _ _
theorem As (v:Int) (n d:Nat):(if v < 0 then max (v + (n:Int)) 0 else min v (n:Int)) = ((sIx n d (some v):Nat):Int):=by
 show (if v < 0 then max (v + (n:Int)) 0 else min v (n:Int)) = (((if v < 0 then (v + (n:Int)).toNat else min v.toNat n):Nat):Int)
 by_cases hv:v < 0
 ·simp only [if_pos hv];lia
 ·simp only [if_neg hv];lia
theorem yC (lo hi:Option Int) (n:Nat):Builtin.Slice.sliceAdjust lo hi 1 (n:Int) = (((sIx n 0 lo:Nat):Int),((sIx n n hi:Nat):Int)):=by
 have h1:¬ ((1:Int) < 0):=by lia
 unfold Builtin.Slice.sliceAdjust
 simp only [h1,if_false]
 refine Prod.ext ?_ ?_
 ·cases lo with
  | none=>rfl
  | some v=>exact As v n 0
 ·cases hi with
  | none=>rfl
  | some v=>exact As v n n
theorem zP (i j:Nat):Builtin.Slice.slicePlaces (i:Int) (j:Int) 1 = j - i:=by
 unfold Builtin.Slice.slicePlaces
 have h1:(1:Int) > 0:=by lia
 simp only [h1,if_true,Int.ediv_one]
 split <;> lia
theorem rG   {Q:Option Int -> Shared -> Prop} (p:IsPart v o) (h:Q o s):wpAny (model prog w) A (Builtin.Slice.slicePartIndex v) Q E s:=by
 cases p with
 | none=>exact slicePart_none h
 | int i t=>exact slicePart_int h
theorem hZ   {lo hi:Option Int} {n:Nat} {Q:Int × Int × Nat -> Shared -> Prop} (hs:s.heap.IsSliceOf sl vl vu .none) (pl:IsPart vl lo) (pu:IsPart vu hi)
  (h:Q (((sIx n 0 lo:Nat):Int),1,sIx n n hi - sIx n 0 lo) s):wpAny (model prog w) A (Builtin.Slice.sliceApplied (.ref sl) (pure (n:Int))) Q E s:=by
 obtain ⟨os,hos,hcs,hds⟩:=id hs
 unfold Builtin.Slice.sliceApplied Builtin.Slice.sliceFields
 refine wpAny_bind (wpAny_bind (wpAny_field hos hds (x:=vl) rfl (wpAny_bind (wpAny_field hos hds (x:=vu) rfl (wpAny_bind (wpAny_field hos hds (x:=.none) rfl (wpAny_pure ?_)))))))
 refine wpAny_bind (slicePart_none ?_)
 show wpAny _ _ (if ((1:Int) == 0) = true then _ else _) _ _ s
 rw [if_neg (by decide)]
 refine wpAny_bind (rG pl (wpAny_bind (rG pu (wpAny_bind (wpAny_pure ?_)))))
 show wpAny _ _ (match Builtin.Slice.sliceAdjust lo hi 1 (n:Int) with | (lo,hi)=>pure (lo,(1:Int),Builtin.Slice.slicePlaces lo hi 1)) _ _ s
 rw [yC lo hi n]
 show wpAny _ _ (pure (((sIx n 0 lo:Nat):Int),(1:Int),Builtin.Slice.slicePlaces ((sIx n 0 lo:Nat):Int) ((sIx n n hi:Nat):Int) 1)) _ _ s
 rw [zP]
 exact wpAny_pure h
theorem EZ (xs:Array Value) (i k:Nat):((List.range k).filterMap fun (m:Nat)=>xs[((i:Int) + (m:Int) * 1).toNat]?).toArray = ((xs.toList.drop i).take k).toArray:=by
 have e:(fun (m:Nat)=>xs[((i:Int) + (m:Int) * 1).toNat]?) = fun m=>xs[i + m]?:=by
  funext m
  have:((i:Int) + (m:Int) * 1).toNat = i + m:=by lia
  rw [this]
 rw [e]
 have:=pick_run xs i k
 rw [List.filterMap_map] at this
 have e2:((fun x=>xs[x]?) ∘ fun x=>i + x) = fun m=>xs[i + m]?:=rfl
 rw [e2] at this
 rw [this]
theorem my    {lo hi:Option Int} {Q:Value -> Shared -> Prop} (ht:IsTup s.heap t items) (hs:s.heap.IsSliceOf sl vl vu .none) (pl:IsPart vl lo) (pu:IsPart vu hi)
  (hw:¬ (sIx items.size 0 lo = 0 /\ sIx items.size items.size hi = items.size))
  (h:Q (.ref s.heap.objs.size) { s with heap:=s.heap.push { cls:=.type "tuple",data:=.seq ((items.toList.drop (sIx items.size 0 lo)).take (sIx items.size items.size hi - sIx items.size 0 lo)).toArray } })
  (hsz:items.size <= sizeLine):wpAny (model prog w) A (getItem (.ref t) (.ref sl)) Q E s:=by
 have htake:sizeOk (.seq ((items.toList.drop (sIx items.size 0 lo)).take (sIx items.size items.size hi - sIx items.size 0 lo)).toArray):=by
  show ((items.toList.drop (sIx items.size 0 lo)).take (sIx items.size items.size hi - sIx items.size 0 lo)).toArray.size <= sizeLine
  rw [List.size_toArray,List.length_take,List.length_drop,Array.length_toList]
  omega
 have hj:sIx items.size items.size hi <= items.size:=Ke _ _ (Nat.le_refl _) hi
 obtain ⟨os,hos,hcs,hds⟩:=id hs
 have hTs:s.TypeIs (.ref sl) "slice" := ⟨os,hos,hcs⟩
 unfold getItem
 try with_reducible refine wpAny_holding ?_
 first | refine wpAny_bind (wpAny_pure ?_) | skip
 refine wpAny_bind (wpAny_sequenceKey ht.typeIs (by decide) ?_)
 refine wpAny_bind (wpAny_callSpecial?_slot (name:=Str.ofString "__getitem__") ht.typeIs PyProof.Rows.slot_tuple_getitem
  (wpAny_call_entry PyProof.Rows.slot_tuple_getitem ht.typeIs entry_tuple_getitem ?_ (args_tuple_getitem _ _)))
 show wpAny _ _ (Builtin.Tuple.tupleItemsOf (.ref t) >>= _) _ _ s
 refine wpAny_bind (tupleItemsOf_ ht ?_)
 refine wpAny_bind (wpAny_typeOf hTs ?_)
 rw [if_pos (by decide)]
 refine wpAny_bind (hZ hs pl pu ?_)
 have hno:¬ ((((sIx items.size 0 lo:Nat):Int) == 0 && (1:Int) == 1 && (sIx items.size items.size hi - sIx items.size 0 lo) == items.size) = true):=by
  intro q
  rw [Bool.and_eq_true,Bool.and_eq_true] at q
  have q1:((sIx items.size 0 lo:Nat):Int) = 0:=eq_of_beq q.1.1
  have q2:sIx items.size items.size hi - sIx items.size 0 lo = items.size:=eq_of_beq q.2
  exact hw ⟨by omega,by omega⟩
 show wpAny _ _ (if (((sIx items.size 0 lo:Nat):Int) == 0 && (1:Int) == 1 && (sIx items.size items.size hi - sIx items.size 0 lo) == items.size) = true then _ else _) _ _ s
 rw [if_neg hno,EZ]
 first
  | exact wpAny_bind (m:=Builtin.Tuple.tupleExact _) (wpAny_newObj_type (wpAny_pure ⟨_,rfl,wpAny_pure h⟩) htake)
  | exact wpAny_bind (m:=Builtin.Tuple.tupleExact _) (wpAny_newObj_type (wpAny_bind (wpAny_pure (wpAny_pure ⟨_,rfl,wpAny_pure h⟩))) htake)
  | exact wpAny_bind (wpAny_bind (m:=Builtin.Tuple.tupleExact _) (wpAny_newObj_type (wpAny_pure (wpAny_pure ⟨_,rfl,wpAny_pure h⟩)) htake))
  | exact wpAny_bind (wpAny_bind (m:=Builtin.Tuple.tupleExact _) (wpAny_newObj_type (wpAny_pure ⟨_,rfl,wpAny_pure h⟩) htake))
end
end HT
namespace L2
open PySem PySem.Spec PyProof.Rows
noncomputable abbrev TO:=St -> Hp -> (Option Int -> Hp -> Prop) -> Prop
def PO (X:Cx) (e:Option Expr) (t:TO):Prop:=
 ∀ (pins:List (Addr × Obj)) (s:Shared) (σ:St) (H:Hp) (Q:Option Int -> Hp -> Prop),Inv X pins σ H s -> t σ H Q ->
  wpAny (model X.prog X.w) X.A (evalPart e X.env) (fun u s'=>∃ o H',Inv X pins σ H' s' /\ IsPart u o /\ Q o H') X.xe s
noncomputable def FQ (t:TE):TO:=fun σ H Q=>t σ H fun x H1=>∃ i,x = .int i /\ Q (some i) H1
theorem k8 {ns:List Int}:∀ {us:List Value},Vals (ns.map V.int) us -> IntsAre us ns:=by
 induction ns with
 | nil=>intro us r;rw [List.map_nil] at r;cases r;exact .nil
 | cons n ns ih=>
  intro us r
  rw [List.map_cons] at r
  cases r with
  | cons r1 r2=>
   obtain ⟨t,e⟩:=r1
   subst e
   exact .cons n t (ih r2)
section
variable {X:Cx} {e:Expr} {te:TE} {lo hi:Option Expr} {tl th:TO} {pos p2:Pos}
theorem Hh (h:PE X e te):PO X (some e) (FQ te):=by
 intro pins s σ H Q I hw
 rw [evalPart_some]
 refine thn (h pins s σ H _ I hw) fun u s1 hpt9=>?_
 obtain ⟨x,H1,I1,r1,q1⟩:=hpt9
 obtain ⟨i,rfl,q⟩:=q1
 obtain ⟨t,rfl⟩:=r1
 exact ⟨some i,H1,I1,.int i t,q⟩
def SlR (X:Cx) (r:V -> Option Int -> Option Int -> Hp -> VK -> Prop):Prop:=
 ∀ (pins:List (Addr × Obj)) (s:Shared) (σ:St) (H:Hp) (x:V) (v vl vu:Value) (lo hi:Option Int) (sl:Addr) (Q:VK),Inv X pins σ H s -> RelV x v -> s.heap.IsSliceOf sl vl vu .none -> IsPart vl lo -> IsPart vu hi -> r x lo hi H Q ->
  ∃ T id,typeLookup (.type T) "__getitem__" = pure (some (.builtin id)) /\ s.TypeIs v T /\ wpAny (model X.prog X.w) X.A (getItem v (.ref sl)) (EP X pins σ Q) X.xe s
theorem SlR.or  (h:SlR X r) (h':SlR X r'):SlR X (fun x lo hi H Q=>r x lo hi H Q \/ r' x lo hi H Q):=by
 intro pins s σ H x v vl vu lo hi sl Q I rx hs pl pu q
 rcases q with q | q
 ·exact h pins s σ H x v vl vu lo hi sl Q I rx hs pl pu q
 ·exact h' pins s σ H x v vl vu lo hi sl Q I rx hs pl pu q
noncomputable def tSl (r:V -> Option Int -> Option Int -> Hp -> VK -> Prop) (te:TE) (tl th:TO):TE:=fun σ H Q=>te σ H fun x H1=>tl σ H1 fun l H2=>th σ H2 fun u H3=>r x l u H3 Q
theorem EU  (hr:SlR X r) (he:PE X e te) (hl:PO X lo tl) (hu:PO X hi th):PE X (.Subscript e (.Slice lo hi none p2) pos) (tSl r te tl th):=by
 intro pins s σ H Q I h
 refine Subscript_ (thn (he pins s σ H _ I h) fun v s1 hpt9=>?_)
 obtain ⟨x,H1,I1,r1,q1⟩:=hpt9
 refine wpAny_Slice (thn (hl pins s1 σ H1 _ I1 q1) fun vl s2 ⟨l,H2,I2,pl,q2⟩=>thn (hu pins s2 σ H2 _ I2 q2) fun vu s3 hpt9=>?_)
 obtain ⟨u,H3,I3,pu,q3⟩:=hpt9
 rw [evalPart_none]
 refine wpAny_pure ?_
 have I4:Inv X pins σ H3 { s3 with heap:=s3.heap.push { cls:=.type "slice",data:=.fields #[vl,vu,.none] } }:=I3.kept (t':=s3.toks) fun b ob q=>Heap.get?_push_of_some _ q
 obtain ⟨T,id,hT,ht,hg⟩:=hr pins { s3 with heap:=s3.heap.push { cls:=.type "slice",data:=.fields #[vl,vu,.none] } } σ H3 x v vl vu l u s3.heap.objs.size Q I4 r1 (Heap.IsSliceOf.new ..) pl pu q3
 show wpAny (model X.prog X.w) X.A (subscriptTail e (.Slice lo hi none p2) v (.ref s3.heap.objs.size)) (EP X pins σ Q) X.xe { s3 with heap:=s3.heap.push { cls:=.type "slice",data:=.fields #[vl,vu,.none] } }
 exact tail_any (ops:=[.ref s3.heap.objs.size,v]) ht hT hg (by with_unfolding_all rfl)
noncomputable def j8 (xs:List V) (lo hi:Option Int):List V:=(xs.drop (HT.sIx xs.length 0 lo)).take (HT.sIx xs.length xs.length hi - HT.sIx xs.length 0 lo)
theorem oo (xs:List V) (lo hi:Option Int):(j8 xs lo hi).length <= xs.length:=by
 unfold j8
 rw [List.length_take,List.length_drop]
 lia
noncomputable def Nm (K:W.Frag):V -> Option Int -> Option Int -> Hp -> VK -> Prop:=fun x lo hi H Q=>∃ a xs,x = .ref a /\ SqT K H a xs /\
 ¬ (HT.sIx xs.length 0 lo = 0 /\ HT.sIx xs.length xs.length hi = xs.length) /\ ∀ p,H p = none -> Q (.ref p) (upd H p (.tup (j8 xs lo hi)))
theorem KD:SlR X (Nm X.K):=by
 intro pins s σ H x v vl vu lo hi sl Q I rx hs pl pu h
 obtain ⟨a,xs,rfl,hx,hw,q⟩:=h
 cases rx
 obtain ⟨its,r,ht,hz⟩:=I.tuple hx
 have hlen:its.toArray.size = xs.length:=by rw [List.size_toArray];exact r.length.symm
 refine ⟨"tuple",_,PyProof.Rows.slot_tuple_getitem.lookup,ht.typeIs,?_⟩
 refine HT.my ht hs pl pu (by rw [hlen];exact hw) ?_ (by rw [hlen];exact hz)
 rw [hlen]
 refine ⟨.ref s.heap.objs.size,_,I.laid (t':=s.toks) (o:=.tup (j8 xs lo hi)) (fun b ob q=>Heap.get?_push_of_some _ q) (Nat.le_refl _) ?_,rfl,q _ (I.hok.fresh (Nat.le_refl _))⟩
 exact ⟨Nat.le_trans (oo xs lo hi) hz,_,(r.drop (HT.sIx xs.length 0 lo)).take (HT.sIx xs.length xs.length hi - HT.sIx xs.length 0 lo),IsTup.new _ _⟩
theorem Vals.nil_iff {xs:List V}  (r:Vals xs us):us = [] ↔ xs = []:=by
 cases r with
 | nil=>simp
 | cons _ _=>simp
end
noncomputable def ixN (n:Nat) (i:Int):Option Nat:=if 0 <= i then (if i < n then some i.toNat else none) else if -(n:Int) <= i then some (i + n).toNat else none
noncomputable def atI {α:Type} (xs:List α) (i:Int):Option α:=(ixN xs.length i).bind fun j=>xs[j]?
theorem AE {n:Nat} {i:Int} {j:Nat} (h:ixN n i = some j):seqIndex? i n = some j /\ j < n /\ -(n:Int) <= i /\ i < n:=by
 unfold ixN at h
 by_cases h0:0 <= i
 ·rw [if_pos h0] at h
  by_cases h1:i < n
  ·rw [if_pos h1] at h
   have e:i.toNat = j:=Option.some.inj h
   exact ⟨by rw [seqIndex_of h0 h1,e],by lia,by lia,h1⟩
  ·rw [if_neg h1] at h;cases h
 ·rw [if_neg h0] at h
  by_cases h1:-(n:Int) <= i
  ·rw [if_pos h1] at h
   have e:(i + n).toNat = j:=Option.some.inj h
   exact ⟨by rw [seqIndex_neg (by lia) h1,e],by lia,h1,by lia⟩
  ·rw [if_neg h1] at h;cases h
theorem uw {α:Type} {xs:List α} {i:Int} {v:α} (h:atI xs i = some v):∃ j,seqIndex? i xs.length = some j /\ xs[j]? = some v /\ j < xs.length /\ -(xs.length:Int) <= i /\ i < xs.length:=by
 unfold atI at h
 cases e:ixN xs.length i with
 | none=>rw [e] at h;cases h
 | some j=>
  rw [e] at h
  obtain ⟨h1,h2,h3,h4⟩:=AE e
  exact ⟨j,h1,h,h2,h3,h4⟩
def Am (b:Expr):Prop:=∀ o i,subscripted b false o i = operate [o,i] (getItem o i)
def IxR (X:Cx) (r:R2):Prop:=
 ∀ (value slice:Expr) (pins:List (Addr × Obj)) (s:Shared) (σ:St) (H:Hp) (x y:V) (v u:Value) (Q:VK),Inv X pins σ H s -> RelV x v -> RelV y u -> r x y H Q ->
  subscripted slice false v u = operate [v,u] (getItem v u) -> wpAny (model X.prog X.w) X.A (subscriptTail value slice v u) (EP X pins σ Q) X.xe s
def MtR (X:Cx) (id:String) (r:V -> List V -> Hp -> VK -> Prop):Prop:=
 ∀ (pins:List (Addr × Obj)) (s:Shared) (σ:St) (H:Hp) (x:V) (xs:List V) (v:Value) (us:List Value) (Q:VK),Inv X pins σ H s -> RelV x v -> Vals xs us -> r x xs H Q ->
  wpAny (model X.prog X.w) X.A (call (.builtin id) (v :: us)) (EP X pins σ Q) X.xe s
section
variable {X:Cx} {a b:Expr} {ta tb:TE} {pos:Pos}
theorem IxR.or  (h:IxR X r) (h':IxR X r'):IxR X (fun x y H Q=>r x y H Q \/ r' x y H Q):=by
 intro value slice pins s σ H x y v u Q I rx ry q hs
 rcases q with q | q
 ·exact h value slice pins s σ H x y v u Q I rx ry q hs
 ·exact h' value slice pins s σ H x y v u Q I rx ry q hs
theorem LM  (hr:IxR X r) (ha:PE X a ta) (hb:PE X b tb) (hs:Am b):PE X (.Subscript a b pos) (tOp r ta tb):=by
 intro pins s σ H Q I h
 exact Subscript_ (I9 ha hb I h fun v u s2 x y H2 I2 rx ry q=>hr a b pins s2 σ H2 x y v u Q I2 rx ry q (hs _ _))
noncomputable def LZ (K:W.Frag):R2:=fun x y H Q=>∃ p xs i v,x = .ref p /\ y = .int i /\ SqL K H p xs /\ atI xs i = some v /\ Q v H
noncomputable def L4 (K:W.Frag):R2:=fun x y H Q=>∃ p xs i v,x = .ref p /\ y = .int i /\ SqT K H p xs /\ atI xs i = some v /\ Q v H
noncomputable def L0:R2:=fun x y H Q=>∃ z i c,x = .str z /\ y = .int i /\ z.length <= sizeLine /\ atI z.cps.toList i = some c /\ Q (.str ⟨#[c]⟩) H
theorem ix_list:IxR X (LZ X.K):=by
 intro value slice pins s σ H x y v u Q I rx ry h hs
 obtain ⟨p,xs,i,z,rfl,rfl,hq,he,q⟩:=h
 cases rx
 obtain ⟨t,rfl⟩:=ry
 obtain ⟨its,r,pl,hz⟩:=I.list hq
 obtain ⟨j,h1,h2,h3,h4,h5⟩:=uw he
 obtain ⟨w,ew,rw'⟩:=r.get h2
 have hl:=r.length
 have hn:=lf
 have fin:EP X pins σ Q w s:=⟨z,H,I,rw',q⟩
 by_cases h0:0 <= i
 ·have hj:i.toNat = j:=by
   rw [seqIndex_of h0 h5] at h1
   exact Option.some.inj h1
  exact item_listR pl.isList h0 (by lia) (by rw [hj];simpa using ew) fin hs
 ·have hj:(i + (its.toArray.size:Int)).toNat = j:=by
   rw [seqIndex_neg (by lia) h4] at h1
   rw [List.size_toArray,<- hl]
   exact Option.some.inj h1
  exact subscriptTail_builtinR (x:=w) pl.isList.typeIs slot_list_getitem.lookup
   (wpAny_getItem_list_neg (Q:=fun r s'=>r = w /\ EP X pins σ Q r s') pl.isList (by lia) (by rw [List.size_toArray] <;> lia) (by lia) (by rw [hj];simpa using ew) ⟨rfl,fin⟩) hs
theorem ix_tup:IxR X (L4 X.K):=by
 intro value slice pins s σ H x y v u Q I rx ry h hs
 obtain ⟨p,xs,i,z,rfl,rfl,hq,he,q⟩:=h
 cases rx
 obtain ⟨t,rfl⟩:=ry
 obtain ⟨its,r,pl,hz⟩:=I.tuple hq
 obtain ⟨j,h1,h2,h3,h4,h5⟩:=uw he
 obtain ⟨w,ew,rw'⟩:=r.get h2
 have hl:=r.length
 have hn:=lf
 have fin:EP X pins σ Q w s:=⟨z,H,I,rw',q⟩
 exact subscriptTail_builtinR (x:=w) pl.typeIs slot_tuple_getitem.lookup
  (getItem_tuple (j:=j) (Q:=fun r s'=>r = w /\ EP X pins σ Q r s') pl (by lia) (by lia) (by rw [List.size_toArray,<- hl];exact h1) (by simpa using ew) ⟨rfl,fin⟩) hs
theorem Jz:IxR X L0:=by
 intro value slice pins s σ H x y v u Q I rx ry h hs
 obtain ⟨z,i,c,rfl,rfl,hz,he,q⟩:=h
 obtain ⟨t,rfl⟩:=rx
 obtain ⟨t',rfl⟩:=ry
 obtain ⟨j,h1,h2,h3,h4,h5⟩:=uw he
 have hl:z.cps.toList.length = z.length:=by simp [Str.length]
 rw [hl] at h1 h4 h5
 have hn:=lf
 exact tail_any (typeIs_str s z t) slot_str_getitem.lookup (getItem_str (c:=c) (by
  have e1:decide (i < -(2 ^ 63:Int)) = false:=decide_eq_false (by lia)
  have e2:decide (i ≥ 2 ^ 63) = false:=decide_eq_false (by lia)
  rw [e1,e2,Bool.or_false]) (by rw [h1];simpa using h2) ⟨.str ⟨#[c]⟩,H,I.tok _,⟨_,rfl⟩,q⟩) hs
noncomputable def rIx (K:W.Frag):R2:=fun x y H Q=>LZ K x y H Q \/ L4 K x y H Q \/ L0 x y H Q
theorem Jy:IxR X (rIx X.K):=ix_list.or (ix_tup.or Jz)
theorem zr (its:List Value) (n j:Nat) (u:Value):Obj.mapSeq (·.setIfInBounds j u) { cls:=.type "list",data:=.seq its.toArray n } = { cls:=.type "list",data:=.seq (its.set j u).toArray n }:=by
 simp [Obj.mapSeq]
theorem Inv.lst {pins:List (Addr × Obj)} {σ:St} {H:Hp} {s:Shared} {p:Addr} {xs:List V} (I:Inv X pins σ H s) (h:H p = some (.lst xs)) :
  ∃ (its:List Value) (n:Nat),Vals xs its /\ s.heap.get? p = some { cls:=.type "list",data:=.seq its.toArray n } /\ xs.length <= sizeLine:=by
 obtain ⟨z,its,n,r,e⟩:=I.hok p _ h
 exact ⟨its,n,r,e,z⟩
theorem Inv.lstUpd {pins:List (Addr × Obj)}    {p:Addr} {xs ys:List V} {its its':List Value} {n n':Nat} {f:Obj -> Obj} (I:Inv X pins σ H s) (h:H p = some (.lst xs))
  (ho:s.heap.get? p = some { cls:=.type "list",data:=.seq its.toArray n }) (hf:f { cls:=.type "list",data:=.seq its.toArray n } = { cls:=.type "list",data:=.seq its'.toArray n' }) (r:Vals ys its') (hz:ys.length <= sizeLine) (t:Nat) :
  Inv X pins σ (upd H p (.lst ys)) { s with heap:=s.heap.update p f,toks:=t }:=by
 have e:(s.heap.update p f).get? p = some { cls:=.type "list",data:=.seq its'.toArray n' }:=by
  rw [Heap.get?_update_self f ho (by rw [hf] <;> rfl),hf]
 refine I.write (x:=p) (e:=p) (by rw [h];trivial) (.inl rfl) (fun b u hb q=>(Heap.get?_update_other _ _ (Ne.symm hb)).trans q) ⟨_,e⟩ ?_
 exact ⟨hz,its',n',r,e⟩
noncomputable def Fg:V -> V -> V -> Hp -> (Hp -> Prop) -> Prop:=fun o i v H Q=>∃ p xs k j,o = .ref p /\ i = .int k /\ H p = some (.lst xs) /\ ixN xs.length k = some j /\ Q (upd H p (.lst (xs.set j v)))
theorem FA:IP X Fg:=by
 intro pins s σ H o i v ov iv u Q I ro ri rv h
 obtain ⟨p,xs,k,j,rfl,rfl,hp,hj,q⟩:=h
 cases ro
 obtain ⟨t,rfl⟩:=ri
 obtain ⟨its,n,r,ho,hz⟩:=I.lst hp
 obtain ⟨h1,h2,h3,h4⟩:=AE hj
 have hl:=r.length
 have hn:=lf
 have I':Inv X pins σ (upd H p (.lst (xs.set j v))) { s with heap:=s.heap.update p (Obj.mapSeq (·.setIfInBounds j u)) }:=
  I.lstUpd hp ho (zr its n j u) (r.set rv j) (by rw [List.length_set];exact hz) s.toks
 by_cases h0:0 <= k
 ·have hk:k.toNat = j:=by
   rw [seqIndex_of h0 h4] at h1
   exact Option.some.inj h1
  exact W.ki_setAt ho h0 (by lia) (by rw [List.size_toArray,<- hl];exact h4) (by rw [hk];exact ⟨_,I',q⟩)
 ·have hk:(k + (its.toArray.size:Int)).toNat = j:=by
   rw [seqIndex_neg (by lia) h3] at h1
   rw [List.size_toArray,<- hl]
   exact Option.some.inj h1
  exact W.ki_setBack ho (by lia) (by rw [List.size_toArray,<- hl];exact h3) (by lia) (by rw [hk];exact ⟨_,I',q⟩)
theorem vA (lo hi:Option Int) (n:Nat):(sliceBounds lo hi none n).1 = ((HT.sIx n 0 lo:Nat):Int) /\ (sliceBounds lo hi none n).2.1 = ((HT.sIx n n hi:Nat):Int) /\ (sliceBounds lo hi none n).2.2 = 1:=by
 refine ⟨?_,?_,rfl⟩
 ·cases lo with
  | none=>simp [sliceBounds,HT.sIx]
  | some i=>
   simp only [sliceBounds,HT.sIx,Option.getD_none,show (1:Int) > 0 by decide,if_true]
   by_cases h:i < 0
   ·simp only [h,if_true] <;> lia
   ·simp only [h,if_false] <;> lia
 ·cases hi with
  | none=>simp [sliceBounds,HT.sIx]
  | some i=>
   simp only [sliceBounds,HT.sIx,Option.getD_none,show (1:Int) > 0 by decide,if_true]
   by_cases h:i < 0
   ·simp only [h,if_true] <;> lia
   ·simp only [h,if_false] <;> lia
theorem sD (its:List Value) (lo hi:Option Int):slicePick its.toArray lo hi none = ((its.drop (HT.sIx its.length 0 lo)).take (HT.sIx its.length its.length hi - HT.sIx its.length 0 lo)).toArray:=by
 obtain ⟨h1,h2,h3⟩:=vA lo hi its.toArray.size
 unfold slicePick
 rw [h1,h2,h3]
 simp only [sliceRange_one,pick_run,List.size_toArray] <;> rfl
noncomputable def L8 (K:W.Frag):V -> Option Int -> Option Int -> Hp -> VK -> Prop:=fun x lo hi H Q=>∃ a xs,x = .ref a /\ SqL K H a xs /\ ∀ p,H p = none -> Q (.ref p) (upd H p (.lst (j8 xs lo hi)))
theorem Hy:SlR X (L8 X.K):=by
 intro pins s σ H x v vl vu lo hi sl Q I rx hs pl pu h
 obtain ⟨a,xs,rfl,hx,q⟩:=h
 cases rx
 obtain ⟨its,r,ht,hz⟩:=I.list hx
 have hlen:=r.length
 refine ⟨"list",_,slot_list_getitem.lookup,ht.isList.typeIs,?_⟩
 refine wpAny_getItem_list_slice ht.isList hs pl pu .none (by simp) ?_ (by rw [List.size_toArray] <;> lia)
 rw [sD,<- hlen]
 refine ⟨.ref s.heap.objs.size,_,I.laid (t':=s.toks) (o:=.lst (j8 xs lo hi)) (fun b ob q=>Heap.get?_push_of_some _ q) (Nat.le_refl _) ?_,rfl,q _ (I.hok.fresh (Nat.le_refl _))⟩
 exact ⟨Nat.le_trans (oo xs lo hi) hz,_,0,(r.drop (HT.sIx xs.length 0 lo)).take (HT.sIx xs.length xs.length hi - HT.sIx xs.length 0 lo),Heap.get?_push_size _ rfl⟩
theorem CallR.or   (h:CallR X f r) (h':CallR X f r'):CallR X f (fun xs H Q=>r xs H Q \/ r' xs H Q):=by
 intro pins s σ H xs us Q I rs q
 rcases q with q | q
 ·exact h pins s σ H xs us Q I rs q
 ·exact h' pins s σ H xs us Q I rs q
theorem ci:CallR X (.type "tuple") (fun xs H Q=>∃ p ys,xs = [.ref p] /\ ((SqL X.K H p ys /\ ∀ l,H l = none -> Q (.ref l) (upd H l (.tup ys))) \/ (SqT X.K H p ys /\ Q (.ref p) H))):=by
 intro pins s σ H xs us Q I r h
 obtain ⟨p,ys,rfl,h⟩:=h
 obtain ⟨u,rfl,rx⟩:=FZ r
 cases rx
 rcases h with ⟨hq,q⟩ | ⟨hq,q⟩
 ·obtain ⟨its,r',pl,hz⟩:=I.list hq
  have hlen:=r'.length
  refine call_tuple_list pl.isList (fun h' kp=>?_) (by simp only [List.size_toArray] <;> lia)
  have I1:Inv X pins σ H { s with heap:=h' }:=I.kept (t':=s.toks) kp
  have I2:Inv X pins σ (upd H h'.objs.size (.tup ys)) { s with heap:=h'.push { cls:=.type "tuple",data:=.seq its.toArray } }:=
   I1.laid (t':=s.toks) (fun b o e=>Heap.get?_push_of_some _ e) (Nat.le_refl _) (show ObjOk X.prog X.w _ _ _ (.tup ys) from ⟨hz,its,r',IsTup.new _ _⟩)
  exact ⟨.ref h'.objs.size,_,I2,rfl,q _ (I1.hok.fresh (Nat.le_refl _))⟩
 ·obtain ⟨its,r',pl,hz⟩:=I.tuple hq
  exact call_tuple_same pl ⟨.ref p,H,I,rfl,q⟩
def tyV (K:W.Frag) (T:String) (x:V) (H:Hp):Prop:=match x with
 | .str _=>T = "str"
 | .int _=>T = "int"
 | .ref p=>(T = "list" /\ ∃ xs,SqL K H p xs) \/ (T = "tuple" /\ ∃ o,K.lookup p = some o /\ o.cls = .type "tuple" /\ o.dict = none) \/
   (T = "dict" /\ ((∃ kvs,H p = some (.dK kvs)) \/ ∃ kvs,H p = some (.dT kvs))) \/ (T = "set" /\ ∃ S n,H p = some (.set S n))
 | _=>False
theorem KO {pins:List (Addr × Obj)}       (I:Inv X pins σ H s) (r:RelV x v) (ty:tyV X.K T x H) :
  s.TypeIs v T /\ ∀ a,v = .ref a -> ∃ ob,s.heap.get? a = some ob /\ ob.dict = none:=by
 cases x with
 | str z=>
  obtain ⟨t,rfl⟩:=r
  cases (show T = "str" from ty)
  exact ⟨typeIs_str s z t,fun _ e=>nomatch e⟩
 | int i=>
  obtain ⟨t,rfl⟩:=r
  cases (show T = "int" from ty)
  exact ⟨typeIs_int s i t,fun _ e=>nomatch e⟩
 | ref p=>
  cases r
  rcases ty with ⟨rfl,xs,hq⟩ | ⟨rfl,o,hk,hc,hd⟩ | ⟨rfl,hk⟩ | ⟨rfl,S,n,hk⟩
  ·obtain ⟨its,_,pl,_⟩:=I.list hq
   refine ⟨pl.isList.typeIs,fun a e=>?_⟩
   cases e
   obtain ⟨o,n,e,c,hd,_⟩:=pl
   exact ⟨o,e,hd⟩
  ·refine ⟨⟨o,I.kIn p o hk,hc⟩,fun a e=>?_⟩
   cases e
   exact ⟨o,I.kIn _ o hk,hd⟩
  ·have z:∃ o,s.heap.get? p = some o /\ o.ExactDict:=by
    rcases hk with ⟨kvs,hk⟩ | ⟨kvs,hk⟩
    ·obtain ⟨_,_,_,_,o,_,_,e,ex,_⟩:=I.hok p _ hk
     exact ⟨o,e,ex⟩
    ·obtain ⟨_,_,_,_,o,_,_,e,ex,_⟩:=I.hok p _ hk
     exact ⟨o,e,ex⟩
   obtain ⟨o,e,ex⟩:=z
   refine ⟨⟨o,e,ex.1⟩,fun a e2=>?_⟩
   cases e2
   exact ⟨o,e,ex.2.1⟩
  ·obtain ⟨o,_,_,_,e,ex,_⟩:=I.hok p _ hk
   refine ⟨⟨o,e,ex.1⟩,fun a e2=>?_⟩
   cases e2
   exact ⟨o,e,ex.2.1⟩
 | _=>exact False.elim ty
noncomputable def tBM (K:W.Frag) (T:String) (r:V -> List V -> Hp -> VK -> Prop) (to:TE) (t:TA):TE:=fun σ H Q=>to σ H fun x H1=>tyV K T x H1 /\ t σ H1 fun xs H2=>r x xs H2 Q
variable {o e:Expr} {es:List Expr} {to:TE} {t:TA} {name:Str} {apos cpos:Pos} {T id:String} {r:V -> List V -> Hp -> VK -> Prop}
theorem tX (pa:PlainAttrs T) (slot:Slot T name id) (hty:typeOf (.builtin id) = pure (.type "method_descriptor")) (hm:MtR X id r) (ho:PE X o to) (ha:PA X (e :: es) t)
  (hbase:attributeBase o name X.env (eval o X.env) = eval o X.env:=by rfl)
  (hfew:((backTo cpos (starEach (e :: es) X.env)).all (fun x=>!x.1) && (backToKw cpos (keywordEach [] X.env)).all (fun x=>x.1.isSome)
   && decide ((e :: es).length + ([]:List Keyword).length + (if ([]:List Keyword).isEmpty then 0 else 1) < 30)) = true:=by rfl)
  (hline:(apos.endLine == cpos.line) = true:=by rfl) (hs:starEach (e :: es) X.env = (false,eval e X.env) :: starEach es X.env:=by rfl) (hplain:(backTo cpos (starEach es X.env)).any (·.1) = false:=by rfl) :
  PE X (.Call (.Attribute o name apos) (e :: es) [] cpos) (tBM X.K T r to t):=by
 intro pins s σ H Q I h
 refine wpAny_Call_method_late hbase hfew hline rfl (thn (ho pins s σ H _ I h) fun v s1 hpt9=>?_)
 obtain ⟨x,H1,I1,r1,ty,q1⟩:=hpt9
 obtain ⟨h1,h2⟩:=KO I1 r1 ty
 refine ⟨T,id,pa,slot,hty,h1,h2,?_⟩
 have hA:=ha cpos pins s1 σ H1 _ I1 q1
 rw [hs] at hA ⊢
 refine Calls.callWith_builtin (by show (false || (backTo cpos (starEach es X.env)).any (·.1)) = false;rw [hplain] <;> rfl) (Calls.evalArgs_plain ?_)
 exact thn hA fun us s2 ⟨vs,H2,I2,r2,q2⟩=>hm pins s2 σ H2 x vs v us Q I2 r1 r2 q2
end
def MtM (X:Cx) (id:String) (r:V -> List V -> Hp -> VK -> Prop):Prop:=
 ∀ (pins:List (Addr × Obj)) (s:Shared) (σ:St) (H:Hp) (x:V) (xs:List V) (v:Value) (us:List Value) (Q:VK),Inv X pins σ H s -> RelV x v -> Vals xs us -> r x xs H Q ->
  wpAny (model X.prog X.w) X.A (call (.builtin id) (v :: us)) (EP X pins σ Q) X.xe s
theorem Vals.one {x:V} {us:List Value} (h:Vals [x] us):∃ u,us = [u] /\ RelV x u:=by
 cases h with
 | cons r t=>cases t;exact ⟨_,rfl,r⟩
theorem Vals.two {x y:V} {us:List Value} (h:Vals [x,y] us):∃ u v,us = [u,v] /\ RelV x u /\ RelV y v:=by
 cases h with
 | cons r t=>
  cases t with
  | cons q t=>cases t;exact ⟨_,_,rfl,r,q⟩
section
variable {X:Cx} {pins:List (Addr × Obj)} {σ:St} {H:Hp} {s:Shared} {l b:Addr} {xs ys zs:List V}
theorem Inv.lset {its its':List Value} {n:Nat} {f:Array Value -> Array Value} {t':Nat} (I:Inv X pins σ H s) (hH:H l = some (.lst xs))
  (e:s.heap.get? l = some { cls:=.type "list",data:=.seq its.toArray n }) (hf:f its.toArray = its'.toArray) (hv:Vals ys its') (hz:ys.length <= sizeLine) :
  Inv X pins σ (upd H l (.lst ys)) { s with heap:=s.heap.update l (Obj.mapSeq f),toks:=t' }:=by
 have q:=PySem.IsL.update e f
 rw [hf] at q
 refine I.write (x:=l) (e:=l) (by rw [hH];exact trivial) (.inl rfl) (fun b' u hb hu=>(Heap.get?_update_other s.heap (Obj.mapSeq f) (Ne.symm hb)).trans hu) ⟨_,q⟩ ?_
 exact ⟨hz,its',_,hv,q⟩
theorem Inv.lnew {its:List Value} {t':Nat} (I:Inv X pins σ H s) (hv:Vals ys its) (hz:ys.length <= sizeLine) :
  Inv X pins σ (upd H s.heap.objs.size (.lst ys)) { s with heap:=s.heap.push { cls:=.type "list",data:=.seq its.toArray },toks:=t' }:=
 I.laid (fun _ _ q=>Heap.get?_push_of_some _ q) (Nat.le_refl _) ⟨hz,its,0,hv,Heap.get?_push_size _ rfl⟩
theorem Inv.fresh (I:Inv X pins σ H s):H s.heap.objs.size = none:=I.hok.fresh (Nat.le_refl _)
theorem Inv.lstM (I:Inv X pins σ H s) (hH:H l = some (.lst xs)):xs.length <= sizeLine /\ ∃ (its:List Value) (n:Nat),Vals xs its /\ xs.length = its.length /\ s.heap.get? l = some { cls:=.type "list",data:=.seq its.toArray n }:=by
 obtain ⟨z,its,n,r,e⟩:=I.hok l _ hH
 exact ⟨z,its,n,r,r.length,e⟩
theorem EH {n:Nat} (h:n <= sizeLine):Builtin.List.listTooLong n = false:=by
 unfold Builtin.List.listTooLong
 exact decide_eq_false (by lia)
end
section
variable {X:Cx}
noncomputable def rAppend:V -> List V -> Hp -> VK -> Prop:=fun x vs H Q=>∃ l xs y,x = .ref l /\ vs = [y] /\ H l = some (.lst xs) /\ xs.length < sizeLine /\ Q .non (upd H l (.lst (xs ++ [y])))
theorem tU:MtM X "list.append" rAppend:=by
 intro pins s σ H x vs v us Q I rx rv h
 obtain ⟨l,xs,y,rfl,rfl,hH,hz,q⟩:=h
 cases rx
 obtain ⟨u,rfl,ru⟩:=rv.one
 obtain ⟨z,its,n,r,hl,e⟩:=I.lstM hH
 refine call_meets F.slot_list_append ⟨_,e,rfl⟩ F.entry_list_append (F.args_list_append_2 _ _) (PySem.list_append l its.toArray n u (by rw [List.size_toArray];lia)) ⟨e,?_⟩
 refine ⟨.non,_,I.lset (its':=its ++ [u]) hH e (by simp) (r.append (.cons ru .nil)) ?_,rfl,q⟩
 rw [List.length_append,List.length_singleton]
 lia
end
section
variable {prog:Program} {w:World} {A:Around} {E:Value -> Shared -> Prop} {s:Shared}
end
section
variable {X:Cx}
end
end L2
namespace Att
open PySem PySem.W PySem.Calls PyProof.Rows
theorem oU:∀ (ns:List Int) (vs:List Value),WellAll P h vs (ns.map WData.int) -> IntsAre vs ns:=by
 intro ns
 induction ns with
 | nil=>
  intro vs w
  rw [List.map_nil] at w
  cases w
  exact .nil
 | cons n ns ih=>
  intro vs w
  rw [List.map_cons] at w
  cases w with
  | cons a b=>
   cases a
   exact .cons _ _ (ih _ b)
theorem CG {l:OpenLaw} {n:Nat} (hn:l.most = some n)   {args:List WData} 
  (hpre:l.row.toRowW.claim.pre args = true) (hwl:WellAll P h vals args) :
  ∃ a vs ns,vals = [Value.ref a] /\ args = [WData.list (ns.map WData.int)] /\ h.get? a = some { cls:=.type "list",data:=.seq vs.toArray } /\ IntsAre vs ns /\ ns.length <= n:=by
 have hsh:WShape.hasAll [] args [.list .int] = true:=(pre_splitW hpre).1
 have hc:l.pre.holds [] { args:=args } = true:=(pre_splitW hpre).2
 obtain ⟨d,r,rfl,h1,h2⟩:=hasAllW_cons hsh
 obtain rfl:=hasAllW_nil h2
 obtain ⟨xs,rfl,h3⟩:=hasW_list h1
 obtain ⟨ns,rfl⟩:=items_int h3
 have hlen:ns.length <= n:=by
  unfold OpenLaw.pre at hc
  have h4:(WTm.not (.lt (.lit (.int (n:Int))) (.len (.arg 0)))).holds [] { args:=[.list (ns.map .int)] } = true:=by
   have h4:=(holds_andW hc).1
   rw [hn] at h4
   exact h4
  have h5:=condW_of h4 (w_not (w_lt w_lit (w_len_list (w_arg rfl))))
  rw [List.length_map] at h5
  refine Nat.le_of_not_lt fun q=>?_
  have q':(n:Int) < ((ns.length:Nat):Int):=by omega
  first
   | (rw [decide_eq_true q'] at h5;exact absurd h5 (by decide))
   | (simp at h5;omega)
 cases hwl with
 | cons w1 w2=>
  cases w2
  cases w1 with
  | list ho hall=>exact ⟨_,_,ns,rfl,rfl,ho,oU ns _ hall,hlen⟩
theorem CA (l:OpenLaw) (args:List WData):l.row.toRowW.claim.post args (.bool true) args = true:=
 postW_of (r:=l.row.toRowW) (X:=(true == true))
  (show WShape.has [] (.bool true) .bool = true by first | rfl | decide | simp [WShape.has,WShape.arms,WShape.armsAll])
  (show (WTm.eq .res (.lit (.bool true))).value [] { args:=args,res:=some (.bool true),after:=args } = some (.bool (true == true)) from w_eq_bool (w_res rfl) w_lit) rfl
theorem wj {l:OpenLaw} {n:Nat}    {YP:World -> Heap -> Prop} {d:DefRec}
  (hn:l.most = some n) (hdf:d.params.defaults = [])
  (call:∀ (w:World) (s₀ s₁:Shared) (mg mb:Str -> Option Value) (fa:Addr) (o:Obj) (pm cd doc:Value) (a:Addr) (vs:List Value) (ns:List Int),
   Ground q loose [] XP w s₀ mg mb s₁.heap -> YP w s₁.heap ->
   s₁.heap.get? fa = some o -> o.data = .func (docDef d.name d.params d.body d.scope pm cd doc) -> s₁.heap.CodeRec cd d.name -> mg d.name = some (.ref fa) ->
   s₁.heap.get? a = some { cls:=.type "list",data:=.seq vs.toArray } -> IntsAre vs ns -> ns.length <= n -> s₁.gens = #[] ->
   codeAny (model l.prog w) callerA (.call (.ref fa) ⟨[.ref a],[]⟩) (fun r s'=>r = .ok (.ret (.bool true)) /\ OldK s₁.heap s'.heap /\ s'.os = s₁.os /\ AllBare s'.gens) s₁) :
  WalkO q loose XP YP l.row.toRowW d [] (fun f vs=>PySem.call f vs):=by
 intro w s₀ s₁ mg mb G Y fa o pm cd doc dV kV ho hd hcd hD hmg hg args vals as hpre hlay hrd hwl hlo
 obtain rfl:dV = .none:=Dflts.none hD hdf
 obtain rfl:kV = .none:=Dflts.noKw hD
 obtain ⟨a,vs,ns,rfl,rfl,hobj,hints,hlen⟩:=CG hn hpre hwl
 refine enter_call (codeAny_mono (call w s₀ s₁ mg mb fa o pm cd doc a vs ns G Y ho (fd_plain hd) hcd hmg hobj hints hlen hg) fun r s' hq=>?_)
 obtain ⟨rfl,h2,h3,h4⟩:=hq
 exact ⟨.inl ⟨.bool true,.bool true,[],rfl,fun _=>rfl,.bool true,CA l _,fun _=>⟨List.Pairwise.nil,fun _ hm=>(nomatch hm)⟩⟩,h2,h3,h4⟩
section
variable {prog:Program} {w:World} {A:Around} {E:Value -> Shared -> Prop} {s:Shared} {K:Frag}
end
end Att
namespace L2
open PySem PySem.Spec PyProof.Rows
theorem ug:∀ {vs:List Value} {ns:List Int},IntsAre vs ns -> Vals (ns.map V.int) vs
 | _,_,.nil=>.nil
 | _,_,.cons n t h=>.cons ⟨t,rfl⟩ (ug h)
def IM (H:Hp):Prop:=∀ b,H b = none \/ ∃ o xs,H b = some (.frz o (.lst xs))
theorem El   {K:W.Frag} {mg mb:Str -> Option Value} {CX:CXT} {k:Nat} {a:Addr} {fd:FuncData} {x:Str} {sp:Sp} {s₁:Shared} {vs:List Value} 
  (KX:K.In s₁.heap) (hns:s₁.heap.Ns mainGlobals mg) (hb:s₁.heap.Ns builtinsNs mb) (hbb:∀ x:Str,x ≠ "__name__" -> mb x = bootBuiltins x) (hlim:s₁.heap.NoLimit) (hg:s₁.gens = #[])
  (ha:s₁.heap.get? a = some { cls:=.type "list",data:=.seq vs.toArray }) (hi:IntsAre vs ns) (hl:ns.length <= sizeLine) (hr:Room k callerA)
  (F:∀ base:Heap,K.In base -> base.Ns mainGlobals mg -> FnOk P w K mg base CX k fa fd [x] sp) (hbind:∀ (s:Shared) (u:Value),BindsTo s fd ⟨[u],[]⟩ [(x,u)])
  (hsp:∀ H:Hp,IM H -> SqL K H a (ns.map V.int) -> sp [.ref a] H (fun v _=>v = .bl true) fun _ _ _=>False)
  (hCX:∀ H e s',CX [] H s₁ (fun _ _ _=>False) e s' -> False) :
  codeAny (model P w) callerA (.call (.ref fa) ⟨[.ref a],[]⟩) (fun r s'=>r = .ok (.ret (.bool true)) /\ OldK s₁.heap s'.heap /\ s'.os = s₁.os /\ AllBare s'.gens) s₁:=by
 have rv:=ug hi
 have lenV:=hi.length
 -- from an abstract heap in which nothing but the script may be tracked
 have core:∀ H:Hp,IM H -> SqL K H a (ns.map V.int) -> HOk P w H s₁.heap -> (∀ b,H b ≠ none -> b = a) -> (H a ≠ none -> K.lookup a = none) ->
   codeAny (model P w) callerA (.call (.ref fa) ⟨[.ref a],[]⟩) (fun r s'=>r = .ok (.ret (.bool true)) /\ OldK s₁.heap s'.heap /\ s'.os = s₁.os /\ AllBare s'.gens) s₁:=by
  intro H hO hS hok hA hK
  have base_of:∀ {b:Addr} {o:Obj},s₁.heap.get? b = some o -> H b = none -> (uO s₁.heap H).get? b = some o:=fun e n=>Ea e n
  have noA:∀ {b:Addr} {o:Obj} {es:Array DictEntry} {ep:Nat},s₁.heap.get? b = some o -> o.data = .dict es ep -> H b = none:=fun {b o es ep} e d=>by
   cases q:H b with
   | none=>rfl
   | some u=>
    have e':b = a:=hA b (by rw [q];simp)
    subst e'
    rw [ha] at e;cases e
    have d':Data.seq vs.toArray _ = Data.dict es ep:=d
    cases d'
  have nsK:∀ {b:Addr} {m:Str -> Option Value},s₁.heap.Ns b m -> (uO s₁.heap H).Ns b m:=fun {b m} ⟨o,es,ep,e,d,r⟩=>⟨o,es,ep,base_of e (noA e d),d,r⟩
  have hKb:K.In (uO s₁.heap H):=fun b o e=>base_of (KX b o e) (by
   cases q:H b with
   | none=>rfl
   | some u=>
    have e':b = a:=hA b (by rw [q];simp)
    subst e'
    rw [hK (by rw [q];simp)] at e;cases e)
  have hM:Mod K mg (uO s₁.heap H):=⟨hKb,nsK hns,⟨mb,nsK hb,hbb⟩,let ⟨mc,h1,h2⟩:=hlim;⟨mc,nsK h1,h2⟩⟩
  have e0:Env0 P w K mg (uO s₁.heap H) callerA [] s₁ H:=⟨rfl,hM,fun b o e=>GZ e,Nat.le_of_eq (BZ _ _),trivial,fun b hb=>absurd (show b ∈ ([]:List Addr) from hb) (by simp),hok,.of_eq hg⟩
  refine codeAny_mono ((F _ hKb (nsK hns)).run callerA [] s₁ H ⟨[.ref a],[]⟩ [.ref a] [.ref a] _ _ hr e0 (hbind s₁ (.ref a)) (.cons rfl .nil) (hsp H hO hS)) fun r s' h=>?_
  cases r with
  | error e=>exact (hCX H e s' h).elim
  | ok fl=>
   cases fl with
   | next=>exact False.elim h
   | brk=>exact False.elim h
   | cont=>exact False.elim h
   | ret u=>
    obtain ⟨v,H',os,bare,un,hok',r',q⟩:=h
    have q':v = .bl true:=q
    subst q'
    obtain rfl:u = Value.bool true:=r'
    refine ⟨rfl,OldK.of_keep fun b o e=>?_,os,bare⟩
    cases q:H b with
    | none=>exact un.keep b o e q (by intro z;exact absurd (show b ∈ ([]:List Addr) from z) (by simp)) (by simp)
    | some u=>
     rcases hO b with z | ⟨ob,xs,z⟩
     ·rw [q] at z;cases z
     ·have z2:=un.frzs b ob _ z
      obtain ⟨e1,_⟩:=hok b _ z
      obtain ⟨e2,_⟩:=hok' b _ z2
      rw [e] at e1;cases e1
      exact e2
 cases hk:K.lookup a with
 | some o=>
  -- the script is one of the module's own objects
  have e:=KX a o hk
  rw [ha] at e
  cases e
  refine core (fun _=>none) (fun _=>.inl rfl) (.inr ⟨_,vs.toArray,_,hk,rfl,rfl,rfl,by rw [List.size_toArray,lenV];exact hl,by simpa using rv⟩) (fun b u z=>by have z':(none:Option HO) = some u:=z;cases z') (fun b z=>absurd rfl z) fun z=>absurd rfl z
 | none=>
  refine core (fun b=>if b = a then some (.frz { cls:=.type "list",data:=.seq vs.toArray } (.lst (ns.map V.int))) else none) (fun b=>?_) (.inl (.inr ⟨{ cls:=.type "list",data:=.seq vs.toArray },if_pos rfl⟩)) (fun b u z=>?_) (fun b z=>?_) fun _=>hk
  ·by_cases hb:b = a
   ·exact .inr ⟨_,_,if_pos hb⟩
   ·exact .inl (if_neg hb)
  ·by_cases hb:b = a
   ·have z':=(if_pos hb).symm.trans z
    cases z'
    subst hb
    exact ⟨ha,by rw [List.length_map];exact hl,vs,_,rv,ha⟩
   ·have z':=(if_neg hb).symm.trans z
    cases z'
  ·by_cases hb:b = a
   ·exact hb
   ·exact absurd (if_neg hb) z
theorem HQ {l:W.OpenLaw} {n k:Nat}    {YP:World -> Heap -> Prop} {d:DefRec} {K:Params -> W.Frag} {CX:World -> CXT} {sp:World -> Sp} {x:Str}
  (hn:l.most = some n) (hn2:n <= sizeLine) (hdf:d.params.defaults = []) (hr:Room k callerA)
  (hY:∀ (w:World) (h:Heap),YP w h -> (K w.params).In h)
  (F:∀ (w:World) (mg:Str -> Option Value) (fa:Addr) (h:Heap),(K w.params).In h -> h.Ns mainGlobals mg -> mg d.name = some (.ref fa) ->
   ∃ fd:FuncData,(∀ (s:Shared) (u:Value),BindsTo s fd ⟨[u],[]⟩ [(x,u)]) /\
    ∀ base:Heap,(K w.params).In base -> base.Ns mainGlobals mg -> FnOk l.prog w (K w.params) mg base (CX w) k fa fd [x] (sp w))
  (hsp:∀ (w:World) (H:Hp) (a:Addr) (ns:List Int),ns.length <= n -> IM H -> SqL (K w.params) H a (ns.map V.int) -> sp w [.ref a] H (fun v _=>v = .bl true) fun _ _ _=>False)
  (hCX:∀ (w:World) (H:Hp) (s:Shared) (e:Value) (s':Shared),CX w [] H s (fun _ _ _=>False) e s' -> False) :
  W.WalkO q loose XP YP l.row.toRowW d [] (fun f vs=>PySem.call f vs):=by
 refine Att.wj hn hdf fun w s₀ s₁ mg mb fa o pm cd doc a vs ns G Y ho hd hcd hmg hobj hints hlen hg=>?_
 have KX:=hY w _ Y
 obtain ⟨fd,hb,hF⟩:=F w mg fa _ KX G.T.g hmg
 exact El KX G.T.g G.T.b G.T.builtins G.T.nolimit hg hobj hints (Nat.le_trans hlen hn2) hr hF hb (fun H hO hS=>hsp w H a ns hlen hO hS) fun H e s'=>hCX w H s₁ e s'
noncomputable def uP (s:Stmt) (j:Nat):Stmt:=match s with
 | .ClassDef _ _ _ body _ _ _ _ _ _ _=>body.getD j (.Pass ⟨0,0,0,0⟩)
 | _=>.Pass ⟨0,0,0,0⟩
noncomputable def mh (s:Stmt):Arguments:=match s with
 | .FunctionDef _ a _ _ _ _ _ _ _ _=>a
 | _=>{ posonlyargs:=[],args:=[],vararg:=none,kwonlyargs:=[],kw_defaults:=[],kwarg:=none,defaults:=[] }
noncomputable def gu (s:Stmt):List Stmt:=match s with
 | .FunctionDef _ _ b _ _ _ _ _ _ _=>b
 | _=>[]
noncomputable def au (s:Stmt):Scope:=match s with
 | .FunctionDef _ _ _ _ _ _ sc _ _ _=>sc
 | _=>{ kind:=.function,names:=[],isGenerator:=false,isCoroutine:=false }
noncomputable abbrev CX0:CXT:=fun _ _ _ _ _ _=>False
noncomputable abbrev E0:XK:=fun _ _ _=>False
theorem AR:jt CX0 X E0:=fun _ _ _ _ _ _ _ h=>h.elim
structure Fun (K:W.Frag) (x qual:Str) (st:Stmt) (f:Addr) (fd:FuncData):Prop where
 ex:∃ (oc:Value) (od:Option Addr) (kV doc pm:Value) (an:Option Addr) (cdv ct:Value) (osl:Array (Option Value)),
  fd = W.fnOf x qual (mh st) (gu st) (au st) .none kV doc pm an cdv ct /\ K.lookup f = some ⟨oc,od,.func fd,osl⟩ /\ W.codeIn K cdv qual = true
 kp:W.keepIn K (.ref f) = true
section
variable {P:Program} {w:World} {K:W.Frag} {mg:Str -> Option Value} {base:Heap}
theorem Fun.ok {x qual:Str} {st:Stmt} {f:Addr} {fd:FuncData} {N ps:List Str} {k:Nat} {sp:Sp} (F:Fun K x qual st f fd) (S:FnScope N ps (au st)) (len:∀ vs H Q E,sp vs H Q E -> vs.length = ps.length)
  (hbody:∀ (cdv:Value) (A:Around) (outer:List Env) (s:Shared) (H:Hp) (vs:List V) (Q:VK) (E:XK),Room k (A.deeper (envOfC qual (au st) s.heap.objs.size f cdv)) -> sp vs H Q E ->
   ∃ t,PSs (wB CX0 P w K mg base N qual (au st) f cdv A outer s H E).nox (gu st) t /\ t { nx:=fun _ H'=>Q .non H',rt:=Q } (eT N vs) H):FnOk P w K mg base CX0 (k + 1) f fd ps sp:=by
 obtain ⟨oc,od,kV,doc,pm,an,cdv,ct,osl,rfl,lk,hcd⟩:=F.ex
 refine Lp lk hcd S len fun A outer s H vs Q E hr hsp=>?_
 obtain ⟨t,h,q⟩:=hbody cdv A outer s H vs Q E hr hsp
 exact ⟨t,h.nox,q⟩
theorem Fun.binds {qual:Str} {st:Stmt}  {fd:FuncData} {ps:List Str} (F:Fun K x qual st f fd)
  (h:∀ (kV doc pm:Value) (an:Option Addr) (cdv ct:Value) (us:List Value),us.length = ps.length -> bindArgs (W.fnOf x qual (mh st) (gu st) (au st) .none kV doc pm an cdv ct) ⟨us,[]⟩ = pure (ps.zip us)):Binds K fd ps []:=by
 obtain ⟨oc,od,kV,doc,pm,an,cdv,ct,osl,rfl,lk,hcd⟩:=F.ex
 exact .all (h kV doc pm an cdv ct)
theorem D3 {x qual:Str} {st:Stmt} {f:Addr} {oc:Value} {od an:Option Addr} {osl:Array (Option Value)} {kV doc pm cdv ct:Value} (l:K.lookup f = some ⟨oc,od,.func (W.fnOf x qual (mh st) (gu st) (au st) .none kV doc pm an cdv ct),osl⟩)
  (c:W.codeIn K cdv qual = true) (k:W.keepIn K (.ref f) = true):Fun K x qual st f (W.fnOf x qual (mh st) (gu st) (au st) .none kV doc pm an cdv ct):=⟨⟨oc,od,kV,doc,pm,an,cdv,ct,osl,rfl,l,c⟩,k⟩
end
section
variable {X:Cx}
theorem pv (i:Nat) {x:Str} {pos:Pos} (hN:X.N[i]? = some x:=by rfl) (hv:Vis X.env.scope x:=by first | exact Or.inl rfl | exact Or.inr (.inl rfl) | exact Or.inr (.inr rfl)) (hd:(x == ("__debug__" : Str)) = false:=by decide)
  (hcd:(x == ("__classdict__" : Str)) = false:=by decide):PE X (.Name x pos) (lV i):=JU hN hv hd hcd
end
theorem Eh {A B:Prop} (h:B):if false = true then A else B:=by
 rw [if_neg Bool.false_ne_true]
 exact h
theorem Ei {A B:Prop} (h:A):if true = true then A else B:=by
 rw [if_pos rfl]
 exact h
def Same (H H':Hp):Prop:=∀ b o,H b = some o -> H' b = some o
theorem Same.refl (H:Hp):Same H H:=fun _ _ h=>h
theorem Same.trans {H1 H2:Hp} (a:Same H H1) (b:Same H1 H2):Same H H2:=fun c o h=>b c o (a c o h)
theorem Same.free {H':Hp} (e:Same H H') {l:Addr} (h:H' l = Option.none):H l = Option.none:=by
 cases q:H l with
 | none=>rfl
 | some o=>
  rw [e l o q] at h
  cases h
end L2
set_option linter.all false
set_option maxHeartbeats 4000000
set_option maxRecDepth 100000
namespace L2
open PySem PySem.Spec PyProof.Rows
structure CmpOk (XN:List Str) (sc scope:Scope) (N:List Str) (js:List (Option Nat)):Prop where
 kind:scope.kind = .function
 cell:∀ y ∈ scope.names,y.2 ≠ .cell
 free:∀ y ∈ scope.names,y.2 = .free -> sc.names.lookup y.1 = some .cell \/ sc.names.lookup y.1 = some .free
 loc:∀ y ∈ scope.names,y.2 = .local -> scope.names.lookup y.1 = some .local
 len:js.length = N.length
 ix:((N.zip js).all fun p=>match p.2 with | none=>true | some j=>decide (XN[j]? = some p.1) && decide (scope.names.lookup p.1 = some .free)) = true
noncomputable def jx (env:Env):List (Str × NameKind) -> List (Str × Addr) -> List (Str × Addr)
 | [],cs=>cs
 | (n,k) :: r,cs=>jx env r (if k = .free then (match env.cells.lookup n with | some c=>(n,c) :: cs | none=>cs) else cs)
theorem wv {env:Env}:∀ {names:List (Str × NameKind)} {cs:List (Str × Addr)},(∀ n c,cs.lookup n = some c -> env.cells.lookup n = some c) -> ∀ n c,(jx env names cs).lookup n = some c -> env.cells.lookup n = some c
 | [],_,h=>h
 | (m,k) :: r,cs,h=>by
  unfold jx
  refine wv ?_
  split
  ·cases e:env.cells.lookup m with
   | none=>exact h
   | some d=>
    intro n c hn
    dsimp only at hn
    rw [List.lookup_cons] at hn
    cases q:n == m with
    | true=>
     rw [q] at hn
     have e1:n = m:=by simpa using q
     cases hn
     rw [e1];exact e
    | false=>rw [q] at hn;exact h n c hn
  ·exact h
theorem wt {env:Env}:∀ {names:List (Str × NameKind)} {cs:List (Str × Addr)} {n:Str},((n,NameKind.free) ∈ names /\ (∃ c,env.cells.lookup n = some c)) \/ (∃ c,cs.lookup n = some c) -> ∃ c,(jx env names cs).lookup n = some c
 | [],_,_,h=>h.elim (fun z=>by cases z.1) id
 | (m,k) :: r,cs,n,h=>by
  unfold jx
  refine wt ?_
  rcases h with ⟨hm,c,hc⟩ | ⟨c,hc⟩
  ·rcases List.mem_cons.mp hm with e | hm
   ·cases e
    right
    rw [if_pos rfl,hc]
    exact ⟨c,by rw [List.lookup_cons];simp⟩
   ·exact .inl ⟨hm,c,hc⟩
  ·right
   split
   ·cases e:env.cells.lookup m with
    | none=>exact ⟨c,hc⟩
    | some d=>
     dsimp only
     rw [List.lookup_cons]
     cases q:n == m with
     | true=>exact ⟨d,rfl⟩
     | false=>exact ⟨c,hc⟩
   ·exact ⟨c,hc⟩
theorem pU {env:Env} {scope:Scope} (h:∀ y ∈ scope.names,y.2 = .free -> ∃ c,env.cells.lookup y.1 = some c):closureFor scope env = pure (jx env scope.names []):=by
 have key:∀ (names:List (Str × NameKind)) (cs:List (Str × Addr)),(∀ y ∈ names,y.2 = .free -> ∃ c,env.cells.lookup y.1 = some c) ->
   (forIn names cs (fun (x:Str × NameKind) r=>if (x.2 == NameKind.free) = true then (do let a ← cellOf env x.1;pure (ForInStep.yield ((x.1,a) :: r))) else pure (ForInStep.yield r)):Sem (List (Str × Addr))) = pure (jx env names cs):=by
  intro names
  induction names with
  | nil=>intro cs _;rfl
  | cons y r ih=>
   intro cs hy
   obtain ⟨n,k⟩:=y
   rw [List.forIn_cons]
   unfold jx
   by_cases hk:k = .free
   ·subst hk
    obtain ⟨c,hc⟩:=hy _ List.mem_cons_self rfl
    have e1:cellOf env n = pure c:=by unfold cellOf;rw [hc]
    rw [if_pos (by rfl)]
    rw [if_pos rfl,hc]
    show ((cellOf env n >>= fun a=>pure (ForInStep.yield ((n,a) :: cs))) >>= _) = _
    rw [e1]
    exact ih _ fun z hz=>hy z (List.mem_cons_of_mem _ hz)
   ·have hb:(k == NameKind.free) = false:=by simpa using hk
    rw [if_neg (by rw [hb];decide),if_neg hk]
    exact ih _ fun z hz=>hy z (List.mem_cons_of_mem _ hz)
 have k:=key scope.names [] h
 unfold closureFor
 show (forIn scope.names ([]:List (Str × Addr)) _ >>= fun cs=>pure cs) = _
 refine Eq.trans (congrArg (fun t=>t >>= fun cs=>pure cs) (Eq.trans ?_ k)) rfl
 congr 1
theorem rA {env:Env}:∀ {names:List (Str × NameKind)} {x:Str},names.lookup x = some .free ->
  (names.map fun (n,k)=>if (k == NameKind.free && env.scope.kind == .function && env.kindOf n == some .cell) then (n,NameKind.cell) else (n,k)).lookup x = some .cell \/
  (names.map fun (n,k)=>if (k == NameKind.free && env.scope.kind == .function && env.kindOf n == some .cell) then (n,NameKind.cell) else (n,k)).lookup x = some .free
 | [],_,h=>by simp at h
 | (n,k) :: r,x,h=>by
  have ih:=@rA env r x
  rw [List.map_cons]
  dsimp only
  cases q:x == n with
  | true=>
   rw [List.lookup_cons,q] at h
   cases h
   split
   ·left;rw [List.lookup_cons,q]
   ·right;rw [List.lookup_cons,q]
  | false=>
   rw [List.lookup_cons,q] at h
   split
   ·rw [List.lookup_cons,q];exact ih h
   ·rw [List.lookup_cons,q];exact ih h
theorem lK {env:Env}:∀ {names:List (Str × NameKind)} {x:Str} {j:NameKind},(∀ y ∈ names,y.2 ≠ .cell) -> (j = .cell \/ j = .free) ->
  (names.map fun (n,k)=>if (k == NameKind.free && env.scope.kind == .function && env.kindOf n == some .cell) then (n,NameKind.cell) else (n,k)).lookup x = some j -> (x,NameKind.free) ∈ names
 | [],_,_,_,_,h=>by simp at h
 | (n,k) :: r,x,j,hc,hj,h=>by
  have ih:=@lK env r x j (fun y hy=>hc y (List.mem_cons_of_mem _ hy)) hj
  rw [List.map_cons] at h
  dsimp only at h
  cases q:x == n with
  | true=>
   have e:x = n:=by simpa using q
   subst e
   split at h
   ·rename_i g
    have:k = .free:=by
     simp only [Bool.and_eq_true,beq_iff_eq] at g
     exact g.1.1
    subst this
    exact List.mem_cons_self
   ·rw [List.lookup_cons,q] at h
    cases h
    rcases hj with z | z
    ·exact absurd z (hc _ List.mem_cons_self)
    ·rw [z];exact List.mem_cons_self
  | false=>
   refine List.mem_cons_of_mem _ (ih ?_)
   split at h
   ·rw [List.lookup_cons,q] at h;exact h
   ·rw [List.lookup_cons,q] at h;exact h
noncomputable def inn (js:List (Option Nat)) (σ:St):St:=js.map fun o=>match o with | none=>none | some j=>(σ[j]?).join
structure CxZ where
 cl:List (Str × Addr)
 C:Addr
 s:Shared
 H:Hp
 fp:List Addr
 pins:List (Addr × Obj)
noncomputable def cxC (X:Cx) (N:List Str) (scope:Scope) (z:CxZ):Cx where
 prog:=X.prog
 w:=X.w
 K:=X.K
 mg:=X.mg
 base:=X.base
 A:=X.A
 N:=N
 s₀:=z.s
 H₀:=z.H
 env:=compEnvC scope z.cl z.C X.env
 outer:=X.stack
 stack:=X.stack
 ex:=z.fp
 fn:=fun _=>false
 calm:=X.calm
 pn:=X.pn ++ z.pins
 xe:=fun _ _=>False
section
variable {X:Cx} {pins:List (Addr × Obj)} {σ:St} {H:Hp} {s:Shared} {XN N:List Str} {sc scope:Scope} {js:List (Option Nat)}
theorem Eg {h1:Heap} {m:Str -> Option Value} {tk:Nat} {fp:List Addr} (ck:CmpOk XN sc scope N js) (hXN:X.N = XN) (hsc:X.env.scope = sc) (I:Inv X pins σ H s) (hf:∀ b ∈ fp,pJ X pins H b)
  (hfo:∀ b ∈ fp,b < s.heap.objs.size) (hn:h1.Ns s.heap.objs.size m) (hk:∀ b o,s.heap.get? b = some o -> h1.get? b = some o) :
  Inv (cxC X N scope ⟨jx X.env scope.names [],s.heap.objs.size,s,H,fp,pins⟩) [] (inn js σ) H { s with heap:=h1,toks:=tk }:=by
 subst hXN hsc
 have sub:∀ n c,(jx X.env scope.names []).lookup n = some c -> X.env.cells.lookup n = some c:=wv fun n c h=>by simp at h
 have clt:∀ n c,(jx X.env scope.names []).lookup n = some c -> c < s.heap.objs.size:=fun n c h=>by
  obtain ⟨v,q⟩:=I.cell n c (sub n c h)
  exact q.lt
 have has:∀ x,(x,NameKind.free) ∈ scope.names -> ∃ c,(jx X.env scope.names []).lookup x = some c:=fun x hx=>
  wt (.inl ⟨hx,I.ok.has x (ck.free _ hx rfl)⟩)
 refine ⟨⟨I.ok.mod,ck.kind,I.ok.glob,I.ok.blt,Nat.le_refl _,fun x y c h1 h2=>I.ok.inj x y c (sub x c h1) (sub y c h2),fun x hx=>?has,fun x c hx=>?cab,I.ok.hd,I.ok.frames,.inl rfl,fun b hb=>?exf,I.bs,?bsz,fun b o e hb=>?noex,fun b hb=>?exfs,I.stack,I.stkFree⟩,
  rfl,I.bare,Un.kept hk,⟨m,hn,fun i x v h1 h2 h3=>?loc⟩,fun x c h=>?cell,I.hok.fresh (Nat.le_refl _),fun x c h=>I.freeC x c (sub x c h),fun p hp=>?pin,I.hok.kept hk,?len⟩
 case has=>
  rcases hx with hx | hx
  ·exact has x (lK ck.cell (.inl rfl) hx)
  ·exact has x (lK ck.cell (.inr rfl) hx)
 case cab=>cases hx
 case exf=>
  obtain ⟨f0,f1,f2,f3,f4,f5⟩:=hf b hb
  exact ⟨Nat.ne_of_lt (hfo b hb),fun x c e=>f4 x c (sub x c e)⟩
 case bsz=>exact Nat.le_trans I.ok.bsz I.sz
 case noex=>
  obtain ⟨f0,f1,f2,f3,f4,f5⟩:=hf b hb
  rcases f3 with f3 | f3
  ·exact I.ok.noex b o e f3
  ·exact absurd (Nat.lt_of_lt_of_le (Heap.lt_size e) (Nat.le_trans I.ok.bsz f3)) (Nat.lt_irrefl _)
 case exfs=>
  obtain ⟨f0,f1,f2,f3,f4,f5⟩:=hf b hb
  intro z
  rcases List.mem_cons.mp (I.stkSub b z) with e | e
  ·exact f1 e
  ·exact f2 e
 case loc=>
  have hl:N.length = js.length:=ck.len.symm
  have hi:i < js.length:=by
   have:=(List.getElem?_eq_some_iff.mp h1).1
   have e:(cxC X N scope ⟨jx X.env scope.names [],s.heap.objs.size,s,H,fp,pins⟩).N = N:=rfl
   rw [e] at this
   lia
  have hN:N[i]? = some x:=h1
  have hj:js[i]? = some js[i]:=List.getElem?_eq_getElem hi
  unfold inn at h2
  rw [List.getElem?_map,hj] at h2
  cases q:js[i] with
  | none=>rw [q] at h2;cases h2
  | some j=>
   rw [q] at h2 hj
   have h2':(σ[j]?).join = some v:=Option.some.inj h2
   have hσ:σ[j]? = some (some v):=by
    cases e:σ[j]? with
    | none=>rw [e] at h2';cases h2'
    | some o=>rw [e] at h2';exact congrArg some h2'
   have hm:(x,some j) ∈ N.zip js:=by
    refine List.mem_of_getElem? (i:=i) ?_
    rw [List.getElem?_zip_eq_some]
    exact ⟨hN,hj⟩
   have hc:=List.all_eq_true.mp ck.ix _ hm
   simp only [Bool.and_eq_true,decide_eq_true_eq] at hc
   obtain ⟨c1,c2⟩:=hc
   have hfr:(x,NameKind.free) ∈ scope.names:=PySem.mem_of_lookup c2
   have hvis:X.env.scope.names.lookup x = some .cell \/ X.env.scope.names.lookup x = some .free:=ck.free _ hfr rfl
   obtain ⟨m0,hn0,hl0⟩:=I.loc
   obtain ⟨u,r,l⟩:=hl0 j x v c1 hσ (hvis.elim (fun z=>.inr (.inl z)) fun z=>.inr (.inr z))
   refine ⟨u,r,.inr ⟨?_,?_⟩⟩
   ·exact rA c2
   ·rcases l with ⟨k1,_⟩ | ⟨_,c,k1,k2⟩
    ·have k1':X.env.scope.names.lookup x = some .local:=k1
     rcases hvis with z | z
     ·rw [z] at k1';cases k1'
     ·rw [z] at k1';cases k1'
    ·obtain ⟨c',hc'⟩:=has x hfr
     have e:=sub x c' hc'
     rw [k1] at e
     cases e
     obtain ⟨oc,ho,hd⟩:=k2
     exact ⟨c,hc',oc,hk _ _ ho,hd⟩
 case cell=>
  obtain ⟨v,oc,ho,hd⟩:=I.cell x c (sub x c h)
  exact ⟨v,oc,hk _ _ ho,hd⟩
 case pin=>
  have hp':p ∈ X.pn ++ pins:=by simpa [cxC] using hp
  obtain ⟨p1,p2,p3,p4,p5⟩:=I.pin p hp'
  refine ⟨hk _ _ p1,p2,Nat.ne_of_lt (Heap.lt_size p1),fun z=>?_,p5⟩
  rcases List.mem_cons.mp (I.stkSub _ z) with e | e
  ·exact p3 e
  ·exact p4 e
 case len=>
  show (inn js σ).length = N.length
  unfold inn
  rw [List.length_map]
  exact ck.len
noncomputable abbrev TIf:=St -> Hp -> (Bool -> Hp -> Prop) -> Prop
def PIf (X:Cx) (ifs:List Expr) (t:TIf):Prop:=
 ∀ (pins:List (Addr × Obj)) (s:Shared) (σ:St) (H:Hp) (Q:Bool -> Hp -> Prop),Inv X pins σ H s -> t σ H Q ->
  wpAny (model X.prog X.w) X.A (forIn ifs true fun c r=>if r = true then do let ok ← isTrue c X.env (eval c X.env);pure (ForInStep.yield ok) else pure (ForInStep.yield r)) (TP X pins σ Q) X.xe s
noncomputable def Ie:TIf:=fun _ H Q=>Q true H
theorem AS:PIf X [] Ie:=fun _ _ _ H _ I h=>wpAny_tests_nil ⟨H,I,h⟩
theorem AU   (h:PT X c t):PIf X [c] t:=fun pins s σ H Q I q=>wpAny_tests_one (h pins s σ H Q I q)
def Lev (σ σ':St):Prop:=σ.length = σ'.length /\ ∀ (i:Nat) (v:V),σ[i]? = some (some v) -> σ'[i]? = some (some v)
theorem Lev.refl (σ:St):Lev σ σ:=⟨rfl,fun _ _ h=>h⟩
theorem Lev.trans  (h:Lev a b) (k:Lev b c):Lev a c:=⟨h.1.trans k.1,fun i v e=>k.2 i v (h.2 i v e)⟩
def ur (js:List (Option Nat)) (g:TG):Prop:=∀ (σ0:St) (v:V) (σ:St) (H:Hp) (Q:St -> Hp -> Prop),Lev (inn js σ0) σ -> g v σ H Q -> g v σ H fun σ' H'=>Lev (inn js σ0) σ' /\ Q σ' H'
def wc (js:List (Option Nat)) (g:TGs):Prop:=∀ (σ0:St) (vs:List V) (σ:St) (H:Hp) (Q:St -> Hp -> Prop),Lev (inn js σ0) σ -> g vs σ H Q -> g vs σ H fun σ' H'=>Lev (inn js σ0) σ' /\ Q σ' H'
theorem HC {i:Nat} (h:js[i]? = some none:=by rfl):ur js (gv i):=fun σ0 v σ H Q l q=>by
 refine ⟨⟨?_,fun j u e=>?_⟩,q⟩
 ·rw [List.length_set];exact l.1
 ·by_cases hij:i = j
  ·subst hij
   unfold inn at e
   rw [List.getElem?_map,h] at e
   cases e
  ·rw [List.getElem?_set_ne hij]
   exact l.2 j u e
theorem HF:wc js GB:=fun σ0 vs σ H Q l q=>⟨q.1,l,q.2⟩
theorem FM   (h:ur js t) (k:wc js u) (mono:∀ v σ H (Q Q':St -> Hp -> Prop),(∀ a b,Q a b -> Q' a b) -> t v σ H Q -> t v σ H Q'):wc js (AA t u):=fun σ0 vs σ H Q l q=>by
 obtain ⟨v,r,e,q⟩:=q
 exact ⟨v,r,e,mono _ _ _ _ _ (fun σ' H' z=>k σ0 r σ' H' Q z.1 z.2) (h σ0 v σ H _ l q)⟩
theorem y6 {i:Nat}:∀ v σ H (Q Q':St -> Hp -> Prop),(∀ a b,Q a b -> Q' a b) -> gv i v σ H Q -> gv i v σ H Q':=fun _ _ _ _ _ h q=>h _ _ q
theorem KG {K:W.Frag} {n:Nat} {t:TGs} (h:wc js t):ur js (GC K n t):=fun σ0 v σ H Q l q=>by
 obtain ⟨a,xs,e,hq,hl,q⟩:=q
 exact ⟨a,xs,e,hq,hl,h σ0 xs σ H Q l q⟩
noncomputable def yo (js:List (Option Nat)) (wi:TI) (g:TG) (tt:TIf) (te:TE):TE:=fun σ H Q=>wi σ H fun J H1=>∀ D,H1 D = none -> ∃ W:Nat -> Nat -> Hp -> Prop,(∃ m,W 0 m (upd H1 D (.lst []))) /\ ∀ i m H,W i m H ->
 (J.stop i H /\ Q (.ref D) H) \/ (J.go i H /\ ∀ x H',J.yld i H x H' -> g x (inn js σ) H' fun σ2 H2=>tt σ2 H2 fun b H3=>
  if b = true then te σ2 H3 fun y H4=>∃ ys,H4 D = some (.lst ys) /\ ys.length < sizeLine /\ ∃ m',m' < m /\ W (i + 1) m' (upd H4 D (.lst (ys ++ [y]))) else ∃ m',m' < m /\ W (i + 1) m' H3)
variable {tg iter elt:Expr} {ifs:List Expr} {pos:Pos} {wi:TI} {g:TG} {tt:TIf} {te:TE}
theorem BE {E:Value -> Shared -> Prop} {R:Result -> Shared -> Prop} {it:Addr} {fp:List Addr}    {W:Nat -> Nat -> Hp -> Prop} {n:Nat}
  (hc:X.calm = true) (T:Turn X.prog X.w X.K tg J fp it tn) (hz:∀ b ∈ fp,∀ H',H' b = none -> pJ (cxC X N scope z) [] H' b)
  (hg:PG (cxC X N scope z) tg g) (hs:ur js g) (ht:PIf (cxC X N scope z) ifs tt) (he:PE (cxC X N scope z) elt te)
  (turn:∀ i m H,W i m H -> (J.stop i H /\ ∀ s',Inv (cxC X N scope z) [] (inn js σ) H s' -> R (.ok .next) s') \/ (J.go i H /\ ∀ x H',J.yld i H x H' -> g x (inn js σ) H' fun σ2 H2=>tt σ2 H2 fun b H3=>
   if b = true then te σ2 H3 fun y H4=>∃ ys,H4 D = some (.lst ys) /\ ys.length < sizeLine /\ ∃ m',m' < m /\ W (i + 1) m' (upd H4 D (.lst (ys ++ [y]))) else ∃ m',m' < m /\ W (i + 1) m' H3))
   {H1:Hp} (I1:Inv (cxC X N scope z) [] (inn js σ) H1 s1) (t1:tn 0 s1.heap) (f1:∀ b ∈ fp,H1 b = none) (w1:W 0 n H1) :
  codeAny (model X.prog X.w) X.A (.compLoop (.ListComp elt [⟨tg,iter,ifs,0⟩] scope pos) 0 (.ref it) (.ref D) (compEnvC scope z.cl z.C X.env)) R s1:=by
 refine codeAny_loop (c:=.compLoop (.ListComp elt [⟨tg,iter,ifs,0⟩] scope pos) 0 (.ref it) (.ref D) (compEnvC scope z.cl z.C X.env)) rfl
  (fun k s'=>∃ i H',Inv (cxC X N scope z) [] (inn js σ) H' s' /\ tn i s'.heap /\ (∀ b ∈ fp,H' b = none) /\ W i k H') ?_ n ⟨0,H1,I1,t1,f1,w1⟩
 rintro k s2 ⟨i,H2,I2,t2,f2,w2⟩
 show wpAny (model X.prog X.w) X.A ((compTurn (.ListComp elt [⟨tg,iter,ifs,0⟩] scope pos) 0 (.ref it) (.ref D) (compEnvC scope z.cl z.C X.env)).onRaise fun x=>do noteFrame x (compEnvC scope z.cl z.C X.env);theTreesLotGoes x) _ _ s2
 refine wpAny_noted ?_
 rw [compTurn_list]
 refine wpAny_bind (wpAny_standAt ?_)
 rcases turn i k H2 w2 with ⟨stop,fin⟩ | ⟨go,step⟩
 ·refine wpAny_bind (thn (T.done (cxC X N scope z) rfl rfl rfl hc i [] s2 (inn js σ) H2 _ I2 (fun b hb=>hz b hb H2 (f2 b hb)) t2 stop) fun r s3 h3=>?_)
  obtain ⟨rfl,I3⟩:=h3
  exact wpAny_pure (fin s3 I3)
 ·refine wpAny_bind (thn (T.item (cxC X N scope z) rfl rfl rfl hc i [] s2 (inn js σ) H2 _ I2 (fun b hb=>hz b hb H2 (f2 b hb)) t2 go) fun r s3 h3=>?_)
  obtain ⟨u,rfl,h3⟩:=h3
  refine wpAny_bind (thn h3 fun _ s4 h4=>?_)
  obtain ⟨x,H4,I4,r4,y4,t4,f4⟩:=h4
  have P4:=I4.pinned (fun b hb=>hz b hb H4 (f4 b hb)) (T.obj _ _ t4)
  have ff:∀ {e:Value} {s':Shared},(cxC X N scope z).xe e s' -> False:=fun h=>h
  refine wpAny_bind (wpAny_mono (hg _ s4 (inn js σ) H4 x u _ P4 r4 (hs σ x (inn js σ) H4 _ (Lev.refl _) (step x H4 y4))) (fun _ s5 h5=>?_) fun _ _ h=>(ff h).elim)
  obtain ⟨σ5,H5,I5,lev,q5⟩:=h5
  refine wpAny_bind (wpAny_mono (ht _ s5 σ5 H5 _ I5 q5) (fun ok s6 h6=>?_) fun _ _ h=>(ff h).elim)
  obtain ⟨H6,I6,q6⟩:=h6
  have again:∀ {s7:Shared} {H7:Hp},Inv (cxC X N scope z) ([] ++ nQ fp s4.heap) σ5 H7 s7 -> (∃ m',m' < k /\ W (i + 1) m' H7) -> ∃ m,m < k /\ ∃ i H',Inv (cxC X N scope z) [] (inn js σ) H' s7 /\ tn i s7.heap /\ (∀ b ∈ fp,H' b = none) /\ W i m H':=fun {s7 H7} I7 h7=>by
   obtain ⟨m',hm,w7⟩:=h7
   refine ⟨m',hm,i + 1,H7,(I7.unpinned).weak lev.1 lev.2,T.keep _ _ _ t4 fun b hb o e=>(I7.pin (b,o) (List.mem_append_right _ (List.mem_append_right _ (fN hb e)))).1,fun b hb=>?_,w7⟩
   obtain ⟨o,e,d⟩:=T.obj _ _ t4 b hb
   exact (I7.pin (b,o) (List.mem_append_right _ (List.mem_append_right _ (fN hb e)))).2.1
  cases ok with
  | false=>
   rw [if_neg (by decide)] at q6
   exact wpAny_pure ⟨rfl,again I6 q6⟩
  | true=>
   rw [if_pos rfl] at q6
   refine wpAny_bind (wpAny_bind (wpAny_mono (he _ s6 σ5 H6 _ I6 q6) (fun y s7 h7=>?_) fun _ _ h=>(ff h).elim))
   obtain ⟨vy,H7,I7,r7,ys,hD,hl,q7⟩:=h7
   refine wpAny_bind (wpAny_mono (tU (X:=cxC X N scope z) _ s7 σ5 H7 (.ref D) [vy] (.ref D) [y] (fun _ H'=>∃ m',m' < k /\ W (i + 1) m' H') I7 rfl (.cons r7 .nil) ⟨D,ys,vy,rfl,rfl,hD,hl,q7⟩) (fun _ s8 h8=>?_) fun _ _ h=>(ff h).elim)
   obtain ⟨_,H8,I8,_,q8⟩:=h8
   exact wpAny_pure (wpAny_pure ⟨rfl,again I8 q8⟩)
theorem pV  {RR:Value -> Addr -> Result -> Shared -> Prop} {Q:VK}   (ck:CmpOk XN sc scope N js) (hXN:X.N = XN) (hsc:X.env.scope = sc) (hc:X.calm = true)
  (hg:∀ z,PG (cxC X N scope z) tg g) (hs:ur js g) (ht:∀ z,PIf (cxC X N scope z) ifs tt) (he:∀ z,PE (cxC X N scope z) elt te)
  (h2:PIE X pins σ tg (fun J H1=>∀ D,H1 D = none -> ∃ W:Nat -> Nat -> Hp -> Prop,(∃ m,W 0 m (upd H1 D (.lst []))) /\ ∀ i m H,W i m H ->
   (J.stop i H /\ Q (.ref D) H) \/ (J.go i H /\ ∀ x H',J.yld i H x H' -> g x (inn js σ) H' fun σ2 H2=>tt σ2 H2 fun b H3=>
    if b = true then te σ2 H3 fun y H4=>∃ ys,H4 D = some (.lst ys) /\ ys.length < sizeLine /\ ∃ m',m' < m /\ W (i + 1) m' (upd H4 D (.lst (ys ++ [y]))) else ∃ m',m' < m /\ W (i + 1) m' H3)) itv s2)
  (hRR:∀ D C s' H' m o,Inv X (pins ++ [(C,o)]) σ H' s' -> s'.heap.Ns C m -> (X.s₀.heap.objs.size <= C /\ C ≠ X.env.locals /\ (∀ x c,X.env.cells.lookup x = some c -> c ≠ C) /\ ∀ p ∈ X.pn ++ pins,p.1 ≠ C) -> H' C = none -> Q (.ref D) H' -> RR (.ref D) C (.ok .next) s') :
  wpAny (model X.prog X.w) X.A (newList []) (fun acc s₃=>wpAny (model X.prog X.w) X.A (newFunctionEnv scope X.env.globals (jx X.env scope.names []) [] X.env.qual none .none (some X.env)) (fun cenv s₄=>
   codeAny (model X.prog X.w) X.A (.compStart (.ListComp elt [⟨tg,iter,ifs,0⟩] scope pos) 0 itv acc { cenv with scope:=relabel scope X.env }) (RR acc cenv.locals) s₄) E s₃) E s2:=by
 obtain ⟨it,fp,tn,J,H2,rfl,I2,T,t2,f2,q2⟩:=h2
 have fo:∀ b ∈ fp,b < s2.heap.objs.size:=fun b hb=>by
  obtain ⟨o,e,_⟩:=T.obj _ _ t2 b hb
  exact Heap.lt_size e
 have hD:H2 s2.heap.objs.size = none:=I2.fresh
 obtain ⟨W,⟨n,w0⟩,turn⟩:=q2 _ hD
 refine wpAny_newObj_type (wpAny_newFunctionEnv ck.cell (by intro y hy;simp at hy) (fun h1 hns hsb=>?_) ck.kind)
 have I3:Inv X pins σ (upd H2 s2.heap.objs.size (.lst [])) { s2 with heap:=s2.heap.push { cls:=.type "list",data:=.seq ([]:List Value).toArray },toks:=s2.toks }:=I2.lnew (its:=[]) .nil (Nat.zero_le _)
 have f3:∀ b ∈ fp,pJ X pins (upd H2 s2.heap.objs.size (.lst [])) b:=fun b hb=>by
  obtain ⟨g0,g1⟩:=f2 b hb
  exact ⟨by rw [aw (Nat.ne_of_lt (fo b hb))];exact g0,g1⟩
 have sz:(s2.heap.push { cls:=.type "list",data:=.seq ([]:List Value).toArray }).objs.size = s2.heap.objs.size + 1:=Heap.size_push _ _
 have kept:∀ b o,(s2.heap.push { cls:=.type "list",data:=.seq ([]:List Value).toArray }).get? b = some o -> h1.get? b = some o:=fun b o e=>
  hsb.extBut b o (Nat.ne_of_lt (Heap.lt_size e)) (Heap.get?_push_of_some _ e)
 have I4:=Eg (tk:=s2.toks + ([]:List (Str × Value)).length) ck hXN hsc I3 f3 (fun b hb=>by show b < (s2.heap.push _).objs.size;rw [sz];exact Nat.lt_succ_of_lt (fo b hb)) hns kept
 have t4:tn 0 h1:=T.keep _ _ _ t2 fun b hb o e=>kept b o (Heap.get?_push_of_some _ e)
 have fz:∀ b ∈ fp,∀ H',H' b = none -> pJ (cxC X N scope ⟨jx X.env scope.names [],(s2.heap.push { cls:=.type "list",data:=.seq ([]:List Value).toArray }).objs.size,{ s2 with heap:=s2.heap.push { cls:=.type "list",data:=.seq ([]:List Value).toArray },toks:=s2.toks },upd H2 s2.heap.objs.size (.lst []),fp,pins⟩) [] H' b:=fun b hb H' hn=>by
  obtain ⟨g0,g1,g2,g3,g4,g5⟩:=f3 b hb
  refine ⟨hn,(I4.ok.exf b hb).1,I4.ok.exfs b hb,.inl hb,(I4.ok.exf b hb).2,fun p hp=>?_⟩
  exact g5 p (by simpa [cxC] using hp)
 have loop:=BE (X:=X) (σ:=σ) (N:=N) (scope:=scope) (js:=js) (iter:=iter) (pos:=pos) (E:=E) (R:=RR (.ref s2.heap.objs.size) (s2.heap.push { cls:=.type "list",data:=.seq ([]:List Value).toArray }).objs.size) (D:=s2.heap.objs.size) (W:=W) (n:=n)
  hc T fz (hg _) hs (ht _) (he _) (fun i m H w=>(turn i m H w).imp (fun a=>⟨a.1,fun s' Y=>?_⟩) id) I4 t4 (fun b hb=>(f3 b hb).1) w0
 ·exact codeAny_compStart_list loop (T.self _ 0 _ _ _ t4 loop)
 ·have bb:=Y.base
  have J0:Inv X pins σ H s':=I3.call' Y.os bb Y.hok Y.bare fun b hb=>by
   obtain ⟨g0,g1,g2,g3,g4,g5⟩:=f3 b hb
   exact ⟨g3,g1,g4,g5⟩
  obtain ⟨mC,nC,_⟩:=Y.loc
  obtain ⟨oC,eC,dC⟩:∃ o,s'.heap.get? (s2.heap.push { cls:=.type "list",data:=.seq ([]:List Value).toArray }).objs.size = some o /\ ∀ v,o.data ≠ .cell v:=by
   obtain ⟨o,es,ep,ho,hd,_⟩:=nC
   exact ⟨o,ho,fun v z=>by rw [hd] at z;cases z⟩
  have lC:X.s₀.heap.objs.size <= (s2.heap.push { cls:=.type "list",data:=.seq ([]:List Value).toArray }).objs.size:=I3.sz
  have cC:(s2.heap.push { cls:=.type "list",data:=.seq ([]:List Value).toArray }).objs.size ≠ X.env.locals:=Nat.ne_of_gt I3.lt
  have kC:∀ x c,X.env.cells.lookup x = some c -> c ≠ (s2.heap.push { cls:=.type "list",data:=.seq ([]:List Value).toArray }).objs.size:=fun x c e=>by
   obtain ⟨v,q⟩:=I3.cell x c e
   exact Nat.ne_of_lt q.lt
  have pC:∀ p ∈ X.pn ++ pins,p.1 ≠ (s2.heap.push { cls:=.type "list",data:=.seq ([]:List Value).toArray }).objs.size:=fun p hp=>Nat.ne_of_lt (Heap.lt_size (I3.pin p hp).1)
  have J1:Inv X (pins ++ [((s2.heap.push { cls:=.type "list",data:=.seq ([]:List Value).toArray }).objs.size,oC)]) σ H s':=J0.pins_of fun p hp=>by
   rcases List.mem_append.mp hp with hp | hp
   ·exact J0.pin p (List.mem_append_right _ hp)
   ·rw [List.mem_singleton.mp hp]
    exact ⟨eC,Y.free,cC,I3.nofs (Nat.le_refl _),dC⟩
  exact hRR _ _ s' H mC oC J1 nC ⟨lC,cC,kC,pC⟩ Y.free a.2
theorem Ha (ck:CmpOk XN sc scope N js) (hi:PI X tg iter wi) (hg:∀ z,PG (cxC X N scope z) tg g) (hs:ur js g) (ht:∀ z,PIf (cxC X N scope z) ifs tt) (he:∀ z,PE (cxC X N scope z) elt te)
  (hXN:X.N = XN:=by rfl) (hsc:X.env.scope = sc:=by rfl) (hc:X.calm = true:=by rfl) (hf:∀ x,foldedSetIterable iter X.env x = pure x:=by intro _;rfl) :
  PE X (.ListComp elt [⟨tg,iter,ifs,0⟩] scope pos) (yo js wi g tt te):=by
 intro pins s σ H Q I h
 rw [eval_ListComp]
 have hcl:closureFor scope X.env = pure (jx X.env scope.names []):=pU fun y hy hk=>I.ok.has y.1 (by
  have:=ck.free y hy hk
  rw [<- hsc] at this
  exact this)
 refine wpAny_comprehension_free (use:=none) rfl hf hcl ck.kind ck.loc (thn (hi pins s σ H _ I h) fun v s1 h1=>thn h1 fun itv s2 h2=>?_)
 refine pV (RR:=fun acc C=>compPost (model X.prog X.w) X.A X.xe none (EP X pins σ Q) acc C) ck hXN hsc hc hg hs ht he h2 ?_
 intro D C s' H' m o J nC hC fC q
 refine ⟨m,nC,fun h' sb=>⟨.ref D,H',?_,rfl,q⟩⟩
 have J0:Inv X pins σ H' s':=J.unpinned
 exact J0.turned (t':=s'.toks) (it:=C) (fun b o hb e=>sb.extBut b o hb e) fC hC.2.1 (.inr hC.1) hC.2.2.1 hC.2.2.2
theorem Hk {i:Nat} {y:Str} {pos' spos:Pos} (ck:CmpOk XN sc scope N js) (hN:X.N.Nodup) (hi0:X.N[i]? = some y) (hx:Loc X.env.scope y) (hi:PI X tg iter wi) (hg:∀ z,PG (cxC X N scope z) tg g) (hs:ur js g) (ht:∀ z,PIf (cxC X N scope z) ifs tt) (he:∀ z,PE (cxC X N scope z) elt te)
  (hsw:swapsWith (.ListComp elt [⟨tg,iter,ifs,0⟩] scope pos) (some (.Name y pos')) spos.line X.env = pure true:=by rfl)
  (hXN:X.N = XN:=by rfl) (hsc:X.env.scope = sc:=by rfl) (hc:X.calm = true:=by rfl) (hf:∀ x,foldedSetIterable iter X.env x = pure x:=by intro _;rfl)
  (hfn:X.fn y = true \/ X.env.scope.names.lookup y = some .local:=by first | exact .inl rfl | exact .inr rfl | assumption) :
  PS X (.Assign [.Name y pos'] (.ListComp elt [⟨tg,iter,ifs,0⟩] scope pos) spos) (vH (yo js wi g tt te) (gv i)):=by
 intro pins s σ H D I h
 rw [exec_Assign_Name_used _ _ _ _ hsw]
 have hcl:closureFor scope X.env = pure (jx X.env scope.names []):=pU fun y hy hk=>I.ok.has y.1 (by
  have:=ck.free y hy hk
  rw [<- hsc] at this
  exact this)
 refine wpAny_bind (wpAny_standAt (wpAny_bind ?_))
 show wpAny (model X.prog X.w) X.A (comprehension (.ListComp elt [⟨tg,iter,ifs,0⟩] scope pos) scope X.env _ (newList []) false (eval iter X.env) (some (assign (.Name y pos') X.env)) >>= fun _=>pure ()) _ _ s
 refine wpAny_bind (thn (wpAny_comprehension_free (use:=some (assign (.Name y pos') X.env)) (Q:=fun _ s'=>SP X pins D .next s') rfl hf hcl ck.kind ck.loc (thn (hi pins s σ H _ I h) fun v s1 h1=>thn h1 fun itv s2 h2=>?_)) fun _ s' q=>wpAny_pure (wpAny_pure q))
 refine pV (RR:=fun acc C=>compPost (model X.prog X.w) X.A X.xe (some (assign (.Name y pos') X.env)) (fun _ s'=>SP X pins D .next s') acc C) (Q:=fun x H1=>gv i x σ H1 D.nx) ck hXN hsc hc hg hs ht he h2 ?_
 intro A C s' H' m o J nC hC fC q
 refine thn (pz hN hi0 hx hfn _ s' σ H' (.ref A) (.ref A) _ J rfl q) fun _ s3 h3=>?_
 obtain ⟨σ3,H3,J3,q3⟩:=h3
 have pc:=J3.pin (C,o) (List.mem_append_right _ (List.mem_append_right _ List.mem_cons_self))
 have oC:s'.heap.get? C = some o:=(J.pin (C,o) (List.mem_append_right _ (List.mem_append_right _ List.mem_cons_self))).1
 refine ⟨m,nC.at' fun o' e=>?_,fun h' sb=>⟨σ3,H3,?_,q3⟩⟩
 ·rw [oC] at e
  cases e
  exact pc.1
 ·have J0:Inv X pins σ3 H3 s3:=J3.unpinned
  exact J0.turned (t':=s3.toks) (it:=C) (fun b o hb e=>sb.extBut b o hb e) pc.2.1 hC.2.1 (.inr hC.1) hC.2.2.1 hC.2.2.2
end
end L2
namespace Srt
open PySem PySem.W PyProof.Rows
section
variable {α β:Type} (lt:Nat -> Nat -> Bool) (n:Nat)
end
section
variable {lt:Nat -> Nat -> Bool} {le:Nat -> Nat -> Prop} {n:Nat} {p:Array Nat}
noncomputable abbrev at' (p:Array Nat) (i:Nat):Nat:=p.getD i 0
theorem wg {p q:Array Nat} {i j:Nat} (h:p[i]? = q[j]?):at' p i = at' q j:=by
 have e:∀ (r:Array Nat) (k:Nat),at' r k = (r[k]?).getD 0:=fun r k=>by simp [at']
 rw [e,e,h]
def Asc (le:Nat -> Nat -> Prop) (p:Array Nat) (m:Nat):Prop:=∀ i j,i <= j -> j < m -> le (at' p i) (at' p j)
def Bel (n:Nat) (p:Array Nat):Prop:=∀ k,at' p k < n
structure Ord (lt:Nat -> Nat -> Bool) (le:Nat -> Nat -> Prop):Prop where
 tr:∀ a b c,le a b -> le b c -> le a c
 rf:∀ a,le a a
 yes:∀ a b,lt a b = true -> le a b
 no:∀ a b,lt a b = false -> le b a
theorem I0 (hn:0 < n) (hp:p.Perm (List.range n).toArray):Bel n p:=fun k=>by
 have e:at' p k = (p[k]?).getD 0:=by simp [at']
 rw [e]
 cases h:p[k]? with
 | none=>exact hn
 | some v=>
  have hm:v ∈ p:=Array.mem_of_getElem? h
  have:=(Array.perm_iff_toList_perm.mp hp).mem_iff.mp (Array.mem_toList_iff.mpr hm)
  simpa using this
theorem cc {i j:Nat} (hj:j <= p.size) (k:Nat):at' (kas_rev p i j) k = if i <= k /\ k < j then at' p (i + j - 1 - k) else at' p k:=by
 have e:=getElem?_mirror_all (i:=i) hj k
 by_cases h:i <= k /\ k < j
 ·rw [if_pos h] at e ⊢;exact wg e
 ·rw [if_neg h] at e ⊢;exact wg e
variable {z:Nat}
theorem m5 {src d:Nat} (hs:src < p.size) (hd:d <= src) (k:Nat):at' (bubble p src d) k = if k = src - d then at' p src else if src - d < k /\ k <= src then at' p (k - 1) else at' p k:=by
 have e:=getElem?_bubble hs d hd k
 by_cases h1:k = src - d
 ·rw [if_pos h1] at e ⊢;exact wg e
 ·rw [if_neg h1] at e ⊢
  by_cases h2:src - d < k /\ k <= src
  ·rw [if_pos h2] at e ⊢;exact wg e
  ·rw [if_neg h2] at e ⊢;exact wg e
end
theorem zG {α:Type} {le:Nat -> Nat -> Prop} {p:Array Nat} {vs:List α} {d:α} (hp:p.Perm (List.range vs.length).toArray) (ha:Asc le p vs.length) :
  (p.toList.map fun i=>vs.getD i d).Perm vs /\ ∀ R:α -> α -> Prop,(∀ i j,i < vs.length -> j < vs.length -> le i j -> R (vs.getD i d) (vs.getD j d)) -> (p.toList.map fun i=>vs.getD i d).Pairwise R:=by
 have hl:p.toList.Perm (List.range vs.length):=by simpa using Array.perm_iff_toList_perm.mp hp
 constructor
 ·have h1:(p.toList.map fun i=>vs.getD i d).Perm ((List.range vs.length).map fun i=>vs.getD i d):=hl.map _
  have h2:((List.range vs.length).map fun i=>vs.getD i d) = vs:=by
   apply List.ext_getElem
   ·simp
   ·intro i h1 h2;simp at h1;simp [h1]
  rw [h2] at h1
  exact h1
 ·intro R hR
  rw [List.pairwise_map,List.pairwise_iff_getElem]
  intro i j hi hj hij
  have hs:p.toList.length = vs.length:=by rw [hl.length_eq];simp
  have m:∀ k (hk:k < p.toList.length),p.toList[k] < vs.length:=fun k hk=>by simpa using hl.mem_iff.mp (List.getElem_mem hk)
  have a:∀ k (hk:k < p.toList.length),at' p k = p.toList[k]:=fun k hk=>by
   have:k < p.size:=by simpa using hk
   simp [at',Array.getD,this]
  refine hR _ _ (m i hi) (m j hj) ?_
  rw [<- a i hi,<- a j hj]
  exact ha i j (Nat.le_of_lt hij) (by lia)
noncomputable def GD:Bool -> Keyed -> Array Keyed -> Nat -> Nat -> Nat -> StateT SortSt Sem (Option Nat):=sortPriv% PySem.Builtin.gallop
noncomputable def EB:Array Keyed -> Array Keyed -> StateT SortSt Sem (Array Keyed):=sortPriv% PySem.Builtin.mergeLo
noncomputable def EA:Array Keyed -> Array Keyed -> StateT SortSt Sem (Array Keyed):=sortPriv% PySem.Builtin.mergeHi
section
variable {prog:Program} {w:World} {A:Around} {E:Value -> Shared -> Prop} {s:Shared} {κ:SortKind} {it:Array Keyed} {n:Nat} {lt:Nat -> Nat -> Bool} {le:Nat -> Nat -> Prop}
def r9 (prog:Program) (w:World) (A:Around) (s:Shared) (κ:SortKind) (it:Array Keyed) (n:Nat) (lt:Nat -> Nat -> Bool):Prop:=
 ∀ i j (C:Bool -> Shared -> Prop),i < n -> j < n -> C (lt i j) s -> kas_cmp prog w A κ it i j C s
theorem w_lt (hc:r9 prog w A s κ it n lt) {i j:Nat} {Q:Option Bool -> SortSt -> Prop} {st:SortSt} (hk:kindOf st = κ) (hi:i < n) (hj:j < n) (h:Q (some (lt i j)) st):wpS (model prog w) A E s (lt' (kas_item it i) (kas_item it j)) Q st:=by
 rw [lt'_eq]
 refine wpS_bind (wpS_get ?_)
 rw [hk]
 refine wpS_bind (wpS_lift (wpAny_attempt (wpAny_mono (hc i j (fun c s'=>s' = s /\ c = lt i j) hi hj ⟨rfl,rfl⟩) (fun c s' h'=>?_) fun _ _ hF=>hF.elim)))
 obtain ⟨rfl,rfl⟩:=h'
 exact ⟨rfl,wpS_pure h⟩
theorem bm {X:Array Nat} {k:Nat} {Q:Keyed -> SortSt -> Prop} {st:SortSt} (hk:k < X.size) (h:Q (kas_item it (at' X k)) st):wpS (model prog w) A E s (elem' (X.map (kas_item it)) k) Q st:=by
 rw [elem'_eq]
 have e:at' X k = X[k]:=by simp [at',hk]
 rw [e] at h
 have e2:(X.map (kas_item it))[k]? = some (kas_item it X[k]):=by simp [hk]
 rw [e2]
 exact wpS_pure h
theorem ij (o:Ord lt le) (hc:r9 prog w A s κ it n lt) {left:Bool} {key:Nat} {X:Array Nat} {base m hint:Nat} {Q:Option Nat -> SortSt -> Prop} {st:SortSt} (hk:kindOf st = κ) (hb:∀ i,i < X.size -> at' X i < n) (hkey:key < n)
  (hz:base + m <= X.size) (hh:hint < m) (hs:∀ i j,i <= j -> j < m -> le (at' X (base + i)) (at' X (base + j)))
  (h:∀ k,k <= m -> (∀ i,i < k -> le (at' X (base + i)) key) -> (∀ i,k <= i -> i < m -> le key (at' X (base + i))) -> Q (some k) st) :
  wpS (model prog w) A E s (GD left (kas_item it key) (X.map (kas_item it)) base m hint) Q st:=by
 have bey:∀ i,i < m -> ∀ (R:Option Bool -> SortSt -> Prop),(∀ c,(c = true -> le (at' X (base + i)) key) -> (c = false -> le key (at' X (base + i))) -> R (some c) st) -> wpS (model prog w) A E s (do
   let x ← elem' (X.map (kas_item it)) (base + i)
   if left = true then lt' x (kas_item it key) else do
    let r ← lt' (kas_item it key) x
    pure (Option.map (fun x=>!x) r)) R st:=fun i hi R hR=>by
  refine wpS_bind (bm (by lia) ?_)
  have hx:=hb (base + i) (by lia)
  cases left with
  | true=>
   rw [if_pos rfl]
   exact w_lt hc hk hx hkey (hR _ (o.yes _ _) (o.no _ _))
  | false=>
   rw [if_neg (by decide)]
   refine wpS_bind (w_lt hc hk hkey hx (wpS_pure ?_))
   refine hR _ (fun e=>o.no _ _ (by simpa using e)) (fun e=>o.yes _ _ (by simpa using e))
 have lo':∀ k,k < m -> le (at' X (base + k)) key -> ∀ i,i <= k -> le (at' X (base + i)) key:=fun k hk hl i hi=>o.tr _ _ _ (hs i k hi hk) hl
 have hi':∀ k,k < m -> le key (at' X (base + k)) -> ∀ i,k <= i -> i < m -> le key (at' X (base + i)):=fun k hk hl i hi him=>o.tr _ _ _ hl (hs k i hi him)
 refine wpS_bind (bey hint hh _ fun c c1 c2=>?_)
 dsimp only
 cases c with
 | true=>
  rw [if_pos rfl]
  refine wpS_bind (wpS_mono (wpS_forRange (I:=fun x c st'=>st' = st /\ ∃ l f,c = (none,l,f) /\ x + 1 <= f /\ hint + l < m /\ le (at' X (base + (hint + l))) key)
   (Q:=fun c st'=>st' = st /\ ∃ l f,c = (none,l,f) /\ hint + l < m /\ le (at' X (base + (hint + l))) key /\ (f < m - hint -> le key (at' X (base + (hint + f))))) ?s1 ?f1 ?i1) ?p1)
  case i1=>exact ⟨rfl,0,1,rfl,by lia,by lia,c1 rfl⟩
  case f1=>
   rintro c st' ⟨rfl,l,f,rfl,h1,h2,h3⟩
   exact ⟨rfl,l,f,rfl,h2,h3,fun _=>by lia⟩
  case s1=>
   rintro x c st' _ hx ⟨rfl,l,f,rfl,h1,h2,h3⟩
   dsimp only
   by_cases hge:f ≥ m - hint
   ·rw [if_pos hge]
    exact wpS_pure ⟨rfl,l,f,rfl,h2,h3,fun _=>by lia⟩
   ·rw [if_neg hge]
    refine wpS_bind (bey (hint + f) (by lia) _ fun c d1 d2=>?_)
    dsimp only
    cases c with
    | true=>exact wpS_pure ⟨rfl,f,2 * f + 1,rfl,by lia,by lia,d1 rfl⟩
    | false=>exact wpS_pure ⟨rfl,l,f,rfl,h2,h3,fun _=>d2 rfl⟩
  case p1=>
   rintro c st' ⟨rfl,l,f,rfl,h2,h3,h4⟩
   dsimp only
   have g1:∀ i,i < hint + l + 1 -> i < m -> le (at' X (base + i)) key:=fun i hi _=>lo' _ h2 h3 i (by lia)
   have g2:∀ i,hint + min f (m - hint) <= i -> i < m -> le key (at' X (base + i)):=fun i hi him=>hi' (hint + f) (by lia) (h4 (by lia)) i (by lia) him
   have g3:hint + min f (m - hint) <= m:=by lia
   generalize hint + l + 1 = L at g1 ⊢
   generalize hint + min f (m - hint) = H at g2 g3 ⊢
   refine wpS_bind (wpS_mono (wpS_forRange (I:=fun x c st2=>st2 = st' /\ ∃ l h,c = (none,l,h) /\ h <= m /\ h - l <= m - x /\ (∀ i,i < l -> i < m -> le (at' X (base + i)) key) /\ (∀ i,h <= i -> i < m -> le key (at' X (base + i))))
    (Q:=fun c st2=>st2 = st' /\ ∃ l h,c = (none,l,h) /\ h <= m /\ h <= l /\ (∀ i,i < l -> i < m -> le (at' X (base + i)) key) /\ (∀ i,h <= i -> i < m -> le key (at' X (base + i)))) ?s2 ?f2 ?i2) ?p2)
   case i2=>exact ⟨rfl,L,H,rfl,g3,by lia,g1,g2⟩
   case f2=>
    rintro c st2 ⟨rfl,l,h,rfl,k1,k2,k3,k4⟩
    exact ⟨rfl,l,h,rfl,k1,by lia,k3,k4⟩
   case s2=>
    rintro x c st2 _ hx ⟨rfl,l,h,rfl,k1,k2,k3,k4⟩
    dsimp only
    by_cases hge:l ≥ h
    ·rw [if_pos hge]
     exact wpS_pure ⟨rfl,l,h,rfl,k1,hge,k3,k4⟩
    ·rw [if_neg hge]
     refine wpS_bind (bey (l + (h - l) / 2) (by lia) _ fun c d1 d2=>?_)
     dsimp only
     cases c with
     | true=>exact wpS_pure ⟨rfl,_,_,rfl,k1,by lia,fun i hi him=>lo' _ (by lia) (d1 rfl) i (by lia),k4⟩
     | false=>exact wpS_pure ⟨rfl,_,_,rfl,by lia,by lia,k3,fun i hi him=>hi' _ (by lia) (d2 rfl) i hi him⟩
   case p2=>
    rintro c st2 ⟨rfl,l,h',rfl,k1,k2,k3,k4⟩
    exact wpS_pure (h h' k1 (fun i hi=>k3 i (by lia) (by lia)) k4)
 | false=>
  rw [if_neg (by decide)]
  refine wpS_bind (wpS_mono (wpS_forRange (I:=fun x c st'=>st' = st /\ ∃ l f,c = (none,l,f) /\ x + 1 <= f /\ l <= hint /\ le key (at' X (base + (hint - l))))
   (Q:=fun c st'=>st' = st /\ ∃ l f,c = (none,l,f) /\ l <= hint /\ le key (at' X (base + (hint - l))) /\ (f < hint + 1 -> le (at' X (base + (hint - f))) key)) ?s1 ?f1 ?i1) ?p1)
  case i1=>exact ⟨rfl,0,1,rfl,by lia,by lia,c2 rfl⟩
  case f1=>
   rintro c st' ⟨rfl,l,f,rfl,h1,h2,h3⟩
   exact ⟨rfl,l,f,rfl,h2,h3,fun _=>by lia⟩
  case s1=>
   rintro x c st' _ hx ⟨rfl,l,f,rfl,h1,h2,h3⟩
   dsimp only
   by_cases hge:f ≥ hint + 1
   ·rw [if_pos hge]
    exact wpS_pure ⟨rfl,l,f,rfl,h2,h3,fun _=>by lia⟩
   ·rw [if_neg hge]
    refine wpS_bind (bey (hint - f) (by lia) _ fun c d1 d2=>?_)
    dsimp only
    cases c with
    | true=>exact wpS_pure ⟨rfl,l,f,rfl,h2,h3,fun _=>d1 rfl⟩
    | false=>exact wpS_pure ⟨rfl,f,2 * f + 1,rfl,by lia,by lia,d2 rfl⟩
  case p1=>
   rintro c st' ⟨rfl,l,f,rfl,h2,h3,h4⟩
   dsimp only
   have g1:∀ i,i < hint + 1 - min f (hint + 1) -> i < m -> le (at' X (base + i)) key:=fun i hi _=>lo' (hint - f) (by lia) (h4 (by lia)) i (by lia)
   have g2:∀ i,hint - l <= i -> i < m -> le key (at' X (base + i)):=fun i hi him=>hi' (hint - l) (by lia) h3 i (by lia) him
   have g3:hint - l <= m:=by lia
   generalize hint + 1 - min f (hint + 1) = L at g1 ⊢
   generalize hint - l = H at g2 g3 ⊢
   refine wpS_bind (wpS_mono (wpS_forRange (I:=fun x c st2=>st2 = st' /\ ∃ l h,c = (none,l,h) /\ h <= m /\ h - l <= m - x /\ (∀ i,i < l -> i < m -> le (at' X (base + i)) key) /\ (∀ i,h <= i -> i < m -> le key (at' X (base + i))))
    (Q:=fun c st2=>st2 = st' /\ ∃ l h,c = (none,l,h) /\ h <= m /\ h <= l /\ (∀ i,i < l -> i < m -> le (at' X (base + i)) key) /\ (∀ i,h <= i -> i < m -> le key (at' X (base + i)))) ?s2 ?f2 ?i2) ?p2)
   case i2=>exact ⟨rfl,L,H,rfl,g3,by lia,g1,g2⟩
   case f2=>
    rintro c st2 ⟨rfl,l,h,rfl,k1,k2,k3,k4⟩
    exact ⟨rfl,l,h,rfl,k1,by lia,k3,k4⟩
   case s2=>
    rintro x c st2 _ hx ⟨rfl,l,h,rfl,k1,k2,k3,k4⟩
    dsimp only
    by_cases hge:l ≥ h
    ·rw [if_pos hge]
     exact wpS_pure ⟨rfl,l,h,rfl,k1,hge,k3,k4⟩
    ·rw [if_neg hge]
     refine wpS_bind (bey (l + (h - l) / 2) (by lia) _ fun c d1 d2=>?_)
     dsimp only
     cases c with
     | true=>exact wpS_pure ⟨rfl,_,_,rfl,k1,by lia,fun i hi him=>lo' _ (by lia) (d1 rfl) i (by lia),k4⟩
     | false=>exact wpS_pure ⟨rfl,_,_,rfl,by lia,by lia,k3,fun i hi him=>hi' _ (by lia) (d2 rfl) i hi him⟩
   case p2=>
    rintro c st2 ⟨rfl,l,h',rfl,k1,k2,k3,k4⟩
    exact wpS_pure (h h' k1 (fun i hi=>k3 i (by lia) (by lia)) k4)
end
end Srt
namespace Srt
section
variable {le:Nat -> Nat -> Prop} {tot out ra rb xs:List Nat}
def Inv (le:Nat -> Nat -> Prop) (tot out ra rb:List Nat):Prop:=(out ++ ra).Pairwise le /\ (out ++ rb).Pairwise le /\ (out ++ (ra ++ rb)).Perm tot
theorem Inv.symm (h:Inv le tot out ra rb):Inv le tot out rb ra:=⟨h.2.1,h.1,(List.Perm.append_left _ List.perm_append_comm).trans h.2.2⟩
theorem Inv.block (h:Inv le tot out (xs ++ ra) rb) (k:∀ x ∈ xs,∀ y ∈ rb,le x y):Inv le tot (out ++ xs) ra rb:=by
 obtain ⟨h1,h2,h3⟩:=h
 refine ⟨by rw [List.append_assoc];exact h1,?_,by rw [List.append_assoc,<- List.append_assoc xs];exact h3⟩
 rw [List.pairwise_append] at h1 h2
 rw [List.append_assoc,List.pairwise_append]
 obtain ⟨a1,a2,a3⟩:=h1
 obtain ⟨b1,b2,b3⟩:=h2
 rw [List.pairwise_append] at a2
 refine ⟨a1,List.pairwise_append.mpr ⟨a2.1,b2,k⟩,fun x hx y hy=>?_⟩
 rcases List.mem_append.mp hy with hy | hy
 ·exact a3 x hx y (List.mem_append_left _ hy)
 ·exact b3 x hx y hy
theorem Inv.doneA (h:Inv le tot out ra []):(out ++ ra).Pairwise le /\ (out ++ ra).Perm tot:=⟨h.1,by have:=h.2.2;rwa [List.append_nil] at this⟩
theorem Inv.lastA {x:Nat} (h:Inv le tot out [x] rb) (k:∀ y ∈ rb,le y x):(out ++ (rb ++ [x])).Pairwise le /\ (out ++ (rb ++ [x])).Perm tot:=by
 refine ⟨?_,(List.Perm.append_left _ List.perm_append_comm).trans h.2.2⟩
 obtain ⟨h1,h2,_⟩:=h
 rw [List.pairwise_append] at h1 h2
 rw [List.pairwise_append]
 refine ⟨h1.1,List.pairwise_append.mpr ⟨h2.2.1,List.pairwise_singleton _ _,fun y hy z hz=>?_⟩,fun a ha b hb=>?_⟩
 ·rw [List.mem_singleton] at hz;subst hz;exact k y hy
 ·rcases List.mem_append.mp hb with hb | hb
  ·exact h2.2.2 a ha b hb
  ·exact h1.2.2 a ha b hb
end
section
variable {X Y O:Array Nat} {le:Nat -> Nat -> Prop} {tot:List Nat}
theorem IW {i:Nat} (h:i < X.size):at' X i = X[i]:=by simp [at',h]
theorem iz {i:Nat} (h:i < X.size):X.toList[i]'(by simpa using h) = at' X i:=by rw [IW h];simp
theorem uG {i:Nat} (h:i < X.size):X.toList.drop i = at' X i :: X.toList.drop (i + 1):=by
 rw [List.drop_eq_getElem_cons (by simpa using h),iz h]
theorem ml {i j:Nat} (h:i <= j):X.toList.drop i = (X.extract i j).toList ++ X.toList.drop j:=by
 rw [Array.toList_extract,List.extract_eq_take_drop]
 have e:X.toList.drop j = (X.toList.drop i).drop (j - i):=by rw [List.drop_drop];congr 1;lia
 rw [e,List.take_append_drop]
theorem qO {i x:Nat} (h:x ∈ X.toList.drop i):∃ j,i <= j /\ j < X.size /\ at' X j = x:=by
 obtain ⟨k,hk⟩:=List.getElem?_of_mem h
 rw [List.getElem?_drop] at hk
 obtain ⟨h1,h2⟩:=List.getElem?_eq_some_iff.mp hk
 have h1':i + k < X.size:=by simpa using h1
 exact ⟨i + k,by lia,h1',by rw [<- iz h1'];exact h2⟩
theorem pk {i j x:Nat} (h:x ∈ (X.extract i j).toList):∃ k,i <= k /\ k < j /\ k < X.size /\ at' X k = x:=by
 obtain ⟨k,hk⟩:=List.getElem?_of_mem h
 rw [Array.toList_extract,List.extract_eq_take_drop,List.getElem?_take] at hk
 split at hk
 ·rw [List.getElem?_drop] at hk
  obtain ⟨h1,h2⟩:=List.getElem?_eq_some_iff.mp hk
  have h1':i + k < X.size:=by simpa using h1
  exact ⟨i + k,by lia,by lia,h1',by rw [<- iz h1'];exact h2⟩
 ·cases hk
abbrev J (le:Nat -> Nat -> Prop) (tot:List Nat) (X Y O:Array Nat) (ia ib:Nat):Prop:=Inv le tot O.toList (X.toList.drop ia) (Y.toList.drop ib)
variable {ia ib:Nat}
theorem J.one (j:J le tot X Y O ia ib) (h:ia < X.size) (k:∀ i,ib <= i -> i < Y.size -> le (at' X ia) (at' Y i)):J le tot X Y (O.push (at' X ia)) (ia + 1) ib:=by
 unfold J at j ⊢
 rw [uG h] at j
 have:=Inv.block (xs:=[at' X ia]) j (fun x hx y hy=>by
  rw [List.mem_singleton] at hx
  subst hx
  obtain ⟨i,h1,h2,rfl⟩:=qO hy
  exact k i h1 h2)
 rwa [Array.toList_push]
theorem J.blk {m:Nat} (j:J le tot X Y O ia ib) (k:∀ i l,ia <= i -> i < ia + m -> i < X.size -> ib <= l -> l < Y.size -> le (at' X i) (at' Y l)):J le tot X Y (O ++ X.extract ia (ia + m)) (ia + m) ib:=by
 unfold J at j ⊢
 rw [ml (j:=ia + m) (by lia)] at j
 have:=Inv.block j (fun x hx y hy=>by
  obtain ⟨i,h1,h2,h3,rfl⟩:=pk hx
  obtain ⟨l,h4,h5,rfl⟩:=qO hy
  exact k i l h1 h2 h3 h4 h5)
 rwa [Array.toList_append]
theorem J.sy (j:J le tot X Y O ia ib):J le tot Y X O ib ia:=Inv.symm j
abbrev jr (le:Nat -> Nat -> Prop) (tot:List Nat) (R:Array Nat):Prop:=R.toList.Pairwise le /\ R.toList.Perm tot
theorem J.done1 (j:J le tot X Y O ia ib) (h:Y.size <= ib) (h2:ia <= X.size):jr le tot (O ++ X.extract ia X.size ++ Y.extract ib Y.size):=by
 unfold J at j
 rw [List.drop_of_length_le (l:=Y.toList) (by simpa using h)] at j
 have e:(Y.extract ib Y.size) = #[]:=by simp;lia
 have e2:X.toList.drop ia = (X.extract ia X.size).toList:=by rw [ml h2];simp
 rw [e,Array.append_empty]
 unfold jr
 rw [Array.toList_append,<- e2]
 exact j.doneA
theorem J.done2 (j:J le tot X Y O ia ib) (h:X.size <= ia) (h2:ib <= Y.size):jr le tot (O ++ X.extract ia X.size ++ Y.extract ib Y.size):=by
 have e:(X.extract ia X.size) = #[]:=by simp;lia
 have:=j.sy.done1 h h2
 rw [e,Array.append_empty] at this ⊢
 exact this
theorem J.last (j:J le tot X Y O ia ib) (h:ia + 1 = X.size) (h2:ib <= Y.size) (k:∀ i,i < Y.size -> le (at' Y i) (at' X ia)):jr le tot (O ++ Y.extract ib Y.size ++ X.extract ia X.size):=by
 unfold J at j
 rw [uG (by lia),List.drop_of_length_le (l:=X.toList) (i:=ia + 1) (by simp;lia)] at j
 have:=j.lastA fun y hy=>by
  obtain ⟨i,h1,h2,rfl⟩:=qO hy
  exact k i h2
 have e:(X.extract ia X.size).toList = [at' X ia]:=by
  have e2:X.toList.drop ia = (X.extract ia X.size).toList:=by rw [ml (j:=X.size) (by lia)];simp
  rw [<- e2,uG (by lia),List.drop_of_length_le (l:=X.toList) (i:=ia + 1) (by simp;lia)]
 have e3:Y.toList.drop ib = (Y.extract ib Y.size).toList:=by rw [ml h2];simp
 unfold jr
 rw [Array.toList_append,Array.toList_append,e,<- e3,List.append_assoc]
 exact this
end
end Srt
namespace Srt
open PySem PySem.W PyProof.Rows
section
variable {prog:Program} {w:World} {A:Around} {E:Value -> Shared -> Prop} {s:Shared} {κ:SortKind} {it:Array Keyed} {n:Nat} {lt:Nat -> Nat -> Bool} {le:Nat -> Nat -> Prop}
def Same (κ:SortKind) (st st':SortSt):Prop:=kindOf st' = κ /\ arrOf st' = arrOf st /\ pendingOf st' = pendingOf st /\ failedOf st' = failedOf st
theorem Same.g {st st2:SortSt} (h:Same κ st st2) (g:Nat):Same κ st (SortSt.mk' (kindOf st2) (arrOf st2) (pendingOf st2) g (failedOf st2)):=h
theorem iZ {σ α:Type} {M:Model} {c:Prop} [Decidable c] {a b:StateT σ Sem α} {Q:α -> σ -> Prop} {st:σ} (h1:wpS M A E s a Q st) (h2:wpS M A E s b Q st):wpS M A E s (if c then a else b) Q st:=by
 by_cases h:c
 ·rw [if_pos h];exact h1
 ·rw [if_neg h];exact h2
theorem exm (f:Nat -> Keyed) (Z:Array Nat):(Z.map f).extract 0 Z.size = Z.map f:=by
 have:Z.size = (Z.map f).size:=by simp
 rw [this];simp
theorem AX {X:Array Nat} (h:∀ i j,i <= j -> j < X.size -> le (at' X i) (at' X j)):X.toList.Pairwise le:=by
 rw [List.pairwise_iff_getElem]
 intro i j hi hj hij
 have h2:j < X.size:=by simpa using hj
 rw [iz (by lia),iz h2]
 exact h i j (by lia) h2
theorem a9 {σ α:Type} {M:Model} {c:Prop} [Decidable c] {a b:StateT σ Sem α} {Q:α -> σ -> Prop} {st:σ} (h1:c -> wpS M A E s a Q st) (h2:¬c -> wpS M A E s b Q st):wpS M A E s (if c then a else b) Q st:=by
 by_cases h:c
 ·rw [if_pos h];exact h1 h
 ·rw [if_neg h];exact h2 h
theorem A9 {σ α β:Type} {M:Model} {c:Prop} [Decidable c] {f:β -> StateT σ Sem α} {a b:β} {Q:α -> σ -> Prop} {st:σ} (h:∀ x,wpS M A E s (f x) Q st):wpS M A E s (if c then f a else f b) Q st:=iZ (h a) (h b)
theorem vN {σ α β γ:Type} {M:Model} {jp:Unit -> β -> γ -> StateT σ Sem α} {m:StateT σ Sem α} {Q:α -> σ -> Prop} {st:σ} (P:β -> γ -> Prop) (h:∀ b c,P b c -> wpS M A E s (jp () b c) Q st) (k:(∀ b c,P b c -> wpS M A E s (jp () b c) Q st) -> wpS M A E s m Q st):wpS M A E s m Q st:=k h
theorem j7 {σ β:Type} {M:Model} {b:Nat} {f:Nat -> β -> StateT σ Sem (ForInStep β)} (I:Nat -> β -> σ -> Prop) (Q:β -> σ -> Prop)
  {P:β -> σ -> Prop} {c:β} {st:σ} (h:I 0 c st)
  (hs:∀ i c st (R:ForInStep β -> σ -> Prop),(∀ c st,Q c st -> R (.done c) st) -> (∀ c st,I (i + 1) c st -> R (.yield c) st) -> i < b -> I i c st -> wpS M A E s (f i c) R st)
  (he:∀ c st,I b c st -> Q c st) (hp:∀ c st,Q c st -> P c st):wpS M A E s (forIn [0:b] c f) P st:=
 wpS_mono (wpS_forRange I (fun i c st _ hb hi=>hs i c st _ (fun _ _ h=>h) (fun _ _ h=>h) hb hi) (fun c st h=>he c st (by rwa [Nat.zero_max] at h)) h) hp
theorem rel {p:Nat -> Prop} {u a b:Nat} (h:∀ i,a <= i -> i < b -> p (u + i)) (i:Nat) (h1:u + a <= i) (h2:i < u + b):p i:=by
 have:=h (i - u) (by lia) (by lia)
 rwa [show u + (i - u) = i by lia] at this
def LR (κ:SortKind) (it:Array Keyed) (st:SortSt) (le:Nat -> Nat -> Prop) (X Y:Array Nat) (r:Option (Array Keyed)) (st2:SortSt):Prop:=∃ R,r = some (R.map (kas_item it)) /\ jr le (X.toList ++ Y.toList) R /\ Same κ st st2
def LI (κ:SortKind) (st:SortSt) (le:Nat -> Nat -> Prop) (X Y:Array Nat) (v:Nat) (st2:SortSt) (O:Array Nat) (ia ib:Nat):Prop:=Same κ st st2 /\ ia + 1 < X.size /\ ib < Y.size /\ v <= ia + ib /\ J le (X.toList ++ Y.toList) X Y O ia ib
theorem C2 (o:Ord lt le) (hc:r9 prog w A s κ it n lt) {X Y:Array Nat} {Q:Array Keyed -> SortSt -> Prop} {st:SortSt} (hk:kindOf st = κ) (hx:∀ i,i < X.size -> at' X i < n) (hy:∀ i,i < Y.size -> at' Y i < n)
  (x1:1 <= X.size) (y1:1 <= Y.size) (sx:∀ i j,i <= j -> j < X.size -> le (at' X i) (at' X j)) (sy:∀ i j,i <= j -> j < Y.size -> le (at' Y i) (at' Y j)) (hf:∀ i,i < X.size -> le (at' Y 0) (at' X i)) (hl:∀ i,i < Y.size -> le (at' Y i) (at' X (X.size - 1)))
  (h:∀ R st',Same κ st st' -> jr le (X.toList ++ Y.toList) R -> Q (R.map (kas_item it)) st') :
  wpS (model prog w) A E s (EB (X.map (kas_item it)) (Y.map (kas_item it))) Q st:=by
 have sm0:Same κ st st:=⟨hk,rfl,rfl,rfl⟩
 have hl':∀ ia,ia + 1 = X.size -> ∀ i,i < Y.size -> le (at' Y i) (at' X ia):=fun ia e i hi=>by have:=hl i hi;rwa [<- e] at this
 have fin:∀ {O:Array Keyed} {R},O = R.map (kas_item it) -> ∀ {st'},Same κ st st' -> jr le (X.toList ++ Y.toList) R -> Q O st':=fun e _ sm g=>e ▸ h _ _ sm g
 have j0:J le (X.toList ++ Y.toList) X Y #[] 0 0:=⟨by simpa using AX sx,by simpa using AX sy,by simp⟩
 have j1:J le (X.toList ++ Y.toList) X Y #[at' Y 0] 0 1:=(j0.sy.one (by lia) fun i _ h2=>hf i h2).sy
 refine wpS_bind (wpS_lift (wpAny_rule ⟨rfl,?_⟩))
 refine wpS_bind (bm (by lia) ?_)
 dsimp -zeta only
 simp -zeta only [Array.size_map,beq_iff_eq]
 refine a9 (fun e=>wpS_pure (fin ?_ sm0 (j1.done1 (by lia) (by lia)))) fun e1=>a9 (fun e=>wpS_pure (fin ?_ sm0 (j1.last (by lia) (by lia) (hl' 0 (by lia))))) fun e2=>?_
 ·simp [exm]
 ·simp [exm]
 refine wpS_bind (wpS_get (wpS_bind (j7 (fun x c st2=>∃ O ia ib g,c = (none,O.map (kas_item it),ia,ib,g) /\ LI κ st le X Y (x + 1) st2 O ia ib) (fun c st2=>LR κ it st le X Y c.1 st2) ⟨#[at' Y 0],0,1,_,by simp;rfl,sm0,by lia,by lia,by lia,j1⟩ ?s1 ?f1 ?p1)))
 case f1=>
  rintro c st2 ⟨O,ia,ib,g,rfl,sm,la,lb,ls,j⟩
  lia
 case p1=>
  rintro ⟨c,c'⟩ st2 ⟨R,rfl,hR,sm⟩
  exact wpS_pure (h R st2 sm hR)
 rintro x c st2 QQ hD hY hx0 ⟨O,ia,ib,g,rfl,L⟩
 refine wpS_bind (j7 (fun y c st2=>∃ O ia ib a b,c = (none,O.map (kas_item it),ia,ib,a,b) /\ LI κ st le X Y (x + 1 + y) st2 O ia ib) (fun c st2=>LR κ it st le X Y c.1 st2 \/ ∃ O ia ib a b,c = (none,O.map (kas_item it),ia,ib,a,b) /\ LI κ st le X Y (x + 2) st2 O ia ib) ⟨O,ia,ib,0,0,rfl,L⟩ ?s2 ?f2 ?p2)
 case f2=>
  rintro c st2 ⟨O,ia,ib,a,b,rfl,sm,la,lb,ls,j⟩
  lia
 case s2=>
  clear hD hY
  rintro y c st2 QQ hD hY hy0 ⟨O,ia,ib,a,b,rfl,sm,la,lb,ls,j⟩
  have la':ia < X.size:=by lia
  refine wpS_bind (bm lb (wpS_bind (bm la' (wpS_bind (w_lt hc sm.1 (hy ib lb) (hx ia la') ?_)))))
  dsimp -zeta only
  cases cw:lt (at' Y ib) (at' X ia) with
  | true=>
   have j2:J le (X.toList ++ Y.toList) X Y (O.push (at' Y ib)) ia (ib + 1):=(j.sy.one lb fun i h1 h2=>o.tr _ _ _ (o.yes _ _ cw) (sx _ _ h1 h2)).sy
   rw [if_pos rfl]
   refine wpS_bind (bm lb (a9 (fun e=>wpS_pure (hD _ _ (.inl ⟨_,?_,j2.done1 (by lia) (by lia),sm⟩))) fun e=>iZ (wpS_pure (hD _ _ (.inr ⟨_,ia,ib + 1,_,_,by rw [<- Array.map_push],sm,la,by lia,by lia,j2⟩))) (wpS_pure (hY _ _ ⟨_,ia,ib + 1,_,_,by rw [<- Array.map_push],sm,la,by lia,by lia,j2⟩))))
   simp
  | false=>
   have j2:=j.one la' fun i h1 h2=>o.tr _ _ _ (o.no _ _ cw) (sy _ _ h1 h2)
   rw [if_neg (by decide)]
   refine wpS_bind (bm la' (a9 (fun e=>wpS_pure (hD _ _ (.inl ⟨_,?_,j2.last e (by lia) (hl' _ e),sm⟩))) fun e=>iZ (wpS_pure (hD _ _ (.inr ⟨_,ia + 1,ib,_,_,by rw [<- Array.map_push],sm,by lia,lb,by lia,j2⟩))) (wpS_pure (hY _ _ ⟨_,ia + 1,ib,_,_,by rw [<- Array.map_push],sm,by lia,lb,by lia,j2⟩))))
   simp
 case p2=>
  clear L
  rintro ⟨c,c'⟩ st2 (⟨R,rfl,hR,sm⟩ | ⟨O,ia,ib,a,b,hcc,L⟩)
  ·exact wpS_pure (hD _ _ ⟨R,rfl,hR,sm⟩)
  cases hcc
  refine wpS_bind (wpS_lift (wpAny_rule ⟨rfl,wpS_bind (j7 (fun y c st2=>∃ O ia ib m a b,c = (none,O.map (kas_item it),ia,ib,m,a,b) /\ LI κ st le X Y (x + 2) st2 O ia ib) (fun c st2=>LR κ it st le X Y c.1 st2 \/ ∃ O ia ib m a b,c = (none,O.map (kas_item it),ia,ib,m,a,b) /\ LI κ st le X Y (x + 2) st2 O ia ib) ⟨O,ia,ib,_,_,_,rfl,L⟩ ?s3 (fun _ _ h=>.inr h) ?p3)⟩))
  case p3=>
   rintro ⟨c,c'⟩ st2 (⟨R,rfl,hR,sm⟩ | ⟨O,ia,ib,m,a,b,hcc,sm,L⟩)
   ·exact wpS_pure (hD _ _ ⟨R,rfl,hR,sm⟩)
   cases hcc
   exact wpS_bind (wpS_modify (wpS_pure (hY _ _ ⟨O,ia,ib,_,rfl,sm.g _,L⟩)))
  clear hD hY L
  rintro y c st2 QQ hD hY hy0 ⟨O,ia,ib,m,a,b,rfl,sm,la,lb,ls,j⟩
  have dR:∀ {R' R t st2},R' = R.map (kas_item it) -> Same κ st st2 -> jr le (X.toList ++ Y.toList) R -> QQ (.done (some R',t)) st2:=fun e sm g=>hD _ _ (.inl ⟨_,congrArg some e,g,sm⟩)
  dsimp -zeta only
  extract_lets -underBinder s1 out s2 ia2 s3 ib2 s4 mg s5 ac bc jp
  refine A9 fun g=>?_
  replace sm:=sm.g g
  refine wpS_bind (wpS_modify (wpS_bind (bm lb (wpS_bind (ij o hc sm.1 hx (hy ib lb) (show ia + (X.size - ia) <= X.size by lia) (show 0 < X.size - ia by lia) (fun i k h1 h2=>sx (ia + i) (ia + k) (by lia) (show ia + k < X.size by change k < X.size - ia at h2;lia)) fun k k1 k2 k3=>?_)))))
  replace k2:=rel (p:=fun i=>le (at' X i) (at' Y ib)) (a:=0) fun i _ h=>k2 i h
  replace k3:∀ i,ia + k <= i -> i < X.size -> le (at' Y ib) (at' X i):=fun i h1 h2=>rel (p:=fun i=>le (at' Y ib) (at' X i)) k3 i h1 (show i < ia + (X.size - ia) by lia)
  dsimp -zeta only
  extract_lets -underBinder ac2 jp2
  refine vN (jp:=jp2) (fun O' i=>∃ O,O' = O.map (kas_item it) /\ i + 1 < X.size /\ x + 2 <= i + ib /\ J le (X.toList ++ Y.toList) X Y O i ib /\ ∀ l,i <= l -> l < X.size -> le (at' Y ib) (at' X l)) ?_ fun hj=>?_
  ·rintro O' i ⟨O,rfl,la,ls,j,ky⟩
   have j2:J le (X.toList ++ Y.toList) X Y (O.push (at' Y ib)) i (ib + 1):=(j.sy.one lb ky).sy
   have li:i < X.size:=by lia
   refine wpS_bind (bm lb (a9 (fun e=>wpS_pure (dR ?_ sm (j2.done1 (Nat.le_of_eq e.symm) (by lia)))) fun e=>wpS_bind (bm li (wpS_bind (ij o hc sm.1 hy (hx i li) (show ib + 1 + (Y.size - (ib + 1)) <= Y.size by lia) (show 0 < Y.size - (ib + 1) by change ¬ib + 1 = Y.size at e;lia) (fun i k h1 h2=>sy (ib + 1 + i) (ib + 1 + k) (by lia) (show ib + 1 + k < Y.size by change k < Y.size - (ib + 1) at h2;lia)) fun k k1 k2 k3=>?_)))))
   ·simp +zetaDelta
   replace k2:=rel (p:=fun l=>le (at' Y l) (at' X i)) (u:=ib + 1) (a:=0) fun i _ h=>k2 i h
   replace k3:∀ l,ib + 1 + k <= l -> l < Y.size -> le (at' X i) (at' Y l):=fun l h1 h2=>rel (p:=fun l=>le (at' X i) (at' Y l)) (u:=ib + 1) k3 l h1 (show l < ib + 1 + (Y.size - (ib + 1)) by lia)
   dsimp -zeta only
   extract_lets -underBinder bc2 jp3
   refine vN (jp:=jp3) (fun O' l=>∃ O,O' = O.map (kas_item it) /\ l < Y.size /\ ib < l /\ J le (X.toList ++ Y.toList) X Y O i l /\ ∀ i',l <= i' -> i' < Y.size -> le (at' X i) (at' Y i')) ?_ fun hj=>?_
   ·rintro O' l ⟨O,rfl,lb,lc,j,ky⟩
    have j2:=j.one li ky
    refine wpS_bind (bm li (a9 (fun e=>wpS_pure (dR ?_ sm (j2.last e (by lia) (hl' _ e)))) fun e=>iZ (wpS_pure (hD _ _ (.inr ⟨_,i + 1,l,_,_,_,by rw [<- Array.map_push],sm,by lia,lb,by lia,j2⟩))) (wpS_pure (hY _ _ ⟨_,i + 1,l,_,_,_,by rw [<- Array.map_push],sm,by lia,lb,by lia,j2⟩))))
    simp
   have j3:J le (X.toList ++ Y.toList) X Y (O.push (at' Y ib) ++ Y.extract (ib + 1) (ib + 1 + k)) i (ib + 1 + k):=(j2.sy.blk fun i' l h1 h2 h3 h4 h5=>o.tr _ _ _ (k2 i' h1 h2) (sx _ _ h4 h5)).sy
   refine a9 (fun k0=>a9 (fun e=>wpS_pure (dR ?_ sm (j3.done1 (Nat.le_of_eq e.symm) (Nat.le_of_lt li)))) fun e=>hj _ _ ⟨_,?_,Nat.lt_of_le_of_ne (show ib + 1 + k <= Y.size by change k <= Y.size - (ib + 1) at k1;lia) e,show ib < ib + 1 + k by lia,j3,k3⟩) fun k0=>hj _ _ ⟨O.push (at' Y ib),?_,Nat.lt_of_le_of_ne lb e,Nat.lt_succ_self ib,j2,fun l h1 h2=>k3 l (show ib + 1 + k <= l by change ib + 1 <= l at h1;lia) h2⟩
   ·simp +zetaDelta
   ·simp +zetaDelta
   ·simp +zetaDelta
  have j3:=j.blk (m:=k) fun i l h1 h2 h3 h4 h5=>o.tr _ _ _ (k2 i h1 h2) (sy _ _ h4 h5)
  have kk:ia + k <= X.size:=by change k <= X.size - ia at k1;lia
  refine a9 (fun k0=>a9 (fun e=>wpS_pure (dR ?_ sm (j3.last e (by lia) (hl' _ e)))) fun e=>a9 (fun e2=>wpS_pure (dR ?_ sm (j3.done2 (Nat.le_of_eq e2.symm) (by lia)))) fun e2=>hj _ _ ⟨_,?_,show ia + k + 1 < X.size by change ¬ia + k + 1 = X.size at e;change ¬ia + k = X.size at e2;lia,show x + 2 <= ia + k + ib by lia,j3,k3⟩) fun k0=>hj _ _ ⟨O,rfl,la,ls,j,fun l h1 h2=>k3 l (show ia + k <= l by change ia <= l at h1;lia) h2⟩
  ·simp +zetaDelta
  ·simp +zetaDelta
  ·simp +zetaDelta
end
section
variable {X Y O:Array Nat} {le:Nat -> Nat -> Prop} {tot:List Nat} {na nb:Nat}
theorem A7 {i:Nat} (h:i < X.size):X.toList.take (i + 1) = X.toList.take i ++ [at' X i]:=by
 rw [List.take_succ_eq_append_getElem (by simpa using h),iz h]
theorem jT {i j:Nat} (h:i <= j):X.toList.take j = X.toList.take i ++ (X.extract i j).toList:=by
 rw [Array.toList_extract,List.extract_eq_take_drop]
 have e:j = i + (j - i):=by lia
 conv=>lhs;rw [e,List.take_add]
theorem qP {i x:Nat} (h:x ∈ X.toList.take i):∃ j,j < i /\ j < X.size /\ at' X j = x:=by
 obtain ⟨k,hk⟩:=List.getElem?_of_mem h
 rw [List.getElem?_take] at hk
 split at hk
 ·obtain ⟨h1,h2⟩:=List.getElem?_eq_some_iff.mp hk
  have h1':k < X.size:=by simpa using h1
  exact ⟨k,by lia,h1',by rw [<- iz h1'];exact h2⟩
 ·cases hk
abbrev JH (le:Nat -> Nat -> Prop) (tot:List Nat) (X Y O:Array Nat) (na nb:Nat):Prop:=Inv (fun a b=>le b a) tot O.toList (X.toList.take na).reverse (Y.toList.take nb).reverse
theorem JH.sy (j:JH le tot X Y O na nb):JH le tot Y X O nb na:=Inv.symm j
theorem JH.one (j:JH le tot X Y O na nb) (h:1 <= na) (h2:na <= X.size) (k:∀ i,i < nb -> le (at' Y i) (at' X (na - 1))):JH le tot X Y (O.push (at' X (na - 1))) (na - 1) nb:=by
 unfold JH at j ⊢
 obtain ⟨m,rfl⟩:∃ m,na = m + 1:=⟨na - 1,by lia⟩
 rw [A7 (by lia),List.reverse_append] at j
 rw [Nat.add_sub_cancel] at k ⊢
 have:=Inv.block (xs:=[at' X m]) j (fun x hx y hy=>by
  rw [List.mem_singleton] at hx
  subst hx
  obtain ⟨i,h1,h2,rfl⟩:=qP (List.mem_reverse.mp hy)
  exact k i h1)
 rwa [Array.toList_push]
theorem JH.blk {m:Nat} (j:JH le tot X Y O na nb) (h:m <= na) (h2:na <= X.size) (k:∀ i l,m <= i -> i < na -> l < nb -> le (at' Y l) (at' X i)):JH le tot X Y (O ++ (X.extract m na).reverse) m nb:=by
 unfold JH at j ⊢
 rw [jT h,List.reverse_append] at j
 have:=Inv.block j (fun x hx y hy=>by
  obtain ⟨i,h1,h2,h3,rfl⟩:=pk (List.mem_reverse.mp hx)
  obtain ⟨l,h4,h5,rfl⟩:=qP (List.mem_reverse.mp hy)
  exact k i l h1 h2 h4)
 rwa [Array.toList_append,Array.toList_reverse]
theorem xZ {l r:List Nat} (h:l.Pairwise (fun a b=>le b a) /\ l.Perm tot) (e:l = r.reverse):r.Pairwise le /\ r.Perm tot:=by
 subst e
 exact ⟨List.pairwise_reverse.mp h.1,(List.reverse_perm _).symm.trans h.2⟩
theorem Jf (m:Nat):(X.extract 0 m).toList = X.toList.take m:=by rw [Array.toList_extract,List.extract_eq_take_drop];simp
theorem JH.done1 (j:JH le tot X Y O na nb) (h:nb = 0) (h2:na <= X.size):jr le tot (X.extract 0 na ++ Y.extract 0 nb ++ O.reverse):=by
 subst h
 refine xZ (l:=O.toList ++ (X.toList.take na).reverse) (Inv.doneA (by unfold JH at j;simpa using j)) ?_
 simp [Jf]
theorem JH.done2 (j:JH le tot X Y O na nb) (h:na = 0) (h2:nb <= Y.size):jr le tot (X.extract 0 na ++ Y.extract 0 nb ++ O.reverse):=by
 have:=j.sy.done1 h h2
 subst h
 simpa using this
theorem JH.first (j:JH le tot X Y O na nb) (h:nb = 1) (y1:1 <= Y.size) (h2:na <= X.size) (k:∀ i,i < X.size -> le (at' Y 0) (at' X i)):jr le tot (Y.extract 0 nb ++ X.extract 0 na ++ O.reverse):=by
 subst h
 have e:Y.toList.take 1 = [at' Y 0]:=by rw [A7 (i:=0) (by lia)];simp
 have j2:Inv (fun a b=>le b a) tot O.toList [at' Y 0] (X.toList.take na).reverse:=by have:=j.sy;unfold JH at this;rw [e] at this;exact this
 refine xZ (j2.lastA fun y hy=>?_) ?_
 ·obtain ⟨i,h1,h2,rfl⟩:=qP (List.mem_reverse.mp hy)
  exact k i h2
 ·rw [Array.toList_append,Array.toList_append,Jf,Jf,e]
  simp
end
section
variable {prog:Program} {w:World} {A:Around} {E:Value -> Shared -> Prop} {s:Shared} {κ:SortKind} {it:Array Keyed} {n:Nat} {lt:Nat -> Nat -> Bool} {le:Nat -> Nat -> Prop}
def HI (κ:SortKind) (st:SortSt) (le:Nat -> Nat -> Prop) (X Y:Array Nat) (v:Nat) (st2:SortSt) (O:Array Nat) (na nb:Nat):Prop:=Same κ st st2 /\ 1 <= na /\ 1 < nb /\ na < X.size /\ nb <= Y.size /\ na + nb + v <= X.size + Y.size /\ JH le (X.toList ++ Y.toList) X Y O na nb
theorem C1 (o:Ord lt le) (hc:r9 prog w A s κ it n lt) {X Y:Array Nat} {Q:Array Keyed -> SortSt -> Prop} {st:SortSt} (hk:kindOf st = κ) (hx:∀ i,i < X.size -> at' X i < n) (hy:∀ i,i < Y.size -> at' Y i < n)
  (x1:1 <= X.size) (y1:1 <= Y.size) (sx:∀ i j,i <= j -> j < X.size -> le (at' X i) (at' X j)) (sy:∀ i j,i <= j -> j < Y.size -> le (at' Y i) (at' Y j)) (hf:∀ i,i < X.size -> le (at' Y 0) (at' X i)) (hl:∀ i,i < Y.size -> le (at' Y i) (at' X (X.size - 1)))
  (h:∀ R st',Same κ st st' -> jr le (X.toList ++ Y.toList) R -> Q (R.map (kas_item it)) st') :
  wpS (model prog w) A E s (EA (X.map (kas_item it)) (Y.map (kas_item it))) Q st:=by
 have sm0:Same κ st st:=⟨hk,rfl,rfl,rfl⟩
 have fin:∀ {O:Array Keyed} {R},O = R.map (kas_item it) -> ∀ {st'},Same κ st st' -> jr le (X.toList ++ Y.toList) R -> Q O st':=fun e _ sm g=>e ▸ h _ _ sm g
 have j0:JH le (X.toList ++ Y.toList) X Y #[] X.size Y.size:=by
  unfold JH
  rw [List.take_of_length_le (by simp),List.take_of_length_le (by simp)]
  exact ⟨by simpa using List.pairwise_reverse.mpr (AX sx),by simpa using List.pairwise_reverse.mpr (AX sy),by simpa using (List.reverse_perm X.toList).append (List.reverse_perm Y.toList)⟩
 have j1:JH le (X.toList ++ Y.toList) X Y #[at' X (X.size - 1)] (X.size - 1) Y.size:=j0.one x1 (Nat.le_refl _) fun i h2=>hl i h2
 refine wpS_bind (wpS_lift (wpAny_rule ⟨rfl,?_⟩))
 simp -zeta only [Array.size_map,beq_iff_eq]
 refine wpS_bind (bm (X:=X) (k:=X.size - 1) (by lia) (a9 (fun e=>wpS_pure (fin ?_ sm0 (j1.done2 e (by lia)))) fun e1=>a9 (fun e=>wpS_pure (fin ?_ sm0 (j1.first e (by lia) (by lia) hf))) fun e2=>?_))
 ·simp [exm]
 ·simp [exm]
 refine wpS_bind (wpS_get (wpS_bind (j7 (fun x c st2=>∃ O na nb g,c = (none,na,nb,O.map (kas_item it),g) /\ HI κ st le X Y (x + 1) st2 O na nb) (fun c st2=>LR κ it st le X Y c.1 st2) ⟨#[at' X (X.size - 1)],X.size - 1,Y.size,_,by simp;rfl,sm0,by lia,by lia,by lia,by lia,by lia,j1⟩ ?s1 ?f1 ?p1)))
 case f1=>
  rintro c st2 ⟨O,na,nb,g,rfl,sm,la,lb,lx,ly,ls,j⟩
  lia
 case p1=>
  rintro ⟨c,c'⟩ st2 ⟨R,rfl,hR,sm⟩
  exact wpS_pure (h R st2 sm hR)
 rintro x c st2 QQ hD hY hx0 ⟨O,na,nb,g,rfl,L⟩
 refine wpS_bind (j7 (fun y c st2=>∃ O na nb a b,c = (none,na,nb,O.map (kas_item it),a,b) /\ HI κ st le X Y (x + 1 + y) st2 O na nb) (fun c st2=>LR κ it st le X Y c.1 st2 \/ ∃ O na nb a b,c = (none,na,nb,O.map (kas_item it),a,b) /\ HI κ st le X Y (x + 2) st2 O na nb) ⟨O,na,nb,0,0,rfl,L⟩ ?s2 ?f2 ?p2)
 case f2=>
  rintro c st2 ⟨O,na,nb,a,b,rfl,sm,la,lb,lx,ly,ls,j⟩
  lia
 case s2=>
  clear hD hY
  rintro y c st2 QQ hD hY hy0 ⟨O,na,nb,a,b,rfl,sm,la,lb,lx,ly,ls,j⟩
  have la':na - 1 < X.size:=by lia
  have lb':nb - 1 < Y.size:=by lia
  refine wpS_bind (bm lb' (wpS_bind (bm la' (wpS_bind (w_lt hc sm.1 (hy (nb - 1) lb') (hx (na - 1) la') ?_)))))
  dsimp -zeta only
  cases cw:lt (at' Y (nb - 1)) (at' X (na - 1)) with
  | true=>
   have j2:=j.one la (by lia) fun i h1=>o.tr _ _ _ (sy i (nb - 1) (by lia) lb') (o.yes _ _ cw)
   rw [if_pos rfl]
   refine wpS_bind (bm la' (a9 (fun e=>wpS_pure (hD _ _ (.inl ⟨_,?_,j2.done2 e ly,sm⟩))) fun e=>iZ (wpS_pure (hD _ _ (.inr ⟨_,na - 1,nb,_,_,by rw [<- Array.map_push],sm,by lia,lb,la',ly,by lia,j2⟩))) (wpS_pure (hY _ _ ⟨_,na - 1,nb,_,_,by rw [<- Array.map_push],sm,by lia,lb,la',ly,by lia,j2⟩))))
   simp [Array.map_reverse]
  | false=>
   have j2:JH le (X.toList ++ Y.toList) X Y (O.push (at' Y (nb - 1))) na (nb - 1):=(j.sy.one (by lia) (by lia) fun i h1=>o.tr _ _ _ (sx i (na - 1) (by lia) la') (o.no _ _ cw)).sy
   rw [if_neg (by decide)]
   refine wpS_bind (bm lb' (a9 (fun e=>wpS_pure (hD _ _ (.inl ⟨_,?_,j2.first e y1 (by lia) hf,sm⟩))) fun e=>iZ (wpS_pure (hD _ _ (.inr ⟨_,na,nb - 1,_,_,by rw [<- Array.map_push],sm,la,by lia,lx,by lia,by lia,j2⟩))) (wpS_pure (hY _ _ ⟨_,na,nb - 1,_,_,by rw [<- Array.map_push],sm,la,by lia,lx,by lia,by lia,j2⟩))))
   simp [Array.map_reverse]
 case p2=>
  clear L
  rintro ⟨c,c'⟩ st2 (⟨R,rfl,hR,sm⟩ | ⟨O,na,nb,a,b,hcc,L⟩)
  ·exact wpS_pure (hD _ _ ⟨R,rfl,hR,sm⟩)
  cases hcc
  refine wpS_bind (wpS_lift (wpAny_rule ⟨rfl,wpS_bind (j7 (fun y c st2=>∃ O na nb m a b,c = (none,na,nb,O.map (kas_item it),m,a,b) /\ HI κ st le X Y (x + 2) st2 O na nb) (fun c st2=>LR κ it st le X Y c.1 st2 \/ ∃ O na nb m a b,c = (none,na,nb,O.map (kas_item it),m,a,b) /\ HI κ st le X Y (x + 2) st2 O na nb) ⟨O,na,nb,_,_,_,rfl,L⟩ ?s3 (fun _ _ h=>.inr h) ?p3)⟩))
  case p3=>
   rintro ⟨c,c'⟩ st2 (⟨R,rfl,hR,sm⟩ | ⟨O,na,nb,m,a,b,hcc,sm,L⟩)
   ·exact wpS_pure (hD _ _ ⟨R,rfl,hR,sm⟩)
   cases hcc
   exact wpS_bind (wpS_modify (wpS_pure (hY _ _ ⟨O,na,nb,_,rfl,sm.g _,L⟩)))
  clear hD hY L
  rintro y c st2 QQ hD hY hy0 ⟨O,na,nb,m,a,b,rfl,sm,la,lb,lx,ly,ls,j⟩
  have dR:∀ {R' R t st2},R' = R.map (kas_item it) -> Same κ st st2 -> jr le (X.toList ++ Y.toList) R -> QQ (.done (some R',t)) st2:=fun e sm g=>hD _ _ (.inl ⟨_,congrArg some e,g,sm⟩)
  have lb':nb - 1 < Y.size:=by lia
  dsimp -zeta only
  extract_lets -underBinder s1 na2 s2 nb2 s3 out s4 mg s5 ac bc jp
  refine A9 fun g=>?_
  replace sm:=sm.g g
  refine wpS_bind (wpS_modify (wpS_bind (bm lb' (wpS_bind (ij o hc sm.1 hx (hy (nb - 1) lb') (show 0 + na <= X.size by lia) (show na - 1 < na by lia) (fun i k h1 h2=>sx (0 + i) (0 + k) (by lia) (show 0 + k < X.size by change k < na at h2;lia)) fun k k1 k2 k3=>?_)))))
  simp only [Nat.zero_add] at k2 k3
  change k <= na at k1
  dsimp -zeta only
  extract_lets -underBinder kk ac2 jp2
  refine vN (jp:=jp2) (fun i O'=>∃ O,O' = O.map (kas_item it) /\ 1 <= i /\ i < X.size /\ i + nb + (x + 2) <= X.size + Y.size /\ JH le (X.toList ++ Y.toList) X Y O i nb /\ ∀ l,l < i -> le (at' X l) (at' Y (nb - 1))) ?_ fun hj=>?_
  ·rintro i O' ⟨O,rfl,la,lx,ls,j,ky⟩
   have j2:JH le (X.toList ++ Y.toList) X Y (O.push (at' Y (nb - 1))) i (nb - 1):=(j.sy.one (by lia) (by lia) ky).sy
   have li:i - 1 < X.size:=by lia
   refine wpS_bind (bm lb' (a9 (fun e=>wpS_pure (dR ?_ sm (j2.first e y1 (by lia) hf))) fun e=>wpS_bind (bm li (wpS_bind (ij o hc sm.1 hy (hx (i - 1) li) (show 0 + (nb - 1) <= Y.size by lia) (show nb - 1 - 1 < nb - 1 by lia) (fun i k h1 h2=>sy (0 + i) (0 + k) (by lia) (show 0 + k < Y.size by change k < nb - 1 at h2;lia)) fun k k1 k2 k3=>?_)))))
   ·simp +zetaDelta [Array.map_reverse]
   simp only [Nat.zero_add] at k2 k3
   change k <= nb - 1 at k1
   dsimp -zeta only
   extract_lets -underBinder kk bc2 jp3
   refine vN (jp:=jp3) (fun l O'=>∃ O,O' = O.map (kas_item it) /\ 1 < l /\ l < nb /\ JH le (X.toList ++ Y.toList) X Y O i l /\ ∀ i',i' < l -> le (at' Y i') (at' X (i - 1))) ?_ fun hj=>?_
   ·rintro l O' ⟨O,rfl,lb,lc,j,ky⟩
    have j2:=j.one la (by lia) ky
    refine wpS_bind (bm li (a9 (fun e=>wpS_pure (dR ?_ sm (j2.done2 e (by lia)))) fun e=>iZ (wpS_pure (hD _ _ (.inr ⟨_,i - 1,l,_,_,_,by rw [<- Array.map_push],sm,by lia,lb,li,by lia,by lia,j2⟩))) (wpS_pure (hY _ _ ⟨_,i - 1,l,_,_,_,by rw [<- Array.map_push],sm,by lia,lb,li,by lia,by lia,j2⟩))))
    simp [Array.map_reverse]
   have j3:JH le (X.toList ++ Y.toList) X Y (O.push (at' Y (nb - 1)) ++ (Y.extract k (nb - 1)).reverse) i k:=(j2.sy.blk (by lia) (by lia) fun i' l h1 h2 h3=>o.tr _ _ _ (sx l (i - 1) (by lia) li) (k3 i' h1 h2)).sy
   refine a9 (fun k0=>a9 (fun e=>wpS_pure (dR ?_ sm (j3.first e y1 (by lia) hf))) fun e=>a9 (fun e2=>wpS_pure (dR ?_ sm (j3.done1 e2 (by lia)))) fun e2=>hj _ _ ⟨_,?_,show 1 < k by change ¬k = 1 at e;change ¬k = 0 at e2;lia,by lia,j3,k2⟩) fun k0=>hj _ _ ⟨O.push (at' Y (nb - 1)),?_,show 1 < nb - 1 by change ¬nb - 1 = 1 at e;lia,show nb - 1 < nb by lia,j2,fun l h1=>k2 l (show l < k by change l < nb - 1 at h1;change ¬nb - 1 - k > 0 at k0;lia)⟩
   ·simp +zetaDelta [Array.map_reverse]
   ·simp +zetaDelta [Array.map_reverse]
   ·simp +zetaDelta [Array.map_reverse]
   ·simp +zetaDelta
  have j3:=j.blk (m:=k) k1 (by lia) fun i l h1 h2 h3=>o.tr _ _ _ (sy l (nb - 1) (by lia) lb') (k3 i h1 h2)
  refine a9 (fun k0=>a9 (fun e=>wpS_pure (dR ?_ sm (j3.done2 e ly))) fun e=>hj _ _ ⟨_,?_,Nat.pos_of_ne_zero e,show k < X.size by lia,show k + nb + (x + 2) <= X.size + Y.size by lia,j3,k2⟩) fun k0=>hj _ _ ⟨O,rfl,la,lx,ls,j,fun l h1=>k2 l (show l < k by change l < na at h1;change ¬na - k > 0 at k0;lia)⟩
  ·simp +zetaDelta [Array.map_reverse]
  ·simp +zetaDelta [Array.map_reverse]
end
section
variable {α:Type}
theorem jN (lo:Nat):∀ (R:List α) (p:Array α) (j:Nat),lo + j + R.length <= p.size -> ((R.zipIdx j).foldl (fun a x=>a.setIfInBounds (lo + x.2) x.1) p).toList = p.toList.take (lo + j) ++ R ++ p.toList.drop (lo + j + R.length)
 | [],p,j,_=>by simp
 | r :: R,p,j,h=>by
  have hl:lo + j < p.toList.length:=by simp at h ⊢;lia
  rw [List.zipIdx_cons,List.foldl_cons,jN lo R _ (j + 1) (by simp at h ⊢;lia)]
  have e1:(p.setIfInBounds (lo + j) r).toList = p.toList.set (lo + j) r:=by simp
  have e2:(p.toList.set (lo + j) r).take (lo + (j + 1)) = p.toList.take (lo + j) ++ [r]:=by
   rw [<- Nat.add_assoc,List.take_succ_eq_append_getElem (by simpa using hl),List.take_set_of_le (Nat.le_refl _)]
   simp
  have e3:(p.toList.set (lo + j) r).drop (lo + (j + 1) + R.length) = p.toList.drop (lo + j + (r :: R).length):=by
   rw [List.drop_set_of_lt (by lia),List.length_cons]
   congr 1;lia
  rw [e1,e2,e3]
  simp
end
section
variable {prog:Program} {w:World} {A:Around} {E:Value -> Shared -> Prop} {s:Shared} {κ:SortKind} {it:Array Keyed} {n:Nat} {lt:Nat -> Nat -> Bool} {le:Nat -> Nat -> Prop}
def Stt (κ:SortKind) (it:Array Keyed) (st:SortSt) (p:Array Nat) (pend:Array (Nat × Nat × Nat)):Prop:=kindOf st = κ /\ arrOf st = p.map (kas_item it) /\ pendingOf st = pend /\ failedOf st = none
structure Srtd (le:Nat -> Nat -> Prop) (p p':Array Nat) (lo hi:Nat):Prop where
 perm:p'.Perm p
 out:∀ k,k < lo \/ hi <= k -> at' p' k = at' p k
 asc:∀ i j,lo <= i -> i <= j -> j < hi -> le (at' p' i) (at' p' j)
theorem HU {σ:Type}  {x:σ} {Q:PUnit -> σ -> Prop} {st:σ} (h:Q ⟨⟩ x):wpS M A E s (set x:StateT σ Sem PUnit) Q st:=by
 unfold wpS
 rw [StateT.run_set]
 exact wpAny_pure ⟨rfl,h⟩
theorem M9 (l:List Nat) (k:Nat):at' l.toArray k = (l[k]?).getD 0:=by simp [at']
theorem IV (p:Array Nat) (k:Nat):at' p k = (p.toList[k]?).getD 0:=by simp [at']
theorem zQ {p:Array Nat} {R:List Nat} {lo:Nat} (h:lo + R.length <= p.size) (k:Nat):at' (p.toList.take lo ++ R ++ p.toList.drop (lo + R.length)).toArray k = if lo <= k /\ k < lo + R.length then (R[k - lo]?).getD 0 else at' p k:=by
 rw [M9,IV]
 have hl:(p.toList.take lo).length = lo:=by rw [List.length_take];simp;lia
 by_cases h1:k < lo
 ·rw [if_neg (by lia),List.append_assoc,List.getElem?_append_left (by lia),List.getElem?_take,if_pos h1]
 ·by_cases h2:k < lo + R.length
  ·rw [if_pos ⟨by lia,h2⟩,List.append_assoc,List.getElem?_append_right (by lia),hl,List.getElem?_append_left (by lia)]
  ·rw [if_neg (by lia),List.getElem?_append_right (by rw [List.length_append,hl];lia),List.length_append,hl,List.getElem?_drop]
   congr 2;lia
theorem E9 {p:Array Nat} {R:List Nat} {lo:Nat} (h:R.Perm (p.extract lo (lo + R.length)).toList):(p.toList.take lo ++ R ++ p.toList.drop (lo + R.length)).toArray.Perm p:=by
 rw [Array.perm_iff_toList_perm]
 show (p.toList.take lo ++ R ++ p.toList.drop (lo + R.length)).Perm p.toList
 refine ((h.append_left _).append_right _).trans ?_
 rw [<- jT (by lia),List.take_append_drop]
theorem Dr {p:Array Nat} {i j k:Nat} (h:i + k < j):at' (p.extract i j) k = at' p (i + k):=by
 rw [IV,IV,Array.toList_extract,List.extract_eq_take_drop,List.getElem?_take,if_pos (by lia),List.getElem?_drop]
theorem yg {p:Array Nat} {i j:Nat} (h:j <= p.size):(p.extract i j).size = j - i:=by simp;lia
theorem C0 (o:Ord lt le) (hc:r9 prog w A s κ it n lt) {i sa na pw sb nb q:Nat}  {pend:Array (Nat × Nat × Nat)} {Q:Bool -> SortSt -> Prop} {st:SortSt} (S:Stt κ it st p pend) (h1:pend[i]? = some (sa,na,pw)) (h2:pend[i + 1]? = some (sb,nb,q))
  (hsb:sb = sa + na) (na1:1 <= na) (nb1:1 <= nb) (hz:sb + nb <= p.size) (hp:∀ i,i < p.size -> at' p i < n) (sA:∀ i j,i <= j -> j < na -> le (at' p (sa + i)) (at' p (sa + j))) (sB:∀ i j,i <= j -> j < nb -> le (at' p (sb + i)) (at' p (sb + j)))
  (h:∀ p' st',Stt κ it st' p' ((pend.setIfInBounds i (sa,na + nb,pw)).eraseIdxIfInBounds (i + 1)) -> Srtd le p p' sa (sa + (na + nb)) -> Q true st'):wpS (model prog w) A E s (mergeAt' i) Q st:=by
 obtain ⟨S1,S2,S3,S4⟩:=S
 refine wpS_bind (wpS_get ?_)
 have S3':(sortPriv% PySem.Builtin.SortState.pending) st = pend:=S3
 have S2':(sortPriv% PySem.Builtin.SortState.a) st = p.map (kas_item it):=S2
 rw [S3',h1,h2]
 refine wpS_bind (HU ?_)
 rw [S2']
 generalize hst:(sortPriv% PySem.Builtin.SortState.mk) _ _ _ _ _ = st2
 have T:Stt κ it st2 p ((pend.setIfInBounds i (sa,na + nb,pw)).eraseIdxIfInBounds (i + 1)):=by subst hst;exact ⟨S1,rfl,rfl,S4⟩
 clear hst S1 S2 S3 S4 S2' S3' h1 h2
 generalize ((pend.setIfInBounds i (sa,na + nb,pw)).eraseIdxIfInBounds (i + 1)) = pend2 at T h
 have sA':∀ i j,sa <= i -> i <= j -> j < sb -> le (at' p i) (at' p j):=fun i j a1 a2 a3=>by
  have:=sA (i - sa) (j - sa) (by lia) (by lia)
  rwa [show sa + (i - sa) = i by lia,show sa + (j - sa) = j by lia] at this
 have sB':∀ i j,sb <= i -> i <= j -> j < sb + nb -> le (at' p i) (at' p j):=fun i j a1 a2 a3=>by
  have:=sB (i - sb) (j - sb) (by lia) (by lia)
  rwa [show sb + (i - sb) = i by lia,show sb + (j - sb) = j by lia] at this
 refine wpS_bind (bm (by lia) ?_)
 refine wpS_bind (ij o hc T.1 hp (hp sb (by lia)) (by lia) (by lia) sA fun k k1 k2 k3=>?_)
 have k2':∀ i,sa <= i -> i < sa + k -> le (at' p i) (at' p sb):=fun i a1 a2=>by
  have:=k2 (i - sa) (by lia)
  rwa [show sa + (i - sa) = i by lia] at this
 have k3':∀ i,sa + k <= i -> i < sb -> le (at' p sb) (at' p i):=fun i a1 a2=>by
  have:=k3 (i - sa) (by lia) (by lia)
  rwa [show sa + (i - sa) = i by lia] at this
 clear k2 k3
 dsimp only
 simp only [beq_iff_eq]
 by_cases e1:na - k = 0
 ·rw [if_pos e1]
  refine wpS_pure (h p st2 T ⟨.refl _,fun _ _=>rfl,fun i j a1 a2 a3=>?_⟩)
  by_cases b1:j < sb
  ·exact sA' i j a1 a2 b1
  ·by_cases b2:sb <= i
   ·exact sB' i j b2 a2 (by lia)
   ·exact o.tr _ _ _ (k2' i a1 (by lia)) (sB' sb j (Nat.le_refl _) (by lia) (by lia))
 rw [if_neg e1]
 refine wpS_bind (bm (by lia) ?_)
 have e2:sa + k + (na - k) - 1 = sb - 1:=by lia
 rw [e2]
 refine wpS_bind (ij o hc T.1 hp (hp (sb - 1) (by lia)) (by lia) (by lia) sB fun m m1 k2 k3=>?_)
 have m2':∀ i,sb <= i -> i < sb + m -> le (at' p i) (at' p (sb - 1)):=fun i a1 a2=>by
  have:=k2 (i - sb) (by lia)
  rwa [show sb + (i - sb) = i by lia] at this
 have m3':∀ i,sb + m <= i -> i < sb + nb -> le (at' p (sb - 1)) (at' p i):=fun i a1 a2=>by
  have:=k3 (i - sb) (by lia) (by lia)
  rwa [show sb + (i - sb) = i by lia] at this
 clear k2 k3
 dsimp only
 by_cases e3:m = 0
 ·rw [if_pos e3]
  subst e3
  refine wpS_pure (h p st2 T ⟨.refl _,fun _ _=>rfl,fun i j a1 a2 a3=>?_⟩)
  by_cases b1:j < sb
  ·exact sA' i j a1 a2 b1
  ·by_cases b2:sb <= i
   ·exact sB' i j b2 a2 (by lia)
   ·exact o.tr _ _ _ (sA' i (sb - 1) a1 (by lia) (by lia)) (m3' j (by lia) (by lia))
 rw [if_neg e3]
 generalize hr:na - k = r
 have hr1:na = k + r:=by lia
 have hr0:0 < r:=by lia
 clear hr e1 e2
 have zx:(p.extract (sa + k) sb).size = r:=by rw [yg (by lia)];lia
 have zy:(p.extract sb (sb + m)).size = m:=by rw [yg (by lia)];lia
 have ax:∀ i,i < r -> at' (p.extract (sa + k) sb) i = at' p (sa + k + i):=fun i hi=>Dr (by lia)
 have ay:∀ i,i < m -> at' (p.extract sb (sb + m)) i = at' p (sb + i):=fun i hi=>Dr (by lia)
 have exy:(p.extract (sa + k) sb).toList ++ (p.extract sb (sb + m)).toList = (p.extract (sa + k) (sb + m)).toList:=by
  have a1:=jT (X:=p) (i:=sa + k) (j:=sb) (by lia)
  have a2:=jT (X:=p) (i:=sb) (j:=sb + m) (by lia)
  have a3:=jT (X:=p) (i:=sa + k) (j:=sb + m) (by lia)
  rw [a1,a3,List.append_assoc] at a2
  exact (List.append_cancel_left a2).symm
 have key:∀ R:Array Nat,jr le ((p.extract (sa + k) sb).toList ++ (p.extract sb (sb + m)).toList) R -> R.toList.length = r + m /\ Srtd le p (p.toList.take (sa + k) ++ R.toList ++ p.toList.drop (sa + k + R.toList.length)).toArray sa (sa + (na + nb)):=fun R g=>by
  have hlen:R.toList.length = r + m:=by
   rw [g.2.length_eq,List.length_append,Array.length_toList,Array.length_toList,zx,zy]
  refine ⟨hlen,?_,fun i hi=>?_,fun i j a1 a2 a3=>?_⟩
  ·refine E9 ?_
   rw [hlen,show sa + k + (r + m) = sb + m by lia,<- exy]
   exact g.2
  ·rw [zQ (by lia),if_neg (by lia)]
  ·rw [zQ (by lia),zQ (by lia),hlen]
   have memR:∀ i,i < r + m -> ∃ c,(R.toList[i]?).getD 0 = at' p c /\ ((sa + k <= c /\ c < sb) \/ (sb <= c /\ c < sb + m)):=fun i hi=>by
    have hi':i < R.toList.length:=by lia
    have hm:R.toList[i] ∈ R.toList:=List.getElem_mem hi'
    have e:(R.toList[i]?).getD 0 = R.toList[i]:=by rw [List.getElem?_eq_getElem hi'];rfl
    rw [e]
    rcases List.mem_append.mp (g.2.mem_iff.mp hm) with hm | hm
    ·obtain ⟨c,c1,c2,c3,c4⟩:=pk hm
     exact ⟨c,c4.symm,.inl ⟨c1,c2⟩⟩
    ·obtain ⟨c,c1,c2,c3,c4⟩:=pk hm
     exact ⟨c,c4.symm,.inr ⟨c1,c2⟩⟩
   by_cases b1:sa + k <= i /\ i < sa + k + (r + m)
   ·rw [if_pos b1]
    by_cases b2:sa + k <= j /\ j < sa + k + (r + m)
    ·rw [if_pos b2]
     by_cases b3:i = j
     ·subst b3;exact o.rf _
     ·have:=List.pairwise_iff_getElem.mp g.1 (i - (sa + k)) (j - (sa + k)) (by lia) (by lia) (by lia)
      rw [List.getElem?_eq_getElem (by lia),List.getElem?_eq_getElem (by lia)]
      exact this
    ·rw [if_neg b2]
     obtain ⟨c,c1,c2⟩:=memR (i - (sa + k)) (by lia)
     rw [c1]
     rcases c2 with c2 | c2
     ·exact o.tr _ _ _ (sA' c (sb - 1) (by lia) (by lia) (by lia)) (m3' j (by lia) (by lia))
     ·exact sB' c j (by lia) (by lia) (by lia)
   ·rw [if_neg b1]
    by_cases b2:sa + k <= j /\ j < sa + k + (r + m)
    ·rw [if_pos b2]
     obtain ⟨c,c1,c2⟩:=memR (j - (sa + k)) (by lia)
     rw [c1]
     rcases c2 with c2 | c2
     ·exact sA' i c (by lia) (by lia) (by lia)
     ·exact o.tr _ _ _ (k2' i (by lia) (by lia)) (sB' sb c (Nat.le_refl _) (by lia) (by lia))
    ·rw [if_neg b2]
     by_cases b3:j < sb
     ·exact sA' i j a1 a2 b3
     ·by_cases b4:sb <= i
      ·exact sB' i j b4 a2 (by lia)
      ·exact o.tr _ _ _ (k2' i a1 (by lia)) (sB' sb j (Nat.le_refl _) (by lia) (by lia))
 have fin:∀ (R:Array Nat) (st3:SortSt),Same κ st2 st3 -> jr le ((p.extract (sa + k) sb).toList ++ (p.extract sb (sb + m)).toList) R ->
   Q (failedOf st3).isNone (setArr st3 ((R.map (kas_item it)).toList.zipIdx.foldl (fun a x=>a.setIfInBounds (sa + k + x.2) x.1) (arrOf st3))):=fun R st3 sm g=>by
  obtain ⟨hlen,S⟩:=key R g
  have ea:arrOf st3 = p.map (kas_item it):=sm.2.1.trans T.2.1
  have ef:failedOf st3 = none:=sm.2.2.2.trans T.2.2.2
  rw [ef]
  refine h _ _ ⟨sm.1,?_,sm.2.2.1.trans T.2.2.1,ef⟩ S
  show (R.map (kas_item it)).toList.zipIdx.foldl (fun a x=>a.setIfInBounds (sa + k + x.2) x.1) (arrOf st3) = _
  rw [ea]
  apply Array.toList_inj.mp
  rw [jN (sa + k) _ _ 0 (by simp at hlen ⊢;lia)]
  simp
 have cx:(p.map (kas_item it)).extract (sa + k) sb = (p.extract (sa + k) sb).map (kas_item it):=by simp
 have cy:(p.map (kas_item it)).extract sb (sb + m) = (p.extract sb (sb + m)).map (kas_item it):=by simp
 rw [cx,cy]
 have hx:∀ i,i < (p.extract (sa + k) sb).size -> at' (p.extract (sa + k) sb) i < n:=fun i hi=>by rw [ax i (by lia)];exact hp _ (by lia)
 have hy:∀ i,i < (p.extract sb (sb + m)).size -> at' (p.extract sb (sb + m)) i < n:=fun i hi=>by rw [ay i (by lia)];exact hp _ (by lia)
 have sx:∀ i j,i <= j -> j < (p.extract (sa + k) sb).size -> le (at' (p.extract (sa + k) sb) i) (at' (p.extract (sa + k) sb) j):=fun i j a1 a2=>by rw [ax i (by lia),ax j (by lia)];exact sA' _ _ (by lia) (by lia) (by lia)
 have sy:∀ i j,i <= j -> j < (p.extract sb (sb + m)).size -> le (at' (p.extract sb (sb + m)) i) (at' (p.extract sb (sb + m)) j):=fun i j a1 a2=>by rw [ay i (by lia),ay j (by lia)];exact sB' _ _ (by lia) (by lia) (by lia)
 have hf:∀ i,i < (p.extract (sa + k) sb).size -> le (at' (p.extract sb (sb + m)) 0) (at' (p.extract (sa + k) sb) i):=fun i a1=>by rw [ay 0 (by lia),ax i (by lia)];exact k3' _ (by lia) (by lia)
 have hl:∀ i,i < (p.extract sb (sb + m)).size -> le (at' (p.extract sb (sb + m)) i) (at' (p.extract (sa + k) sb) ((p.extract (sa + k) sb).size - 1)):=fun i a1=>by
  rw [zx,ay i (by lia),ax _ (by lia),show sa + k + (r - 1) = sb - 1 by lia]
  exact m2' _ (by lia) (by lia)
 by_cases e4:r <= m
 ·rw [if_pos e4]
  refine wpS_bind (C2 o hc T.1 hx hy (by lia) (by lia) sx sy hf hl fun R st3 sm g=>?_)
  exact wpS_bind (wpS_modify (wpS_bind (wpS_get (wpS_pure (fin R st3 sm g)))))
 ·rw [if_neg e4]
  refine wpS_bind (C1 o hc T.1 hx hy (by lia) (by lia) sx sy hf hl fun R st3 sm g=>?_)
  exact wpS_bind (wpS_modify (wpS_bind (wpS_get (wpS_pure (fin R st3 sm g)))))
end
section
variable {le:Nat -> Nat -> Prop} {lt:Nat -> Nat -> Bool} {p p' p2:Array Nat} {a b c:Nat}
def Up (le:Nat -> Nat -> Prop) (p:Array Nat) (a b:Nat):Prop:=∀ i j,a <= i -> i <= j -> j < b -> le (at' p i) (at' p j)
def Dn (le:Nat -> Nat -> Prop) (p:Array Nat) (a b:Nat):Prop:=∀ i j,a <= i -> i <= j -> j < b -> le (at' p j) (at' p i)
def Es (le:Nat -> Nat -> Prop) (p:Array Nat) (a b:Nat):Prop:=∀ k,a <= k -> k < b -> le (at' p k) (at' p (b - 1)) /\ le (at' p (b - 1)) (at' p k)
def Near (p p':Array Nat) (lo hi:Nat):Prop:=p'.Perm p /\ ∀ k,k < lo \/ hi <= k -> at' p' k = at' p k
theorem Near.rf:Near p p a b:=⟨.refl _,fun _ _=>rfl⟩
theorem Near.tr (h:Near p p' a b) (h2:Near p' p2 a b):Near p p2 a b:=⟨h2.1.trans h.1,fun k hk=>(h2.2 k hk).trans (h.2 k hk)⟩
theorem Near.wide {d e:Nat} (h:Near p p' a b) (h1:d <= a) (h2:b <= e):Near p p' d e:=⟨h.1,fun k hk=>h.2 k (by lia)⟩
theorem Near.size (h:Near p p' a b):p'.size = p.size:=h.1.size_eq
theorem mH (h:b <= p.size):Near p (kas_rev p a b) a b:=⟨mirror_perm _ _ _ _,fun k hk=>by rw [cc h,if_neg (by lia)]⟩
theorem xE {d:Nat} (h:b < p.size) (hd:d <= b):Near p (bubble p b d) (b - d) (b + 1):=⟨bubble_perm _ _ _,fun k hk=>by rw [m5 h hd,if_neg (by lia),if_neg (by lia)]⟩
theorem Up.succ (o:Ord lt le) (h:Up le p a b) (hab:a < b) (hl:le (at' p (b - 1)) (at' p b)):Up le p a (b + 1):=fun i j h1 h2 h3=>by
 by_cases e:j = b
 ·subst e
  by_cases e2:i = j
  ·subst e2;exact o.rf _
  ·exact o.tr _ _ _ (h i (j - 1) h1 (by lia) (by lia)) hl
 ·exact h i j h1 h2 (by lia)
theorem Dn.succ (o:Ord lt le) (h:Dn le p a b) (hab:a < b) (hl:le (at' p b) (at' p (b - 1))):Dn le p a (b + 1):=fun i j h1 h2 h3=>by
 by_cases e:j = b
 ·subst e
  by_cases e2:i = j
  ·subst e2;exact o.rf _
  ·exact o.tr _ _ _ hl (h i (j - 1) h1 (by lia) (by lia))
 ·exact h i j h1 h2 (by lia)
theorem KP (o:Ord lt le):Up le p a (a + 1):=fun i j h1 h2 h3=>by
 have:i = j:=by lia
 subst this;exact o.rf _
theorem Up.of (h:Up le p a b) (k:∀ i,a <= i -> i < b -> at' p' i = at' p i):Up le p' a b:=fun i j h1 h2 h3=>by
 rw [k i h1 (by lia),k j (by lia) h3];exact h i j h1 h2 h3
theorem Dn.rev (o:Ord lt le) (h:Dn le p a b) (hb:b <= p.size) (hc:a <= c) (he:Es le p c b):Dn le (kas_rev p c b) a b:=by
 have key:∀ k,a <= k -> k < b -> ∃ k',a <= k' /\ k' < b /\ at' (kas_rev p c b) k = at' p k' /\ le (at' p k') (at' p k) /\ le (at' p k) (at' p k'):=fun k hk0 hk=>by
  rw [cc hb]
  split
  ·rename_i h1
   refine ⟨c + b - 1 - k,by lia,by lia,rfl,?_⟩
   obtain ⟨a1,a2⟩:=he k h1.1 hk
   obtain ⟨b1,b2⟩:=he (c + b - 1 - k) (by lia) (by lia)
   exact ⟨o.tr _ _ _ b1 a2,o.tr _ _ _ a1 b2⟩
  ·exact ⟨k,hk0,hk,rfl,o.rf _,o.rf _⟩
 intro i j h0 hij hj
 obtain ⟨i',_,_,e1,x1,x2⟩:=key i h0 (by lia)
 obtain ⟨j',_,_,e2,y1,y2⟩:=key j (by lia) hj
 rw [e1,e2]
 exact o.tr _ _ _ y1 (o.tr _ _ _ (h i j h0 hij hj) x2)
theorem Dn.turn (h:Dn le p a b) (hb:b <= p.size):Up le (kas_rev p a b) a b:=by
 intro i j h0 hij hj
 rw [cc hb,cc hb,if_pos ⟨h0,by lia⟩,if_pos ⟨by lia,hj⟩]
 exact h _ _ (by lia) (by lia) (by lia)
theorem yN (o:Ord lt le) (h:a + 1 = b):Es le p a b:=fun k h1 h2=>by
 have:k = b - 1:=by lia
 subst this
 exact ⟨o.rf _,o.rf _⟩
end
section
variable {prog:Program} {w:World} {A:Around} {E:Value -> Shared -> Prop} {s:Shared} {κ:SortKind} {it:Array Keyed} {n:Nat} {lt:Nat -> Nat -> Bool} {le:Nat -> Nat -> Prop} {p:Array Nat} {pend:Array (Nat × Nat × Nat)} {st:SortSt}
theorem n4 (hc:r9 prog w A s κ it n lt) (S:Stt κ it st p pend) (hp:∀ i,i < p.size -> at' p i < n) {i j:Nat} {Q:Option Bool -> SortSt -> Prop} (hi:i < p.size) (hj:j < p.size) (h:Q (some (lt (at' p i) (at' p j))) st):wpS (model prog w) A E s (ltAt' i j) Q st:=by
 rw [ltAt'_eq]
 refine wpS_bind (wpS_get ?_)
 dsimp only
 rw [S.2.1]
 exact wpS_bind (bm hi (wpS_bind (bm hj (w_lt hc S.1 (hp _ hi) (hp _ hj) h))))
theorem A8 (S:Stt κ it st p pend) {i j:Nat} {Q:Unit -> SortSt -> Prop} (h:∀ st',Stt κ it st' (kas_rev p i j) pend -> Q () st'):wpS (model prog w) A E s (reverseSlice' i j) Q st:=by
 rw [reverseSlice'_eq]
 refine wpS_modify (h _ ⟨S.1,?_,S.2.2⟩)
 show mirror (arrOf st) i j ((j - i) / 2) = _
 rw [S.2.1]
 exact kas_swaps_map (kas_item it) (fun k=>i + k) (fun k=>j - 1 - k) _ p
theorem KR (S:Stt κ it st p pend) {i j:Nat} {Q:Unit -> SortSt -> Prop} (h:∀ st',Stt κ it st' (bubble p i (i - j)) pend -> Q () st'):wpS (model prog w) A E s (moveDown' i j) Q st:=by
 rw [moveDown'_eq]
 refine wpS_modify (h _ ⟨S.1,?_,S.2.2⟩)
 show bubble (arrOf st) i (i - j) = _
 rw [S.2.1]
 exact kas_swaps_map (kas_item it) (fun k=>i - k) (fun k=>i - k - 1) _ p
theorem MM (o:Ord lt le) (hc:r9 prog w A s κ it n lt) (S:Stt κ it st p pend) (hp:∀ p':Array Nat,p'.Perm p -> ∀ i,i < p'.size -> at' p' i < n) {lo m ok:Nat} {Q:Bool -> SortSt -> Prop} (hz:lo + m <= p.size) (hok:ok <= m) (ok1:1 <= ok) (hs:Up le p lo (lo + ok))
  (h:∀ p' st',Stt κ it st' p' pend -> Near p p' lo (lo + m) -> Up le p' lo (lo + m) -> Q true st'):wpS (model prog w) A E s (binarySort' lo m ok) Q st:=by
 refine wpS_bind (wpS_mono (wpS_forRange (I:=fun k c st'=>c = (none,()) /\ ∃ p',Stt κ it st' p' pend /\ Near p p' lo (lo + m) /\ Up le p' lo (lo + min k m))
  (Q:=fun c st'=>c = (none,()) /\ ∃ p',Stt κ it st' p' pend /\ Near p p' lo (lo + m) /\ Up le p' lo (lo + m)) ?step ?fin ?init) ?post)
 case post=>
  rintro c st' ⟨rfl,p',S',N,U⟩
  exact wpS_pure (h p' st' S' N U)
 case init=>exact ⟨rfl,p,S,.rf,by rw [show min (max ok 1) m = ok by lia];exact hs⟩
 case fin=>
  rintro c st' ⟨hc',p',S',N,U⟩
  exact ⟨hc',p',S',N,by rwa [show min (max (max ok 1) m) m = m by lia] at U⟩
 case step=>
  rintro k c st' hak hkn ⟨rfl,p',S',N,U⟩
  rw [show min k m = k by lia] at U
  have hsz:=N.size
  have hk1:1 <= k:=by lia
  have hkm:k < m:=by lia
  clear hak hkn hok ok1 hs
  refine wpS_bind (wpS_mono (wpS_forRange (I:=fun x c st''=>st'' = st' /\ ∃ l r,c = (none,l,r) /\ l <= r /\ r <= k /\ r - l <= k - x /\
    (∀ i,i < l -> le (at' p' (lo + i)) (at' p' (lo + k))) /\ (∀ i,r <= i -> i < k -> le (at' p' (lo + k)) (at' p' (lo + i))))
   (Q:=fun c st''=>st'' = st' /\ ∃ l r,c = (none,l,r) /\ l <= k /\
    (∀ i,i < l -> le (at' p' (lo + i)) (at' p' (lo + k))) /\ (∀ i,l <= i -> i < k -> le (at' p' (lo + k)) (at' p' (lo + i)))) ?istep ?ifin ?iinit) ?ipost)
  case iinit=>exact ⟨rfl,0,k,rfl,by lia,by lia,by lia,fun i hi=>by lia,fun i h1 h2=>by lia⟩
  case ifin=>
   rintro c st'' ⟨rfl,l,r,rfl,hlr,hrk,hm,hlo,hhi⟩
   have:l = r:=by lia
   subst this
   exact ⟨rfl,l,l,rfl,hrk,hlo,hhi⟩
  case istep=>
   rintro x c st'' _ hxk ⟨rfl,l,r,rfl,hlr,hrk,hm,hlo,hhi⟩
   dsimp only
   by_cases hge:l ≥ r
   ·rw [if_pos hge]
    have:l = r:=by lia
    subst this
    exact wpS_pure ⟨rfl,l,l,rfl,hrk,hlo,hhi⟩
   ·rw [if_neg hge]
    refine wpS_bind (n4 hc S' (hp _ N.1) (by lia) (by lia) ?_)
    dsimp only
    cases cw:lt (at' p' (lo + k)) (at' p' (lo + (l + r) / 2)) with
    | true=>
     rw [if_pos rfl]
     exact wpS_pure ⟨rfl,l,(l + r) / 2,rfl,by lia,by lia,by lia,hlo,fun i h1 h2=>o.tr _ _ _ (o.yes _ _ cw) (U _ _ (by lia) (by lia) (by lia))⟩
    | false=>
     rw [if_neg (by decide)]
     exact wpS_pure ⟨rfl,(l + r) / 2 + 1,r,rfl,by lia,by lia,by lia,fun i h1=>o.tr _ _ _ (U _ _ (by lia) (by lia) (by lia)) (o.no _ _ cw),hhi⟩
  case ipost=>
   rintro c st'' ⟨rfl,l,r,rfl,hlk,hlo,hhi⟩
   dsimp only
   refine wpS_bind (KR S' fun st3 S3=>wpS_pure ⟨rfl,_,S3,N.tr ((xE (by lia) (by lia)).wide (by lia) (by lia)),?_⟩)
   rw [show min (k + 1) m = k + 1 by lia,show lo + k - (lo + l) = k - l by lia]
   intro i j h1 h2 h3
   rw [m5 (by lia) (by lia),m5 (by lia) (by lia)]
   rw [show lo + k - (k - l) = lo + l by lia]
   by_cases i1:i = lo + l
   ·rw [if_pos i1]
    by_cases j1:j = lo + l
    ·rw [if_pos j1];exact o.rf _
    ·rw [if_neg j1]
     rw [if_pos (by lia)]
     have:=hhi (j - 1 - lo) (by lia) (by lia)
     rwa [show lo + (j - 1 - lo) = j - 1 by lia] at this
   ·rw [if_neg i1]
    by_cases j1:j = lo + l
    ·rw [if_pos j1,if_neg (by lia)]
     have:=hlo (i - lo) (by lia)
     rwa [show lo + (i - lo) = i by lia] at this
    ·rw [if_neg j1]
     by_cases i2:lo + l < i /\ i <= lo + k
     ·rw [if_pos i2,if_pos (by lia)]
      exact U _ _ (by lia) (by lia) (by lia)
     ·rw [if_neg i2]
      by_cases j2:lo + l < j /\ j <= lo + k
      ·rw [if_pos j2]
       exact U _ _ (by lia) (by lia) (by lia)
      ·rw [if_neg j2]
       exact U _ _ (by lia) (by lia) (by lia)
end
section
variable {prog:Program} {w:World} {A:Around} {E:Value -> Shared -> Prop} {s:Shared} {κ:SortKind} {it:Array Keyed} {n:Nat} {lt:Nat -> Nat -> Bool} {le:Nat -> Nat -> Prop} {p:Array Nat} {pend:Array (Nat × Nat × Nat)} {st:SortSt}
theorem F3 {σ α:Type} {M:Model} {jp:Unit -> StateT σ Sem α} {m:StateT σ Sem α} {Q:α -> σ -> Prop} {st:σ} (P:σ -> Prop) (h:∀ st,P st -> wpS M A E s (jp ()) Q st) (k:(∀ st,P st -> wpS M A E s (jp ()) Q st) -> wpS M A E s m Q st):wpS M A E s m Q st:=k h
theorem HP (o:Ord lt le) (hc:r9 prog w A s κ it n lt) (S:Stt κ it st p pend) (hp:∀ p':Array Nat,p'.Perm p -> ∀ i,i < p'.size -> at' p' i < n) {lo nrem:Nat} {Q:Option Nat -> SortSt -> Prop} (h1:1 <= nrem) (hz:lo + nrem <= p.size)
  (h:∀ m p' st',Stt κ it st' p' pend -> 1 <= m -> m <= nrem -> Near p p' lo (lo + m) -> Up le p' lo (lo + m) -> Q (some m) st'):wpS (model prog w) A E s (countRun' lo nrem) Q st:=by
 refine wpS_bind (wpS_mono (wpS_forRange (I:=fun x c st'=>st' = st /\ c = (none,x) /\ x <= nrem /\ Up le p lo (lo + x))
  (Q:=fun c st'=>st' = st /\ ∃ m,c = (none,m) /\ 1 <= m /\ m <= nrem /\ Up le p lo (lo + m) /\ (m < nrem -> le (at' p (lo + m)) (at' p (lo + m - 1)))) ?s1 ?f1 ?i1) ?p1)
 case i1=>exact ⟨rfl,rfl,h1,KP o⟩
 case f1=>
  rintro c st' ⟨rfl,rfl,k1,k2⟩
  exact ⟨rfl,_,rfl,by lia,k1,k2,fun _=>by lia⟩
 case s1=>
  rintro x c st' hx0 hx ⟨rfl,rfl,k1,k2⟩
  dsimp only
  refine wpS_bind (n4 hc S (hp p (.refl _)) (by lia) (by lia) ?_)
  dsimp only
  cases cw:lt (at' p (lo + x)) (at' p (lo + x - 1)) with
  | true=>
   rw [if_pos rfl]
   exact wpS_pure ⟨rfl,x,rfl,hx0,k1,k2,fun _=>o.yes _ _ cw⟩
  | false=>
   rw [if_neg (by decide)]
   exact wpS_pure ⟨rfl,rfl,by lia,Up.succ (b:=lo + x) o k2 (by lia) (o.no _ _ cw)⟩
 case p1=>
  rintro c st' ⟨rfl,m,rfl,m1,m2,U,hd⟩
  dsimp -zeta only
  extract_lets -underBinder r n
  change wpS (model prog w) A E s (ite _ _ _) Q st'
  refine a9 (fun e=>wpS_pure (h m p st' S m1 m2 .rf U)) fun e=>?_
  have e1':m < nrem:=by change ¬(m == nrem) = true at e;simp at e;lia
  clear e
  extract_lets -underBinder jp
  refine F3 (jp:=jp) (fun st=>∃ px,Stt κ it st px pend /\ Dn le px lo (lo + (m + 1)) /\ Near p px lo (lo + (m + 1))) ?_ fun hj=>?_
  ·rintro stx ⟨px,Sx,Dx,Nx⟩
   refine wpS_bind (wpS_lift (wpAny_rule ⟨rfl,?_⟩))
   refine wpS_bind (wpS_mono (wpS_forRange (I:=fun x c st'=>∃ q p',c = (none,x,q) /\ Stt κ it st' p' pend /\ Near p p' lo (lo + x) /\ x <= nrem /\ q + 1 <= x /\ Dn le p' lo (lo + x) /\ Es le p' (lo + x - (q + 1)) (lo + x))
    (Q:=fun c st'=>∃ x q p',c = (none,x,q) /\ m + 1 <= x /\ Stt κ it st' p' pend /\ Near p p' lo (lo + x) /\ x <= nrem /\ q + 1 <= x /\ Dn le p' lo (lo + x) /\ Es le p' (lo + x - (q + 1)) (lo + x)) ?s2 ?f2 ?i2) ?p2)
   case i2=>exact ⟨0,px,rfl,Sx,Nx,by show m + 1 <= nrem;lia,by show 0 + 1 <= m + 1;lia,Dx,yN o (by show lo + (m + 1) - (0 + 1) + 1 = lo + (m + 1);lia)⟩
   case f2=>
    rintro c st' ⟨q,p',rfl,S',N',k1,k2,D',E'⟩
    exact ⟨_,q,p',rfl,by show m + 1 <= max (m + 1) nrem;lia,S',N',k1,k2,D',E'⟩
   case s2=>
    rintro x c st' hx0 hx ⟨q,p',rfl,S',N',k1,k2,D',E'⟩
    dsimp only
    have hs2:=N'.size
    refine wpS_bind (n4 hc S' (hp _ N'.1) (by lia) (by lia) ?_)
    dsimp only
    cases cw:lt (at' p' (lo + x)) (at' p' (lo + x - 1)) with
    | true=>
     rw [if_pos rfl]
     have hl:=o.yes _ _ cw
     by_cases q0:q > 0
     ·rw [if_pos q0]
      refine wpS_bind (A8 S' fun st4 S4=>wpS_pure ?_)
      have d1:=D'.rev o (by lia) (by lia) E'
      have b1:at' (kas_rev p' (lo + x - (q + 1)) (lo + x)) (lo + x) = at' p' (lo + x):=by rw [cc (by lia),if_neg (by lia)]
      have b2:at' (kas_rev p' (lo + x - (q + 1)) (lo + x)) (lo + x - 1) = at' p' (lo + x - (q + 1)):=by
       rw [cc (by lia),if_pos (by lia)]
       congr 1;lia
      exact ⟨0,_,rfl,S4,(N'.tr ((mH (by lia)).wide (by lia) (by lia))).wide (by lia) (by lia),by lia,by lia,Dn.succ (b:=lo + x) o d1 (by lia) (by rw [b1,b2];exact o.tr _ _ _ hl (E' _ (Nat.le_refl _) (by lia)).2),yN o (by lia)⟩
     ·rw [if_neg q0]
      exact wpS_pure ⟨0,p',rfl,S',N'.wide (by lia) (by lia),by lia,by lia,Dn.succ (b:=lo + x) o D' (by lia) hl,yN o (by lia)⟩
    | false=>
     rw [if_neg (by decide)]
     have g1:=o.no _ _ cw
     refine wpS_bind (n4 hc S' (hp _ N'.1) (by lia) (by lia) ?_)
     dsimp only
     cases cw2:lt (at' p' (lo + x - 1)) (at' p' (lo + x)) with
     | true=>
      rw [if_pos rfl]
      exact wpS_pure ⟨x,q,p',rfl,hx0,S',N',k1,k2,D',E'⟩
     | false=>
      rw [if_neg (by decide)]
      have g2:=o.no _ _ cw2
      refine wpS_pure ⟨q + 1,p',rfl,S',N'.wide (by lia) (by lia),by lia,by lia,Dn.succ (b:=lo + x) o D' (by lia) g2,fun k a1 a2=>?_⟩
      rw [show lo + (x + 1) - 1 = lo + x by lia]
      by_cases hk:k = lo + x
      ·subst hk;exact ⟨o.rf _,o.rf _⟩
      ·obtain ⟨x1,x2⟩:=E' k (by lia) (by lia)
       exact ⟨o.tr _ _ _ x1 g1,o.tr _ _ _ g2 x2⟩
   case p2=>
    rintro c st' ⟨x,q,p',rfl,x1,S',N',x2,x3,D',E'⟩
    dsimp -zeta only
    extract_lets -underBinder s2 n2 q2
    dsimp -zeta only [r]
    extract_lets -underBinder jp2
    have hs2:=N'.size
    have hx:s2.1 = x:=rfl
    have hq:s2.2 = q:=rfl
    refine F3 (jp:=jp2) (fun st=>∃ pX,Stt κ it st pX pend /\ Dn le pX lo (lo + x) /\ Near p pX lo (lo + x)) ?_ fun hj=>a9 (fun q0=>wpS_bind (A8 S' fun stX SX=>hj _ ⟨_,SX,D'.rev o (by lia) (by lia) E',N'.tr ((mH (by lia)).wide (a:=lo + x - (q + 1)) (b:=lo + x) (d:=lo) (e:=lo + x) (by lia) (by lia))⟩)) fun _=>hj _ ⟨p',S',D',N'⟩
    rintro stX ⟨pX,SX,DX,NX⟩
    refine wpS_bind (A8 SX fun st4 S4=>?_)
    replace S4:Stt κ it st4 (kas_rev pX lo (lo + x)) pend:=S4
    have hs4:=NX.size
    have N4:=NX.tr (mH (a:=lo) (b:=lo + x) (by lia))
    have U4:=DX.turn (by lia)
    refine wpS_bind (wpS_mono (wpS_forRange (I:=fun y c st'=>st' = st4 /\ c = (none,y) /\ y <= nrem /\ Up le (kas_rev pX lo (lo + x)) lo (lo + y))
     (Q:=fun c st'=>st' = st4 /\ ∃ y,c = (none,y) /\ x <= y /\ y <= nrem /\ Up le (kas_rev pX lo (lo + x)) lo (lo + y)) ?s3 ?f3 ?i3) ?p3)
    case i3=>exact ⟨rfl,rfl,x2,U4⟩
    case f3=>
     rintro c st' ⟨rfl,rfl,k1,k2⟩
     exact ⟨rfl,_,rfl,by show x <= max x nrem;lia,k1,k2⟩
    case s3=>
     rintro y c st' hy0 hy ⟨rfl,rfl,k1,k2⟩
     change x <= y at hy0
     dsimp only
     have hs5:=N4.size
     refine wpS_bind (n4 hc S4 (hp _ N4.1) (by lia) (by lia) ?_)
     dsimp only
     cases cw:lt (at' (kas_rev pX lo (lo + x)) (lo + y)) (at' (kas_rev pX lo (lo + x)) (lo + y - 1)) with
     | true=>
      rw [if_pos rfl]
      exact wpS_pure ⟨rfl,y,rfl,hy0,k1,k2⟩
     | false=>
      rw [if_neg (by decide)]
      exact wpS_pure ⟨rfl,rfl,by lia,Up.succ (b:=lo + y) o k2 (by lia) (o.no _ _ cw)⟩
    case p3=>
     rintro c st' ⟨rfl,y,rfl,y1,y2,U⟩
     exact wpS_pure (h y _ st' S4 (by lia) y2 (N4.wide (Nat.le_refl _) (by lia)) U)
  ·refine a9 (fun e2=>wpS_bind (n4 hc S (hp p (.refl _)) (by show lo < p.size;lia) (by show lo + m - 1 < p.size;lia) ?_)) fun e2=>hj _ ⟨p,S,Dn.succ (b:=lo + m) o (fun i j a1 a2 a3=>by
    have:i = j:=by change ¬m > 1 at e2;lia
    subst this;exact o.rf _) (by lia) (hd (by lia)),.rf⟩
   dsimp -zeta only
   cases cw:lt (at' p lo) (at' p (lo + m - 1)) with
   | true=>
    rw [if_pos rfl]
    exact wpS_pure (h m p st' S m1 m2 .rf U)
   | false=>
    rw [if_neg (by decide)]
    have g0:=o.no _ _ cw
    have same:∀ i j,lo <= i -> i < lo + m -> lo <= j -> j < lo + m -> le (at' p i) (at' p j):=fun i j a1 a2 a3 a4=>o.tr _ _ _ (U i (lo + m - 1) a1 (by lia) (by lia)) (o.tr _ _ _ g0 (U lo j (Nat.le_refl _) a3 a4))
    have d0:Dn le (kas_rev p lo (lo + m)) lo (lo + m):=fun i j a1 a2 a3=>by
     rw [cc (by lia),cc (by lia),if_pos (by lia),if_pos (by lia)]
     exact same _ _ (by lia) (by lia) (by lia) (by lia)
    exact wpS_bind (A8 S fun stx Sx=>hj _ ⟨_,Sx,Dn.succ (b:=lo + m) o d0 (by lia) (by
     rw [cc (by lia),cc (by lia),if_neg (by lia),if_pos (by lia)]
     exact o.tr _ _ _ (hd (by lia)) (same _ _ (by lia) (by lia) (by lia) (by lia))),(mH (by lia)).wide (Nat.le_refl _) (by lia)⟩)
end
section
variable {le:Nat -> Nat -> Prop} {p p':Array Nat} {a b c:Nat}
noncomputable def Rn (le:Nat -> Nat -> Prop) (p:Array Nat):Nat -> List (Nat × Nat × Nat) -> Nat -> Prop
 | a,[],b=>a = b
 | a,e :: es,b=>e.1 = a /\ 1 <= e.2.1 /\ Up le p a (a + e.2.1) /\ Rn le p (a + e.2.1) es b
theorem Rn.len_le:∀ {l:List (Nat × Nat × Nat)} {a:Nat},Rn le p a l b -> a + l.length <= b
 | [],a,h=>by have:a = b:=h;simp [this]
 | e :: es,a,h=>by
  have:=Rn.len_le h.2.2.2
  have:=h.2.1
  simp;lia
theorem Rn.of:∀ {l:List (Nat × Nat × Nat)} {a:Nat},Rn le p a l b -> (∀ k,a <= k -> k < b -> at' p' k = at' p k) -> Rn le p' a l b
 | [],a,h,_=>h
 | e :: es,a,h,k=>⟨h.1,h.2.1,h.2.2.1.of fun i h1 h2=>k i h1 (by have:=Rn.len_le h.2.2.2;lia),Rn.of h.2.2.2 fun i h1 h2=>k i (by lia) h2⟩
theorem Rn.app:∀ {l l':List (Nat × Nat × Nat)} {a:Nat},Rn le p a (l ++ l') b -> ∃ c,Rn le p a l c /\ Rn le p c l' b
 | [],l',a,h=>⟨a,rfl,h⟩
 | e :: es,l',a,h=>by
  obtain ⟨c,h1,h2⟩:=Rn.app h.2.2.2
  exact ⟨c,⟨h.1,h.2.1,h.2.2.1,h1⟩,h2⟩
theorem Rn.put:∀ {l l':List (Nat × Nat × Nat)} {a:Nat},Rn le p a l c -> Rn le p c l' b -> Rn le p a (l ++ l') b
 | [],l',a,h,h2=>by have:a = c:=h;subst this;exact h2
 | e :: es,l',a,h,h2=>⟨h.1,h.2.1,h.2.2.1,Rn.put h.2.2.2 h2⟩
theorem Rn.same:∀ {l l':List (Nat × Nat × Nat)} {a:Nat},(l.map fun e=>(e.1,e.2.1)) = (l'.map fun e=>(e.1,e.2.1)) -> Rn le p a l b -> Rn le p a l' b
 | [],[],a,_,h=>h
 | [],_ :: _,a,h,_=>by simp at h
 | _ :: _,[],a,h,_=>by simp at h
 | e :: es,e' :: es',a,h,k=>by
  simp only [List.map_cons,List.cons.injEq,Prod.mk.injEq] at h
  obtain ⟨⟨h1,h2⟩,h3⟩:=h
  obtain ⟨k1,k2,k3,k4⟩:=k
  rw [h1] at k1
  rw [h2] at k2 k3 k4
  exact ⟨k1,k2,k3,Rn.same h3 k4⟩
theorem GK {c:Prop} [Decidable c] {k m:Nat} (h:k + 1 < m):(if c then k - 1 else k) + 1 < m:=by split <;> lia
theorem KB {α:Type} (x z:α) (r:List α):∀ pre:List α,(pre ++ x :: r).set pre.length z = pre ++ z :: r
 | []=>rfl
 | y :: pre=>by simp
theorem DP {α:Type} (z y:α) (r:List α):∀ pre:List α,(pre ++ z :: y :: r).eraseIdx (pre.length + 1) = pre ++ z :: r
 | []=>rfl
 | x :: pre=>by
  have:=DP z y r pre
  simp only [List.cons_append,List.length_cons,List.eraseIdx_cons_succ,this]
theorem KE {α:Type} {l:List α} {i:Nat} (h:i + 1 < l.length):∃ pre x y post,l = pre ++ x :: y :: post /\ pre.length = i:=by
 refine ⟨l.take i,l[i],l[i + 1],l.drop (i + 2),?_,by rw [List.length_take];lia⟩
 rw [<- List.drop_eq_getElem_cons h,<- List.drop_eq_getElem_cons (by lia),List.take_append_drop]
end
section
variable {prog:Program} {w:World} {A:Around} {E:Value -> Shared -> Prop} {s:Shared} {κ:SortKind} {it:Array Keyed} {n:Nat} {lt:Nat -> Nat -> Bool} {le:Nat -> Nat -> Prop} {p:Array Nat} {pend:Array (Nat × Nat × Nat)} {st:SortSt}
theorem n5 (o:Ord lt le) (hc:r9 prog w A s κ it n lt) (S:Stt κ it st p pend) (hp:∀ i,i < p.size -> at' p i < n) {i b:Nat} {Q:Bool -> SortSt -> Prop} (hi:i + 1 < pend.size) (R:Rn le p 0 pend.toList b) (hb:b <= p.size)
  (h:∀ p' pend' st',Stt κ it st' p' pend' -> Near p p' 0 b -> Rn le p' 0 pend'.toList b -> pend'.size + 1 = pend.size -> Q true st'):wpS (model prog w) A E s (mergeAt' i) Q st:=by
 obtain ⟨pre,⟨sa,na,pw⟩,⟨sb,nb,q⟩,post,e,hl⟩:=KE (l:=pend.toList) (i:=i) (by simpa using hi)
 rw [e] at R
 obtain ⟨c,R1,R2⟩:=R.app
 obtain ⟨r1,r2,r3,r4,r5,r6,r7⟩:=R2
 dsimp only at r1 r2 r3 r4 r5 r6 r7
 subst r1
 have hle:=r7.len_le
 have g1:pend[i]? = some (sa,na,pw):=by rw [<- Array.getElem?_toList,e,List.getElem?_append_right (by lia)];simp [hl]
 have g2:pend[i + 1]? = some (sb,nb,q):=by rw [<- Array.getElem?_toList,e,List.getElem?_append_right (by lia)];simp [hl]
 refine C0 o hc S g1 g2 r4 r2 r5 (by lia) hp (fun i j a1 a2=>r3 _ _ (by lia) (by lia) (by lia)) (fun i j a1 a2=>r6 _ _ (by lia) (by lia) (by lia)) fun p' st' S' so=>?_
 have en:((pend.setIfInBounds i (sa,na + nb,pw)).eraseIdxIfInBounds (i + 1)).toList = pre ++ (sa,na + nb,pw) :: post:=by
  have h2:i + 1 < (pend.setIfInBounds i (sa,na + nb,pw)).size:=by simpa using hi
  rw [Array.eraseIdxIfInBounds,dif_pos h2,Array.toList_eraseIdx,Array.toList_setIfInBounds,e,<- hl]
  rw [KB,DP]
 have hle1:=R1.len_le
 refine h p' _ st' S' ⟨so.perm,fun k hk=>so.out k (by lia)⟩ ?_ ?_
 ·rw [en]
  refine Rn.put (R1.of fun k _ h2=>so.out k (by lia)) ⟨rfl,by dsimp only;lia,fun i j a1 a2 a3=>so.asc i j a1 a2 a3,?_⟩
  dsimp only
  rw [show sa + (na + nb) = sa + na + nb by lia]
  exact r7.of fun k h1 h2=>so.out k (by lia)
 ·have e4:=congrArg List.length en
  have e3:=congrArg List.length e
  rw [Array.length_toList] at e4 e3
  rw [e4,e3]
  simp only [List.length_append,List.length_cons]
  lia
theorem KS (o:Ord lt le) (hc:r9 prog w A s κ it n lt) (S:Stt κ it st p #[]) (hp:∀ p':Array Nat,p'.Perm p -> ∀ i,i < p'.size -> at' p' i < n) {Q:Unit -> SortSt -> Prop}
  (h:∀ p' pend' st',Stt κ it st' p' pend' -> p'.Perm p -> Up le p' 0 p.size -> Q () st'):wpS (model prog w) A E s sortRuns' Q st:=by
 rw [sortRuns'_eq]
 refine wpS_bind (wpS_get ?_)
 dsimp only
 rw [S.2.1,Array.size_map]
 generalize minRun' p.size p.size 0 = minrun
 refine wpS_bind (wpS_mono (wpS_forRange (I:=fun x c st'=>∃ lo p' pend',c = (none,lo) /\ Stt κ it st' p' pend' /\ p'.Perm p /\ Rn le p' 0 pend'.toList lo /\ lo <= p.size /\ x <= lo)
  (Q:=fun c st'=>∃ p' pend',c.1 = none /\ Stt κ it st' p' pend' /\ p'.Perm p /\ Rn le p' 0 pend'.toList p.size) ?s1 ?f1 ?i1) ?p1)
 case i1=>exact ⟨0,p,#[],rfl,S,.refl _,rfl,by lia,by lia⟩
 case f1=>
  rintro c st' ⟨lo,p',pend',rfl,S',P',R',l1,l2⟩
  have:lo = p.size:=by lia
  subst this
  exact ⟨p',pend',rfl,S',P',R'⟩
 case s1=>
  rintro x c st' _ hx ⟨lo,p',pend',rfl,S',P',R',l1,l2⟩
  dsimp only
  by_cases e1:lo ≥ p.size
  ·rw [if_pos e1]
   have:lo = p.size:=by lia
   subst this
   exact wpS_pure ⟨p',pend',rfl,S',P',R'⟩
  rw [if_neg e1]
  have hs':=P'.size_eq
  refine wpS_bind (HP o hc S' (fun q hq=>hp q (hq.trans P')) (by lia) (by lia) fun m p2 st2 S2 m1 m2 N2 U2=>?_)
  have P2:=N2.1.trans P'
  have hs2:=P2.size_eq
  have R2:Rn le p2 0 pend'.toList lo:=R'.of fun k _ h2=>N2.2 k (.inl h2)
  dsimp only
  by_cases e2:m < minrun
  ·rw [if_pos e2]
   refine wpS_bind (wpS_lift (wpAny_rule ⟨rfl,?_⟩))
   refine wpS_bind (MM o hc S2 (fun q hq=>hp q (hq.trans P2)) (m:=min (p.size - lo) minrun) (by lia) (by lia) m1 U2 fun p3 st3 S3 N3 U3=>?_)
   replace R2:Rn le p3 0 pend'.toList lo:=R2.of fun k _ h2=>N3.2 k (.inl h2)
   replace P2:=N3.1.trans P2
   replace S2:=S3
   replace U2:=U3
   have hnn:1 <= min (p.size - lo) minrun:=by lia
   have hnn2:lo + min (p.size - lo) minrun <= p.size:=by lia
   clear S3 U3 N3 N2 hs2
   generalize min (p.size - lo) minrun = nn at *
   rw [if_neg (by decide)]
   clear st2 p2
   generalize p3 = p2 at *
   generalize st3 = st2 at *
   refine wpS_bind (wpS_get ?_)
   rw [S2.2.2.1]
   cases hbk:pend'.back? with
   | none=>
    dsimp only
    refine wpS_bind (wpS_modify (wpS_pure ⟨lo + nn,p2,pend'.push (lo,nn,0),rfl,⟨S2.1,S2.2.1,?_,S2.2.2.2⟩,P2,?_,by lia,by lia⟩))
    ·show (pendingOf st2).push _ = _
     rw [S2.2.2.1]
    ·rw [Array.toList_push]
     exact R2.put ⟨rfl,hnn,U2,rfl⟩
   | some e=>
    obtain ⟨s1,n1,z1⟩:=e
    dsimp only
    generalize power' _ _ _ _ = pw
    refine wpS_bind (wpS_mono (wpS_forRange (I:=fun y c st3=>c = (none,()) /\ ∃ p3 pend3,Stt κ it st3 p3 pend3 /\ p3.Perm p /\ Rn le p3 0 pend3.toList lo /\ Up le p3 lo (lo + nn))
     (Q:=fun c st3=>c = (none,()) /\ ∃ p3 pend3,Stt κ it st3 p3 pend3 /\ p3.Perm p /\ Rn le p3 0 pend3.toList lo /\ Up le p3 lo (lo + nn)) ?s2 ?f2 ?i2) ?p2)
    case i2=>exact ⟨rfl,p2,pend',S2,P2,R2,U2⟩
    case f2=>exact fun c st3 h=>h
    case s2=>
     rintro y c st3 _ hy ⟨rfl,p3,pend3,S3,P3,R3,U3⟩
     refine wpS_bind (wpS_get ?_)
     rw [S3.2.2.1]
     by_cases c1:pend3.size > 1
     ·rw [if_pos c1]
      cases hg:pend3[pend3.size - 2]? with
      | none=>exact wpS_pure ⟨rfl,p3,pend3,S3,P3,R3,U3⟩
      | some e=>
       obtain ⟨z2,z3,older⟩:=e
       dsimp only
       by_cases c2:older <= pw
       ·rw [if_pos c2]
        exact wpS_pure ⟨rfl,p3,pend3,S3,P3,R3,U3⟩
       ·rw [if_neg c2]
        have hs3:=P3.size_eq
        refine wpS_bind (n5 o hc S3 (hp _ P3) (i:=pend3.size - 2) (by lia) R3 (by lia) fun p4 pend4 st4 S4 N4 R4 _=>?_)
        exact wpS_pure ⟨rfl,p4,pend4,S4,N4.1.trans P3,R4,U3.of fun i h1 h2=>N4.2 i (.inr h1)⟩
     ·rw [if_neg c1]
      exact wpS_pure ⟨rfl,p3,pend3,S3,P3,R3,U3⟩
    case p2=>
     rintro c st3 ⟨rfl,p3,pend3,S3,P3,R3,U3⟩
     dsimp only
     refine wpS_bind (wpS_modify (wpS_bind (wpS_modify (wpS_pure ⟨lo + nn,p3,(pend3.modify (pend3.size - 1) fun e=>(e.1,e.2.1,pw)).push (lo,nn,0),rfl,⟨S3.1,S3.2.1,?_,S3.2.2.2⟩,P3,?_,by lia,by lia⟩))))
     ·show ((pendingOf st3).modify ((pendingOf st3).size - 1) _).push _ = _
      rw [S3.2.2.1]
     ·rw [Array.toList_push]
      refine Rn.put (R3.same ?_) ⟨rfl,hnn,U3,rfl⟩
      apply List.ext_getElem?
      intro k
      rw [List.getElem?_map,List.getElem?_map,Array.getElem?_toList,Array.getElem?_toList,Array.getElem?_modify]
      split
      ·cases pend3[k]? <;> rfl
      ·rfl
  ·rw [if_neg e2]
   have hnn:=m1
   have hnn2:lo + m <= p.size:=by lia
   refine wpS_bind (wpS_get ?_)
   rw [S2.2.2.1]
   cases hbk:pend'.back? with
   | none=>
    dsimp only
    refine wpS_bind (wpS_modify (wpS_pure ⟨lo + m,p2,pend'.push (lo,m,0),rfl,⟨S2.1,S2.2.1,?_,S2.2.2.2⟩,P2,?_,by lia,by lia⟩))
    ·show (pendingOf st2).push _ = _
     rw [S2.2.2.1]
    ·rw [Array.toList_push]
     exact R2.put ⟨rfl,hnn,U2,rfl⟩
   | some e=>
    obtain ⟨s1,n1,z1⟩:=e
    dsimp only
    generalize power' _ _ _ _ = pw
    refine wpS_bind (wpS_mono (wpS_forRange (I:=fun y c st3=>c = (none,()) /\ ∃ p3 pend3,Stt κ it st3 p3 pend3 /\ p3.Perm p /\ Rn le p3 0 pend3.toList lo /\ Up le p3 lo (lo + m))
     (Q:=fun c st3=>c = (none,()) /\ ∃ p3 pend3,Stt κ it st3 p3 pend3 /\ p3.Perm p /\ Rn le p3 0 pend3.toList lo /\ Up le p3 lo (lo + m)) ?s2 ?f2 ?i2) ?p2)
    case i2=>exact ⟨rfl,p2,pend',S2,P2,R2,U2⟩
    case f2=>exact fun c st3 h=>h
    case s2=>
     rintro y c st3 _ hy ⟨rfl,p3,pend3,S3,P3,R3,U3⟩
     refine wpS_bind (wpS_get ?_)
     rw [S3.2.2.1]
     by_cases c1:pend3.size > 1
     ·rw [if_pos c1]
      cases hg:pend3[pend3.size - 2]? with
      | none=>exact wpS_pure ⟨rfl,p3,pend3,S3,P3,R3,U3⟩
      | some e=>
       obtain ⟨z2,z3,older⟩:=e
       dsimp only
       by_cases c2:older <= pw
       ·rw [if_pos c2]
        exact wpS_pure ⟨rfl,p3,pend3,S3,P3,R3,U3⟩
       ·rw [if_neg c2]
        have hs3:=P3.size_eq
        refine wpS_bind (n5 o hc S3 (hp _ P3) (i:=pend3.size - 2) (by lia) R3 (by lia) fun p4 pend4 st4 S4 N4 R4 _=>?_)
        exact wpS_pure ⟨rfl,p4,pend4,S4,N4.1.trans P3,R4,U3.of fun i h1 h2=>N4.2 i (.inr h1)⟩
     ·rw [if_neg c1]
      exact wpS_pure ⟨rfl,p3,pend3,S3,P3,R3,U3⟩
    case p2=>
     rintro c st3 ⟨rfl,p3,pend3,S3,P3,R3,U3⟩
     dsimp only
     refine wpS_bind (wpS_modify (wpS_bind (wpS_modify (wpS_pure ⟨lo + m,p3,(pend3.modify (pend3.size - 1) fun e=>(e.1,e.2.1,pw)).push (lo,m,0),rfl,⟨S3.1,S3.2.1,?_,S3.2.2.2⟩,P3,?_,by lia,by lia⟩))))
     ·show ((pendingOf st3).modify ((pendingOf st3).size - 1) _).push _ = _
      rw [S3.2.2.1]
     ·rw [Array.toList_push]
      refine Rn.put (R3.same ?_) ⟨rfl,hnn,U3,rfl⟩
      apply List.ext_getElem?
      intro k
      rw [List.getElem?_map,List.getElem?_map,Array.getElem?_toList,Array.getElem?_toList,Array.getElem?_modify]
      split
      ·cases pend3[k]? <;> rfl
      ·rfl
 case p1=>
  rintro ⟨c,c'⟩ st' ⟨p',pend',hc1,S',P',R'⟩
  dsimp only at hc1
  subst hc1
  dsimp only
  refine wpS_bind (wpS_mono (wpS_forRange (I:=fun x c st'=>∃ p' pend',c = (none,()) /\ Stt κ it st' p' pend' /\ p'.Perm p /\ Rn le p' 0 pend'.toList p.size /\ pend'.size + x <= p.size)
   (Q:=fun c st'=>∃ p' pend',c = (none,()) /\ Stt κ it st' p' pend' /\ p'.Perm p /\ Rn le p' 0 pend'.toList p.size /\ pend'.size <= 1) ?s5 ?f5 ?i5) ?p5)
  case i5=>exact ⟨p',pend',rfl,S',P',R',by have:=R'.len_le;rw [Array.length_toList] at this;lia⟩
  case f5=>
   rintro c st' ⟨p',pend',rfl,S',P',R',hl⟩
   exact ⟨p',pend',rfl,S',P',R',by lia⟩
  case s5=>
   rintro x c st' _ hx ⟨p',pend',rfl,S',P',R',hl⟩
   refine wpS_bind (wpS_get ?_)
   rw [S'.2.2.1]
   by_cases e1:pend'.size <= 1
   ·rw [if_pos e1]
    exact wpS_pure ⟨p',pend',rfl,S',P',R',e1⟩
   rw [if_neg e1]
   have hs':=P'.size_eq
   refine wpS_bind (n5 o hc S' (hp _ P') ?_ R' (by lia) fun p4 pend4 st4 S4 N4 R4 h4=>?_)
   ·exact GK (by lia)
   ·exact wpS_pure ⟨p4,pend4,rfl,S4,N4.1.trans P',R4,by lia⟩
  case p5=>
   rintro c st' ⟨p',pend',rfl,S',P',R',hl⟩
   refine wpS_pure (h p' pend' st' S' P' ?_)
   cases hq:pend'.toList with
   | nil=>
    rw [hq] at R'
    have:0 = p.size:=R'
    intro i j _ _ h3
    lia
   | cons e es=>
    cases es with
    | nil=>
     rw [hq] at R'
     obtain ⟨r1,r2,r3,r4⟩:=R'
     have r4':0 + e.2.1 = p.size:=r4
     rw [<- r4']
     exact r3
    | cons e2 es=>
     have:=congrArg List.length hq
     rw [Array.length_toList] at this
     simp at this
     lia
end
section
variable {prog:Program} {w:World} {A:Around} {E:Value -> Shared -> Prop} {s:Shared}
structure Known (prog:Program) (w:World) (s:Shared) (vs:List Value) (κ:SortKind) (lt:Nat -> Nat -> Bool):Prop where
 kind:∀ (A:Around) (E:Value -> Shared -> Prop) (h':Heap) (Q:SortKind -> Shared -> Prop),(∀ b o,s.heap.get? b = some o -> h'.get? b = some o) -> 2 <= vs.length -> Q κ { s with heap:=h' } -> wpAny (model prog w) A (keyKind' vs.toArray) Q E { s with heap:=h' }
 ask:∀ (A:Around) (h':Heap) (i j:Nat) (C:Bool -> Shared -> Prop),(∀ b o,s.heap.get? b = some o -> h'.get? b = some o) -> i < vs.length -> j < vs.length -> C (lt i j) { s with heap:=h' } -> kas_ask prog w A κ vs i j C { s with heap:=h' }
theorem Known.on   {lt:Nat -> Nat -> Bool} {h:Heap} (k:Known prog w s vs κ lt) (hk:∀ b o,s.heap.get? b = some o -> h.get? b = some o):Known prog w { s with heap:=h } vs κ lt:=
 ⟨fun A E h' Q h2=>k.kind A E h' Q fun b o e=>h2 b o (hk b o e),fun A h' i j C h2=>k.ask A h' i j C fun b o e=>h2 b o (hk b o e)⟩
noncomputable def jg (vs:List Value) (p:Array Nat):Array Value:=(p.toList.map fun i=>vs.getD i Value.none).toArray
theorem zF {vs:List Value} {p:Array Nat} (h:p.size = vs.length):(jg vs p).size = vs.length:=by
 unfold jg;simp [h]
theorem xN:jg vs (List.range vs.length).toArray = vs.toArray:=by
 unfold jg
 congr 1
 apply List.ext_getElem
 ·simp
 ·intro i h1 h2
  simp at h1
  simp [h1]
theorem Gg {le:Nat -> Nat -> Prop} (rf:∀ a,le a a) {n:Nat} (h:n < 2) (p:Array Nat):Asc le p n:=fun i j hij hj=>by
 have e:i = j:=by lia
 subst e;exact rf _
theorem Et  {vs:List Value} {n:Nat}  {lt:Nat -> Nat -> Bool} {le:Nat -> Nat -> Prop} {P:PySem.Fin -> Shared -> Prop} (o:Ord lt le) (ho:s.heap.get? a = some (seqObj "list" vs.toArray n)) (hN:vs.length <= sizeLine)
  (hk:∀ h',(∀ b o,b ≠ a -> s.heap.get? b = some o -> h'.get? b = some o) -> Known prog w { s with heap:=h' } vs κ lt)
  (h:∀ p:Array Nat,p.Perm (List.range vs.length).toArray -> Asc le p vs.length -> P (.done (.ret .none)) { s with heap:=sortedHeap s.heap a vs (jg vs p) }):wpAny (model prog w) A (Builtin.«list.sort» ⟨[.ref a],[]⟩) P E s:=by
 have ha:a < s.heap.objs.size:=Heap.lt_size ho
 obtain ⟨e1,ho1⟩:∃ e1,(s.heap.update a (Obj.mapSeq fun _=>#[])).get? a = some (seqObj "list" #[] e1):=⟨_,get?_update_seq ho fun _=>#[]⟩
 have ne1:a ≠ ((s.heap.update a (Obj.mapSeq fun _=>#[])).push (seqObj "tuple" vs.toArray 0)).objs.size:=by rw [size_push',Heap.size_update];exact Nat.ne_of_lt (Nat.lt_succ_of_lt ha)
 have ne2:a ≠ (s.heap.update a (Obj.mapSeq fun _=>#[])).objs.size:=by rw [Heap.size_update];exact Nat.ne_of_lt ha
 have ho6:(((s.heap.update a (Obj.mapSeq fun _=>#[])).push (seqObj "tuple" vs.toArray 0)).push (seqObj "list" #[] 0)).get? a = some (seqObj "list" #[] e1):=by rw [Heap.get?_push_ne _ _ _ ne1,Heap.get?_push_ne _ _ _ ne2,ho1]
 have keep:∀ b q,b ≠ a -> s.heap.get? b = some q -> (((s.heap.update a (Obj.mapSeq fun _=>#[])).push (seqObj "tuple" vs.toArray 0)).push (seqObj "list" #[] 0)).get? b = some q:=fun b q hb hq=>
  Heap.get?_push_of_some _ (Heap.get?_push_of_some _ ((Heap.get?_update_ne _ _ _ _ hb).trans hq))
 have K:=hk _ keep
 rw [list_sort_plain];refine wpAny_bind (listItems_at ho rfl (wpAny_bind (listUpdate_at ho rfl (wpAny_bind (seqEpoch_at ho1 rfl (wpAny_bind (wpAny_newTuple (wpAny_bind (wpAny_newList (wpAny_holding ?_))))))))))
 dsimp only
 have hn:vs.toArray.size = vs.length:=by simp
 have fin:∀ (p:Array Nat) (st:SortSt),p.Perm (List.range vs.length).toArray -> Asc le p vs.length -> (arrOf st).map (·.2) = jg vs p -> failedOf st = none ->
   wpAny (model prog w) A (do
    let touched:=(← seqEpoch a) != e1
    Builtin.List.listUpdate (.ref a) fun _=>(arrOf st).map (·.2)
    if let some e:=failedOf st then rule "list.sort.comparison-raised"; throw e
    if touched then rule "list.sort.modified"; raiseError "ValueError" "list modified during sort"
    ret .none) P E { s with heap:=((s.heap.update a (Obj.mapSeq fun _=>#[])).push (seqObj "tuple" vs.toArray 0)).push (seqObj "list" #[] 0) }:=fun p st hp hs ho2 hf=>by
  have hz:(jg vs p).size <= sizeLine + 1:=by
   rw [zF (by rw [hp.size_eq];simp)];lia
  rw [ho2,hf]
  refine wpAny_bind (seqEpoch_at ho6 rfl (wpAny_bind (listUpdate_at ho6 rfl ?_ (hsz2:=hz))))
  simp only [bne_self_eq_false,Bool.false_eq_true,if_false]
  exact wpAny_pure (h p hp hs)
 by_cases h2:vs.toArray.size < 2
 ·rw [if_pos h2,if_pos h2]
  refine wpAny_bind (wpAny_pure ?_)
  rw [StateT.run_pure]
  refine wpAny_bind (wpAny_pure (fin (List.range vs.length).toArray _ (Array.Perm.refl _) (Gg o.rf (by lia) _) ?_ rfl))
  rw [xN]
  show ((vs.toArray.zip vs.toArray).map (·.2)) = vs.toArray
  apply Array.ext
  ·simp
  ·intro i h1 h2;simp
 ·rw [if_neg h2,if_neg h2]
  refine wpAny_bind (K.kind _ _ _ _ (fun _ _ e=>e) (by lia) ?_)
  have pos:0 < vs.length:=by lia
  have perm0:∀ p':Array Nat,p'.Perm (List.range vs.length).toArray -> ∀ i,i < p'.size -> at' p' i < vs.length:=fun p' h' i _=>I0 pos h' i
  have esz:(vs.toArray.zip vs.toArray).size = vs.length:=by simp
  have er:=kas_range (vs.toArray.zip vs.toArray)
  rw [esz] at er
  have run:=KS (prog:=prog) (w:=w) (A:=A) (E:=E) (κ:=κ) (it:=vs.toArray.zip vs.toArray) (n:=vs.length) (lt:=lt) (le:=le) (p:=(List.range vs.length).toArray) (st:=SortSt.mk' κ (vs.toArray.zip vs.toArray) #[] 7 none)
   (s:={ s with heap:=((s.heap.update a (Obj.mapSeq fun _=>#[])).push (seqObj "tuple" vs.toArray 0)).push (seqObj "list" #[] 0) })
   (Q:=fun _ st=>∃ p:Array Nat,(arrOf st).map (·.2) = jg vs p /\ failedOf st = none /\ p.Perm (List.range vs.length).toArray /\ Asc le p vs.length) o
   (fun i j C hi hj hc=>by rw [<- kat_ask_eq (ks:=vs) (vs:=vs) rfl];exact K.ask _ _ i j C (fun _ _ e=>e) hi hj hc) ⟨rfl,er.symm,rfl,rfl⟩ perm0
   (fun p' pend' st' S' hp hu=>⟨p',kat_snds rfl S'.2.1,S'.2.2.2,hp,fun i j hij hj=>hu i j (Nat.zero_le _) hij (by simpa using hj)⟩)
  refine wpAny_bind (wpAny_mono run (fun r s' hr=>?_) fun _ _ e=>e)
  ·obtain ⟨rfl,p,e2,hf,hp,hs⟩:=hr
   exact fin p r.2 hp hs e2 hf
theorem ud  {vs:List Value}  {lt:Nat -> Nat -> Bool} {le:Nat -> Nat -> Prop} {Q:Value -> Shared -> Prop} (o:Ord lt le) (hl:s.heap.IsList l vs.toArray) (hN:vs.length <= sizeLine) (hk:Known prog w s vs κ lt)
  (h:∀ p:Array Nat,p.Perm (List.range vs.length).toArray -> Asc le p vs.length -> Q (.ref (s.heap.objs.size + 1)) { s with heap:=sortedAll s.heap vs (jg vs p) }):wpAny (model prog w) A (call (.builtin "sorted") [.ref l]) Q E s:=by
 have hz:vs.length <= sizeLine:=hN
 have sz:((s.heap.push (seqObj "list" #[] 0)).update s.heap.objs.size (Obj.mapSeq (· ++ vs.toArray))).objs.size = s.heap.objs.size + 1:=by rw [Heap.size_update,size_push']
 have at1:(((s.heap.push (seqObj "list" #[] 0)).update s.heap.objs.size (Obj.mapSeq (· ++ vs.toArray))).push (seqObj "list" vs.toArray 0)).get? (s.heap.objs.size + 1) = some (seqObj "list" vs.toArray 0):=by rw [<- sz];exact Heap.get?_push_size _ rfl
 have old:∀ b q,s.heap.get? b = some q -> b ≠ s.heap.objs.size + 1 /\ (((s.heap.push (seqObj "list" #[] 0)).update s.heap.objs.size (Obj.mapSeq (· ++ vs.toArray))).push (seqObj "list" vs.toArray 0)).get? b = some q:=fun b q e=>by
  have hb:=Heap.lt_size e
  refine ⟨Nat.ne_of_lt (Nat.lt_succ_of_lt hb),Heap.get?_push_of_some _ ?_⟩
  rw [Heap.get?_update_ne _ _ _ _ (Nat.ne_of_lt hb)]
  exact Heap.get?_push_of_some _ e
 refine Calls.call_function_entry kind_sorted plain_sorted entry_sorted (args_sorted1 (.ref l)) ?_;unfold Builtin.«sorted»
 refine wpAny_bind (m:=checkCount "sorted" 1 1 _) (wpAny_pure (wpAny_bind (collect_list hl (wpAny_bind (wpAny_newList ?_ hz)) hz)))
 show wpAny (model prog w) _ _ _ _ { s with heap:=((s.heap.push (seqObj "list" #[] 0)).update s.heap.objs.size (Obj.mapSeq (· ++ vs.toArray))).push (seqObj "list" vs.toArray 0) }
 rw [sz]
 refine wpAny_bind (wpAny_holding (wpAny_call_entry slot_list_sort ⟨_,at1,rfl⟩ entry_list_sort (Et (κ:=κ) (le:=le) o at1 hN (fun h' kp=>?_) fun p hp hs=>⟨_,rfl,wpAny_pure ⟨_,rfl,h p hp hs⟩⟩) (args_list_sort _)))
 exact hk.on fun b q e=>kp b q (old b q e).1 (old b q e).2
end
section
variable {prog:Program} {w:World} {A:Around} {E:Value -> Shared -> Prop} {s:Shared}
noncomputable def fJ:List Int -> List Int -> Bool
 | [],[]=>false
 | [],_ :: _=>true
 | _ :: _,[]=>false
 | x :: xs,y :: ys=>if x = y then fJ xs ys else decide (x < y)
theorem oA:∀ a:List Int,fJ a a = false
 | []=>rfl
 | x :: xs=>by unfold fJ;rw [if_pos rfl];exact oA xs
theorem qG:∀ a b:List Int,fJ a b = true -> fJ b a = false
 | [],[],h=>by unfold fJ at h;cases h
 | [],_ :: _,_=>by unfold fJ;rfl
 | _ :: _,[],h=>by unfold fJ at h;cases h
 | x :: xs,y :: ys,h=>by
  unfold fJ at h ⊢
  by_cases e:x = y
  ·rw [if_pos e] at h;rw [if_pos e.symm];exact qG xs ys h
  ·rw [if_neg e] at h
   rw [if_neg (Ne.symm e)]
   have:=of_decide_eq_true h
   exact decide_eq_false (by lia)
theorem qH:∀ a b c:List Int,fJ b a = false -> fJ c b = false -> fJ c a = false
 | [],_,[],_,_=>rfl
 | [],[],_ :: _,_,h=>by unfold fJ at h;cases h <;> rfl
 | [],_ :: _,_ :: _,_,_=>by unfold fJ;rfl
 | _ :: _,[],_,h,_=>by unfold fJ at h;cases h
 | x :: xs,y :: ys,[],_,h=>by unfold fJ at h;cases h
 | x :: xs,y :: ys,z :: zs,h1,h2=>by
  unfold fJ at h1 h2 ⊢
  by_cases e1:y = x
  ·rw [if_pos e1] at h1
   by_cases e2:z = y
   ·rw [if_pos e2] at h2
    rw [if_pos (e2.trans e1)]
    exact qH xs ys zs h1 h2
   ·rw [if_neg e2] at h2
    rw [if_neg (by lia)]
    have:=of_decide_eq_false h2
    exact decide_eq_false (by lia)
  ·rw [if_neg e1] at h1
   have g1:=of_decide_eq_false h1
   by_cases e2:z = y
   ·rw [if_neg (by lia)]
    exact decide_eq_false (by lia)
   ·rw [if_neg e2] at h2
    have g2:=of_decide_eq_false h2
    rw [if_neg (by lia)]
    exact decide_eq_false (by lia)
theorem Ep (f:Nat -> List Int):Ord (fun i j=>fJ (f i) (f j)) (fun i j=>fJ (f j) (f i) = false):=
 ⟨fun a b c h1 h2=>qH _ _ _ h1 h2,fun a=>oA _,fun a b h=>qG _ _ h,fun a b h=>h⟩
def K9 (h:Heap) (v:Value) (ns:List Int):Prop:=∃ a o xs n,v = .ref a /\ h.get? a = some o /\ o.cls = .type "tuple" /\ o.data = .seq xs n /\ IntsAre xs.toList ns
theorem GS:∀ (xs ys:List Value) (ns ms:List Int) (i:Nat) (fin:Bool) (Q:Bool -> Shared -> Prop),IntsAre xs ns -> IntsAre ys ms -> (fin = decide (xs.length < ys.length)) -> Q (fJ ns ms) s ->
  KatLex prog w A true fin Q (xs.zip ys) i s:=by
 intro xs
 induction xs with
 | nil=>
  intro ys ns ms i fin Q hx hy hf hq
  cases hx
  rw [List.zip_nil_left]
  show Q fin s
  rw [hf]
  cases hy with
  | nil | cons _ _ _=>exact hq
 | cons x xs ih=>
  intro ys ns ms i fin Q hx hy hf hq
  cases hx with
  | cons a t tx=>
   cases hy with
   | nil=>
    rw [List.zip_nil_right]
    show Q fin s
    rw [hf]
    exact hq
   | @cons c u ys' ms' ty=>
    rw [List.zip_cons_cons]
    refine kat_cons ((SeqAt.EqAt.int_int a t c u) prog w _ _ ?_)
    unfold fJ at hq
    by_cases e:a = c
    ·rw [if_pos e] at hq
     have eb:(a == c) = true:=by simpa using e
     rw [eb]
     exact kat_yes (ih ys' _ ms' (i + 1) fin Q tx ty (by rw [hf];simp) hq)
    ·rw [if_neg e] at hq
     have eb:(a == c) = false:=by simpa using e
     rw [eb]
     refine kat_no ?_
     cases q:i == 0 with
     | true=>exact oneLt_int hq
     | false=>exact kat_one _ _ (lt_int hq)
theorem zd {vs:List Value} {f:Nat -> List Int} (hv:∀ i,i < vs.length -> K9 s.heap (vs.getD i Value.none) (f i) /\ f i ≠ []):Known prog w s vs (tuples' true) fun i j=>fJ (f i) (f j):=by
 refine ⟨fun A E h' Q hk h2 hq=>?_,fun A h' i j C hk hi hj hc=>?_⟩
 ·have hv':∀ v ∈ vs,∃ n t rest a o xs k,v = .ref a /\ h'.get? a = some o /\ o.cls = .type "tuple" /\ o.data = .seq xs k /\ xs.toList = Value.int n t :: rest:=fun v hm=>by
   obtain ⟨i,hi,e⟩:=List.getElem_of_mem hm
   obtain ⟨⟨a,o,xs,k,e1,e2,e3,e4,e5⟩,ne⟩:=hv i hi
   have ev:vs.getD i Value.none = v:=by rw [List.getD_eq_getElem?_getD,List.getElem?_eq_getElem hi];exact e
   rw [ev] at e1
   revert e5 ne
   generalize f i = ns
   generalize ex:xs.toList = L
   intro ne e5
   cases e5 with
   | nil=>exact absurd rfl ne
   | @cons n t vs' ns' tl=>exact ⟨n,t,vs',a,o,xs,k,e1,hk _ _ e2,e3,e4,ex⟩
  have fs:∀ L:List Value,(∀ v ∈ L,∃ n t rest a o xs k,v = .ref a /\ h'.get? a = some o /\ o.cls = .type "tuple" /\ o.data = .seq xs k /\ xs.toList = Value.int n t :: rest) -> ∃ gs,KatTups h' L gs /\ gs.length = L.length /\ ∀ v ∈ gs,∃ n t,v = Value.int n t:=by
   intro L
   induction L with
   | nil=>exact fun _=>⟨[],.nil,rfl,fun _ h=>(by cases h)⟩
   | cons v L ih=>
    intro hL
    obtain ⟨gs,g1,g2,g3⟩:=ih fun u hu=>hL u (List.mem_cons_of_mem _ hu)
    obtain ⟨n,t,rest,a,o,xs,k,rfl,e2,e3,e4,e5⟩:=hL v List.mem_cons_self
    refine ⟨.int n t :: gs,.cons e2 e3 e4 (by rw [<- Array.getElem?_toList,e5];rfl) g1,by rw [List.length_cons,List.length_cons,g2],fun u hu=>?_⟩
    rcases List.mem_cons.mp hu with rfl | hu
    ·exact ⟨n,t,rfl⟩
    ·exact g3 u hu
  obtain ⟨gs,g1,g2,g3⟩:=fs vs hv'
  refine kat_kind (s:={ s with heap:=h' }) (T:=.type "int") g1 (by lia) (fun v hm=>?_) (by decide) hq
  obtain ⟨n,t,rfl⟩:=g3 v hm
  exact Looks.of_pure rfl
 ·obtain ⟨⟨a,o,xs,k,e1,e2,e3,e4,e5⟩,_⟩:=hv i hi
  obtain ⟨⟨a',o',xs',k',e1',e2',e3',e4',e5'⟩,_⟩:=hv j hj
  unfold kas_ask
  rw [e1,e1']
  refine kat_lt (s:={ s with heap:=h' }) (hk _ _ e2) e4 (hk _ _ e2') e4' ?_
  refine GS (s:={ s with heap:=h' }) _ _ _ _ _ _ _ e5 e5' ?_ hc
  simp
theorem ph:∀ {vs:List Value} {ns:List Int},IntsAre vs ns -> ∀ i,i < vs.length -> ∃ t,vs.getD i Value.none = .int (ns.getD i 0) t
 | _,_,.nil,i,h=>by simp at h
 | _,_,.cons n t _,0,_=>⟨t,rfl⟩
 | _,_,.cons n t tl,i + 1,h=>by
  obtain ⟨u,e⟩:=ph tl i (by simpa using h)
  exact ⟨u,by simpa using e⟩
theorem zc   (hI:IntsAre vs ns):Known prog w s vs oneType' fun i j=>decide (ns.getD i 0 < ns.getD j 0):=by
 refine ⟨fun A E h' Q hk h2 hq=>?_,fun A h' i j C hk hi hj hc=>?_⟩
 ·rw [ksk_kind (keys:=vs.toArray) (kz:=ns) (by simpa using hI) (by simpa using h2)]
  exact wpAny_pure hq
 ·obtain ⟨t,e1⟩:=ph hI i hi
  obtain ⟨u,e2⟩:=ph hI j hj
  unfold kas_ask
  rw [e1,e2,keyLt'_oneType]
  exact oneLt_int hc
theorem EM (f:Nat -> Int):Ord (fun i j=>decide (f i < f j)) (fun i j=>f i <= f j):=
 ⟨fun _ _ _ h k=>Int.le_trans h k,fun _=>Int.le_refl _,fun a b h=>Int.le_of_lt (of_decide_eq_true h),fun a b h=>by have:=of_decide_eq_false h;show f b <= f a;lia⟩
theorem gY   (hI:IntsAre vs ns):∀ L:List Nat,(∀ i ∈ L,i < vs.length) -> IntsAre (L.map fun i=>vs.getD i Value.none) (L.map fun i=>ns.getD i 0)
 | [],_=>.nil
 | i :: L,h=>by
  obtain ⟨t,e⟩:=ph hI i (h i List.mem_cons_self)
  rw [List.map_cons,List.map_cons,e]
  exact .cons _ t (gY hI L fun j hj=>h j (List.mem_cons_of_mem _ hj))
theorem xo:∀ {vs:List Value} {ns:List Int},IntsAre vs ns -> vs.length = ns.length
 | _,_,.nil=>rfl
 | _,_,.cons n t tl=>by rw [List.length_cons,List.length_cons,xo tl]
theorem vB  {vs:List Value}  {Q:Value -> Shared -> Prop} (hl:s.heap.IsList l vs.toArray) (hI:IntsAre vs ns) (hN:vs.length <= sizeLine)
  (h:∀ (out:Array Value) ms,IntsAre out.toList ms -> ms.Perm ns -> ms.Pairwise (· <= ·) -> Q (.ref (s.heap.objs.size + 1)) { s with heap:=sortedAll s.heap vs out }):wpAny (model prog w) A (call (.builtin "sorted") [.ref l]) Q E s:=by
 refine ud (EM fun i=>ns.getD i 0) hl hN (zc hI) fun p hp ha=>?_
 have e:=xo hI
 have hb:∀ i ∈ p.toList,i < vs.length:=fun i hi=>by simpa using (Array.perm_iff_toList_perm.mp hp).mem_iff.mp hi
 rw [e] at hp ha
 obtain ⟨p1,p2⟩:=zG (vs:=ns) (d:=0) hp ha
 exact h (jg vs p) _ (by simpa [jg] using gY hI p.toList hb) p1 (p2 _ fun i j _ _ h=>h)
end
end Srt
namespace L2
open PySem
noncomputable def J9 (K:W.Frag):List V -> Hp -> VK -> Prop:=fun xs H Q=>∃ p ys,xs = [.ref p] /\ ((SqL K H p ys /\ ∀ l,H l = none -> Q (.ref l) (upd H l (.tup ys))) \/ (SqT K H p ys /\ Q (.ref p) H))
noncomputable def L5:List V -> Hp -> VK -> Prop:=fun xs H Q=>∃ i j,xs = [.int i,.int j] /\ Q (.int (if j > i then j else i)) H
noncomputable def L6:List V -> Hp -> VK -> Prop:=fun xs H Q=>∃ i j,xs = [.int i,.int j] /\ Q (.int (if j < i then j else i)) H
noncomputable def L7:R2:=fun x y H Q=>y = .non /\ Q (.bl (!decide (x = .non))) H
noncomputable def NC (K:W.Frag) (ta:TE):TT:=fun σ H Q=>ta σ H fun x H'=>∃ k,Ge K x H' k /\ Q k H'
noncomputable def xX (K:W.Frag):List V -> Hp -> VK -> Prop:=fun xs H Q=>∃ p,∃ ns:List Int,xs = [.ref p] /\ SqL K H p (ns.map V.int) /\ ns.length < 30000 /\
 ∀ (ms:List Int) l,ms.Perm ns -> ms.Pairwise (· <= ·) -> H l = none -> Q (.ref l) (upd H l (.lst (ms.map V.int)))
noncomputable def Ix (K:W.Frag):List V -> Hp -> VK -> Prop:=fun xs H Q=>∃ p,∃ ns:List Int,xs = [.ref p] /\ SqL K H p (ns.map V.int) /\ Q (.int ns.sum) H
noncomputable def Jt (K:W.Frag) (tl:TE):TI:=fun σ H R=>tl σ H fun x H1=>∃ a,x = .ref a /\ (((∃ xs,SqL K H1 a xs) /\ R (Itl K a) H1) \/ ((∃ xs,SqT K H1 a xs) /\ R (Itt K a) H1))
end L2
namespace M
open PySem L2
inductive D where
 | non | bl (b:Bool) | int (i:Int) | str (x:Str) | ty (n:String) | lst (l:List D) | tup (l:List D) | scr (l:List D) | ins (N:Str) (ns:List Str) (l:List D) | dic (ks:List (List Int)) | dif (ks:List (List Int)) | mtp (l:List D)
 deriving Inhabited
theorem bS {S':Hp} (s:Same S S')   (h:Rd S a u):Rd S' a u:=h.elim (fun e=>.inl (s _ _ e)) fun ⟨o,e⟩=>.inr ⟨o,s _ _ e⟩
theorem c7  {S':Hp} (s:Same S S')  {xs:List V} (h:SqL K S a xs):SqL K S' a xs:=h.elim (fun e=>.inl (bS s e)) .inr
theorem aC  {S':Hp} (s:Same S S')  {xs:List V} (h:SqT K S a xs):SqT K S' a xs:=h.elim (fun e=>.inl (bS s e)) .inr
def TpA (K:W.Frag) (S:Hp) (a:Addr) (xs:List V):Prop:=S a = some (.tup xs)
theorem TpA.of  {S:Hp} {a:Addr} {xs:List V} (h:S a = some (.tup xs)):TpA K S a xs:=h
theorem TpA.sq    {xs:List V} (h:TpA K S a xs):SqT K S a xs:=SqT.of h
theorem TpA.mono  {S':Hp} (s:Same S S')  {xs:List V} (h:TpA K S a xs):TpA K S' a xs:=s _ _ h
noncomputable def cX (ks:List (List Int)):List (List Key × V):=ks.map fun k=>(k.map Sum.inl,V.bl true)
mutual
noncomputable def Den (K:W.Frag) (S:Hp):D -> V -> Prop
 | .non,v=>v = .non
 | .bl b,v=>v = .bl b
 | .int i,v=>v = .int i
 | .str x,v=>v = .str x
 | .ty x,v=>v = .ty x
 | .lst l,v=>∃ p xs,v = .ref p /\ Rd S p (.lst xs) /\ Dens K S l xs
 | .tup l,v=>∃ p xs,v = .ref p /\ TpA K S p xs /\ Dens K S l xs
 | .scr l,v=>∃ p xs,v = .ref p /\ SqL K S p xs /\ Dens K S l xs
 | .mtp l,v=>∃ p xs,v = .ref p /\ SqT K S p xs /\ Dens K S l xs
 | .ins N ns l,v=>∃ p C dx fs,v = .ref p /\ W.nsIn K mainGlobals N = some (some (.ref C)) /\ S p = some (.ins C dx fs) /\ fs.map (·.1) = ns /\ Dens K S l (fs.map (·.2))
 | .dic ks,v=>∃ p,v = .ref p /\ Rd S p (.dT (cX ks))
 | .dif ks,v=>∃ p o,v = .ref p /\ S p = some (.frz o (.dT (cX ks)))
noncomputable def Dens (K:W.Frag) (S:Hp):List D -> List V -> Prop
 | [],xs=>xs = []
 | d :: ds,xs=>∃ y ys,xs = y :: ys /\ Den K S d y /\ Dens K S ds ys
end
section
variable {K:W.Frag} {S S' H H':Hp}
theorem Dens.nil:Dens K S [] []:=by unfold Dens;rfl
theorem Dens.cons  {ds:List D}  {ys:List V} (h:Den K S d y) (k:Dens K S ds ys):Dens K S (d :: ds) (y :: ys):=by unfold Dens;exact ⟨y,ys,rfl,h,k⟩
theorem Dens.nil_of {xs:List V} (h:Dens K S [] xs):xs = []:=by unfold Dens at h;exact h
theorem Dens.cons_of {d:D} {ds:List D} {xs:List V} (h:Dens K S (d :: ds) xs):∃ y ys,xs = y :: ys /\ Den K S d y /\ Dens K S ds ys:=by unfold Dens at h;exact h
theorem Dens.length:∀ {ds:List D} {xs:List V},Dens K S ds xs -> ds.length = xs.length
 | [],_,h=>by rw [h.nil_of];rfl
 | _ :: _,_,h=>by
  obtain ⟨y,ys,rfl,_,k⟩:=h.cons_of
  rw [List.length_cons,List.length_cons,k.length]
theorem Dens.append:∀ {ds es:List D} {xs ys:List V},Dens K S ds xs -> Dens K S es ys -> Dens K S (ds ++ es) (xs ++ ys)
 | [],_,_,_,h,k=>by rw [h.nil_of];exact k
 | _ :: _,_,_,_,h,k=>by
  obtain ⟨y,ys,rfl,a,b⟩:=h.cons_of
  exact .cons a (b.append k)
theorem Dens.get:∀ {ds:List D} {xs:List V} {i:Nat} {d:D},Dens K S ds xs -> ds[i]? = some d -> ∃ x,xs[i]? = some x /\ Den K S d x
 | [],_,_,_,_,e=>by simp at e
 | _ :: _,_,0,_,h,e=>by
  obtain ⟨y,ys,rfl,a,b⟩:=h.cons_of
  simp at e;subst e
  exact ⟨y,rfl,a⟩
 | _ :: _,_,i + 1,_,h,e=>by
  obtain ⟨y,ys,rfl,a,b⟩:=h.cons_of
  obtain ⟨x,e1,h1⟩:=b.get (i:=i) (by simpa using e)
  exact ⟨x,by simpa using e1,h1⟩
theorem Dens.set:∀ {ds:List D} {xs:List V} {d:D} {x:V} (i:Nat),Dens K S ds xs -> Den K S d x -> Dens K S (ds.set i d) (xs.set i x)
 | [],_,_,_,_,h,_=>by rw [h.nil_of];exact .nil
 | _ :: _,_,_,_,0,h,k=>by
  obtain ⟨y,ys,rfl,a,b⟩:=h.cons_of
  exact .cons k b
 | _ :: _,_,_,_,i + 1,h,k=>by
  obtain ⟨y,ys,rfl,a,b⟩:=h.cons_of
  exact .cons a (b.set i k)
theorem Dens.take:∀ {ds:List D} {xs:List V} (i:Nat),Dens K S ds xs -> Dens K S (ds.take i) (xs.take i)
 | [],_,_,h=>by rw [h.nil_of];simp;exact .nil
 | _ :: _,_,0,h=>by simp;exact .nil
 | _ :: _,_,i + 1,h=>by
  obtain ⟨y,ys,rfl,a,b⟩:=h.cons_of
  exact .cons a (b.take i)
theorem Dens.drop:∀ {ds:List D} {xs:List V} (i:Nat),Dens K S ds xs -> Dens K S (ds.drop i) (xs.drop i)
 | [],_,_,h=>by rw [h.nil_of];simp;exact .nil
 | _ :: _,_,0,h=>h
 | _ :: _,_,i + 1,h=>by
  obtain ⟨y,ys,rfl,a,b⟩:=h.cons_of
  exact b.drop i
mutual
theorem Den.mono (s:Same S S'):∀ {d:D} {v:V},Den K S d v -> Den K S' d v
 | .dic _,_,h=>by
  unfold Den at *
  obtain ⟨p,e,h1⟩:=h
  exact ⟨p,e,bS s h1⟩
 | .dif _,_,h=>by
  unfold Den at *
  obtain ⟨p,o,e,h1⟩:=h
  exact ⟨p,o,e,s _ _ h1⟩
 | .non,_,h=>by unfold Den at *;exact h
 | .bl _,_,h=>by unfold Den at *;exact h
 | .int _,_,h=>by unfold Den at *;exact h
 | .str _,_,h=>by unfold Den at *;exact h
 | .ty _,_,h=>by unfold Den at *;exact h
 | .lst _,_,h=>by
  unfold Den at *
  obtain ⟨p,xs,e,h1,h2⟩:=h
  exact ⟨p,xs,e,bS s h1,Dens.mono s h2⟩
 | .tup _,_,h=>by
  unfold Den at *
  obtain ⟨p,xs,e,h1,h2⟩:=h
  exact ⟨p,xs,e,TpA.mono s h1,Dens.mono s h2⟩
 | .scr _,_,h=>by
  unfold Den at *
  obtain ⟨p,xs,e,h1,h2⟩:=h
  exact ⟨p,xs,e,c7 s h1,Dens.mono s h2⟩
 | .mtp _,_,h=>by
  unfold Den at *
  obtain ⟨p,xs,e,h1,h2⟩:=h
  exact ⟨p,xs,e,aC s h1,Dens.mono s h2⟩
 | .ins _ _ _,_,h=>by
  unfold Den at *
  obtain ⟨p,C,dx,fs,e,h0,h1,h2,h3⟩:=h
  exact ⟨p,C,dx,fs,e,h0,s _ _ h1,h2,Dens.mono s h3⟩
theorem Dens.mono (s:Same S S'):∀ {ds:List D} {xs:List V},Dens K S ds xs -> Dens K S' ds xs
 | [],_,h=>by rw [h.nil_of];exact .nil
 | _ :: _,_,h=>by
  obtain ⟨y,ys,rfl,a,b⟩:=h.cons_of
  exact .cons (Den.mono s a) (Dens.mono s b)
end
theorem den_int {i:Int}  : Den K S (.int i) v ↔ v = .int i:=by unfold Den;exact Iff.rfl
theorem den_bl {b:Bool}  : Den K S (.bl b) v ↔ v = .bl b:=by unfold Den;exact Iff.rfl
theorem den_non:Den K S .non v ↔ v = .non:=by unfold Den;exact Iff.rfl
theorem den_str {x:Str}  : Den K S (.str x) v ↔ v = .str x:=by unfold Den;exact Iff.rfl
theorem den_ty {x:String}  : Den K S (.ty x) v ↔ v = .ty x:=by unfold Den;exact Iff.rfl
theorem den_tup {l:List D}  : Den K S (.tup l) v ↔ ∃ p xs,v = .ref p /\ TpA K S p xs /\ Dens K S l xs:=by
 constructor
 ·intro h;unfold Den at h;exact h
 ·intro h;unfold Den;exact h
theorem eS {l:List D}  (h:Den K S (.tup l) v):∃ p xs,v = .ref p /\ SqT K S p xs /\ Dens K S l xs:=by
 obtain ⟨p,xs,e,h1,h2⟩:=den_tup.mp h
 exact ⟨p,xs,e,h1.sq,h2⟩
theorem den_lst {l:List D}  : Den K S (.lst l) v ↔ ∃ p xs,v = .ref p /\ Rd S p (.lst xs) /\ Dens K S l xs:=by
 constructor
 ·intro h;unfold Den at h;exact h
 ·intro h;unfold Den;exact h
theorem den_scr {l:List D}  : Den K S (.scr l) v ↔ ∃ p xs,v = .ref p /\ SqL K S p xs /\ Dens K S l xs:=by
 constructor
 ·intro h;unfold Den at h;exact h
 ·intro h;unfold Den;exact h
theorem den_mtp {l:List D}  : Den K S (.mtp l) v ↔ ∃ p xs,v = .ref p /\ SqT K S p xs /\ Dens K S l xs:=by
 constructor
 ·intro h;unfold Den at h;exact h
 ·intro h;unfold Den;exact h
theorem den_ins {N:Str} {ns:List Str} {l:List D}  : Den K S (.ins N ns l) v ↔ ∃ p C dx fs,v = .ref p /\ W.nsIn K mainGlobals N = some (some (.ref C)) /\ S p = some (.ins C dx fs) /\ fs.map (·.1) = ns /\ Dens K S l (fs.map (·.2)):=by
 constructor
 ·intro h;unfold Den at h;exact h
 ·intro h;unfold Den;exact h
def DenP (K:W.Frag) (S H:Hp) (d:D) (v:V):Prop:=Den K S d v \/ ∃ l p xs,d = .lst l /\ v = .ref p /\ H p = some (.lst xs) /\ Dens K S l xs
theorem DenP.lst {l:List D} {v:V} (s:Same S H) (h:DenP K S H (.lst l) v):∃ p xs,v = .ref p /\ Rd H p (.lst xs) /\ Dens K S l xs:=by
 rcases h with h | ⟨l',p,xs,e,e1,e2,e3⟩
 ·obtain ⟨p,xs,e,e1,e2⟩:=den_lst.mp h
  exact ⟨p,xs,e,bS s e1,e2⟩
 ·cases e
  exact ⟨p,xs,e1,.inl e2,e3⟩
theorem DenP.tup {l:List D} {v:V} (s:Same S H) (h:DenP K S H (.tup l) v):∃ p xs,v = .ref p /\ SqT K H p xs /\ Dens K S l xs:=by
 rcases h with h | ⟨l',p,xs,e,e1,e2,e3⟩
 ·obtain ⟨p,xs,e,e1,e2⟩:=eS h
  exact ⟨p,xs,e,aC s e1,e2⟩
 ·cases e
theorem DenP.scr {l:List D}  (s:Same S H) (h:DenP K S H (.scr l) v):∃ p xs,v = .ref p /\ SqL K H p xs /\ Dens K S l xs:=by
 rcases h with h | ⟨l',p,xs,e,e1,e2,e3⟩
 ·obtain ⟨p,xs,e,e1,e2⟩:=den_scr.mp h
  exact ⟨p,xs,e,c7 s e1,e2⟩
 ·cases e
theorem DenP.mtp {l:List D}  (s:Same S H) (h:DenP K S H (.mtp l) v):∃ p xs,v = .ref p /\ SqT K H p xs /\ Dens K S l xs:=by
 rcases h with h | ⟨l',p,xs,e,e1,e2,e3⟩
 ·obtain ⟨p,xs,e,e1,e2⟩:=den_mtp.mp h
  exact ⟨p,xs,e,aC s e1,e2⟩
 ·cases e
theorem DenP.int {i:Int} {v:V} (h:DenP K S H (.int i) v):v = .int i:=by
 rcases h with h | ⟨l',p,xs,e,_⟩
 ·exact den_int.mp h
 ·cases e
theorem DenP.bl {i:Bool}  (h:DenP K S H (.bl i) v):v = .bl i:=by
 rcases h with h | ⟨l',p,xs,e,_⟩
 ·exact den_bl.mp h
 ·cases e
theorem DenP.str {i:Str}  (h:DenP K S H (.str i) v):v = .str i:=by
 rcases h with h | ⟨l',p,xs,e,_⟩
 ·exact den_str.mp h
 ·cases e
theorem DenP.non  (h:DenP K S H .non v):v = .non:=by
 rcases h with h | ⟨l',p,xs,e,_⟩
 ·exact den_non.mp h
 ·cases e
theorem DenP.ty {i:String}  (h:DenP K S H (.ty i) v):v = .ty i:=by
 rcases h with h | ⟨l',p,xs,e,_⟩
 ·exact den_ty.mp h
 ·cases e
def IT (o:HO):Prop:=∃ ks:List Int,o = .tup (ks.map V.int)
structure Ext (S H S' H':Hp):Prop where
 sh:Same S S'
 sub:Same S' H'
 alw:∀ b o,H b = some o -> S b = none -> H' b = some o /\ (S' b = none \/ IT o)
theorem Ext.al (z:Ext S H S' H') (b:Addr) (o:HO) (h:H b = some o) (n:S b = none) (hn:¬ IT o:=by exact fun ⟨_,z⟩=>nomatch z):H' b = some o /\ S' b = none:=
 ⟨(z.alw b o h n).1,(z.alw b o h n).2.resolve_right hn⟩
theorem Ext.refl (h:Same S H):Ext S H S H:=⟨Same.refl _,h,fun _ _ h n=>⟨h,.inl n⟩⟩
theorem Ext.trans {H1 H2:Hp} (a:Ext S H S1 H1) (b:Ext S1 H1 S2 H2):Ext S H S2 H2:=⟨a.sh.trans b.sh,b.sub,fun c o h n=>by
 obtain ⟨k1,k2⟩:=a.alw c o h n
 rcases k2 with k2 | k2
 ·exact b.alw c o k1 k2
 ·cases q:S1 c with
  | none=>exact ⟨(b.alw c o k1 q).1,.inr k2⟩
  | some u=>
   have:=a.sub c u q
   rw [k1] at this
   cases this
   exact ⟨b.sub c _ (b.sh c _ q),.inr k2⟩⟩
theorem Ext.same (a:Ext S H S' H') (s:Same S H):Same H H':=fun b o h=>by
 cases q:S b with
 | none=>exact (a.alw b o h q).1
 | some u=>
  have:=s b u q
  rw [h] at this
  cases this
  exact a.sub b o (a.sh b o q)
theorem Ext.new (s:Same S H)   (h:H p = none):Ext S H (upd S p o) (upd H p o) where
 sh:=fun b u e=>by rw [aw (aH e (s.free h))];exact e
 sub:=fun b u e=>by
  by_cases hb:b = p
  ·subst hb;rw [av] at e ⊢;exact e
  ·rw [aw hb] at e ⊢;exact s b u e
 alw:=fun b u e n=>by
  have hb:=aH e h
  rw [aw hb,aw hb]
  exact ⟨e,.inl n⟩
theorem Ext.own (s:Same S H)   (h:H p = none):Ext S H S (upd H p o) where
 sh:=Same.refl _
 sub:=fun b u e=>by rw [aw (aH (s b u e) h)];exact s b u e
 alw:=fun b u e n=>by
  have hb:=aH e h
  rw [aw hb]
  exact ⟨e,.inl n⟩
theorem DenP.mono   (e:Ext S H S' H') (s:Same S H) (h:DenP K S H d v):DenP K S' H' d v:=by
 rcases h with h | ⟨l,p,xs,h1,h2,h3,h4⟩
 ·exact .inl (h.mono e.sh)
 ·exact .inr ⟨l,p,xs,h1,h2,e.same s _ _ h3,h4.mono e.sh⟩
inductive DensP (K:W.Frag) (S H:Hp):List D -> List V -> Prop where
 | nil:DensP K S H [] []
 | cons {d ds v vs}:DenP K S H d v -> DensP K S H ds vs -> DensP K S H (d :: ds) (v :: vs)
inductive O where
 | sh (d:D) | lst (l:List O) | tup (l:List O) | dic (ks:List (List Int)) | hd (p:Addr) (ks:List (List Int)) (os:List O)
 deriving Inhabited
mutual
noncomputable def O.d:O -> D
 | .sh d=>d
 | .dic ks=>.dic ks
 | .hd _ ks os=>(O.ds os).headD (.dic ks)
 | .lst l=>.lst (O.ds l)
 | .tup l=>.tup (O.ds l)
noncomputable def O.ds:List O -> List D
 | []=>[]
 | o :: l=>o.d :: O.ds l
end
mutual
noncomputable def Own (K:W.Frag) (S H:Hp):O -> V -> List Addr -> Prop
 | .sh d,v,fp=>fp = [] /\ Den K S d v
 | .lst l,v,fp=>∃ a xs f,v = .ref a /\ fp = a :: f /\ H a = some (.lst xs) /\ Owns K S H l xs f
 | .tup l,v,fp=>∃ a xs f,v = .ref a /\ fp = a :: f /\ (H a = some (.tup xs) /\ ¬ IT (.tup xs)) /\ Owns K S H l xs f
 | .dic ks,v,fp=>∃ a,v = .ref a /\ fp = [a] /\ H a = some (.dT (cX ks))
 | .hd p ks os,v,fp=>∃ xs f,v = xs.headD (.ref p) /\ fp = p :: f /\ H p = some (.dT (cX ks)) /\ Owns K S H os xs f
noncomputable def Owns (K:W.Frag) (S H:Hp):List O -> List V -> List Addr -> Prop
 | [],xs,fp=>xs = [] /\ fp = []
 | o :: l,xs,fp=>∃ y ys f g,xs = y :: ys /\ fp = f ++ g /\ Own K S H o y f /\ Owns K S H l ys g
end
theorem den_dic {ks:List (List Int)}  : Den K S (.dic ks) v ↔ ∃ p,v = .ref p /\ Rd S p (.dT (cX ks)):=by unfold Den;exact Iff.rfl
theorem own_dic {ks:List (List Int)}  {fp:List Addr}:Own K S H (.dic ks) v fp ↔ ∃ a,v = .ref a /\ fp = [a] /\ H a = some (.dT (cX ks)):=by unfold Own;exact Iff.rfl
theorem den_dif {ks:List (List Int)}  : Den K S (.dif ks) v ↔ ∃ p o,v = .ref p /\ S p = some (.frz o (.dT (cX ks))):=by unfold Den;exact Iff.rfl
theorem own_hd {p:Addr} {ks:List (List Int)} {os:List O}  {fp:List Addr}:Own K S H (.hd p ks os) v fp ↔ ∃ xs f,v = xs.headD (.ref p) /\ fp = p :: f /\ H p = some (.dT (cX ks)) /\ Owns K S H os xs f:=by
 constructor
 ·intro h;unfold Own at h;exact h
 ·intro h;unfold Own;exact h
theorem own_sh {d:D}  {fp:List Addr}:Own K S H (.sh d) v fp ↔ fp = [] /\ Den K S d v:=by unfold Own;exact Iff.rfl
theorem own_lst {l:List O} {v:V} {fp:List Addr}:Own K S H (.lst l) v fp ↔ ∃ a xs f,v = .ref a /\ fp = a :: f /\ H a = some (.lst xs) /\ Owns K S H l xs f:=by
 constructor
 ·intro h;unfold Own at h;exact h
 ·intro h;unfold Own;exact h
theorem own_tup {l:List O} {v:V} {fp:List Addr}:Own K S H (.tup l) v fp ↔ ∃ a xs f,v = .ref a /\ fp = a :: f /\ (H a = some (.tup xs) /\ ¬ IT (.tup xs)) /\ Owns K S H l xs f:=by
 constructor
 ·intro h;unfold Own at h;exact h
 ·intro h;unfold Own;exact h
theorem Owns.nil:Owns K S H [] [] []:=by unfold Owns;exact ⟨rfl,rfl⟩
theorem Owns.cons    {ys:List V}  (h:Own K S H o y f) (k:Owns K S H l ys g):Owns K S H (o :: l) (y :: ys) (f ++ g):=by unfold Owns;exact ⟨y,ys,f,g,rfl,rfl,h,k⟩
theorem Owns.nil_of {xs:List V} {fp:List Addr} (h:Owns K S H [] xs fp):xs = [] /\ fp = []:=by unfold Owns at h;exact h
theorem Owns.cons_of {o:O} {l:List O} {xs:List V} {fp:List Addr} (h:Owns K S H (o :: l) xs fp):∃ y ys f g,xs = y :: ys /\ fp = f ++ g /\ Own K S H o y f /\ Owns K S H l ys g:=by unfold Owns at h;exact h
theorem Owns.length:∀ {l:List O} {xs:List V} {fp:List Addr},Owns K S H l xs fp -> l.length = xs.length
 | [],_,_,h=>by rw [h.nil_of.1];rfl
 | _ :: _,_,_,h=>by
  obtain ⟨y,ys,f,g,rfl,rfl,_,k⟩:=h.cons_of
  rw [List.length_cons,List.length_cons,k.length]
theorem Owns.append:∀ {l m:List O} {xs ys:List V} {f g:List Addr},Owns K S H l xs f -> Owns K S H m ys g -> Owns K S H (l ++ m) (xs ++ ys) (f ++ g)
 | [],_,_,_,_,_,h,k=>by rw [h.nil_of.1,h.nil_of.2];exact k
 | _ :: _,_,_,_,_,_,h,k=>by
  obtain ⟨y,ys,f,g,rfl,rfl,a,b⟩:=h.cons_of
  rw [List.append_assoc]
  exact .cons a (b.append k)
theorem pr:∀ {ds:List D} {xs:List V},Dens K S ds xs -> Owns K S H (ds.map .sh) xs []
 | [],_,h=>by rw [h.nil_of];exact .nil
 | _ :: _,_,h=>by
  obtain ⟨y,ys,rfl,a,b⟩:=h.cons_of
  exact .cons (f:=[]) (own_sh.mpr ⟨rfl,a⟩) (pr b)
theorem lv:∀ {ds:List D} {xs:List V} {fp:List Addr},Owns K S H (ds.map .sh) xs fp -> Dens K S ds xs /\ fp = []
 | [],_,_,h=>by rw [h.nil_of.1,h.nil_of.2];exact ⟨.nil,rfl⟩
 | _ :: _,_,_,h=>by
  obtain ⟨y,ys,f,g,rfl,rfl,a,b⟩:=h.cons_of
  obtain ⟨e,a⟩:=own_sh.mp a
  obtain ⟨b,e2⟩:=lv b
  exact ⟨.cons a b,by rw [e,e2];rfl⟩
mutual
theorem Own.mono (s:Same S S'):∀ {o:O} {v:V} {fp:List Addr},(∀ b ∈ fp,H' b = H b) -> Own K S H o v fp -> Own K S' H' o v fp
 | .dic _,_,_,k,h=>by
  obtain ⟨a,e,rfl,h1⟩:=own_dic.mp h
  exact own_dic.mpr ⟨a,e,rfl,by rw [k a List.mem_cons_self];exact h1⟩
 | .hd _ _ _,_,_,k,h=>by
  obtain ⟨xs,f,e,rfl,h1,h2⟩:=own_hd.mp h
  exact own_hd.mpr ⟨xs,f,e,rfl,by rw [k _ List.mem_cons_self];exact h1,Owns.mono s (fun b hb=>k b (List.mem_cons_of_mem _ hb)) h2⟩
 | .sh _,_,_,k,h=>by
  obtain ⟨e,d⟩:=own_sh.mp h
  exact own_sh.mpr ⟨e,d.mono s⟩
 | .lst _,_,_,k,h=>by
  obtain ⟨a,xs,f,e,rfl,h1,h2⟩:=own_lst.mp h
  exact own_lst.mpr ⟨a,xs,f,e,rfl,by rw [k a List.mem_cons_self];exact h1,Owns.mono s (fun b hb=>k b (List.mem_cons_of_mem _ hb)) h2⟩
 | .tup _,_,_,k,h=>by
  obtain ⟨a,xs,f,e,rfl,h1,h2⟩:=own_tup.mp h
  exact own_tup.mpr ⟨a,xs,f,e,rfl,by rw [k a List.mem_cons_self];exact h1,Owns.mono s (fun b hb=>k b (List.mem_cons_of_mem _ hb)) h2⟩
theorem Owns.mono (s:Same S S'):∀ {l:List O} {xs:List V} {fp:List Addr},(∀ b ∈ fp,H' b = H b) -> Owns K S H l xs fp -> Owns K S' H' l xs fp
 | [],_,_,k,h=>by rw [h.nil_of.1,h.nil_of.2];exact .nil
 | _ :: _,_,_,k,h=>by
  obtain ⟨y,ys,f,g,rfl,rfl,a,b⟩:=h.cons_of
  exact .cons (Own.mono s (fun b hb=>k b (List.mem_append_left _ hb)) a) (Owns.mono s (fun b hb=>k b (List.mem_append_right _ hb)) b)
end
mutual
theorem Own.there:∀ {o:O} {v:V} {fp:List Addr},Own K S H o v fp -> ∀ b ∈ fp,H b ≠ none
 | .dic _,_,_,h=>by
  obtain ⟨a,e,rfl,h1⟩:=own_dic.mp h
  intro b hb
  rw [List.mem_singleton] at hb
  subst hb
  rw [h1];exact fun z=>by cases z
 | .hd _ _ _,_,_,h=>by
  obtain ⟨xs,f,e,rfl,h1,h2⟩:=own_hd.mp h
  intro b hb
  rcases List.mem_cons.mp hb with rfl | hb
  ·rw [h1];exact fun z=>by cases z
  ·exact Owns.there h2 b hb
 | .sh _,_,_,h=>by
  obtain ⟨e,d⟩:=own_sh.mp h
  rw [e];intro b hb;cases hb
 | .lst _,_,_,h=>by
  obtain ⟨a,xs,f,e,rfl,h1,h2⟩:=own_lst.mp h
  intro b hb
  rcases List.mem_cons.mp hb with rfl | hb
  ·rw [h1];exact fun z=>by cases z
  ·exact Owns.there h2 b hb
 | .tup _,_,_,h=>by
  obtain ⟨a,xs,f,e,rfl,⟨h1,_⟩,h2⟩:=own_tup.mp h
  intro b hb
  rcases List.mem_cons.mp hb with rfl | hb
  ·rw [h1];exact fun z=>by cases z
  ·exact Owns.there h2 b hb
theorem Owns.there:∀ {l:List O} {xs:List V} {fp:List Addr},Owns K S H l xs fp -> ∀ b ∈ fp,H b ≠ none
 | [],_,_,h=>by rw [h.nil_of.2];intro b hb;cases hb
 | _ :: _,_,_,h=>by
  obtain ⟨y,ys,f,g,rfl,rfl,a,b⟩:=h.cons_of
  intro c hc
  rcases List.mem_append.mp hc with hc | hc
  ·exact Own.there a c hc
  ·exact Owns.there b c hc
end
mutual
theorem Own.nit:∀ {o:O} {v:V} {fp:List Addr},Own K S H o v fp -> ∀ b ∈ fp,∀ u,H b = some u -> ¬ IT u
 | .dic _,_,_,h=>by
  obtain ⟨a,e,rfl,h1⟩:=own_dic.mp h
  intro b hb u hu
  rw [List.mem_singleton.mp hb,h1] at hu
  cases hu
  exact fun ⟨_,z⟩=>nomatch z
 | .hd _ _ _,_,_,h=>by
  obtain ⟨xs,f,e,rfl,h1,h2⟩:=own_hd.mp h
  intro b hb u hu
  rcases List.mem_cons.mp hb with rfl | hb
  ·rw [h1] at hu
   cases hu
   exact fun ⟨_,z⟩=>nomatch z
  ·exact Owns.nit h2 b hb u hu
 | .sh _,_,_,h=>by
  obtain ⟨e,d⟩:=own_sh.mp h
  rw [e];intro b hb;cases hb
 | .lst _,_,_,h=>by
  obtain ⟨a,xs,f,e,rfl,h1,h2⟩:=own_lst.mp h
  intro b hb u hu
  rcases List.mem_cons.mp hb with rfl | hb
  ·rw [h1] at hu
   cases hu
   exact fun ⟨_,z⟩=>nomatch z
  ·exact Owns.nit h2 b hb u hu
 | .tup _,_,_,h=>by
  obtain ⟨a,xs,f,e,rfl,⟨h1,hn⟩,h2⟩:=own_tup.mp h
  intro b hb u hu
  rcases List.mem_cons.mp hb with rfl | hb
  ·rw [h1] at hu
   cases hu
   exact hn
  ·exact Owns.nit h2 b hb u hu
theorem Owns.nit:∀ {l:List O} {xs:List V} {fp:List Addr},Owns K S H l xs fp -> ∀ b ∈ fp,∀ u,H b = some u -> ¬ IT u
 | [],_,_,h=>by rw [h.nil_of.2];intro b hb;cases hb
 | _ :: _,_,_,h=>by
  obtain ⟨y,ys,f,g,rfl,rfl,a,b⟩:=h.cons_of
  intro c hc u hu
  rcases List.mem_append.mp hc with hc | hc
  ·exact Own.nit a c hc u hu
  ·exact Owns.nit b c hc u hu
end
mutual
theorem Own.den  (s:Same S S2):∀ {o:O} {v:V} {fp:List Addr},(∀ b ∈ fp,S2 b = H b) -> Own K S H o v fp -> Den K S2 o.d v
 | .dic _,_,_,k,h=>by
  obtain ⟨a,e,rfl,h1⟩:=own_dic.mp h
  rw [O.d]
  exact den_dic.mpr ⟨a,e,.inl (by rw [k a List.mem_cons_self];exact h1)⟩
 | .hd p ks os,_,_,k,h=>by
  obtain ⟨xs,f,e,rfl,h1,h2⟩:=own_hd.mp h
  have ds:=Owns.den s (fun b hb=>k b (List.mem_cons_of_mem _ hb)) h2
  rw [O.d,e]
  cases q:O.ds os with
  | nil=>
   rw [q] at ds
   rw [ds.nil_of]
   exact den_dic.mpr ⟨p,rfl,.inl (by rw [k p List.mem_cons_self];exact h1)⟩
  | cons d l=>
   rw [q] at ds
   obtain ⟨y,ys,rfl,a,_⟩:=ds.cons_of
   exact a
 | .sh _,_,_,k,h=>by
  obtain ⟨e,d⟩:=own_sh.mp h
  exact d.mono s
 | .lst l,_,_,k,h=>by
  obtain ⟨a,xs,f,e,rfl,h1,h2⟩:=own_lst.mp h
  rw [O.d]
  exact den_lst.mpr ⟨a,xs,e,.inl (by rw [k a List.mem_cons_self];exact h1),Owns.den s (fun b hb=>k b (List.mem_cons_of_mem _ hb)) h2⟩
 | .tup l,_,_,k,h=>by
  obtain ⟨a,xs,f,e,rfl,h1,h2⟩:=own_tup.mp h
  rw [O.d]
  exact den_tup.mpr ⟨a,xs,e,TpA.of (by rw [k a List.mem_cons_self];exact h1.1),Owns.den s (fun b hb=>k b (List.mem_cons_of_mem _ hb)) h2⟩
theorem Owns.den  (s:Same S S2):∀ {l:List O} {xs:List V} {fp:List Addr},(∀ b ∈ fp,S2 b = H b) -> Owns K S H l xs fp -> Dens K S2 (O.ds l) xs
 | [],_,_,k,h=>by rw [h.nil_of.1,O.ds];exact .nil
 | _ :: _,_,_,k,h=>by
  obtain ⟨y,ys,f,g,rfl,rfl,a,b⟩:=h.cons_of
  rw [O.ds]
  exact .cons (Own.den s (fun b hb=>k b (List.mem_append_left _ hb)) a) (Owns.den s (fun b hb=>k b (List.mem_append_right _ hb)) b)
end
theorem Own.denH   {fp:List Addr} (s:Same S H) (h:Own K S H o v fp):Den K H o.d v:=h.den s fun _ _=>rfl
theorem Ext.keeps {fp:List Addr} (e:Ext S H S' H') (h:∀ b ∈ fp,S b = none) (t:∀ b ∈ fp,H b ≠ none) (ni:∀ b ∈ fp,∀ u,H b = some u -> ¬ IT u):(∀ b ∈ fp,H' b = H b) /\ ∀ b ∈ fp,S' b = none:=by
 have key:∀ b ∈ fp,H' b = H b /\ S' b = none:=fun b hb=>by
  cases q:H b with
  | none=>exact absurd q (t b hb)
  | some o=>exact e.al b o q (h b hb) (ni b hb o q)
 exact ⟨fun b hb=>(key b hb).1,fun b hb=>(key b hb).2⟩
inductive Sl where
 | un | lo | sh (d:D) | ow (o:O)
 deriving Inhabited
noncomputable abbrev Env:=List Sl
structure RlF (K:W.Frag) (A:Hp) (Λ:Nat -> Option Addr) (Φ:Nat -> List Addr) (ρ:Env) (σ:St) (S H:Hp):Prop where
 len:σ.length = ρ.length
 sub:Same S H
 sh:∀ (i:Nat) d,ρ[i]? = some (.sh d) -> ∃ v,σ[i]? = some (some v) /\ Den K S d v
 ow:∀ (i:Nat) o,ρ[i]? = some (.ow o) -> ∃ v,σ[i]? = some (some v) /\ Own K S H o v (Φ i) /\ (Φ i).Nodup /\ ∀ b ∈ Φ i,S b = none /\ A b = none
 dj:∀ (i j:Nat) o o',i ≠ j -> ρ[i]? = some (.ow o) -> ρ[j]? = some (.ow o') -> ∀ b ∈ Φ i,b ∉ Φ j
 lo:∀ (i:Nat),ρ[i]? = some .lo -> ∃ a,Λ i = some a /\ σ[i]? = some (some (.ref a))
 asub:Same A H
 adis:∀ b,S b = none \/ A b = none \/ ∃ u,A b = some u /\ IT u
def RlA (K:W.Frag) (A:Hp) (Λ:Nat -> Option Addr) (ρ:Env) (σ:St) (S H:Hp):Prop:=∃ Φ,RlF K A Λ Φ ρ σ S H
def Rl (K:W.Frag) (ρ:Env) (σ:St) (S H:Hp):Prop:=∃ A Λ Φ,RlF K A Λ Φ ρ σ S H
theorem RlF.ext      (r:RlF K A Λ Φ ρ σ S H) (e:Ext S H S' H'):RlF K A Λ Φ ρ σ S' H' where
 len:=r.len
 sub:=e.sub
 sh:=fun i d h=>by
  obtain ⟨v,h1,h2⟩:=r.sh i d h
  exact ⟨v,h1,h2.mono e.sh⟩
 ow:=fun i o h=>by
  obtain ⟨v,h1,h2,h3,h4⟩:=r.ow i o h
  obtain ⟨k1,k2⟩:=e.keeps (fun b hb=>(h4 b hb).1) h2.there h2.nit
  exact ⟨v,h1,h2.mono e.sh k1,h3,fun b hb=>⟨k2 b hb,(h4 b hb).2⟩⟩
 dj:=r.dj
 lo:=r.lo
 asub:=fun b o h=>e.same r.sub b o (r.asub b o h)
 adis:=fun b=>by
  rcases r.adis b with h | h
  ·cases q:A b with
   | none=>exact .inr (.inl rfl)
   | some o=>
    rcases (e.alw b o (r.asub b o q) h).2 with k | k
    ·exact .inl k
    ·exact .inr (.inr ⟨o,rfl,k⟩)
  ·exact .inr h
theorem RlA.ext     (r:RlA K A Λ ρ σ S H) (e:Ext S H S' H'):RlA K A Λ ρ σ S' H':=let ⟨Φ,f⟩:=r;⟨Φ,f.ext e⟩
theorem RlA.toRl     (r:RlA K A Λ ρ σ S H):Rl K ρ σ S H:=let ⟨Φ,f⟩:=r;⟨A,Λ,Φ,f⟩
theorem RlA.sub     (r:RlA K A Λ ρ σ S H):Same S H:=let ⟨_,f⟩:=r;f.sub
theorem RlA.asub     (r:RlA K A Λ ρ σ S H):Same A H:=let ⟨_,f⟩:=r;f.asub
theorem RlA.adis     (r:RlA K A Λ ρ σ S H):∀ b,S b = none \/ A b = none \/ ∃ u,A b = some u /\ IT u:=let ⟨_,f⟩:=r;f.adis
theorem RlA.sh {A:Hp} {Λ:Nat -> Option Addr} {ρ:Env} {σ:St} (r:RlA K A Λ ρ σ S H):∀ (i:Nat) d,ρ[i]? = some (.sh d) -> ∃ v,σ[i]? = some (some v) /\ Den K S d v:=let ⟨_,f⟩:=r;f.sh
theorem Rl.ext   (r:Rl K ρ σ S H) (e:Ext S H S' H'):Rl K ρ σ S' H':=let ⟨A,Λ,Φ,f⟩:=r;⟨A,Λ,Φ,f.ext e⟩
theorem Rl.sub   (r:Rl K ρ σ S H):Same S H:=let ⟨_,_,_,f⟩:=r;f.sub
theorem Rl.sh {ρ:Env} {σ:St} (r:Rl K ρ σ S H):∀ (i:Nat) d,ρ[i]? = some (.sh d) -> ∃ v,σ[i]? = some (some v) /\ Den K S d v:=let ⟨_,_,_,f⟩:=r;f.sh
theorem Rl.ow   (r:Rl K ρ σ S H):∀ (i:Nat) o,ρ[i]? = some (.ow o) -> ∃ v fp,σ[i]? = some (some v) /\ Own K S H o v fp /\ fp.Nodup /\ ∀ b ∈ fp,S b = none:=fun i o h=>by
 obtain ⟨A,Λ,Φ,f⟩:=r
 obtain ⟨v,h1,h2,h3,h4⟩:=f.ow i o h
 exact ⟨v,_,h1,h2,h3,fun b hb=>(h4 b hb).1⟩
noncomputable abbrev XE:=Env -> Option D
noncomputable abbrev XT:=Env -> Option Bool
noncomputable abbrev XA:=Env -> Option (List D)
def SE (K:W.Frag) (t:TE) (e:XE):Prop:=∀ ρ σ S H (Q:VK) d,Rl K ρ σ S H -> e ρ = some d -> (∀ v S' H',Ext S H S' H' -> Den K S' d v -> Q v H') -> t σ H Q
def SPk (K:W.Frag) (t:TE) (e:XE):Prop:=∀ ρ σ S H (Q:VK) d,Rl K ρ σ S H -> e ρ = some d -> (∀ v S' H',Ext S H S' H' -> DenP K S' H' d v -> Q v H') -> t σ H Q
def SF (K:W.Frag) (t:TE) (e:XA):Prop:=∀ ρ σ S H (Q:VK) l,Rl K ρ σ S H -> e ρ = some l -> (∀ a xs S' H',Ext S H S' H' -> H a = none -> S' a = none -> H' a = some (.lst xs) -> Dens K S' l xs -> Q (.ref a) H') -> t σ H Q
def ST (K:W.Frag) (t:TT) (c:XT):Prop:=∀ ρ σ S H (Q:Bool -> Hp -> Prop) b,Rl K ρ σ S H -> c ρ = some b -> (∀ S' H',Ext S H S' H' -> Q b H') -> t σ H Q
def SA (K:W.Frag) (t:TA) (e:XA):Prop:=∀ ρ σ S H (Q:List V -> Hp -> Prop) ds,Rl K ρ σ S H -> e ρ = some ds -> (∀ vs S' H',Ext S H S' H' -> Dens K S' ds vs -> Q vs H') -> t σ H Q
def SAP (K:W.Frag) (t:TA) (e:XA):Prop:=∀ ρ σ S H (Q:List V -> Hp -> Prop) ds,Rl K ρ σ S H -> e ρ = some ds -> (∀ vs S' H',Ext S H S' H' -> DensP K S' H' ds vs -> Q vs H') -> t σ H Q
theorem SE.p {t:TE} {e:XE} (h:SE K t e):SPk K t e:=fun ρ σ S H Q d r x k=>h ρ σ S H Q d r x fun v S' H' z dv=>k v S' H' z (.inl dv)
@[simp] noncomputable def xL (e:XA):XE:=fun ρ=>(e ρ).map D.lst
theorem SF.e {t:TE} {e:XA} (h:SF K t e):SE K t (xL e):=fun ρ σ S H Q d r x k=>by
 unfold xL at x
 cases q:e ρ with
 | none=>rw [q] at x;cases x
 | some l=>
  rw [q] at x
  cases x
  refine h ρ σ S H Q l r q fun a xs S' H' z h1 h2 h3 h4=>?_
  have s2:Same S' (upd S' a (.lst xs)):=fun b u e=>by rw [aw (aH e h2)];exact e
  refine k _ (upd S' a (.lst xs)) H' ⟨z.sh.trans s2,fun b u e=>?_,fun b o e n=>?_⟩ (den_lst.mpr ⟨a,xs,rfl,.inl av,h4.mono s2⟩)
  ·by_cases hb:b = a
   ·subst hb;rw [av] at e;cases e;exact h3
   ·rw [aw hb] at e;exact z.sub b u e
  ·obtain ⟨y1,y2⟩:=z.alw b o e n
   exact ⟨y1,by rw [aw (aH e h1)];exact y2⟩
@[simp] noncomputable def ak (i:Nat):XE:=fun ρ=>match ρ[i]? with | some (.sh d)=>some d | _=>none
noncomputable def shs:List O -> Option (List D)
 | []=>some []
 | .sh d :: l=>(shs l).map fun r=>d :: r
 | _=>none
theorem pB:∀ l:List D,shs (l.map .sh) = some l
 | []=>rfl
 | d :: l=>by rw [List.map_cons,shs,pB l];rfl
theorem zw:∀ {os:List O} {l:List D},shs os = some l -> os = l.map .sh
 | [],l,h=>by cases h;rfl
 | o :: os,l,h=>by
  cases o with
  | sh d=>
   have h':(shs os).map (fun r=>d :: r) = some l:=h
   cases q:shs os with
   | none=>rw [q] at h';cases h'
   | some m=>rw [q] at h';cases h';rw [zw q];rfl
  | lst _ | tup _ | dic _ | hd _ _ _=>cases h
noncomputable def EW:Sl -> Option D
 | .sh d=>some d
 | .ow (.sh d)=>some d
 | .ow (.lst os)=>(shs os).map D.lst
 | _=>none
@[simp] theorem MU (d:D):EW (.ow (.sh d)) = some d:=rfl
@[simp] theorem MW (d:D):EW (.sh d) = some d:=rfl
@[simp] theorem MV (l:List D):EW (.ow (.lst (l.map .sh))) = some (.lst l):=by show (shs _).map D.lst = _;rw [pB];rfl
@[simp] noncomputable def ah (i:Nat):XE:=fun ρ=>(ρ[i]?).bind EW
theorem Fy (i:Nat):SE K (lV i) (ak i):=fun ρ σ S H Q d r x k=>by
 unfold ak at x
 split at x
 ·rename_i d' e
  cases x
  obtain ⟨v,h1,h2⟩:=r.sh i _ e
  exact ⟨v,h1,k v S H (Ext.refl r.sub) h2⟩
 ·cases x
theorem lN (i:Nat):SPk K (lV i) (ah i):=fun ρ σ S H Q d r x k=>by
 unfold ah at x
 cases q:ρ[i]? with
 | none=>rw [q] at x;cases x
 | some s=>
  rw [q] at x
  cases s with
  | un | lo=>cases x
  | sh d'=>
   cases x
   obtain ⟨v,h1,h2⟩:=r.sh i _ q
   exact ⟨v,h1,k v S H (Ext.refl r.sub) (.inl h2)⟩
  | ow o=>
   cases o with
   | sh d'=>
    cases x
    obtain ⟨v,fp,h1,h2,h3,h4⟩:=r.ow i _ q
    exact ⟨v,h1,k v S H (Ext.refl r.sub) (.inl (own_sh.mp h2).2)⟩
   | tup l | dic _ | hd _ _ _=>cases x
   | lst os=>
    have x':(shs os).map D.lst = some d:=x
    cases qs:shs os with
    | none=>rw [qs] at x';cases x'
    | some l=>
     rw [qs] at x'
     cases x'
     have e:=zw qs
     subst e
     obtain ⟨v,fp,h1,h2,h3,h4⟩:=r.ow i _ q
     obtain ⟨a,xs,f,rfl,rfl,h5,h6⟩:=own_lst.mp h2
     exact ⟨_,h1,k _ S H (Ext.refl r.sub) (.inr ⟨l,a,xs,rfl,rfl,h5,(lv h6).1⟩)⟩
def SQ (K:W.Frag) (t:TE) (e:XE):Prop:=∀ ρ σ S H (Q:VK) d,Rl K ρ σ S H -> e ρ = some d -> (∀ v S' H',Ext S H S' H' -> Den K H' d v -> Q v H') -> t σ H Q
theorem pW   (s:Same S H) (h:DenP K S H d v):Den K H d v:=by
 rcases h with h | ⟨l,p,xs,rfl,rfl,h1,h2⟩
 ·exact h.mono s
 ·exact den_lst.mpr ⟨p,xs,rfl,.inl h1,h2.mono s⟩
theorem SPk.q {t:TE} {e:XE} (h:SPk K t e):SQ K t e:=fun ρ σ S H Q d r x k=>h ρ σ S H Q d r x fun v S' H' z dv=>k v S' H' z (pW z.sub dv)
noncomputable def EX:Sl -> Option D
 | .sh d=>some d
 | .ow o=>some o.d
 | _=>none
@[simp] theorem LQ (d:D):EX (.sh d) = some d:=rfl
@[simp] theorem LP (o:O):EX (.ow o) = some o.d:=rfl
@[simp] noncomputable def Bh (i:Nat):XE:=fun ρ=>(ρ[i]?).bind EX
theorem KA (i:Nat):SQ K (lV i) (Bh i):=fun ρ σ S H Q d r x k=>by
 unfold Bh at x
 cases q:ρ[i]? with
 | none=>rw [q] at x;cases x
 | some s=>
  rw [q] at x
  cases s with
  | un | lo=>cases x
  | sh d'=>
   cases x
   obtain ⟨v,h1,h2⟩:=r.sh i _ q
   exact ⟨v,h1,k v S H (Ext.refl r.sub) (h2.mono r.sub)⟩
  | ow o=>
   cases x
   obtain ⟨v,fp,h1,h2,h3,h4⟩:=r.ow i _ q
   exact ⟨_,h1,k _ S H (Ext.refl r.sub) (h2.denH r.sub)⟩
@[simp] noncomputable def xC (d:D):XE:=fun _=>some d
noncomputable def nj:D -> Option V
 | .non=>some .non | .bl b=>some (.bl b) | .int i=>some (.int i) | .str x=>some (.str x) | .ty x=>some (.ty x) | _=>none
theorem mj  {v:V} (h:nj d = some v):Den K S d v:=by
 cases d <;> simp [nj] at h <;> subst h <;> unfold Den <;> rfl
theorem s_c {v:V}  (h:nj d = some v):SE K (tC v) (xC d):=fun ρ σ S H Q e r x k=>by
 cases x
 exact k v S H (Ext.refl r.sub) (mj h)
@[simp] noncomputable def xFl (e:XE):XE:=fun ρ=>(e ρ).bind fun d=>if (nj d).isSome then some d else none
theorem Gy  {w:V} (h:nj d = some w) (k:Den K S d v):v = w:=by
 cases d <;> simp [nj] at h <;> subst h <;> unfold Den at k <;> exact k
theorem SQ.fl   (h:SQ K t e):SE K t (xFl e):=fun ρ σ S H Q d r x k=>by
 unfold xFl at x
 cases q:e ρ with
 | none=>rw [q] at x;cases x
 | some d'=>
  rw [q] at x
  dsimp only [Option.bind] at x
  split at x
  ·rename_i hf
   cases x
   obtain ⟨w,hw⟩:=Option.isSome_iff_exists.mp hf
   refine h ρ σ S H Q d r q fun v S' H' z dv=>k v S' H' z ?_
   rw [Gy hw dv]
   exact mj hw
  ·cases x
@[simp] noncomputable def xOp (f:D -> D -> Option D) (a b:XE):XE:=fun ρ=>(a ρ).bind fun x=>(b ρ).bind fun y=>f x y
def SR2 (K:W.Frag) (r:R2) (f:D -> D -> Option D):Prop:=∀ S H x y d e g (Q:VK),Same S H -> DenP K S H d x -> DenP K S H e y -> f d e = some g -> (∀ v S' H',Ext S H S' H' -> Den K S' g v -> Q v H') -> r x y H Q
theorem Mx   {ta tb:TE}  (hr:SR2 K r f) (ha:SPk K ta a) (hb:SPk K tb b):SE K (tOp r ta tb) (xOp f a b):=fun ρ σ S H Q d r x k=>by
 unfold xOp at x
 cases qa:a ρ with
 | none=>rw [qa] at x;cases x
 | some da=>
  rw [qa] at x
  dsimp only [Option.bind] at x
  cases qb:b ρ with
  | none=>rw [qb] at x;cases x
  | some db=>
   rw [qb] at x
   refine ha ρ σ S H _ da r qa fun v S1 H1 z1 d1=>?_
   have r1:=r.ext z1
   refine hb ρ σ S1 H1 _ db r1 qb fun w S2 H2 z2 d2=>?_
   exact hr S2 H2 v w da db d Q z2.sub (d1.mono z2 r1.sub) d2 x fun u S3 H3 z3 d3=>k u S3 H3 ((z1.trans z2).trans z3) d3
theorem Gr {S2:Hp} (s:Same S H) (z:Ext H H S3 H3):Ext S H S H3:=⟨Same.refl _,fun b u e=>z.sub b u (z.sh b u (s b u e)),fun b o h n=>⟨z.sub b o (z.sh b o h),.inl n⟩⟩
theorem My   {ta tb:TE}  (hr:SR2 K r f) (ha:SQ K ta a) (hb:SQ K tb b):SQ K (tOp r ta tb) (xOp f a b):=fun ρ σ S H Q d r x k=>by
 unfold xOp at x
 cases qa:a ρ with
 | none=>rw [qa] at x;cases x
 | some da=>
  rw [qa] at x
  dsimp only [Option.bind] at x
  cases qb:b ρ with
  | none=>rw [qb] at x;cases x
  | some db=>
   rw [qb] at x
   refine ha ρ σ S H _ da r qa fun v S1 H1 z1 d1=>?_
   have r1:=r.ext z1
   refine hb ρ σ S1 H1 _ db r1 qb fun w S2 H2 z2 d2=>?_
   exact hr H2 H2 v w da db d Q (Same.refl _) (.inl (d1.mono (z2.same r1.sub))) (.inl d2) x fun u S3 H3 z3 d3=>k u S2 H3 ((z1.trans z2).trans (Gr (S2:=S2) z2.sub z3)) (d3.mono z3.sub)
@[simp] noncomputable def xUn (f:D -> Option D) (a:XE):XE:=fun ρ=>(a ρ).bind f
def SR1 (K:W.Frag) (r:V -> Hp -> VK -> Prop) (f:D -> Option D):Prop:=∀ S H x d g (Q:VK),Same S H -> DenP K S H d x -> f d = some g -> (∀ v S' H',Ext S H S' H' -> Den K S' g v -> Q v H') -> r x H Q
theorem Ky   {ta:TE}  (hr:SR1 K r f) (ha:SPk K ta a):SE K (tUn r ta) (xUn f a):=fun ρ σ S H Q d r x k=>by
 unfold xUn at x
 cases qa:a ρ with
 | none=>rw [qa] at x;cases x
 | some da=>
  rw [qa] at x
  refine ha ρ σ S H _ da r qa fun v S1 H1 z1 d1=>?_
  exact hr S1 H1 v da d Q z1.sub d1 x fun u S3 H3 z3 d3=>k u S3 H3 (z1.trans z3) d3
@[simp] noncomputable def aj:XA:=fun _=>some []
@[simp] noncomputable def ab (a:XE) (b:XA):XA:=fun ρ=>(a ρ).bind fun x=>(b ρ).bind fun y=>some (x :: y)
theorem vz:SA K rV aj:=fun ρ σ S H Q ds r x k=>by cases x;exact k [] S H (Ext.refl r.sub) .nil
theorem FI:SAP K rV aj:=fun ρ σ S H Q ds r x k=>by cases x;exact k [] S H (Ext.refl r.sub) .nil
theorem mX    {ds:List D} (x:ab a b ρ = some ds):∃ d r,a ρ = some d /\ b ρ = some r /\ ds = d :: r:=by
 unfold ab at x
 cases qa:a ρ with
 | none=>rw [qa] at x;cases x
 | some da=>
  rw [qa] at x
  dsimp only [Option.bind] at x
  cases qb:b ρ with
  | none=>rw [qb] at x;cases x
  | some db=>rw [qb] at x;cases x;exact ⟨_,_,rfl,rfl,rfl⟩
theorem iY {ta:TE}    (ha:SE K ta a) (hb:SA K tr b):SA K (ig ta tr) (ab a b):=fun ρ σ S H Q ds r x k=>by
 obtain ⟨da,db,qa,qb,rfl⟩:=mX x
 refine ha ρ σ S H _ da r qa fun v S1 H1 z1 d1=>hb ρ σ S1 H1 _ db (r.ext z1) qb fun vs S2 H2 z2 d2=>k _ S2 H2 (z1.trans z2) (.cons (d1.mono z2.sh) d2)
theorem mP {ta:TE}    (ha:SPk K ta a) (hb:SAP K tr b):SAP K (ig ta tr) (ab a b):=fun ρ σ S H Q ds r x k=>by
 obtain ⟨da,db,qa,qb,rfl⟩:=mX x
 refine ha ρ σ S H _ da r qa fun v S1 H1 z1 d1=>hb ρ σ S1 H1 _ db (r.ext z1) qb fun vs S2 H2 z2 d2=>k _ S2 H2 (z1.trans z2) (.cons (d1.mono z2 (r.ext z1).sub) d2)
@[irreducible] noncomputable def LIM:Nat:=1000000
theorem fK:LIM < sizeLine:=by rw [sizeLine_eq];unfold LIM;decide
@[simp] noncomputable def aQ (a:XA):XE:=fun ρ=>(a ρ).bind fun l=>if l.length <= LIM then some (.tup l) else none
theorem A2   (h:SA K t a):SE K (HK t) (aQ a):=fun ρ σ S H Q d r x k=>by
 unfold aQ at x
 cases q:a ρ with
 | none=>rw [q] at x;cases x
 | some l=>
  rw [q] at x
  dsimp only [Option.bind] at x
  split at x
  ·rename_i hl
   cases x
   refine h ρ σ S H _ l r q fun vs S1 H1 z1 d1=>⟨?_,fun p hp=>?_⟩
   ·rw [<- d1.length];exact Nat.le_of_lt (Nat.lt_of_le_of_lt hl fK)
   ·have z2:=Ext.new (o:=.tup vs) z1.sub hp
    exact k _ _ _ (z1.trans z2) (den_tup.mpr ⟨p,vs,rfl,TpA.of av,d1.mono z2.sh⟩)
  ·cases x
@[simp] noncomputable def im (a:XA):XA:=fun ρ=>(a ρ).bind fun l=>if l.length <= LIM then some l else none
theorem Mv   (h:SA K t a):SF K (HH t) (im a):=fun ρ σ S H Q l r x k=>by
 unfold im at x
 cases q:a ρ with
 | none=>rw [q] at x;cases x
 | some l=>
  rw [q] at x
  dsimp only [Option.bind] at x
  split at x
  ·rename_i hl
   cases x
   refine h ρ σ S H _ l r q fun vs S1 H1 z1 d1=>⟨?_,fun p hp=>?_⟩
   ·rw [<- d1.length];exact Nat.le_of_lt (Nat.lt_of_le_of_lt hl fK)
   ·have hp0:H p = none:=(z1.same r.sub).free hp
    exact k p vs S1 _ (z1.trans (Ext.own z1.sub hp)) hp0 (z1.sub.free hp) av d1
  ·cases x
@[simp] noncomputable def xCB (f:List D -> Option D) (a:XA):XE:=fun ρ=>(a ρ).bind f
def SRB (K:W.Frag) (r:List V -> Hp -> VK -> Prop) (f:List D -> Option D):Prop:=∀ S H vs ds g (Q:VK),Same S H -> DensP K S H ds vs -> f ds = some g -> (∀ v S' H',Ext S H S' H' -> Den K S' g v -> Q v H') -> r vs H Q
theorem Mo     (hr:SRB K r f) (h:SAP K t a):SE K (tCB r t) (xCB f a):=fun ρ σ S H Q d rl x k=>by
 unfold xCB at x
 cases q:a ρ with
 | none=>rw [q] at x;cases x
 | some ds=>
  rw [q] at x
  refine h ρ σ S H _ ds rl q fun vs S1 H1 z1 d1=>?_
  exact hr S1 H1 vs ds d Q z1.sub d1 x fun v S2 H2 z2 d2=>k v S2 H2 (z1.trans z2) d2
@[simp] noncomputable def F4 (f:List D -> Option (List D)) (a:XA):XA:=fun ρ=>(a ρ).bind f
def SRF (K:W.Frag) (r:List V -> Hp -> VK -> Prop) (f:List D -> Option (List D)):Prop:=∀ S H vs ds g (Q:VK),Same S H -> DensP K S H ds vs -> f ds = some g -> (∀ a xs H',Ext S H S H' -> H a = none -> H' a = some (.lst xs) -> Dens K S g xs -> Q (.ref a) H') -> r vs H Q
theorem Mp     (hr:SRF K r f) (h:SAP K t a):SF K (tCB r t) (F4 f a):=fun ρ σ S H Q d rl x k=>by
 unfold F4 at x
 cases q:a ρ with
 | none=>rw [q] at x;cases x
 | some ds=>
  rw [q] at x
  refine h ρ σ S H _ ds rl q fun vs S1 H1 z1 d1=>?_
  exact hr S1 H1 vs ds d Q z1.sub d1 x fun b xs H2 z2 h1 h2 d2=>k b xs S1 H2 (z1.trans z2) ((z1.same rl.sub).free h1) (z1.sub.free h1) h2 d2
def STr (K:W.Frag) (t:TE) (e:Env -> Option O):Prop:=∀ ρ σ S H (Q:VK) o,Rl K ρ σ S H -> e ρ = some o -> (∀ v fp S' H',Ext S H S' H' -> Own K S' H' o v fp -> fp.Nodup -> (∀ b ∈ fp,H b = none /\ S' b = none) -> Q v H') -> t σ H Q
@[simp] noncomputable def xLT (e:XA):Env -> Option O:=fun ρ=>(e ρ).map fun l=>.lst (l.map .sh)
theorem SF.t {t:TE} {e:XA} (h:SF K t e):STr K t (xLT e):=fun ρ σ S H Q o r x k=>by
 unfold xLT at x
 cases q:e ρ with
 | none=>rw [q] at x;cases x
 | some l=>
  rw [q] at x
  cases x
  refine h ρ σ S H Q l r q fun a xs S' H' z h1 h2 h3 h4=>?_
  refine k _ [a] S' H' z (own_lst.mpr ⟨a,xs,[],rfl,rfl,h3,pr h4⟩) (by simp) fun b hb=>?_
  rw [List.mem_singleton.mp hb]
  exact ⟨h1,h2⟩
@[simp] noncomputable def xSh (e:XE):Env -> Option O:=fun ρ=>(e ρ).map .sh
theorem SE.t {t:TE} {e:XE} (h:SE K t e):STr K t (xSh e):=fun ρ σ S H Q o r x k=>by
 unfold xSh at x
 cases q:e ρ with
 | none=>rw [q] at x;cases x
 | some d=>
  rw [q] at x
  cases x
  exact h ρ σ S H Q d r q fun v S' H' z dv=>k v [] S' H' z (own_sh.mpr ⟨rfl,dv⟩) .nil fun b hb=>by cases hb
noncomputable def uM (S H:Hp) (fp:List Addr):Hp:=fun b=>if b ∈ fp then H b else S b
theorem pf {fp:List Addr} {b:Addr} (h:b ∈ fp):uM S H fp b = H b:=by unfold uM;rw [if_pos h]
theorem jB {fp:List Addr} {b:Addr} (h:b ∉ fp):uM S H fp b = S b:=by unfold uM;rw [if_neg h]
theorem jZ {fp:List Addr} (n:∀ b ∈ fp,S b = none):Same S (uM S H fp):=fun b o e=>by
 rw [jB fun hb=>by rw [n b hb] at e;cases e]
 exact e
theorem xg {fp:List Addr} (s:Same S H):Same (uM S H fp) H:=fun b o e=>by
 by_cases hb:b ∈ fp
 ·rw [pf hb] at e;exact e
 ·rw [jB hb] at e;exact s b o e
theorem xf {fp:List Addr} (z:Ext S H S' H') (n:∀ b ∈ fp,H b = none /\ S' b = none):Ext S H (uM S' H' fp) H':=
 ⟨z.sh.trans (jZ fun b hb=>(n b hb).2),xg z.sub,fun b o h hn=>⟨(z.alw b o h hn).1,by rw [jB fun hb=>by rw [(n b hb).1] at h;cases h];exact (z.alw b o h hn).2⟩⟩
@[simp] noncomputable def xOD (e:Env -> Option O):XE:=fun ρ=>(e ρ).map O.d
theorem STr.e {t:TE} {e:Env -> Option O} (h:STr K t e):SE K t (xOD e):=fun ρ σ S H Q d r x k=>by
 unfold xOD at x
 cases q:e ρ with
 | none=>rw [q] at x;cases x
 | some o=>
  rw [q] at x
  cases x
  exact h ρ σ S H Q o r q fun v fp S' H' z ow nd n=>k v _ H' (xf z n) (ow.den (jZ fun b hb=>(n b hb).2) fun b hb=>pf hb)
noncomputable def bD (K:W.Frag) (n:Nat) (m:List D -> Option O):Sp:=fun vs H Q _=>vs.length = n /\ ∃ S ds o,Same S H /\ Dens K S ds vs /\ m ds = some o /\ ∀ v fp S' H',Ext S H S' H' -> Own K S' H' o v fp -> fp.Nodup -> (∀ b ∈ fp,H b = none /\ S' b = none) -> Q v H'
@[simp] noncomputable def vP (m:List D -> Option O) (a:XA):Env -> Option O:=fun ρ=>(a ρ).bind m
theorem A0 {n:Nat}     (h:SA K t a) (hn:∀ ρ ds,a ρ = some ds -> ds.length = n):STr K (oM (bD K n m) [] E t) (vP m a):=fun ρ σ S H Q o rl x k=>by
 unfold vP at x
 cases q:a ρ with
 | none=>rw [q] at x;cases x
 | some ds=>
  rw [q] at x
  refine h ρ σ S H _ ds rl q fun vs S1 H1 z1 d1=>?_
  rw [List.append_nil]
  refine ⟨by rw [<- d1.length];exact hn ρ ds q,S1,ds,o,z1.sub,d1,x,fun v fp S2 H2 z2 ow nd n=>k v fp S2 H2 (z1.trans z2) ow nd fun b hb=>⟨(z1.same rl.sub).free (n b hb).1,(n b hb).2⟩⟩
@[simp] noncomputable def aq (m:List D -> Option D) (a:XA):XE:=fun ρ=>(a ρ).bind m
theorem Kh {n:Nat}     (h:SA K t a) (hn:∀ ρ ds,a ρ = some ds -> ds.length = n):SE K (oM (bD K n m) [] E t) (aq (fun ds=>(m ds).map O.d) a):=by
 have:=(A0 (m:=m) (E:=E) h hn).e
 have e:xOD (vP m a) = aq (fun ds=>(m ds).map O.d) a:=by
  funext ρ
  show ((a ρ).bind m).map O.d = (a ρ).bind fun ds=>(m ds).map O.d
  cases a ρ <;> rfl
 rw [e] at this
 exact this
@[simp] noncomputable def N9 (m:List D -> Option D) (a:XA):XE:=fun ρ=>((a ρ).bind m).bind fun d=>if (nj d).isSome then some d else none
def SAT (K:W.Frag) (t:TA) (e:Env -> Option (List O)):Prop:=∀ ρ σ S H (Q:List V -> Hp -> Prop) os,Rl K ρ σ S H -> e ρ = some os -> (∀ vs fp S' H',Ext S H S' H' -> Owns K S' H' os vs fp -> fp.Nodup -> (∀ b ∈ fp,H b = none /\ S' b = none) -> Q vs H') -> t σ H Q
@[simp] noncomputable def F6:Env -> Option (List O):=fun _=>some []
@[simp] noncomputable def vQ (a:Env -> Option O) (b:Env -> Option (List O)):Env -> Option (List O):=fun ρ=>(a ρ).bind fun x=>(b ρ).bind fun y=>some (x :: y)
theorem KF:SAT K rV F6:=fun ρ σ S H Q ds r x k=>by cases x;exact k [] [] S H (Ext.refl r.sub) .nil .nil fun _ hb=>by cases hb
theorem HB {ta:TE}    (ha:STr K ta a) (hb:SAT K tr b):SAT K (ig ta tr) (vQ a b):=fun ρ σ S H Q os r x k=>by
 unfold vQ at x
 cases qa:a ρ with
 | none=>rw [qa] at x;cases x
 | some oa=>
  rw [qa] at x
  dsimp only [Option.bind] at x
  cases qb:b ρ with
  | none=>rw [qb] at x;cases x
  | some ob=>
   rw [qb] at x
   cases x
   refine ha ρ σ S H _ oa r qa fun v fp S1 H1 z1 o1 nd1 n1=>hb ρ σ S1 H1 _ ob (r.ext z1) qb fun vs fq S2 H2 z2 o2 nd2 n2=>?_
   obtain ⟨k1,k2⟩:=z2.keeps (fun b hb=>(n1 b hb).2) o1.there o1.nit
   refine k _ _ S2 H2 (z1.trans z2) (.cons (o1.mono z2.sh k1) o2) ?_ fun c hc=>?_
   ·refine List.nodup_append.mpr ⟨nd1,nd2,fun c hc d hd e=>?_⟩
    subst e
    exact o1.there c hc (n2 c hd).1
   ·rcases List.mem_append.mp hc with hc | hc
    ·exact ⟨(n1 c hc).1,k2 c hc⟩
    ·exact ⟨(z1.same r.sub).free (n2 c hc).1,(n2 c hc).2⟩
@[simp] noncomputable def g9:List O -> Bool
 | []=>true
 | .sh (.int _) :: l=>g9 l
 | .hd _ _ _ :: l=>g9 l
 | _ :: _=>false
@[simp] noncomputable def F9 (a:Env -> Option (List O)):Env -> Option O:=fun ρ=>(a ρ).bind fun l=>if l.length <= LIM /\ g9 l = false then some (.tup l) else none
theorem yJ {d:D} {k:Int} (h:Den K S d (.int k)):d = .int k:=by
 cases d <;> unfold Den at h <;> first | (cases h;rfl) | (cases h;done) | (obtain ⟨_,h,_⟩:=h;cases h;done) | (obtain ⟨_,_,h,_⟩:=h;cases h;done) | (obtain ⟨_,_,_,h,_⟩:=h;cases h;done) | (obtain ⟨_,_,_,_,h,_⟩:=h;cases h;done)
theorem xO:∀ {l:List O} {xs:List V} {fp:List Addr} {ks:List Int},Owns K S H l xs fp -> xs = ks.map V.int -> g9 l = true
 | [],_,_,_,_,_=>rfl
 | o :: l,_,_,ks,h,e=>by
  obtain ⟨y,ys,f,g,rfl,rfl,a,b⟩:=h.cons_of
  cases ks with
  | nil=>cases e
  | cons k ks=>
   rw [List.map_cons] at e
   cases e
   have ih:=xO b rfl
   cases o with
   | sh d=>
    obtain ⟨_,d1⟩:=own_sh.mp a
    have:d = .int k:=yJ d1
    subst this
    unfold g9
    exact ih
   | lst _=>obtain ⟨_,_,_,e,_⟩:=own_lst.mp a;cases e
   | tup _=>obtain ⟨_,_,_,e,_⟩:=own_tup.mp a;cases e
   | dic _=>obtain ⟨_,e,_⟩:=own_dic.mp a;cases e
   | hd p q os=>
    unfold g9
    exact ih
@[simp] noncomputable def F5 (a:Env -> Option (List O)):Env -> Option O:=fun ρ=>(a ρ).bind fun l=>if l.length <= LIM then some (.lst l) else none
theorem uf {fp:List Addr}   (h:H p = none) (t:∀ b ∈ fp,H b ≠ none):(∀ b ∈ fp,upd H p o b = H b) /\ p ∉ fp:=by
 have np:p ∉ fp:=fun hp=>t p hp h
 exact ⟨fun b hb=>aw fun e=>np (e ▸ hb),np⟩
theorem Kx   (h:SAT K t a):STr K (HK t) (F9 a):=fun ρ σ S H Q o r x k=>by
 unfold F9 at x
 cases q:a ρ with
 | none=>rw [q] at x;cases x
 | some l=>
  rw [q] at x
  dsimp only [Option.bind] at x
  split at x
  ·rename_i hlc
   obtain ⟨hl,hc⟩:=hlc
   cases x
   refine h ρ σ S H _ l r q fun vs fp S1 H1 z1 o1 nd1 n1=>⟨?_,fun p hp=>?_⟩
   ·rw [<- o1.length];exact Nat.le_of_lt (Nat.lt_of_le_of_lt hl fK)
   ·obtain ⟨k1,k2⟩:=uf (o:=.tup vs) hp o1.there
    have nit:¬ IT (.tup vs):=fun hpt0=>by
     obtain ⟨ks,e⟩:=hpt0
     cases e
     rw [xO o1 rfl] at hc
     cases hc
    refine k _ (p :: fp) S1 _ (z1.trans (Ext.own z1.sub hp)) (own_tup.mpr ⟨p,vs,fp,rfl,rfl,⟨av,nit⟩,o1.mono (Same.refl _) k1⟩) (List.nodup_cons.mpr ⟨k2,nd1⟩) fun b hb=>?_
    rcases List.mem_cons.mp hb with rfl | hb
    ·exact ⟨(z1.same r.sub).free hp,z1.sub.free hp⟩
    ·exact n1 b hb
  ·cases x
theorem Kn   (h:SAT K t a):STr K (HH t) (F5 a):=fun ρ σ S H Q o r x k=>by
 unfold F5 at x
 cases q:a ρ with
 | none=>rw [q] at x;cases x
 | some l=>
  rw [q] at x
  dsimp only [Option.bind] at x
  split at x
  ·rename_i hl
   cases x
   refine h ρ σ S H _ l r q fun vs fp S1 H1 z1 o1 nd1 n1=>⟨?_,fun p hp=>?_⟩
   ·rw [<- o1.length];exact Nat.le_of_lt (Nat.lt_of_le_of_lt hl fK)
   ·obtain ⟨k1,k2⟩:=uf (o:=.lst vs) hp o1.there
    refine k _ (p :: fp) S1 _ (z1.trans (Ext.own z1.sub hp)) (own_lst.mpr ⟨p,vs,fp,rfl,rfl,av,o1.mono (Same.refl _) k1⟩) (List.nodup_cons.mpr ⟨k2,nd1⟩) fun b hb=>?_
    rcases List.mem_cons.mp hb with rfl | hb
    ·exact ⟨(z1.same r.sub).free hp,z1.sub.free hp⟩
    ·exact n1 b hb
  ·cases x
theorem GR  {ds:List D} (h:aj ρ = some ds):ds.length = 0:=by cases h;rfl
theorem Eo  {b:XA} {n:Nat} (h:∀ ρ ds,b ρ = some ds -> ds.length = n) (ρ:Env) (ds:List D) (x:ab a b ρ = some ds):ds.length = n + 1:=by
 obtain ⟨da,db,qa,qb,rfl⟩:=mX x
 rw [List.length_cons,h ρ db qb]
@[simp] noncomputable def OY (a b:XE):XE:=fun ρ=>(a ρ).bind fun x=>match x with | .bl true=>b ρ | .bl false=>some (.bl false) | _=>none
@[simp] noncomputable def PR (a b:XE):XE:=fun ρ=>(a ρ).bind fun x=>match x with | .bl true=>some (.bl true) | .bl false=>b ρ | _=>none
@[simp] noncomputable def O8 (a:XE):XE:=fun ρ=>(a ρ).bind fun x=>match x with | .bl c=>some (.bl (!c)) | _=>none
@[simp] noncomputable def PL (c:XT) (a b:XE):XE:=fun ρ=>(c ρ).bind fun q=>if q = true then a ρ else b ρ
@[simp] noncomputable def xB (a:XE):XT:=fun ρ=>(a ρ).bind fun x=>match x with | .bl c=>some c | _=>none
theorem s_b {ta:TE}  (ha:SPk K ta a):ST K (tB ta) (xB a):=fun ρ σ S H Q b r x k=>by
 unfold xB at x
 cases qa:a ρ with
 | none=>rw [qa] at x;cases x
 | some da=>
  rw [qa] at x
  dsimp only [Option.bind] at x
  refine ha ρ σ S H _ da r qa fun v S1 H1 z1 d1=>?_
  split at x
  ·cases x
   exact ⟨_,d1.bl,k S1 H1 z1⟩
  ·cases x
theorem Fx {ta:TE}  (ha:SPk K ta a):ST K (A6 ta) (xB a):=s_b ha
noncomputable def yq:D -> Option Bool
 | .non=>some false
 | .bl b=>some b
 | .int i=>some (i != 0)
 | .str y=>if y.length <= LIM then some ((y.length:Int) != 0) else none
 | .lst l=>some (!l.isEmpty)
 | .tup l=>some (!l.isEmpty)
 | .scr l=>some (!l.isEmpty)
 | _=>none
theorem kR {ds:List D} {xs:List V} (h:Dens K S ds xs):(!ds.isEmpty) = !xs.isEmpty:=by
 have:=h.length
 cases ds <;> cases xs <;> simp_all
@[simp] noncomputable def mY (a:XE):XT:=fun ρ=>(a ρ).bind yq
theorem KM   {b:Bool} (s:Same S H) (h:DenP K S H d v) (x:yq d = some b):Ge K v H b:=by
 cases d with
 | non=>rw [h.non];cases x;rfl
 | bl c=>rw [h.bl];cases x;rfl
 | int i=>rw [h.int];cases x;rfl
 | str y=>
  rw [h.str]
  have x':(if y.length <= LIM then some ((y.length:Int) != 0) else none) = some b:=x
  split at x'
  ·rename_i hl;cases x';exact ⟨Nat.le_of_lt (Nat.lt_of_le_of_lt hl fK),rfl⟩
  ·cases x'
 | lst l=>
  obtain ⟨p,xs,rfl,h1,h2⟩:=h.lst s
  cases x
  exact .inl ⟨xs,.inl h1,kR h2⟩
 | tup l=>
  obtain ⟨p,xs,rfl,h1,h2⟩:=h.tup s
  cases x
  exact .inr (.inl ⟨xs,h1,kR h2⟩)
 | scr l=>
  obtain ⟨p,xs,rfl,h1,h2⟩:=h.scr s
  cases x
  exact .inl ⟨xs,h1,kR h2⟩
 | _=>cases x
end
section
variable {K:W.Frag} {S S' H H':Hp}
@[simp] noncomputable def vO (a b:XT):XT:=fun ρ=>(a ρ).bind fun x=>if x = true then b ρ else some false
@[simp] noncomputable def xOr (a b:XT):XT:=fun ρ=>(a ρ).bind fun x=>if x = true then some true else b ρ
@[simp] noncomputable def vR (a:XT):XT:=fun ρ=>(a ρ).map fun x=>!x
theorem Ml {ta tb:TT}  (ha:ST K ta a) (hb:ST K tb b):ST K (KH ta tb) (vO a b):=fun ρ σ S H Q d r x k=>by
 unfold vO at x
 cases qa:a ρ with
 | none=>rw [qa] at x;cases x
 | some q=>
  rw [qa] at x
  dsimp only [Option.bind] at x
  refine ha ρ σ S H _ q r qa fun S1 H1 z1=>?_
  cases q with
  | true=>exact Ei (hb ρ σ S1 H1 Q d (r.ext z1) (by simpa using x) fun S2 H2 z2=>k S2 H2 (z1.trans z2))
  | false=>
   have:d = false:=by simpa using x.symm
   subst this
   exact Eh (k S1 H1 z1)
theorem Nw {ta tb:TT}  (ha:ST K ta a) (hb:ST K tb b):ST K (tOr ta tb) (xOr a b):=fun ρ σ S H Q d r x k=>by
 unfold xOr at x
 cases qa:a ρ with
 | none=>rw [qa] at x;cases x
 | some q=>
  rw [qa] at x
  dsimp only [Option.bind] at x
  refine ha ρ σ S H _ q r qa fun S1 H1 z1=>?_
  cases q with
  | false=>exact Eh (hb ρ σ S1 H1 Q d (r.ext z1) (by simpa using x) fun S2 H2 z2=>k S2 H2 (z1.trans z2))
  | true=>
   have:d = true:=by simpa using x.symm
   subst this
   exact Ei (k S1 H1 z1)
theorem Mw {ta:TT}  (ha:ST K ta a):ST K (KL ta) (vR a):=fun ρ σ S H Q d r x k=>by
 unfold vR at x
 cases qa:a ρ with
 | none=>rw [qa] at x;cases x
 | some q=>
  rw [qa] at x
  cases x
  exact ha ρ σ S H _ q r qa k
inductive Out where
 | nx (ρ:Env) | rt (d:D) | ro (o:O) | bk (ρ:Env) | ct (ρ:Env)
noncomputable abbrev XS:=Env -> Option Out
noncomputable def Done (K:W.Frag) (A:Hp) (Λ:Nat -> Option Addr) (S:Hp) (E:Ends):Out -> Prop
 | .nx ρ=>∀ σ' S' H',RlA K A Λ ρ σ' S' H' -> Same S S' -> E.nx σ' H'
 | .bk ρ=>∀ σ' S' H',RlA K A Λ ρ σ' S' H' -> Same S S' -> E.bk σ' H'
 | .ct ρ=>∀ σ' S' H',RlA K A Λ ρ σ' S' H' -> Same S S' -> E.ct σ' H'
 | .rt d=>∀ v S' H',Same S S' -> Same S' H' -> Same A H' -> (∀ b,S' b = none \/ A b = none \/ ∃ u,A b = some u /\ IT u) -> Den K S' d v -> E.rt v H'
 | .ro o=>∀ v fp S' H',Same S S' -> Same S' H' -> Same A H' -> (∀ b,S' b = none \/ A b = none \/ ∃ u,A b = some u /\ IT u) -> Own K S' H' o v fp -> fp.Nodup -> (∀ b ∈ fp,S' b = none /\ A b = none) -> E.rt v H'
theorem Done.mono     (s:Same S S') (h:Done K A Λ S E o):Done K A Λ S' E o:=by
 cases o with
 | nx ρ=>exact fun σ1 S1 H1 r z=>h σ1 S1 H1 r (s.trans z)
 | bk ρ=>exact fun σ1 S1 H1 r z=>h σ1 S1 H1 r (s.trans z)
 | ct ρ=>exact fun σ1 S1 H1 r z=>h σ1 S1 H1 r (s.trans z)
 | rt d=>exact fun v S1 H1 z=>h v S1 H1 (s.trans z)
 | ro d=>exact fun v fp S1 H1 z=>h v fp S1 H1 (s.trans z)
def SS (K:W.Frag) (t:TS) (m:XS):Prop:=∀ A Λ ρ σ S H (E:Ends) o,RlA K A Λ ρ σ S H -> m ρ = some o -> Done K A Λ S E o -> t E σ H
@[simp] noncomputable def dF:XS:=fun ρ=>some (.nx ρ)
theorem Kq:SS K A5 dF:=fun A Λ ρ σ S H E o r x k=>by cases x;exact k σ S H r (Same.refl _)
@[simp] noncomputable def N8:XS:=fun ρ=>some (.bk ρ)
@[simp] noncomputable def OZ:XS:=fun ρ=>some (.ct ρ)
@[simp] noncomputable def Oi:XS:=fun _=>none
@[simp] noncomputable def aA (m n:XS):XS:=fun ρ=>match m ρ with | some (.nx ρ')=>n ρ' | o=>o
theorem MA   (ht:SS K t m) (hu:SS K u n):SS K (HJ t u) (aA m n):=fun A Λ ρ σ S H E o r x k=>by
 unfold aA at x
 cases q:m ρ with
 | none=>rw [q] at x;cases x
 | some om=>
  rw [q] at x
  refine ht A Λ ρ σ S H _ om r q ?_
  cases om with
  | nx ρ'=>exact fun σ' S' H' r' z=>hu A Λ ρ' σ' S' H' E o r' x (k.mono z)
  | rt d=>cases x;exact k
  | ro d=>cases x;exact k
  | bk d=>cases x;exact k
  | ct d=>cases x;exact k
@[simp] noncomputable def bM (e:XE):XS:=fun ρ=>(e ρ).map .rt
theorem Mz {te:TE}  (h:SE K te e):SS K (FS te) (bM e):=fun A Λ ρ σ S H E o r x k=>by
 unfold bM at x
 cases q:e ρ with
 | none=>rw [q] at x;cases x
 | some d=>
  rw [q] at x
  cases x
  refine h ρ σ S H _ d r.toRl q fun v S1 H1 z1 d1=>?_
  have r1:=r.ext z1
  exact k v S1 H1 z1.sh z1.sub r1.asub r1.adis d1
@[simp] noncomputable def Bd (e:Env -> Option O):XS:=fun ρ=>(e ρ).map .ro
theorem Kt {te:TE}  (h:STr K te e):SS K (FS te) (Bd e):=fun A Λ ρ σ S H E o r x k=>by
 unfold Bd at x
 cases q:e ρ with
 | none=>rw [q] at x;cases x
 | some ot=>
  rw [q] at x
  cases x
  refine h ρ σ S H _ ot r.toRl q fun v fp S1 H1 z1 o1 nd n=>?_
  have r1:=r.ext z1
  exact k v fp S1 H1 z1.sh z1.sub r1.asub r1.adis o1 nd fun b hb=>⟨(n b hb).2,r.asub.free (n b hb).1⟩
@[simp] noncomputable def ui (i:Nat):XS:=fun ρ=>match ρ[i]? with | some (.sh d)=>some (.rt d) | some (.ow o)=>some (.ro o) | _=>none
theorem Ku (i:Nat):SS K (FS (lV i)) (ui i):=fun A Λ ρ σ S H E o r x k=>by
 unfold ui at x
 cases q:ρ[i]? with
 | none=>rw [q] at x;cases x
 | some s=>
  rw [q] at x
  obtain ⟨Φ,f⟩:=r
  cases s with
  | un | lo=>cases x
  | sh d=>
   cases x
   obtain ⟨v,h1,h2⟩:=f.sh i d q
   exact ⟨v,h1,k v S H (Same.refl _) f.sub f.asub f.adis h2⟩
  | ow ot=>
   cases x
   obtain ⟨v,h1,h2,h3,h4⟩:=f.ow i ot q
   exact ⟨v,h1,k v _ S H (Same.refl _) f.sub f.asub f.adis h2 h3 h4⟩
@[simp] noncomputable def Pc:XS:=fun _=>some (.rt .non)
@[simp] noncomputable def xIf (c:XT) (m n:XS):XS:=fun ρ=>(c ρ).bind fun b=>if b = true then m ρ else n ρ
theorem Nv {tc:TT}    (hc:ST K tc c) (ht:SS K t m) (hu:SS K u n):SS K (HG tc t u) (xIf c m n):=fun A Λ ρ σ S H E o r x k=>by
 unfold xIf at x
 cases qc:c ρ with
 | none=>rw [qc] at x;cases x
 | some q=>
  rw [qc] at x
  dsimp only [Option.bind] at x
  refine hc ρ σ S H _ q r.toRl qc fun S1 H1 z1=>?_
  cases q with
  | true=>exact Ei (ht A Λ ρ σ S1 H1 E o (r.ext z1) (by simpa using x) (k.mono z1.sh))
  | false=>exact Eh (hu A Λ ρ σ S1 H1 E o (r.ext z1) (by simpa using x) (k.mono z1.sh))
theorem bJ {α:Type} {l:List α} {i j:Nat} {x y:α} (h:(l.set i x)[j]? = some y):(i = j /\ y = x /\ i < l.length) \/ (i ≠ j /\ l[j]? = some y):=by
 by_cases hij:i = j
 ·subst hij
  have hl:=(List.getElem?_eq_some_iff.mp h).1
  rw [List.length_set] at hl
  rw [List.getElem?_set_self hl] at h
  exact .inl ⟨rfl,(Option.some.inj h).symm,hl⟩
 ·rw [List.getElem?_set_ne hij] at h
  exact .inr ⟨hij,h⟩
theorem RlF.set        (r:RlF K A Λ Φ ρ σ S H) (i:Nat) (h:Den K S d v):RlF K A Λ Φ (ρ.set i (.sh d)) (σ.set i (some v)) S H where
 len:=by rw [List.length_set,List.length_set];exact r.len
 sub:=r.sub
 sh:=fun j e hj=>by
  rcases bJ hj with ⟨rfl,e,hl⟩ | ⟨hij,hj⟩
  ·cases e
   exact ⟨v,List.getElem?_set_self (by rw [r.len];exact hl),h⟩
  ·rw [List.getElem?_set_ne hij]
   exact r.sh j e hj
 ow:=fun j o hj=>by
  rcases bJ hj with ⟨rfl,e,hl⟩ | ⟨hij,hj⟩
  ·cases e
  ·rw [List.getElem?_set_ne hij]
   exact r.ow j o hj
 dj:=fun j k o o' hjk h1 h2=>by
  rcases bJ h1 with ⟨rfl,e,hl⟩ | ⟨hij,h1⟩
  ·cases e
  ·rcases bJ h2 with ⟨rfl,e,hl⟩ | ⟨hik,h2⟩
   ·cases e
   ·exact r.dj j k o o' hjk h1 h2
 lo:=fun j hj=>by
  rcases bJ hj with ⟨rfl,e,hl⟩ | ⟨hij,hj⟩
  ·cases e
  ·rw [List.getElem?_set_ne hij]
   exact r.lo j hj
 asub:=r.asub
 adis:=r.adis
theorem RlA.set       (r:RlA K A Λ ρ σ S H) (i:Nat) (h:Den K S d v):RlA K A Λ (ρ.set i (.sh d)) (σ.set i (some v)) S H:=let ⟨Φ,f⟩:=r;⟨Φ,f.set i h⟩
theorem RlF.put        {fp:List Addr} (r:RlF K A Λ Φ ρ σ S H) (i:Nat) (sub:Same S H') (asub:Same A H') (ow:Own K S H' o v fp) (nd:fp.Nodup) (n:∀ b ∈ fp,S b = none /\ A b = none)
  (keep:∀ (j:Nat) o',j ≠ i -> ρ[j]? = some (.ow o') -> ∀ b ∈ Φ j,H' b = H b /\ b ∉ fp):RlF K A Λ (fun j=>if j = i then fp else Φ j) (ρ.set i (.ow o)) (σ.set i (some v)) S H' where
 len:=by rw [List.length_set,List.length_set];exact r.len
 sub:=sub
 sh:=fun j e hj=>by
  rcases bJ hj with ⟨rfl,e,hl⟩ | ⟨hij,hj⟩
  ·cases e
  ·rw [List.getElem?_set_ne hij]
   exact r.sh j e hj
 ow:=fun j o' hj=>by
  rcases bJ hj with ⟨rfl,e,hl⟩ | ⟨hij,hj⟩
  ·cases e
   rw [if_pos rfl]
   exact ⟨v,List.getElem?_set_self (by rw [r.len];exact hl),ow,nd,n⟩
  ·rw [List.getElem?_set_ne hij,if_neg (Ne.symm hij)]
   obtain ⟨w,h1,h2,h3,h4⟩:=r.ow j o' hj
   exact ⟨w,h1,h2.mono (Same.refl _) fun b hb=>(keep j o' (Ne.symm hij) hj b hb).1,h3,h4⟩
 dj:=fun j k o1 o2 hjk h1 h2 b hb hb2=>by
  rcases bJ h1 with ⟨rfl,e,hl⟩ | ⟨hij,h1⟩
  ·rcases bJ h2 with ⟨rfl,e,hl⟩ | ⟨hik,h2⟩
   ·exact hjk rfl
   ·rw [if_pos rfl] at hb
    rw [if_neg (Ne.symm hik)] at hb2
    exact (keep k o2 (Ne.symm hik) h2 b hb2).2 hb
  ·rcases bJ h2 with ⟨rfl,e,hl⟩ | ⟨hik,h2⟩
   ·rw [if_pos rfl] at hb2
    rw [if_neg (Ne.symm hij)] at hb
    exact (keep j o1 (Ne.symm hij) h1 b hb).2 hb2
   ·rw [if_neg (Ne.symm hij)] at hb
    rw [if_neg (Ne.symm hik)] at hb2
    exact r.dj j k o1 o2 hjk h1 h2 b hb hb2
 lo:=fun j hj=>by
  rcases bJ hj with ⟨rfl,e,hl⟩ | ⟨hij,hj⟩
  ·cases e
  ·rw [List.getElem?_set_ne hij]
   exact r.lo j hj
 asub:=asub
 adis:=r.adis
theorem ye {α:Type} {l:List α} {i:Nat} {x:α} (h:l[i]? = some x):l.set i x = l:=by
 apply List.ext_getElem?
 intro j
 by_cases e:i = j
 ·subst e
  rw [List.getElem?_set_self (List.getElem?_eq_some_iff.mp h).1,h]
 ·rw [List.getElem?_set_ne e]
noncomputable def frz (i:Nat) (ρ:Env):Env:=match ρ[i]? with | some (.ow o)=>ρ.set i (.sh o.d) | _=>ρ
theorem RlA.frz     (r:RlA K A Λ ρ σ S H) (i:Nat):∃ S',Same S S' /\ RlA K A Λ (frz i ρ) σ S' H:=by
 unfold M.frz
 cases q:ρ[i]? with
 | none=>exact ⟨S,Same.refl _,r⟩
 | some s=>
  cases s with
  | un=>exact ⟨S,Same.refl _,r⟩
  | lo=>exact ⟨S,Same.refl _,r⟩
  | sh d=>exact ⟨S,Same.refl _,r⟩
  | ow o=>
   dsimp only
   obtain ⟨Φ,f⟩:=r
   obtain ⟨v,h1,h2,h3,h4⟩:=f.ow i o q
   have s2:Same S (uM S H (Φ i)):=jZ fun b hb=>(h4 b hb).1
   have hd:Den K (uM S H (Φ i)) o.d v:=h2.den s2 fun b hb=>pf hb
   refine ⟨_,s2,Φ,?_⟩
   exact {
    len:=by rw [List.length_set];exact f.len
    sub:=xg f.sub
    sh:=fun j d hj=>by
     rcases bJ hj with ⟨rfl,e,hl⟩ | ⟨hij,hj⟩
     ·cases e
      exact ⟨v,h1,hd⟩
     ·obtain ⟨w,k1,k2⟩:=f.sh j d hj
      exact ⟨w,k1,k2.mono s2⟩
    ow:=fun j o' hj=>by
     rcases bJ hj with ⟨rfl,e,hl⟩ | ⟨hij,hj⟩
     ·cases e
     ·obtain ⟨w,k1,k2,k3,k4⟩:=f.ow j o' hj
      exact ⟨w,k1,k2.mono s2 fun _ _=>rfl,k3,fun b hb=>⟨by rw [jB fun hi=>f.dj i j o o' hij q hj b hi hb];exact (k4 b hb).1,(k4 b hb).2⟩⟩
    dj:=fun j k o1 o2 hjk g1 g2=>by
     rcases bJ g1 with ⟨rfl,e,hl⟩ | ⟨hij,g1⟩
     ·cases e
     ·rcases bJ g2 with ⟨rfl,e,hl⟩ | ⟨hik,g2⟩
      ·cases e
      ·exact f.dj j k o1 o2 hjk g1 g2
    lo:=fun j hj=>by
     rcases bJ hj with ⟨rfl,e,hl⟩ | ⟨hij,hj⟩
     ·cases e
     ·exact f.lo j hj
    asub:=f.asub
    adis:=fun b=>by
     by_cases hb:b ∈ Φ i
     ·exact .inr (.inl (h4 b hb).2)
     ·rw [jB hb];exact f.adis b }
@[simp] noncomputable def Ai (i:Nat) (m:XS):XS:=fun ρ=>m (frz i ρ)
theorem Mu   (i:Nat) (h:SS K t m):SS K t (Ai i m):=fun A Λ ρ σ S H E o r x k=>by
 obtain ⟨S',s,r'⟩:=r.frz i
 exact h A Λ _ σ S' H E o r' x (k.mono s)
noncomputable abbrev XG:=D -> Env -> Option Env
noncomputable abbrev XGs:=List D -> Env -> Option Env
def SG (K:W.Frag) (g:TG) (x:XG):Prop:=∀ A Λ ρ σ S H v d (Q:St -> Hp -> Prop) ρ',RlA K A Λ ρ σ S H -> Den K S d v -> x d ρ = some ρ' -> (∀ σ',RlA K A Λ ρ' σ' S H -> Q σ' H) -> g v σ H Q
def SGs (K:W.Frag) (g:TGs) (x:XGs):Prop:=∀ A Λ ρ σ S H vs ds (Q:St -> Hp -> Prop) ρ',RlA K A Λ ρ σ S H -> Dens K S ds vs -> x ds ρ = some ρ' -> (∀ σ',RlA K A Λ ρ' σ' S H -> Q σ' H) -> g vs σ H Q
@[simp] noncomputable def af (i:Nat):XG:=fun d ρ=>some (ρ.set i (.sh d))
noncomputable def aB:XGs:=fun ds ρ=>match ds with | []=>some ρ | _=>none
noncomputable def ai (x:XG) (y:XGs):XGs:=fun ds ρ=>match ds with | d :: r=>(x d ρ).bind (y r) | []=>none
noncomputable def aE (y:XGs):XG:=fun d ρ=>match d with | .tup l=>y l ρ | .mtp l=>y l ρ | _=>none
theorem Js (i:Nat):SG K (gv i) (af i):=fun A Λ ρ σ S H v d Q ρ' r dv x k=>by cases x;exact k _ (r.set i dv)
theorem Lr:SGs K GB aB:=fun A Λ ρ σ S H vs ds Q ρ' r dv x k=>by
 cases ds with
 | nil=>cases x;exact ⟨dv.nil_of,k σ r⟩
 | cons _ _=>cases x
theorem Jr     (h:SG K g x) (hs:SGs K gs y):SGs K (AA g gs) (ai x y):=fun A Λ ρ σ S H vs ds Q ρ' r dv e k=>by
 cases ds with
 | nil=>cases e
 | cons d ds=>
  obtain ⟨v,vs,rfl,h1,h2⟩:=dv.cons_of
  have e':(x d ρ).bind (y ds) = some ρ':=e
  cases q:x d ρ with
  | none=>rw [q] at e';cases e'
  | some ρ1=>
   rw [q] at e'
   exact ⟨v,vs,rfl,h A Λ ρ σ S H v d _ ρ1 r h1 q fun σ1 r1=>hs A Λ ρ1 σ1 S H vs ds Q ρ' r1 h2 e' k⟩
def AH (y:XGs) (n:Nat):Prop:=∀ ds ρ ρ',y ds ρ = some ρ' -> ds.length = n
theorem JG:AH aB 0:=fun ds ρ ρ' e=>by cases ds with | nil=>rfl | cons _ _=>cases e
theorem GT   {n:Nat} (h:AH y n):AH (ai x y) (n + 1):=fun ds ρ ρ' e=>by
 cases ds with
 | nil=>cases e
 | cons d ds=>
  have e':(x d ρ).bind (y ds) = some ρ':=e
  cases q:x d ρ with
  | none=>rw [q] at e';cases e'
  | some ρ1=>rw [q] at e';rw [List.length_cons,h ds ρ1 ρ' e']
theorem Ls   {n:Nat} (hs:SGs K gs y) (hl:AH y n):SG K (GC K n gs) (aE y):=fun A Λ ρ σ S H v d Q ρ' r dv e k=>by
 cases d with
 | tup l=>
  obtain ⟨p,xs,rfl,h1,h2⟩:=eS dv
  exact ⟨p,xs,rfl,aC r.sub h1,by rw [<- h2.length];exact hl l ρ ρ' e,hs A Λ ρ σ S H xs l Q ρ' r h2 e k⟩
 | mtp l=>
  obtain ⟨p,xs,rfl,h1,h2⟩:=den_mtp.mp dv
  exact ⟨p,xs,rfl,aC r.sub h1,by rw [<- h2.length];exact hl l ρ ρ' e,hs A Λ ρ σ S H xs l Q ρ' r h2 e k⟩
 | _=>cases e
@[simp] noncomputable def bB (e:XE) (g:XG):XS:=fun ρ=>(e ρ).bind fun d=>(g d ρ).map .nx
theorem Mm {te:TE}    (h:SE K te e) (hg:SG K g x):SS K (vH te g) (bB e x):=fun A Λ ρ σ S H E o r y k=>by
 unfold bB at y
 cases q:e ρ with
 | none=>rw [q] at y;cases y
 | some d=>
  rw [q] at y
  dsimp only [Option.bind] at y
  cases q2:x d ρ with
  | none=>rw [q2] at y;cases y
  | some ρ'=>
   rw [q2] at y
   cases y
   exact h ρ σ S H _ d r.toRl q fun v S1 H1 z1 d1=>hg A Λ ρ σ S1 H1 v d _ ρ' (r.ext z1) d1 q2 fun σ' r'=>k σ' S1 H1 r' z1.sh
@[simp] noncomputable def r8 (e:Env -> Option O) (i:Nat):XS:=fun ρ=>(e ρ).map fun o=>.nx (ρ.set i (.ow o))
theorem Fv {te:TE}  {i:Nat} (h:STr K te e):SS K (vH te (gv i)) (r8 e i):=fun A Λ ρ σ S H E o r y k=>by
 unfold r8 at y
 cases q:e ρ with
 | none=>rw [q] at y;cases y
 | some ot=>
  rw [q] at y
  cases y
  obtain ⟨Φ,f⟩:=r
  refine h ρ σ S H _ ot ⟨A,Λ,Φ,f⟩ q fun v fp S1 H1 z1 o1 nd n=>?_
  have r1:=f.ext z1
  refine k _ S1 H1 ⟨_,r1.put (H':=H1) i r1.sub r1.asub o1 nd (fun b hb=>⟨(n b hb).2,f.asub.free (n b hb).1⟩) fun j o' hj e1 b hb=>⟨rfl,fun hf=>?_⟩⟩ z1.sh
  obtain ⟨w,_,k2,_,_⟩:=f.ow j o' e1
  exact k2.there b hb (n b hf).1
@[simp] noncomputable def il (e:XA) (i:Nat):XS:=r8 (xLT e) i
theorem Kg {te:TE}  {i:Nat} (h:SF K te e):SS K (vH te (gv i)) (il e i):=Fv h.t
noncomputable def c9:O -> List Int -> Option O
 | o,[]=>some o
 | .lst l,k :: r=>(atI l k).bind fun o=>c9 o r
 | .tup l,k :: r=>(atI l k).bind fun o=>c9 o r
 | .sh _,_ :: _=>none
 | .dic _,_ :: _=>none
 | .hd _ _ _,_ :: _=>none
noncomputable def rm (l:List O) (k:Int) (f:O -> O):List O:=match ixN l.length k with
 | some j=>(match l[j]? with | some o=>l.set j (f o) | none=>l)
 | none=>l
noncomputable def iW:O -> List Int -> O -> O
 | _,[],q=>q
 | .lst l,k :: r,q=>.lst (rm l k fun o=>iW o r q)
 | .tup l,k :: r,q=>.tup (rm l k fun o=>iW o r q)
 | .sh d,_ :: _,_=>.sh d
 | .dic d,_ :: _,_=>.dic d
 | .hd p d l,_ :: _,_=>.hd p d l
noncomputable def WalkV (H:Hp):V -> List Int -> V -> Prop
 | v,[],w=>v = w
 | v,k :: r,w=>∃ a xs u,v = .ref a /\ (H a = some (.lst xs) \/ H a = some (.tup xs)) /\ atI xs k = some u /\ WalkV H u r w
theorem WalkV.mono (s:Same H H'):∀ {p:List Int} {v w:V},WalkV H v p w -> WalkV H' v p w
 | [],_,_,h=>h
 | _ :: _,_,_,⟨a,xs,u,e,h,k,m⟩=>⟨a,xs,u,e,h.elim (fun z=>.inl (s _ _ z)) (fun z=>.inr (s _ _ z)),k,m.mono s⟩
theorem WalkV.uniq:∀ {p:List Int} {v w w':V},WalkV H v p w -> WalkV H v p w' -> w = w'
 | [],_,_,_,h,k=>h.symm.trans k
 | _ :: _,_,_,_,hpt0,hpt1=>by
  obtain ⟨a,xs,u,e,h,k,m⟩:=hpt0
  obtain ⟨a',xs',u',e',h',k',m'⟩:=hpt1
  rw [e] at e'
  cases e'
  have:xs = xs':=by
   rcases h with h | h <;> rcases h' with h' | h' <;> rw [h] at h' <;> cases h' <;> rfl
  subst this
  rw [k] at k'
  cases k'
  exact m.uniq m'
theorem WalkV.snoc:∀ {p:List Int} {v w u:V} {k:Int} {a:Addr} {xs:List V},WalkV H v p w -> w = .ref a -> (H a = some (.lst xs) \/ H a = some (.tup xs)) -> atI xs k = some u -> WalkV H v (p ++ [k]) u
 | [],_,_,u,k,a,xs,h,e,h1,h2=>⟨a,xs,u,h.trans e,h1,h2,rfl⟩
 | _ :: _,_,_,_,_,_,_,⟨b,ys,u',e,h,k,m⟩,e',h1,h2=>⟨b,ys,u',e,h,k,m.snoc e' h1 h2⟩
theorem nZ:∀ {p:List Int} {o q:O} {k:Int},c9 o (p ++ [k]) = some q -> ∃ q0,c9 o p = some q0 /\ c9 q0 [k] = some q
 | [],o,q,k,h=>⟨o,by unfold c9;rfl,h⟩
 | j :: p,o,q,k,h=>by
  cases o with
  | sh d | dic _ | hd _ _ _=>cases h
  | lst l=>
   have h':(atI l j).bind (fun o=>c9 o (p ++ [k])) = some q:=h
   cases e:atI l j with
   | none=>rw [e] at h';cases h'
   | some o1=>
    rw [e] at h'
    obtain ⟨q0,a,b⟩:=nZ (p:=p) h'
    exact ⟨q0,by show (atI l j).bind (fun o=>c9 o p) = some q0;rw [e];exact a,b⟩
  | tup l=>
   have h':(atI l j).bind (fun o=>c9 o (p ++ [k])) = some q:=h
   cases e:atI l j with
   | none=>rw [e] at h';cases h'
   | some o1=>
    rw [e] at h'
    obtain ⟨q0,a,b⟩:=nZ (p:=p) h'
    exact ⟨q0,by show (atI l j).bind (fun o=>c9 o p) = some q0;rw [e];exact a,b⟩
theorem Owns.split:∀ {l:List O} {xs:List V} {f:List Addr} {j:Nat} {o:O},Owns K S H l xs f -> l[j]? = some o -> ∃ x f1 f2 f3,xs[j]? = some x /\ f = f1 ++ (f2 ++ f3) /\ Own K S H o x f2 /\
  ∀ H' o' f2',Own K S H' o' x f2' -> (∀ b ∈ f1,H' b = H b) -> (∀ b ∈ f3,H' b = H b) -> Owns K S H' (l.set j o') xs (f1 ++ (f2' ++ f3))
 | [],_,_,_,_,_,e=>by simp at e
 | o0 :: l,_,_,0,o,h,e=>by
  obtain ⟨y,ys,f,g,rfl,rfl,a,b⟩:=h.cons_of
  simp at e;subst e
  exact ⟨y,[],f,g,rfl,rfl,a,fun H' o' f2' h1 _ h3=>Owns.cons (f:=f2') h1 (b.mono (Same.refl _) h3)⟩
 | o0 :: l,_,_,j + 1,o,h,e=>by
  obtain ⟨y,ys,f,g,rfl,rfl,a,b⟩:=h.cons_of
  obtain ⟨x,f1,f2,f3,e1,rfl,h1,h2⟩:=b.split (j:=j) (by simpa using e)
  refine ⟨x,f ++ f1,f2,f3,by simpa using e1,by rw [List.append_assoc],h1,fun H' o' f2' k1 k2 k3=>?_⟩
  rw [List.append_assoc]
  exact .cons (a.mono (Same.refl _) fun b hb=>k2 b (List.mem_append_left _ hb)) (h2 H' o' f2' k1 (fun b hb=>k2 b (List.mem_append_right _ hb)) k3)
theorem yD {α:Type} {l:List α} {k:Int} {x:α} (h:atI l k = some x):∃ j,ixN l.length k = some j /\ l[j]? = some x:=by
 unfold atI at h
 cases q:ixN l.length k with
 | none=>rw [q] at h;cases h
 | some j=>rw [q] at h;exact ⟨j,rfl,h⟩
theorem D2:∀ {p:List Int} {o q:O} {v:V} {fp:List Addr},Own K S H o v fp -> fp.Nodup -> c9 o p = some q -> ∃ w fq,Own K S H q w fq /\ WalkV H v p w /\ (∀ b ∈ fq,b ∈ fp) /\ fq.Nodup /\
  ∀ H' q' fq',Own K S H' q' w fq' -> fq'.Nodup -> (∀ b ∈ fp,b ∉ fq -> H' b = H b) -> (∀ b ∈ fq',b ∈ fp -> b ∈ fq) -> ∃ fp',Own K S H' (iW o p q') v fp' /\ fp'.Nodup /\ ∀ b ∈ fp',b ∈ fp \/ b ∈ fq'
 | [],o,q,v,fp,h,nd,e=>by
  have e':some o = some q:=by unfold c9 at e;exact e
  cases e'
  exact ⟨v,fp,h,rfl,fun b hb=>hb,nd,fun H' q' fq' h1 n1 _ _=>⟨fq',by unfold iW;exact h1,n1,fun b hb=>.inr hb⟩⟩
 | k :: r,o,q,v,fp,h,nd,e=>by
  have body:∀ (l:List O) (a:Addr) (xs:List V) (f:List Addr),v = .ref a -> fp = a :: f -> (H a = some (.lst xs) \/ H a = some (.tup xs)) -> Owns K S H l xs f -> ((atI l k).bind fun o=>c9 o r) = some q ->
    ∃ w fq,Own K S H q w fq /\ WalkV H v (k :: r) w /\ (∀ b ∈ fq,b ∈ fp) /\ fq.Nodup /\ ∀ H' q' fq',Own K S H' q' w fq' -> fq'.Nodup -> (∀ b ∈ fp,b ∉ fq -> H' b = H b) -> (∀ b ∈ fq',b ∈ fp -> b ∈ fq) ->
     ∃ f',Owns K S H' (rm l k fun o=>iW o r q') xs f' /\ H' a = H a /\ (a :: f').Nodup /\ ∀ b ∈ a :: f',b ∈ fp \/ b ∈ fq':=by
   rintro l a xs f rfl rfl ha hl hs
   obtain ⟨na,nf⟩:=List.nodup_cons.mp nd
   cases qa:atI l k with
   | none=>rw [qa] at hs;cases hs
   | some o1=>
    rw [qa] at hs
    obtain ⟨j,ej,el⟩:=yD qa
    obtain ⟨x,f1,f2,f3,ex,rfl,h1,h2⟩:=hl.split el
    obtain ⟨n1,n23,d1⟩:=List.nodup_append.mp nf
    obtain ⟨n2,n3,d2⟩:=List.nodup_append.mp n23
    obtain ⟨w,fq,k1,k2,k3,k4,k5⟩:=D2 (p:=r) h1 n2 hs
    have ax:atI xs k = some x:=by unfold atI;rw [<- hl.length,ej];exact ex
    refine ⟨w,fq,k1,⟨a,xs,x,rfl,ha,ax,k2⟩,fun b hb=>List.mem_cons_of_mem _ (List.mem_append_right _ (List.mem_append_left _ (k3 b hb))),k4,fun H' q' fq' g1 g2 g3 g4=>?_⟩
    have in2:∀ b ∈ fq,b ∈ f2:=k3
    have a1:∀ b ∈ f1,b ∉ fq:=fun b hb hq=>d1 b hb b (List.mem_append_left _ (in2 b hq)) rfl
    have a3:∀ b ∈ f3,b ∉ fq:=fun b hb hq=>d2 b (in2 b hq) b hb rfl
    have aa:a ∉ fq:=fun hq=>na (List.mem_append_right _ (List.mem_append_left _ (in2 a hq)))
    obtain ⟨f2',m1,m2,m3⟩:=k5 H' q' fq' g1 g2 (fun b hb hn=>g3 b (List.mem_cons_of_mem _ (List.mem_append_right _ (List.mem_append_left _ hb))) hn) fun b hb hp=>g4 b hb (List.mem_cons_of_mem _ (List.mem_append_right _ (List.mem_append_left _ hp)))
    have out:∀ b ∈ f2',b ∉ f1 /\ b ∉ f3 /\ b ≠ a:=fun b hb=>by
     rcases m3 b hb with hb | hb
     ·exact ⟨fun z=>d1 b z b (List.mem_append_left _ hb) rfl,fun z=>d2 b hb b z rfl,fun z=>na (z ▸ List.mem_append_right _ (List.mem_append_left _ hb))⟩
     ·refine ⟨fun z=>a1 b z (g4 b hb (List.mem_cons_of_mem _ (List.mem_append_left _ z))),fun z=>a3 b z (g4 b hb (List.mem_cons_of_mem _ (List.mem_append_right _ (List.mem_append_right _ z)))),fun z=>?_⟩
      subst z
      exact aa (g4 b hb List.mem_cons_self)
    refine ⟨f1 ++ (f2' ++ f3),?_,g3 a List.mem_cons_self aa,?_,fun b hb=>?_⟩
    ·unfold rm
     rw [ej]
     dsimp only
     rw [el]
     exact h2 H' _ f2' m1 (fun b hb=>g3 b (List.mem_cons_of_mem _ (List.mem_append_left _ hb)) (a1 b hb)) fun b hb=>g3 b (List.mem_cons_of_mem _ (List.mem_append_right _ (List.mem_append_right _ hb))) (a3 b hb)
    ·refine List.nodup_cons.mpr ⟨fun z=>?_,List.nodup_append.mpr ⟨n1,List.nodup_append.mpr ⟨m2,n3,fun b hb c hc e=>(out b hb).2.1 (e ▸ hc)⟩,fun b hb c hc e=>?_⟩⟩
     ·rcases List.mem_append.mp z with z | z
      ·exact na (List.mem_append_left _ z)
      ·rcases List.mem_append.mp z with z | z
       ·exact (out a z).2.2 rfl
       ·exact na (List.mem_append_right _ (List.mem_append_right _ z))
     ·subst e
      rcases List.mem_append.mp hc with hc | hc
      ·exact (out b hc).1 hb
      ·exact d1 b hb b (List.mem_append_right _ hc) rfl
    ·rcases List.mem_cons.mp hb with rfl | hb
     ·exact .inl List.mem_cons_self
     ·rcases List.mem_append.mp hb with hb | hb
      ·exact .inl (List.mem_cons_of_mem _ (List.mem_append_left _ hb))
      ·rcases List.mem_append.mp hb with hb | hb
       ·exact (m3 b hb).imp (fun z=>List.mem_cons_of_mem _ (List.mem_append_right _ (List.mem_append_left _ z))) id
       ·exact .inl (List.mem_cons_of_mem _ (List.mem_append_right _ (List.mem_append_right _ hb)))
  cases o with
  | sh d | dic _ | hd _ _ _=>cases e
  | lst l=>
   obtain ⟨a,xs,f,e1,e2,h1,h2⟩:=own_lst.mp h
   obtain ⟨w,fq,k1,k2,k3,k4,k5⟩:=body l a xs f e1 e2 (.inl h1) h2 e
   refine ⟨w,fq,k1,k2,k3,k4,fun H' q' fq' g1 g2 g3 g4=>?_⟩
   obtain ⟨f',m1,m2,m3,m4⟩:=k5 H' q' fq' g1 g2 g3 g4
   exact ⟨a :: f',by unfold iW;exact own_lst.mpr ⟨a,xs,f',e1,rfl,by rw [m2];exact h1,m1⟩,m3,m4⟩
  | tup l=>
   obtain ⟨a,xs,f,e1,e2,h1,h2⟩:=own_tup.mp h
   obtain ⟨w,fq,k1,k2,k3,k4,k5⟩:=body l a xs f e1 e2 (.inr h1.1) h2 e
   refine ⟨w,fq,k1,k2,k3,k4,fun H' q' fq' g1 g2 g3 g4=>?_⟩
   obtain ⟨f',m1,m2,m3,m4⟩:=k5 H' q' fq' g1 g2 g3 g4
   exact ⟨a :: f',by unfold iW;exact own_tup.mpr ⟨a,xs,f',e1,rfl,⟨by rw [m2];exact h1.1,h1.2⟩,m1⟩,m3,m4⟩
noncomputable abbrev XP:=Env -> Option (List Int)
def Bq (K:W.Frag) (to:TE) (i:Nat) (p:XP):Prop:=∀ ρ σ S H (Q:VK) is o q,Rl K ρ σ S H -> ρ[i]? = some (.ow o) -> p ρ = some is -> c9 o is = some q -> (∀ v w S' H',σ[i]? = some (some v) -> Ext S H S' H' -> WalkV H' v is w -> Q w H') -> to σ H Q
@[simp] noncomputable def xPv:XP:=fun _=>some []
theorem LK (i:Nat):Bq K (lV i) i xPv:=fun ρ σ S H Q is o q r h1 h2 h3 k=>by
 cases h2
 obtain ⟨v,fp,e,_⟩:=r.ow i o h1
 exact ⟨v,e,k v v S H e (Ext.refl r.sub) rfl⟩
@[simp] noncomputable def xPi (p:XP) (ix:XE):XP:=fun ρ=>(p ρ).bind fun is=>(ix ρ).bind fun d=>match d with | .int k=>some (is ++ [k]) | _=>none
theorem Nk {to ti:TE} {i:Nat} {p:XP} {ix:XE} (hp:Bq K to i p) (hi:SPk K ti ix):Bq K (tOp (rIx K) to ti) i (xPi p ix):=fun ρ σ S H Q is o q r h1 h2 h3 k=>by
 unfold xPi at h2
 cases e1:p ρ with
 | none=>rw [e1] at h2;cases h2
 | some js=>
  rw [e1] at h2
  dsimp only [Option.bind] at h2
  cases e2:ix ρ with
  | none=>rw [e2] at h2;cases h2
  | some d=>
   rw [e2] at h2
   cases d with
   | int kk=>
    cases h2
    obtain ⟨q0,s1,s2⟩:=nZ h3
    refine hp ρ σ S H _ js o q0 r h1 e1 s1 fun v w S1 H1 ev z1 wk=>?_
    have r1:=r.ext z1
    refine hi ρ σ S1 H1 _ _ r1 e2 fun u S2 H2 z2 d2=>?_
    have r2:=r1.ext z2
    obtain ⟨v',fp,ev',ow,nd,_⟩:=r2.ow i o h1
    rw [ev] at ev'
    cases ev'
    obtain ⟨w',fq,k1,k2,_⟩:=D2 ow nd s1
    have ew:=k2.uniq (wk.mono (z2.same r1.sub))
    subst ew
    rw [d2.int]
    cases q0 with
    | sh _ | dic _ | hd _ _ _=>cases s2
    | lst l=>
     have s2':(atI l kk).bind (fun o=>c9 o []) = some q:=s2
     cases e3:atI l kk with
     | none=>rw [e3] at s2';cases s2'
     | some o1=>
      obtain ⟨a,xs,f,rfl,rfl,hx,hl⟩:=own_lst.mp k1
      obtain ⟨j,ej,el⟩:=yD e3
      obtain ⟨x,_,_,_,ex,_⟩:=hl.split el
      have ax:atI xs kk = some x:=by unfold atI;rw [<- hl.length,ej];exact ex
      exact .inl ⟨a,xs,kk,x,rfl,rfl,SqL.of hx,ax,k v x S2 H2 ev (z1.trans z2) (k2.snoc rfl (.inl hx) ax)⟩
    | tup l=>
     have s2':(atI l kk).bind (fun o=>c9 o []) = some q:=s2
     cases e3:atI l kk with
     | none=>rw [e3] at s2';cases s2'
     | some o1=>
      obtain ⟨a,xs,f,rfl,rfl,⟨hx,_⟩,hl⟩:=own_tup.mp k1
      obtain ⟨j,ej,el⟩:=yD e3
      obtain ⟨x,_,_,_,ex,_⟩:=hl.split el
      have ax:atI xs kk = some x:=by unfold atI;rw [<- hl.length,ej];exact ex
      exact .inr (.inl ⟨a,xs,kk,x,rfl,rfl,SqT.of hx,ax,k v x S2 H2 ev (z1.trans z2) (k2.snoc rfl (.inr hx) ax)⟩)
   | _=>cases h2
theorem RlF.at {A:Hp} {Λ:Nat -> Option Addr} {Φ:Nat -> List Addr} {ρ:Env} {σ:St} {i:Nat} {o:O} {is:List Int} {l:List O} {v w:V} (f:RlF K A Λ Φ ρ σ S H) (h1:ρ[i]? = some (.ow o)) (h2:c9 o is = some (.lst l)) (ev:σ[i]? = some (some v)) (wk:WalkV H v is w) :
  ∃ a xs f0,w = .ref a /\ H a = some (.lst xs) /\ Owns K S H l xs f0 /\ (a :: f0).Nodup /\ (∀ b ∈ a :: f0,b ∈ Φ i) /\ ∀ l' xs' f',(∀ H',(∀ b,b ≠ a -> H' b = H b) -> Owns K S H' l' xs' f') -> (a :: f').Nodup -> (∀ b ∈ f',b ∈ f0 \/ ((∀ (j:Nat) o',ρ[j]? = some (.ow o') -> b ∉ Φ j) /\ S b = none /\ A b = none)) ->
   RlA K A Λ (ρ.set i (.ow (iW o is (.lst l')))) σ S (upd H a (.lst xs')):=by
 obtain ⟨v',e',ow,nd,n⟩:=f.ow i o h1
 rw [ev] at e'
 cases e'
 obtain ⟨w',fq,k1,k2,k3,k4,k5⟩:=D2 ow nd h2
 have ew:=k2.uniq wk
 subst ew
 obtain ⟨a,xs,g,rfl,rfl,hx,hl⟩:=own_lst.mp k1
 have ain:=k3 a List.mem_cons_self
 refine ⟨a,xs,g,rfl,hx,hl,k4,k3,fun l' xs' f' g1 g2 g3=>?_⟩
 have ne:∀ b,b ≠ a -> upd H a (.lst xs') b = H b:=fun b hb=>aw hb
 obtain ⟨fp',m1,m2,m3⟩:=k5 (upd H a (.lst xs')) (.lst l') (a :: f') (own_lst.mpr ⟨a,xs',f',rfl,rfl,av,g1 _ ne⟩) g2 (fun b hb hn=>ne b fun z=>hn (z ▸ List.mem_cons_self)) fun b hb hp=>by
  rcases List.mem_cons.mp hb with rfl | hb
  ·exact List.mem_cons_self
  ·rcases g3 b hb with z | ⟨z,_⟩
   ·exact List.mem_cons_of_mem _ z
   ·exact absurd hp (z i o h1)
 have sub':Same S (upd H a (.lst xs')):=fun b u e=>by rw [ne b fun z=>by subst z;rw [(n b ain).1] at e;cases e];exact f.sub b u e
 have asub':Same A (upd H a (.lst xs')):=fun b u e=>by rw [ne b fun z=>by subst z;rw [(n b ain).2] at e;cases e];exact f.asub b u e
 have fin:=f.put (H':=upd H a (.lst xs')) i sub' asub' m1 m2 (fun b hb=>by
  rcases m3 b hb with z | z
  ·exact n b z
  ·rcases List.mem_cons.mp z with rfl | z
   ·exact n b ain
   ·rcases g3 b z with z | ⟨_,z⟩
    ·exact n b (k3 b (List.mem_cons_of_mem _ z))
    ·exact z) fun j o' hj e1 b hb=>by
   have nb:b ∉ Φ i:=fun z=>f.dj j i o' o hj e1 h1 b hb z
   refine ⟨ne b fun z=>nb (z ▸ ain),fun z=>?_⟩
   rcases m3 b z with z | z
   ·exact nb z
   ·rcases List.mem_cons.mp z with rfl | z
    ·exact nb ain
    ·rcases g3 b z with z | ⟨z,_⟩
     ·exact nb (k3 b (List.mem_cons_of_mem _ z))
     ·exact z j o' e1 hb
 rw [ye ev] at fin
 exact ⟨_,fin⟩
theorem RlF.fresh       (f:RlF K A Λ Φ ρ σ S H) (h:H b = none):(∀ (j:Nat) o',ρ[j]? = some (.ow o') -> b ∉ Φ j) /\ S b = none /\ A b = none:=
 ⟨fun j o' e hb=>by obtain ⟨_,_,ow,_⟩:=f.ow j o' e;exact ow.there b hb h,f.sub.free h,f.asub.free h⟩
@[simp] noncomputable def ik (i:Nat) (p:XP) (e:Env -> Option O):XS:=fun ρ=>match ρ[i]? with
 | some (.ow o)=>(p ρ).bind fun is=>(e ρ).bind fun x=>match c9 o is with
  | some (.lst l)=>if l.length < LIM then some (.nx (ρ.set i (.ow (iW o is (.lst (l ++ [x])))))) else none
  | _=>none
 | _=>none
theorem Kf {to te:TE} {i:Nat}   (hp:Bq K to i p) (h:STr K te e):SS K (rT (tBM K "list" rAppend to (ig te rV))) (ik i p e):=fun A Λ ρ σ S H E out r y k=>by
 unfold ik at y
 cases q0:ρ[i]? with
 | none=>rw [q0] at y;cases y
 | some s=>
  rw [q0] at y
  cases s with
  | un | lo | sh _=>cases y
  | ow o=>
   dsimp only at y
   cases q1:p ρ with
   | none=>rw [q1] at y;cases y
   | some is=>
    rw [q1] at y
    dsimp only [Option.bind] at y
    cases q2:e ρ with
    | none=>rw [q2] at y;cases y
    | some x=>
     rw [q2] at y
     dsimp only at y
     cases q3:c9 o is with
     | none=>rw [q3] at y;cases y
     | some qo=>
      rw [q3] at y
      cases qo with
      | sh _ | dic _ | hd _ _ _ | tup _=>cases y
      | lst l=>
       dsimp only at y
       split at y
       ·rename_i hl
        cases y
        obtain ⟨Φ,f⟩:=r
        refine hp ρ σ S H _ is o _ ⟨A,Λ,Φ,f⟩ q0 q1 q3 fun v w S1 H1 ev z1 wk=>?_
        have f1:=f.ext z1
        obtain ⟨a,xs,g0,rfl,hx,hw,nd0,in0,_⟩:=f1.at q0 q3 ev wk
        refine ⟨.inl ⟨rfl,xs,SqL.of hx⟩,h ρ σ S1 H1 _ x ⟨A,Λ,Φ,f1⟩ q2 fun u fu S2 H2 z2 ou nd n=>?_⟩
        have f2:=f1.ext z2
        obtain ⟨a',xs',g1,e1,hx',hw',nd1,in1,up⟩:=f2.at q0 q3 ev (wk.mono (z2.same f1.sub))
        cases e1
        have fr:∀ b ∈ fu,(∀ (j:Nat) o',ρ[j]? = some (.ow o') -> b ∉ Φ j) /\ S2 b = none /\ A b = none:=fun b hb=>⟨(f1.fresh (n b hb).1).1,(n b hb).2,(f1.fresh (n b hb).1).2.2⟩
        have fa:∀ b ∈ fu,b ∉ a :: g1:=fun b hb z=>(fr b hb).1 i o q0 (in1 b z)
        obtain ⟨na,ng⟩:=List.nodup_cons.mp nd1
        refine ⟨a,xs',u,rfl,rfl,hx',?_,?_⟩
        ·rw [<- hw'.length];exact Nat.lt_trans hl fK
        ·refine k σ S2 _ (up (l ++ [x]) (xs' ++ [u]) (g1 ++ fu) (fun H' ne=>?_) ?_ fun b hb=>?_) (z1.sh.trans z2.sh)
         ·have:=(hw'.mono (H':=H') (Same.refl _) fun b hb=>ne b fun z=>na (z ▸ hb)).append (.cons (ou.mono (H':=H') (Same.refl _) fun b hb=>ne b fun z=>fa b hb (z ▸ List.mem_cons_self)) .nil)
          rw [List.append_nil] at this
          exact this
         ·refine List.nodup_cons.mpr ⟨fun z=>?_,List.nodup_append.mpr ⟨ng,nd,fun b hb c hc e=>fa c hc (e ▸ List.mem_cons_of_mem _ hb)⟩⟩
          rcases List.mem_append.mp z with z | z
          ·exact na z
          ·exact fa a z List.mem_cons_self
         ·rcases List.mem_append.mp hb with hb | hb
          ·exact .inl hb
          ·exact .inr (fr b hb)
       ·cases y
@[simp] noncomputable def Pa (i:Nat) (p:XP) (j:Nat):XS:=fun ρ=>match ρ[i]? with
 | some (.ow o)=>(p ρ).bind fun is=>match c9 o is with
  | some (.lst l)=>(match l.getLast? with
   | some (.sh d)=>some (.nx ((ρ.set i (.ow (iW o is (.lst l.dropLast)))).set j (.sh d)))
   | _=>none)
  | _=>none
 | _=>none
@[simp] noncomputable def Pf (i:Nat) (p:XP):XS:=fun ρ=>match ρ[i]? with
 | some (.ow o)=>(p ρ).bind fun is=>match c9 o is with
  | some (.lst l)=>(match shs l with | some ds=>some (.nx (ρ.set i (.ow (iW o is (.lst (ds.reverse.map .sh)))))) | none=>none)
  | _=>none
 | _=>none
noncomputable def rExtM:V -> List V -> Hp -> VK -> Prop:=fun x vs H Q=>∃ l b xs zs,x = .ref l /\ vs = [.ref b] /\ H l = some (.lst xs) /\ Rd H b (.lst zs) /\ xs.length + zs.length <= sizeLine /\ Q .non (upd H l (.lst (xs ++ zs)))
@[simp] noncomputable def uh (i:Nat) (p:XP) (e:XE):XS:=fun ρ=>match ρ[i]? with
 | some (.ow o)=>(p ρ).bind fun is=>(e ρ).bind fun d=>match c9 o is,d with
  | some (.lst l),.lst ds=>if l.length + ds.length <= LIM then some (.nx (ρ.set i (.ow (iW o is (.lst (l ++ ds.map .sh)))))) else none
  | _,_=>none
 | _=>none
theorem Km {to te:TE} {i:Nat}   (hp:Bq K to i p) (h:SE K te e):SS K (rT (tBM K "list" rExtM to (ig te rV))) (uh i p e):=fun A Λ ρ σ S H E out r y k=>by
 unfold uh at y
 cases q0:ρ[i]? with
 | none=>rw [q0] at y;cases y
 | some s=>
  rw [q0] at y
  cases s with
  | un | lo | sh _=>cases y
  | ow o=>
   dsimp only at y
   cases q1:p ρ with
   | none=>rw [q1] at y;cases y
   | some is=>
    rw [q1] at y
    dsimp only [Option.bind] at y
    cases q2:e ρ with
    | none=>rw [q2] at y;cases y
    | some dd=>
     rw [q2] at y
     dsimp only at y
     cases q3:c9 o is with
     | none=>rw [q3] at y;cases y
     | some qo=>
      rw [q3] at y
      cases qo with
      | sh _ | dic _ | hd _ _ _ | tup _=>cases y
      | lst l=>
       cases dd with
       | lst ds=>
        dsimp only at y
        split at y
        ·rename_i hl
         cases y
         obtain ⟨Φ,f⟩:=r
         refine hp ρ σ S H _ is o _ ⟨A,Λ,Φ,f⟩ q0 q1 q3 fun v w S1 H1 ev z1 wk=>?_
         have f1:=f.ext z1
         obtain ⟨a,xs,g0,rfl,hx,hw,nd0,in0,_⟩:=f1.at q0 q3 ev wk
         refine ⟨.inl ⟨rfl,xs,SqL.of hx⟩,h ρ σ S1 H1 _ _ ⟨A,Λ,Φ,f1⟩ q2 fun u S2 H2 z2 d2=>?_⟩
         have f2:=f1.ext z2
         obtain ⟨a',xs',g1,e1,hx',hw',nd1,in1,up⟩:=f2.at q0 q3 ev (wk.mono (z2.same f1.sub))
         cases e1
         obtain ⟨b,zs,rfl,hb,dz⟩:=den_lst.mp d2
         obtain ⟨na,ng⟩:=List.nodup_cons.mp nd1
         refine ⟨a,b,xs',zs,rfl,rfl,hx',bS z2.sub hb,?_,?_⟩
         ·rw [<- hw'.length,<- dz.length];exact Nat.le_of_lt (Nat.lt_of_le_of_lt hl fK)
         ·refine k σ S2 _ (up (l ++ ds.map .sh) (xs' ++ zs) g1 (fun H' ne=>?_) nd1 fun b hb=>.inl hb) (z1.sh.trans z2.sh)
          have:=(hw'.mono (H':=H') (Same.refl _) fun b hb=>ne b fun z=>na (z ▸ hb)).append (pr (H:=H') dz)
          rw [List.append_nil] at this
          exact this
        ·cases y
       | _=>cases y
@[simp] noncomputable def Bf (i:Nat) (p:XP) (ix e:XE):XS:=fun ρ=>(e ρ).bind fun d=>match ρ[i]? with
 | some (.ow o)=>(p ρ).bind fun is=>(ix ρ).bind fun k=>match c9 o is,k with
  | some (.lst l),.int k=>(match shs l with | some ds=>(ixN ds.length k).map fun j=>.nx (ρ.set i (.ow (iW o is (.lst ((ds.set j d).map .sh))))) | none=>none)
  | _,_=>none
 | _=>none
theorem Kv {to te:TE} {i:Nat}   (h:SE K te e) (hp:Bq K to i p) (hi:SPk K ti ix):SS K (vH te (Jq to ti Fg)) (Bf i p ix e):=fun A Λ ρ σ S H E out r y k=>by
 unfold Bf at y
 cases q:e ρ with
 | none=>rw [q] at y;cases y
 | some d=>
  rw [q] at y
  dsimp only [Option.bind] at y
  cases q0:ρ[i]? with
  | none=>rw [q0] at y;cases y
  | some s=>
   rw [q0] at y
   cases s with
   | un | lo | sh _=>cases y
   | ow o=>
    dsimp only at y
    cases q1:p ρ with
    | none=>rw [q1] at y;cases y
    | some is=>
     rw [q1] at y
     dsimp only at y
     cases q2:ix ρ with
     | none=>rw [q2] at y;cases y
     | some dk=>
      rw [q2] at y
      dsimp only at y
      cases q3:c9 o is with
      | none=>rw [q3] at y;cases y
      | some qo=>
       rw [q3] at y
       cases qo with
       | sh _ | dic _ | hd _ _ _ | tup _=>cases y
       | lst l=>
        cases dk with
        | int kk=>
         dsimp only at y
         cases q4:shs l with
         | none=>rw [q4] at y;cases y
         | some ds=>
          rw [q4] at y
          dsimp only at y
          cases q5:ixN ds.length kk with
          | none=>rw [q5] at y;cases y
          | some j=>
           rw [q5] at y
           cases y
           have ed:=zw q4
           subst ed
           obtain ⟨Φ,f⟩:=r
           refine h ρ σ S H _ d ⟨A,Λ,Φ,f⟩ q fun u S0 H0 z0 d0=>?_
           have f0:=f.ext z0
           refine hp ρ σ S0 H0 _ is o _ ⟨A,Λ,Φ,f0⟩ q0 q1 q3 fun v w S1 H1 ev z1 wk=>?_
           have f1:=f0.ext z1
           refine hi ρ σ S1 H1 _ _ ⟨A,Λ,Φ,f1⟩ q2 fun w2 S2 H2 z2 d2=>?_
           have f2:=f1.ext z2
           obtain ⟨a',xs',g1,rfl,hx',hw',nd1,in1,up⟩:=f2.at q0 q3 ev (wk.mono (z2.same f1.sub))
           obtain ⟨hd,rfl⟩:=lv hw'
           refine ⟨a',xs',kk,j,rfl,d2.int,hx',by rw [<- hd.length];exact q5,?_⟩
           exact k σ S2 _ (up ((ds.set j d).map .sh) (xs'.set j u) [] (fun H' ne=>pr (hd.set j ((d0.mono z1.sh).mono z2.sh))) nd1 fun b hb=>by cases hb) ((z0.sh.trans z1.sh).trans z2.sh)
        | _=>cases y
@[simp] noncomputable def HV (i:Nat) (e:XE) (f:D -> D -> Option D):XS:=fun ρ=>match ρ[i]? with
 | some (.sh x)=>(e ρ).bind fun y=>(f x y).map fun z=>.nx (ρ.set i (.sh z))
 | _=>none
theorem Mn {te:TE}  {i:Nat}   (h:SPk K te e) (hr:SR2 K ti f):SS K (KI i te ti) (HV i e f):=fun A Λ ρ σ S H E o r y k=>by
 unfold HV at y
 cases q0:ρ[i]? with
 | none=>rw [q0] at y;cases y
 | some s=>
  rw [q0] at y
  cases s with
  | un | lo | ow _=>cases y
  | sh x=>
   dsimp only at y
   cases q:e ρ with
   | none=>rw [q] at y;cases y
   | some d=>
    rw [q] at y
    dsimp only [Option.bind] at y
    cases q2:f x d with
    | none=>rw [q2] at y;cases y
    | some g=>
     rw [q2] at y
     cases y
     obtain ⟨v,h1,h2⟩:=r.sh i x q0
     refine ⟨v,h1,h ρ σ S H _ d r.toRl q fun w S1 H1 z1 d1=>?_⟩
     exact hr S1 H1 v w x d g _ z1.sub (.inl (h2.mono z1.sh)) d1 q2 fun u S2 H2 z2 d2=>k _ S2 H2 ((r.ext (z1.trans z2)).set i d2) (z1.sh.trans z2.sh)
@[simp] noncomputable def O0 (e:XE):XS:=fun ρ=>(e ρ).map fun _=>.nx ρ
end
section
variable {K:W.Frag} {S S' H H':Hp}
def Walks (K:W.Frag) (J:It) (S:Hp) (l:List D):Prop:=∀ S' H',Same S S' -> Same S' H' ->
 (∀ i d,l[i]? = some d -> J.go i H' /\ ∀ x H'',J.yld i H' x H'' -> H'' = H' /\ Den K S' d x) /\ J.stop l.length H'
def SI (K:W.Frag) (wi:TI) (e:XA):Prop:=∀ ρ σ S H (R:It -> Hp -> Prop) l,Rl K ρ σ S H -> e ρ = some l -> (∀ J S' H',Ext S H S' H' -> Walks K J S' l -> R J H') -> wi σ H R
noncomputable def mN:D -> Option (List D)
 | .lst l=>some l | .tup l=>some l | .scr l=>some l | .mtp l=>some l | _=>none
def IR (K:W.Frag) (J:It) (S H:Hp) (l:List D):Prop:=∀ S' H',Ext S H S' H' ->
 (∀ i d,l[i]? = some d -> J.go i H' /\ ∀ x H'',J.yld i H' x H'' -> H'' = H' /\ Den K S' d x) /\ J.stop l.length H'
def SIP (K:W.Frag) (wi:TI) (e:XA):Prop:=∀ ρ σ S H (R:It -> Hp -> Prop) l,Rl K ρ σ S H -> e ρ = some l -> (∀ J S' H',Ext S H S' H' -> IR K J S' H' l -> R J H') -> wi σ H R
theorem SI.p {wi:TI} {e:XA} (h:SI K wi e):SIP K wi e:=fun ρ σ S H R l r x k=>h ρ σ S H R l r x fun J S' H' z w=>k J S' H' z fun S2 H2 z2=>w S2 H2 z2.sh z2.sub
@[simp] noncomputable def xIt (e:XE):XA:=fun ρ=>(e ρ).bind mN
theorem Lz {tl:TE}  (h:SE K tl e):SI K (Jt K tl) (xIt e):=fun ρ σ S H R l r x k=>by
 unfold xIt at x
 cases q:e ρ with
 | none=>rw [q] at x;cases x
 | some d=>
  rw [q] at x
  dsimp only [Option.bind] at x
  refine h ρ σ S H _ d r q fun v S1 H1 z1 d1=>?_
  cases d with
  | lst l'=>
   cases x
   obtain ⟨p,xs,rfl,h1,h2⟩:=den_lst.mp d1
   refine ⟨p,rfl,.inl ⟨⟨xs,.inl (bS z1.sub h1)⟩,k _ S1 H1 z1 fun S' H' s1 s2=>⟨fun i d hd=>?_,xs,.inl (bS (s1.trans s2) h1),Nat.le_of_eq h2.length.symm⟩⟩⟩
   obtain ⟨y,e1,e2⟩:=h2.get hd
   refine ⟨⟨xs,y,.inl (bS (s1.trans s2) h1),e1⟩,fun x H'' hy=>⟨hy.1,?_⟩⟩
   have:=hy.2 xs (.inl (bS (s1.trans s2) h1))
   rw [e1] at this
   cases this
   exact e2.mono s1
  | tup l'=>
   cases x
   obtain ⟨p,xs,rfl,h1,h2⟩:=eS d1
   refine ⟨p,rfl,.inr ⟨⟨xs,aC z1.sub h1⟩,k _ S1 H1 z1 fun S' H' s1 s2=>⟨fun i d hd=>?_,xs,aC (s1.trans s2) h1,Nat.le_of_eq h2.length.symm⟩⟩⟩
   obtain ⟨y,e1,e2⟩:=h2.get hd
   refine ⟨⟨xs,y,aC (s1.trans s2) h1,e1⟩,fun x H'' hy=>⟨hy.1,?_⟩⟩
   have:=hy.2 xs (aC (s1.trans s2) h1)
   rw [e1] at this
   cases this
   exact e2.mono s1
  | mtp l'=>
   cases x
   obtain ⟨p,xs,rfl,h1,h2⟩:=den_mtp.mp d1
   refine ⟨p,rfl,.inr ⟨⟨xs,aC z1.sub h1⟩,k _ S1 H1 z1 fun S' H' s1 s2=>⟨fun i d hd=>?_,xs,aC (s1.trans s2) h1,Nat.le_of_eq h2.length.symm⟩⟩⟩
   obtain ⟨y,e1,e2⟩:=h2.get hd
   refine ⟨⟨xs,y,aC (s1.trans s2) h1,e1⟩,fun x H'' hy=>⟨hy.1,?_⟩⟩
   have:=hy.2 xs (aC (s1.trans s2) h1)
   rw [e1] at this
   cases this
   exact e2.mono s1
  | scr l'=>
   cases x
   obtain ⟨p,xs,rfl,h1,h2⟩:=den_scr.mp d1
   refine ⟨p,rfl,.inl ⟨⟨xs,c7 z1.sub h1⟩,k _ S1 H1 z1 fun S' H' s1 s2=>⟨fun i d hd=>?_,xs,c7 (s1.trans s2) h1,Nat.le_of_eq h2.length.symm⟩⟩⟩
   obtain ⟨y,e1,e2⟩:=h2.get hd
   refine ⟨⟨xs,y,c7 (s1.trans s2) h1,e1⟩,fun x H'' hy=>⟨hy.1,?_⟩⟩
   have:=hy.2 xs (c7 (s1.trans s2) h1)
   rw [e1] at this
   cases this
   exact e2.mono s1
  | _=>cases x
noncomputable def ifC {α:Type} (p:Prop) (a b:α):α:=@ite α p (Classical.propDecidable p) a b
theorem dg {α:Type} {p:Prop} {a b:α} (h:p):ifC p a b = a:=by unfold ifC;exact if_pos h
theorem gX {α:Type} {p:Prop} {a x:α} (h:ifC p (some a) none = some x):p /\ a = x:=by
 unfold ifC at h
 by_cases c:p
 ·rw [if_pos c] at h;exact ⟨c,Option.some.inj h⟩
 ·rw [if_neg c] at h;cases h
theorem Jw {tl:TE}  (h:SPk K tl e):SIP K (Jt K tl) (xIt e):=fun ρ σ S H R l r x k=>by
 unfold xIt at x
 cases q:e ρ with
 | none=>rw [q] at x;cases x
 | some d=>
  rw [q] at x
  dsimp only [Option.bind] at x
  refine h ρ σ S H _ d r q fun v S1 H1 z1 d1=>?_
  rcases d1 with d1 | ⟨l',p,xs,rfl,rfl,hx,dx⟩
  ·cases d with
   | lst l'=>
    cases x
    obtain ⟨p,xs,rfl,h1,h2⟩:=den_lst.mp d1
    refine ⟨p,rfl,.inl ⟨⟨xs,.inl (bS z1.sub h1)⟩,k _ S1 H1 z1 fun S' H' z2=>⟨fun i d hd=>?_,xs,.inl (bS (z2.sh.trans z2.sub) h1),Nat.le_of_eq h2.length.symm⟩⟩⟩
    obtain ⟨y,e1,e2⟩:=h2.get hd
    refine ⟨⟨xs,y,.inl (bS (z2.sh.trans z2.sub) h1),e1⟩,fun x H'' hy=>⟨hy.1,?_⟩⟩
    have:=hy.2 xs (.inl (bS (z2.sh.trans z2.sub) h1))
    rw [e1] at this
    cases this
    exact e2.mono z2.sh
   | tup l'=>
    cases x
    obtain ⟨p,xs,rfl,h1,h2⟩:=eS d1
    refine ⟨p,rfl,.inr ⟨⟨xs,aC z1.sub h1⟩,k _ S1 H1 z1 fun S' H' z2=>⟨fun i d hd=>?_,xs,aC (z2.sh.trans z2.sub) h1,Nat.le_of_eq h2.length.symm⟩⟩⟩
    obtain ⟨y,e1,e2⟩:=h2.get hd
    refine ⟨⟨xs,y,aC (z2.sh.trans z2.sub) h1,e1⟩,fun x H'' hy=>⟨hy.1,?_⟩⟩
    have:=hy.2 xs (aC (z2.sh.trans z2.sub) h1)
    rw [e1] at this
    cases this
    exact e2.mono z2.sh
   | mtp l'=>
    cases x
    obtain ⟨p,xs,rfl,h1,h2⟩:=den_mtp.mp d1
    refine ⟨p,rfl,.inr ⟨⟨xs,aC z1.sub h1⟩,k _ S1 H1 z1 fun S' H' z2=>⟨fun i d hd=>?_,xs,aC (z2.sh.trans z2.sub) h1,Nat.le_of_eq h2.length.symm⟩⟩⟩
    obtain ⟨y,e1,e2⟩:=h2.get hd
    refine ⟨⟨xs,y,aC (z2.sh.trans z2.sub) h1,e1⟩,fun x H'' hy=>⟨hy.1,?_⟩⟩
    have:=hy.2 xs (aC (z2.sh.trans z2.sub) h1)
    rw [e1] at this
    cases this
    exact e2.mono z2.sh
   | scr l'=>
    cases x
    obtain ⟨p,xs,rfl,h1,h2⟩:=den_scr.mp d1
    refine ⟨p,rfl,.inl ⟨⟨xs,c7 z1.sub h1⟩,k _ S1 H1 z1 fun S' H' z2=>⟨fun i d hd=>?_,xs,c7 (z2.sh.trans z2.sub) h1,Nat.le_of_eq h2.length.symm⟩⟩⟩
    obtain ⟨y,e1,e2⟩:=h2.get hd
    refine ⟨⟨xs,y,c7 (z2.sh.trans z2.sub) h1,e1⟩,fun x H'' hy=>⟨hy.1,?_⟩⟩
    have:=hy.2 xs (c7 (z2.sh.trans z2.sub) h1)
    rw [e1] at this
    cases this
    exact e2.mono z2.sh
   | _=>cases x
  ·cases x
   refine ⟨p,rfl,.inl ⟨⟨xs,SqL.of hx⟩,k _ S1 H1 z1 fun S' H' z2=>?_⟩⟩
   have hx2:H' p = some (.lst xs):=z2.same z1.sub _ _ hx
   refine ⟨fun i d hd=>?_,xs,SqL.of hx2,Nat.le_of_eq dx.length.symm⟩
   obtain ⟨y,e1,e2⟩:=dx.get hd
   refine ⟨⟨xs,y,SqL.of hx2,e1⟩,fun x H'' hy=>⟨hy.1,?_⟩⟩
   have:=hy.2 xs (SqL.of hx2)
   rw [e1] at this
   cases this
   exact e2.mono z2.sh
noncomputable def eY (lo:Int):Nat -> List D
 | 0=>[]
 | n + 1=>.int lo :: eY (lo + 1) n
theorem nr:∀ (n:Nat) (lo:Int) (i:Nat) (d:D),(eY lo n)[i]? = some d -> i < n /\ d = .int (lo + i)
 | 0,_,_,_,h=>by simp [eY] at h
 | n + 1,lo,0,d,h=>by simp [eY] at h;exact ⟨Nat.succ_pos _,by rw [<- h];simp⟩
 | n + 1,lo,i + 1,d,h=>by
  obtain ⟨h1,h2⟩:=nr n (lo + 1) i d (by simpa [eY] using h)
  exact ⟨Nat.succ_lt_succ h1,by rw [h2];congr 1;lia⟩
theorem nu:∀ (n:Nat) (lo:Int),(eY lo n).length = n
 | 0,_=>rfl
 | n + 1,lo=>by rw [eY,List.length_cons,nu n]
theorem C3 (lo:Int) (n:Nat):Walks K (Itr lo n) S (eY lo n):=fun S' H' _ _=>⟨fun i d h=>by
 obtain ⟨h1,rfl⟩:=nr n lo i d h
 exact ⟨h1,fun x H'' y=>⟨y.1,den_int.mpr y.2⟩⟩,by rw [nu];exact Nat.le_refl _⟩
noncomputable def Fm:List D -> Option (List D)
 | [.int j]=>ifC (j < 1000000 /\ -1000000 < j) (some (eY 0 j.toNat)) none
 | [.int i,.int j]=>ifC (j < 4000000000000000000 /\ -4000000000000000000 < i /\ i < 4000000000000000000 /\ -4000000000000000000 < j) (some (eY i (j - i).toNat)) none
 | _=>none
@[simp] noncomputable def F8 (a:XA):XA:=fun ρ=>(a ρ).bind Fm
theorem Ju {ta:TE}  (h:SPk K ta a):SI K (Ih (ig ta rV)) (F8 (ab a aj)):=fun ρ σ S H R l r x k=>by
 unfold F8 at x
 cases q:ab a aj ρ with
 | none=>rw [q] at x;cases x
 | some ds=>
  rw [q] at x
  obtain ⟨d,e,qa,qb,rfl⟩:=mX q
  cases qb
  cases d with
  | int j=>
   have x':ifC (j < 1000000 /\ -1000000 < j) (some (eY 0 j.toNat)) none = some l:=x
   obtain ⟨hj,rfl⟩:=gX x'
   refine h ρ σ S H _ _ r qa fun v S1 H1 z1 d1=>?_
   refine ⟨j,by rw [d1.int],?_,?_,k _ S1 H1 z1 (C3 0 _)⟩
   ·have:(2:Int) ^ 62 = 4611686018427387904:=by decide
    lia
   ·have:(2:Int) ^ 62 = 4611686018427387904:=by decide
    lia
  | _=>cases x
noncomputable def DQ:Nat -> Nat -> List D
 | _,0=>[]
 | k,n + 1=>.int (2 * k) :: DQ (k + 1) n
noncomputable def Mi:List D -> Option (List D)
 | [.int a,.int j,.int b]=>ifC (a = 0 /\ b = 2 /\ 0 <= j /\ j < 1000000) (some (DQ 0 ((j + 1) / 2).toNat)) none
 | _=>none
@[simp] noncomputable def Ph (a:XA):XA:=fun ρ=>(a ρ).bind Mi
noncomputable def cT (g:XG) (m:XS):List D -> Env -> Option Out
 | [],ρ=>some (.nx ρ)
 | d :: l,ρ=>(g d ρ).bind fun ρ1=>match m ρ1 with
  | some (.nx ρ2)=>cT g m l ρ2
  | some (.ct ρ2)=>cT g m l ρ2
  | some (.bk ρ2)=>some (.nx ρ2)
  | some (.rt d)=>some (.rt d)
  | some (.ro d)=>some (.ro d)
  | none=>none
@[simp] noncomputable def d8 (e:XA) (g:XG) (m:XS):XS:=fun ρ=>(e ρ).bind fun l=>cT g m l ρ
theorem wJ {l:List D} {i:Nat} {d:D} (h:l[i]? = some d):l.drop i = d :: l.drop (i + 1):=by
 obtain ⟨h1,rfl⟩:=List.getElem?_eq_some_iff.mp h
 exact List.drop_eq_getElem_cons h1
theorem Mr {wi:TI}  {tb:TS}    (hi:SI K wi e) (hg:SG K g x) (hb:SS K tb m):SS K (KJ wi g tb) (d8 e x m):=fun A Λ ρ σ S H E o r y k=>by
 unfold d8 at y
 cases q:e ρ with
 | none=>rw [q] at y;cases y
 | some l=>
  rw [q] at y
  dsimp only [Option.bind] at y
  refine hi ρ σ S H _ l r.toRl q fun J S1 H1 z1 wk=>?_
  have r1:=r.ext z1
  refine ⟨fun i n σ' H'=>n = l.length - i /\ i <= l.length /\ ∃ ρ' S',RlA K A Λ ρ' σ' S' H' /\ Same S1 S' /\ cT x m (l.drop i) ρ' = some o,⟨_,rfl,Nat.zero_le _,ρ,S1,r1,Same.refl _,y⟩,?_⟩
  rintro i n σ2 H2 ⟨rfl,hil,ρ2,S2,r2,s2,y2⟩
  obtain ⟨w1,w2⟩:=wk S2 H2 s2 r2.sub
  cases qd:l[i]? with
  | none=>
   have:l.length = i:=by have:=List.getElem?_eq_none_iff.mp qd;lia
   subst this
   rw [List.drop_of_length_le (Nat.le_refl _)] at y2
   cases y2
   exact .inl ⟨w2,k σ2 S2 H2 r2 (z1.sh.trans s2)⟩
  | some d=>
   obtain ⟨g1,g2⟩:=w1 i d qd
   have hlt:=(List.getElem?_eq_some_iff.mp qd).1
   rw [wJ qd] at y2
   unfold cT at y2
   cases qx:x d ρ2 with
   | none=>rw [qx] at y2;cases y2
   | some ρ3=>
    rw [qx] at y2
    dsimp only [Option.bind] at y2
    refine .inr ⟨g1,fun σ' H'=>∃ ρ' S',RlA K A Λ ρ' σ' S' H' /\ Same S1 S' /\ cT x m (l.drop (i + 1)) ρ' = some o,fun σ' H' ⟨ρ',S',a1,a2,a3⟩=>⟨_,by lia,rfl,hlt,ρ',S',a1,a2,a3⟩,fun xv H3 hy=>?_⟩
    obtain ⟨rfl,dx⟩:=g2 xv H3 hy
    refine hg A Λ ρ2 σ2 S2 H3 xv d _ ρ3 r2 dx qx fun σ3 r3=>?_
    cases qm:m ρ3 with
    | none=>rw [qm] at y2;cases y2
    | some om=>
     rw [qm] at y2
     refine hb A Λ ρ3 σ3 S2 H3 _ om r3 qm ?_
     cases om with
     | nx ρ4=>exact fun σ4 S4 H4 r4 s4=>⟨ρ4,S4,r4,s2.trans s4,y2⟩
     | ct ρ4=>exact fun σ4 S4 H4 r4 s4=>⟨ρ4,S4,r4,s2.trans s4,y2⟩
     | bk ρ4=>cases y2;exact fun σ4 S4 H4 r4 s4=>k σ4 S4 H4 r4 ((z1.sh.trans s2).trans s4)
     | rt d4=>cases y2;exact fun v S4 H4 s4=>k v S4 H4 ((z1.sh.trans s2).trans s4)
     | ro d4=>cases y2;exact fun v fp S4 H4 s4=>k v fp S4 H4 ((z1.sh.trans s2).trans s4)
noncomputable def bE (c:XT) (m:XS):Nat -> Env -> Option Out
 | 0,_=>none
 | n + 1,ρ=>(c ρ).bind fun b=>if b = true then (match m ρ with
  | some (.nx ρ2)=>bE c m n ρ2
  | some (.ct ρ2)=>bE c m n ρ2
  | some (.bk ρ2)=>some (.nx ρ2)
  | some (.rt d)=>some (.rt d)
  | some (.ro d)=>some (.ro d)
  | none=>none) else some (.nx ρ)
theorem jU (c:XT) (m:XS):∀ (n:Nat) (ρ:Env) (o:Out),bE c m n ρ = some o -> bE c m (n + 1) ρ = some o
 | 0,_,_,h=>by cases h
 | n + 1,ρ,o,h=>by
  unfold bE at h ⊢
  cases qc:c ρ with
  | none=>rw [qc] at h;cases h
  | some b=>
   rw [qc] at h
   dsimp only [Option.bind] at h ⊢
   cases b with
   | false=>exact h
   | true=>
    rw [if_pos rfl] at h ⊢
    cases qm:m ρ with
    | none=>rw [qm] at h;cases h
    | some om=>
     rw [qm] at h
     cases om with
     | nx ρ2=>exact jU c m n ρ2 o h
     | ct ρ2=>exact jU c m n ρ2 o h
     | bk ρ2 | rt _ | ro _=>exact h
theorem lW (c:XT) (m:XS) (n:Nat) (ρ:Env) (o:Out) (h:bE c m n ρ = some o):∀ k,bE c m (n + k) ρ = some o
 | 0=>h
 | k + 1=>jU c m (n + k) ρ o (lW c m n ρ o h k)
noncomputable def mZ (c:XT) (m:XS):XS:=fun ρ=>by
 classical
 exact if h:∃ o n,bE c m n ρ = some o then some h.choose else none
noncomputable def d7 (c:XT) (m:XS):XS:=fun ρ=>(bE c m 64 ρ).or (mZ c m ρ)
theorem rY    {o o':Out} {n k:Nat} (h:bE c m n ρ = some o) (h':bE c m k ρ = some o'):o' = o:=by
 have h3:=lW c m n ρ o h k
 have h4:=lW c m k ρ _ h' n
 rw [Nat.add_comm k n,h3] at h4
 exact (Option.some.inj h4).symm
theorem uk   {n:Nat}  {o:Out} (h:bE c m n ρ = some o):d7 c m ρ = some o:=by
 unfold d7
 cases q:bE c m 64 ρ with
 | some o'=>exact congrArg some (rY h q)
 | none=>
  have hx:∃ o n,bE c m n ρ = some o:=⟨o,n,h⟩
  show mZ c m ρ = some o
  unfold mZ
  rw [dif_pos hx]
  obtain ⟨n2,h2⟩:=hx.choose_spec
  exact congrArg some (rY h h2)
theorem tV    {o:Out} (h:d7 c m ρ = some o):∃ n,bE c m n ρ = some o:=by
 unfold d7 at h
 cases q:bE c m 64 ρ with
 | some o'=>rw [q] at h;exact ⟨64,q.trans h⟩
 | none=>
  rw [q] at h
  have h:mZ c m ρ = some o:=h
  unfold mZ at h
  split at h
  ·rename_i hx
   cases h
   exact hx.choose_spec
  ·cases h
theorem Aj {c:XT}  {ρ:Env} (h:c ρ = some false):d7 c m ρ = some (.nx ρ):=uk (n:=1) (by unfold bE;rw [h];rfl)
theorem yw {c:XT} {m:XS} {ρ ρ2:Env} {o:Out} (h:c ρ = some true) (hm:m ρ = some (.nx ρ2)) (k:d7 c m ρ2 = some o):d7 c m ρ = some o:=by
 obtain ⟨n,hn⟩:=tV k
 exact uk (n:=n + 1) (by unfold bE;rw [h,hm];exact hn)
theorem Hu {tc:TT} {tb:TS}   (hc:ST K tc c) (hb:SS K tb m):SS K (Ac tc tb) (d7 c m):=fun A Λ ρ σ S H E o r y k=>by
 obtain ⟨n,hn⟩:=tV y
 refine ⟨fun n σ' H'=>∃ ρ' S',RlA K A Λ ρ' σ' S' H' /\ Same S S' /\ bE c m n ρ' = some o,⟨n,ρ,S,r,Same.refl _,hn⟩,?_⟩
 rintro n σ1 H1 ⟨ρ1,S1,r1,s1,h1⟩
 cases n with
 | zero=>cases h1
 | succ n=>
  unfold bE at h1
  cases qc:c ρ1 with
  | none=>rw [qc] at h1;cases h1
  | some b=>
   rw [qc] at h1
   dsimp only [Option.bind] at h1
   refine hc ρ1 σ1 S1 H1 _ b r1.toRl qc fun S2 H2 z2=>?_
   have r2:=r1.ext z2
   cases b with
   | false=>
    rw [if_neg (by decide)] at h1
    cases h1
    exact Eh (k σ1 S2 H2 r2 (s1.trans z2.sh))
   | true=>
    rw [if_pos rfl] at h1
    refine Ei ⟨fun σ' H'=>∃ ρ' S',RlA K A Λ ρ' σ' S' H' /\ Same S S' /\ bE c m n ρ' = some o,fun σ' H' a=>⟨n,Nat.lt_succ_self _,a⟩,?_⟩
    cases qm:m ρ1 with
    | none=>rw [qm] at h1;cases h1
    | some om=>
     rw [qm] at h1
     refine hb A Λ ρ1 σ1 S2 H2 _ om r2 qm ?_
     cases om with
     | nx ρ4=>exact fun σ4 S4 H4 r4 s4=>⟨ρ4,S4,r4,(s1.trans z2.sh).trans s4,h1⟩
     | ct ρ4=>exact fun σ4 S4 H4 r4 s4=>⟨ρ4,S4,r4,(s1.trans z2.sh).trans s4,h1⟩
     | bk ρ4=>cases h1;exact fun σ4 S4 H4 r4 s4=>k σ4 S4 H4 r4 ((s1.trans z2.sh).trans s4)
     | rt d4=>cases h1;exact fun v S4 H4 s4=>k v S4 H4 ((s1.trans z2.sh).trans s4)
     | ro d4=>cases h1;exact fun v fp S4 H4 s4=>k v fp S4 H4 ((s1.trans z2.sh).trans s4)
@[simp] noncomputable def uQ (js:List (Option Nat)) (ρ:Env):Env:=js.map fun o=>match o with | none=>.un | some j=>match ρ[j]? with | some (.sh d)=>.sh d | _=>.un
noncomputable def bF (g:XG) (c:XT) (e:XE) (ρ0:Env):List D -> Option (List D)
 | []=>some []
 | d :: l=>(g d ρ0).bind fun ρ1=>(c ρ1).bind fun b=>if b = true then (e ρ1).bind fun y=>(bF g c e ρ0 l).map fun r=>y :: r else bF g c e ρ0 l
@[simp] noncomputable def bq (js:List (Option Nat)) (w:XA) (g:XG) (c:XT) (e:XE):XA:=fun ρ=>(w ρ).bind fun l=>if l.length <= LIM then bF g c e (uQ js ρ) l else none
@[simp] noncomputable def cv:XT:=fun _=>some true
theorem MB:ST K Ie cv:=fun ρ σ S H Q b r x k=>by cases x;exact k S H (Ext.refl r.sub)
theorem mB {js:List (Option Nat)}  {i:Nat} {s:Sl} (h:(uQ js ρ)[i]? = some s):s = .un \/ ∃ d j,s = .sh d /\ js[i]? = some (some j) /\ ρ[j]? = some (.sh d):=by
 unfold uQ at h
 rw [List.getElem?_map] at h
 cases q:js[i]? with
 | none=>rw [q] at h;cases h
 | some o=>
  rw [q] at h
  cases o with
  | none=>cases h;exact .inl rfl
  | some j=>
   simp only [Option.map_some] at h
   cases q2:ρ[j]? with
   | none=>rw [q2] at h;cases h;exact .inl rfl
   | some s2=>
    rw [q2] at h
    cases s2 with
    | un=>cases h;exact .inl rfl
    | lo=>cases h;exact .inl rfl
    | ow l=>cases h;exact .inl rfl
    | sh d=>cases h;exact .inr ⟨d,j,rfl,rfl,q2⟩
noncomputable def i7 (S H:Hp):Hp:=fun b=>match S b with | none=>H b | some _=>none
theorem sW:Same (i7 S H) H:=fun b o h=>by
 unfold i7 at h
 cases q:S b with
 | none=>rw [q] at h;exact h
 | some _=>rw [q] at h;cases h
theorem sV {S:Hp} (b:Addr):S b = none \/ i7 S H b = none \/ ∃ u,i7 S H b = some u /\ IT u:=by
 unfold i7
 cases q:S b with
 | none=>exact .inl rfl
 | some _=>exact .inr (.inl rfl)
theorem wf {S H:Hp} {b:Addr} {o:HO} (h:H b = some o) (n:S b = none):i7 S H b = some o:=by
 unfold i7
 rw [n]
 exact h
theorem Kc   (r:Rl K ρ σ S H) (js:List (Option Nat)):RlA K (i7 S H) (fun _=>none) (uQ js ρ) (inn js σ) S H:=by
 refine ⟨fun _=>[],?_⟩
 exact {
  len:=by unfold uQ inn;rw [List.length_map,List.length_map]
  sub:=r.sub
  sh:=fun i d h=>by
   rcases mB h with e | ⟨d',j,e,h1,h2⟩
   ·cases e
   ·cases e
    obtain ⟨v,k1,k2⟩:=r.sh j d h2
    refine ⟨v,?_,k2⟩
    unfold inn
    rw [List.getElem?_map,h1]
    show some ((σ[j]?).join) = some (some v)
    rw [k1]
    rfl
  ow:=fun i o h=>by
   rcases mB h with e | ⟨d',j,e,h1,h2⟩
   ·cases e
   ·cases e
  dj:=fun i j o o' _ h=>by
   rcases mB h with e | ⟨d',j,e,h1,h2⟩
   ·cases e
   ·cases e
  lo:=fun i h=>by
   rcases mB h with e | ⟨d',j,e,h1,h2⟩
   ·cases e
   ·cases e
  asub:=sW
  adis:=sV }
theorem Ki {js:List (Option Nat)} {wi:TI}  {tt:TIf} {te:TE}     (hi:SIP K wi w) (hg:SG K g x) (hc:ST K tt c) (he:SE K te e):SF K (yo js wi g tt te) (bq js w x c e):=fun ρ σ S H Q l r y k=>by
 unfold bq at y
 cases q:w ρ with
 | none=>rw [q] at y;cases y
 | some ds=>
  rw [q] at y
  dsimp only [Option.bind] at y
  split at y
  ·rename_i hlim
   refine hi ρ σ S H _ ds r q fun J S1 H1 z1 wk D hD=>?_
   have r1:=r.ext z1
   have hD0:H D = none:=(z1.same r.sub).free hD
   -- the word: what is told so far,what is still to be told
   refine ⟨fun i n H'=>n = ds.length - i /\ i <= ds.length /\ ∃ S' done ys rest,Ext S1 H1 S' H' /\ Same S1 S' /\ H' D = some (.lst ys) /\ S' D = none /\ Dens K S' done ys /\ done.length <= i /\ bF x c e (uQ js ρ) (ds.drop i) = some rest /\ l = done ++ rest,
    ⟨_,rfl,Nat.zero_le _,S1,[],[],l,Ext.own z1.sub hD,Same.refl _,av,z1.sub.free hD,.nil,Nat.zero_le _,y,rfl⟩,?_⟩
   rintro i n H2 ⟨rfl,hil,S2,done,ys,rest,z2,s2,hy,hSD,dy,hdl,y2,rfl⟩
   obtain ⟨w1,w2⟩:=wk S2 H2 z2
   cases qd:ds[i]? with
   | none=>
    have:ds.length = i:=by have:=List.getElem?_eq_none_iff.mp qd;lia
    subst this
    rw [List.drop_of_length_le (Nat.le_refl _)] at y2
    cases y2
    rw [List.append_nil] at k
    exact .inl ⟨w2,k D ys S2 H2 (z1.trans z2) hD0 hSD hy dy⟩
   | some d=>
    obtain ⟨g1,g2⟩:=w1 i d qd
    have hlt:=(List.getElem?_eq_some_iff.mp qd).1
    rw [wJ qd] at y2
    unfold bF at y2
    cases qx:x d (uQ js ρ) with
    | none=>rw [qx] at y2;cases y2
    | some ρ3=>
     rw [qx] at y2
     dsimp only [Option.bind] at y2
     refine .inr ⟨g1,fun xv H3 hyl=>?_⟩
     obtain ⟨rfl,dx⟩:=g2 xv H3 hyl
     have ri:=Kc (r1.ext z2) js
     refine hg _ _ _ _ S2 H3 xv d _ ρ3 ri dx qx fun σ3 r3=>?_
     cases qc:c ρ3 with
     | none=>rw [qc] at y2;cases y2
     | some b=>
      rw [qc] at y2
      dsimp only at y2
      refine hc ρ3 σ3 S2 H3 _ b r3.toRl qc fun S4 H4 z4=>?_
      obtain ⟨al1,al2⟩:=z4.al D _ hy hSD
      cases b with
      | false=>
       rw [if_neg (by decide)] at y2
       exact Eh ⟨_,by lia,rfl,hlt,S4,done,ys,rest,z2.trans z4,s2.trans z4.sh,al1,al2,dy.mono z4.sh,by lia,y2,rfl⟩
      | true=>
       rw [if_pos rfl] at y2
       cases qe:e ρ3 with
       | none=>rw [qe] at y2;cases y2
       | some dv=>
        rw [qe] at y2
        dsimp only at y2
        cases qr:bF x c e (uQ js ρ) (ds.drop (i + 1)) with
        | none=>rw [qr] at y2;cases y2
        | some rest2=>
         rw [qr] at y2
         cases y2
         refine Ei (he ρ3 σ3 S4 H4 _ dv (r3.toRl.ext z4) qe fun v S5 H5 z5 d5=>?_)
         obtain ⟨b1,b2⟩:=z5.al D _ al1 al2
         refine ⟨ys,b1,?_,_,by lia,rfl,hlt,S5,done ++ [dv],ys ++ [v],rest2,?_,(s2.trans z4.sh).trans z5.sh,av,b2,((dy.mono z4.sh).mono z5.sh).append (.cons d5 .nil),by rw [List.length_append,List.length_singleton];lia,qr,by rw [List.append_assoc];rfl⟩
         ·rw [<- dy.length]
          exact Nat.lt_of_lt_of_le (Nat.lt_of_le_of_lt hdl hlt) (Nat.le_trans hlim (Nat.le_of_lt fK))
         ·have z6:=(z2.trans z4).trans z5
          exact ⟨z6.sh,fun b u hb=>by rw [aw fun z=>by subst z;rw [b2] at hb;cases hb];exact z6.sub b u hb,fun b o hb hn=>by
           obtain ⟨c1,c2⟩:=z6.alw b o hb hn
           exact ⟨by rw [aw fun z=>by subst z;rw [hD] at hb;cases hb];exact c1,c2⟩⟩
  ·cases y
@[simp] noncomputable def O3 (i:Nat) (g:XG) (m:XS):XS:=fun ρ=>match ρ[i]? with
 | some (.ow (.lst os))=>(match shs os with
  | some l=>(match cT g m l (ρ.set i .lo) with
   | some (.nx ρ')=>(match ρ'[i]? with | some .lo=>some (.nx (ρ'.set i (.ow (.lst os)))) | _=>none)
   | some (.rt d)=>some (.rt d)
   | _=>none)
  | none=>none)
 | _=>none
noncomputable def fnO (n:Nat) (x:XS) (ds:List D):Option O:=match x (ds.map .sh ++ List.replicate (n - ds.length) .un) with
 | some (.rt d)=>some (.sh d)
 | some (.ro o)=>some o
 | some (.nx _)=>some (.sh .non)
 | _=>none
theorem Fl {N:List Str} {ds:List D}  (s:Same S H) (h:Dens K S ds vs):RlA K (i7 S H) (fun _=>none) (ds.map .sh ++ List.replicate (N.length - ds.length) .un) (L2.eT N vs) S H:=by
 have hl:=h.length
 have key:∀ (i:Nat) t,(ds.map Sl.sh ++ List.replicate (N.length - ds.length) .un)[i]? = some t -> t = .un \/ ∃ d v,t = .sh d /\ (L2.eT N vs)[i]? = some (some v) /\ Den K S d v:=fun i t ht=>by
  by_cases hi:i < ds.length
  ·rw [List.getElem?_append_left (by rw [List.length_map];exact hi),List.getElem?_map] at ht
   cases q:ds[i]? with
   | none=>rw [q] at ht;cases ht
   | some d=>
    rw [q] at ht
    cases ht
    obtain ⟨v,e1,e2⟩:=h.get q
    refine .inr ⟨d,v,rfl,?_,e2⟩
    unfold L2.eT
    rw [List.getElem?_append_left (by rw [List.length_map];lia),List.getElem?_map,e1]
    rfl
  ·rw [List.getElem?_append_right (by rw [List.length_map];lia),List.getElem?_replicate] at ht
   split at ht
   ·cases ht;exact .inl rfl
   ·cases ht
 refine ⟨fun _=>[],?_⟩
 exact {
  len:=by unfold L2.eT;rw [List.length_append,List.length_append,List.length_map,List.length_map,List.length_replicate,List.length_replicate,hl]
  sub:=s
  sh:=fun i d hi=>by
   rcases key i _ hi with e | ⟨d',v,e,h1,h2⟩
   ·cases e
   ·cases e;exact ⟨v,h1,h2⟩
  ow:=fun i o hi=>by
   rcases key i _ hi with e | ⟨d',v,e,h1,h2⟩
   ·cases e
   ·cases e
  dj:=fun i j o o' _ hi=>by
   rcases key i _ hi with e | ⟨d',v,e,h1,h2⟩
   ·cases e
   ·cases e
  lo:=fun i hi=>by
   rcases key i _ hi with e | ⟨d',v,e,h1,h2⟩
   ·cases e
   ·cases e
  asub:=sW
  adis:=sV }
theorem xY   {N:List Str} {n k:Nat}     (hs:SS K t x) (hN:N.length = n) (h:bD K k (fnO n x) vs H Q E) :
  t { nx:=fun _ H'=>Q .non H',rt:=Q } (L2.eT N vs) H:=by
 obtain ⟨_,S,ds,d,s,dd,y,q⟩:=h
 subst hN
 unfold fnO at y
 have r:=Fl (N:=N) s dd
 have ex:∀ {S' H':Hp},Same S S' -> Same S' H' -> Same (i7 S H) H' -> (∀ b,S' b = none \/ i7 S H b = none \/ ∃ u,i7 S H b = some u /\ IT u) -> Ext S H S' H':=fun s1 s2 s3 s4=>⟨s1,s2,fun b o hb hn=>by
  have ha:=wf hb hn
  refine ⟨s3 b o ha,?_⟩
  rcases s4 b with z | z | ⟨u,z,hu⟩
  ·exact .inl z
  ·rw [ha] at z;cases z
  ·rw [ha] at z;cases z;exact .inr hu⟩
 cases qx:x (ds.map .sh ++ List.replicate (N.length - ds.length) .un) with
 | none=>rw [qx] at y;cases y
 | some o=>
  rw [qx] at y
  refine hs _ _ _ _ S H _ o r qx ?_
  cases o with
  | rt d'=>
   cases y
   exact fun v S' H' s1 s2 s3 s4 dv=>q v [] S' H' (ex s1 s2 s3 s4) (own_sh.mpr ⟨rfl,dv⟩) .nil fun b hb=>by cases hb
  | ro o'=>
   cases y
   refine fun v fp S' H' s1 s2 s3 s4 ow nd n=>q v fp S' H' (ex s1 s2 s3 s4) ow nd fun b hb=>⟨?_,(n b hb).1⟩
   cases qb:H b with
   | none=>rfl
   | some u=>
    have:=wf qb (s1.free (n b hb).1)
    rw [(n b hb).2] at this;cases this
  | nx ρ'=>
   cases y
   exact fun σ' S' H' r' s1=>q .non [] S' H' (ex s1 r'.sub r'.asub r'.adis) (own_sh.mpr ⟨rfl,den_non.mpr rfl⟩) .nil fun b hb=>by cases hb
  | bk ρ'=>cases y
  | ct ρ'=>cases y
end
noncomputable def dI (f:Int -> Int -> Option D):D -> D -> Option D
 | .int i,.int j=>f i j
 | _,_=>none
noncomputable def oQ:D -> D -> Option D:=dI fun i j=>ifC ((-18446744073709551616 < i /\ i < 18446744073709551616) \/ (-18446744073709551616 < j /\ j < 18446744073709551616)) (some (.int (i * j))) none
noncomputable def kQ:D -> D -> Option D:=dI fun i j=>ifC (0 < j /\ j < 1073741824) (some (.int (i / j))) none
noncomputable def iG:D -> D -> Option D:=dI fun i j=>ifC (0 < j) (some (.int (i % j))) none
noncomputable def wE:D -> D -> Option D:=dI fun i j=>ifC (0 <= j /\ j <= 1000000 /\ i.natAbs < 18446744073709551616) (some (.int (i ^ j.toNat))) none
noncomputable def dG:D -> D -> Option D:=dI fun i j=>some (.int (i - j))
noncomputable def dLt:D -> D -> Option D:=dI fun i j=>some (.bl (decide (i < j)))
noncomputable def dLe:D -> D -> Option D:=dI fun i j=>some (.bl (decide (i <= j)))
noncomputable def dGt:D -> D -> Option D:=dI fun i j=>some (.bl (decide (j < i)))
noncomputable def dGe:D -> D -> Option D:=dI fun i j=>some (.bl (decide (j <= i)))
noncomputable def j9:D -> Option D
 | .int i=>some (.int (-i))
 | _=>none
section
variable {K:W.Frag}
theorem r_i {C:Int -> Int -> Prop} {g:Int -> Int -> V} {f:Int -> Int -> Option D} (h:∀ i j d,f i j = some d -> C i j /\ nj d = some (g i j)):SR2 K (rI C g) (dI f):=fun S H x y d e z Q s dx dy q k=>by
 cases d <;> cases e <;> try cases q
 rename_i i j
 obtain ⟨h1,h2⟩:=h i j z q
 exact ⟨i,j,dx.int,dy.int,h1,k _ S H (Ext.refl s) (mj h2)⟩
theorem CC {g:Int -> Int -> V} {f:Int -> Int -> Option D} (h:∀ i j d,f i j = some d -> nj d = some (g i j)):SR2 K (rI0 g) (dI f):=fun S H x y d e z Q s dx dy q k=>by
 cases d <;> cases e <;> try cases q
 rename_i i j
 exact ⟨i,j,dx.int,dy.int,k _ S H (Ext.refl s) (mj (h i j z q))⟩
theorem Md:SR2 K (rI CMul fun i j=>.int (i * j)) oQ:=r_i fun i j d h=>by
 obtain ⟨c,rfl⟩:=gX h
 refine ⟨?_,rfl⟩
 unfold CMul
 have:(2:Int) ^ 64 = 18446744073709551616:=by decide
 rw [this]
 exact c
theorem Ma:SR2 K (rI K0 fun i j=>.int (i / j)) kQ:=r_i fun i j d h=>by
 obtain ⟨c,rfl⟩:=gX h
 exact ⟨c,rfl⟩
theorem Mc:SR2 K (rI (fun _ j=>0 < j) fun i j=>.int (i % j)) iG:=r_i fun i j d h=>by
 obtain ⟨c,rfl⟩:=gX h
 exact ⟨c,rfl⟩
theorem Me:SR2 K (rI II fun i j=>.int (i ^ j.toNat)) wE:=r_i fun i j d h=>by
 obtain ⟨c,rfl⟩:=gX h
 refine ⟨?_,rfl⟩
 unfold II
 have:(2:Nat) ^ 64 = 18446744073709551616:=by decide
 rw [this]
 exact c
theorem Mf:SR2 K (rI0 fun i j=>.int (i - j)) dG:=CC fun i j d h=>by cases h;rfl
theorem Mb:SR2 K (rI0 fun i j=>.bl (decide (i < j))) dLt:=CC fun i j d h=>by cases h;rfl
theorem Nr:SR2 K (rI0 fun i j=>.bl (decide (i <= j))) dLe:=CC fun i j d h=>by cases h;rfl
theorem Np:SR2 K (rI0 fun i j=>.bl (decide (j < i))) dGt:=CC fun i j d h=>by cases h;rfl
theorem No:SR2 K (rI0 fun i j=>.bl (decide (j <= i))) dGe:=CC fun i j d h=>by cases h;rfl
theorem Fi:SR1 K (rU fun i=>.int (-i)) j9:=fun S H x d g Q s dx q k=>by
 cases d <;> try cases q
 rename_i i
 exact ⟨i,dx.int,k _ S H (Ext.refl s) (den_int.mpr rfl)⟩
end
noncomputable def Iu:R2:=fun x y H Q=>∃ l b xs zs,x = .ref l /\ y = .ref b /\ Rd H l (.lst xs) /\ Rd H b (.lst zs) /\ xs.length + zs.length <= sizeLine /\ ∀ p,H p = none -> Q (.ref p) (upd H p (.lst (xs ++ zs)))
noncomputable def Iy (K:W.Frag):R2:=fun x y H Q=>∃ a b xs ys,x = .ref a /\ y = .ref b /\ SqT K H a xs /\ SqT K H b ys /\ xs.length + ys.length <= sizeLine /\
 (ys = [] -> Q (.ref a) H) /\ (xs = [] -> Q (.ref b) H) /\ ∀ p,H p = none -> Q (.ref p) (upd H p (.tup (xs ++ ys)))
noncomputable def Iw:R2:=fun x y H Q=>∃ i j,x = .str i /\ y = .str j /\ i.length + j.length <= sizeLine /\ Q (.str (i ++ j)) H
noncomputable def Fe (K:W.Frag):R2:=fun x y H Q=>(∃ i j,x = .int i /\ y = .int j /\ Q (.int (i + j)) H) \/ Iu x y H Q \/ Iy K x y H Q \/ Iw x y H Q
noncomputable def aR:D -> D -> Option D
 | .int i,.int j=>some (.int (i + j))
 | .lst a,.lst b=>if a.length + b.length <= LIM then some (.lst (a ++ b)) else none
 | .tup a,.tup b=>if a.length + b.length <= LIM then some (.tup (a ++ b)) else none
 | .str a,.str b=>if a.length + b.length <= LIM then some (.str (a ++ b)) else none
 | _,_=>none
section
variable {K:W.Frag}
theorem Dens.nil_iff  {ds:List D} {xs:List V} (h:Dens K S ds xs):xs = [] ↔ ds = []:=by
 have:=h.length
 cases ds <;> cases xs <;> simp_all
theorem qI {n:Nat} (h:n <= LIM):n <= sizeLine:=Nat.le_of_lt (Nat.lt_of_le_of_lt h fK)
theorem L9:SR2 K (Fe K) aR:=fun S H x y d e z Q s dx dy q k=>by
 cases d <;> cases e <;> try (cases q;done)
 ·rename_i i j
  cases q
  exact .inl ⟨i,j,dx.int,dy.int,k _ S H (Ext.refl s) (den_int.mpr rfl)⟩
 ·rename_i i j
  have q':(if i.length + j.length <= LIM then some (D.str (i ++ j)) else none) = some z:=q
  split at q'
  ·rename_i hl
   cases q'
   exact .inr (.inr (.inr ⟨i,j,dx.str,dy.str,qI hl,k _ S H (Ext.refl s) (den_str.mpr rfl)⟩))
  ·cases q'
 ·rename_i a b
  have q':(if a.length + b.length <= LIM then some (D.lst (a ++ b)) else none) = some z:=q
  split at q'
  ·rename_i hl
   cases q'
   obtain ⟨p,xs,rfl,h1,h2⟩:=dx.lst s
   obtain ⟨p',ys,rfl,h3,h4⟩:=dy.lst s
   refine .inr (.inl ⟨p,p',xs,ys,rfl,rfl,h1,h3,by rw [<- h2.length,<- h4.length];exact qI hl,fun q hq=>?_⟩)
   have z:=Ext.new (o:=.lst (xs ++ ys)) s hq
   exact k _ _ _ z (den_lst.mpr ⟨q,_,rfl,.inl av,(h2.append h4).mono z.sh⟩)
  ·cases q'
 ·rename_i a b
  have q':(if a.length + b.length <= LIM then some (D.tup (a ++ b)) else none) = some z:=q
  split at q'
  ·rename_i hl
   cases q'
   obtain ⟨p,xs,e1,h1,h2⟩:=dx.tup s
   obtain ⟨p',ys,e2,h3,h4⟩:=dy.tup s
   have dx':Den K S (.tup a) x:=dx.elim id fun ⟨_,_,_,e,_⟩=>by cases e
   have dy':Den K S (.tup b) y:=dy.elim id fun ⟨_,_,_,e,_⟩=>by cases e
   subst e1 e2
   refine .inr (.inr (.inl ⟨p,p',xs,ys,rfl,rfl,h1,h3,by rw [<- h2.length,<- h4.length];exact qI hl,fun e=>?_,fun e=>?_,fun q hq=>?_⟩))
   ·have:=h4.nil_iff.mp e
    subst this
    exact k _ S H (Ext.refl s) (by rw [List.append_nil];exact dx')
   ·have:=h2.nil_iff.mp e
    subst this
    exact k _ S H (Ext.refl s) (by rw [List.nil_append];exact dy')
   ·have z:=Ext.new (o:=.tup (xs ++ ys)) s hq
    exact k _ _ _ z (den_tup.mpr ⟨q,_,rfl,TpA.of av,(h2.append h4).mono z.sh⟩)
  ·cases q'
end
mutual
noncomputable def eqD:D -> D -> Bool
 | .non,.non=>true
 | .bl a,.bl b=>a == b
 | .bl a,.int j=>(if a then 1 else 0) == j
 | .int i,.bl b=>i == (if b then 1 else 0)
 | .int i,.int j=>i == j
 | .str x,.str y=>x == y
 | .lst a,.lst b=>eqDs a b
 | .tup a,.tup b=>eqDs a b
 | .tup a,.mtp b=>eqDs a b
 | .mtp a,.tup b=>eqDs a b
 | .mtp a,.mtp b=>eqDs a b
 | _,_=>false
noncomputable def eqDs:List D -> List D -> Bool
 | [],[]=>true
 | x :: xs,y :: ys=>eqD x y && eqDs xs ys
 | _,_=>false
end
mutual
noncomputable def okD:Nat -> D -> Bool
 | _,.non=>true
 | _,.bl _=>true
 | _,.int _=>true
 | _,.str x=>PyData.strOk x
 | n + 1,.lst l=>okDs n l
 | n + 1,.tup l=>okDs n l
 | n + 1,.mtp l=>okDs n l
 | _,_=>false
noncomputable def okDs:Nat -> List D -> Bool
 | _,[]=>true
 | n,d :: l=>okD n d && okDs n l
end
noncomputable def Hq (K:W.Frag) (neg:Bool):R2:=fun x y H Q=>∃ S d e,Same S H /\ DenP K S H d x /\ DenP K S H e y /\ okD 50 d = true /\ okD 50 e = true /\ Q (.bl (if neg then !eqD d e else eqD d e)) H
noncomputable def dEq (neg:Bool) (d e:D):Option D:=if okD 50 d = true /\ okD 50 e = true then some (.bl (if neg then !eqD d e else eqD d e)) else none
section
variable {K:W.Frag}
theorem Nn (neg:Bool):SR2 K (Hq K neg) (dEq neg):=fun S H x y d e z Q s dx dy q k=>by
 unfold dEq at q
 split at q
 ·rename_i c
  cases q
  exact ⟨S,d,e,s,dx,dy,c.1,c.2,k _ S H (Ext.refl s) (den_bl.mpr rfl)⟩
 ·cases q
end
noncomputable def oy:D -> Bool
 | .non=>true | _=>false
noncomputable def Ji (neg:Bool) (d e:D):Option D:=match e with | .non=>some (.bl (if neg then !oy d else oy d)) | _=>none
section
variable {K:W.Frag}
theorem GX    (h:DenP K S H d v):decide (v = .non) = oy d:=by
 cases d with
 | non=>rw [h.non];rfl
 | bl b=>rw [h.bl];rfl
 | int b=>rw [h.int];rfl
 | str b=>rw [h.str];rfl
 | ty b=>rw [h.ty];rfl
 | lst l=>
  rcases h with h | ⟨_,p,_,_,e,_⟩
  ·obtain ⟨p,_,e,_⟩:=den_lst.mp h
   rw [e];rfl
  ·rw [e];rfl
 | tup l=>
  rcases h with h | ⟨_,p,_,_,e,_⟩
  ·obtain ⟨p,_,e,_⟩:=eS h
   rw [e];rfl
  ·rw [e];rfl
 | scr l=>
  rcases h with h | ⟨_,p,_,_,e,_⟩
  ·obtain ⟨p,_,e,_⟩:=den_scr.mp h
   rw [e];rfl
  ·rw [e];rfl
 | ins C ns l=>
  rcases h with h | ⟨_,p,_,_,e,_⟩
  ·obtain ⟨p,_,_,_,e,_⟩:=den_ins.mp h
   rw [e];rfl
  ·rw [e];rfl
 | dic ks=>
  rcases h with h | ⟨_,p,_,_,e,_⟩
  ·obtain ⟨p,e,_⟩:=den_dic.mp h
   rw [e];rfl
  ·rw [e];rfl
 | mtp l=>
  rcases h with h | ⟨_,p,_,_,e,_⟩
  ·obtain ⟨p,_,e,_⟩:=den_mtp.mp h
   rw [e];rfl
  ·rw [e];rfl
 | dif ks=>
  rcases h with h | ⟨_,p,_,_,e,_⟩
  ·obtain ⟨p,_,e,_⟩:=den_dif.mp h
   rw [e];rfl
  ·rw [e];rfl
theorem Ka:SR2 K L7 (Ji true):=fun S H x y d e z Q s dx dy q k=>by
 cases e <;> try (cases q;done)
 cases q
 exact ⟨dy.non,by rw [GX dx];exact k _ S H (Ext.refl s) (den_bl.mpr rfl)⟩
end
noncomputable def dIx:D -> D -> Option D
 | .lst l,.int i=>atI l i
 | .tup l,.int i=>atI l i
 | .scr l,.int i=>atI l i
 | .mtp l,.int i=>atI l i
 | .str x,.int i=>if x.length <= LIM then (atI x.cps.toList i).map fun c=>.str ⟨#[c]⟩ else none
 | _,_=>none
section
variable {K:W.Frag}
theorem ma  {ds:List D} {xs:List V} {i:Int} {d:D} (h:Dens K S ds xs) (e:atI ds i = some d):∃ v,atI xs i = some v /\ Den K S d v:=by
 unfold atI at e ⊢
 rw [<- h.length]
 cases q:ixN ds.length i with
 | none=>rw [q] at e;cases e
 | some j=>
  rw [q] at e
  exact h.get e
theorem Nq:SR2 K (rIx K) dIx:=fun S H x y d e z Q s dx dy q k=>by
 cases d <;> cases e <;> try (cases q;done)
 ·rename_i x' i
  have q':(if x'.length <= LIM then (atI x'.cps.toList i).map fun c=>D.str ⟨#[c]⟩ else none) = some z:=q
  split at q'
  ·rename_i hl
   cases qc:atI x'.cps.toList i with
   | none=>rw [qc] at q';cases q'
   | some c=>
    rw [qc] at q'
    cases q'
    exact .inr (.inr ⟨x',i,c,dx.str,dy.int,qI hl,qc,k _ S H (Ext.refl s) (den_str.mpr rfl)⟩)
  ·cases q'
 ·rename_i l i
  obtain ⟨p,xs,rfl,h1,h2⟩:=dx.lst s
  obtain ⟨v,h3,h4⟩:=ma h2 q
  exact .inl ⟨p,xs,i,v,rfl,dy.int,.inl h1,h3,k v S H (Ext.refl s) h4⟩
 ·rename_i l i
  obtain ⟨p,xs,rfl,h1,h2⟩:=dx.tup s
  obtain ⟨v,h3,h4⟩:=ma h2 q
  exact .inr (.inl ⟨p,xs,i,v,rfl,dy.int,h1,h3,k v S H (Ext.refl s) h4⟩)
 ·rename_i l i
  obtain ⟨p,xs,rfl,h1,h2⟩:=dx.scr s
  obtain ⟨v,h3,h4⟩:=ma h2 q
  exact .inl ⟨p,xs,i,v,rfl,dy.int,h1,h3,k v S H (Ext.refl s) h4⟩
 ·rename_i l i
  obtain ⟨p,xs,rfl,h1,h2⟩:=dx.mtp s
  obtain ⟨v,h3,h4⟩:=ma h2 q
  exact .inr (.inl ⟨p,xs,i,v,rfl,dy.int,h1,h3,k v S H (Ext.refl s) h4⟩)
end
noncomputable def iE {α:Type} (xs:List α) (lo hi:Option Int):List α:=(xs.drop (HT.sIx xs.length 0 lo)).take (HT.sIx xs.length xs.length hi - HT.sIx xs.length 0 lo)
noncomputable def J8 (K:W.Frag):V -> Option Int -> Option Int -> Hp -> VK -> Prop:=fun x lo hi H Q=>L8 K x lo hi H Q \/
 ∃ a xs,x = .ref a /\ SqT K H a xs /\ (j8 xs lo hi = xs -> Q (.ref a) H) /\ ∀ p,H p = none -> Q (.ref p) (upd H p (.tup (j8 xs lo hi)))
noncomputable abbrev XO:=Env -> Option (Option Int)
def SO (K:W.Frag) (t:TO) (o:XO):Prop:=∀ ρ σ S H (Q:Option Int -> Hp -> Prop) i,Rl K ρ σ S H -> o ρ = some i -> (∀ S' H',Ext S H S' H' -> Q i H') -> t σ H Q
@[simp] noncomputable def M3:XO:=fun _=>some none
@[simp] noncomputable def Ba (a:XE):XO:=fun ρ=>(a ρ).bind fun d=>match d with | .int i=>some (some i) | _=>none
section
variable {K:W.Frag}
theorem Kr {ta:TE}  (h:SPk K ta a):SO K (FQ ta) (Ba a):=fun ρ σ S H Q i r x k=>by
 unfold Ba at x
 cases q:a ρ with
 | none=>rw [q] at x;cases x
 | some d=>
  rw [q] at x
  dsimp only [Option.bind] at x
  cases d <;> try (cases x;done)
  rename_i j
  cases x
  exact h ρ σ S H _ _ r q fun v S1 H1 z1 d1=>⟨j,d1.int,k S1 H1 z1⟩
theorem gS  {ds:List D} {xs:List V} (h:Dens K S ds xs) (lo hi:Option Int):Dens K S (iE ds lo hi) (j8 xs lo hi):=by
 unfold iE j8
 rw [h.length]
 exact (h.drop _).take _
noncomputable def dSl (d:D) (lo hi:Option Int):Option D:=match d with
 | .lst l=>some (.lst (iE l lo hi))
 | .tup l=>some (.tup (iE l lo hi))
 | .scr l=>some (.lst (iE l lo hi))
 | .mtp l=>some (.mtp (iE l lo hi))
 | _=>none
@[simp] noncomputable def xSl (a:XE) (lo hi:XO):XE:=fun ρ=>(a ρ).bind fun d=>(lo ρ).bind fun l=>(hi ρ).bind fun h=>dSl d l h
theorem Ny {te:TE} {tl th:TO}  {lo hi:XO} (ha:SPk K te a) (hl:SO K tl lo) (hh:SO K th hi):SE K (tSl (J8 K) te tl th) (xSl a lo hi):=fun ρ σ S H Q g r x k=>by
 unfold xSl at x
 cases q:a ρ with
 | none=>rw [q] at x;cases x
 | some d=>
  rw [q] at x
  dsimp only [Option.bind] at x
  cases ql:lo ρ with
  | none=>rw [ql] at x;cases x
  | some l=>
   rw [ql] at x
   dsimp only at x
   cases qh:hi ρ with
   | none=>rw [qh] at x;cases x
   | some h=>
    rw [qh] at x
    dsimp only at x
    refine ha ρ σ S H _ d r q fun v S1 H1 z1 d1=>?_
    have r1:=r.ext z1
    refine hl ρ σ S1 H1 _ l r1 ql fun S2 H2 z2=>?_
    have r2:=r1.ext z2
    refine hh ρ σ S2 H2 _ h r2 qh fun S3 H3 z3=>?_
    have z23:=z2.trans z3
    have d3:=d1.mono z23 r1.sub
    have s3:=(r2.ext z3).sub
    have z:=z1.trans z23
    cases d <;> try (cases x;done)
    ·cases x
     obtain ⟨p,xs,rfl,h1,h2⟩:=d3.lst s3
     refine .inl ⟨p,xs,rfl,.inl h1,fun p' hp=>?_⟩
     have z4:=Ext.new (o:=.lst (j8 xs l h)) s3 hp
     exact k _ _ _ (z.trans z4) (den_lst.mpr ⟨p',_,rfl,.inl av,(gS h2 l h).mono z4.sh⟩)
    ·rename_i ds
     cases x
     have d3':Den K S3 (.tup ds) v:=d3.elim id fun ⟨_,_,_,e,_⟩=>by cases e
     obtain ⟨p,xs,e,h1,h2⟩:=d3.tup s3
     subst e
     refine .inr ⟨p,xs,rfl,h1,fun e=>k _ S3 H3 z ?_,fun p' hp=>?_⟩
     ·obtain ⟨p2,xs2,e2,h3,h4⟩:=den_tup.mp d3'
      cases e2
      have c:=gS h2 l h
      rw [e] at c
      refine den_tup.mpr ⟨p,xs2,rfl,h3,?_⟩
      have hlen:=c.length
      have:iE ds l h = ds:=by
       have hl2:(iE ds l h).length = ds.length:=by rw [c.length,h2.length]
       unfold iE at hl2 ⊢
       rw [List.length_take,List.length_drop] at hl2
       have a0:HT.sIx ds.length 0 l = 0 \/ ds.length = 0:=by lia
       rcases a0 with a0 | a0
       ·rw [a0,List.drop_zero] at *
        exact List.take_of_length_le (by lia)
       ·have:ds = []:=List.length_eq_zero_iff.mp a0
        subst this
        simp
      rw [this]
      exact h4
     ·have z4:=Ext.new (o:=.tup (j8 xs l h)) s3 hp
      exact k _ _ _ (z.trans z4) (den_tup.mpr ⟨p',_,rfl,TpA.of av,(gS h2 l h).mono z4.sh⟩)
    ·cases x
     obtain ⟨p,xs,rfl,h1,h2⟩:=d3.scr s3
     refine .inl ⟨p,xs,rfl,h1,fun p' hp=>?_⟩
     have z4:=Ext.new (o:=.lst (j8 xs l h)) s3 hp
     exact k _ _ _ (z.trans z4) (den_lst.mpr ⟨p',_,rfl,.inl av,(gS h2 l h).mono z4.sh⟩)
    ·rename_i ds
     cases x
     have d3':Den K S3 (.mtp ds) v:=d3.elim id fun ⟨_,_,_,e,_⟩=>by cases e
     obtain ⟨p,xs,e,h3,h4⟩:=den_mtp.mp d3'
     subst e
     refine .inr ⟨p,xs,rfl,aC s3 h3,fun e=>k _ S3 H3 z (den_mtp.mpr ⟨p,xs,rfl,h3,by have c:=gS h4 l h;rwa [e] at c⟩),fun p' hp=>?_⟩
     have z4:=Ext.new (o:=.tup (j8 xs l h)) s3 hp
     exact k _ _ _ (z.trans z4) (den_mtp.mpr ⟨p',_,rfl,SqT.of av,(gS h4 l h).mono z4.sh⟩)
noncomputable def Ff (K:W.Frag):List V -> Hp -> VK -> Prop:=fun xs H Q=>∃ x n,xs = [x] /\ K4 K x H n /\ Q (.int n) H
noncomputable def iA:List D -> Option D
 | [.lst l]=>some (.int l.length)
 | [.tup l]=>some (.int l.length)
 | [.scr l]=>some (.int l.length)
 | [.mtp l]=>some (.int l.length)
 | [.str x]=>if x.length <= LIM then some (.int x.length) else none
 | _=>none
theorem dr  {d:D}  (h:DensP K S H [d] vs):∃ v,vs = [v] /\ DenP K S H d v:=by
 cases h with
 | cons a b=>cases b;exact ⟨_,rfl,a⟩
theorem FX  {d e:D}  (h:DensP K S H [d,e] vs):∃ v w,vs = [v,w] /\ DenP K S H d v /\ DenP K S H e w:=by
 cases h with
 | cons a b=>cases b with
  | cons c b=>cases b;exact ⟨_,_,rfl,a,c⟩
theorem Lf:SRB K (Ff K) iA:=fun S H vs ds g Q s d q k=>by
 unfold iA at q
 split at q
 ·rename_i l
  cases q
  obtain ⟨v,rfl,d1⟩:=dr d
  obtain ⟨p,xs,rfl,h1,h2⟩:=d1.lst s
  exact ⟨_,xs.length,rfl,.inl ⟨xs,.inl h1,rfl⟩,k _ S H (Ext.refl s) (den_int.mpr (by rw [h2.length]))⟩
 ·rename_i l
  cases q
  obtain ⟨v,rfl,d1⟩:=dr d
  obtain ⟨p,xs,rfl,h1,h2⟩:=d1.tup s
  exact ⟨_,xs.length,rfl,.inr ⟨xs,h1,rfl⟩,k _ S H (Ext.refl s) (den_int.mpr (by rw [h2.length]))⟩
 ·rename_i l
  cases q
  obtain ⟨v,rfl,d1⟩:=dr d
  obtain ⟨p,xs,rfl,h1,h2⟩:=d1.scr s
  exact ⟨_,xs.length,rfl,.inl ⟨xs,h1,rfl⟩,k _ S H (Ext.refl s) (den_int.mpr (by rw [h2.length]))⟩
 ·rename_i l
  cases q
  obtain ⟨v,rfl,d1⟩:=dr d
  obtain ⟨p,xs,rfl,h1,h2⟩:=d1.mtp s
  exact ⟨_,xs.length,rfl,.inr ⟨xs,h1,rfl⟩,k _ S H (Ext.refl s) (den_int.mpr (by rw [h2.length]))⟩
 ·rename_i x
  split at q
  ·rename_i hl
   cases q
   obtain ⟨v,rfl,d1⟩:=dr d
   exact ⟨_,x.length,rfl,by rw [d1.str];exact ⟨qI hl,rfl⟩,k _ S H (Ext.refl s) (den_int.mpr rfl)⟩
  ·cases q
 ·cases q
noncomputable def eV:List D -> Option D
 | [.lst l]=>some (.tup l)
 | [.tup l]=>some (.tup l)
 | [.scr l]=>some (.tup l)
 | _=>none
theorem Gj:SRB K (J9 K) eV:=fun S H vs ds g Q s d q k=>by
 unfold eV at q
 split at q
 ·rename_i l
  cases q
  obtain ⟨v,rfl,d1⟩:=dr d
  obtain ⟨p,xs,rfl,h1,h2⟩:=d1.lst s
  refine ⟨p,xs,rfl,.inl ⟨.inl h1,fun q hq=>?_⟩⟩
  have z:=Ext.new (o:=.tup xs) s hq
  exact k _ _ _ z (den_tup.mpr ⟨q,_,rfl,TpA.of av,h2.mono z.sh⟩)
 ·rename_i l
  cases q
  obtain ⟨v,rfl,d1⟩:=dr d
  have d':Den K S (.tup l) v:=d1.elim id fun ⟨_,_,_,e,_⟩=>by cases e
  obtain ⟨p,xs,rfl,h1,h2⟩:=d1.tup s
  exact ⟨p,xs,rfl,.inr ⟨h1,k _ S H (Ext.refl s) d'⟩⟩
 ·rename_i l
  cases q
  obtain ⟨v,rfl,d1⟩:=dr d
  obtain ⟨p,xs,rfl,h1,h2⟩:=d1.scr s
  refine ⟨p,xs,rfl,.inl ⟨h1,fun q hq=>?_⟩⟩
  have z:=Ext.new (o:=.tup xs) s hq
  exact k _ _ _ z (den_tup.mpr ⟨q,_,rfl,TpA.of av,h2.mono z.sh⟩)
 ·cases q
noncomputable def Dt:List D -> Option (List D)
 | [.lst l]=>some l
 | [.tup l]=>some l
 | [.scr l]=>some l
 | _=>none
noncomputable def wm:List D -> Option D
 | [.int i,.int j]=>some (.int (if j > i then j else i))
 | _=>none
noncomputable def pQ:List D -> Option D
 | [.int i,.int j]=>some (.int (if j < i then j else i))
 | _=>none
theorem IX:SRB K L5 wm:=fun S H vs ds g Q s d q k=>by
 unfold wm at q
 split at q
 ·rename_i i j
  cases q
  obtain ⟨v,w,rfl,d1,d2⟩:=FX d
  exact ⟨i,j,by rw [d1.int,d2.int],k _ S H (Ext.refl s) (den_int.mpr rfl)⟩
 ·cases q
theorem IY:SRB K L6 pQ:=fun S H vs ds g Q s d q k=>by
 unfold pQ at q
 split at q
 ·rename_i i j
  cases q
  obtain ⟨v,w,rfl,d1,d2⟩:=FX d
  exact ⟨i,j,by rw [d1.int,d2.int],k _ S H (Ext.refl s) (den_int.mpr rfl)⟩
 ·cases q
noncomputable def bi:List D -> Option (List Int)
 | []=>some []
 | .int i :: l=>(bi l).map fun r=>i :: r
 | _=>none
theorem j4:∀ {ds:List D} {xs:List V} {ns:List Int},Dens K S ds xs -> bi ds = some ns -> xs = ns.map V.int /\ ds = ns.map D.int
 | [],xs,ns,h,e=>by cases e;exact ⟨h.nil_of,rfl⟩
 | d :: ds,xs,ns,h,e=>by
  obtain ⟨y,ys,rfl,h1,h2⟩:=h.cons_of
  cases d <;> try (cases e;done)
  rename_i i
  have e':(bi ds).map (fun r=>i :: r) = some ns:=e
  cases q:bi ds with
  | none=>rw [q] at e';cases e'
  | some ms=>
   rw [q] at e'
   cases e'
   obtain ⟨k1,k2⟩:=j4 h2 q
   rw [den_int.mp h1,k1]
   exact ⟨rfl,congrArg (D.int i :: ·) k2⟩
theorem gY:∀ ns:List Int,bi (ns.map D.int) = some ns
 | []=>rfl
 | n :: ns=>by rw [List.map_cons,bi,gY ns];rfl
noncomputable def Bv:List D -> Option D
 | [.lst l]=>(bi l).map fun ns=>.int ns.sum
 | _=>none
theorem Lg:SRB K (Ix K) Bv:=fun S H vs ds g Q s d q k=>by
 unfold Bv at q
 split at q
 ·rename_i l
  cases qi:bi l with
  | none=>rw [qi] at q;cases q
  | some ns=>
   rw [qi] at q
   cases q
   obtain ⟨v,rfl,d1⟩:=dr d
   obtain ⟨p,xs,rfl,h1,h2⟩:=d1.lst s
   obtain ⟨e,_⟩:=j4 h2 qi
   subst e
   exact ⟨p,ns,rfl,.inl h1,k _ S H (Ext.refl s) (den_int.mpr rfl)⟩
 ·cases q
noncomputable def Lb:List D -> Option D
 | [.int i]=>some (.int i)
 | [.bl b]=>some (.int (if b then 1 else 0))
 | _=>none
@[simp] noncomputable def Pe (a:XE):XA:=fun ρ=>(a ρ).bind fun d=>match d with | .lst l=>some l.reverse | _=>none
noncomputable def tyD:D -> Option String
 | .non=>some "NoneType" | .bl _=>some "bool" | .int _=>some "int" | .str _=>some "str" | .lst _=>some "list" | .tup _=>some "tuple" | _=>none
noncomputable def NB (t T:String):Bool:=t == T || (t == "bool" && T == "int")
noncomputable def Nf:List String:=["bool", "int", "str", "list", "tuple"]
noncomputable def Ds:List D -> Option D
 | [d,.ty T]=>if T ∈ Nf then (tyD d).map fun t=>.bl (NB t T) else none
 | _=>none
end
noncomputable def sH (k:List Int):D:=.tup (k.map D.int)
noncomputable def GM:D -> Option (List Int)
 | .tup l=>if l.isEmpty then none else bi l
 | _=>none
noncomputable def keys:List D -> Option (List (List Int))
 | []=>some []
 | d :: l=>(GM d).bind fun k=>(keys l).map fun r=>k :: r
theorem xr:∀ a b:List Int,HT.bx a b = true -> HT.bx b a = false
 | [],[],h=>by cases h
 | [],_ :: _,_=>rfl
 | _ :: _,[],h=>by cases h
 | x :: a,y :: b,h=>by
  have h':(if x = y then HT.bx a b else decide (x < y)) = true:=h
  show (if y = x then HT.bx b a else decide (y < x)) = false
  by_cases e:x = y
  ·rw [if_pos e] at h';rw [if_pos e.symm];exact xr a b h'
  ·rw [if_neg e] at h';rw [if_neg (fun z=>e z.symm)]
   have:=of_decide_eq_true h'
   exact decide_eq_false (by lia)
theorem tR:∀ a b:List Int,HT.bx a b = false -> HT.bx b a = false -> a = b
 | [],[],_,_=>rfl
 | [],_ :: _,h,_=>by cases h
 | _ :: _,[],_,h=>by cases h
 | x :: a,y :: b,h,k=>by
  have h':(if x = y then HT.bx a b else decide (x < y)) = false:=h
  have k':(if y = x then HT.bx b a else decide (y < x)) = false:=k
  by_cases e:x = y
  ·rw [if_pos e] at h';rw [if_pos e.symm] at k'
   rw [e,tR a b h' k']
  ·rw [if_neg e] at h';rw [if_neg (fun z=>e z.symm)] at k'
   have:=of_decide_eq_false h'
   have:=of_decide_eq_false k'
   lia
theorem tS:∀ a b c:List Int,HT.bx a b = false -> HT.bx b c = false -> HT.bx a c = false
 | [],[],_,_,k=>k
 | [],_ :: _,_,h,_=>by cases h
 | _ :: _,_,[],_,_=>rfl
 | _ :: _,[],_ :: _,_,k=>by cases k
 | x :: a,y :: b,z :: c,h,k=>by
  have h':(if x = y then HT.bx a b else decide (x < y)) = false:=h
  have k':(if y = z then HT.bx b c else decide (y < z)) = false:=k
  show (if x = z then HT.bx a c else decide (x < z)) = false
  by_cases e1:x = y
  ·rw [if_pos e1] at h'
   subst e1
   by_cases e2:x = z
   ·rw [if_pos e2] at k' ⊢;exact tS a b c h' k'
   ·rw [if_neg e2] at k' ⊢;exact k'
  ·rw [if_neg e1] at h'
   have g1:=of_decide_eq_false h'
   by_cases e2:y = z
   ·subst e2
    rw [if_neg e1];exact h'
   ·rw [if_neg e2] at k'
    have g2:=of_decide_eq_false k'
    rw [if_neg (by lia)]
    exact decide_eq_false (by lia)
noncomputable def B1 (x:List Int):List (List Int) -> List (List Int)
 | []=>[x]
 | y :: l=>if HT.bx y x = true then y :: B1 x l else x :: y :: l
noncomputable def fZ (ks:List (List Int)):List (List Int):=ks.foldr B1 []
theorem tJ (x:List Int) (l:List (List Int)):(B1 x l).Perm (x :: l):=by
 induction l with
 | nil=>exact .refl _
 | cons y l ih=>
  unfold B1
  split
  ·exact (ih.cons y).trans (.swap x y l)
  ·exact .refl _
noncomputable def oI (ns:List Int):List Int:=ns.mergeSort fun a b=>decide (a <= b)
theorem f7 (ks:List (List Int)):(fZ ks).Perm ks:=by
 induction ks with
 | nil=>exact .refl _
 | cons x l ih=>exact (tJ x (fZ l)).trans (ih.cons x)
theorem lP (ns:List Int):(oI ns).Perm ns:=List.mergeSort_perm _ _
theorem GJ (x:List Int) (l:List (List Int)) (h:l.Pairwise fun a b=>HT.bx b a = false):(B1 x l).Pairwise fun a b=>HT.bx b a = false:=by
 induction l with
 | nil=>exact .cons (fun _ z=>by cases z) .nil
 | cons y l ih=>
  have hy:∀ z,z ∈ l -> HT.bx z y = false:=fun z hz=>List.rel_of_pairwise_cons h hz
  unfold B1
  cases q:HT.bx y x with
  | true=>
   refine .cons (fun z hz=>?_) (ih (List.Pairwise.of_cons h))
   rcases List.mem_cons.mp ((tJ x l).mem_iff.mp hz) with rfl | hz
   ·exact xr y _ q
   ·exact hy z hz
  | false=>
   refine .cons (fun z hz=>?_) h
   rcases List.mem_cons.mp hz with rfl | hz
   ·exact q
   ·exact tS z y x (hy z hz) q
theorem mO (ks:List (List Int)):(fZ ks).Pairwise fun a b=>HT.bx b a = false:=by
 induction ks with
 | nil=>exact .nil
 | cons x l ih=>exact GJ x (fZ l) ih
theorem FC (ns:List Int):(oI ns).Pairwise (· <= ·):=by
 have h:=List.pairwise_mergeSort (le:=fun a b:Int=>decide (a <= b)) (fun a b c h k=>by
  have:=of_decide_eq_true h;have:=of_decide_eq_true k;exact decide_eq_true (by lia)) (fun a b=>by
  by_cases h:a <= b
  ·simp [h]
  ·simp [show b <= a by lia]) ns
 exact h.imp fun {a b} e=>of_decide_eq_true e
theorem zU {ks js:List (List Int)} (hp:js.Perm ks) (hw:js.Pairwise fun a b=>HT.bx b a = false):js = fZ ks:=
 List.Perm.eq_of_pairwise (fun a b _ _ h k=>tR a b k h) hw (mO ks) (hp.trans (f7 ks).symm)
theorem zT {ns ms:List Int} (hp:ms.Perm ns) (hw:ms.Pairwise (· <= ·)):ms = oI ns:=
 List.Perm.eq_of_pairwise (fun a b _ _ h k=>by lia) hw (FC ns) (hp.trans (lP ns).symm)
noncomputable def Fh (K:W.Frag):List V -> Hp -> VK -> Prop:=fun xs H Q=>∃ p,∃ yks:List (V × List Int),xs = [.ref p] /\ SqL K H p (yks.map (·.1)) /\ yks.length < 30000 /\ (∀ yk ∈ yks,∃ q,yk.1 = .ref q /\ SqT K H q (yk.2.map V.int) /\ yk.2 ≠ []) /\
 ∀ (zks:List (V × List Int)) l,zks.Perm yks -> zks.Pairwise (fun a b=>HT.bx b.2 a.2 = false) -> H l = none -> Q (.ref l) (upd H l (.lst (zks.map (·.1))))
noncomputable def rn (K:W.Frag):List V -> Hp -> VK -> Prop:=fun xs H Q=>xX K xs H Q \/ Fh K xs H Q
noncomputable def iB:List D -> Option (List D)
 | [.lst l]=>if l.length < 30000 then (match bi l with
  | some ns=>some ((oI ns).map D.int)
  | none=>(keys l).map fun ks=>(fZ ks).map sH) else none
 | _=>none
section
variable {K:W.Frag}
theorem GN  {k:List Int} (h:GM d = some k):d = sH k /\ k ≠ []:=by
 cases d <;> try (cases h;done)
 rename_i l
 have h':(if l.isEmpty then none else bi l) = some k:=h
 split at h'
 ·cases h'
 ·rename_i hne
  have key:∀ (l:List D) (k:List Int),bi l = some k -> l = k.map D.int:=by
   intro l
   induction l with
   | nil=>intro k e;cases e;rfl
   | cons d l ih=>
    intro k e
    cases d <;> try (cases e;done)
    rename_i i
    have e':(bi l).map (fun r=>i :: r) = some k:=e
    cases q:bi l with
    | none=>rw [q] at e';cases e'
    | some m=>rw [q] at e';cases e';rw [ih m q];rfl
  have e:=key l k h'
  subst e
  exact ⟨rfl,fun z=>by subst z;exact hne rfl⟩
theorem AF:∀ {l:List D} {ks:List (List Int)},keys l = some ks -> l = ks.map sH /\ ∀ k ∈ ks,k ≠ []
 | [],ks,h=>by cases h;exact ⟨rfl,fun _ h=>by cases h⟩
 | d :: l,ks,h=>by
  have h':((GM d).bind fun k=>(keys l).map fun r=>k :: r) = some ks:=h
  cases q:GM d with
  | none=>rw [q] at h';cases h'
  | some k=>
   rw [q] at h'
   dsimp only [Option.bind] at h'
   cases q2:keys l with
   | none=>rw [q2] at h';cases h'
   | some r=>
    rw [q2] at h'
    cases h'
    obtain ⟨a,b⟩:=AF q2
    obtain ⟨c,d⟩:=GN q
    refine ⟨by rw [List.map_cons,<- a,<- c],fun k hk=>?_⟩
    rcases List.mem_cons.mp hk with rfl | hk
    ·exact d
    ·exact b k hk
theorem qB:∀ {S:Hp} {k:List Int} {xs:List V},Dens K S (k.map D.int) xs -> xs = k.map V.int
 | S,[],xs,h=>h.nil_of
 | S,i :: k,xs,h=>by
  obtain ⟨y,ys,rfl,h1,h2⟩:=h.cons_of
  rw [den_int.mp h1,qB h2]
  rfl
theorem wH:∀ {ks:List (List Int)} {xs:List V},Dens K S (ks.map sH) xs -> (xs.zip ks).map (·.1) = xs /\ (xs.zip ks).map (·.2) = ks /\ (xs.zip ks).length = ks.length /\ ∀ yk ∈ xs.zip ks,Den K S (sH yk.2) yk.1
 | [],xs,h=>by rw [h.nil_of];exact ⟨rfl,rfl,rfl,fun _ h=>by cases h⟩
 | k :: ks,xs,h=>by
  obtain ⟨y,ys,rfl,h1,h2⟩:=h.cons_of
  obtain ⟨a,b,c,d⟩:=wH h2
  refine ⟨by rw [List.zip_cons_cons,List.map_cons,a],by rw [List.zip_cons_cons,List.map_cons,b],by rw [List.zip_cons_cons,List.length_cons,c,List.length_cons],fun yk hm=>?_⟩
  rw [List.zip_cons_cons] at hm
  rcases List.mem_cons.mp hm with rfl | hm
  ·exact h1
  ·exact d yk hm
theorem kx:∀ {zks:List (V × List Int)},(∀ yk ∈ zks,Den K S (sH yk.2) yk.1) -> Dens K S ((zks.map (·.2)).map sH) (zks.map (·.1))
 | [],_=>.nil
 | yk :: zks,h=>.cons (h yk List.mem_cons_self) (kx fun z hz=>h z (List.mem_cons_of_mem _ hz))
theorem Du:SRF K (rn K) iB:=fun S H vs ds g Q s d q k=>by
 unfold iB at q
 split at q
 ·rename_i l
  split at q
  ·rename_i hl
   obtain ⟨v,rfl,d1⟩:=dr d
   obtain ⟨p,xs,rfl,h1,h2⟩:=d1.lst s
   cases qi:bi l with
   | some ns=>
    rw [qi] at q
    cases q
    obtain ⟨e1,e2⟩:=j4 h2 qi
    subst e1 e2
    refine .inl ⟨p,ns,rfl,.inl h1,by rw [List.length_map] at hl;exact hl,fun ms a pm pw ha=>?_⟩
    rw [zT pm pw]
    refine k a _ _ (Ext.own s ha) ha av ?_
    have key:∀ ns:List Int,Dens K S (ns.map D.int) (ns.map V.int):=by
     intro ns
     induction ns with
     | nil=>exact .nil
     | cons n ns ih=>exact .cons (den_int.mpr rfl) ih
    exact key _
   | none=>
    rw [qi] at q
    dsimp only at q
    cases qk:keys l with
    | none=>rw [qk] at q;cases q
    | some ks=>
     rw [qk] at q
     cases q
     obtain ⟨e1,e2⟩:=AF qk
     subst e1
     obtain ⟨a,b,c,dd⟩:=wH h2
     refine .inr ⟨p,xs.zip ks,rfl,by rw [a];exact .inl h1,by rw [c];rw [List.length_map] at hl;exact hl,fun yk hm=>?_,fun zks l pm pw hl=>?_⟩
     ·obtain ⟨q,ys,e,g1,g2⟩:=eS (dd yk hm)
      have:=qB g2
      subst this
      refine ⟨q,e,aC s g1,e2 _ ?_⟩
      rw [<- b]
      exact List.mem_map.mpr ⟨yk,hm,rfl⟩
     ·have e:zks.map (·.2) = fZ ks:=by
       refine zU ?_ ?_
       ·rw [<- b];exact pm.map _
       ·rw [List.pairwise_map];exact pw
      have dz:Dens K S ((zks.map (·.2)).map sH) (zks.map (·.1)):=kx fun yk hm=>dd yk (pm.mem_iff.mp hm)
      rw [e] at dz
      exact k l _ _ (Ext.own s hl) hl av dz
  ·cases q
 ·cases q
end
noncomputable def wD:D -> D -> Option D:=dI fun i j=>some (.int (i + j))
section
variable {K:W.Frag}
theorem Hr:SR2 K (ipI fun i j=>i + j) wD:=CC (g:=fun i j=>.int (i + j)) fun i j d h=>by cases h;rfl
end
theorem Kw  {ta:TE}  (ha:SQ K ta a):ST K (NC K ta) (mY a):=fun ρ σ S H Q b r x k=>by
 unfold mY at x
 cases qa:a ρ with
 | none=>rw [qa] at x;cases x
 | some da=>
  rw [qa] at x
  exact ha ρ σ S H _ da r qa fun v S1 H1 z1 d1=>⟨b,KM (Same.refl H1) (.inl d1) x,k S1 H1 z1⟩
theorem fL (g:XG) (m:XS) (d:D) (l:List D) (ρ:Env):cT g m (d :: l) ρ = (g d ρ).bind fun ρ1=>match m ρ1 with
  | some (.nx ρ2)=>cT g m l ρ2
  | some (.ct ρ2)=>cT g m l ρ2
  | some (.bk ρ2)=>some (.nx ρ2)
  | some (.rt d)=>some (.rt d)
  | some (.ro d)=>some (.ro d)
  | none=>none:=rfl
theorem Ca {α:Type} {g:XG} {m:XS} (enc:α -> D) (P:List α -> Env -> Prop) (R:D -> Prop) (B:Env -> Prop) (l:List α) (ρ0:Env) (h0:P [] ρ0)
  (step:∀ pre a post ρ,l = pre ++ a :: post -> P pre ρ -> ∃ ρ1 o,g (enc a) ρ = some ρ1 /\ m ρ1 = some o /\ (match o with | .nx ρ2=>P (pre ++ [a]) ρ2 | .ct ρ2=>P (pre ++ [a]) ρ2 | .bk ρ2=>B ρ2 | .rt d=>R d | .ro _=>False)) :
  ∃ o,cT g m (l.map enc) ρ0 = some o /\ (match o with | .nx ρ'=>P l ρ' \/ B ρ' | .rt d=>R d | _=>False):=by
 have key:∀ (post pre:List α) (ρ:Env),l = pre ++ post -> P pre ρ -> ∃ o,cT g m (post.map enc) ρ = some o /\ (match o with | .nx ρ'=>P l ρ' \/ B ρ' | .rt d=>R d | _=>False):=by
  intro post
  induction post with
  | nil=>
   intro pre ρ e p
   rw [List.append_nil] at e
   subst e
   exact ⟨_,rfl,.inl p⟩
  | cons a post ih=>
   intro pre ρ e p
   obtain ⟨ρ1,o,h1,h2,h3⟩:=step pre a post ρ e p
   rw [List.map_cons,fL,h1]
   dsimp only [Option.bind]
   rw [h2]
   cases o with
   | nx ρ2=>exact ih (pre ++ [a]) ρ2 (by rw [e,List.append_assoc];rfl) h3
   | ct ρ2=>exact ih (pre ++ [a]) ρ2 (by rw [e,List.append_assoc];rfl) h3
   | bk ρ2=>exact ⟨_,rfl,.inr h3⟩
   | rt d=>exact ⟨_,rfl,h3⟩
   | ro d=>exact h3.elim
 exact key l [] ρ0 rfl h0
theorem aV {α:Type} {g:XG} {m:XS} (enc:α -> D) (P:List α -> Env -> Prop) (l:List α) (ρ0:Env) (h0:P [] ρ0)
  (step:∀ pre a post ρ,l = pre ++ a :: post -> P pre ρ -> ∃ ρ1 ρ2,g (enc a) ρ = some ρ1 /\ (m ρ1 = some (.nx ρ2) \/ m ρ1 = some (.ct ρ2)) /\ P (pre ++ [a]) ρ2) :
  ∃ ρ',cT g m (l.map enc) ρ0 = some (.nx ρ') /\ P l ρ':=by
 obtain ⟨o,h1,h2⟩:=Ca (g:=g) (m:=m) enc P (fun _=>False) (fun _=>False) l ρ0 h0 fun pre a post ρ e p=>by
  obtain ⟨ρ1,ρ2,k1,k2,k3⟩:=step pre a post ρ e p
  rcases k2 with k2 | k2
  ·exact ⟨ρ1,_,k1,k2,k3⟩
  ·exact ⟨ρ1,_,k1,k2,k3⟩
 cases o with
 | nx ρ'=>exact ⟨ρ',h1,h2.elim id False.elim⟩
 | rt d | ro _=>exact h2.elim
 | bk ρ'=>exact h2.elim
 | ct ρ'=>exact h2.elim
noncomputable def gJ (g:XG) (c:XT) (e:XE) (ρ0:Env) (d:D):Option (Option D):=(g d ρ0).bind fun ρ1=>(c ρ1).bind fun b=>if b = true then (e ρ1).map some else some none
theorem fG {α:Type}     (enc:α -> D) (f:α -> Option D):∀ (l:List α),(∀ a ∈ l,gJ g c e ρ0 (enc a) = some (f a)) -> bF g c e ρ0 (l.map enc) = some (l.filterMap f)
 | [],_=>rfl
 | a :: l,h=>by
  have ih:=fG (g:=g) (c:=c) (e:=e) (ρ0:=ρ0) enc f l fun b hb=>h b (List.mem_cons_of_mem _ hb)
  have h1:=h a List.mem_cons_self
  unfold gJ at h1
  rw [List.map_cons,bF]
  cases q1:g (enc a) ρ0 with
  | none=>rw [q1] at h1;cases h1
  | some ρ1=>
   rw [q1] at h1
   dsimp only [Option.bind] at h1 ⊢
   cases q2:c ρ1 with
   | none=>rw [q2] at h1;cases h1
   | some b=>
    rw [q2] at h1
    dsimp only at h1 ⊢
    cases b with
    | false=>
     rw [if_neg (by decide)] at h1 ⊢
     rw [ih,List.filterMap_cons]
     have:f a = none:=(Option.some.inj h1).symm
     rw [this]
    | true=>
     rw [if_pos rfl] at h1 ⊢
     cases q3:e ρ1 with
     | none=>rw [q3] at h1;cases h1
     | some y=>
      rw [q3] at h1
      have:f a = some y:=(Option.some.inj h1).symm
      rw [ih,List.filterMap_cons,this]
      rfl
theorem bf {α:Type}    (enc:α -> D) (f:α -> D) (l:List α) (h:∀ a ∈ l,gJ g cv e ρ0 (enc a) = some (some (f a))):bF g cv e ρ0 (l.map enc) = some (l.map f):=by
 rw [fG enc (fun a=>some (f a)) l h]
 exact congrArg some (congrFun List.filterMap_eq_map' l)
theorem lX {c:XT} {m:XS} (P:Env -> Prop) (μ:Env -> Nat) (E:Env -> Prop) (step:∀ ρ,P ρ -> (c ρ = some false /\ E ρ) \/ (c ρ = some true /\ ∃ ρ2,m ρ = some (.nx ρ2) /\ P ρ2 /\ μ ρ2 < μ ρ)) (ρ0:Env) (h0:P ρ0):∃ ρ',d7 c m ρ0 = some (.nx ρ') /\ E ρ':=by
 have key:∀ (n:Nat) (ρ:Env),μ ρ = n -> P ρ -> ∃ ρ',d7 c m ρ = some (.nx ρ') /\ E ρ':=by
  intro n
  induction n using Nat.strongRecOn with
  | ind n ih=>
   intro ρ hn p
   rcases step ρ p with ⟨h1,h2⟩ | ⟨h1,ρ2,h2,h3,h4⟩
   ·exact ⟨ρ,Aj h1,h2⟩
   ·obtain ⟨ρ',k1,k2⟩:=ih (μ ρ2) (by lia) ρ2 rfl h3
    exact ⟨ρ',yw h1 h2 k1,k2⟩
 exact key _ ρ0 rfl h0
noncomputable abbrev prD (p:Int × Int):D:=.tup [.int p.1,.int p.2]
noncomputable abbrev bp (r:List (Int × Int)):D:=.tup (r.map prD)
noncomputable abbrev Cc (r:List (Int × Int)):D:=.lst (r.map prD)
@[simp] theorem gP {α:Type} (l:List α) (x:α):atI (l ++ [x]) (-1) = some x:=by
 unfold atI ixN
 rw [if_neg (by decide),List.length_append,List.length_singleton,if_pos (by lia)]
 have:((-1:Int) + ((l.length + 1:Nat):Int)).toNat = l.length:=by lia
 dsimp only [Option.bind]
 rw [this]
 simp
theorem fD {α:Type} {l:List α} {j:Nat} {x:α} (h:l[j]? = some x):atI l (j:Int) = some x:=by
 have:=(List.getElem?_eq_some_iff.mp h).1
 unfold atI ixN
 rw [if_pos (by lia),if_pos (by lia)]
 dsimp only [Option.bind]
 rw [Int.toNat_natCast]
 exact h
@[simp] theorem t0 (l:List O) (x:O) (f:O -> O):rm (l ++ [x]) (-1) f = l ++ [f x]:=by
 unfold rm ixN
 rw [if_neg (by decide),List.length_append,List.length_singleton,if_pos (by lia)]
 have:((-1:Int) + ((l.length + 1:Nat):Int)).toNat = l.length:=by lia
 dsimp only
 rw [this]
 simp
@[simp] theorem KY {α:Type} (l:List α) (a b:α):atI (l ++ [a,b]) (-1) = some b:=by
 have:=gP (l ++ [a]) b
 rw [List.append_assoc] at this
 exact this
@[simp] theorem MP {α:Type} (a:α):atI [a] (-1) = some a:=gP [] a
@[simp] theorem J6 (l:List O) (a b:O) (f:O -> O):rm (l ++ [a,b]) (-1) f = l ++ [a,f b]:=by
 have:=t0 (l ++ [a]) b f
 rw [List.append_assoc,List.append_assoc] at this
 exact this
@[simp] theorem LU (a:O) (f:O -> O):rm [a] (-1) f = [f a]:=t0 [] a f
@[simp] theorem Ll (i:Int):nj (.int i) = some (.int i):=rfl
@[simp] theorem MR (i:Bool):nj (.bl i) = some (.bl i):=rfl
@[simp] theorem Ln (i:Str):nj (.str i) = some (.str i):=rfl
@[simp] theorem Lm:nj .non = some .non:=rfl
@[simp] theorem MX (a b:O) (f:O -> O):rm [a,b] 1 f = [a,f b]:=rfl
theorem qD {n:Nat}:ixN (n + 1) (-1) = some n:=by
 unfold ixN
 rw [if_neg (by decide),if_pos (by lia)]
 congr 1
 lia
section
variable (i j:Int) (a b:List D) (neg:Bool) (ρ:Env)
@[simp] theorem OV:dG (.int i) (.int j) = some (.int (i - j)):=rfl
@[simp] theorem OC:aR (.int i) (.int j) = some (.int (i + j)):=rfl
@[simp] theorem ND:wD (.int i) (.int j) = some (.int (i + j)):=rfl
@[simp] theorem PH:dLt (.int i) (.int j) = some (.bl (decide (i < j))):=rfl
@[simp] theorem PF:dLe (.int i) (.int j) = some (.bl (decide (i <= j))):=rfl
@[simp] theorem PD:dGt (.int i) (.int j) = some (.bl (decide (j < i))):=rfl
@[simp] theorem PB:dGe (.int i) (.int j) = some (.bl (decide (j <= i))):=rfl
@[simp] theorem OP:j9 (.int i) = some (.int (-i)):=rfl
@[simp] theorem NR {i j:Int} (h:-18446744073709551616 < j /\ j < 18446744073709551616):oQ (.int i) (.int j) = some (.int (i * j)):=dg (.inr h)
@[simp] theorem NQ {i j:Int} (h:-18446744073709551616 < i /\ i < 18446744073709551616):oQ (.int i) (.int j) = some (.int (i * j)):=dg (.inl h)
@[simp] theorem OD {i j:Int} (h:0 < j /\ j < 1073741824):kQ (.int i) (.int j) = some (.int (i / j)):=dg h
@[simp] theorem OO {i j:Int} (h:0 < j):iG (.int i) (.int j) = some (.int (i % j)):=dg h
@[simp] theorem IC {i j:Int} (h:0 <= j /\ j <= 1000000 /\ i.natAbs < 18446744073709551616):wE (.int i) (.int j) = some (.int (i ^ j.toNat)):=dg h
theorem KQ:aR (.lst a) (.lst b) = if a.length + b.length <= LIM then some (.lst (a ++ b)) else none:=rfl
@[simp] theorem OG (d:D):Ji neg d .non = some (.bl (if neg then !oy d else oy d)):=rfl
@[simp] theorem MH:oy .non = true:=rfl
@[simp] theorem MI:oy (.int i) = false:=rfl
@[simp] theorem MJ:oy (.tup a) = false:=rfl
@[simp] theorem OH:dIx (.lst a) (.int i) = atI a i:=rfl
@[simp] theorem OJ:dIx (.tup a) (.int i) = atI a i:=rfl
@[simp] theorem OI:dIx (.scr a) (.int i) = atI a i:=rfl
@[simp] theorem NZ:yq (.lst a) = some (!a.isEmpty):=rfl
@[simp] theorem N5:yq (.tup a) = some (!a.isEmpty):=rfl
@[simp] theorem N1:yq (.scr a) = some (!a.isEmpty):=rfl
@[simp] theorem NW (x:Bool):yq (.bl x) = some x:=rfl
@[simp] theorem NY:yq (.int i) = some (i != 0):=rfl
@[simp] theorem N0:yq .non = some false:=rfl
@[simp] theorem NK:iA [.lst a] = some (.int a.length):=rfl
@[simp] theorem NM:iA [.tup a] = some (.int a.length):=rfl
@[simp] theorem NL:iA [.scr a] = some (.int a.length):=rfl
@[simp] theorem N6:eV [.lst a] = some (.tup a):=rfl
@[simp] theorem N7:eV [.tup a] = some (.tup a):=rfl
@[simp] theorem NN:Dt [.lst a] = some a:=rfl
@[simp] theorem NP:Dt [.tup a] = some a:=rfl
@[simp] theorem NO:Dt [.scr a] = some a:=rfl
@[simp] theorem OL:wm [.int i,.int j] = some (.int (if j > i then j else i)):=rfl
@[simp] theorem OM:pQ [.int i,.int j] = some (.int (if j < i then j else i)):=rfl
@[simp] theorem OE:Lb [.int i] = some (.int i):=rfl
@[simp] theorem NF (x:Bool):Lb [.bl x] = some (.int (if x then 1 else 0)):=rfl
@[simp] theorem NT:mN (.lst a) = some a:=rfl
@[simp] theorem NV:mN (.tup a) = some a:=rfl
@[simp] theorem NU:mN (.scr a) = some a:=rfl
@[simp] theorem OQ (lo hi:Option Int):dSl (.lst a) lo hi = some (.lst (iE a lo hi)):=rfl
@[simp] theorem OU (lo hi:Option Int):dSl (.tup a) lo hi = some (.tup (iE a lo hi)):=rfl
@[simp] theorem OT (lo hi:Option Int):dSl (.scr a) lo hi = some (.lst (iE a lo hi)):=rfl
@[simp] theorem Pz (y:XGs):aE y (.tup a) ρ = y a ρ:=rfl
@[simp] theorem Px (x:XG) (y:XGs) (d:D):ai x y (d :: a) ρ = (x d ρ).bind (y a):=rfl
@[simp] theorem Py:aB [] ρ = some ρ:=rfl
@[simp] theorem NH:Ds [.int i,.ty "int"] = some (.bl true):=rfl
@[simp] theorem NG:Ds [.int i,.ty "bool"] = some (.bl false):=rfl
@[simp] theorem NJ:Ds [.tup a,.ty "tuple"] = some (.bl true):=rfl
@[simp] theorem NI:Ds [.lst a,.ty "list"] = some (.bl true):=rfl
@[simp] theorem M0 (x:Bool):Ds [.bl x,.ty "bool"] = some (.bl true):=rfl
theorem ML {j:Int} (h:j < 1000000 /\ -1000000 < j):Fm [.int j] = some (eY 0 j.toNat):=dg h
end
noncomputable abbrev owl (l:List D):Sl:=.ow (.lst (l.map O.sh))
@[simp] theorem LS (os:List O):EW (.ow (.lst os)) = (shs os).map D.lst:=rfl
@[simp] theorem MZ:shs [] = some []:=rfl
@[simp] theorem yf (d:D) (l:List O):shs (.sh d :: l) = (shs l).map fun r=>d :: r:=rfl
@[simp] theorem MC (l:List D):shs (l.map O.sh) = some l:=pB l
@[simp] theorem FB {α:Type} (f:α -> D) (l:List α):shs (l.map (O.sh ∘ f)) = some (l.map f):=by rw [<- List.map_map];exact pB _
@[simp] theorem MD {α:Type} (f:α -> D) (l:List α):shs (l.map fun a=>O.sh (f a)) = some (l.map f):=FB f l
@[simp] theorem Hx:∀ (a b:List O),shs (a ++ b) = (shs a).bind fun x=>(shs b).map fun y=>x ++ y
 | [],b=>by cases h:shs b <;> simp [h]
 | .sh d :: a,b=>by
  rw [List.cons_append,yf,yf,Hx a b]
  cases shs a with
  | none=>rfl
  | some x=>cases shs b <;> rfl
 | .dic _ :: _,_=>rfl
 | .hd _ _ _ :: _,_=>rfl
 | .lst _ :: a,b=>rfl
 | .tup _ :: a,b=>rfl
@[simp] theorem MF (o:O):c9 o [] = some o:=by unfold c9;rfl
@[simp] theorem ME (l:List O) (k:Int) (r:List Int):c9 (.lst l) (k :: r) = (atI l k).bind fun o=>c9 o r:=rfl
@[simp] theorem MG (l:List O) (k:Int) (r:List Int):c9 (.tup l) (k :: r) = (atI l k).bind fun o=>c9 o r:=rfl
@[simp] theorem LW (o q:O):iW o [] q = q:=by unfold iW;rfl
@[simp] theorem LV (l:List O) (k:Int) (r:List Int) (q:O):iW (.lst l) (k :: r) q = .lst (rm l k fun o=>iW o r q):=rfl
@[simp] theorem LX (l:List O) (k:Int) (r:List Int) (q:O):iW (.tup l) (k :: r) q = .tup (rm l k fun o=>iW o r q):=rfl
@[simp] theorem M6 (d:D):O.d (.sh d) = d:=by unfold O.d;rfl
@[simp] theorem MN (l:List O):O.d (.lst l) = .lst (O.ds l):=by rw [O.d]
@[simp] theorem MO (l:List O):O.d (.tup l) = .tup (O.ds l):=by rw [O.d]
@[simp] theorem K5:O.ds [] = []:=by rw [O.ds]
@[simp] theorem Bp (o:O) (l:List O):O.ds (o :: l) = o.d :: O.ds l:=by rw [O.ds]
@[simp] theorem Dh:∀ (a b:List O),O.ds (a ++ b) = O.ds a ++ O.ds b
 | [],b=>by simp
 | o :: a,b=>by simp [Dh a b]
@[simp] theorem vY:∀ l:List D,O.ds (l.map O.sh) = l
 | []=>by simp
 | d :: l=>by simp [vY l]
@[simp] theorem KW {α:Type} (f:α -> D) (l:List α):O.ds (l.map (O.sh ∘ f)) = l.map f:=by rw [<- List.map_map];exact vY _
@[simp] theorem Ot {α:Type} (a b:α):atI [a,b] 0 = some a:=rfl
@[simp] theorem Ou {α:Type} (a b:α):atI [a,b] 1 = some b:=rfl
@[simp] theorem Ov {α:Type} (a b c:α):atI [a,b,c] 0 = some a:=rfl
@[simp] theorem Ow {α:Type} (a b c:α):atI [a,b,c] 1 = some b:=rfl
@[simp] theorem Ox {α:Type} (a b c:α):atI [a,b,c] 2 = some c:=rfl
theorem eh:LIM = 1000000:=by unfold LIM;rfl
@[simp] theorem Pn:(0:Nat) <= LIM:=Nat.zero_le _
@[simp] theorem Po:(1:Nat) <= LIM:=by rw [eh];decide
@[simp] theorem Pp:(2:Nat) <= LIM:=by rw [eh];decide
@[simp] theorem Pq:(3:Nat) <= LIM:=by rw [eh];decide
@[simp] theorem Pr:(4:Nat) <= LIM:=by rw [eh];decide
@[simp] theorem Ps:(5:Nat) <= LIM:=by rw [eh];decide
@[simp] theorem Pt:(6:Nat) <= LIM:=by rw [eh];decide
@[simp] theorem Pu:(7:Nat) <= LIM:=by rw [eh];decide
@[simp] theorem Pv:(8:Nat) <= LIM:=by rw [eh];decide
@[simp] theorem Pw:(9:Nat) <= LIM:=by rw [eh];decide
@[simp] theorem OB:(10:Nat) <= LIM:=by rw [eh];decide
@[simp] theorem OA:(0:Nat) < LIM:=by rw [eh];decide
theorem Jl (p q:Int × Int):eqD (prD p) (prD q) = decide (p = q):=by
 obtain ⟨a,b⟩:=p
 obtain ⟨c,d⟩:=q
 simp [prD,eqD,eqDs,Prod.ext_iff]
 by_cases h1:a = c <;> by_cases h2:b = d <;> simp [h1,h2]
theorem wN:∀ r t:List (Int × Int),eqDs (r.map prD) (t.map prD) = decide (r = t)
 | [],[]=>rfl
 | [],_ :: _=>by simp [eqDs]
 | _ :: _,[]=>by simp [eqDs]
 | p :: r,q :: t=>by
  rw [List.map_cons,List.map_cons,eqDs,Jl,wN r t]
  by_cases h1:p = q <;> by_cases h2:r = t <;> simp [h1,h2]
theorem Gq (r t:List (Int × Int)):eqD (bp r) (bp t) = decide (r = t):=by
 unfold bp
 rw [eqD,wN]
theorem xH (n:Nat):∀ r:List (Int × Int),okDs (n + 1) (r.map prD) = true
 | []=>by simp [okDs]
 | p :: r=>by rw [List.map_cons,okDs,xH n r];simp [prD,okD,okDs]
theorem AN (r:List (Int × Int)):okD 50 (bp r) = true:=by
 unfold bp
 rw [okD]
 exact xH 48 r
theorem Av (neg:Bool) (r t:List (Int × Int)):dEq neg (bp r) (bp t) = some (.bl (if neg then !decide (r = t) else decide (r = t))):=by
 unfold dEq
 rw [if_pos ⟨AN r,AN t⟩,Gq]
@[simp] theorem MQ (neg:Bool) (i j:Int):dEq neg (.int i) (.int j) = some (.bl (if neg then !decide (i = j) else decide (i = j))):=by
 unfold dEq
 rw [if_pos ⟨by simp [okD],by simp [okD]⟩]
 have:eqD (.int i) (.int j) = decide (i = j):=by simp [eqD];by_cases h:i = j <;> simp [h]
 rw [this]
@[simp] theorem Na (neg:Bool) (i j:Bool):dEq neg (.bl i) (.bl j) = some (.bl (if neg then !decide (i = j) else decide (i = j))):=by
 unfold dEq
 rw [if_pos ⟨by simp [okD],by simp [okD]⟩]
 have:eqD (.bl i) (.bl j) = decide (i = j):=by simp [eqD];by_cases h:i = j <;> simp [h]
 rw [this]
theorem tw:∀ ns:List Int,Dens K S (ns.map D.int) (ns.map V.int)
 | []=>.nil
 | n :: ns=>.cons (den_int.mpr rfl) (tw ns)
theorem CQ    {ns:List Int} {m:List D -> Option O}  (hS:SqL K H a (ns.map V.int)) (h:(m [.scr (ns.map D.int)]).map O.d = some (.bl true)):bD K 1 m [.ref a] H (fun v _=>v = .bl true) E:=by
 cases q:m [.scr (ns.map D.int)] with
 | none=>rw [q] at h;cases h
 | some o=>
  rw [q] at h
  have e:o.d = .bl true:=Option.some.inj h
  exact ⟨rfl,H,[.scr (ns.map D.int)],o,Same.refl _,.cons (den_scr.mpr ⟨a,_,rfl,hS,tw ns⟩) .nil,q,fun v fp S' H' z ow _ _=>by
   have dv:=ow.denH z.sub
   rw [e] at dv
   exact den_bl.mp dv⟩
end M
namespace L2
open PySem PySem.Spec PyProof.Rows
theorem Jb:bootBuiltins "len" = some (.builtin "len"):=by decide +kernel
theorem m6:bootBuiltins "sorted" = some (.builtin "sorted"):=by decide +kernel
theorem Jc:bootBuiltins "max" = some (.builtin "max"):=by decide +kernel
theorem Dw:bootBuiltins "min" = some (.builtin "min"):=by decide +kernel
theorem Dy:bootBuiltins "sum" = some (.builtin "sum"):=by decide +kernel
theorem gQ:bootBuiltins "tuple" = some (.type "tuple"):=by decide +kernel
section
variable {X:Cx}
theorem xu:∀ a b:List Int,Srt.fJ a b = HT.bx a b
 | [],[]=>rfl
 | [],_ :: _=>rfl
 | _ :: _,[]=>rfl
 | x :: xs,y :: ys=>by
  rw [HT.zi,<- xu xs ys]
  rfl
end
end L2
namespace Rev
open PySem
section
variable {prog:Program} {w:World} {A:Around} {s:Shared} {R:Result -> Shared -> Prop} {I:Addr} {fp wr:List Addr} {G:Array GenState -> Array GenState -> Prop} {n:Nat} {P:Nat -> Value -> Prop} {St:Nat -> Shared -> Prop}
end
section
variable {prog:Program} {w:World} {A:Around} {E:Value -> Shared -> Prop} {s:Shared} {I:Addr} {fp wr:List Addr} {G:Array GenState -> Array GenState -> Prop} {n:Nat} {P:Nat -> Value -> Prop} {St:Nat -> Shared -> Prop}
end
end Rev
namespace L2
open PySem PySem.Spec PyProof.Rows
theorem wp:bootBuiltins "reversed" = some (.type "reversed"):=by decide +kernel
section
variable {X:Cx} {tg:Expr}
theorem zJ  {tl:TE} (hl:PE X l tl):PI X tg l (Jt X.K tl):=by
 intro pins s σ H R I h
 refine thn (hl pins s σ H _ I h) fun v s1 h1=>?_
 obtain ⟨x,H1,I1,r1,a,e,q⟩:=h1
 subst e
 cases r1
 rcases q with ⟨⟨xs,hq⟩,q⟩ | ⟨⟨xs,hq⟩,q⟩
 ·obtain ⟨its,rv,p,hz⟩:=I1.list hq
  refine wpAny_pyIter_list p.isList ⟨s1.heap.objs.size,[s1.heap.objs.size],_,_,H1,rfl,I1.kept (t':=s1.toks) fun b o e=>Heap.get?_push_of_some _ e,CW a _,⟨_,Heap.get?_push_size _ rfl,rfl,rfl⟩,fun b hb=>?_,q⟩
  rw [List.mem_singleton.mp hb]
  exact I1.fpOk (Nat.le_refl _) I1.fresh
 ·obtain ⟨its,rv,p,hz⟩:=I1.tuple hq
  refine wpAny_pyIter_tuple (show s1.heap.IsTuple a its.toArray from p) ⟨s1.heap.objs.size,[s1.heap.objs.size],_,_,H1,rfl,I1.kept (t':=s1.toks) fun b o e=>Heap.get?_push_of_some _ e,Af a _,⟨_,Heap.get?_push_size _ rfl,rfl,rfl⟩,fun b hb=>?_,q⟩
  rw [List.mem_singleton.mp hb]
  exact I1.fpOk (Nat.le_refl _) I1.fresh
end
section
variable {X:Cx} {tg:Expr}
theorem tK:∀ {vs:List Value} {ns:List Int},IntsAre vs ns -> Vals (ns.map V.int) vs
 | _,_,.nil=>.nil
 | _,_,.cons n t h=>.cons ⟨t,rfl⟩ (tK h)
theorem call_sortedI:CallR X (.builtin "sorted") (xX X.K):=by
 intro pins s σ H xs us Q I r h
 obtain ⟨p,ns,rfl,hS,h64,k⟩:=h
 obtain ⟨u,rfl,ru⟩:=r.one
 cases ru
 obtain ⟨its,rv,pl,hz⟩:=I.list hS
 have hI:IntsAre its ns:=k8 rv
 have hl:its.length = ns.length:=by have:=rv.length;rw [List.length_map] at this;exact this.symm
 refine Srt.vB pl.isList hI (by rw [sizeLine_eq];lia) fun out ms ho perm pw=>?_
 obtain ⟨e,at1⟩:=sortedAll_at s.heap its out
 have fresh:s.heap.objs.size <= s.heap.objs.size + 1:=Nat.le_succ _
 refine ⟨.ref (s.heap.objs.size + 1),upd H (s.heap.objs.size + 1) (.lst (ms.map V.int)),I.laid (t':=s.toks) (fun b o hb=>sortedAll_old hb) fresh ?_,rfl,k ms _ perm pw (I.hok.fresh fresh)⟩
 exact ⟨by rw [List.length_map,perm.length_eq,sizeLine_eq];lia,out.toList,e,tK ho,by simpa using at1⟩
theorem tj (hc:X.calm = true):CallR X (.builtin "sum") (Ix X.K):=by
 intro pins s σ H xs us Q I r h
 obtain ⟨p,ns,rfl,hS,q⟩:=h
 obtain ⟨u,rfl,ru⟩:=r.one
 cases ru
 obtain ⟨its,rv,pl,hz⟩:=I.list hS
 have hI:IntsAre its ns:=k8 rv
 obtain ⟨ys,e⟩:=hI.allInts.items
 have hl:=pl.isList
 have en:ns = ys.toList.map (·.1):=by
  rw [<- nums_intItems,<- e]
  simpa using hI.numsOf.symm
 rw [e] at hl
 refine sum_intListG (I.ok.hd hc) hl fun h' tk t' hk=>⟨.int ns.sum,H,I.kept hk,⟨t',?_⟩,q⟩
 rw [preSum_eq,List.take_of_length_le (by simp),en]
end
end L2
namespace HT
open PySem PySem.Spec PyProof.Rows
section
variable {prog:Program} {w:World} {A:Around} {E:Value -> Shared -> Prop} {s:Shared}
theorem kc {t sl:Addr} {items:Array Value} {vl vu:Value} {lo hi:Option Int} {Q:Value -> Shared -> Prop} (ht:IsTup s.heap t items) (hs:s.heap.IsSliceOf sl vl vu .none) (pl:IsPart vl lo) (pu:IsPart vu hi)
  (hw:sIx items.size 0 lo = 0 /\ sIx items.size items.size hi = items.size) (h:Q (.ref t) s):wpAny (model prog w) A (getItem (.ref t) (.ref sl)) Q E s:=by
 obtain ⟨os,hos,hcs,hds⟩:=id hs
 have hTs:s.TypeIs (.ref sl) "slice" := ⟨os,hos,hcs⟩
 unfold getItem
 try with_reducible refine wpAny_holding ?_
 first | refine wpAny_bind (wpAny_pure ?_) | skip
 refine wpAny_bind (wpAny_sequenceKey ht.typeIs (by decide) ?_)
 refine wpAny_bind (wpAny_callSpecial?_slot (name:=Str.ofString "__getitem__") ht.typeIs PyProof.Rows.slot_tuple_getitem
  (wpAny_call_entry PyProof.Rows.slot_tuple_getitem ht.typeIs entry_tuple_getitem ?_ (args_tuple_getitem _ _)))
 show wpAny _ _ (Builtin.Tuple.tupleItemsOf (.ref t) >>= _) _ _ s
 refine wpAny_bind (tupleItemsOf_ ht ?_)
 refine wpAny_bind (wpAny_typeOf hTs ?_)
 rw [if_pos (by decide)]
 refine wpAny_bind (hZ hs pl pu ?_)
 have hyes:((((sIx items.size 0 lo:Nat):Int) == 0 && (1:Int) == 1 && (sIx items.size items.size hi - sIx items.size 0 lo) == items.size) = true):=by
  rw [hw.1,hw.2]
  simp
 show wpAny _ _ (if (((sIx items.size 0 lo:Nat):Int) == 0 && (1:Int) == 1 && (sIx items.size items.size hi - sIx items.size 0 lo) == items.size) = true then _ else _) _ _ s
 rw [if_pos hyes]
 refine wpAny_bind (m:=Builtin.Tuple.tupleIsExact _) (wpAny_bind (wpAny_typeOf ht.typeIs (wpAny_pure ?_)))
 rw [if_pos (by decide)]
 exact wpAny_bind (wpAny_rule (wpAny_pure ⟨_,rfl,wpAny_pure h⟩))
end
end HT
namespace L2
open PySem PySem.Spec PyProof.Rows M
theorem Inv.rdl  {pins:List (Addr × Obj)}     {xs:List V} (I:Inv X pins σ H s) (h:Rd H l (.lst xs)):xs.length <= sizeLine /\ ∃ (its:List Value) (n:Nat),Vals xs its /\ xs.length = its.length /\ s.heap.get? l = some { cls:=.type "list",data:=.seq its.toArray n }:=by
 obtain ⟨h1,its,n,r,e⟩:=(show ObjOk X.prog X.w H s.heap l (.lst xs) from h.ok I.hok)
 exact ⟨h1,its,n,r,r.length,e⟩
section
variable {X:Cx}
theorem op_catM:OpR X (binaryOp .Add) Iu:=by
 intro pins s σ H x y v u Q I rx ry h
 obtain ⟨l,b,xs,zs,rfl,rfl,hH,hB,hz,q⟩:=h
 cases rx
 cases ry
 obtain ⟨z,its,n,r,hl,e⟩:=I.rdl hH
 obtain ⟨z2,its2,n2,r2,hl2,e2⟩:=I.rdl hB
 refine PySem.P.add_list e e2 ?_ (by rw [List.size_toArray,List.size_toArray];lia)
 have ea:its.toArray ++ its2.toArray = (its ++ its2).toArray:=by simp
 rw [ea]
 exact ⟨.ref _,_,I.lnew (t':=s.toks) (r.append r2) (by rw [List.length_append];lia),rfl,q _ I.fresh⟩
theorem op_tupM:OpR X (binaryOp .Add) (Iy X.K):=by
 intro pins s σ H x y v u Q I rx ry h
 obtain ⟨a,b,xs,ys,rfl,rfl,ha,hb,hz,q1,q2,q⟩:=h
 cases rx
 cases ry
 obtain ⟨its,r1,p1,_⟩:=I.tuple ha
 obtain ⟨its2,r2,p2,_⟩:=I.tuple hb
 have hz2:its.length + its2.length <= sizeLine:=by rw [<- r1.length,<- r2.length];exact hz
 by_cases hv:its = []
 ·have hx:xs = []:=r1.nil_iff.mp hv
  obtain ⟨⟨cls,dd,data,sl⟩,ho,hc,n,hd⟩:=id p1
  obtain ⟨⟨cls2,dd2,data2,sl2⟩,ho2,hc2,n2,hd2⟩:=id p2
  simp only at hc hd hc2 hd2;subst hc hd hc2 hd2
  exact concat_meets ⟨_,ho,rfl⟩ ⟨_,ho2,rfl⟩ noFill_tuple_add seq_tuple_add PySem.F.slot_tuple_add PySem.F.entry_tuple_add (PySem.F.args_tuple_add_2 (.ref a) (.ref b)) (tuple_addW0 a b its.toArray its2.toArray n n2 dd dd2 sl sl2 (by simp [hv])) ⟨ho,ho2,⟨.ref b,H,I,rfl,q2 hx⟩⟩
 ·refine HT.Gm p1 p2 hv (fun z=>⟨.ref a,H,I,rfl,q1 (r2.nil_iff.mp z)⟩) (fun z=>?_) hz2
  refine ⟨.ref s.heap.objs.size,_,I.laid (t':=s.toks) (o:=.tup (xs ++ ys)) (fun b ob e=>Heap.get?_push_of_some _ e) (Nat.le_refl _) ?_,rfl,q _ (I.hok.fresh (Nat.le_refl _))⟩
  exact ⟨by rw [List.length_append];exact hz,_,r1.append r2,IsTup.new _ _⟩
theorem G7:OpR X (binaryOp .Add) Iw:=zE
theorem G4:OpR X (binaryOp .Add) (Fe X.K):=op_add.or (op_catM.or (op_tupM.or G7))
mutual
noncomputable def pyD:D -> PyData
 | .non=>.none
 | .bl b=>.bool b
 | .int i=>.int i
 | .str x=>.str x
 | .lst l=>.list (pyDs l)
 | .tup l=>.tuple (pyDs l)
 | .mtp l=>.tuple (pyDs l)
 | _=>.none
noncomputable def pyDs:List D -> List PyData
 | []=>[]
 | d :: l=>pyD d :: pyDs l
end
mutual
theorem qV:∀ (n:Nat) (d:D),okD n d = true -> (pyD d).canLay0 = true /\ (pyD d).depth <= n
 | _,.non,_=>by simp [pyD,PyData.canLay0,PyData.depth]
 | _,.bl _,_=>by simp [pyD,PyData.canLay0,PyData.depth]
 | _,.int _,_=>by simp [pyD,PyData.canLay0,PyData.depth]
 | n,.str x,h=>by
  have h':PyData.strOk x = true:=by cases n <;> simpa [okD] using h
  simp [pyD,PyData.canLay0,PyData.depth,h']
 | 0,.lst l,h=>by simp [okD] at h
 | n + 1,.lst l,h=>by
  obtain ⟨a,b⟩:=pq n l (by simpa [okD] using h)
  simp only [pyD,PyData.canLay0,PyData.depth]
  exact ⟨a,by lia⟩
 | 0,.tup l,h=>by simp [okD] at h
 | n + 1,.tup l,h=>by
  obtain ⟨a,b⟩:=pq n l (by simpa [okD] using h)
  simp only [pyD,PyData.canLay0,PyData.depth]
  exact ⟨a,by lia⟩
 | 0,.mtp l,h=>by simp [okD] at h
 | n + 1,.mtp l,h=>by
  obtain ⟨a,b⟩:=pq n l (by simpa [okD] using h)
  simp only [pyD,PyData.canLay0,PyData.depth]
  exact ⟨a,by lia⟩
 | n,.ty _,h=>by cases n <;> simp [okD] at h
 | n,.scr _,h=>by cases n <;> simp [okD] at h
 | n,.ins _ _ _,h=>by cases n <;> simp [okD] at h
theorem pq:∀ (n:Nat) (l:List D),okDs n l = true -> PyData.canLayAll0 (pyDs l) = true /\ PyData.depthAll (pyDs l) <= n
 | _,[],_=>by simp [pyDs,PyData.canLayAll0,PyData.depthAll]
 | n,d :: l,h=>by
  rw [okDs,Bool.and_eq_true] at h
  obtain ⟨a,b⟩:=qV n d h.1
  obtain ⟨c,e⟩:=pq n l h.2
  simp only [pyDs,PyData.canLayAll0,PyData.depthAll,a,c]
  exact ⟨rfl,by lia⟩
end
mutual
theorem yM:∀ (n m:Nat) (d e:D),okD n d = true -> okD m e = true -> PyData.eqv (pyD d) (pyD e) = eqD d e
 | n,m,.non,e,_,he=>by cases e <;> first | (simp [pyD,PyData.eqv,eqD];done) | (cases m <;> simp [okD] at he)
 | n,m,.bl _,e,_,he=>by cases e <;> first | (simp [pyD,PyData.eqv,eqD];done) | (cases m <;> simp [okD] at he)
 | n,m,.int _,e,_,he=>by cases e <;> first | (simp [pyD,PyData.eqv,eqD];done) | (cases m <;> simp [okD] at he)
 | n,m,.str _,e,_,he=>by cases e <;> first | (simp [pyD,PyData.eqv,eqD];done) | (cases m <;> simp [okD] at he)
 | 0,m,.lst _,e,hd,he=>by simp [okD] at hd
 | n + 1,m,.lst l,e,hd,he=>by
  cases e with
  | lst l'=>
   cases m with
   | zero=>simp [okD] at he
   | succ m=>
    simp only [pyD,PyData.eqv,eqD]
    exact eqvs_is n m l l' (by simpa [okD] using hd) (by simpa [okD] using he)
  | _=>first | (simp [pyD,PyData.eqv,eqD];done) | (cases m <;> simp [okD] at he)
 | 0,m,.tup _,e,hd,he=>by simp [okD] at hd
 | n + 1,m,.tup l,e,hd,he=>by
  cases e with
  | tup l'=>
   cases m with
   | zero=>simp [okD] at he
   | succ m=>
    simp only [pyD,PyData.eqv,eqD]
    exact eqvs_is n m l l' (by simpa [okD] using hd) (by simpa [okD] using he)
  | mtp l'=>
   cases m with
   | zero=>simp [okD] at he
   | succ m=>
    simp only [pyD,PyData.eqv,eqD]
    exact eqvs_is n m l l' (by simpa [okD] using hd) (by simpa [okD] using he)
  | _=>first | (simp [pyD,PyData.eqv,eqD];done) | (cases m <;> simp [okD] at he)
 | 0,m,.mtp _,e,hd,he=>by simp [okD] at hd
 | n + 1,m,.mtp l,e,hd,he=>by
  cases e with
  | tup l'=>
   cases m with
   | zero=>simp [okD] at he
   | succ m=>
    simp only [pyD,PyData.eqv,eqD]
    exact eqvs_is n m l l' (by simpa [okD] using hd) (by simpa [okD] using he)
  | mtp l'=>
   cases m with
   | zero=>simp [okD] at he
   | succ m=>
    simp only [pyD,PyData.eqv,eqD]
    exact eqvs_is n m l l' (by simpa [okD] using hd) (by simpa [okD] using he)
  | _=>first | (simp [pyD,PyData.eqv,eqD];done) | (cases m <;> simp [okD] at he)
 | n,_,.ty _,_,h,_=>by cases n <;> simp [okD] at h
 | n,_,.scr _,_,h,_=>by cases n <;> simp [okD] at h
 | n,_,.ins _ _ _,_,h,_=>by cases n <;> simp [okD] at h
theorem eqvs_is:∀ (n m:Nat) (l l':List D),okDs n l = true -> okDs m l' = true -> PyData.eqvAll (pyDs l) (pyDs l') = eqDs l l'
 | _,_,[],[],_,_=>by simp [pyDs,PyData.eqvAll,eqDs]
 | _,_,[],_ :: _,_,_=>by simp [pyDs,PyData.eqvAll,eqDs]
 | _,_,_ :: _,[],_,_=>by simp [pyDs,PyData.eqvAll,eqDs]
 | n,m,d :: l,e :: l',hd,he=>by
  rw [okDs,Bool.and_eq_true] at hd he
  rw [pyDs,pyDs,PyData.eqvAll,eqDs,yM n m d e hd.1 he.1,eqvs_is n m l l' hd.2 he.2]
end
theorem uF {H:Hp} {s:Shared} {n:Nat} (ih:∀ {d:D} {x:V} {v:Value},okD n d = true -> Den X.K H d x -> RelV x v -> ∃ as,Reads s.heap v (pyD d) as) {ds:List D}:∀ {xs:List V} {vs:List Value},okDs n ds = true -> Dens X.K H ds xs -> Vals xs vs -> ∃ as,ReadsAll s.heap vs (pyDs ds) as:=by
 induction ds with
 | nil=>
  intro xs vs _ d r
  rw [d.nil_of] at r
  cases r
  exact ⟨_,.nil⟩
 | cons d ds id=>
  intro xs vs h dd r
  rw [okDs,Bool.and_eq_true] at h
  obtain ⟨y,ys,rfl,a,b⟩:=dd.cons_of
  cases r with
  | cons r rr=>
   obtain ⟨as,ra⟩:=ih h.1 a r
   obtain ⟨bs,rb⟩:=id h.2 b rr
   exact ⟨_,.cons ra rb⟩
theorem wF {pins:List (Addr × Obj)} {σ:St} {H:Hp} {s:Shared} (I:Inv X pins σ H s) (n:Nat) (ih:∀ m,n = m + 1 -> ∀ {d:D} {x:V} {v:Value},okD m d = true -> Den X.K H d x -> RelV x v -> ∃ as,Reads s.heap v (pyD d) as) {d:D} {x:V} {v:Value} (h:okD n d = true) (dx:Den X.K H d x) (r:RelV x v):∃ as,Reads s.heap v (pyD d) as:=by
 cases d with
 | non=>rw [den_non.mp dx] at r;cases r;exact ⟨_,.none⟩
 | bl b=>rw [den_bl.mp dx] at r;cases r;exact ⟨_,.bool b⟩
 | int i=>rw [den_int.mp dx] at r;obtain ⟨t,rfl⟩:=r;exact ⟨_,.int i t⟩
 | str y=>rw [den_str.mp dx] at r;obtain ⟨t,rfl⟩:=r;exact ⟨_,.str y t⟩
 | lst l=>
  cases n with
  | zero=>simp [okD] at h
  | succ n=>
   obtain ⟨p,xs,rfl,hp,ds⟩:=den_lst.mp dx
   cases r
   obtain ⟨_,its,k,rv,_,e⟩:=I.rdl hp
   obtain ⟨as,ra⟩:=uF (ih n rfl) (by simpa [okD] using h) ds rv
   exact ⟨_,.list e rfl rfl (by simpa using ra)⟩
 | tup l=>
  cases n with
  | zero=>simp [okD] at h
  | succ n=>
   obtain ⟨p,xs,rfl,hp,ds⟩:=eS dx
   cases r
   obtain ⟨its,rv,⟨o,e,c,k,d⟩,_⟩:=I.tuple hp
   obtain ⟨as,ra⟩:=uF (ih n rfl) (by simpa [okD] using h) ds rv
   exact ⟨_,.tuple e c d (by simpa using ra)⟩
 | mtp l=>
  cases n with
  | zero=>simp [okD] at h
  | succ n=>
   obtain ⟨p,xs,rfl,hp,ds⟩:=den_mtp.mp dx
   cases r
   obtain ⟨its,rv,⟨o,e,c,k,d⟩,_⟩:=I.tuple hp
   obtain ⟨as,ra⟩:=uF (ih n rfl) (by simpa [okD] using h) ds rv
   exact ⟨_,.tuple e c d (by simpa using ra)⟩
 | _=>cases n <;> simp [okD] at h
theorem jY {pins:List (Addr × Obj)}    (I:Inv X pins σ H s) (n:Nat):∀ {d:D} {x:V} {v:Value},okD n d = true -> Den X.K H d x -> RelV x v -> ∃ as,Reads s.heap v (pyD d) as:=by
 induction n with
 | zero=>exact fun {d x v}=>wF I 0 (fun m e=>by cases e)
 | succ n ih=>exact fun {d x v}=>wF I (n + 1) (fun m e=>by cases e;exact ih)
theorem JL (hu:X.A.units + 64 < cLine):OpR X (compareOp .Eq) (Hq X.K false):=by
 intro pins s σ H x y v u Q I rx ry h
 obtain ⟨S,d,e,sm,dx,dy,cd,ce,q⟩:=h
 obtain ⟨as,ra⟩:=jY I 50 cd (pW sm dx) rx
 obtain ⟨bs,rb⟩:=jY I 50 ce (pW sm dy) ry
 obtain ⟨a1,a2⟩:=qV 50 d cd
 obtain ⟨b1,b2⟩:=qV 50 e ce
 have hm:=Nat.min_le_left (pyD d).depth (pyD e).depth
 refine SeqAt.compareEq_reads ra rb a1 b1 (by lia) ⟨.bl _,H,I,rfl,?_⟩
 rw [yM 50 50 d e cd ce]
 exact q
theorem JO (hu:X.A.units + 64 < cLine):OpR X (compareOp .NotEq) (Hq X.K true):=by
 intro pins s σ H x y v u Q I rx ry h
 obtain ⟨S,d,e,sm,dx,dy,cd,ce,q⟩:=h
 obtain ⟨as,ra⟩:=jY I 50 cd (pW sm dx) rx
 obtain ⟨bs,rb⟩:=jY I 50 ce (pW sm dy) ry
 obtain ⟨a1,a2⟩:=qV 50 d cd
 obtain ⟨b1,b2⟩:=qV 50 e ce
 have hm:=Nat.min_le_left (pyD d).depth (pyD e).depth
 refine SeqAt.compareNe_reads ra rb a1 b1 (by lia) ⟨.bl _,H,I,rfl,?_⟩
 rw [yM 50 50 d e cd ce]
 exact q
theorem Bz:CallR X (.builtin "len") (Ff X.K):=DB
theorem pp:MtM X "list.extend" rExtM:=by
 intro pins s σ H x vs v us Q I rx rv h
 obtain ⟨l,b,xs,zs,rfl,rfl,hH,hB,hz,q⟩:=h
 cases rx
 obtain ⟨u,rfl,ru⟩:=rv.one
 cases ru
 obtain ⟨z,its,n,r,hl,e⟩:=I.lstM hH
 obtain ⟨z2,its2,n2,r2,hl2,e2⟩:=I.rdl hB
 have hsz:its.toArray.size + its2.toArray.size <= sizeLine:=by rw [List.size_toArray,List.size_toArray];lia
 have hlong:¬ (!its.toArray.isEmpty && Builtin.List.listTooLong (its.toArray.size + its2.toArray.size)) = true:=by
  rw [EH hsz,Bool.and_false]
  exact Bool.false_ne_true
 refine call_meets F.slot_list_extend ⟨_,e,rfl⟩ F.entry_list_extend (F.args_list_extend_2 _ _)
  (AutoSeq1.list_extend_list_list_0 l its.toArray n b its2.toArray n2 hlong (by rw [List.size_toArray];lia) (by lia)) ⟨e,e2,?_⟩
 refine ⟨.non,_,I.lset (its':=its ++ its2) hH e (by simp) (r.append r2) ?_,rfl,q⟩
 rw [List.length_append]
 lia
theorem NA:SlR X (J8 X.K):=by
 refine SlR.or Hy ?_
 intro pins s σ H x v vl vu lo hi sl Q I rx hs pl pu h
 obtain ⟨a,xs,rfl,hx,q1,q2⟩:=h
 cases rx
 by_cases hw:HT.sIx xs.length 0 lo = 0 /\ HT.sIx xs.length xs.length hi = xs.length
 ·obtain ⟨its,r,ht,hz⟩:=I.tuple hx
  have hlen:its.toArray.size = xs.length:=by rw [List.size_toArray];exact r.length.symm
  have hcut:j8 xs lo hi = xs:=by
   unfold j8
   rw [hw.1,hw.2,List.drop_zero,Nat.sub_zero,List.take_of_length_le (Nat.le_refl _)]
  refine ⟨"tuple",_,PyProof.Rows.slot_tuple_getitem.lookup,ht.typeIs,?_⟩
  exact HT.kc ht hs pl pu (by rw [hlen];exact hw) ⟨.ref a,H,I,rfl,q1 hcut⟩
 ·exact KD pins s σ H (.ref a) (.ref a) vl vu lo hi sl Q I rfl hs pl pu ⟨a,xs,rfl,hx,hw,q2⟩
theorem yG:CallR X (.builtin "sorted") (Fh X.K):=by
 intro pins s σ H xs us Q I r h
 obtain ⟨p,yks,rfl,hS,h64,hk,k⟩:=h
 obtain ⟨u,rfl,ru⟩:=r.one
 cases ru
 obtain ⟨its,rv,pl,hz⟩:=I.list hS
 have hl:yks.length = its.length:=by rw [<- rv.length,List.length_map]
 have atI:∀ i,i < its.length -> ∃ yk,yks[i]? = some yk /\ yks.getD i (.non,[]) = yk /\ RelV yk.1 (its.getD i Value.none):=fun i hi=>by
  have ey:yks[i]? = some yks[i]:=List.getElem?_eq_getElem (by lia)
  have ex:(yks.map (·.1))[i]? = some yks[i].1:=by rw [List.getElem?_map,ey];rfl
  obtain ⟨v,ev,rl⟩:=rv.get ex
  exact ⟨_,ey,by rw [List.getD_eq_getElem?_getD,ey];rfl,by rw [List.getD_eq_getElem?_getD,ev];exact rl⟩
 have tup:∀ i,i < its.length -> Srt.K9 s.heap (its.getD i Value.none) (yks.getD i (.non,[])).2 /\ (yks.getD i (.non,[])).2 ≠ []:=fun i hi=>by
  obtain ⟨yk,e1,e2,rl⟩:=atI i hi
  obtain ⟨q,e3,e4,e5⟩:=hk _ (List.mem_of_getElem? e1)
  rw [e2]
  refine ⟨?_,e5⟩
  rw [e3] at rl
  have rl':its.getD i Value.none = Value.ref q:=rl
  obtain ⟨js,rj,⟨o,ho,hc,n,hd⟩,_⟩:=I.tuple e4
  refine ⟨q,o,js.toArray,n,rl',ho,hc,hd,?_⟩
  simpa using k8 rj
 refine Srt.ud (Srt.Ep fun i=>(yks.getD i (.non,[])).2) pl.isList (by rw [sizeLine_eq];lia) (Srt.zd tup) fun q hq ha=>?_
 obtain ⟨pv,pw⟩:=Srt.zG (vs:=its) (d:=Value.none) hq ha
 rw [<- hl] at hq ha
 obtain ⟨py,wy⟩:=Srt.zG (vs:=yks) (d:=((V.non,[]):V × List Int)) hq ha
 obtain ⟨e,at1⟩:=sortedAll_at s.heap its (Srt.jg its q)
 have hv:Vals ((q.toList.map fun i=>yks.getD i (.non,[])).map (·.1)) (q.toList.map fun i=>its.getD i Value.none):=by
  have hb:∀ i ∈ q.toList,i < its.length:=fun i hi=>by
   have:i < yks.length:=by simpa using (Array.perm_iff_toList_perm.mp hq).mem_iff.mp hi
   lia
  revert hb
  generalize q.toList = L
  induction L with
  | nil=>exact fun _=>.nil
  | cons i L ih=>
   intro hb
   refine .cons ?_ (ih fun j hj=>hb j (List.mem_cons_of_mem _ hj))
   obtain ⟨yk,_,e2,rl⟩:=atI i (hb i List.mem_cons_self)
   dsimp only
   rw [e2]
   exact rl
 have fresh:s.heap.objs.size <= s.heap.objs.size + 1:=Nat.le_succ _
 refine ⟨.ref (s.heap.objs.size + 1),upd H (s.heap.objs.size + 1) (.lst ((q.toList.map fun i=>yks.getD i (.non,[])).map (·.1))),I.laid (t':=s.toks) (fun b o hb=>sortedAll_old hb) fresh ?_,rfl,?_⟩
 ·refine ⟨by rw [List.length_map,py.length_eq,sizeLine_eq];lia,_,e,hv,at1⟩
 ·refine k _ _ py (wy _ fun i j _ _ h=>?_) (I.hok.fresh fresh)
  rw [<- xu]
  exact h
theorem iC:CallR X (.builtin "sorted") (rn X.K):=call_sortedI.or yG
end
end L2
namespace M
noncomputable def Li (a:List Int) (k:Int):List Int:=if a.any (· == k) then a else a ++ [k]
noncomputable def Nd (ns:List Int):List Int:=ns.foldl Li []
end M
namespace L2
open PySem
section
variable {X:Cx}
end
end L2
namespace M
open PySem L2
section
variable {K:W.Frag}
end
end M
namespace L2
open PySem M
end L2
namespace M
open PySem L2
@[simp] noncomputable def M2 (a:XE):XE:=fun ρ=>(a ρ).bind fun d=>match d with | .lst l=>(bi l).bind fun ns=>if ns.length < 4000 then some (.int ((Nd ns).length:Nat)) else none | _=>none
end M
namespace L2
open PySem
def ul (K:W.Frag) (Ns:List Str) (P:Addr -> Prop):Prop:=∀ N ∈ Ns,∀ C,W.nsIn K mainGlobals N = some (some (.ref C)) -> P C
def K3 (K:W.Frag) (Ns:List Str) (H:Hp) (x:V) (a:Addr) (C dx:Addr) (fs:List (Str × V)):Prop:=x = .ref a /\ (∃ N ∈ Ns,W.nsIn K mainGlobals N = some (some (.ref C))) /\ H a = some (.ins C dx fs)
noncomputable def FO (K:W.Frag) (Ns:List Str) (ta:TE) (f:Str):TE:=fun σ H Q=>ta σ H fun x H1=>∃ a C dx fs v,K3 K Ns H1 x a C dx fs /\ fs.lookup f = some v /\ Q v H1
noncomputable def vJ (K:W.Frag) (Ns:List Str) (m:Str) (sp:Sp) (ta:TE) (t:TA):TE:=fun σ H Q=>ta σ H fun x H1=>∃ a C dx fs,K3 K Ns H1 x a C dx fs /\ fs.lookup m = none /\ t σ H1 fun vs H2=>sp (x :: vs) H2 Q E0
noncomputable def vI (K:W.Frag) (N:Str) (sp:Sp) (t:TA):TE:=fun σ H Q=>∀ C,W.nsIn K mainGlobals N = some (some (.ref C)) -> IB C sp [] E0 t σ H Q
section
variable {X:Cx} {o e:Expr} {es:List Expr} {f m:Str} {pos apos p:Pos} {ta:TE} {t:TA} {Ns:List Str} {k:Nat} {g C:Addr} {fd:FuncData} {ps:List Str} {sp:Sp}
theorem Hb (hc:ul X.K Ns fun C=>Cls X.K C /\ NoAttr X.K C f) (he:PE X e ta) (hb:attributeBase e f X.env (eval e X.env) = eval e X.env):PE X (.Attribute e f pos) (FO X.K Ns ta f):=by
 intro pins s σ H Q I h
 refine Gi hb (thn (he pins s σ H _ I h) fun u s1 hpt9=>?_)
 obtain ⟨x,H1,I1,rx,a,C,dx,fs,v,⟨ex,⟨N,hN,hC⟩,ea⟩,l,q⟩:=hpt9
 subst ex
 have eu:u = Value.ref a:=rx
 subst eu
 obtain ⟨c,n⟩:=hc N hN C hC
 exact y8 I1 ea c n l fun u' s2 I2 ru=>⟨v,H1,I2,ru,q⟩
theorem ET  (hc:ul X.K Ns fun C=>Cls X.K C /\ Meth X.K C m g) (F:FnOk X.prog X.w X.K X.mg X.base CX0 k g fd ps sp) (hr:Room k X.A) (hb:Binds X.K fd ps []) (hx:jt CX0 X E0) (he:PE X o ta) (ha:PA X (e :: es) t)
  (hst:starEach (e :: es) X.env = (false,eval e X.env) :: starEach es X.env:=by rfl) (hpl:(backTo pos (starEach es X.env)).any (·.1) = false:=by rfl)
  (ht:eval (.Call (.Attribute o m apos) (e :: es) [] pos) X.env = (do
   let ov ← eval o X.env
   standAt apos.atName
   let (f,first) ← holding [ov] (getMethod ov m pl)
   callWith pos f first (backTo pos (starEach (e :: es) X.env)) (backToKw pos (keywordEach [] X.env))):=by rfl) :
  PE X (.Call (.Attribute o m apos) (e :: es) [] pos) (vJ X.K Ns m sp ta t):=by
 intro pins s σ H Q I h
 refine W.methodCall_KW (pl:=pl) (thn (he pins s σ H _ I h) fun u s1 hpt9=>?_) ht
 obtain ⟨x,H1,I1,rx,a,C,dx,fs,⟨ex,⟨N,hN,hC⟩,ea⟩,l,q⟩:=hpt9
 subst ex
 have eu:u = Value.ref a:=rx
 subst eu
 obtain ⟨c,hm⟩:=hc N hN C hC
 refine y9 I1 ea c hm l ?_
 refine W.callWith_K (first:=[.ref a]) (h₀:=X.base) I.ok.mod.kin hm.kp (thn (ha pos pins s1 σ H1 _ I1 q) fun us s2 ⟨vs,H2,I2,r,q2⟩=>⟨I2.kIn,?_⟩) hst hpl
 exact zR (us:=.ref a :: us) (vs:=.ref a :: vs) (dvs:=[]) F hr hb .nil hx I2 (.cons rfl r) (by rw [List.append_nil];exact q2)
structure ClsFn (K:W.Frag) (C:Addr) (m:Str) (f:Addr):Prop where
 sp:W.specialIn K (.ref C) "__getattribute__" = some (some (.builtin "type.__getattribute__"))
 rd:W.readsIn K C (.type "type") = true
 fn:W.findCls K (.ref C) (.type "type") m = some (.val (.ref f))
 kp:W.keepIn K (.ref f) = true
theorem zI   (cf:ClsFn X.K C m g) (gB:Gl X B) (hm:X.mg B = some (.ref C)) (F:FnOk X.prog X.w X.K X.mg X.base CX0 k g fd ps sp) (hr:Room k X.A) (hb:Binds X.K fd ps []) (hx:jt CX0 X E0) (ha:PA X (e :: es) t) (hdb:(B == ("__debug__" : Str)) = false:=by decide)
  (hst:starEach (e :: es) X.env = (false,eval e X.env) :: starEach es X.env:=by rfl) (hpl:(backTo pos (starEach es X.env)).any (·.1) = false:=by rfl)
  (ht:eval (.Call (.Attribute (.Name B p) m apos) (e :: es) [] pos) X.env = (do
   let ov ← eval (.Name B p) X.env
   standAt apos.atName
   let (f,first) ← holding [ov] (getMethod ov m pl)
   callWith pos f first (backTo pos (starEach (e :: es) X.env)) (backToKw pos (keywordEach [] X.env))):=by rfl) :
  PE X (.Call (.Attribute (.Name B p) m apos) (e :: es) [] pos) (oM sp [] E0 t):=by
 intro pins s σ H Q I h
 refine W.methodCall_KW (pl:=pl) (thn (vi (v:=.ref C) gB hm rfl hdb pins s σ H (fun x H1=>x = .ref C /\ H1 = H) I ⟨rfl,rfl⟩) fun u s1 hpt9=>?_) ht
 obtain ⟨x,H1,I1,rx,ex,eH⟩:=hpt9
 subst ex
 subst eH
 have eu:u = Value.ref C:=rx
 subst eu
 refine W.method_cls I1.kIn cf.sp (W.cls_value I1.kIn cf.rd cf.fn rfl ?_)
 refine W.callWith_K (first:=[]) (h₀:=X.base) I.ok.mod.kin cf.kp (thn (ha pos pins _ σ H1 _ (I1.tok _) h) fun us s2 ⟨vs,H2,I2,r,q2⟩=>⟨I2.kIn,?_⟩) hst hpl
 exact zR F hr hb .nil hx I2 r q2
theorem ES  (hN:W.nsIn X.K mainGlobals N = some (some (.ref C))) (M:Mk X.K C g) (F:FnOk X.prog X.w X.K X.mg X.base CX0 k g fd ps sp) (hr:Room (k + 1) X.A) (hg:Gl X N) (hm:X.mg N = some (.ref C)) (hb:Binds X.K fd ps []) (hx:jt CX0 X E0)
  (ha:PA X (e :: es) t) (hdb:(N == ("__debug__" : Str)) = false:=by decide) (he:starEach (e :: es) X.env = (false,eval e X.env) :: starEach es X.env:=by rfl) (hpl:(backTo pos (starEach es X.env)).any (·.1) = false:=by rfl) :
  PE X (.Call (.Name N p) (e :: es) [] pos) (vI X.K N sp t):=fun a b c d q I h=>Hc M F hr hg hm hb .nil hx ha hdb he hpl a b c d q I (h C hN)
end
end L2
namespace M
open PySem L2
section
variable {K:W.Frag} {S S' H H':Hp}
noncomputable def yZ:List Str -> List D -> Str -> Option D
 | n :: ns,d :: l,f=>if f = n then some d else yZ ns l f
 | _,_,_=>none
theorem D1:∀ {fs:List (Str × V)} {l:List D} {f:Str} {d:D},Dens K S l (fs.map (·.2)) -> yZ (fs.map (·.1)) l f = some d -> ∃ v,fs.lookup f = some v /\ Den K S d v
 | [],l,f,d,h,e=>by
  cases l <;> simp [yZ] at e
 | (n,v) :: fs,l,f,d,h,e=>by
  cases l with
  | nil=>simp [yZ] at e
  | cons a l=>
   obtain ⟨y,ys,e1,h1,h2⟩:=h.cons_of
   rw [List.map_cons] at e1
   cases e1
   rw [List.map_cons,yZ] at e
   by_cases hf:f = n
   ·rw [if_pos hf] at e
    cases e
    exact ⟨v,by simp [List.lookup,hf],h1⟩
   ·rw [if_neg hf] at e
    obtain ⟨w,q1,q2⟩:=D1 h2 e
    have hb:(f == n) = false:=by simpa using hf
    exact ⟨w,by simp [List.lookup,hb,q1],q2⟩
theorem DZ:∀ {fs:List (Str × V)} {f:Str},(fs.map (·.1)).contains f = false -> fs.lookup f = none
 | [],_,_=>rfl
 | (n,v) :: fs,f,h=>by
  simp at h
  have hb:(f == n) = false:=by simpa using h.1
  rw [List.lookup,hb]
  exact DZ (by simpa using h.2)
@[simp] noncomputable def C5 (Ns:List Str) (f:Str) (e:XE):XE:=fun ρ=>(e ρ).bind fun d=>match d with | .ins N ns l=>if Ns.contains N then yZ ns l f else none | _=>none
theorem Mq {Ns:List Str}  {ta:TE}  (h:SE K ta e):SE K (FO K Ns ta f) (C5 Ns f e):=fun ρ σ S H Q d r x k=>by
 unfold C5 at x
 cases q:e ρ with
 | none=>rw [q] at x;cases x
 | some d0=>
  rw [q] at x
  dsimp only [Option.bind] at x
  cases d0 <;> try (cases x;done)
  rename_i N ns l
  dsimp only at x
  split at x
  ·rename_i hc
   refine h ρ σ S H _ _ r q fun v S1 H1 z1 d1=>?_
   obtain ⟨p,C,dx,fs,rfl,hC,h1,h2,h3⟩:=den_ins.mp d1
   subst h2
   obtain ⟨w,w1,w2⟩:=D1 h3 x
   exact ⟨p,C,dx,fs,w,⟨rfl,⟨N,by simpa using hc,hC⟩,z1.sub _ _ h1⟩,w1,k w S1 H1 z1 w2⟩
  ·cases x
@[simp] noncomputable def yv (Ns:List Str) (m:Str) (g:List D -> Option D) (e:XE) (a:XA):XE:=fun ρ=>(e ρ).bind fun d=>match d with | .ins N ns l=>if Ns.contains N && !ns.contains m then (a ρ).bind fun ds=>g (.ins N ns l :: ds) else none | _=>none
theorem Kp {Ns:List Str}  {n:Nat}  {ta:TE}    (h:SE K ta e) (ha:SA K t a) (hn:∀ ρ ds,a ρ = some ds -> ds.length = n):SE K (vJ K Ns m (bD K (n + 1) g) ta t) (yv Ns m (fun ds=>(g ds).map O.d) e a):=fun ρ σ S H Q d r x k=>by
 unfold yv at x
 cases q:e ρ with
 | none=>rw [q] at x;cases x
 | some d0=>
  rw [q] at x
  dsimp only [Option.bind] at x
  cases d0 <;> try (cases x;done)
  rename_i N ns l
  dsimp only at x
  split at x
  ·rename_i hc
   rw [Bool.and_eq_true] at hc
   cases qa:a ρ with
   | none=>rw [qa] at x;cases x
   | some ds=>
    rw [qa] at x
    dsimp only at x
    cases qg:g (.ins N ns l :: ds) with
    | none=>rw [qg] at x;cases x
    | some o=>
     rw [qg] at x
     cases x
     refine h ρ σ S H _ _ r q fun v S1 H1 z1 d1=>?_
     obtain ⟨p,C,dx,fs,rfl,hC,h1,h2,h3⟩:=den_ins.mp d1
     refine ⟨p,C,dx,fs,⟨rfl,⟨N,by simpa using hc.1,hC⟩,z1.sub _ _ h1⟩,DZ (by rw [h2];simpa using hc.2),?_⟩
     refine ha ρ σ S1 H1 _ ds (r.ext z1) qa fun vs S2 H2 z2 d2=>?_
     have dd:Dens K S2 (.ins N ns l :: ds) (.ref p :: vs):=.cons (d1.mono z2.sh) d2
     refine ⟨by rw [List.length_cons,<- d2.length,hn ρ ds qa],S2,_,o,z2.sub,dd,qg,fun v fp S3 H3 z3 ow nd fr=>?_⟩
     exact k v _ H3 ((z1.trans z2).trans (xf z3 fr)) (ow.den (jZ fun b hb=>(fr b hb).2) fun b hb=>pf hb)
  ·cases x
noncomputable def rJ (K:W.Frag) (Ns:List Str) (f:Str) (n:Nat) (mi:List D -> Option D):Sp:=fun vs H Q _=>vs.length = n + 1 /\ ∃ x rest C dx S ds d,vs = .ref x :: rest /\ H x = some (.ins C dx []) /\ (∃ N ∈ Ns,W.nsIn K mainGlobals N = some (some (.ref C))) /\ S x = none /\ Same S H /\ Dens K S ds rest /\ mi ds = some d /\
 ∀ S' H' v,Ext S H S' H' -> Den K S' d v -> Q .non (upd H' x (.ins C dx [(f,v)]))
noncomputable def GH:List D -> Option D
 | [d]=>some d
 | _=>none
theorem Eb {Ns:List Str} {f:Str}     (hc:ul K Ns fun C=>Cls K C /\ NoAttr K C f)  (h:rJ K Ns f 1 GH vs H Q E):Mj K (lV 0) (lV 1) f { nx:=fun _ H'=>Q .non H',rt:=Q } (L2.eT N vs) H:=by
 obtain ⟨_,x,rest,C,dx,S,ds,d,rfl,hx,⟨M,hM,hC⟩,nS,sub,dd,e,k⟩:=h
 match ds,e with
 | [d'],e=>
  cases e
  obtain ⟨v,ys,rfl,dv,dn⟩:=dd.cons_of
  cases dn.nil_of
  obtain ⟨c,n⟩:=hc M hM C hC
  exact ⟨v,rfl,.ref x,rfl,x,C,dx,[],rfl,hx,c,n,by decide,k S H v (Ext.refl sub) dv⟩
theorem AY {x:Addr} {ds:List D}  (s:Same S H) (h:Dens K S ds vs):Rl K (.lo :: ds.map .sh) (some (.ref x) :: vs.map some) S H:=by
 have hl:=h.length
 refine ⟨fun _=>none,fun i=>if i = 0 then some x else none,fun _=>[],?_⟩
 have ge:∀ (i:Nat) t,(Sl.lo :: ds.map Sl.sh)[i]? = some t -> (i = 0 /\ t = .lo) \/ ∃ d v,t = .sh d /\ (some (V.ref x) :: vs.map some)[i]? = some (some v) /\ Den K S d v:=fun i t ht=>by
  cases i with
  | zero=>cases ht;exact .inl ⟨rfl,rfl⟩
  | succ i=>
   rw [List.getElem?_cons_succ,List.getElem?_map] at ht
   cases q:ds[i]? with
   | none=>rw [q] at ht;cases ht
   | some d=>
    rw [q] at ht
    cases ht
    obtain ⟨v,e1,e2⟩:=h.get q
    refine .inr ⟨d,v,rfl,?_,e2⟩
    rw [List.getElem?_cons_succ,List.getElem?_map,e1]
    rfl
 exact {
  len:=by rw [List.length_cons,List.length_cons,List.length_map,List.length_map,hl]
  sub:=s
  sh:=fun i d hi=>by
   rcases ge i _ hi with ⟨_,e⟩ | ⟨d',v,e,h1,h2⟩
   ·cases e
   ·cases e;exact ⟨v,h1,h2⟩
  ow:=fun i o hi=>by
   rcases ge i _ hi with ⟨_,e⟩ | ⟨d',v,e,h1,h2⟩
   ·cases e
   ·cases e
  dj:=fun i j o o' _ hi _=>by
   rcases ge i _ hi with ⟨_,e⟩ | ⟨d',v,e,h1,h2⟩
   ·cases e
   ·cases e
  lo:=fun i hi=>by
   rcases ge i _ hi with ⟨rfl,e⟩ | ⟨d',v,e,h1,h2⟩
   ·exact ⟨x,rfl,rfl⟩
   ·cases e
  asub:=fun b o e=>by cases e
  adis:=fun b=>.inr (.inl rfl) }
noncomputable def GI (xt:XT) (xe:XE) (ds:List D):Option D:=if xt (.lo :: ds.map .sh) = some false then xe (.lo :: ds.map .sh) else none
theorem Ec {Ns:List Str} {f:Str} {te:TE} {xe:XE} {x:Addr} {rest:List V} {C dx:Addr} {ds:List D} {d:D} {S H:Hp} {Dd:_} {Q:VK} (he:SE K te xe) (sub:Same S H) (dd:Dens K S ds rest) (hx:H x = some (.ins C dx [])) (hc:∃ N ∈ Ns,W.nsIn K mainGlobals N = some (some (.ref C))) (nS:S x = none)
  (e:xe (.lo :: ds.map .sh) = some d) (hD:Dd = ({ nx:=fun _ H'=>Q .non H',rt:=Q }:_)) (k:∀ S' H' v,Ext S H S' H' -> Den K S' d v -> Q .non (upd H' x (.ins C dx [(f,v)]))) :
  rT (oM (rJ K Ns f 1 GH) [] E0 (ig (lV 0) (ig te rV))) Dd (some (.ref x) :: rest.map some) H:=by
 subst hD
 refine ⟨.ref x,rfl,he _ _ S H _ d (AY sub dd) e fun v S1 H1 z1 d1=>?_⟩
 refine ⟨rfl,x,[v],C,dx,S1,[d],d,rfl,(z1.al x _ hx nS).1,hc,(z1.al x _ hx nS).2,z1.sub,.cons d1 .nil,rfl,fun S2 H2 w z2 d2=>k S2 H2 w (z1.trans z2) d2⟩
theorem Ee {Ns:List Str}  {n:Nat} {tt:TT}  {te:TE}  {N:List Str}     (ht:ST K tt xt) (he:SE K te xe) (hN:N.length = n + 1) (h:rJ K Ns f n (GI xt xe) vs H Q E) :
  HJ (HG tt FP A5) (rT (oM (rJ K Ns f 1 GH) [] E0 (ig (lV 0) (ig te rV)))) { nx:=fun _ H'=>Q .non H',rt:=Q } (L2.eT N vs) H:=by
 obtain ⟨hl,x,rest,C,dx,S,ds,d,rfl,hx,hc,nS,sub,dd,e,k⟩:=h
 have es:L2.eT N (.ref x :: rest) = some (.ref x) :: rest.map some:=by
  unfold L2.eT
  rw [hl,hN,Nat.sub_self]
  simp
 unfold GI at e
 split at e
 ·rename_i q
  rw [es]
  refine ht _ _ S H _ false (AY sub dd) q fun S1 H1 z1=>?_
  rw [if_neg Bool.false_ne_true]
  exact Ec he z1.sub (dd.mono z1.sh) (z1.al x _ hx nS).1 hc (z1.al x _ hx nS).2 e rfl fun S2 H2 w z2 d2=>k S2 H2 w (z1.trans z2) d2
 ·cases e
@[simp] noncomputable def yu (N f:Str) (mi:List D -> Option D) (a:XA):XE:=fun ρ=>((a ρ).bind mi).map fun d=>.ins N [f] [d]
theorem Ko {Ns:List Str} {N:Str} {n:Nat}    (hN:N ∈ Ns) (h:SA K t a) (hn:∀ ρ ds,a ρ = some ds -> ds.length = n):SE K (vI K N (rJ K Ns f n mi) t) (yu N f mi a):=fun ρ σ S H Q d r x k C hC=>by
 unfold yu at x
 cases q:a ρ with
 | none=>rw [q] at x;cases x
 | some ds=>
  rw [q] at x
  dsimp only [Option.bind] at x
  cases q2:mi ds with
  | none=>rw [q2] at x;cases x
  | some d0=>
   rw [q2] at x
   cases x
   refine h ρ σ S H _ ds r q fun vs S1 H1 z1 d1=>?_
   intro x dx nx ndx nex
   have s0:Same S1 (upd (upd H1 dx (.own x)) x (.ins C dx [])):=fun b o e=>by
    have e':=z1.sub b o e
    rw [aw (aH e' nx),aw (aH e' ndx)]
    exact e'
   have nS:S1 x = none:=z1.sub.free nx
   refine ⟨by rw [List.append_nil,List.length_cons,<- d1.length,hn ρ ds q],x,vs,C,dx,S1,ds,d0,by rw [List.append_nil],av,⟨N,hN,hC⟩,nS,s0,d1,q2,fun S2 H2 v z2 d2=>⟨rfl,?_⟩⟩
   have hx2:=z2.al x _ av nS
   have z3:Ext S1 H1 (upd S2 x (.ins C dx [(f,v)])) (upd H2 x (.ins C dx [(f,v)])):={
    sh:=fun b o e=>by
     rw [aw (aH (z1.sub b o e) nx)]
     exact z2.sh b o e
    sub:=fun b o e=>by
     by_cases hb:b = x
     ·subst hb;rw [av] at e ⊢;exact e
     ·rw [aw hb] at e ⊢;exact z2.sub b o e
    alw:=fun b o e ne=>by
     have hb:=aH e nx
     rw [aw hb,aw hb]
     exact z2.alw b o (by rw [aw hb,aw (aH e ndx)];exact e) ne }
   refine k (.ref x) _ _ (z1.trans z3) (den_ins.mpr ⟨x,C,dx,[(f,v)],rfl,hC,av,rfl,?_⟩)
   refine .cons (d2.mono fun b o e=>?_) .nil
   rw [aw (aH e hx2.2)]
   exact e
end
end M
namespace M
noncomputable def nI:List Int -> Int
 | []=>0
 | [a]=>a
 | a :: l=>min a (nI l)
theorem Cg (a b:Int) (l:List Int):nI (a :: b :: l) = min a (nI (b :: l)):=rfl
theorem tT:∀ (a:Int) (l:List Int),nI (a :: l) ∈ a :: l /\ ∀ b ∈ a :: l,nI (a :: l) <= b
 | a,[]=>⟨List.mem_cons_self,fun b hb=>by rw [List.mem_singleton] at hb;subst hb;exact Int.le_refl _⟩
 | a,c :: l=>by
  obtain ⟨h1,h2⟩:=tT c l
  rw [Cg]
  refine ⟨?_,fun b hb=>?_⟩
  ·rcases Int.le_total a (nI (c :: l)) with h | h
   ·rw [Int.min_eq_left h];exact List.mem_cons_self
   ·rw [Int.min_eq_right h];exact List.mem_cons_of_mem _ h1
  ·rcases List.mem_cons.mp hb with rfl | hb
   ·exact Int.min_le_left _ _
   ·exact Int.le_trans (Int.min_le_right _ _) (h2 b hb)
theorem Ch {ns:List Int} {m:Int} (h1:m ∈ ns) (h2:∀ a,a ∈ ns -> m <= a):nI ns = m:=by
 cases ns with
 | nil=>cases h1
 | cons a l=>
  obtain ⟨k1,k2⟩:=tT a l
  exact Int.le_antisymm (k2 m h1) (h2 _ k1)
end M
namespace L2
open PySem PySem.Spec PyProof.Rows
section
variable {prog:Program} {w:World} {A:Around} {E:Value -> Shared -> Prop} {s:Shared}
theorem Bu (a b c d:Value):argsOk "min" ⟨[a,b,c,d],[]⟩:=by unfold argsOk;kernel_rfl
theorem Ci {a b c d:Value} {Q:Value -> Shared -> Prop}
  (h:wpAny (model prog w) A.in1 (pyIter (.ref s.heap.objs.size)) (fun it s₂=>∃ I fp wr n P St bt,it = .ref I /\ Walks prog w A.in1 I fp wr n P St /\ St 0 s₂.heap /\ (∀ b ∈ fp,b < s₂.heap.objs.size) /\ 0 < n /\ CmpOf prog w A.in1 .Lt P bt /\ ∀ v h' tk,P (argBest bt (n - 1)) v -> (∀ b o,b ∉ wr -> s₂.heap.get? b = some o -> h'.get? b = some o) -> Q v { s₂ with heap:=h',toks:=tk }) E { s with heap:=s.heap.push { cls:=.type "tuple",data:=.seq #[a,b,c,d] } }) :
  wpAny (model prog w) A (call (.builtin "min") [a,b,c,d]) Q E s:=by
 have hname:(toString "min" ++ toString ".loop" : String) = "min.loop" := by decide
 refine call_function_tree F.kind_min F.plain_min F.entry_min (Bu _ _ _ _) ?_;show wpAny _ A.in1 (Builtin.Builtins.bindParams "min" ["key", "default"] 0 ⟨[],[]⟩ >>= _) _ _ s
 refine wpAny_bind (wpAny_of_eq (show Builtin.Builtins.bindParams "min" ["key", "default"] 0 ⟨[],[]⟩ = pure [none,none] from rfl) ?_);show wpAny _ A.in1 (newTuple [a,b,c,d] >>= _) _ _ s
 refine wpAny_bind (wpAny_newObj_type ?_);refine wpAny_bind (wpAny_mono h (fun it s₂ h₂=>?_) fun _ _ e=>e);obtain ⟨I,fp,wr,n,P,St,bt,rfl,W,hst,hfp,hn,hcmp,hQ⟩:=h₂
 refine wpAny_bind (wpAny_newObj_type ?_);have hSf:s₂.heap.objs.size ∉ fp:=fun hm=>Nat.lt_irrefl _ (hfp _ hm)
 rw [hname];refine wpAny_pure ⟨plainId_quiet F.plain_min_loop _,codeAny_min_loop_first W bt hcmp s₂.heap.objs.size hSf hn (W.frame _ _ _ hst fun b _ o e=>Heap.get?_push_of_some _ e) (Heap.get?_push_size _ rfl) fun v h' tk hP hk=>?_⟩
 exact hQ v h' tk hP fun b o hbw e=>hk b o hbw (Nat.ne_of_lt (Heap.lt_size e)) (Heap.get?_push_of_some _ e)
theorem xy {a b c d:Int} {t u x y:Tok} {Q:Value -> Shared -> Prop} (hh:A.handled = none) (h:∀ (h':Heap) (z:Tok) (tk:Nat),(∀ b o,s.heap.get? b = some o -> h'.get? b = some o) -> Q (.int (M.nI [a,b,c,d]) z) { s with heap:=h',toks:=tk }) :
  wpAny (model prog w) A (call (.builtin "min") [.int a t,.int b u,.int c x,.int d y]) Q E s:=by
 have hT:(s.heap.push { cls:=.type "tuple",data:=.seq #[.int a t,.int b u,.int c x,.int d y] }).IsTuple s.heap.objs.size (intItems #[(a,t),(b,u),(c,x),(d,y)]):=⟨_,Heap.get?_push_size _ rfl,rfl,0,by simp [intItems]⟩
 refine Ci (wpAny_pyIter_tuple hT ?_);have hsz:(s.heap.push { cls:=.type "tuple",data:=.seq #[.int a t,.int b u,.int c x,.int d y] }).objs.size = s.heap.objs.size + 1:=Heap.size_push ..
 refine ⟨_,[_,s.heap.objs.size],[_],_,_,_,_,rfl,Walks.tuple (A:=A.in1) hh _ s.heap.objs.size (by rw [hsz];exact Nat.ne_of_lt (Nat.lt_succ_self _)) (intItems #[(a,t),(b,u),(c,x),(d,y)]),⟨⟨_,Heap.get?_push_size _ rfl,rfl,rfl⟩,hT.push _⟩,fun e hd=>?_,by simp [intItems],CmpOf.ints_lt (numAt #[(a,t),(b,u),(c,x),(d,y)]) (fun _ _=>intItems_at),fun v h' tk hP hk=>?_⟩
 ·show e < ((s.heap.push _).push _).objs.size
  rw [Heap.size_push,hsz];rcases List.mem_cons.mp hd with rfl | hd
  ·rw [hsz];exact Nat.lt_succ_self _
  ·rcases List.mem_cons.mp hd with rfl | hd
   ·exact Nat.lt_succ_of_lt (Nat.lt_succ_self _)
   ·cases hd
 ·have hold:∀ z o,s.heap.get? z = some o -> h'.get? z = some o:=fun z o e=>by
   refine hk z o (fun hm=>?_) (Heap.get?_push_of_some _ (Heap.get?_push_of_some _ e));rcases List.mem_cons.mp hm with e1 | hm
   ·have:=Heap.lt_size e;rw [e1,hsz] at this;exact Nat.lt_irrefl _ (Nat.lt_of_succ_lt this)
   ·cases hm
  have hP':(intItems #[(a,t),(b,u),(c,x),(d,y)])[argBest (fun i j=>decide (numAt #[(a,t),(b,u),(c,x),(d,y)] i < numAt #[(a,t),(b,u),(c,x),(d,y)] j)) 3]? = some v:=by
   have hsz2:(intItems #[(a,t),(b,u),(c,x),(d,y)]).size - 1 = 3:=by simp [intItems]
   rw [<- hsz2];exact hP
  obtain ⟨z,rfl⟩:=intItems_at hP';obtain ⟨h1,h2⟩:=argBest_lt (numAt #[(a,t),(b,u),(c,x),(d,y)]) 3
  have em:M.nI [a,b,c,d] = numAt #[(a,t),(b,u),(c,x),(d,y)] (argBest (fun i j=>decide (numAt #[(a,t),(b,u),(c,x),(d,y)] i < numAt #[(a,t),(b,u),(c,x),(d,y)] j)) 3):=by
   have k0:=h2 0 (by lia);have k1:=h2 1 (by lia);have k2:=h2 2 (by lia);have k3:=h2 3 (by lia)
   generalize hg:argBest (fun i j=>decide (numAt #[(a,t),(b,u),(c,x),(d,y)] i < numAt #[(a,t),(b,u),(c,x),(d,y)] j)) 3 = g at h1 k0 k1 k2 k3 ⊢
   refine M.Ch ?_ fun e he=>?_
   ·rcases (show g = 0 \/ g = 1 \/ g = 2 \/ g = 3 by lia) with rfl | rfl | rfl | rfl <;> simp [numAt]
   ·simp only [List.mem_cons,List.not_mem_nil,or_false] at he
    rcases he with rfl | rfl | rfl | rfl
    ·exact k0
    ·exact k1
    ·exact k2
    ·exact k3
  rw [<- em];exact h h' z tk hold
end
noncomputable def Iv:List V -> Hp -> VK -> Prop:=fun xs H Q=>∃ a b c d,xs = [.int a,.int b,.int c,.int d] /\ Q (.int (M.nI [a,b,c,d])) H
section
variable {X:Cx}
theorem BC (hc:X.calm = true):CallR X (.builtin "min") Iv:=by
 intro pins s σ H xs us Q I r h
 obtain ⟨a,b,c,d,rfl,q⟩:=h
 cases r with
 | cons r1 r=>cases r with
  | cons r2 r=>cases r with
   | cons r3 r=>cases r with
    | cons r4 r=>
     cases r
     obtain ⟨t,rfl⟩:=r1
     obtain ⟨t2,rfl⟩:=r2
     obtain ⟨t3,rfl⟩:=r3
     obtain ⟨t4,rfl⟩:=r4
     exact xy (I.ok.hd hc) fun h' t tk k=>⟨.int (M.nI [a,b,c,d]),H,I.kept k,⟨t,rfl⟩,q⟩
end
end L2
namespace M
open PySem L2
noncomputable def Oy:List D -> Option D
 | [.lst l]=>(bi l).bind fun ns=>if 0 < ns.length then some (.int (nI ns)) else none
 | _=>none
noncomputable def Ar:List D -> Option D
 | [.int a,.int b,.int c,.int d]=>some (.int (nI [a,b,c,d]))
 | _=>none
section
variable {K:W.Frag}
theorem GA  {a b c d:D}  (h:DensP K S H [a,b,c,d] vs):∃ v w x y,vs = [v,w,x,y] /\ DenP K S H a v /\ DenP K S H b w /\ DenP K S H c x /\ DenP K S H d y:=by
 cases h with
 | cons h1 h=>cases h with
  | cons h2 h=>cases h with
   | cons h3 h=>cases h with
    | cons h4 h=>cases h;exact ⟨_,_,_,_,rfl,h1,h2,h3,h4⟩
theorem IZ:SRB K Iv Ar:=fun S H vs ds g Q s d q k=>by
 unfold Ar at q
 split at q
 ·rename_i a b c e
  cases q
  obtain ⟨v,w,x,y,rfl,d1,d2,d3,d4⟩:=GA d
  exact ⟨a,b,c,e,by rw [d1.int,d2.int,d3.int,d4.int],k _ S H (Ext.refl s) (den_int.mpr rfl)⟩
 ·cases q
end
end M
namespace L2
open PySem
theorem d9 {XN:List Str} {sc scope:Scope} {N:List Str} {js:List (Option Nat)} (h1:scope.kind = .function:=by rfl) (h2:∀ y ∈ scope.names,y.2 ≠ .cell:=by decide +kernel) (h3:∀ y ∈ scope.names,y.2 = .free -> sc.names.lookup y.1 = some .cell \/ sc.names.lookup y.1 = some .free:=by decide +kernel)
  (h4:∀ y ∈ scope.names,y.2 = .local -> scope.names.lookup y.1 = some .local:=by decide +kernel) (h5:js.length = N.length:=by rfl) (h6:((N.zip js).all fun p=>match p.2 with | none=>true | some j=>decide (XN[j]? = some p.1) && decide (scope.names.lookup p.1 = some .free)) = true:=by decide +kernel):CmpOk XN sc scope N js:=⟨h1,h2,h3,h4,h5,h6⟩
end L2
namespace M
open PySem L2
@[simp] noncomputable def Oa (m:List D -> Option D) (e:D) (a:XA):XE:=fun ρ=>(a ρ).bind fun ds=>m (ds ++ [e])
section
variable {K:W.Frag}
end
end M
namespace L2
open PySem
section
variable {P:Program} {w:World} {K:W.Frag} {mg:Str -> Option Value} {base:Heap}
end
end L2
namespace L2
open PySem PySem.Spec PyProof.Rows
section
variable {X:Cx} {pins:List (Addr × Obj)} {σ:St} {H:Hp} {s:Shared} {XN N:List Str} {sc scope:Scope} {js:List (Option Nat)}
variable {tg iter elt:Expr} {ifs:List Expr} {pos:Pos} {wi:TI} {g:TG} {tt:TIf} {te:TE}
end
end L2
namespace RevT
open PySem PySem.Calls PyProof.Rows
theorem slot_next:Slot "reversed" "__next__" "reversed.__next__" := .of (owner := "reversed") (n := "__next__") (by rw [typeLookup_type,builtinLookup_eq_fast];kernel_rfl) (by decide +kernel) (by decide +kernel) (by decide +kernel) (by first | exact .inl (by decide +kernel) | exact .inr (by decide +kernel)) (by rw [isSubtype_type];kernel_rfl)
theorem pZ:entryFor table "reversed.__next__" = some Builtin.«reversed.__next__»:=entryFor_of_tree (by kernel_rfl)
theorem sX (a:Value):argsOk "reversed.__next__" ⟨[a],[]⟩:=by unfold argsOk;kernel_rfl
theorem uc:Slot "reversed" "__iter__" "reversed.__iter__" := .of (owner := "reversed") (n := "__iter__") (by rw [typeLookup_type,builtinLookup_eq_fast];kernel_rfl) (by decide +kernel) (by decide +kernel) (by decide +kernel) (by first | exact .inl (by decide +kernel) | exact .inr (by decide +kernel)) (by rw [isSubtype_type];kernel_rfl)
theorem Bs (a:Value):argsOk "reversed.__iter__" ⟨[a],[]⟩:=by unfold argsOk;kernel_rfl
theorem yL:entryFor table "reversed.__iter__" = some Builtin.«dict_keyiterator.__iter__»:=entryFor_alias (id' := "dict_keyiterator.__iter__") (by kernel_rfl) (by first | rfl | decide +kernel | (unfold String.splitOn;simp +decide [String.splitOnAux])) (by decide +kernel) (by kernel_rfl)
theorem JJ:typeLookup (.type "tuple") "__reversed__" = pure none:=by rw [typeLookup_type,builtinLookup_eq_fast];kernel_rfl
theorem AC:typeLookup (.type "tuple") "__getitem__" = pure (some (.builtin "tuple.__getitem__")):=by rw [typeLookup_type,builtinLookup_eq_fast];kernel_rfl
theorem GW:isSubtype (.type "tuple") (.type "dict") = pure false:=by rw [isSubtype_type];kernel_rfl
theorem sub_self:isSubtype (.type "reversed") (.type "reversed") = pure true:=by rw [isSubtype_type];kernel_rfl
noncomputable def rp (t:Addr) (i:Int):Obj:={ cls:=.type "reversed",data:=.fields #[.ref t,rawInt i] }
def IsRev (h:Heap) (a t:Addr) (i:Int):Prop:=∃ o,h.get? a = some o /\ o.cls = .type "reversed" /\ o.data = .fields #[.ref t,rawInt i]
section
variable {prog:Program} {w:World} {A:Around} {E:Value -> Shared -> Prop} {s:Shared}
theorem IsRev.typeIs  {i:Int} (x:IsRev s.heap a t i):s.TypeIs (.ref a) "reversed" := let ⟨o,ho,hc,_⟩:=x;⟨o,ho,hc⟩
theorem Ck {it:Addr} {i:Nat}  {x:Value} {Q:Option Value -> Shared -> Prop} (hit:IsRev s.heap it t (i:Int)) (ht:IsTup s.heap t items) (hx:items[i]? = some x) (hi:(i:Int) < 2 ^ 62)
  (hQ:∀ h' tk,IsRev h' it t ((i:Int) - 1) -> Heap.SameBut it s.heap h' -> Q (some x) { s with heap:=h',toks:=tk }):wpAny (model prog w) A (pyNext (.ref it)) Q E s:=by
 obtain ⟨o,ho,hc,hd⟩:=id hit
 unfold pyNext
 refine wpAny_bind (wpAny_attempt (wpAny_callSpecial?_slot (name:=Str.ofString "__next__") hit.typeIs slot_next (wpAny_call_entry slot_next hit.typeIs pZ ?_ (sX _))))
 unfold Builtin.«reversed.__next__»
 refine wpAny_bind (wpAny_of_eq (a:=(Value.ref it,[])) rfl ?_)
 try dsimp only
 refine wpAny_bind (wpAny_field ho hd (x:=.ref t) rfl ?_)
 refine wpAny_bind (wpAny_field ho hd (x:=rawInt (i:Int)) rfl ?_)
 show wpAny _ _ (if (i:Int) < 0 then _ else _) _ _ s
 rw [if_neg (by lia)]
 refine wpAny_bind (wpAny_specialOf ht.typeIs AC ?_)
 rw [if_neg (show ¬ ((some (Value.builtin "tuple.__getitem__")).isNone = true) from Bool.false_ne_true)]
 refine wpAny_bind (wpAny_mkInt ?_)
 have p63:(2:Int) ^ 63 = 9223372036854775808:=by decide
 have p62:(2:Int) ^ 62 = 4611686018427387904:=by decide
 have hsz:=(Array.getElem?_eq_some_iff.mp hx).1
 have hix:seqIndex? (i:Int) items.size = some i:=by
  unfold seqIndex?
  simp
  lia
 refine wpAny_bind (wpAny_attempt (getItem_tuple (s:={ s with toks:=s.toks + 1 }) (j:=i) ht (by lia) (by lia) hix hx ?_))
 dsimp only
 refine wpAny_bind (wpAny_field (s:={ s with toks:=s.toks + 1 }) ho hd (x:=rawInt (i:Int)) rfl ?_)
 show wpAny _ _ (setField (.ref it) 1 (rawInt ((i:Int) - 1)) >>= _) _ _ _
 refine wpAny_bind (wpAny_setField (s:={ s with toks:=s.toks + 1 }) ho hd (by simp) ?_)
 refine wpAny_pure ⟨x,rfl,wpAny_pure (hQ _ _ ?_ (Heap.SameBut.update ..))⟩
 exact ⟨_,Heap.get?_update_self _ ho (Obj.isFreed_of_fields (Obj.data_mapFields hd _)),(Obj.cls_mapFields ..).trans hc,by rw [Obj.data_mapFields hd];simp⟩
theorem EF {it:Addr} {Q:Option Value -> Shared -> Prop} (hh:A.handled = none) (hit:IsRev s.heap it t (-1)) (hQ:∀ h',Heap.ExtBut it s.heap h' -> Q none { s with heap:=h' }):wpAny (model prog w) A (pyNext (.ref it)) Q E s:=by
 obtain ⟨o,ho,hc,hd⟩:=id hit
 unfold pyNext
 refine wpAny_bind (wpAny_attempt (wpAny_callSpecial?_slot (name:=Str.ofString "__next__") hit.typeIs slot_next (wpAny_call_entry slot_next hit.typeIs pZ ?_ (sX _))))
 unfold Builtin.«reversed.__next__»
 refine wpAny_bind (wpAny_of_eq (a:=(Value.ref it,[])) rfl ?_)
 try dsimp only
 refine wpAny_bind (wpAny_field ho hd (x:=.ref t) rfl ?_)
 refine wpAny_bind (wpAny_field ho hd (x:=rawInt (-1)) rfl ?_)
 show wpAny _ _ (if (-1:Int) < 0 then _ else _) _ _ s
 rw [if_pos (by decide)]
 refine wpAny_bind (wpAny_rule ?_)
 refine wpAny_bind ?_
 refine wpAny_bind (wpAny_setField ho hd (by simp) ?_)
 have ho':=Heap.get?_update_self (h:=s.heap) (Obj.mapFields (·.setIfInBounds 1 (rawInt (-1)))) ho (Obj.isFreed_of_fields (Obj.data_mapFields hd _))
 have hd':=Obj.data_mapFields hd (·.setIfInBounds 1 (rawInt (-1)))
 refine wpAny_setField (s:={ s with heap:=s.heap.update it (Obj.mapFields (·.setIfInBounds 1 (rawInt (-1)))) }) ho' hd' (by simp) ?_
 first
 | show wpAny _ _ (newExc (.type "StopIteration") [] >>= _) _ _ _
 | (refine wpAny_bind ?_;show wpAny _ _ (newExc (.type "StopIteration") [] >>= _) _ _ _)
 refine wpAny_bind ?_
 simp only [newExc,newTuple]
 refine wpAny_bind (wpAny_newObj_type ?_ (by size_fits))
 refine wpAny_bind (m:=firstArgMember _ _) (wpAny_of_eq (a:=Value.none) (by first | rfl | (simp only [firstArgMember];rfl)) ?_)
 refine wpAny_newObj_type ?_ (by size_fits)
 simp only [raiseNew]
 refine wpAny_bind (wpAny_handled ?_)
 first | rw [show A.in1.handled = none from hh] | rw [hh]
 refine wpAny_bind (wpAny_pure (wpAny_throw ?_))
 refine wpAny_bind (wpAny_isInstance (T := "StopIteration") (b:=true) ⟨_,Heap.get?_push_size _ rfl,rfl⟩ isSubtype_stop ?_)
 exact wpAny_pure (hQ _ ((((Heap.SameBut.update ..).trans (Heap.SameBut.update ..)).extBut.push _).push _))
theorem tN {it:Addr} {i:Int} {Q:Value -> Shared -> Prop} (hit:IsRev s.heap it t i) (h:Q (.ref it) s):wpAny (model prog w) A (pyIter (.ref it)) Q E s:=by
 refine wpAny_pyIter_slot hit.typeIs uc (wpAny_call_entry uc hit.typeIs yL ?_ (Bs _))
 show wpAny _ _ (ret (.ref it)) _ _ s
 exact wpAny_pure ⟨_,rfl, "reversed",_,hit.typeIs,slot_next.lookup,h⟩
end
theorem AI:mroOf (.type "reversed") = pure [.type "reversed",.type "object"]:=by rw [mroOf_type];kernel_rfl
theorem Er:typeLookup (.type "reversed") "__new__" = pure (some (.builtin "reversed.__new__")):=by rw [typeLookup_type,builtinLookup_eq_fast];kernel_rfl
theorem CI:Slot "reversed" "__init__" "object.__init__" := .of (owner := "object") (n := "__init__") (by rw [typeLookup_type,builtinLookup_eq_fast];kernel_rfl) (by decide +kernel) (by decide +kernel) (by decide +kernel) (by first | exact .inl (by decide +kernel) | exact .inr (by decide +kernel)) (by rw [isSubtype_type];kernel_rfl)
theorem yH:TypeCalled "reversed" "reversed.__new__" "object.__init__" := ⟨by decide +kernel,by decide +kernel,⟨_,_,AI⟩,madeBy_type AI Er (by decide +kernel),by decide +kernel,by rw [isSubtype_type];kernel_rfl,CI⟩
theorem vM (a:Value):checkTypeCall "reversed" ⟨[a],[]⟩ = pure ():=by kernel_rfl
theorem xF (a:Value):checkBuiltinCall "reversed.__new__" ⟨[.type "reversed",a],[]⟩ = pure ():=by kernel_rfl
theorem BG:entryFor table "reversed.__new__" = some Builtin.«reversed.__new__»:=entryFor_of_tree (by kernel_rfl)
theorem u8 (a:Value):Builtin.SmallTypes.newClass "reversed" ⟨[.type "reversed",a],[]⟩ = pure (.type "reversed",[a]):=by
 unfold Builtin.SmallTypes.newClass
 simp only [isType,sub_self,pure_bind,Bool.not_true,Bool.false_eq_true,if_false]
theorem Ce (t:Addr) (items:Array Value) (hz:(items.size:Int) < 2 ^ 63):Meets (Builtin.«reversed.__new__» ⟨[.type "reversed",.ref t],[]⟩) (fun _ R s=>IsTup s.heap t items /\ R (.ok (.ret (.ref s.heap.objs.size))) { s with heap:=s.heap.push (rp t ((items.size:Int) - 1)),toks:=s.toks + 1 + 1 }):=
 .of_wp fun prog w A R s h=>by
  obtain ⟨ht,h⟩:=h
  unfold Builtin.«reversed.__new__»
  refine wpAny_bind (wpAny_of_eq (u8 _) ?_)
  try dsimp only
  refine wpAny_bind (wpAny_of_eq (a:=()) (by first | rfl | kernel_rfl) ?_)
  refine wpAny_bind (wpAny_of_eq (a:=()) (by first | rfl | kernel_rfl) ?_)
  try dsimp only
  refine wpAny_bind (wpAny_specialOf ht.typeIs JJ ?_)
  try dsimp only
  refine wpAny_bind (wpAny_bind (wpAny_isInstance (T := "tuple") (b:=false) ht.typeIs GW ?_))
  rw [if_neg Bool.false_ne_true]
  refine wpAny_bind (wpAny_specialOf ht.typeIs AC ?_)
  refine (show wpAny _ _ (pure true) _ _ _ from wpAny_pure ?_)
  show wpAny _ _ (if (!true) = true then _ else _) _ _ _
  rw [if_neg (by decide)]
  refine wpAny_bind (len_tuple ht hz ?_)
  show wpAny _ _ (Builtin.SmallTypes.newRecord (.type "reversed") [.ref t,rawInt ((items.size:Int) - 1)] >>= _) _ _ _
  refine wpAny_bind (wpAny_newObj_type (data:=.fields #[.ref t,rawInt ((items.size:Int) - 1)]) ?_ (by size_fits))
  exact wpAny_pure ⟨_,rfl,h⟩
theorem DC {prog:Program}    {s:Shared}   {Q:Value -> Shared -> Prop} (ht:IsTup s.heap t items) (hz:(items.size:Int) < 2 ^ 63)
  (h:Q (.ref s.heap.objs.size) { s with heap:=s.heap.push (rp t ((items.size:Int) - 1)),toks:=s.toks + 1 + 1 }):wpAny (model prog w) A (call (.type "reversed") [.ref t]) Q E s:=
 callType_new yH (by decide) (vM _) (xF _) (fun obj=>F.args_object_init_2 obj _) BG (Ce t items hz) ⟨ht,⟨_,Heap.get?_push_size _ rfl,rfl⟩,h⟩
end RevT
namespace L2
open PySem PySem.Spec PyProof.Rows
noncomputable def Itv (K:W.Frag) (a:Addr) (xs:List V):It:=
 ⟨fun i H=>SqT K H a xs /\ ∃ x,xs.reverse[i]? = some x,fun i H x H'=>H' = H /\ xs.reverse[i]? = some x,fun i H=>SqT K H a xs /\ xs.length = i⟩
noncomputable def Lx (K:W.Frag) (ta:TA):TI:=fun σ H R=>ta σ H fun vs H1=>∃ a xs,vs = [.ref a] /\ SqT K H1 a xs /\ R (Itv K a xs) H1
section
variable {X:Cx} {tg:Expr}
theorem FV {P:Program} {w:World} {K:W.Frag} (a it:Addr) (xs:List V):Turn P w K tg (Itv K a xs) [it] it (fun i h=>RevT.IsRev h it a ((xs.length:Int) - 1 - (i:Nat))) where
 mem:=by simp
 obj:=fun i h st b hb=>by
  rw [List.mem_singleton.mp hb]
  obtain ⟨o,e,c,d⟩:=st
  exact ⟨o,e,fun v z=>by rw [d] at z;cases z⟩
 keep:=fun i h h' st k=>by
  obtain ⟨o,e,r⟩:=st
  exact ⟨o,k it (by simp) _ e,r⟩
 item:=by
  intro X hP hw hK hc i pins s σ H E I hf st hg
  subst hP hw hK
  obtain ⟨hq,x,hx⟩:=hg
  obtain ⟨its,rv,p,hz⟩:=I.tuple hq
  have hi:i < xs.length:=by have:=(List.getElem?_eq_some_iff.mp hx).1;simpa using this
  have hx':xs[xs.length - 1 - i]? = some x:=by rw [List.getElem?_reverse hi] at hx;exact hx
  obtain ⟨u,hu,ru⟩:=rv.get hx'
  obtain ⟨f0,f1,f2,f3,f4,f5⟩:=hf it (by simp)
  have e:(xs.length:Int) - 1 - (i:Nat) = ((xs.length - 1 - i:Nat):Int):=by lia
  have hn:(sizeLine:Nat) < 2 ^ 60:=by rw [sizeLine_eq];decide
  have p62:(2:Int) ^ 62 = 4611686018427387904:=by decide
  rw [e] at st
  refine RevT.Ck st p (x:=u) (by simpa using hu) (by lia) fun h' tk st' sb=>?_
  have I1:Inv X pins σ H { s with heap:=h',toks:=tk }:=I.turned (fun b o hb e=>(sb.2 b hb).trans e) f0 f1 f3 f4 f5
  have st2:RevT.IsRev h' it a ((xs.length:Int) - 1 - ((i + 1:Nat):Int)):=by
   have e2:(xs.length:Int) - 1 - ((i + 1:Nat):Int) = ((xs.length - 1 - i:Nat):Int) - 1:=by lia
   rw [e2];exact st'
  obtain ⟨o,e,c,d⟩:=id st'
  exact ⟨u,rfl,xk (s:={ s with heap:=h',toks:=tk }) e c d (by decide) ⟨x,H,I1,ru,⟨rfl,hx⟩,st2,fun b hb=>(hf b hb).1⟩⟩
 done:=by
  intro X hP hw hK hc i pins s σ H E I hf st hg
  subst hP hw hK
  obtain ⟨hq,hx⟩:=hg
  obtain ⟨f0,f1,f2,f3,f4,f5⟩:=hf it (by simp)
  have e:(xs.length:Int) - 1 - (i:Nat) = -1:=by lia
  rw [e] at st
  exact RevT.EF (I.ok.hd hc) st fun h' eb=>⟨rfl,I.turned (t':=s.toks) (fun b o hb e=>eb b o hb e) f0 f1 f3 f4 f5⟩
 self:=fun _ _ _ _ _ st h=>RevT.tN st h
theorem JX {a:Expr} {ta:TA} {p pos:Pos} (hg:Gl X "reversed") (hm:X.mg "reversed" = none) (ha:PA X [a] ta) (hs:starEach [a] X.env = [(false,eval a X.env)]:=by rfl):PI X tg (.Call (.Name "reversed" p) [a] [] pos) (Lx X.K ta):=by
 intro pins s σ H R I h
 refine Call_ (qF I hg hm wp (PyProof.Rows.callWith_type1 (thn (ha pos pins s σ H _ I h) fun us s1 h1=>?_) hs rfl))
 obtain ⟨vs,H1,I1,r1,t,xs,rfl,hq,q⟩:=h1
 obtain ⟨u,rfl,rx⟩:=FZ r1
 cases rx
 obtain ⟨its,rv,p,hz⟩:=I1.tuple hq
 have hlen:=rv.length
 have hn:=lf
 refine RevT.DC p (by simp only [List.size_toArray] <;> lia) ?_
 have I2:Inv X pins σ H1 { s1 with heap:=s1.heap.push (RevT.rp t ((its.toArray.size:Int) - 1)),toks:=s1.toks + 1 + 1 }:=I1.kept fun b o e=>Heap.get?_push_of_some _ e
 have st:RevT.IsRev (s1.heap.push (RevT.rp t ((its.toArray.size:Int) - 1))) s1.heap.objs.size t ((xs.length:Int) - 1 - ((0:Nat):Int)):=by
  refine ⟨_,Heap.get?_push_size _ rfl,rfl,?_⟩
  have e:(xs.length:Int) - 1 - ((0:Nat):Int) = (its.toArray.size:Int) - 1:=by simp [hlen]
  rw [e];rfl
 refine RevT.tN (s:={ s1 with heap:=s1.heap.push (RevT.rp t ((its.toArray.size:Int) - 1)),toks:=s1.toks + 1 + 1 }) st ?_
 refine ⟨s1.heap.objs.size,[s1.heap.objs.size],_,_,H1,rfl,I2,FV t _ xs,st,fun b hb=>?_,q⟩
 rw [List.mem_singleton.mp hb]
 exact I1.fpOk (Nat.le_refl _) I1.fresh
end
end L2
namespace M
open PySem L2
section
variable {K:W.Frag} {S S' H H':Hp}
noncomputable def Mg:List D -> Option (List D)
 | [.tup l]=>some l.reverse | _=>none
@[simp] noncomputable def uj (a:XA):XA:=fun ρ=>(a ρ).bind Mg
theorem Ly   (h:SAP K t a):SI K (Lx K t) (uj a):=fun ρ σ S H R l r x k=>by
 unfold uj at x
 cases q:a ρ with
 | none=>rw [q] at x;cases x
 | some ds=>
  rw [q] at x
  dsimp only [Option.bind] at x
  unfold Mg at x
  split at x
  ·rename_i l'
   cases x
   refine h ρ σ S H _ _ r q fun vs S1 H1 z1 d1=>?_
   cases d1 with
   | cons a1 d1=>
    cases d1
    rcases a1 with a1 | ⟨l2,_,_,e,_⟩
    ·obtain ⟨p,xs,rfl,h1,h2⟩:=eS a1
     refine ⟨p,xs,rfl,aC z1.sub h1,k _ S1 H1 z1 fun S' H' s1 s2=>⟨fun i d hd=>?_,aC (s1.trans s2) h1,by rw [List.length_reverse];exact h2.length.symm⟩⟩
     have hi:i < l'.length:=by have:=(List.getElem?_eq_some_iff.mp hd).1;simpa using this
     rw [List.getElem?_reverse hi] at hd
     obtain ⟨y,e1,e2⟩:=h2.get hd
     have hl:=h2.length
     have e3:xs.reverse[i]? = some y:=by rw [List.getElem?_reverse (by lia)];rw [<- e1];congr 2;lia
     refine ⟨⟨aC (s1.trans s2) h1,y,e3⟩,fun x H'' hy=>⟨hy.1,?_⟩⟩
     have:=hy.2
     rw [e3] at this
     cases this
     exact e2.mono s1
    ·cases e
  ·cases x
end
end M
namespace L2
open PySem
section
variable {X:Cx} {e:Expr} {pos p p':Pos} {ta:TE} {T:Addr} {N:Str} {ans:List (Str × Bool)}
end
end L2
namespace M
open PySem L2
section
variable {K:W.Frag} {S S' H H':Hp}
@[simp] noncomputable def O5 (ans:List (Str × Bool)) (e:XE):XE:=fun ρ=>(e ρ).bind fun d=>match d with | .ins N _ _=>(ans.lookup N).map .bl | _=>none
end
end M
namespace L2
open PySem PySem.Spec PyProof.Rows Builtin Builtin.ObjectAttr Builtin.Getset_descriptor
section
variable {prog:Program} {w:World} {A:Around} {E:Value -> Shared -> Prop} {s:Shared} {K:W.Frag} {C a:Addr}
end
end L2
namespace L2
open PySem PySem.Spec PyProof.Rows
section
variable {H H':Hp} {B h0 h h':Heap} {fs:List Addr}
end
section
variable {X:Cx} {pins:List (Addr × Obj)} {σ:St} {H:Hp} {s:Shared} {E:XK} {B:Heap} {e:Addr} {cls a0:Value}
end
section
variable {P:Program} {w:World} {K:W.Frag} {mg:Str -> Option Value} {base:Heap} {N:List Str} {qual:Str} {scope:Scope} {f:Addr} {cdv:Value} {A:Around} {outer:List Env} {s:Shared} {H:Hp} {E:XK}
end
section
variable {X:Cx} {E:XK} {x:Str} {e:Expr} {te:TE} {np cpos pos:Pos}
end
section
variable {X:Cx} {pins:List (Addr × Obj)} {σ:St} {H H':Hp} {s s':Shared} {e:Addr}
end
section
variable {X:Cx} {body suite:List Stmt} {b0:Stmt} {x n:Str} {i:Nat} {L:List Str} {tb:XK -> TS} {ts:TS} {np hp pos:Pos}
end
section
variable {X:Cx} {e:Expr} {pos p p':Pos} {i:Nat} {N:Str} {ans:List (Str × Bool)} {vv:V} {u:Value}
end
end L2
namespace M
open PySem L2
section
variable {K:W.Frag} {S S' H H':Hp}
inductive RO where
 | rz (N:Str) | nx (ρ:Env)
noncomputable abbrev XR:=Env -> Option RO
variable {E:XK}
@[simp] noncomputable def Op:XR:=fun ρ=>some (.nx ρ)
@[simp] noncomputable def M4 (N:Str):XR:=fun _=>some (.rz N)
@[simp] noncomputable def PZ (c:XT) (m n:XR):XR:=fun ρ=>(c ρ).bind fun b=>if b = true then m ρ else n ρ
@[simp] noncomputable def Pm (m n:XR):XR:=fun ρ=>(m ρ).bind fun o=>match o with | .nx ρ'=>n ρ' | .rz N=>some (.rz N)
@[simp] noncomputable def Oq (m:XR):XR:=fun ρ=>(m ρ).bind fun o=>match o with | .nx _=>none | .rz N=>some (.rz N)
@[simp] noncomputable def xrE (m:Env -> Option Str):XR:=fun ρ=>(m ρ).map .rz
@[simp] noncomputable def Om (m:List D -> Option Str) (a:XA):Env -> Option Str:=fun ρ=>(a ρ).bind m
noncomputable def Ik (N:Str):List (List (Str × Bool)) -> Option (List Bool)
 | []=>some []
 | a :: l=>(a.lookup N).bind fun b=>(Ik N l).map fun bs=>b :: bs
noncomputable def D9 (i:Nat) (N:Str):List (Nat × List (List (Str × Bool))) -> Env -> Option Env
 | [],ρ=>some ρ
 | p :: l,ρ=>if p.1 = i then none else (Ik N p.2).bind fun bs=>if bs.length <= 1000 then D9 i N l (ρ.set p.1 (.sh (.lst (bs.map .bl)))) else none
@[simp] noncomputable def PX (L:List Str) (i:Nat) (m:XR) (l:List (Nat × List (List (Str × Bool)))):XS:=fun ρ=>if i < ρ.length then (m ρ).bind fun o=>match o with
 | .rz N=>if L.contains N then (D9 i N l (ρ.map fun _=>.un)).map fun ρ'=>.nx (ρ'.set i .un) else none
 | .nx ρ'=>some (.nx ρ') else none
end
end M
namespace L2
open PySem PySem.Spec PyProof.Rows
section
variable {X:Cx} {tg:Expr}
end
end L2
namespace M
open PySem L2
section
variable {K:W.Frag} {S S' H H':Hp}
noncomputable def Nu:List D -> Option (List D)
 | [.int i,.int j]=>some (eY i (j - i).toNat)
 | _=>none
@[simp] noncomputable def Pi (a:XA):XA:=fun ρ=>(a ρ).bind Nu
end
end M
namespace L2
open PySem PySem.Spec PyProof.Rows
section
variable {X:Cx} {tg:Expr}
end
end L2
namespace M
open PySem L2
section
variable {K:W.Frag} {S S' H H':Hp}
noncomputable def KC (x:Str):List D:=x.cps.toList.map fun c=>D.str ⟨#[c]⟩
noncomputable def sgD:D -> Option (List D)
 | .str x=>some (KC x)
 | _=>none
@[simp] noncomputable def PP (e:XE):XA:=fun ρ=>(e ρ).bind sgD
noncomputable def Nb (d:D) (lo hi:Option Int):Option D:=match d with
 | .str x=>if x.length <= LIM then some (.str (Txt.slice x lo hi)) else none
 | _=>none
@[simp] noncomputable def PV (a:XE) (lo hi:XO):XE:=fun ρ=>(a ρ).bind fun d=>(lo ρ).bind fun l=>(hi ρ).bind fun h=>Nb d l h
noncomputable def e8:List D -> Option (List Bool)
 | []=>some []
 | .bl b :: l=>(e8 l).map fun r=>b :: r
 | _ :: _=>none
theorem pS:∀ {l:List D} {bs:List Bool},e8 l = some bs -> l = bs.map D.bl
 | [],bs,h=>by cases h;rfl
 | d :: l,bs,h=>by
  cases d <;> try (cases h;done)
  rename_i b
  have h:(e8 l).map (fun r=>b :: r) = some bs:=h
  cases q:e8 l with
  | none=>rw [q] at h;cases h
  | some r=>rw [q] at h;cases h;rw [pS q];rfl
theorem wG:∀ {bs:List Bool} {xs:List V},Dens K S (bs.map D.bl) xs -> xs = bs.map V.bl
 | [],xs,h=>h
 | b :: bs,xs,h=>by
  obtain ⟨y,ys,rfl,a,r⟩:=h
  rw [den_bl.mp a,wG r];rfl
end
end M
namespace L2
open PySem
end L2
namespace L2
open PySem PySem.Spec PyProof.Rows
section
variable {X:Cx}
inductive PJ (X:Cx):List Expr -> List TE -> Prop
 | nil:PJ X [] []
 | cons {e:Expr} {t:TE} {es:List Expr} {ts:List TE}:PE X e t -> PJ X es ts -> PJ X (e :: es) (t :: ts)
end
end L2
namespace M
open PySem L2
section
variable {K:W.Frag} {S S' H H':Hp}
noncomputable def fvD:D -> Option D
 | .int i=>if i.natAbs.log2 < 1920 then some (.str (toString i)) else none
 | .str y=>if y.length <= LIM then some (.str y) else none
 | _=>none
@[simp] noncomputable def xFv (e:XE):XE:=fun ρ=>(e ρ).bind fvD
inductive SJ (K:W.Frag):List TE -> List XE -> Prop
 | nil:SJ K [] []
 | cons {t:TE} {a:XE} {ts:List TE} {as:List XE}:SPk K t a -> SJ K ts as -> SJ K (t :: ts) (a :: as)
end
end M
namespace L2
open PySem PySem.Spec PyProof.Rows
section
variable {M:Model} {A:Around} {Ex:Value -> Shared -> Prop} {s:Shared}
end
section
variable {P:Program} {w:World} {K:W.Frag} {mg:Str -> Option Value} {base:Heap} {N:List Str} {qual:Str} {scope:Scope} {f:Addr} {cdv:Value} {A:Around} {outer:List Env} {s:Shared} {H:Hp} {E:XK}
end
section
variable {X:Cx} {pins:List (Addr × Obj)} {σ:St} {H:Hp} {s:Shared} {XN N:List Str} {sc scope:Scope} {js:List (Option Nat)}
variable {tg iter elt:Expr} {ifs:List Expr} {pos:Pos} {wi:TI} {g:TG} {tt:TIf} {te:TE} {E:XK}
end
section
variable {X:Cx}
end
end L2
namespace M
open PySem L2
section
variable {K:W.Frag} {S S' H H':Hp} {E:XK}
@[simp] noncomputable def P5 (m:XS):XR:=fun ρ=>match m ρ with | some (.nx ρ')=>some (.nx ρ') | _=>none
@[simp] noncomputable def P6 (n:Env -> Option Str) (m:XS):XR:=fun ρ=>match n ρ with | some N=>some (.rz N) | none=>(match m ρ with | some (.nx ρ')=>some (.nx ρ') | _=>none)
@[simp] noncomputable def Oj (m:Env -> Option Str):Env -> Option Str:=m
@[simp] noncomputable def Ol (e:XE) (m:Env -> Option Str):Env -> Option Str:=fun ρ=>(e ρ).bind fun _=>m ρ
@[simp] noncomputable def PY (n:Env -> Option Str) (e:XE) (m:Env -> Option Str):Env -> Option Str:=fun ρ=>match n ρ with | some N=>some N | none=>(e ρ).bind fun _=>m ρ
@[simp] noncomputable def Pk (i:Nat) (m:Env -> Option Str):Env -> Option Str:=fun ρ=>match ρ[i]? with | some (.ow (.lst _))=>m ρ | _=>none
noncomputable def DG (g:XG) (c:XT) (e:XE) (n:Env -> Option Str) (ρ0:Env):List D -> Option Str
 | []=>none
 | d :: l=>(g d ρ0).bind fun ρ1=>(c ρ1).bind fun b=>if b = true then (match n ρ1 with | some N=>some N | none=>(e ρ1).bind fun _=>DG g c e n ρ0 l) else DG g c e n ρ0 l
@[simp] noncomputable def Oo (js:List (Option Nat)) (w:XA) (g:XG) (c:XT) (e:XE) (n:Env -> Option Str):Env -> Option Str:=fun ρ=>(w ρ).bind fun l=>if l.length <= LIM then DG g c e n (uQ js ρ) l else none
noncomputable def Il (g:XG) (m:XR):List D -> Env -> Option RO
 | [],ρ=>some (.nx ρ)
 | d :: l,ρ=>(g d ρ).bind fun ρ1=>(m ρ1).bind fun o=>match o with | .nx ρ2=>Il g m l ρ2 | .rz N=>some (.rz N)
@[simp] noncomputable def Pl (e:XA) (g:XG) (m:XR):XR:=fun ρ=>(e ρ).bind fun l=>Il g m l ρ
end
end M
namespace L2
open PySem
theorem usS {us:List Value} {n:Nat} (h:us.length = n + 1):∃ a v,us = a :: v /\ v.length = n:=by
 cases us with
 | nil=>cases h
 | cons a v=>exact ⟨a,v,rfl,Nat.succ.inj h⟩
theorem us1 {us:List Value} (h:us.length = 1):∃ a0,us = [a0]:=by
 obtain ⟨a0,v0,rfl,h0⟩:=usS h
 cases v0 with
 | nil=>exact ⟨a0,rfl⟩
 | cons a v=>cases h0
theorem us2 {us:List Value} (h:us.length = 2):∃ a0 a1,us = [a0,a1]:=by
 obtain ⟨a0,v0,rfl,h0⟩:=usS h
 obtain ⟨a1,v1,rfl,h1⟩:=usS h0
 cases v1 with
 | nil=>exact ⟨a0,a1,rfl⟩
 | cons a v=>cases h1
theorem us3 {us:List Value} (h:us.length = 3):∃ a0 a1 a2,us = [a0,a1,a2]:=by
 obtain ⟨a0,v0,rfl,h0⟩:=usS h
 obtain ⟨a1,v1,rfl,h1⟩:=usS h0
 obtain ⟨a2,v2,rfl,h2⟩:=usS h1
 cases v2 with
 | nil=>exact ⟨a0,a1,a2,rfl⟩
 | cons a v=>cases h2
theorem us4 {us:List Value} (h:us.length = 4):∃ a0 a1 a2 a3,us = [a0,a1,a2,a3]:=by
 obtain ⟨a0,v0,rfl,h0⟩:=usS h
 obtain ⟨a1,v1,rfl,h1⟩:=usS h0
 obtain ⟨a2,v2,rfl,h2⟩:=usS h1
 obtain ⟨a3,v3,rfl,h3⟩:=usS h2
 cases v3 with
 | nil=>exact ⟨a0,a1,a2,a3,rfl⟩
 | cons a v=>cases h3
theorem us5 {us:List Value} (h:us.length = 5):∃ a0 a1 a2 a3 a4,us = [a0,a1,a2,a3,a4]:=by
 obtain ⟨a0,v0,rfl,h0⟩:=usS h
 obtain ⟨a1,v1,rfl,h1⟩:=usS h0
 obtain ⟨a2,v2,rfl,h2⟩:=usS h1
 obtain ⟨a3,v3,rfl,h3⟩:=usS h2
 obtain ⟨a4,v4,rfl,h4⟩:=usS h3
 cases v4 with
 | nil=>exact ⟨a0,a1,a2,a3,a4,rfl⟩
 | cons a v=>cases h4
theorem ww:ul K [] P:=fun _ h=>by cases h
theorem tq  {P:Addr -> Prop}  {Ns:List Str} {c:Addr} (h:W.nsIn K mainGlobals N = some (some (.ref c))) (p:P c) (r:ul K Ns P):ul K (N :: Ns) P:=fun M hM C hC=>by
 rcases List.mem_cons.mp hM with rfl | hM
 ·rw [h] at hC
  cases hC
  exact p
 ·exact r M hM C hC
end L2
namespace L2
open PySem PySem.Spec PyProof.Rows
section
variable {κ:Type} [DecidableEq κ]
noncomputable def km (kvs:List (κ × V)) (k:κ):Option V:=(kvs.find? fun kv=>decide (kv.1 = k)).map (·.2)
noncomputable def gb (kvs:List (κ × V)) (k:κ) (v:V):List (κ × V):=
 if (kvs.any fun kv=>decide (kv.1 = k)) = true then kvs.map (fun kv=>if kv.1 = k then (kv.1,v) else kv) else kvs ++ [(k,v)]
theorem mU {p:κ × V} {r:List (κ × V)} {k:κ} (e:p.1 = k):km (p :: r) k = some p.2:=by simp [km,List.find?_cons,e]
theorem mS {p:κ × V} {r:List (κ × V)} {k:κ} (e:¬ p.1 = k):km (p :: r) k = km r k:=by simp [km,List.find?_cons,e]
theorem mR (k:κ):∀ kvs:List (κ × V),(kvs.any fun kv=>decide (kv.1 = k)) = (km kvs k).isSome
 | []=>rfl
 | p :: r=>by
  rw [List.any_cons]
  by_cases e:p.1 = k
  ·simp only [mU e,decide_eq_true e,Bool.true_or,Option.isSome_some]
  ·rw [mS e,decide_eq_false e,Bool.false_or];exact mR k r
theorem gy (kvs:List (κ × V)) (k:κ) (v:V):(gb kvs k v).length <= kvs.length + 1:=by
 unfold gb
 split
 ·rw [List.length_map];lia
 ·rw [List.length_append,List.length_cons,List.length_nil];lia
theorem xW {kvs:List (κ × V)}  (v:V) (h:km kvs k = none):gb kvs k v = kvs ++ [(k,v)]:=by
 unfold gb
 rw [mR,h]
 exact if_neg (by decide)
theorem RelO.isSome_eq   (r:RelO o u):o.isSome = u.isSome:=by
 cases o with
 | none=>cases u with
  | none=>rfl
  | some _=>exact (show False from r).elim
 | some _=>cases u with
  | none=>exact (show False from r).elim
  | some _=>rfl
theorem KV.val {kvs:List (κ × V)}  (r:KV kvs vs) (k:κ):RelO (km kvs k) (valueAt vs k):=by
 unfold KV at r
 induction r with
 | nil=>exact True.intro
 | @cons p q ps qs h t ih=>
  obtain ⟨h1,h2⟩:=h
  by_cases e:p.1 = k
  ·have e':q.1 = k:=h1.symm.trans e
   have b:valueAt (q :: qs) k = some q.2:=by simp [valueAt,List.find?_cons,e']
   rw [mU e,b];exact h2
  ·have e':¬ q.1 = k:=fun z=>e (h1.trans z)
   have b:valueAt (q :: qs) k = valueAt qs k:=by simp [valueAt,List.find?_cons,e']
   rw [mS e,b];exact ih
theorem KV.any {kvs:List (κ × V)}  (r:KV kvs vs) (k:κ):(kvs.any fun kv=>decide (kv.1 = k)) = vs.any fun kv=>decide (kv.1 = k):=by
 unfold KV at r
 induction r with
 | nil=>rfl
 | cons h t ih=>rw [List.any_cons,List.any_cons,ih,h.1]
theorem KV.repl {kvs:List (κ × V)}  (r:KV kvs vs) (k:κ)   (ry:RelV y u) :
  KV (kvs.map fun kv=>if kv.1 = k then (kv.1,y) else kv) (vs.map fun kv=>if kv.1 = k then (kv.1,u) else kv):=by
 unfold KV at r ⊢
 induction r with
 | nil=>exact .nil
 | @cons p q ps qs h t ih=>
  rw [List.map_cons,List.map_cons]
  refine .cons ?_ ih
  obtain ⟨h1,h2⟩:=h
  by_cases e:p.1 = k
  ·rw [if_pos e,if_pos (h1.symm.trans e)];exact ⟨h1,ry⟩
  ·rw [if_neg e,if_neg (fun z=>e (h1.trans z))];exact ⟨h1,h2⟩
theorem KV.put {kvs:List (κ × V)}  (r:KV kvs vs) (k:κ)   (ry:RelV y u):KV (gb kvs k y) (stored vs k u):=by
 unfold gb stored
 rw [r.any k]
 by_cases e:(vs.any fun kv=>decide (kv.1 = k)) = true
 ·rw [if_pos e,if_pos e];exact r.repl k ry
 ·rw [if_neg e,if_neg e];exact Paired.snoc r ⟨rfl,ry⟩
theorem KV.length {kvs:List (κ × V)}  (r:KV kvs vs):kvs.length = vs.length:=Paired.length r
end
theorem Ek     (r:RelV (kV k) u):(aY P w).is k u = true:=by
 cases k with
 | inl i=>obtain ⟨t,e⟩:=(show ∃ t,u = Value.int i t from r);subst e;exact xz P w i t
 | inr x=>obtain ⟨t,e⟩:=(show ∃ t,u = Value.str x t from r);subst e;exact xA P w x t
theorem tL:∀ {ks:List Key} {us:List Value},Vals (ks.map kV) us -> ItemsAre (aY P w) ks us
 | [],_,r=>by rw [List.map_nil] at r;cases r;exact .nil
 | k :: ks,_,r=>by
  rw [List.map_cons] at r
  cases r with
  | cons h t=>exact .cons (Ek h) (tL t)
noncomputable abbrev KT (H:Hp):List (List Key × V) -> List (List Key × Addr × Value) -> Prop:=Paired fun p q=>p.1 = q.1 /\ H q.2.1 = some (.tup (p.1.map kV)) /\ RelV p.2 q.2.2
theorem KT.val  {kvs:List (List Key × V)} {xs:List (List Key × Addr × Value)} (r:KT H kvs xs) (k:List Key):RelO (km kvs k) ((atKey xs k).map (·.2)):=by
 induction r with
 | nil=>exact True.intro
 | @cons p q ps qs h t ih=>
  obtain ⟨h1,_,h2⟩:=h
  by_cases e:p.1 = k
  ·have e':q.1 = k:=h1.symm.trans e
   have b:atKey (q :: qs) k = some q.2:=by simp [atKey,List.find?_cons,e']
   rw [mU e,b];exact h2
  ·have e':¬ q.1 = k:=fun z=>e (h1.trans z)
   have b:atKey (q :: qs) k = atKey qs k:=by simp [atKey,List.find?_cons,e']
   rw [mS e,b];exact ih
theorem KT.repl  {kvs:List (List Key × V)} {xs:List (List Key × Addr × Value)} (r:KT H kvs xs) (k:List Key)   (ry:RelV y u) :
  KT H (kvs.map fun kv=>if kv.1 = k then (kv.1,y) else kv) (xs.map (putAt k u)):=by
 induction r with
 | nil=>exact .nil
 | @cons p q ps qs h t ih=>
  rw [List.map_cons,List.map_cons]
  refine .cons ?_ ih
  obtain ⟨h1,h2,h3⟩:=h
  unfold putAt
  by_cases e:p.1 = k
  ·rw [if_pos e,if_pos (h1.symm.trans e)];exact ⟨h1,h2,ry⟩
  ·rw [if_neg e,if_neg (fun z=>e (h1.trans z))];exact ⟨h1,h2,h3⟩
theorem KT.put  {kvs:List (List Key × V)} {xs:List (List Key × Addr × Value)} (r:KT H kvs xs) (k:List Key) {b:Addr}   (hb:H b = some (.tup (k.map kV))) (ry:RelV y u) :
  KT H (gb kvs k y) (storedH xs k b u):=by
 have e:(kvs.any fun kv=>decide (kv.1 = k)) = (atKey xs k).isSome:=by
  rw [mR,(r.val k).isSome_eq,Option.isSome_map]
 unfold gb storedH
 rw [e]
 by_cases q:(atKey xs k).isSome = true
 ·rw [if_pos q,if_pos q];exact r.repl k ry
 ·rw [if_neg q,if_neg q];exact Paired.snoc r ⟨rfl,hb,ry⟩
theorem KT.keeps {H':Hp} {kvs:List (List Key × V)} {xs:List (List Key × Addr × Value)} (r:KT H kvs xs) (ht:∀ b ys,H b = some (.tup ys) -> H' b = some (.tup ys)):KT H' kvs xs:=
 Paired.mapP r fun _ _ z=>⟨z.1,ht _ _ z.2.1,z.2.2⟩
section
variable {P:Program} {w:World} {H:Hp} {h:Heap} {a:Addr}
theorem xY  (ok:HOk P w H h) (e:Rd H a u):ObjOk P w H h a u:=e.ok ok
theorem Ia {kvs:List (Key × V)} (ok:HOk P w H h) (e:Rd H a (.dK kvs)):kvs.length <= sizeLine /\ (a == sysModules) = false /\ ∃ vs,KV kvs vs /\ h.DictOf (aY P w) a vs:=
 show ObjOk P w H h a (.dK kvs) from xY ok e
theorem Lj {kvs:List (Key × V)} (ok:HOk P w H h) (e:H a = some (.dK kvs)):kvs.length <= sizeLine /\ (a == sysModules) = false /\ ∃ vs,KV kvs vs /\ h.DictOf (aY P w) a vs:=Ia ok (.inl e)
theorem uU {ks:List Key} (ok:HOk P w H h) (e:H a = some (.tup (ks.map kV))):(tupleKind (aY P w)).is h ks a:=by
 obtain ⟨_,its,r,o,h1,h2,n,h3⟩:=(show ObjOk P w H h a (.tup (ks.map kV)) from ok a _ e)
 exact ⟨o,its.toArray,n,h1,h2,h3,by simpa using tL r⟩
theorem Ib {kvs:List (List Key × V)} (ok:HOk P w H h) (e:Rd H a (.dT kvs)):kvs.length <= sizeLine /\ (a == sysModules) = false /\
  ∃ xs,KT H kvs xs /\ h.DictOfH (tupleKind (aY P w)) a xs:=by
 obtain ⟨z,y,xs,r,o,es,ep,h1,h2,h3,h4,h5⟩:=(show ObjOk P w H h a (.dT kvs) from xY ok e)
 refine ⟨z,y,xs,r,o,es,ep,h1,h2,h3,h4,fun x hx=>?_,h5⟩
 have all:∀ {l:List (List Key × V)} {m:List (List Key × Addr × Value)},KT H l m -> ∀ x ∈ m,(tupleKind (aY P w)).is h x.1 x.2.1:=by
  intro l m q
  induction q with
  | nil=>intro x hx;exact nomatch hx
  | @cons p q ps qs hq t ih=>
   intro x hx
   rcases List.mem_cons.mp hx with e | hx
   ·subst e
    exact uU ok (by rw [<- hq.1];exact hq.2.1)
   ·exact ih x hx
 exact all r x hx
theorem DK {kvs:List (List Key × V)} (ok:HOk P w H h) (e:H a = some (.dT kvs)):kvs.length <= sizeLine /\ (a == sysModules) = false /\
  ∃ xs,KT H kvs xs /\ h.DictOfH (tupleKind (aY P w)) a xs:=Ib ok (.inl e)
end
def K1 (H:Hp) (a:Addr) (y:V) (r:Option V):Prop:=
 (∃ kvs k,Rd H a (.dK kvs) /\ y = kV k /\ r = km kvs k) \/ ∃ kvs k b,Rd H a (.dT kvs) /\ y = .ref b /\ H b = some (.tup (k.map kV)) /\ r = km kvs k
def K2 (H:Hp) (a:Addr) (y v:V) (H':Hp):Prop:=
 (∃ kvs k,H a = some (.dK kvs) /\ y = kV k /\ kvs.length < sizeLine /\ H' = upd H a (.dK (gb kvs k v))) \/
 ∃ kvs k b,H a = some (.dT kvs) /\ y = .ref b /\ H b = some (.tup (k.map kV)) /\ kvs.length < sizeLine /\ H' = upd H a (.dT (gb kvs k v))
section
variable {X:Cx} {pins:List (Addr × Obj)} {σ:St} {H:Hp} {s:Shared} {a:Addr} {y v:V} {u r:Value} {o:Option V} {A:Around} {E:Value -> Shared -> Prop}
theorem Inv.big (I:Inv X pins σ H s):sysModules < s.heap.objs.size:=by
 have h:mainGlobals < s.heap.objs.size:=(I.mod.glob.keeps I.bk).lt
 exact Nat.lt_trans (by decide) h
theorem Go {Q:Value -> Shared -> Prop} (hu:A.units + 1 < cLine) (I:Inv X pins σ H s) (g:K1 H a y o) (ry:RelV y u) (h:∀ s',Inv X pins σ H s' -> Q (.bool (!o.isSome)) s') :
  wpAny (model X.prog X.w) A (compareOp .NotIn u (.ref a)) Q E s:=by
 rcases g with ⟨kvs,k,e,ey,l⟩ | ⟨kvs,k,b,e,ey,eb,l⟩
 ·subst ey
  obtain ⟨z,hd,vs,rel,dd⟩:=Ia I.hok e
  refine wpAny_notIn_of (Ek ry) hd dd.mapOf ?_
  rw [<- (rel.val k).isSome_eq,<- l]
  exact h _ (I.tok _)
 ·subst ey
  cases (show u = Value.ref b from ry)
  obtain ⟨z,hd,xs,rel,dd⟩:=Ib I.hok e
  refine wpAny_notIn_heap (tupleKind_room_in1 hu) (uU I.hok eb) hd dd ?_
  have q:=(rel.val k).isSome_eq
  rw [Option.isSome_map] at q
  rw [<- q,<- l]
  exact h _ (I.tok _)
theorem uE {h':Heap} {t':Nat}  (I:Inv X pins σ H s) (mu:Mut (H a)) (hs:Heap.SameBut a s.heap h') (he:∃ q,h'.get? a = some q) (new:ObjOk X.prog X.w (upd H a ob) h' a ob) :
  Inv X pins σ (upd H a ob) { s with heap:=h',toks:=t' }:=
 I.write (x:=a) (e:=a) mu (.inl rfl) (fun b q hb z=>(hs.2 b hb).trans z) he new
theorem Jk   {H':Hp} {h':Heap} {kvs:List (Key × V)}  (z:kvs.length <= sizeLine) (hd:(a == sysModules) = false) (rel:KV kvs vs) (dd:h'.DictOf (aY P w) a vs) :
  ObjOk P w H' h' a (.dK kvs):=⟨z,hd,vs,rel,dd⟩
theorem BF {H':Hp} {Q:Unit -> Shared -> Prop} (hu:A.units + 1 < cLine) (I:Inv X pins σ H s) (g:K2 H a y v H') (ry:RelV y u) (rv:RelV v r) (h:∀ s',Inv X pins σ H' s' -> Q () s') :
  wpAny (model X.prog X.w) A (setItem (.ref a) u r) Q E s:=by
 rcases g with ⟨kvs,k,e,ey,l,eH⟩ | ⟨kvs,k,b,e,ey,eb,l,eH⟩
 ·subst ey eH
  obtain ⟨z,hd,vs,rel,dd⟩:=Lj I.hok e
  have hz:vs.length <= sizeLine:=by rw [<- rel.length];exact z
  have hl:(gb kvs k v).length <= sizeLine:=by have:=gy kvs k v;lia
  refine wpAny_setItem_pairs (hsz:=hz) (Ek ry) dd fun h' dd' hs=>h _ ?_
  have he:∃ q,h'.get? a = some q:=let ⟨q,_,_,hq,_⟩:=dd';⟨q,hq⟩
  exact uE I (by rw [e];exact True.intro) hs he (Jk hl hd (rel.put k rv) dd')
 ·subst ey eH
  cases (show u = Value.ref b from ry)
  obtain ⟨z,hd,xs,rel,dd⟩:=DK I.hok e
  have hz:xs.length <= sizeLine:=by rw [<- Paired.length rel];exact z
  have hl:(gb kvs k v).length <= sizeLine:=by have:=gy kvs k v;lia
  refine wpAny_setItem_heap (hsz:=hz) (tupleKind_room_in1 hu) (uU I.hok eb) dd fun h' dd' hs=>h _ ?_
  obtain ⟨q,es,ep,hq,h2,h3,h4,_,h5⟩:=dd'
  refine uE I (by rw [e];exact True.intro) hs ⟨q,hq⟩ ⟨hl,hd,_,(rel.put k eb rv).keeps fun c ys ec=>?_,q,es,ep,hq,h2,h3,h4,h5⟩
  rw [aw (AJ ec e (fun z=>nomatch z))]
  exact ec
end
section
variable {X:Cx} {pins:List (Addr × Obj)} {σ:St} {H:Hp} {s:Shared} {a:Addr} {kvs:List (Key × V)} {k:Key} {u:Value} {A:Around} {E:Value -> Shared -> Prop}
end
noncomputable def A4 (ty td:TE):TE:=fun σ H Q=>ty σ H fun y H1=>td σ H1 fun x H2=>∃ a o,x = .ref a /\ K1 H2 a y o /\ Q (.bl (!o.isSome)) H2
noncomputable def Iz (td ty tv:TE):TS:=fun D σ H=>tv σ H fun v H1=>td σ H1 fun x H2=>ty σ H2 fun y H3=>∃ a H4,x = .ref a /\ K2 H3 a y v H4 /\ D.nx σ H4
section
variable {X:Cx} {o i e value:Expr} {pos pos' tpos:Pos} {td ty tv:TE}
theorem tW (hu:X.A.units + 1 < cLine) (hi:PE X i ty) (ho:PE X o td):PC X .NotIn i o (A4 ty td):=by
 intro pins s σ H Q I h
 refine thn (hi pins s σ H _ I h) fun iv s1 ⟨y,H1,I1,ry,q1⟩=>thn (ho pins s1 σ H1 _ I1 q1) fun u s2 hpt9=>?_
 obtain ⟨x,H2,I2,rx,a,ov,ex,g,q2⟩:=hpt9
 subst ex
 obtain rfl:u = Value.ref a:=rx
 exact Go hu I2 g ry fun s3 I3=>⟨.bl (!ov.isSome),H2,I3,rfl,q2⟩
theorem Hj (hu:X.A.units + 1 < cLine) (ho:PE X o td) (hi:PE X i ty) (hv:PE X value tv) (hs:swapsWith value (some (.Subscript o i pos')) pos.line X.env = pure false) :
  PS X (.Assign [.Subscript o i pos'] value pos) (Iz td ty tv):=by
 intro pins s σ H D I h
 refine wpAny_Assign_Subscript (thn (hv pins s σ H _ I h) fun r s1 ⟨v,H1,I1,rv,q1⟩=>thn (ho pins s1 σ H1 _ I1 q1) fun u s2 ⟨x,H2,I2,rx,q2⟩=>thn (hi pins s2 σ H2 _ I2 q2) fun iv s3 hpt9=>?_) hs
 obtain ⟨y,H3,I3,ry,a,H4,ex,g,q3⟩:=hpt9
 subst ex
 obtain rfl:u = Value.ref a:=rx
 exact BF hu I3 g ry rv fun s4 I4=>⟨σ,H4,I4,q3⟩
end
theorem wK    (h:Heap) (hb:sysModules < h.objs.size):ObjOk P w H (h.push { cls:=.type "dict",data:=.dict #[] }) h.objs.size (.dT []):=
 ⟨Nat.zero_le _,beq_eq_false_iff_ne.mpr (Ne.symm (Nat.ne_of_lt hb)),[],.nil,_,#[],0,Heap.get?_push_size _ rfl,⟨rfl,rfl,rfl⟩,rfl,rfl,List.nodup_nil⟩
noncomputable def FN:TE:=fun _ H Q=>∀ p,H p = none -> Q (.ref p) (upd H p (.dT []))
section
variable {X:Cx} {pos:Pos}
theorem EO:PE X (.Dict [] [] pos) FN:=fun pins s σ H Q I h=>
 wpAny_Dict_empty ⟨.ref s.heap.objs.size,_,I.laid (a:=s.heap.objs.size) (o:=.dT []) (t':=s.toks) (fun _ _ q=>Heap.get?_push_of_some _ q) (Nat.le_refl _) (wK s.heap I.big),rfl,h _ (I.hok.fresh (Nat.le_refl _))⟩
end
noncomputable def Ab:List (TE × TE) -> St -> Hp -> (List (V × V) -> Hp -> Prop) -> Prop
 | [],_,H,Q=>Q [] H
 | (tk,tv) :: r,σ,H,Q=>tk σ H fun x H1=>tv σ H1 fun y H2=>Ab r σ H2 fun ps H3=>Q ((x,y) :: ps) H3
noncomputable abbrev VV:List (V × V) -> List (Value × Value) -> Prop:=Paired fun p q=>RelV p.1 q.1 /\ RelV p.2 q.2
def PPs (X:Cx) (pos:Pos) (keys:List (Option Expr)) (values:List Expr) (trs:List (TE × TE)):Prop:=
 ∀ (pins:List (Addr × Obj)) (s:Shared) (σ:St) (H:Hp) (Q:List (V × V) -> Hp -> Prop),Inv X pins σ H s -> Ab trs σ H Q ->
  wpAny (model X.prog X.w) X.A (evalPairs (pairTrees keys values X.env pos)) (fun vs s'=>∃ ps H',Inv X pins σ H' s' /\ VV ps vs /\ Q ps H') X.xe s
theorem Hi  {pos:Pos}:PPs X pos [] [] []:=fun pins s σ H Q I h=>pairTrees_nil_walk ⟨[],H,I,.nil,h⟩
theorem E4  {pos:Pos}  {ks:List (Option Expr)}  {tk tv:TE}  (hk:PE X k tk) (hv:PE X v tv) (hr:PPs X pos ks vs trs) :
  PPs X pos (some k :: ks) (v :: vs) ((tk,tv) :: trs):=fun pins s σ H Q I h=>
 pairTrees_cons_walk (thn (hk pins s σ H _ I h) fun u s1 ⟨x,H1,I1,rx,q1⟩=>thn (hv pins s1 σ H1 _ I1 q1) fun w2 s2 ⟨y,H2,I2,ry,q2⟩=>
  thn (hr pins s2 σ H2 _ I2 q2) fun ws s3 ⟨ps,H3,I3,rel,q3⟩=>⟨(x,y) :: ps,H3,I3,.cons ⟨rx,ry⟩ rel,q3⟩)
section
variable {X:Cx} {pins:List (Addr × Obj)} {σ:St} {H:Hp} {s:Shared} {a:Addr} {y d:V} {u r:Value} {o:Option V} {A:Around} {E:Value -> Shared -> Prop}
end
section
variable {X:Cx} {o e f:Expr} {apos cpos:Pos} {td ty tx:TE}
end
end L2
namespace PySem
namespace DX
theorem uW:typeLookup (.type "list") "keys" = pure none:=by rw [typeLookup_type,builtinLookup_eq_fast];kernel_rfl
theorem zj:typeLookup (.type "list") "__getattr__" = pure none:=by rw [typeLookup_type,builtinLookup_eq_fast];kernel_rfl
theorem kM:isSubtype (.type "AttributeError") (.type "AttributeError") = pure true:=by rw [isSubtype_type];kernel_rfl
theorem yY:((Manifest.find? "AttributeError").elim false fun t=>t.mro.contains "StopIteration" || t.mro.contains "SystemExit") = false:=by first | rfl | kernel_rfl | decide +kernel
section
variable {prog:Program} {w:World} {A:Around} {E:Value -> Shared -> Prop} {s:Shared} {a:Addr} {its:Array Value} {n:Nat} {α:Type}
theorem CD {msg nm:Str}  (hh:A.handled = none) (hm:msg.length <= sizeLine) (hq:∀ h' tk' e oe,(∀ b o,s.heap.get? b = some o -> h'.get? b = some o) -> h'.get? e = some oe -> oe.cls = .type "AttributeError" -> E (.ref e) { s with heap:=h',toks:=tk' }) :
  wpAny (model prog w) A (raiseAttrError (.ref a) nm msg:Sem α) Q E s:=by
 unfold raiseAttrError
 refine wpAny_bind (wpAny_mkStr (wpAny_bind ?_) hm)
 unfold newExc newTuple
 refine wpAny_bind (wpAny_newObj_type ?_ (by size_fits))
 refine wpAny_bind (m:=firstArgMember _ _) (wpAny_of_eq (a:=Value.none) (by simp only [firstArgMember,yY];rfl) ?_)
 refine wpAny_newObj_type ?_ (by size_fits)
 refine wpAny_bind (wpAny_mkText ?_)
 refine wpAny_bind ?_
 have f1:=kM
 unfold noteAttr lacksNameAndObj
 have ho:=Heap.get?_push_size (s.heap.push { cls:=.type "tuple",data:=.seq [Value.str msg s.toks].toArray }) (o:={ cls:=.type "AttributeError",data:=.fields (#[.ref s.heap.objs.size,.none,.none,.none,.bool false,.none] ++ ownMembersOf (.type "AttributeError") [Value.str msg s.toks]) }) rfl
 have hT:({ s with heap:=(s.heap.push { cls:=.type "tuple",data:=.seq [Value.str msg s.toks].toArray }).push { cls:=.type "AttributeError",data:=.fields (#[.ref s.heap.objs.size,.none,.none,.none,.bool false,.none] ++ ownMembersOf (.type "AttributeError") [Value.str msg s.toks]) } }:Shared).TypeIs (.ref (s.heap.push { cls:=.type "tuple",data:=.seq [Value.str msg s.toks].toArray }).objs.size) "AttributeError" := ⟨_,ho,rfl⟩
 repeat (any_goals (first | assumption | wp_step))
 unfold raiseNew
 refine wpAny_bind (wpAny_handled ?_)
 rw [hh]
 first
  | refine wpAny_throw ?_
  | refine wpAny_bind (wpAny_pure (wpAny_throw ?_))
 have hu:=Heap.get?_update_self (Obj.mapFields fun vs=>vs.extract 0 6 ++ #[Value.str nm s.toks,.ref a]) ho (Obj.isFreed_of_fields (Obj.data_mapFields rfl _))
 refine hq _ _ _ _ (fun b o hb=>?_) (Heap.get?_update_self _ ho (Obj.isFreed_of_fields (Obj.data_mapFields rfl _))) (Obj.cls_mapFields _ _)
 rw [Heap.get?_update_other _ _ (Nat.ne_of_gt (Nat.lt_of_lt_of_le (Heap.lt_size hb) (by simp)))]
 exact Heap.get?_push_of_some _ (Heap.get?_push_of_some _ hb)
theorem oV {tk:Tok}  (hh:A.handled = none) (hx:s.heap.get? a = some { cls:=.type "list",data:=.seq its n }) (hq:∀ h' tk' e oe,(∀ b o,s.heap.get? b = some o -> h'.get? b = some o) -> h'.get? e = some oe -> oe.cls = .type "AttributeError" -> E (.ref e) { s with heap:=h',toks:=tk' }) :
  wpAny (model prog w) A (Builtin.«object.__getattribute__» ⟨[.ref a,.str "keys" tk],[]⟩) Q E s:=by
 obtain ⟨h,g,d,t,os⟩:=s
 have hT:(⟨h,g,d,t,os⟩:Shared).TypeIs (.ref a) "list" := ⟨_,hx,rfl⟩
 have f4:=uW
 repeat (any_goals (first | assumption | wp_step))
 all_goals (try dsimp only)
 repeat (any_goals (first | assumption | wp_step))
 exact CD hh (by rw [sizeLine_eq];decide +kernel) hq
theorem B7 {Q:Option Value -> Shared -> Prop} (hh:A.handled = none) (hx:s.heap.get? a = some { cls:=.type "list",data:=.seq its n }) (hq:∀ h' tk',(∀ b o,s.heap.get? b = some o -> h'.get? b = some o) -> Q none { s with heap:=h',toks:=tk' }) :
  wpAny (model prog w) A (getAttr? (.ref a) "keys") Q E s:=by
 obtain ⟨h,g,d,t,os⟩:=s
 have hT:(⟨h,g,d,t,os⟩:Shared).TypeIs (.ref a) "list" := ⟨_,hx,rfl⟩
 have f2:=F.slot_list_getattribute.lookup
 have f3:=F.slot_list_getattribute.bind (.ref a)
 have f5:=zj
 have f6:=kM
 unfold getAttr? getAttrBy? getAttrBy getAttrByItsOwn callGetattribute boundAndCalled
 repeat (any_goals (first | assumption | wp_step))
 refine codeAny_call_builtin F.slot_list_getattribute.plain F.entry_list_ga (F.slot_list_getattribute.check _ _ _ _ _ _ _ _ hT (F.args_list_getattribute_2 _ _) (oV (by exact hh) hx fun h' tk' e oe hk he hc=>?_))
 have hTe:(⟨h',g,d,tk',os⟩:Shared).TypeIs (.ref e) "AttributeError" := ⟨oe,he,hc⟩
 dsimp only
 unfold getattributeRaised
 refine wpAny_bind (wpAny_isInstance (T := "AttributeError") (b:=true) hTe f6 ?_)
 rw [if_pos rfl]
 refine wpAny_bind ?_
 unfold hookBehind
 rw [if_neg (by decide)]
 refine wpAny_of_eq f5 ?_
 unfold hookOrError
 dsimp only
 unfold attributeErrorLeaves
 simp only [Bool.not_false,if_true]
 first
  | refine wpAny_throw ?_
  | refine wpAny_bind (wpAny_throw ?_)
 refine wpAny_bind (wpAny_isInstance (T := "AttributeError") (b:=true) hTe f6 ?_)
 rw [if_pos rfl]
 exact wpAny_pure (hq h' tk' hk)
end
theorem pY:entryFor table "dict.update.loop" = some Builtin.«dict.update.loop»:=entryFor_of_tree (by kernel_rfl)
theorem iU:plainId "dict.update.loop" = true:=by decide +kernel
end DX
end PySem
namespace L2
open PySem PySem.Spec PyProof.Rows
section
variable {X:Cx} {pins:List (Addr × Obj)} {σ:St} {H:Hp} {s:Shared} {a b:Addr} {kvs:List (List Key × V)} {k:List Key} {v:V} {r:Value} {A:Around} {E:Value -> Shared -> Prop}
theorem Aw {Q:Unit -> Shared -> Prop} (hu:(tupleKind (aY X.prog X.w)).room A) (I:Inv X pins σ H s) (e:H a = some (.dT kvs)) (eb:H b = some (.tup (k.map kV))) (l:kvs.length < sizeLine) (rv:RelV v r)
  (h:∀ s',Inv X pins σ (upd H a (.dT (gb kvs k v))) s' -> Q () s'):wpAny (model X.prog X.w) A (dictSet a (.ref b) r) Q E s:=by
 obtain ⟨z,hd,xs,rel,dd⟩:=DK I.hok e
 have hz:xs.length <= sizeLine:=by rw [<- Paired.length rel];exact z
 have hl:(gb kvs k v).length <= sizeLine:=by have:=gy kvs k v;lia
 refine wpAny_dictSet_heap (hsz:=hz) hu (uU I.hok eb) dd fun h' dd' hs=>h _ ?_
 obtain ⟨q,es,ep,hq,h2,h3,h4,_,h5⟩:=dd'
 refine uE I (by rw [e];exact True.intro) hs ⟨q,hq⟩ ⟨hl,hd,_,(rel.put k eb rv).keeps fun c ys ec=>?_,q,es,ep,hq,h2,h3,h4,h5⟩
 rw [aw (AJ ec e (fun z=>nomatch z))]
 exact ec
end
noncomputable def Aa (tk tv:TE):TE:=fun σ H Q=>∀ p,H p = none -> Ab [(tk,tv)] σ (upd H p (.dT [])) fun ps H2=>∃ b ks y,ps = [(V.ref b,y)] /\ H2 b = some (.tup (ks.map kV)) /\ H2 p = some (.dT []) /\ Q (.ref p) (upd H2 p (.dT [(ks,y)]))
theorem EN {X:Cx} {pos:Pos}  {tk tv:TE} (hu:(tupleKind (aY X.prog X.w)).room X.A) (hk:PE X k tk) (hv:PE X v tv):PE X (.Dict [some k] [v] pos) (Aa tk tv):=by
 intro pins s σ H Q I q
 have hn:=I.hok.fresh (Nat.le_refl s.heap.objs.size)
 have I1:=I.laid (a:=s.heap.objs.size) (o:=.dT []) (h':=s.heap.push { cls:=.type "dict",data:=.dict #[] }) (t':=s.toks) (fun _ _ q=>Heap.get?_push_of_some _ q) (Nat.le_refl _) (wK s.heap I.big)
 have hne:pairTrees [some k] [v] X.env pos ≠ []:=fun e=>by
  have:=pairTrees_length [some k] [v] X.env pos rfl rfl
  rw [e] at this
  cases this
 have hlen:(pairTrees [some k] [v] X.env pos).length <= 15:=by rw [pairTrees_length [some k] [v] X.env pos rfl rfl];show 1 <= 15;decide
 rw [arm_eval_Dict,zip_pairTrees [some k] [v] X.env pos rfl rfl,dictDisplay_pairs _ hne (by lia)]
 refine wpAny_bind (wpAny_standAt (wpAny_bind ?_))
 unfold subDict
 refine wpAny_bind (wpAny_alloc ?_)
 refine wpAny_bind (wpAny_holding ?_)
 rw [if_pos hlen]
 refine wpAny_bind (thn (E4 hk hv Hi pins _ σ _ _ I1 (q _ hn)) fun ws s2 h2=>?_)
 obtain ⟨ps,H2,I2,rel,b,ks,y,rfl,eb,ep,q2⟩:=h2
 cases rel with
 | @cons _ u _ _ r1 r2=>
  cases r2
  obtain ⟨u1,u2⟩:=u
  cases (show u1 = Value.ref b from r1.1)
  refine wpAny_holding ?_
  refine wpAny_bind ?_
  rw [List.forIn_cons]
  refine wpAny_bind (wpAny_bind (Aw hu I2 ep eb (by show 0 < sizeLine;rw [sizeLine_eq];decide) r1.2 fun s' I'=>wpAny_pure ?_))
  dsimp only
  rw [List.forIn_nil]
  refine wpAny_pure (wpAny_pure (wpAny_pure (wpAny_pure ⟨.ref s.heap.objs.size,_,I',rfl,?_⟩)))
  have:gb ([]:List (List Key × V)) ks y = [(ks,y)]:=xW y rfl
  rw [this]
  exact q2
noncomputable def jN (kvs:List (List Key × V)) (es:List (List Key × V)):List (List Key × V):=es.foldl (fun acc kv=>gb acc kv.1 kv.2) kvs
noncomputable def rUpd:V -> List V -> Hp -> VK -> Prop:=fun x vs H Q=>∃ a l kvs,∃ es:List (Addr × Addr × List Key × V),x = .ref a /\ vs = [.ref l] /\ H a = some (.dT kvs) /\ H l = some (.lst (es.map fun e=>.ref e.1)) /\ (∀ e ∈ es,H e.1 = some (.tup [.ref e.2.1,e.2.2.2]) /\ H e.2.1 = some (.tup (e.2.2.1.map kV))) /\
 kvs.length + es.length < sizeLine /\ Q .non (upd H a (.dT (jN kvs (es.map fun e=>(e.2.2.1,e.2.2.2)))))
section
variable {X:Cx} {pins:List (Addr × Obj)} {σ:St} {A:Around} {a l it:Addr} {xs:List V}
theorem yr {R:Result -> Shared -> Prop} (hu:(tupleKind (aY X.prog X.w)).room A.in1) (hh:A.in1.handled = none):∀ (es:List (Addr × Addr × List Key × V)) (i:Nat) (kvs:List (List Key × V)) (H:Hp) (s:Shared),Inv X pins σ H s -> H a = some (.dT kvs) ->
  pJ X pins H it -> s.heap.IsListIter it l i -> H l = some (.lst xs) -> xs.drop i = es.map (fun e=>V.ref e.1) -> (∀ e ∈ es,H e.1 = some (.tup [.ref e.2.1,e.2.2.2]) /\ H e.2.1 = some (.tup (e.2.2.1.map kV))) -> kvs.length + es.length < sizeLine ->
  (∀ s',Inv X pins σ (upd H a (.dT (jN kvs (es.map fun e=>(e.2.2.1,e.2.2.2))))) s' -> R (.ok (.ret .none)) s') ->
  codeAny (model X.prog X.w) A (.builtin "dict.update.loop" ⟨[.ref a,.ref it,rawInt i,.none],[]⟩) R s
 | [],i,kvs,H,s,I,ea,fo,hit,el,hd,_,_,hR=>by
  obtain ⟨its,rl,pl,_⟩:=I.list (.inl (.inl el))
  have hx:its.toArray[i]? = none:=by
   have h1:xs.length <= i:=by
    have:=congrArg List.length hd
    rw [List.length_drop] at this
    simpa [Nat.sub_eq_zero_iff_le] using this
   have:=rl.length
   simp
   lia
  refine codeAny_builtin DX.pY ?_
  rw [Around.under_plainId DX.iU _]
  show wpAny _ A.in1 (pyNext (.ref it) >>= _) _ _ s
  refine wpAny_bind (wpAny_pyNext_list_end hh hit pl.isList hx fun h' he=>?_)
  show wpAny _ A.in1 (Builtin.Dict.addKeywords a [] >>= _) _ _ _
  refine wpAny_bind (wpAny_pure (wpAny_pure (hR _ ?_)))
  have e0:upd H a (.dT (jN kvs (([]:List (Addr × Addr × List Key × V)).map fun e=>(e.2.2.1,e.2.2.2)))) = H:=by
   funext c
   unfold upd
   split
   ·rename_i z;rw [z,ea];rfl
   ·rfl
  rw [e0]
  exact I.turned (t':=s.toks) (it:=it) (fun b o hb e=>he b o hb e) fo.1 fo.2.1 fo.2.2.2.1 fo.2.2.2.2.1 fo.2.2.2.2.2
 | e :: es,i,kvs,H,s,I,ea,fo,hit,el,hd,he,hl,hR=>by
  obtain ⟨its,rl,pl,_⟩:=I.list (.inl (.inl el))
  obtain ⟨e1,e2⟩:=he e List.mem_cons_self
  have hxi:xs[i]? = some (V.ref e.1):=by
   have:=congrArg (fun l:List V=>l[0]?) hd
   simpa [List.getElem?_drop] using this
  obtain ⟨u,hui,ru⟩:=rl.get hxi
  cases (show u = Value.ref e.1 from ru)
  refine codeAny_builtin DX.pY ?_
  rw [Around.under_plainId DX.iU _]
  show wpAny _ A.in1 (pyNext (.ref it) >>= _) _ _ s
  refine wpAny_bind (wpAny_pyNext_list_item hit pl.isList (x:=.ref e.1) (by simpa using hui) fun h' hit' hs=>?_)
  have I1:Inv X pins σ H { s with heap:=h' }:=I.turned (t':=s.toks) (it:=it) (fun b o hb e=>hs.extBut b o hb e) fo.1 fo.2.1 fo.2.2.2.1 fo.2.2.2.2.1 fo.2.2.2.2.2
  have P1:=I1.pinned (fp:=[it]) (fun b hb=>by rw [List.mem_singleton.mp hb];exact fo) (fun b hb=>by
   rw [List.mem_singleton.mp hb]
   obtain ⟨o,ho,_,hd⟩:=hit'
   exact ⟨o,ho,fun v z=>by rw [hd] at z;cases z⟩)
  obtain ⟨its2,rl2,pl2,_⟩:=I1.tuple (.inl (.inl e1))
  obtain ⟨u1,u2,e3,r1,r2⟩:=Vals.two rl2
  subst e3
  cases (show u1 = Value.ref e.2.1 from r1)
  have body:wpAny (model X.prog X.w) A.in1 (dictSet a (.ref e.2.1) u2) (fun _ s'=>Inv X (pins ++ nQ [it] h') σ (upd H a (.dT (gb kvs e.2.2.1 e.2.2.2))) s') (fun e s'=>R (.error e) s') { s with heap:=h' }:=
   Aw hu P1 ea e2 (by rw [List.length_cons] at hl;lia) r2 fun s' I'=>I'
  refine wpAny_bind (wpAny_holding (wpAny_bind ?_))
  refine wpAny_tryCatch (m:=Builtin.Dict.pairItems (.ref e.1)) ?_
  obtain ⟨ot,hot,hct,nt,hdt⟩:=pl2
  unfold Builtin.Dict.pairItems
  refine wpAny_bind (wpAny_typeOf (T := "tuple") ⟨ot,hot,hct⟩ ?_)
  rw [if_pos (by decide)]
  refine wpAny_bind (wpAny_seqItems hot hdt (wpAny_pure ?_))
  show wpAny _ A.in1 (holding [.ref e.2.1,u2] (dictSet a (.ref e.2.1) u2)) _ _ _
  refine wpAny_holding (wpAny_mono body (fun _ s' I'=>?_) fun _ _ z=>z)
  have na:it ≠ a:=fun z=>by have f0:=fo.1;rw [z,ea] at f0;cases f0
  have nl:l ≠ a:=AJ el ea (fun z=>nomatch z)
  refine wpAny_pure ⟨plainId_quiet DX.iU _,?_⟩
  show codeAny (model X.prog X.w) A (.builtin "dict.update.loop" ⟨[.ref a,.ref it,rawInt ((i + 1:Nat):Int),.none],[]⟩) R s'
  have tn:∀ c ys,H c = some (.tup ys) -> upd H a (.dT (gb kvs e.2.2.1 e.2.2.2)) c = some (.tup ys):=fun c ys z=>by rw [aw (AJ z ea (fun z=>nomatch z))];exact z
  refine yr hu hh es (i + 1) (gb kvs e.2.2.1 e.2.2.2) _ s' I'.unpinned av ⟨by rw [aw na];exact fo.1,fo.2⟩ ?_ (by rw [aw nl];exact el) ?_ (fun e' h'=>?_) ?_ fun s2 I2=>hR s2 ?_
  ·obtain ⟨o,ho,hc2,hd2⟩:=hit'
   exact ⟨o,(I'.pin (it,o) (List.mem_append_right _ (List.mem_append_right _ (fN (List.mem_singleton.mpr rfl) ho)))).1,hc2,hd2⟩
  ·have:=congrArg List.tail hd
   rw [List.tail_drop] at this
   exact this
  ·obtain ⟨z1,z2⟩:=he e' (List.mem_cons_of_mem _ h')
   exact ⟨tn _ _ z1,tn _ _ z2⟩
  ·have:=gy kvs e.2.2.1 e.2.2.2
   rw [List.length_cons] at hl
   lia
  ·rw [HL] at I2
   exact I2
theorem Cj (hu:(tupleKind (aY X.prog X.w)).room X.A.in1) (hc:X.calm = true):MtR X "dict.update" rUpd:=by
 intro pins s σ H x vs v us Q I rx rv h
 obtain ⟨a,l,kvs,es,rfl,rfl,ea,el,he,hl,q⟩:=h
 cases (show v = Value.ref a from rx)
 obtain ⟨u,rfl,ru⟩:=rv.one
 cases (show u = Value.ref l from ru)
 obtain ⟨z,hd,xs,rel,dd⟩:=DK I.hok ea
 obtain ⟨oa,esd,epd,hoa,hxa,_⟩:=id dd
 have hTa:s.TypeIs (.ref a) "dict" := ⟨oa,hoa,hxa.1⟩
 obtain ⟨hll,its,n,rl,hol⟩:=(show ObjOk X.prog X.w H s.heap l (.lst (es.map fun e=>V.ref e.1)) from I.hok l _ el)
 have hTl:s.TypeIs (.ref l) "list" := ⟨_,hol,rfl⟩
 have hh:X.A.in1.handled = none:=I.ok.hd hc
 refine wpAny_call (codeAny_call_builtin F.slot_dict_update.plain F.entry_dict_update (F.slot_dict_update.check _ _ _ _ _ _ _ _ hTa (F.args_dict_update_2 _ _) ?_))
 unfold Builtin.«dict.update»
 refine wpAny_bind ?_
 unfold Builtin.Dict.selfAndRest
 refine wpAny_bind (wpAny_notOrdered_dict hTa ?_)
 show wpAny _ _ (pure (a,[Value.ref l])) _ _ s
 refine wpAny_pure ?_
 show wpAny _ _ (Builtin.Dict.updateFrom "dict.update" a (.ref l) [] .none) _ _ s
 unfold Builtin.Dict.updateFrom
 refine wpAny_bind (wpAny_typeOf hTl ?_)
 rw [if_pos (by decide)]
 refine wpAny_bind (DX.B7 hh hol fun h' tk' hk=>?_)
 rw [if_pos (show (none:Option Value).isNone = true from rfl)]
 refine wpAny_bind (wpAny_rule ?_)
 have I1:Inv X pins σ H { s with heap:=h',toks:=tk' }:=I.kept (t':=tk') hk
 obtain ⟨its1,rl1,pl1,_⟩:=I1.list (.inl (.inl el))
 refine wpAny_bind (wpAny_pyIter_list pl1.isList ?_)
 have I2:Inv X pins σ H { s with heap:=h'.push { cls:=.type "list_iterator",data:=.fields #[.ref l,.int 0 0] },toks:=tk' }:=I1.kept (t':=tk') fun b o e=>Heap.get?_push_of_some _ e
 refine wpAny_pure ⟨plainId_quiet DX.iU _,?_⟩
 refine yr (xs:=es.map fun e=>V.ref e.1) (pins:=pins) (σ:=σ) hu hh es 0 kvs H _ I2 ea (I1.fpOk (Nat.le_refl _) (I1.hok.fresh (Nat.le_refl _))) ⟨_,Heap.get?_push_size _ rfl,rfl,rfl⟩ el (by rw [List.drop_zero]) he hl fun s' I'=>?_
 exact ⟨.non,_,I',rfl,q⟩
end
theorem un1 {A:Around} (h:A.units + 64 < cLine):A.units + 1 < cLine:=Nat.lt_of_le_of_lt (Nat.add_le_add_left (by decide) _) h
theorem Kd   {A:Around} (h:A.units + 64 < cLine):(tupleKind (aY P w)).room A:=Nat.lt_of_succ_lt (un1 h)
theorem Ht   {A:Around} (h:A.units + 64 < cLine):(tupleKind (aY P w)).room A.in1:=tupleKind_room_in1 (un1 h)
end L2
namespace M
open PySem L2
section
variable {K:W.Frag} {S S' H H':Hp}
theorem FU {l:List D}  (h:Den K S (.tup l) v):∃ p xs,v = .ref p /\ S p = some (.tup xs) /\ Dens K S l xs:=by
 obtain ⟨p,xs,e,h1,h2⟩:=den_tup.mp h
 exact ⟨p,xs,e,h1,h2⟩
noncomputable def kyD:D -> Option (List Int)
 | .tup l=>bi l
 | _=>none
noncomputable abbrev kI (k:List Int):List Key:=k.map Sum.inl
theorem Ng (k:List Int):(kI k).map kV = k.map V.int:=by rw [List.map_map];rfl
theorem JB  (h:kI a = kI b):a = b:=by
 induction a generalizing b with
 | nil=>cases b with
  | nil=>rfl
  | cons _ _=>cases h
 | cons x a ih=>cases b with
  | nil=>cases h
  | cons y b=>
   injection h with h1 h2
   injection h1 with h1
   rw [h1,ih h2]
theorem uT  {k:List Int}  (h:Den K S d v) (e:kyD d = some k):∃ p,v = .ref p /\ S p = some (.tup ((kI k).map kV)):=by
 cases d <;> try (cases e;done)
 obtain ⟨p,xs,rfl,h1,h2⟩:=FU h
 obtain ⟨rfl,_⟩:=j4 h2 e
 exact ⟨p,rfl,by rw [Ng];exact h1⟩
theorem pD (q:List Int):∀ ks:List (List Int),(km (cX ks) (kI q)).isSome = ks.contains q
 | []=>rfl
 | k :: ks=>by
  have ih:=pD q ks
  by_cases h:k = q
  ·subst h
   show (km ((kI k,V.bl true) :: cX ks) (kI k)).isSome = _
   rw [mU rfl]
   simp
  ·show (km ((kI k,V.bl true) :: cX ks) (kI q)).isSome = _
   rw [mS (fun z=>h (JB z)),ih]
   rw [List.contains_cons]
   have:(q == k) = false:=by simpa using fun z=>h z.symm
   rw [this,Bool.false_or]
noncomputable def jk (ks:List (List Int)) (q:List Int):List (List Int):=if ks.contains q then ks else ks ++ [q]
theorem DJ (a b:List (List Int)):cX (a ++ b) = cX a ++ cX b:=by unfold cX;rw [List.map_append]
theorem AW (ks:List (List Int)) (q:List Int):gb (cX ks) (kI q) (.bl true) = cX (jk ks q):=by
 unfold jk
 cases h:ks.contains q with
 | false=>
  have hv:km (cX ks) (kI q) = none:=by
   have:=pD q ks
   rw [h] at this
   cases z:km (cX ks) (kI q) with
   | none=>rfl
   | some _=>rw [z] at this;cases this
  rw [xW _ hv,if_neg (by decide),DJ]
  rfl
 | true=>
  rw [if_pos rfl]
  have ha:((cX ks).any fun kv=>decide (kv.1 = kI q)) = true:=by rw [mR,pD,h]
  unfold gb
  rw [if_pos ha]
  unfold cX
  rw [List.map_map]
  refine List.map_congr_left fun k _=>?_
  show (if kI k = kI q then (kI k,V.bl true) else (kI k,V.bl true)) = _
  split <;> rfl
theorem rk:∀ (qs ks:List (List Int)),jN (cX ks) (qs.map fun q=>(kI q,V.bl true)) = cX (qs.foldl jk ks)
 | [],ks=>rfl
 | q :: qs,ks=>by
  show jN (gb (cX ks) (kI q) (.bl true)) (qs.map fun q=>(kI q,V.bl true)) = _
  rw [AW,rk qs]
  rfl
theorem wI (ks:List (List Int)):(cX ks).length = ks.length:=List.length_map _
theorem Ext.setOwn {H1:Hp}   (z:Ext S H S1 H1) (hp:H p = none) (hs:S1 p = none):Ext S H S1 (upd H1 p o):=
 ⟨z.sh,fun b u hb=>by rw [aw fun e=>by subst e;rw [hs] at hb;cases hb];exact z.sub b u hb,fun b u hb hn=>by
  obtain ⟨c1,c2⟩:=z.alw b u hb hn
  exact ⟨by rw [aw fun e=>by subst e;rw [hp] at hb;cases hb];exact c1,c2⟩⟩
@[simp] noncomputable def yt (k:XE):Env -> Option O:=fun ρ=>(k ρ).bind fun d=>(kyD d).map fun q=>.dic [q]
theorem Kl {tk:TE}  (h:SE K tk k):STr K (Aa tk (tC (.bl true))) (yt k):=fun ρ σ S H Q o r x c=>by
 unfold yt at x
 cases qk:k ρ with
 | none=>rw [qk] at x;cases x
 | some d=>
  rw [qk] at x
  dsimp only [Option.bind] at x
  cases qd:kyD d with
  | none=>rw [qd] at x;cases x
  | some q=>
   rw [qd] at x
   cases x
   intro p hp
   have z:Ext S H S (upd H p (.dT [])):=Ext.own r.sub hp
   refine h ρ σ S _ _ d (r.ext z) qk fun v S1 H1 z1 d1=>?_
   obtain ⟨b,rfl,hb⟩:=uT d1 qd
   obtain ⟨a1,a2⟩:=z1.al p _ av (r.sub.free hp)
   refine ⟨b,kI q,.bl true,rfl,z1.sub b _ hb,a1,?_⟩
   exact c (.ref p) [p] S1 _ ((z.trans z1).setOwn hp a2) (own_dic.mpr ⟨p,rfl,rfl,av⟩) (List.nodup_cons.mpr ⟨by simp,List.nodup_nil⟩) fun c' hc=>by rw [List.mem_singleton.mp hc];exact ⟨hp,a2⟩
@[simp] noncomputable def IH:Env -> Option O:=fun _=>some (.dic [])
theorem Kj:STr K FN IH:=fun ρ σ S H Q o r x c=>by
 cases x
 intro p hp
 exact c (.ref p) [p] S _ (Ext.own r.sub hp) (own_dic.mpr ⟨p,rfl,rfl,av⟩) (List.nodup_cons.mpr ⟨by simp,List.nodup_nil⟩) fun c' hc=>by rw [List.mem_singleton.mp hc];exact ⟨hp,r.sub.free hp⟩
noncomputable def tz (ρ:Env) (i:Nat):Option (List (List Int)):=match ρ[i]? with
 | some (.ow (.dic ks))=>some ks
 | some (.sh (.dic ks))=>some ks
 | some (.sh (.dif ks))=>some ks
 | some (.ow (.hd _ ks []))=>some ks
 | _=>none
theorem Jj   {i:Nat} {ks:List (List Int)} (r:Rl K ρ σ S H) (h:tz ρ i = some ks):∃ a,σ[i]? = some (some (.ref a)) /\ Rd H a (.dT (cX ks)):=by
 unfold tz at h
 split at h
 ·rename_i ks' q
  cases h
  obtain ⟨v,fp,e,ow,_⟩:=r.ow i _ q
  obtain ⟨a,rfl,_,ha⟩:=own_dic.mp ow
  exact ⟨a,e,.inl ha⟩
 ·rename_i ks' q
  cases h
  obtain ⟨v,e,dv⟩:=r.sh i _ q
  obtain ⟨a,rfl,ha⟩:=den_dic.mp dv
  exact ⟨a,e,bS r.sub ha⟩
 ·rename_i ks' q
  cases h
  obtain ⟨v,e,dv⟩:=r.sh i _ q
  obtain ⟨a,o,rfl,ha⟩:=den_dif.mp dv
  exact ⟨a,e,.inr ⟨o,r.sub _ _ ha⟩⟩
 ·rename_i p ks' q
  cases h
  obtain ⟨v,fp,e,ow,_⟩:=r.ow i _ q
  obtain ⟨xs,f,rfl,_,ha,ho⟩:=own_hd.mp ow
  rw [ho.nil_of.1] at e
  exact ⟨p,e,.inl ha⟩
 ·cases h
@[simp] noncomputable def C6 (neg:Bool) (k:XE) (i:Nat):XE:=fun ρ=>(k ρ).bind fun d=>(kyD d).bind fun q=>(tz ρ i).map fun ks=>.bl (if neg then !(ks.contains q) else ks.contains q)
theorem yb {tk:TE}  {i:Nat} (h:SE K tk k):SE K (A4 tk (lV i)) (C6 true k i):=fun ρ σ S H Q g r x c=>by
 unfold C6 at x
 cases qk:k ρ with
 | none=>rw [qk] at x;cases x
 | some d=>
  rw [qk] at x
  dsimp only [Option.bind] at x
  cases qd:kyD d with
  | none=>rw [qd] at x;cases x
  | some q=>
   rw [qd] at x
   dsimp only at x
   cases qi:tz ρ i with
   | none=>rw [qi] at x;cases x
   | some ks=>
    rw [qi] at x
    cases x
    refine h ρ σ S H _ d r qk fun v S1 H1 z1 d1=>?_
    obtain ⟨b,rfl,hb⟩:=uT d1 qd
    obtain ⟨a,e1,ha⟩:=Jj (r.ext z1) qi
    refine ⟨.ref a,e1,a,_,rfl,.inr ⟨_,kI q,b,ha,rfl,z1.sub b _ hb,rfl⟩,c _ S1 H1 z1 ?_⟩
    rw [pD]
    exact den_bl.mpr rfl
theorem RlF.dic      {i:Nat} {ks:List (List Int)} (f:RlF K A Λ Φ ρ σ S H) (h:ρ[i]? = some (.ow (.dic ks))) :
  ∃ a,σ[i]? = some (some (.ref a)) /\ H a = some (.dT (cX ks)) /\ ∀ ks',RlA K A Λ (ρ.set i (.ow (.dic ks'))) σ S (upd H a (.dT (cX ks'))):=by
 obtain ⟨v,ev,ow,nd,n⟩:=f.ow i _ h
 obtain ⟨a,rfl,hfp,ha⟩:=own_dic.mp ow
 have ain:a ∈ Φ i:=by rw [hfp];exact List.mem_cons_self
 refine ⟨a,ev,ha,fun ks'=>?_⟩
 have ne:∀ b,b ≠ a -> upd H a (.dT (cX ks')) b = H b:=fun b hb=>aw hb
 have sub':Same S (upd H a (.dT (cX ks'))):=fun b u e=>by rw [ne b fun z=>by subst z;rw [(n b ain).1] at e;cases e];exact f.sub b u e
 have asub':Same A (upd H a (.dT (cX ks'))):=fun b u e=>by rw [ne b fun z=>by subst z;rw [(n b ain).2] at e;cases e];exact f.asub b u e
 have fin:=f.put (H':=upd H a (.dT (cX ks'))) i sub' asub' (own_dic.mpr ⟨a,rfl,rfl,av⟩) (List.nodup_cons.mpr ⟨by simp,List.nodup_nil⟩) (fun b hb=>by rw [List.mem_singleton.mp hb];exact n a ain) fun j o' hj e1 b hb=>by
  have nb:b ∉ Φ i:=fun z=>f.dj j i o' _ hj e1 h b hb z
  exact ⟨ne b fun z=>nb (z ▸ ain),fun z=>nb (by rw [List.mem_singleton.mp z];exact ain)⟩
 rw [ye ev] at fin
 exact ⟨_,fin⟩
@[simp] noncomputable def F7 (i:Nat) (k:XE):XS:=fun ρ=>match ρ[i]? with
 | some (.ow (.dic ks))=>(k ρ).bind fun d=>(kyD d).bind fun q=>if ks.length < LIM then some (.nx (ρ.set i (.ow (.dic (jk ks q))))) else none
 | _=>none
theorem Ks {tk:TE}  {i:Nat} (h:SE K tk k):SS K (Iz (lV i) tk (tC (.bl true))) (F7 i k):=fun A Λ ρ σ S H E o r x c=>by
 unfold F7 at x
 split at x <;> try (cases x;done)
 rename_i ks q0
 cases qk:k ρ with
 | none=>rw [qk] at x;cases x
 | some d=>
  rw [qk] at x
  dsimp only [Option.bind] at x
  cases qd:kyD d with
  | none=>rw [qd] at x;cases x
  | some q=>
   rw [qd] at x
   dsimp only at x
   split at x <;> try (cases x;done)
   rename_i hl
   cases x
   obtain ⟨Φ,f⟩:=r
   obtain ⟨a,ev,_,_⟩:=f.dic q0
   refine ⟨.ref a,ev,h ρ σ S H _ d ⟨A,Λ,Φ,f⟩ qk fun v S1 H1 z1 d1=>?_⟩
   obtain ⟨b,rfl,hb⟩:=uT d1 qd
   obtain ⟨a',ev',ha,up⟩:=(f.ext z1).dic q0
   rw [ev] at ev'
   cases ev'
   refine ⟨a,_,rfl,.inr ⟨_,kI q,b,ha,rfl,z1.sub b _ hb,?_,rfl⟩,?_⟩
   ·rw [wI];exact Nat.lt_trans hl fK
   ·rw [AW]
    exact c σ S1 _ (up _) z1.sh
noncomputable def gK:List D -> Option (List (List Int))
 | []=>some []
 | .tup [d,.bl true] :: l=>(kyD d).bind fun q=>(gK l).map fun qs=>q :: qs
 | _=>none
theorem xP  (s:Same S H):∀ {l:List D} {xs:List V} {qs:List (List Int)},Dens K S l xs -> gK l = some qs ->
  ∃ es:List (Addr × Addr × List Key × V),xs = es.map (fun e=>V.ref e.1) /\ (∀ e ∈ es,H e.1 = some (.tup [.ref e.2.1,e.2.2.2]) /\ H e.2.1 = some (.tup (e.2.2.1.map kV))) /\ es.map (fun e=>(e.2.2.1,e.2.2.2)) = qs.map fun q=>(kI q,V.bl true)
 | [],xs,qs,h,e=>by
  cases e
  exact ⟨[],h.nil_of,(fun e he=>by cases he),rfl⟩
 | d :: l,xs,qs,h,e=>by
  obtain ⟨y,ys,rfl,h1,h2⟩:=h.cons_of
  unfold gK at e
  split at e <;> try (cases e;done)
  ·rename_i hh;cases hh
  ·rename_i d0 l0 hh
   injection hh with hh1 hh2
   subst hh1 hh2
   cases qd:kyD d0 with
   | none=>rw [qd] at e;cases e
   | some q=>
    rw [qd] at e
    dsimp only [Option.bind] at e
    cases ql:gK l with
    | none=>rw [ql] at e;cases e
    | some qs'=>
     rw [ql] at e
     cases e
     obtain ⟨es,e1,e2,e3⟩:=xP s h2 ql
     obtain ⟨t,zs,rfl,ht,hz⟩:=FU h1
     obtain ⟨y1,r1,rfl,k1,hz⟩:=hz.cons_of
     obtain ⟨y2,r2,rfl,k2,hz⟩:=hz.cons_of
     have:=hz.nil_of
     subst this
     obtain ⟨b,rfl,hb⟩:=uT k1 qd
     have:=den_bl.mp k2
     subst this
     refine ⟨(t,b,kI q,.bl true) :: es,by rw [e1];rfl,fun e he=>?_,by rw [List.map_cons,e3];rfl⟩
     rcases List.mem_cons.mp he with rfl | he
     ·exact ⟨s t _ ht,s b _ hb⟩
     ·exact e2 e he
@[simp] noncomputable def Bg (i:Nat) (e:XA):XS:=fun ρ=>match ρ[i]? with
 | some (.ow (.dic ks))=>(e ρ).bind fun l=>(gK l).bind fun qs=>if ks.length + l.length < LIM then some (.nx (ρ.set i (.ow (.dic (qs.foldl jk ks))))) else none
 | _=>none
theorem Kz {te:TE}  {i:Nat} (h:SF K te e):SS K (rT (tBM K "dict" rUpd (lV i) (ig te rV))) (Bg i e):=fun A Λ ρ σ S H E o r x c=>by
 unfold Bg at x
 split at x <;> try (cases x;done)
 rename_i ks q0
 cases qe:e ρ with
 | none=>rw [qe] at x;cases x
 | some l=>
  rw [qe] at x
  dsimp only [Option.bind] at x
  cases qp:gK l with
  | none=>rw [qp] at x;cases x
  | some qs=>
   rw [qp] at x
   dsimp only at x
   split at x <;> try (cases x;done)
   rename_i hl
   cases x
   obtain ⟨Φ,f⟩:=r
   obtain ⟨a,ev,ha0,_⟩:=f.dic q0
   refine ⟨.ref a,ev,.inr (.inr (.inl ⟨rfl,.inr ⟨_,ha0⟩⟩)),h ρ σ S H _ l ⟨A,Λ,Φ,f⟩ qe fun p xs S1 H1 z1 hp hs1 hp1 d1=>?_⟩
   obtain ⟨es,e1,e2,e3⟩:=xP z1.sub d1 qp
   obtain ⟨a',ev',ha,up⟩:=(f.ext z1).dic q0
   rw [ev] at ev'
   cases ev'
   refine ⟨a,p,_,es,rfl,rfl,ha,by rw [<- e1];exact hp1,e2,?_,?_⟩
   ·have:=d1.length
    rw [wI]
    have e4:es.length = xs.length:=by rw [e1,List.length_map]
    exact Nat.lt_trans (by lia) fK
   ·rw [e3,rk]
    exact c σ S1 _ (up _) z1.sh
theorem Nz   (h:SE K t e):ST K (tB t) (xB e):=fun ρ σ S H Q b r x c=>by
 unfold xB at x
 cases q:e ρ with
 | none=>rw [q] at x;cases x
 | some d=>
  rw [q] at x
  cases d <;> try (cases x;done)
  cases x
  refine h ρ σ S H _ _ r q fun v S1 H1 z1 d1=>?_
  exact ⟨_,den_bl.mp d1,c S1 H1 z1⟩
end
end M
namespace L2
open PySem PySem.Spec PyProof.Rows M
section
variable {X:Cx}
end
end L2
namespace M
open PySem L2
section
variable {K:W.Frag}
end
end M
namespace L2
open PySem PySem.Spec PyProof.Rows
noncomputable def IL (a c:Int) (n:Nat):It:=⟨fun i _=>i < n,fun i H x H'=>H' = H /\ x = .int (a + i * c),fun i _=>n <= i⟩
noncomputable def Ii (ta:TA):TI:=fun σ H R=>ta σ H fun vs H1=>∃ a j c:Int,vs = [.int a,.int j,.int c] /\ c ≠ 0 /\ (-1000000 < c /\ c < 1000000) /\ Builtin.Range.small a j c = true /\ R (IL a c (Builtin.Range.rangeSize a j c).toNat) H1
section
variable {X:Cx} {tg:Expr}
theorem CY {P:Program} {w:World} {K:W.Frag} (it:Addr) (a c:Int) (n:Nat):Turn P w K tg (IL a c n) [it] it (fun i h=>IsRangeIter h it (a + (i:Nat) * c) ((n:Int) - (i:Nat)) c) where
 mem:=by simp
 obj:=fun i h st b hb=>by
  rw [List.mem_singleton.mp hb]
  exact ⟨_,st,fun v z=>by have z':Data.fields _ = Data.cell v:=z;cases z'⟩
 keep:=fun i h h' st k=>k it (by simp) _ st
 item:=by
  intro X hP hw hK hc i pins s σ H E I hf st hg
  subst hP hw hK
  obtain ⟨f0,f1,f2,f3,f4,f5⟩:=hf it (by simp)
  refine (Walks.range (prog:=X.prog) (w:=X.w) (I.ok.hd hc) it a c n).item i s _ _ hg st fun v h' tk hv st' kk=>?_
  obtain ⟨t,rfl⟩:=hv
  have I1:Inv X pins σ H { s with heap:=h',toks:=tk }:=I.turned (fun b o hb e=>kk b o (fun z=>hb (List.mem_singleton.mp z)) e) f0 f1 f3 f4 f5
  exact ⟨_,rfl,xk (s:={ s with heap:=h',toks:=tk }) (n := "range_iterator") st' rfl rfl (by decide) ⟨.int (a + i * c),H,I1,⟨t,rfl⟩,⟨rfl,rfl⟩,st',fun b hb=>(hf b hb).1⟩⟩
 done:=by
  intro X hP hw hK hc i pins s σ H E I hf st hg
  subst hP hw hK
  obtain ⟨f0,f1,f2,f3,f4,f5⟩:=hf it (by simp)
  exact wpAny_pyNext_range_end (I.ok.hd hc) st (by have:n <= i:=hg;lia) fun h' eb=>⟨rfl,I.turned (t':=s.toks) (fun b o hb e=>eb b o hb e) f0 f1 f3 f4 f5⟩
 self:=fun _ _ _ _ _ st h=>wpAny_pyIter_rangeiter st h
theorem HD {pins:List (Addr × Obj)}    {R:It -> Hp -> Prop}  {a j c:Int} {t u v:Tok} {tk:Nat} (I:Inv X pins σ H s) (hs:Builtin.Range.small a j c = true) (q:R (IL a c (Builtin.Range.rangeSize a j c).toNat) H) :
  wpAny (model X.prog X.w) X.A (pyIter (.ref s.heap.objs.size)) (PIE X pins σ tg R) E { s with heap:=s.heap.push { cls:=.type "range",data:=.fields #[.int a t,.int j u,.int c v] },toks:=tk }:=by
 refine wpAny_pyIter_range (IsRange.new ..) hs ?_
 have I1:Inv X pins σ H { s with heap:=s.heap.push { cls:=.type "range",data:=.fields #[.int a t,.int j u,.int c v] },toks:=tk }:=I.kept fun b o e=>Heap.get?_push_of_some _ e
 refine ⟨(s.heap.push { cls:=.type "range",data:=.fields #[.int a t,.int j u,.int c v] }).objs.size,[(s.heap.push { cls:=.type "range",data:=.fields #[.int a t,.int j u,.int c v] }).objs.size],_,_,H,rfl,I1.kept (t':=tk) fun b o e=>Heap.get?_push_of_some _ e,CY _ a c (Builtin.Range.rangeSize a j c).toNat,?_,fun b hb=>?_,q⟩
 ·have e1:a + ((0:Nat):Int) * c = a:=by simp
  have e2:(((Builtin.Range.rangeSize a j c).toNat:Nat):Int) - ((0:Nat):Int) = Builtin.Range.rangeSize a j c:=by rw [<- rangeSize_toNat];simp
  show IsRangeIter _ _ (a + ((0:Nat):Int) * c) ((((Builtin.Range.rangeSize a j c).toNat:Nat):Int) - ((0:Nat):Int)) c
  rw [e1,e2]
  exact Heap.get?_push_size _ rfl
 ·rw [List.mem_singleton.mp hb]
  exact I1.fpOk (Nat.le_refl _) I1.fresh
theorem Ct {a b c:Expr} {ta:TA} {p pos:Pos} (hg:Gl X "range") (hm:X.mg "range" = none) (ha:PA X [a,b,c] ta) (hs:starEach [a,b,c] X.env = (false,eval a X.env) :: starEach [b,c] X.env:=by rfl)
  (hp:(backTo pos (starEach [b,c] X.env)).any (·.1) = false:=by rfl):PI X tg (.Call (.Name "range" p) [a,b,c] [] pos) (Ii ta):=by
 intro pins s σ H R I h
 refine Call_ (qF I hg hm boot_range (PyProof.Rows.callWith_type1 (thn (ha pos pins s σ H _ I h) fun us s1 h1=>?_) hs hp))
 obtain ⟨vs,H1,I1,r1,x,j,y,rfl,q1,⟨q3,q4⟩,q2,q⟩:=h1
 cases r1 with
 | cons r rr=>
  cases rr with
  | cons r' rr=>
   cases rr with
   | cons r'' rr=>
    cases rr
    obtain ⟨t,rfl⟩:=r
    obtain ⟨t',rfl⟩:=r'
    obtain ⟨t'',rfl⟩:=r''
    exact call_range_3 q1 (HD I1 q2 q)
end
end L2
namespace M
open PySem L2
section
variable {K:W.Frag} {S H:Hp}
noncomputable def rO (a c:Int) (n:Nat):List D:=(List.range n).map fun i:Nat=>D.int (a + (i:Int) * c)
noncomputable def Fn:List D -> Option (List D)
 | [.int a,.int j,.int c]=>ifC (c ≠ 0 /\ (-1000000 < c /\ c < 1000000) /\ Builtin.Range.small a j c = true) (some (rO a c (Builtin.Range.rangeSize a j c).toNat)) none
 | _=>none
@[simp] noncomputable def Be (a:XA):XA:=fun ρ=>(a ρ).bind Fn
theorem Jv   (h:SAP K t a):SI K (Ii t) (Be a):=fun ρ σ S H R l r x k=>by
 unfold Be at x
 cases q:a ρ with
 | none=>rw [q] at x;cases x
 | some ds=>
  rw [q] at x
  dsimp only [Option.bind] at x
  unfold Fn at x
  split at x
  ·rename_i aa j bb
   obtain ⟨⟨h1,h3,h2⟩,rfl⟩:=gX x
   refine h ρ σ S H _ _ r q fun vs S1 H1 z1 d1=>?_
   cases d1 with
   | cons a1 d1=>cases d1 with
    | cons a2 d1=>cases d1 with
     | cons a3 d1=>
      cases d1
      refine ⟨aa,j,bb,by rw [a1.int,a2.int,a3.int],h1,h3,h2,k _ S1 H1 z1 fun S' H' _ _=>⟨fun i d h=>?_,by unfold rO;rw [List.length_map,List.length_range];exact Nat.le_refl _⟩⟩
      unfold rO at h
      rw [List.getElem?_map] at h
      cases qi:(List.range (Builtin.Range.rangeSize aa j bb).toNat)[i]? with
      | none=>rw [qi] at h;cases h
      | some i'=>
       rw [qi] at h
       cases h
       obtain ⟨hi,e⟩:=List.getElem?_eq_some_iff.mp qi
       rw [List.getElem_range] at e
       subst e
       rw [List.length_range] at hi
       exact ⟨hi,fun x H'' y=>⟨y.1,den_int.mpr y.2⟩⟩
  ·cases x
end
end M
namespace L2
open PySem PySem.Spec PyProof.Rows
section
variable {X:Cx}
end
end L2
namespace M
open PySem L2
section
variable {K:W.Frag}
noncomputable def LC:D -> Option (List D)
 | .int j=>ifC (0 <= j /\ j < 1000000) (some ((List.range j.toNat).map fun i:Nat=>D.int (i:Int))) none
 | _=>none
@[simp] noncomputable def Og (a:XE):XA:=fun ρ=>(a ρ).bind LC
end
end M
namespace L2
open PySem PySem.Spec PyProof.Rows
section
variable {X:Cx} {pins:List (Addr × Obj)} {σ:List (Option V)} {H H':Hp} {s:Shared} {h':Heap}
end
section
variable {X:Cx}
end
end L2
namespace M
open PySem L2
section
variable {K:W.Frag} {S S' H H':Hp}
noncomputable def enL (k:Nat):List D -> List D
 | []=>[]
 | d :: l=>.tup [.int (k:Int),d] :: enL (k + 1) l
@[simp] noncomputable def PK (a:XE):XA:=fun ρ=>(a ρ).bind fun d=>match d with | .lst l=>some (enL 0 l) | _=>none
end
end M
namespace L2
open PySem PySem.Spec PyProof.Rows M
section
variable {X:Cx}
end
end L2
namespace M
open PySem L2
section
variable {K:W.Frag}
end
section
variable {K:W.Frag} {S S' H H':Hp}
@[simp] noncomputable def PQ (i:Nat) (p:XP):XA:=fun ρ=>match ρ[i]? with
 | some (.ow o)=>(p ρ).bind fun is=>match c9 o is with | some (.lst l)=>shs l | _=>none
 | _=>none
end
end M
namespace TL
open PySem PyProof.Rows
section
variable {prog:Program} {w:World} {A:Around} {E:Value -> Shared -> Prop} {s:Shared}
end
end TL
namespace L2
open PySem PySem.Spec PyProof.Rows
section
variable {X:Cx}
end
end L2
namespace M
open PySem L2
section
variable {K:W.Frag}
end
end M
namespace L2
open PySem PySem.Spec PyProof.Rows
theorem Ja:bootBuiltins "any" = some (.builtin "any"):=by decide +kernel
noncomputable def LY (K:W.Frag):List V -> Hp -> VK -> Prop:=fun xs H Q=>∃ p,∃ bs:List Bool,xs = [.ref p] /\ SqL K H p (bs.map V.bl) /\ Q (.bl (bs.any id)) H
section
variable {X:Cx}
theorem Br (bs:List Bool):(List.range bs.length).any (fun i=>bs.getD i true) = bs.any id:=by
 rw [Bool.eq_iff_iff,List.any_eq_true,List.any_eq_true]
 constructor
 ·rintro ⟨i,hi,h⟩
  have hi:=List.mem_range.mp hi
  exact ⟨bs[i],List.getElem_mem hi,by simpa [hi] using h⟩
 ·rintro ⟨b,hb,h⟩
  obtain ⟨i,hi,rfl⟩:=List.getElem_of_mem hb
  exact ⟨i,List.mem_range.mpr hi,by simpa [hi] using h⟩
theorem Bx (hc:X.calm = true):CallR X (.builtin "any") (LY X.K):=by
 intro pins s σ H xs us Q I r h
 obtain ⟨p,bs,rfl,hS,q⟩:=h
 obtain ⟨u,rfl,ru⟩:=r.one
 cases ru
 obtain ⟨its,rv,pl,hz⟩:=I.list hS
 have hl:=pl.isList
 have hlen:bs.length = its.length:=by have:=rv.length;simpa using this
 refine call_any_walk (wpAny_pyIter_list hl ?_)
 have hne:p ≠ s.heap.objs.size:=Nat.ne_of_lt pl.lt
 refine ⟨_,_,_,_,_,_,fun i=>bs.getD i true,rfl,Walks.list (A:=X.A.in1) (I.ok.hd hc) _ p hne its.toArray,⟨⟨_,Heap.get?_push_size _ rfl,rfl,rfl⟩,hl.push _⟩,?_,?_⟩
 ·intro i v s' Q' E' hv hQ
  have hv:its[i]? = some v:=by simpa using hv
  have hi:i < bs.length:=by
   rw [hlen]
   exact (List.getElem?_eq_some_iff.mp hv).1
  obtain ⟨u,hu,ru⟩:=rv.get (i:=i) (x:=.bl (bs[i])) (by simp [hi])
  rw [hu] at hv
  cases hv
  cases ru
  have e:bs.getD i true = bs[i]:=by simp [hi]
  dsimp only at hQ
  rw [e] at hQ
  exact wpAny_truthy_bool hQ
 ·intro h' tk hk
  rw [List.size_toArray,<- hlen,Br]
  exact ⟨.bl _,H,I.kept (old_kept hk),rfl,q⟩
end
end L2
namespace M
open PySem L2
section
variable {K:W.Frag}
noncomputable def yE:List D -> Option D
 | [.lst l]=>(e8 l).map fun bs=>.bl (bs.any id)
 | _=>none
theorem Lc:SRB K (LY K) yE:=fun S H vs ds g Q s h x k=>by
 unfold yE at x
 split at x
 ·rename_i l
  obtain ⟨v,rfl,d1⟩:=dr h
  cases q:e8 l with
  | none=>rw [q] at x;cases x
  | some bs=>
   rw [q] at x
   cases x
   obtain ⟨p,xs,rfl,h1,h2⟩:=d1.lst s
   have e:=pS q
   subst e
   have e:=wG h2
   subst e
   exact ⟨p,bs,rfl,.inl h1,k _ S H (Ext.refl s) (den_bl.mpr rfl)⟩
 ·cases x
end
end M
namespace TL
open PySem PyProof.Rows
section
variable {prog:Program} {w:World} {A:Around} {R:Result -> Shared -> Prop} {I:Addr} {fp wr:List Addr} {n:Nat} {P:Nat -> Value -> Prop} {St:Nat -> Heap -> Prop} {h0:Heap}
end
section
variable {prog:Program} {w:World} {A:Around} {E:Value -> Shared -> Prop} {s:Shared}
end
end TL
namespace L2
open PySem PySem.Spec PyProof.Rows
section
variable {X:Cx}
end
end L2
namespace M
open PySem L2
section
variable {K:W.Frag}
end
section
variable {K:W.Frag} {S S' H H':Hp}
end
section
variable {K:W.Frag}
@[simp] noncomputable def Oc (f g:D -> D -> Option D) (a b c:XE):XE:=fun ρ=>(a ρ).bind fun x=>(b ρ).bind fun y=>(f x y).bind fun z=>match z with
 | .bl true=>(c ρ).bind fun w=>g y w
 | .bl false=>some (.bl false)
 | _=>none
end
end M
namespace L2
open PySem
section
variable {X:Cx}
end
end L2
namespace M
open PySem L2
section
variable {K:W.Frag}
end
end M
namespace DL
open PySem
section
variable {prog:Program} {w:World} {A:Around} {E:Value -> Shared -> Prop} {s:Shared}
end
end DL
namespace L2
open PySem
section
variable {X:Cx}
end
end L2
namespace M
open PySem L2
section
variable {K:W.Frag}
@[simp] noncomputable def O6 (i:Nat):XE:=fun ρ=>(tz ρ i).map fun ks=>.int (ks.length:Nat)
end
end M
namespace DY
open PySem
section
variable {prog:Program} {w:World} {K:Type} [DecidableEq K] {knd:HeapKind prog w K} {A:Around} {E:Value -> Shared -> Prop} {s:Shared}
end
end DY
namespace L2
open PySem PySem.Spec PyProof.Rows
section
variable {X:Cx} {pins:List (Addr × Obj)} {σ:St} {H:Hp} {s:Shared} {a b:Addr} {kvs:List (List Key × V)} {k:List Key} {v:V} {A:Around} {E:Value -> Shared -> Prop}
end
section
variable {X:Cx} {pins:List (Addr × Obj)} {σ:St} {H:Hp} {s:Shared} {a:Addr} {o:Obj} {kvs:List (List Key × V)}
end
end L2
namespace M
open PySem L2
section
variable {K:W.Frag} {S S' H H':Hp}
mutual
noncomputable def kE:D -> Bool
 | .dic _=>false
 | .dif _=>false
 | .lst l=>noDics l
 | .tup l=>noDics l
 | .scr l=>noDics l
 | .mtp l=>noDics l
 | .ins _ _ l=>noDics l
 | _=>true
noncomputable def noDics:List D -> Bool
 | []=>true
 | d :: l=>kE d && noDics l
end
mutual
theorem Den.less {a:Addr} {o:Obj} {kvs:List (List Key × V)} (hs:∀ b,b ≠ a -> S' b = S b) (ha:S a = some (.frz o (.dT kvs))):∀ {d:D} {v:V},kE d = true -> Den K S d v -> Den K S' d v
 | .dic _,_,n,_=>by unfold kE at n;cases n
 | .dif _,_,n,_=>by unfold kE at n;cases n
 | .non,_,_,h=>by unfold Den at *;exact h
 | .bl _,_,_,h=>by unfold Den at *;exact h
 | .int _,_,_,h=>by unfold Den at *;exact h
 | .str _,_,_,h=>by unfold Den at *;exact h
 | .ty _,_,_,h=>by unfold Den at *;exact h
 | .lst l,_,n,h=>by
  unfold kE at n
  obtain ⟨p,xs,e,h1,h2⟩:=den_lst.mp h
  refine den_lst.mpr ⟨p,xs,e,?_,Dens.less hs ha n h2⟩
  rcases h1 with h1 | ⟨q,h1⟩
  ·exact .inl (by rw [hs p fun z=>by subst z;rw [ha] at h1;cases h1];exact h1)
  ·exact .inr ⟨q,by rw [hs p fun z=>by subst z;rw [ha] at h1;cases h1];exact h1⟩
 | .tup l,_,n,h=>by
  unfold kE at n
  obtain ⟨p,xs,e,h1,h2⟩:=den_tup.mp h
  exact den_tup.mpr ⟨p,xs,e,(show S' p = some (.tup xs) by rw [hs p fun z=>by subst z;rw [show S p = some (.tup xs) from h1] at ha;cases ha];exact h1),Dens.less hs ha n h2⟩
 | .scr l,_,n,h=>by
  unfold kE at n
  obtain ⟨p,xs,e,h1,h2⟩:=den_scr.mp h
  refine den_scr.mpr ⟨p,xs,e,?_,Dens.less hs ha n h2⟩
  rcases h1 with (h1 | ⟨q,h1⟩) | h1
  ·exact .inl (.inl (by rw [hs p fun z=>by subst z;rw [ha] at h1;cases h1];exact h1))
  ·exact .inl (.inr ⟨q,by rw [hs p fun z=>by subst z;rw [ha] at h1;cases h1];exact h1⟩)
  ·exact .inr h1
 | .mtp l,_,n,h=>by
  unfold kE at n
  obtain ⟨p,xs,e,h1,h2⟩:=den_mtp.mp h
  refine den_mtp.mpr ⟨p,xs,e,?_,Dens.less hs ha n h2⟩
  rcases h1 with (h1 | ⟨q,h1⟩) | h1
  ·exact .inl (.inl (by rw [hs p fun z=>by subst z;rw [ha] at h1;cases h1];exact h1))
  ·exact .inl (.inr ⟨q,by rw [hs p fun z=>by subst z;rw [ha] at h1;cases h1];exact h1⟩)
  ·exact .inr h1
 | .ins _ _ l,_,n,h=>by
  unfold kE at n
  obtain ⟨p,C,dx,fs,e,h0,h1,h2,h3⟩:=den_ins.mp h
  exact den_ins.mpr ⟨p,C,dx,fs,e,h0,by rw [hs p fun z=>by subst z;rw [ha] at h1;cases h1];exact h1,h2,Dens.less hs ha n h3⟩
theorem Dens.less {a:Addr} {o:Obj} {kvs:List (List Key × V)} (hs:∀ b,b ≠ a -> S' b = S b) (ha:S a = some (.frz o (.dT kvs))):∀ {ds:List D} {xs:List V},noDics ds = true -> Dens K S ds xs -> Dens K S' ds xs
 | [],_,_,h=>by rw [h.nil_of];exact .nil
 | _ :: _,_,n,h=>by
  unfold noDics at n
  obtain ⟨n1,n2⟩:=Bool.and_eq_true_iff.mp n
  obtain ⟨y,ys,rfl,a,b⟩:=h.cons_of
  exact .cons (Den.less hs ha n1 a) (Dens.less hs ha n2 b)
end
noncomputable def ksO:Sl -> Option (List (List Int))
 | .ow (.dic ks)=>some ks
 | .ow (.hd _ ks [])=>some ks
 | _=>none
noncomputable def reD (ks:List (List Int)):Sl -> Sl
 | .ow (.dic _)=>.ow (.dic ks)
 | .ow (.hd p _ [])=>.ow (.hd p ks [])
 | s=>s
@[simp] theorem MS (ks:List (List Int)):ksO (.ow (.dic ks)) = some ks:=rfl
@[simp] theorem Ni (p:Addr) (ks:List (List Int)):ksO (.ow (.hd p ks [])) = some ks:=rfl
@[simp] theorem MY (ks ks':List (List Int)):reD ks (.ow (.dic ks')) = .ow (.dic ks):=rfl
@[simp] theorem Nt (p:Addr) (ks ks':List (List Int)):reD ks (.ow (.hd p ks' [])) = .ow (.hd p ks []):=rfl
section
variable {A:Hp} {Λ:Nat -> Option Addr} {Φ:Nat -> List Addr} {ρ:Env} {σ:St} {i:Nat} {s:Sl} {ks:List (List Int)}
end
@[simp] noncomputable def O7 (i:Nat) (e:XE):XE:=fun ρ=>((ρ[i]?).bind ksO).bind fun ks=>(e (ρ.set i (.sh (.dif ks)))).bind fun d=>if kE d = true then some d else none
@[simp] noncomputable def Oh (i:Nat) (e:XA):XA:=fun ρ=>((ρ[i]?).bind ksO).bind fun ks=>(e (ρ.set i (.sh (.dif ks)))).bind fun l=>if noDics l = true then some l else none
noncomputable def Nc (ks:List (List Int)) (q:List Int):List (List Int):=ks.filter fun k=>decide (k ≠ q)
@[simp] noncomputable def O9 (i:Nat) (k:XE):XS:=fun ρ=>(ρ[i]?).bind fun s=>(ksO s).bind fun ks=>(k ρ).bind fun d=>(kyD d).bind fun q=>if ks.contains q = true then some (.nx (ρ.set i (reD (Nc ks q) s))) else none
@[simp] noncomputable def Od (e:XA):Env -> Option O:=fun ρ=>(e ρ).bind fun l=>(gK l).bind fun qs=>if l.length < LIM then some (.dic (qs.foldl jk [])) else none
end
section
variable {K:W.Frag} {S S' H H':Hp}
@[simp] noncomputable def Oe (i:Nat):XA:=fun ρ=>match ρ[i]? with | some (.sh (.dif ks))=>some (ks.map fun k=>.tup (k.map .int)) | _=>none
noncomputable abbrev HM:=Addr -> List (List Int) -> List D -> Option (O × List (List Int))
@[simp] noncomputable def Pb (j:Nat):XS:=fun ρ=>match ρ[j]?,(ρ[0]?:Option Sl) with
 | some (.ow o),some (.ow (.hd p ks []))=>if j = 0 then none else some (.ro (.hd p ks [o]))
 | _,_=>none
noncomputable def Lv (m:HM) (ks:List (List Int)) (ds:List D):Option (O × List (List Int)):=by
 classical exact if h:∃ r,∀ p,m p ks ds = some r then some h.choose else none
@[simp] noncomputable def O1 (j i:Nat) (m:HM) (a:XA):XS:=fun ρ=>match ρ[j]? with
 | some (.ow (.lst l))=>(ρ[i]?).bind fun s=>(ksO s).bind fun ks=>(a ρ).bind fun ds=>(Lv m ks ds).bind fun r=>match r with
  | (.lst l',ks')=>(shs l').bind fun ds'=>if l.length + l'.length <= LIM then some (.nx ((ρ.set i (reD ks' s)).set j (.ow (.lst (l ++ ds'.map .sh))))) else none
  | _=>none
 | _=>none
end
end M
namespace L2
open PySem
end L2
namespace M
open PySem L2
end M
namespace L2
open PySem PySem.Spec PyProof.Rows
section
variable {X:Cx} {tg:Expr}
end
end L2
namespace M
open PySem L2
section
variable {K:W.Frag} {S S' H H':Hp}
noncomputable def Mh:List D -> Option (List D)
 | [.lst l]=>some l.reverse | _=>none
@[simp] noncomputable def Pg (a:XA):XA:=fun ρ=>(a ρ).bind Mh
end
end M
namespace L2
open PySem PySem.Spec PyProof.Rows
section
variable {X:Cx} {CX:CXT} {k:Nat} {f:Addr} {fd:FuncData} {ps:List Str} {sp:Sp} {E:XK} {x y:Str} {p cpos pos pos':Pos} {e:Expr} {es:List Expr} {t:TA}
end
section
variable {X:Cx} {body suite:List Stmt} {b0:Stmt} {x n:Str} {i:Nat} {L:List Str} {tx:XK -> St -> Hp -> Prop} {tu ts:TS} {np hp pos:Pos}
end
end L2
namespace M
open PySem L2
section
variable {K:W.Frag} {S S' H H':Hp}
@[simp] noncomputable def Pj (L:List Str) (i:Nat) (n:List D -> Option Str) (a:XA) (m:XS) (l:List (Nat × List (List (Str × Bool)))):XS:=fun ρ=>if i < ρ.length then (match (a ρ).bind n with
 | some N=>if L.contains N then (D9 i N l (ρ.set i .un)).map fun ρ'=>.nx (ρ'.set i .un) else none
 | none=>(match m ρ with | some (.nx ρ')=>some (.nx ρ') | _=>none)) else none
end
end M
namespace L2
open PySem PySem.Spec PyProof.Rows
end L2
namespace M
open PySem L2
section
variable {K:W.Frag} {S S' H H':Hp}
@[simp] noncomputable def O4 (i:Nat) (m:XS):XS:=fun ρ=>match (ρ[i]?).bind ksO with | some ks=>m (ρ.set i (.sh (.dif ks))) | none=>m ρ
@[simp] noncomputable def O2 (i:Nat) (x:XG) (m:XS):XS:=d8 (Oe i) x m
end
end M
namespace L2
open PySem
section
variable {X:Cx}
end
end L2
namespace M
open PySem L2
section
variable {K:W.Frag}
end
end M
namespace DY
open PySem
section
variable {prog:Program} {w:World} {A:Around} {E:Value -> Shared -> Prop} {s:Shared} {d I:Addr} {es:Array DictEntry} {ep:Nat}
end
section
variable {prog:Program} {w:World} {A:Around} {s:Shared} {R:Result -> Shared -> Prop} {d:Addr} {es:Array DictEntry} {ep:Nat}
end
section
variable {prog:Program} {w:World} {A:Around} {E:Value -> Shared -> Prop} {s:Shared} {d:Addr} {es:Array DictEntry} {ep:Nat}
end
end DY
namespace L2
open PySem PySem.Spec PyProof.Rows
section
variable {X:Cx}
end
end L2
namespace M
open PySem L2
section
variable {K:W.Frag} {S H:Hp}
end
section
variable {K:W.Frag} {S S' H H':Hp}
end
section
variable {K:W.Frag} {S S' H H':Hp}
@[simp] noncomputable def Pd (e:XE) (j:Nat):XS:=fun ρ=>match ρ[j]? with
 | some (.ow (.lst l))=>(e ρ).bind fun d=>some (.ro (.tup [.sh d,.lst l]))
 | _=>none
@[simp] noncomputable def M1 (m:List D -> Option O) (e:D) (a:XA):Env -> Option O:=fun ρ=>(a ρ).bind fun ds=>m (ds ++ [e])
end
section
variable {K:W.Frag} {S H:Hp}
@[simp] noncomputable def PN (i:Nat) (k:Int):XE:=fun ρ=>match ρ[i]? with
 | some (.ow (.tup os))=>match atI os k with
  | some (.sh d)=>some d
  | some (.lst l)=>(shs l).map D.lst
  | _=>none
 | _=>none
@[simp] noncomputable def PM (i:Nat) (k:Int):XE:=fun ρ=>match ρ[i]? with
 | some (.ow (.tup os))=>match atI os k with
  | some (.sh d)=>some d
  | _=>none
 | _=>none
noncomputable def LA:List D -> Bool
 | []=>true
 | .tup l :: r=>(bi l).isSome && LA r
 | _ :: _=>false
@[simp] noncomputable def Ob (m:List D -> Option O) (a:XA):XE:=fun ρ=>((a ρ).bind m).bind fun o=>match o with
 | .lst os=>(shs os).bind fun l=>if LA l then some (.lst l) else none
 | _=>none
end
section
variable {K:W.Frag} {S H:Hp}
@[simp] noncomputable def OX (j i:Nat) (m:HM) (a:XA):XS:=fun ρ=>match ρ[j]? with
 | some (.ow (.lst l))=>(shs l).bind fun ls=>(ρ[i]?).bind fun s=>(ksO s).bind fun ks=>(a ρ).bind fun ds=>(Lv m ks ds).bind fun r=>match r with
  | (.lst l',ks')=>(shs l').bind fun ds'=>if ls.length + ds'.length <= LIM then some (.nx ((ρ.set i (reD ks' s)).set j (.ow (.lst ((ls ++ ds').map .sh))))) else none
  | _=>none
 | _=>none
end
end M
namespace L2
open PySem
section
variable {X:Cx}
end
end L2
namespace M
open PySem L2
section
variable {K:W.Frag}
@[simp] noncomputable def PU (a:XE) (lo hi:XO):XA:=fun ρ=>(a ρ).bind fun d=>(lo ρ).bind fun l=>(hi ρ).bind fun h=>match d with | .lst x=>some (iE x l h) | _=>none
end
section
variable {K:W.Frag} {S S' H H':Hp}
noncomputable def lsD:D -> Option (List D)
 | .lst l=>some l
 | _=>none
@[simp] noncomputable def OW (a b:XE):XA:=fun ρ=>(a ρ).bind fun d=>(lsD d).bind fun l=>(b ρ).bind fun e=>(lsD e).bind fun m=>if l.length + m.length <= LIM then some (l ++ m) else none
end
end M
namespace Rw
noncomputable abbrev R:=List (Int × Int)
def Mem (r:R) (x:Int):Prop:=∃ p ∈ r,p.1 <= x /\ x <= p.2
def Ok (r:R):Prop:=∀ p ∈ r,p.1 <= p.2
def aP (r:R):Prop:=Ok r /\ r.Pairwise fun p q=>p.2 + 2 <= q.1
theorem dX (x:Int):¬ Mem [] x:=by rintro ⟨p,h,_⟩;cases h
theorem mem_cons (p:Int × Int) (r:R) (x:Int):Mem (p :: r) x ↔ (p.1 <= x /\ x <= p.2) \/ Mem r x:=by
 constructor
 ·rintro ⟨q,h,e⟩
  rcases List.mem_cons.mp h with rfl | h
  ·exact .inl e
  ·exact .inr ⟨q,h,e⟩
 ·rintro (e | ⟨q,h,e⟩)
  ·exact ⟨p,List.mem_cons_self,e⟩
  ·exact ⟨q,List.mem_cons_of_mem _ h,e⟩
theorem mem_append (r t:R) (x:Int):Mem (r ++ t) x ↔ Mem r x \/ Mem t x:=by
 constructor
 ·rintro ⟨q,h,e⟩
  rcases List.mem_append.mp h with h | h
  ·exact .inl ⟨q,h,e⟩
  ·exact .inr ⟨q,h,e⟩
 ·rintro (⟨q,h,e⟩ | ⟨q,h,e⟩)
  ·exact ⟨q,List.mem_append_left _ h,e⟩
  ·exact ⟨q,List.mem_append_right _ h,e⟩
theorem Ez {r t:R} (h:r.Perm t) (x:Int):Mem r x ↔ Mem t x:=
 ⟨fun ⟨q,m,e⟩=>⟨q,h.mem_iff.mp m,e⟩,fun ⟨q,m,e⟩=>⟨q,h.mem_iff.mpr m,e⟩⟩
theorem mem_filter (r:R) (x:Int):Mem (r.filter fun p=>decide (p.1 <= p.2)) x ↔ Mem r x:=by
 constructor
 ·rintro ⟨q,m,e⟩
  exact ⟨q,(List.mem_filter.mp m).1,e⟩
 ·rintro ⟨q,m,e⟩
  exact ⟨q,List.mem_filter.mpr ⟨m,by simp;lia⟩,e⟩
theorem eg:aP []:=⟨fun _ h=>(by cases h),.nil⟩
theorem canon_cons {p:Int × Int} {r:R}:aP (p :: r) ↔ p.1 <= p.2 /\ (∀ q ∈ r,p.2 + 2 <= q.1) /\ aP r:=by
 constructor
 ·rintro ⟨h1,h2⟩
  have h3:=List.pairwise_cons.mp h2
  exact ⟨h1 p List.mem_cons_self,h3.1,fun q hq=>h1 q (List.mem_cons_of_mem _ hq),h3.2⟩
 ·rintro ⟨h1,h2,h3,h4⟩
  refine ⟨fun q hq=>?_,List.pairwise_cons.mpr ⟨h2,h4⟩⟩
  rcases List.mem_cons.mp hq with rfl | hq
  ·exact h1
  ·exact h3 q hq
theorem eO {p:Int × Int} {r:R} (c:aP (p :: r)) {x:Int} (h:Mem r x):p.2 + 2 <= x:=by
 obtain ⟨q,m,e,_⟩:=h
 have:=(canon_cons.mp c).2.1 q m
 lia
theorem tp {p:Int × Int} {r:R} (c:aP (p :: r)) {x:Int} (h:Mem (p :: r) x):p.1 <= x:=by
 rcases (mem_cons p r x).mp h with h | h
 ·exact h.1
 ·have:=eO c h
  have:=(canon_cons.mp c).1
  lia
theorem FY:∀ {r t:R},aP r -> aP t -> (∀ x,Mem r x ↔ Mem t x) -> r = t
 | [],[],_,_,_=>rfl
 | [],q :: t,_,ct,h=>by
  have:=(h q.1).mpr ((mem_cons ..).mpr (.inl ⟨Int.le_refl _,(canon_cons.mp ct).1⟩))
  exact (dX _ this).elim
 | p :: r,[],cr,_,h=>by
  have:=(h p.1).mp ((mem_cons ..).mpr (.inl ⟨Int.le_refl _,(canon_cons.mp cr).1⟩))
  exact (dX _ this).elim
 | p :: r,q :: t,cr,ct,h=>by
  have hp:=(canon_cons.mp cr).1
  have hq:=(canon_cons.mp ct).1
  have a1:q.1 <= p.1:=tp ct ((h p.1).mp ((mem_cons ..).mpr (.inl ⟨Int.le_refl _,hp⟩)))
  have a2:p.1 <= q.1:=tp cr ((h q.1).mpr ((mem_cons ..).mpr (.inl ⟨Int.le_refl _,hq⟩)))
  have e1:p.1 = q.1:=by lia
  have n1:¬ Mem (p :: r) (p.2 + 1):=fun m=>by
   rcases (mem_cons ..).mp m with m | m
   ·lia
   ·have:=eO cr m;lia
  have n2:¬ Mem (q :: t) (q.2 + 1):=fun m=>by
   rcases (mem_cons ..).mp m with m | m
   ·lia
   ·have:=eO ct m;lia
  have e2:p.2 = q.2:=by
   by_cases l1:p.2 < q.2
   ·exact (n1 ((h _).mpr ((mem_cons ..).mpr (.inl ⟨by lia,by lia⟩)))).elim
   ·by_cases l2:q.2 < p.2
    ·exact (n2 ((h _).mp ((mem_cons ..).mpr (.inl ⟨by lia,by lia⟩)))).elim
    ·lia
  have e:p = q:=by
   obtain ⟨a,b⟩:=p
   obtain ⟨c,d⟩:=q
   simp only at e1 e2
   rw [e1,e2]
  subst e
  have ih:r = t:=FY (canon_cons.mp cr).2.2 (canon_cons.mp ct).2.2 fun x=>by
   constructor
   ·intro m
    rcases (mem_cons ..).mp ((h x).mp ((mem_cons ..).mpr (.inr m))) with k | k
    ·have:=eO cr m;lia
    ·exact k
   ·intro m
    rcases (mem_cons ..).mp ((h x).mpr ((mem_cons ..).mpr (.inr m))) with k | k
    ·have:=eO ct m;lia
    ·exact k
  rw [ih]
noncomputable def step (acc:R) (p:Int × Int):R:=
 match acc.getLast? with
 | none=>[p]
 | some q=>if p.1 <= q.2 + 1 then acc.dropLast ++ [(q.1,if p.2 > q.2 then p.2 else q.2)] else acc ++ [p]
noncomputable def kD (l:R):R:=l.foldl step []
theorem FL (p:Int × Int):step [] p = [p]:=rfl
theorem nX (t:R) (q p:Int × Int):step (t ++ [q]) p = if p.1 <= q.2 + 1 then t ++ [(q.1,if p.2 > q.2 then p.2 else q.2)] else t ++ [q] ++ [p]:=by
 unfold step
 simp
theorem canon_snoc {t:R} {q:Int × Int}:aP (t ++ [q]) ↔ aP t /\ q.1 <= q.2 /\ ∀ p ∈ t,p.2 + 2 <= q.1:=by
 constructor
 ·rintro ⟨h1,h2⟩
  have h3:=List.pairwise_append.mp h2
  exact ⟨⟨fun p hp=>h1 p (List.mem_append_left _ hp),h3.1⟩,h1 q (List.mem_append_right _ List.mem_cons_self),fun p hp=>h3.2.2 p hp q List.mem_cons_self⟩
 ·rintro ⟨⟨h1,h2⟩,h3,h4⟩
  refine ⟨fun p hp=>?_,List.pairwise_append.mpr ⟨h2,.cons (fun _ h=>(by cases h)) .nil,fun p hp x hx=>?_⟩⟩
  ·rcases List.mem_append.mp hp with hp | hp
   ·exact h1 p hp
   ·rw [List.mem_singleton.mp hp];exact h3
  ·rw [List.mem_singleton.mp hx];exact h4 p hp
theorem HE {acc:R} {p:Int × Int} (c:aP acc) (hp:p.1 <= p.2) (lo:∀ q ∈ acc,q.1 <= p.1) :
  aP (step acc p) /\ (∀ x,Mem (step acc p) x ↔ Mem acc x \/ (p.1 <= x /\ x <= p.2)) /\ (∀ q ∈ step acc p,q.1 <= p.1):=by
 rcases List.eq_nil_or_concat acc with rfl | ⟨t,q,rfl⟩
 ·rw [FL]
  refine ⟨canon_cons.mpr ⟨hp,fun _ h=>(by cases h),eg⟩,fun x=>?_,fun q hq=>?_⟩
  ·rw [mem_cons]
   constructor
   ·rintro (h | h)
    ·exact .inr h
    ·exact .inl h
   ·rintro (h | h)
    ·exact .inr h
    ·exact .inl h
  ·rw [List.mem_singleton.mp hq];exact Int.le_refl _
 ·rw [List.concat_eq_append] at *
  obtain ⟨ct,hq,ht⟩:=canon_snoc.mp c
  have lq:q.1 <= p.1:=lo q (List.mem_append_right _ List.mem_cons_self)
  rw [nX]
  by_cases h:p.1 <= q.2 + 1
  ·rw [if_pos h]
   have m:∀ z,(if p.2 > q.2 then p.2 else q.2) = z -> q.2 <= z /\ p.2 <= z /\ (z = p.2 \/ z = q.2):=fun z e=>by
    split at e <;> lia
   obtain ⟨m1,m2,m3⟩:=m _ rfl
   generalize (if p.2 > q.2 then p.2 else q.2) = z at *
   refine ⟨canon_snoc.mpr ⟨ct,by dsimp only;lia,ht⟩,fun x=>?_,fun s hs=>?_⟩
   ·rw [mem_append,mem_append,mem_cons,mem_cons]
    dsimp only
    constructor
    ·rintro (k | k | k)
     ·exact .inl (.inl k)
     ·by_cases hx:x <= q.2
      ·exact .inl (.inr (.inl ⟨k.1,hx⟩))
      ·right;lia
     ·exact (dX _ k).elim
    ·rintro ((k | k | k) | k)
     ·exact .inl k
     ·right;left;lia
     ·exact (dX _ k).elim
     ·right;left;lia
   ·rcases List.mem_append.mp hs with hs | hs
    ·exact lo s (List.mem_append_left _ hs)
    ·rw [List.mem_singleton.mp hs];exact lq
  ·rw [if_neg h]
   refine ⟨canon_snoc.mpr ⟨c,hp,fun s hs=>?_⟩,fun x=>?_,fun s hs=>?_⟩
   ·rcases List.mem_append.mp hs with hs | hs
    ·have:=ht s hs;lia
    ·rw [List.mem_singleton.mp hs];lia
   ·rw [mem_append,mem_cons]
    constructor
    ·rintro (k | k | k)
     ·exact .inl k
     ·exact .inr k
     ·exact (dX _ k).elim
    ·rintro (k | k)
     ·exact .inl k
     ·exact .inr (.inl k)
   ·rcases List.mem_append.mp hs with hs | hs
    ·exact lo s hs
    ·rw [List.mem_singleton.mp hs];exact Int.le_refl _
theorem Az:∀ (l:R) (acc:R),aP acc -> Ok l -> l.Pairwise (fun p q=>p.1 <= q.1) -> (∀ q ∈ acc,∀ p ∈ l,q.1 <= p.1) ->
  aP (l.foldl step acc) /\ ∀ x,Mem (l.foldl step acc) x ↔ Mem acc x \/ Mem l x
 | [],acc,c,_,_,_=>⟨c,fun x=>⟨fun h=>.inl h,fun h=>h.elim id fun k=>(dX _ k).elim⟩⟩
 | p :: l,acc,c,o,w,lo=>by
  obtain ⟨w1,w2⟩:=List.pairwise_cons.mp w
  obtain ⟨c1,m1,l1⟩:=HE c (o p List.mem_cons_self) fun q hq=>lo q hq p List.mem_cons_self
  obtain ⟨c2,m2⟩:=Az l (step acc p) c1 (fun q hq=>o q (List.mem_cons_of_mem _ hq)) w2 fun q hq s hs=>by
   have:=l1 q hq
   have:=w1 s hs
   lia
  refine ⟨c2,fun x=>?_⟩
  show Mem (l.foldl step (step acc p)) x ↔ _
  rw [m2,m1,mem_cons,or_assoc]
def HW (ps r:R):Prop:=aP r /\ ∀ x,Mem r x ↔ Mem ps x
theorem ED {l ps:R} (o:Ok l) (w:l.Pairwise fun p q=>p.1 <= q.1) (h:∀ x,Mem l x ↔ Mem ps x):HW ps (kD l):=by
 obtain ⟨c,m⟩:=Az l [] eg o w fun _ h=>(by cases h)
 exact ⟨c,fun x=>by
  show Mem (l.foldl step []) x ↔ _
  rw [m x,<- h x]
  exact ⟨fun k=>k.elim (fun z=>(dX _ z).elim) id,.inr⟩⟩
noncomputable def rF (r:R) (lo hi:Int):R:=r.map fun p=>(p.1 + lo,p.2 + hi)
theorem Cf (r:R) (lo hi x:Int):Mem (rF r lo hi) x ↔ ∃ p ∈ r,p.1 + lo <= x /\ x <= p.2 + hi:=by
 constructor
 ·rintro ⟨q,m,e⟩
  obtain ⟨p,hp,rfl⟩:=List.mem_map.mp m
  exact ⟨p,hp,e⟩
 ·rintro ⟨p,hp,e⟩
  exact ⟨_,List.mem_map.mpr ⟨p,hp,rfl⟩,e⟩
end Rw
namespace Rw
noncomputable def JR:List Int -> R
 | a :: b :: t=>(a,b - 1) :: JR t
 | _=>[]
noncomputable def count (r:R):Int:=(r.map fun p=>p.2 - p.1 + 1).sum
noncomputable def Nj (P:Int -> Prop) (L:Int):Nat -> Int
 | 0=>0
 | n + 1=>Nj P L n + (by classical exact if P (L + n) then 1 else 0)
end Rw
namespace P
open PySem L2 M
noncomputable abbrev NS:List Str:=["Box"]
noncomputable def fB:XS:=aA (xIf (xB (xOp dLt (ah 1) (xCB iA (ab (ah 0) aj)))) (bM (xOp dIx (ah 0) (ah 1))) dF) (bM (xC (.int 0)))
noncomputable def gC:List D -> Option O:=fnO 2 fB
noncomputable def fM:List D -> Option D:=fun ds=>(gC ds).map O.d
noncomputable def aS:XS:=aA (xIf (vO (xB (xOp (Ji true) (ah 2) (xC .non))) (vO (xB (xOp (dEq false) (xOp dIx (ah 2) (xC (.int 0))) (ah 3))) (xB (xOp dLe (ah 4) (xOp dIx (ah 2) (xC (.int 1))))))) (bB (xOp aR (xOp dIx (ah 2) (xC (.int 1))) (xC (.int 1))) (af 4)) dF) (xIf (xB (xOp dLe (ah 4) (ah 5))) (aA (bB (xOp aR (xOp dG (xOp aR (ah 1) (ah 5)) (ah 4)) (xC (.int 1))) (af 1)) (bB (aQ (ab (ak 3) (ab (ak 5) aj))) (af 2))) dF)
noncomputable def jV:XS:=aA (bB (xC (.int 0)) (af 1)) (aA (bB (xC .non) (af 2)) (aA (d8 (xIt (xL (F4 iB (ab (ah 0) aj)))) (aE (ai (af 3) (ai (af 4) (ai (af 5) aB)))) (aS)) (bM (ak 1))))
noncomputable def ll:List D -> Option O:=fnO 6 jV
noncomputable def fj:List D -> Option D:=fun ds=>(ll ds).map O.d
noncomputable def jn:XS:=aA (bB (xC (.int 1)) (af 6)) (aA (xIf (mY (ah 2)) (bB (xOp dIx (xL (im (ab (xC (.int 1)) (ab (xC (.int 2)) (ab (xC (.int 1)) (ab (xOp wE (xC (.int 10)) (xC (.int 40))) (ab (xC (.int 1)) (ab (xC (.int 1)) (ab (xC (.int 3)) (ab (xC (.int 2)) aj)))))))))) (ah 5)) (af 6)) dF) (aA (xIf (xOr (xB (xOp (dEq false) (xOp iG (ah 0) (xC (.int 2))) (xC (.int 1)))) (vO (mY (ah 3)) (xB (xOp (dEq false) (xOp iG (xOp kQ (ah 0) (xC (.int 512))) (xC (.int 4))) (xC (.int 1)))))) (xIf (vO (xB (xOp dGt (xCB iA (ab (ah 4) aj)) (xC (.int 0)))) (xB (xOp (dEq false) (xOp dIx (xOp dIx (ah 4) (xUn j9 (xC (.int 1)))) (xC (.int 1))) (xOp dG (ah 1) (xC (.int 1)))))) (Bf 4 xPv (xUn j9 (xC (.int 1))) (aQ (ab (xOp dIx (xOp dIx (ah 4) (xUn j9 (xC (.int 1)))) (xC (.int 0))) (ab (xOp dG (xOp aR (ah 1) (ah 6)) (xC (.int 1))) aj)))) (ik 4 xPv (xSh (aQ (ab (ak 1) (ab (xOp dG (xOp aR (ah 1) (ah 6)) (xC (.int 1))) aj)))))) dF) (aA (bB (xOp kQ (ah 0) (xC (.int 2))) (af 0)) (bB (xOp aR (ah 1) (ah 6)) (af 1)))))
noncomputable def ut:XS:=aA (il (im aj) 4) (aA (d8 (F8 (ab (xC (.int 8)) aj)) (af 5) (jn)) (bM (xCB eV (ab (ah 4) aj))))
noncomputable def u6:List D -> Option O:=fnO 7 ut
noncomputable def zl:List D -> Option D:=fun ds=>(u6 ds).map O.d
noncomputable def gM:XS:=aA (xIf (xB (xOp dLt (ah 0) (xC (.int 0)))) (bM (xOp dG (xC (.int 0)) (xOp iG (xOp dG (xC (.int 0)) (ah 0)) (ah 1)))) dF) (bM (xOp iG (ah 0) (ah 1)))
noncomputable def iM:List D -> Option O:=fnO 2 gM
noncomputable def g6:List D -> Option D:=fun ds=>(iM ds).map O.d
noncomputable def bV:XT:=xB (xOp dLt (ah 2) (ah 3))
noncomputable def bU:XS:=aA (bB (xOp kQ (xOp aR (ah 2) (ah 3)) (xC (.int 2))) (af 4)) (xIf (xB (xOp dLe (xOp dIx (xOp dIx (ah 0) (ah 4)) (xC (.int 0))) (ah 1))) (bB (xOp aR (ah 4) (xC (.int 1))) (af 2)) (bB (ak 4) (af 3)))
noncomputable def eE:XS:=aA (bB (xC (.int 0)) (af 2)) (aA (bB (xCB iA (ab (ah 0) aj)) (af 3)) (aA (d7 (bV) (bU)) (bM (ak 2))))
noncomputable def fP:List D -> Option O:=fnO 5 eE
noncomputable def c0:List D -> Option D:=fun ds=>(fP ds).map O.d
noncomputable def gk:XS:=bM (xCB Bv (ab (xL (bq [none,none] (xIt (ah 0)) (aE (ai (af 0) (ai (af 1) aB))) cv (xOp aR (xOp dG (ah 1) (ah 0)) (xC (.int 1))))) aj))
noncomputable def iP:List D -> Option O:=fnO 1 gk
noncomputable def gz:List D -> Option D:=fun ds=>(iP ds).map O.d
noncomputable def iw:XS:=bM (xCB eV (ab (xL (bq [none,some 0] (F8 (ab (xOp dG (xCB iA (ab (ah 0) aj)) (xC (.int 1))) aj)) (af 0) cv (aQ (ab (xOp aR (xOp dIx (xOp dIx (ah 1) (ah 0)) (xC (.int 1))) (xC (.int 1))) (ab (xOp dG (xOp dIx (xOp dIx (ah 1) (xOp aR (ah 0) (xC (.int 1)))) (xC (.int 0))) (xC (.int 1))) aj))))) aj))
noncomputable def jK:List D -> Option O:=fnO 1 iw
noncomputable def iK:List D -> Option D:=fun ds=>(jK ds).map O.d
noncomputable def gq:XS:=bM (xCB eV (ab (xL (bq [none,none,some 1] (xIt (ah 0)) (aE (ai (af 0) (ai (af 1) aB))) cv (aQ (ab (xOp aR (ah 0) (ah 2)) (ab (xOp aR (ah 1) (ah 2)) aj))))) aj))
noncomputable def iQ:List D -> Option O:=fnO 2 gq
noncomputable def gA:List D -> Option D:=fun ds=>(iQ ds).map O.d
noncomputable def dh:XS:=xIf (vO (mY (ah 1)) (xB (xOp dLe (ah 2) (xOp aR (xOp dIx (xOp dIx (ah 1) (xUn j9 (xC (.int 1)))) (xC (.int 1))) (xC (.int 1)))))) (Bf 1 xPv (xUn j9 (xC (.int 1))) (aQ (ab (xOp dIx (xOp dIx (ah 1) (xUn j9 (xC (.int 1)))) (xC (.int 0))) (ab (xCB wm (ab (xOp dIx (xOp dIx (ah 1) (xUn j9 (xC (.int 1)))) (xC (.int 1))) (ab (ah 3) aj))) aj)))) (ik 1 xPv (xSh (aQ (ab (ak 2) (ab (ak 3) aj)))))
noncomputable def l9:XS:=aA (il (im aj) 1) (aA (d8 (xIt (xL (F4 iB (ab (xL (bq [none,none] (xIt (ah 0)) (aE (ai (af 0) (ai (af 1) aB))) (xB (xOp dLe (ah 0) (ah 1))) (aQ (ab (ak 0) (ab (ak 1) aj))))) aj)))) (aE (ai (af 2) (ai (af 3) aB))) (dh)) (bM (xCB eV (ab (ah 1) aj))))
noncomputable def nL:List D -> Option O:=fnO 4 l9
noncomputable def mG:List D -> Option D:=fun ds=>(nL ds).map O.d
noncomputable def cD:XS:=bM (xCB eV (ab (xL (bq [none,none] (xIt (ah 0)) (aE (ai (af 0) (ai (af 1) aB))) (xB (xOp (dEq true) (ah 1) (aQ aj))) (aQ (ab (ak 0) (ab (ak 1) aj))))) aj))
noncomputable def dq:List D -> Option O:=fnO 1 cD
noncomputable def dW:List D -> Option D:=fun ds=>(dq ds).map O.d
noncomputable def cQ:XS:=uh 1 xPv (xL (bq [none,none,some 2] (xIt (ah 3)) (aE (ai (af 0) (ai (af 1) aB))) cv (aQ (ab (ak 2) (ab (ak 0) (ab (ak 1) aj))))))
noncomputable def dP:XS:=aA (il (im aj) 1) (aA (d8 (xIt (ak 0)) (aE (ai (af 2) (ai (af 3) aB))) (cQ)) (ui 1))
noncomputable def b5:List D -> Option O:=fnO 4 dP
noncomputable def bj:List D -> Option D:=fun ds=>(b5 ds).map O.d
noncomputable def nG:List D -> Option D:=GI (xB (xOp dLt (xCB Ar (ab (ah 1) (ab (ah 2) (ab (ah 3) (ab (ah 4) aj))))) (xC (.int 0)))) (aQ (ab (aQ (ab (aQ (ab (xUn j9 (ah 1)) (ab (xUn j9 (ah 2)) (ab (ak 3) (ab (ak 4) aj))))) aj)) aj))
noncomputable def jm:XS:=aA (ik 1 xPv (xSh (aQ (ab (xOp aR (ah 4) (ah 8)) (ab (ak 6) (ab (xOp aR (ah 7) (xC (.int 1))) aj)))))) (ik 2 xPv (xSh (aQ (ab (xOp dG (xOp aR (xOp oQ (xC (.int 2)) (ah 4)) (xOp oQ (xC (.int 2)) (ah 8))) (xC (.int 1))) (ab (ak 6) (ab (ak 7) aj))))))
noncomputable def eK:XS:=aA (ik 3 xPv (xSh (aQ (ab (ak 4) (ab (ak 6) (ab (ak 7) aj)))))) (aA (ik 2 xPv (xSh (aQ (ab (xOp oQ (xC (.int 2)) (ah 4)) (ab (ak 6) (ab (xOp aR (ah 7) (xC (.int 1))) aj)))))) (d8 (xIt (xL (im (ab (xC (.int 0)) (ab (xC (.int 1)) aj))))) (af 8) (jm)))
noncomputable def eL:XS:=d8 (xIt (ak 5)) (aE (ai (af 6) (ai (af 7) aB))) (eK)
noncomputable def jW:XS:=aA (il (im aj) 1) (aA (il (im aj) 2) (aA (il (im aj) 3) (aA (d8 (xIt (ak 0)) (aE (ai (af 4) (ai (af 5) aB))) (eL)) (Ai 3 (Ai 2 (Ai 1 (bM (xOp aR (xOp dG (aq fj (ab (ak 1) aj)) (aq fj (ab (ak 2) aj))) (aq fj (ab (ak 3) aj))))))))))
noncomputable def lm:List D -> Option O:=fnO 9 jW
noncomputable def gZ:List D -> Option D:=fun ds=>(lm ds).map O.d
noncomputable def dM:XS:=bB (xOp aR (ah 6) (xOp iG (xOp oQ (xC (.int 5)) (xOp dIx (ah 0) (ah 7))) (xC (.int 256)))) (af 6)
noncomputable def dN:XS:=aA (bB (xOp kQ (xOp iG (xOp oQ (xOp dIx (ah 0) (xOp aR (xC (.int 1)) (ah 5))) (xC (.int 48271))) (xC (.int 2147483647))) (xC (.int 37))) (af 6)) (aA (d8 (Be (ab (xOp aR (xC (.int 21)) (ah 5)) (ab (xCB pQ (ab (xCB iA (ab (ah 0) aj)) (ab (xC (.int 99)) aj))) (ab (xC (.int 20)) aj)))) (af 7) (dM)) (aA (xIf (xB (xOp (dEq false) (xOp iG (xOp kQ (ah 1) (xC (.int 96))) (xC (.int 2))) (xC (.int 1)))) (bB (xOp iG (xOp dIx (ah 0) (xOp aR (xC (.int 1)) (ah 5))) (xC (.int 256))) (af 6)) dF) (aA (bB (aq zl (ab (ak 6) (ab (ak 2) (ab (xOp (dEq false) (xOp iG (ah 1) (xC (.int 3))) (xC (.int 1))) (ab (xOp (dEq false) (xOp iG (xOp kQ (ah 1) (xC (.int 48))) (xC (.int 2))) (xC (.int 0))) aj))))) (af 8)) (xIf (xB (xOp dGt (xCB iA (ab (ah 8) aj)) (xC (.int 0)))) (ik 4 xPv (xSh (aQ (ab (xOp aR (ah 3) (ah 5)) (ab (ak 8) aj))))) dF))))
noncomputable def ir:XS:=aA (bB (aq fM (ab (ak 0) (ab (xC (.int 0)) aj))) (af 1)) (aA (bB (aq g6 (ab (xOp kQ (ah 1) (xC (.int 12))) (ab (xOp dIx (xL (im (ab (xC (.int 9)) (ab (xOp wE (xC (.int 10)) (xC (.int 58))) aj)))) (xOp iG (xOp kQ (ah 1) (xC (.int 3))) (xC (.int 2)))) aj))) (af 2)) (aA (bB (aq g6 (ab (xOp kQ (ah 1) (xC (.int 24))) (ab (xOp dIx (xL (im (ab (xC (.int 9)) (ab (xOp wE (xC (.int 10)) (xC (.int 58))) aj)))) (xOp iG (xOp kQ (ah 1) (xC (.int 6))) (xC (.int 2)))) aj))) (af 3)) (aA (il (im aj) 4) (aA (d8 (F8 (ab (xCB pQ (ab (xC (.int 20)) (ab (xOp dG (xCB iA (ab (ah 0) aj)) (xC (.int 1))) aj))) aj)) (af 5) (dN)) (bM (xCB eV (ab (ah 4) aj)))))))
noncomputable def jJ:List D -> Option O:=fnO 9 ir
noncomputable def lg:List D -> Option D:=fun ds=>(jJ ds).map O.d
noncomputable def de:XS:=bM (xSl (ah 0) (Ba (xCB wm (ab (xC (.int 0)) (ab (xOp dG (aq c0 (ab (ak 0) (ab (ak 1) aj))) (xC (.int 1))) aj)))) (Ba (aq c0 (ab (ak 0) (ab (ak 2) aj)))))
noncomputable def ez:List D -> Option O:=fnO 3 de
noncomputable def eW:List D -> Option D:=fun ds=>(ez ds).map O.d
noncomputable def eD:XS:=bM (xCB Bv (ab (xL (bq [none,none] (xIt (ah 0)) (aE (ai (af 0) (ai (af 1) aB))) cv (aq gz (ab (ak 1) aj)))) aj))
noncomputable def fO:List D -> Option O:=fnO 1 eD
noncomputable def bC:List D -> Option D:=fun ds=>(fO ds).map O.d
noncomputable def pd:XS:=bM (xCB eV (ab (xL (bq [none,none,some 2,some 1] (xIt (ah 0)) (aE (ai (af 0) (ai (af 1) aB))) cv (aQ (ab (xOp aR (ah 0) (ah 2)) (ab (aq gA (ab (ak 1) (ab (ak 3) aj))) aj))))) aj))
noncomputable def qS:List D -> Option O:=fnO 3 pd
noncomputable def u4:List D -> Option D:=fun ds=>(qS ds).map O.d
noncomputable def bg:XS:=aA (xIf (xOr (vR (mY (Bh 1))) (xB (xOp (dEq true) (xFl (xOp dIx (xOp dIx (Bh 1) (xUn j9 (xC (.int 1)))) (xC (.int 0)))) (ah 2)))) (ik 1 xPv (F9 (vQ (xSh (ak 2)) (vQ (F5 F6) F6)))) dF) (ik 1 (xPi (xPi xPv (xUn j9 (xC (.int 1)))) (xC (.int 1))) (xSh (aQ (ab (ak 3) (ab (ak 4) aj)))))
noncomputable def e7:XS:=aA (il (im aj) 1) (aA (d8 (xIt (xL (F4 iB (ab (xL (bq [none,none,none] (xIt (ah 0)) (aE (ai (af 0) (ai (af 1) (ai (af 2) aB)))) (xB (xOp dLe (ah 1) (ah 2))) (aQ (ab (ak 0) (ab (ak 1) (ab (ak 2) aj)))))) aj)))) (aE (ai (af 2) (ai (af 3) (ai (af 4) aB)))) (bg)) (Ai 1 (bM (xCB eV (ab (xL (bq [none,none] (xIt (ak 1)) (aE (ai (af 0) (ai (af 1) aB))) cv (aQ (ab (ak 0) (ab (aq mG (ab (ak 1) aj)) aj))))) aj)))))
noncomputable def gI:List D -> Option O:=fnO 5 e7
noncomputable def bQ:List D -> Option D:=fun ds=>(gI ds).map O.d
noncomputable def cB:XS:=bM (aq dW (ab (xL (bq [none,none] (xIt (ah 0)) (aE (ai (af 0) (ai (af 1) aB))) cv (aQ (ab (ak 0) (ab (aq iK (ab (ak 1) aj)) aj))))) aj))
noncomputable def dm:List D -> Option O:=fnO 1 cB
noncomputable def cE:List D -> Option D:=fun ds=>(dm ds).map O.d
noncomputable def gO:XS:=aA (bB (aq c0 (ab (ak 0) (ab (ak 1) aj))) (af 2)) (aA (xIf (vO (xB (xOp dGt (ah 2) (xC (.int 0)))) (xB (xOp (dEq false) (xOp dIx (xOp dIx (ah 0) (xOp dG (ah 2) (xC (.int 1)))) (xC (.int 0))) (ah 1)))) (bM (xOp dIx (xOp dIx (ah 0) (xOp dG (ah 2) (xC (.int 1)))) (xC (.int 1)))) dF) (bM (aQ aj)))
noncomputable def g8:List D -> Option O:=fnO 3 gO
noncomputable def cM:List D -> Option D:=fun ds=>(g8 ds).map O.d
noncomputable def aK:XS:=xIf (xOr (xB (xOp (dEq false) (ah 4) (aQ aj))) (xOr (xB (xOp dLt (ah 2) (xOp dIx (xOp dIx (ah 4) (xC (.int 0))) (xC (.int 0))))) (xB (xOp dGt (ah 3) (xOp dIx (xOp dIx (ah 4) (xUn j9 (xC (.int 1)))) (xC (.int 1))))))) (bM (xC (.bl true))) dF
noncomputable def gN:XS:=aA (d8 (xIt (aQ (ab (aq cM (ab (ak 0) (ab (xOp dG (ah 1) (xC (.int 1))) aj))) (ab (aq cM (ab (ak 0) (ab (xOp aR (ah 1) (xC (.int 1))) aj))) aj)))) (af 4) (aK)) (bM (xC (.bl false)))
noncomputable def lu:List D -> Option O:=fnO 5 gN
noncomputable def cj:List D -> Option D:=fun ds=>(lu ds).map O.d
noncomputable def uu:XS:=bM (aq bQ (ab (xOp aR (aq bj (ab (ak 0) aj)) (aq bj (ab (ak 1) aj))) aj))
noncomputable def u7:List D -> Option O:=fnO 2 uu
noncomputable def zn:List D -> Option D:=fun ds=>(u7 ds).map O.d
noncomputable def bO:XS:=bM (aq bQ (ab (xL (bq [none,none,none,none] (xIt (ah 0)) (aE (ai (af 0) (ai (af 1) (ai (af 2) (ai (af 3) aB))))) cv (aQ (ab (ak 0) (ab (ak 1) (ab (ak 2) aj)))))) aj))
noncomputable def cV:List D -> Option O:=fnO 1 bO
noncomputable def bR:List D -> Option D:=fun ds=>(cV ds).map O.d
noncomputable def bv:XS:=uh 5 xPv (xL (bq [none,none,some 6,some 3] (xIt (aq eW (ab (aq cM (ab (ak 0) (ab (ak 6) aj))) (ab (ak 3) (ab (ak 4) aj))))) (aE (ai (af 0) (ai (af 1) aB))) (xB (xOp dGe (ah 1) (ah 3))) (aQ (ab (ak 2) (ab (ak 0) (ab (ak 1) aj))))))
noncomputable def iy:XS:=aA (bB (xOp dG (xOp dIx (ah 1) (xC (.int 1))) (ah 2)) (af 3)) (aA (bB (xOp aR (xOp dIx (ah 1) (xC (.int 2))) (ah 2)) (af 4)) (aA (il (im aj) 5) (aA (d8 (xIt (aQ (ab (xOp dG (xOp dIx (ah 1) (xC (.int 0))) (xC (.int 1))) (ab (xOp aR (xOp dIx (ah 1) (xC (.int 0))) (xC (.int 1))) aj)))) (af 6) (bv)) (ui 5))))
noncomputable def jL:List D -> Option O:=fnO 7 iy
noncomputable def iL:List D -> Option D:=fun ds=>(jL ds).map O.d
noncomputable def bW:XT:=xB (xOp dLt (ah 2) (ah 1))
noncomputable def dc:XS:=aA (bB (xCB pQ (ab (xOp aR (ah 2) (xC (.int 1))) (ab (xOp dG (ah 1) (ah 2)) aj))) (af 3)) (aA (bB (aq zn (ab (ak 0) (ab (aq u4 (ab (ak 0) (ab (xC (.int 0)) (ab (ak 3) aj)))) aj))) (af 0)) (HV 2 (ah 3) wD))
noncomputable def eF:XS:=aA (bB (xC (.int 0)) (af 2)) (aA (d7 (bW) (dc)) (bM (ak 0)))
noncomputable def fQ:List D -> Option O:=fnO 4 eF
noncomputable def eJ:List D -> Option D:=fun ds=>(fQ ds).map O.d
noncomputable def b9:XT:=xB (xOp dLt (ah 5) (xCB iA (ab (ah 3) aj)))
noncomputable def b8:XS:=xIf (xB (C6 true (ak 6) 4)) (aA (F7 4 (ak 6)) (ik 3 xPv (xSh (xOp aR (ah 6) (aQ (ab (ak 5) aj)))))) dF
noncomputable def cW:XS:=aA (d8 (xIt (aq iL (ab (ak 0) (ab (xOp dIx (ah 3) (ah 5)) (ab (ak 2) aj))))) (af 6) (b8)) (HV 5 (xC (.int 1)) wD)
noncomputable def eM:XS:=aA (il (im (ab (xOp aR (ah 1) (aQ (ab (xC .non) aj))) aj)) 3) (aA (r8 (yt (ak 1)) 4) (aA (bB (xC (.int 0)) (af 5)) (aA (d7 (b9) (cW)) (ui 3))))
noncomputable def iR:List D -> Option O:=fnO 7 eM
noncomputable def jH:List D -> Option D:=fun ds=>(iR ds).map O.d
noncomputable def cH:XS:=xIf (xB (C6 true (ak 4) 3)) (aA (ik 2 xPv (xSh (aq jH (ab (ak 0) (ab (ak 4) (ab (ak 1) aj)))))) (Bg 3 (bq [none,none,none,none] (xIt (xOp dIx (ah 2) (xUn j9 (xC (.int 1))))) (aE (ai (af 0) (ai (af 1) (ai (af 2) (ai (af 3) aB))))) cv (aQ (ab (aQ (ab (ak 0) (ab (ak 1) (ab (ak 2) aj)))) (ab (xC (.bl true)) aj)))))) dF
noncomputable def e6:XS:=aA (il (im aj) 2) (aA (r8 IH 3) (aA (d8 (xIt (aq bj (ab (ak 0) aj))) (af 4) (cH)) (ui 2)))
noncomputable def gH:List D -> Option O:=fnO 5 e6
noncomputable def fb:List D -> Option D:=fun ds=>(gH ds).map O.d
noncomputable def bh:XS:=aA (bB (xL (bq [none,none,none,some 1] (xIt (aq bj (ab (ak 0) aj))) (aE (ai (af 0) (ai (af 1) (ai (af 2) aB)))) cv (aQ (ab (xOp aR (ah 0) (xOp dIx (ah 3) (xC (.int 1)))) (ab (xOp aR (ah 1) (xOp dIx (ah 3) (xC (.int 0)))) (ab (xOp aR (ah 2) (xOp dIx (ah 3) (xC (.int 2)))) aj)))))) (af 2)) (aA (xIf (xB (xOp (dEq false) (xOp dIx (ah 1) (xC (.int 1))) (xOp dIx (ah 1) (xC (.int 3))))) (bM (ak 2)) dF) (bM (aq bj (ab (aq eJ (ab (aq bQ (ab (ak 2) aj)) (ab (xOp dG (xOp dIx (ah 1) (xC (.int 3))) (xOp dIx (ah 1) (xC (.int 1)))) aj))) aj))))
noncomputable def bI:List D -> Option O:=fnO 3 bh
noncomputable def bP:List D -> Option D:=fun ds=>(bI ds).map O.d
noncomputable def bG:XS:=uh 2 xPv (aq bP (ab (ak 0) (ab (ak 3) aj)))
noncomputable def cz:XS:=aA (il (im aj) 2) (aA (d8 (xIt (ak 1)) (af 3) (bG)) (Ai 2 (bM (aq bQ (ab (ak 2) aj)))))
noncomputable def di:List D -> Option O:=fnO 4 cz
noncomputable def dU:List D -> Option D:=fun ds=>(di ds).map O.d
noncomputable def l7:XS:=aA (bB (aq fb (ab (aq cE (ab (ak 0) aj)) (ab (xC (.int (0))) aj))) (af 1)) (Bd (xLT (bq [none,some 0] (xIt (ah 1)) (af 0) (vR (mY (xCB yE (ab (xL (bq [none,none,none,none,some 1] (xIt (ah 0)) (aE (ai (af 0) (ai (af 1) (ai (af 2) (ai (af 3) aB))))) cv (aq cj (ab (ak 4) (ab (ak 0) (ab (ak 1) (ab (ak 2) aj))))))) aj)))) (ak 0))))
noncomputable def qR:List D -> Option O:=fnO 2 l7
noncomputable def eI:List D -> Option D:=fun ds=>(qR ds).map O.d
noncomputable def l8:XS:=bM (aq fb (ab (ak 0) (ab (xC (.int (1))) aj)))
noncomputable def nK:List D -> Option O:=fnO 1 l8
noncomputable def jE:List D -> Option D:=fun ds=>(nK ds).map O.d
noncomputable def bK:XS:=bB (aq dU (ab (ak 1) (ab (ak 2) aj))) (af 1)
noncomputable def cJ:XS:=aA (d8 (uj (ab (C5 NS "parts" (ak 0)) aj)) (af 2) (bK)) (bM (ak 1))
noncomputable def jf:List D -> Option O:=fnO 3 cJ
noncomputable def bL:List D -> Option D:=fun ds=>(jf ds).map O.d
noncomputable def ip:XS:=uh 1 xPv (xL (bq [none,none,none,none] (xIt (ah 2)) (aE (ai (af 0) (ai (af 1) (ai (af 2) (ai (af 3) aB))))) cv (aQ (ab (ak 0) (ab (ak 1) (ab (ak 2) aj))))))
noncomputable def ju:XS:=aA (r8 (vP b5 (ab (ak 0) aj)) 1) (aA (d8 (xIt (aq eI (ab (ak 0) aj))) (af 2) (ip)) (Ai 1 (bM (aq bQ (ab (ak 1) aj)))))
noncomputable def nJ:List D -> Option O:=fnO 3 ju
noncomputable def mF:List D -> Option D:=fun ds=>(nJ ds).map O.d
noncomputable def jX:XS:=bM (aq bC (ab (yv NS "greater" bL (yu "Box" "parts" nG (ab (xC (.int 0)) (ab (xC (.int 0)) (ab (xC (.int 1)) (ab (xC (.int 1)) aj))))) (ab (ak 0) aj)) aj))
noncomputable def ln:List D -> Option O:=fnO 1 jX
noncomputable def nw:List D -> Option D:=fun ds=>(ln ds).map O.d
noncomputable def pb:XS:=aA (bB (aq bC (ab (yv NS "greater" bL (yu "Box" "parts" nG (ab (xC (.int 0)) (ab (xC (.int 0)) (ab (xC (.int 1)) (ab (xC (.int 0)) aj))))) (ab (ak 0) aj)) aj)) (af 1)) (aA (bB (aq bC (ab (yv NS "greater" bL (yu "Box" "parts" nG (ab (xC (.int 0)) (ab (xC (.int 0)) (ab (xC (.int 0)) (ab (xC (.int 1)) aj))))) (ab (ak 0) aj)) aj)) (af 2)) (bM (xOp aR (ah 1) (ah 2))))
noncomputable def qQ:List D -> Option O:=fnO 3 pb
noncomputable def uY:List D -> Option D:=fun ds=>(qQ ds).map O.d
noncomputable def eG:XS:=bM (xOp aR (xOp dG (aq nw (ab (ak 0) aj)) (aq uY (ab (ak 0) aj))) (aq bC (ab (ak 0) aj)))
noncomputable def fT:List D -> Option O:=fnO 1 eG
noncomputable def gG:List D -> Option D:=fun ds=>(fT ds).map O.d
noncomputable def lZ:XS:=aA (bB (aq bR (ab (ak 5) aj)) (af 6)) (xIf (xOr (xB (xOp (dEq true) (xCB iA (ab (aq jE (ab (ak 6) aj)) aj)) (xC (.int 1)))) (xB (xOp (dEq true) (xOp dG (xC (.int 1)) (xCB iA (ab (aq eI (ab (ak 6) aj)) aj))) (aq gZ (ab (ak 6) aj))))) (bM (xC (.bl false))) dF)
noncomputable def Aq:XS:=aA (bB (aq lg (ab (ak 0) aj)) (af 1)) (aA (bB (aq jE (ab (ak 1) aj)) (af 2)) (aA (bB (xOp dG (xCB iA (ab (ah 2) aj)) (xCB iA (ab (aq eI (ab (ak 1) aj)) aj))) (af 3)) (aA (xIf (xOr (xB (xOp (dEq true) (ah 3) (aq gZ (ab (ak 1) aj)))) (xB (xOp (dEq true) (aq gG (ab (ak 1) aj)) (ah 3)))) (bM (xC (.bl false))) dF) (aA (bB (aq mF (ab (ak 1) aj)) (af 4)) (aA (xIf (xOr (xB (xOp (dEq true) (xCB iA (ab (aq jE (ab (ak 4) aj)) aj)) (aq gZ (ab (ak 4) aj)))) (xB (xOp (dEq true) (aq eI (ab (ak 4) aj)) (xL (im aj))))) (bM (xC (.bl false))) dF) (aA (d8 (xIt (ak 2)) (af 5) (lZ)) (bM (xC (.bl true)))))))))
noncomputable def zu:List D -> Option O:=fnO 7 Aq
noncomputable def Im:List D -> Option D:=fun ds=>(zu ds).map O.d
local macro_rules | `(tactic| and_intros)=>`(tactic| repeat' first | (with_reducible first | refine' Nz (yb ?_) | exact Lc | exact Lf | exact IX | exact IY | exact Du | exact Lg | exact Gj | exact Js _ | exact Lr | exact JG | exact LK _ | exact L9 | exact Ma | exact Nn _ | exact No | exact Np | exact Hr | exact Nq | exact Nr | exact Mb | exact Mc | exact Md | exact Fi | exact Ka | exact Me | exact Mf | exact Kj | exact Kq | exact Ku _ | exact Fy _ | exact lN _ | exact KA _ | exact MB | exact vz | exact FI | exact KF | apply SE.t | apply SF.e | apply SF.t | apply SQ.fl | apply STr.e | apply Jr | apply Ls | apply Ly | apply Ju | apply Jv | apply Lz | apply Jw | apply GT | apply Nk | apply Ml | apply Kf | apply Mm | apply Kg | apply Fv | apply Mn | apply Mo | apply Mp | apply Ki | apply Kl | apply Km | apply Mq | apply Mr | apply Mu | apply Nv | apply Mv | apply Kn | apply Mw | apply yb | apply Mx | apply My | apply Nw | apply Kr | apply Ks | apply Mz | apply Kt | apply MA | apply Kv | apply Ny | apply Fx | apply Kw | apply A2 | apply Kx | apply Ky | apply Kz | apply Hu | apply iY | apply mP | apply HB | apply SE.p | apply SPk.q | apply SI.p) | exact s_c rfl | apply Eo | exact fun _ _ h=>GR h | refine' Kh (E:=E0) ?_ ?_ | refine' A0 (E:=E0) ?_ ?_ | refine' Kp (Ns:=NS) ?_ ?_ ?_ | refine' Ko (Ns:=NS) ?_ ?_ ?_ | exact List.Mem.head _ | exact List.Mem.tail _ (List.Mem.head _) | decide +kernel)
noncomputable abbrev ie (K:W.Frag):Sp:=rJ K NS "parts" 1 GH
noncomputable abbrev yi (K:W.Frag):Sp:=bD K 2 gC
noncomputable abbrev xR (K:W.Frag):{ t:TS // SS K t fB }:=⟨_,by delta fB;and_intros⟩
noncomputable abbrev zV (K:W.Frag):Sp:=bD K 1 ll
noncomputable abbrev zK (K:W.Frag):{ t:TS // SS K t jV }:=⟨_,by delta jV aS;and_intros⟩
noncomputable abbrev Hz (K:W.Frag):Sp:=bD K 4 u6
noncomputable abbrev Hf (K:W.Frag):{ t:TS // SS K t ut }:=⟨_,by delta ut jn;and_intros⟩
noncomputable abbrev zX (K:W.Frag):Sp:=bD K 2 iM
noncomputable abbrev zM (K:W.Frag):{ t:TS // SS K t gM }:=⟨_,by delta gM;and_intros⟩
noncomputable abbrev rL (K:W.Frag):Sp:=bD K 2 fP
noncomputable abbrev re (K:W.Frag):{ t:TS // SS K t eE }:=⟨_,by delta eE bU bV;and_intros⟩
noncomputable abbrev vD (K:W.Frag):Sp:=bD K 1 iP
noncomputable abbrev vm (K:W.Frag):{ t:TS // SS K t gk }:=⟨_,by delta gk;and_intros⟩
noncomputable abbrev yl (K:W.Frag):Sp:=bD K 1 jK
noncomputable abbrev xT (K:W.Frag):{ t:TS // SS K t iw }:=⟨_,by delta iw;and_intros⟩
noncomputable abbrev vE (K:W.Frag):Sp:=bD K 2 iQ
noncomputable abbrev vn (K:W.Frag):{ t:TS // SS K t gq }:=⟨_,by delta gq;and_intros⟩
noncomputable abbrev CP (K:W.Frag):Sp:=bD K 1 nL
noncomputable abbrev Cz (K:W.Frag):{ t:TS // SS K t l9 }:=⟨_,by delta l9 dh;and_intros⟩
noncomputable abbrev lU (K:W.Frag):Sp:=bD K 1 dq
noncomputable abbrev lI (K:W.Frag):{ t:TS // SS K t cD }:=⟨_,by delta cD;and_intros⟩
noncomputable abbrev o8 (K:W.Frag):Sp:=bD K 1 b5
noncomputable abbrev o6 (K:W.Frag):{ t:TS // SS K t dP }:=⟨_,by delta dP cQ;and_intros⟩
noncomputable abbrev ji (K:W.Frag):Sp:=rJ K NS "parts" 4 nG
noncomputable abbrev zW (K:W.Frag):Sp:=bD K 1 lm
noncomputable abbrev zL (K:W.Frag):{ t:TS // SS K t jW }:=⟨_,by delta jW eL eK jm;and_intros⟩
noncomputable abbrev yj (K:W.Frag):Sp:=bD K 1 jJ
noncomputable abbrev xS (K:W.Frag):{ t:TS // SS K t ir }:=⟨_,by delta ir dN dM;and_intros⟩
noncomputable abbrev nW (K:W.Frag):Sp:=bD K 3 ez
noncomputable abbrev nR (K:W.Frag):{ t:TS // SS K t de }:=⟨_,by delta de;and_intros⟩
noncomputable abbrev rK (K:W.Frag):Sp:=bD K 1 fO
noncomputable abbrev rc (K:W.Frag):{ t:TS // SS K t eD }:=⟨_,by delta eD;and_intros⟩
noncomputable abbrev FH (K:W.Frag):Sp:=bD K 3 qS
noncomputable abbrev E3 (K:W.Frag):{ t:TS // SS K t pd }:=⟨_,by delta pd;and_intros⟩
noncomputable abbrev sF (K:W.Frag):Sp:=bD K 1 gI
noncomputable abbrev sC (K:W.Frag):{ t:TS // SS K t e7 }:=⟨_,by delta e7 bg;and_intros⟩
noncomputable abbrev lS (K:W.Frag):Sp:=bD K 1 dm
noncomputable abbrev lH (K:W.Frag):{ t:TS // SS K t cB }:=⟨_,by delta cB;and_intros⟩
noncomputable abbrev CO (K:W.Frag):Sp:=bD K 2 g8
noncomputable abbrev Cy (K:W.Frag):{ t:TS // SS K t gO }:=⟨_,by delta gO;and_intros⟩
noncomputable abbrev zZ (K:W.Frag):Sp:=bD K 4 lu
noncomputable abbrev zO (K:W.Frag):{ t:TS // SS K t gN }:=⟨_,by delta gN aK;and_intros⟩
noncomputable abbrev HA (K:W.Frag):Sp:=bD K 2 u7
noncomputable abbrev Hg (K:W.Frag):{ t:TS // SS K t uu }:=⟨_,by delta uu;and_intros⟩
noncomputable abbrev kj (K:W.Frag):Sp:=bD K 1 cV
noncomputable abbrev kg (K:W.Frag):{ t:TS // SS K t bO }:=⟨_,by delta bO;and_intros⟩
noncomputable abbrev ym (K:W.Frag):Sp:=bD K 3 jL
noncomputable abbrev xU (K:W.Frag):{ t:TS // SS K t iy }:=⟨_,by delta iy bv;and_intros⟩
noncomputable abbrev rM (K:W.Frag):Sp:=bD K 2 fQ
noncomputable abbrev rg (K:W.Frag):{ t:TS // SS K t eF }:=⟨_,by delta eF dc bW;and_intros⟩
noncomputable abbrev vF (K:W.Frag):Sp:=bD K 3 iR
noncomputable abbrev vo (K:W.Frag):{ t:TS // SS K t eM }:=⟨_,by delta eM cW b8 b9;and_intros⟩
noncomputable abbrev sE (K:W.Frag):Sp:=bD K 2 gH
noncomputable abbrev sw (K:W.Frag):{ t:TS // SS K t e6 }:=⟨_,by delta e6 cH;and_intros⟩
noncomputable abbrev ki (K:W.Frag):Sp:=bD K 2 bI
noncomputable abbrev kf (K:W.Frag):{ t:TS // SS K t bh }:=⟨_,by delta bh;and_intros⟩
noncomputable abbrev lR (K:W.Frag):Sp:=bD K 2 di
noncomputable abbrev lG (K:W.Frag):{ t:TS // SS K t cz }:=⟨_,by delta cz bG;and_intros⟩
noncomputable abbrev FF (K:W.Frag):Sp:=bD K 1 qR
noncomputable abbrev E2 (K:W.Frag):{ t:TS // SS K t l7 }:=⟨_,by delta l7;and_intros⟩
noncomputable abbrev CN (K:W.Frag):Sp:=bD K 1 nK
noncomputable abbrev Cw (K:W.Frag):{ t:TS // SS K t l8 }:=⟨_,by delta l8;and_intros⟩
noncomputable abbrev jj (K:W.Frag):Sp:=bD K 2 jf
noncomputable abbrev oZ (K:W.Frag):{ t:TS // SS K t cJ }:=⟨_,by delta cJ bK;and_intros⟩
noncomputable abbrev CM (K:W.Frag):Sp:=bD K 1 nJ
noncomputable abbrev Cv (K:W.Frag):{ t:TS // SS K t ju }:=⟨_,by delta ju ip;and_intros⟩
noncomputable abbrev zY (K:W.Frag):Sp:=bD K 1 ln
noncomputable abbrev zN (K:W.Frag):{ t:TS // SS K t jX }:=⟨_,by delta jX;and_intros⟩
noncomputable abbrev FE (K:W.Frag):Sp:=bD K 1 qQ
noncomputable abbrev E1 (K:W.Frag):{ t:TS // SS K t pb }:=⟨_,by delta pb;and_intros⟩
noncomputable abbrev rN (K:W.Frag):Sp:=bD K 1 fT
noncomputable abbrev rh (K:W.Frag):{ t:TS // SS K t eG }:=⟨_,by delta eG;and_intros⟩
noncomputable abbrev vC (K:W.Frag):Sp:=bD K 1 zu
noncomputable abbrev JY (K:W.Frag):{ t:TS // SS K t Aq }:=⟨_,by delta Aq lZ;and_intros⟩
end P
namespace P
open PySem L2 M Rw
noncomputable def sn (p:Int × Int):List Int:=[p.1,p.2]
theorem xp:∀ r:R,keys (r.map prD) = some (r.map sn)
 | []=>rfl
 | p :: r=>by
  rw [List.map_cons,keys,xp r]
  rfl
theorem Ef:∀ {r:R},r ≠ [] -> bi (r.map prD) = none
 | [],h=>absurd rfl h
 | p :: r,_=>rfl
noncomputable def AL:List Int -> Int × Int
 | [a,b]=>(a,b)
 | _=>(0,0)
noncomputable def kL (ps:R):R:=(fZ (ps.map sn)).map AL
theorem rH (ps:R):(kL ps).map sn = fZ (ps.map sn):=by
 unfold kL
 rw [List.map_map]
 have h:∀ k ∈ fZ (ps.map sn),(sn ∘ AL) k = k:=fun k hk=>by
  have:=(f7 _).mem_iff.mp hk
  obtain ⟨p,_,rfl⟩:=List.mem_map.mp this
  rfl
 rw [List.map_congr_left h,List.map_id']
theorem f8 (ps:R):(kL ps).Perm ps:=by
 have h:=(f7 (ps.map sn)).map AL
 rw [List.map_map] at h
 have e:(AL ∘ sn) = id:=rfl
 rw [e,List.map_id] at h
 exact h
theorem FD (ps:R):(kL ps).Pairwise fun p q=>p.1 <= q.1:=by
 have h:=mO (ps.map sn)
 rw [<- rH,List.pairwise_map] at h
 refine h.imp fun {p q} e=>?_
 have e':(if q.1 = p.1 then HT.bx [q.2] [p.2] else decide (q.1 < p.1)) = false:=e
 by_cases hq:q.1 = p.1
 ·lia
 ·rw [if_neg hq] at e'
  have:=of_decide_eq_false e'
  lia
theorem wn (ps:R) (h:ps.length < 30000):iB [Cc ps] = some ((kL ps).map prD):=by
 show (if (ps.map prD).length < 30000 then _ else _) = _
 rw [if_pos (by rw [List.length_map];exact h)]
 by_cases e:ps = []
 ·subst e
  have e0:kL [] = []:=List.length_eq_zero_iff.mp (by rw [(f8 []).length_eq];rfl)
  have e1:oI [] = []:=List.length_eq_zero_iff.mp (by rw [(lP []).length_eq];rfl)
  show some ((oI []).map D.int) = _
  rw [e0,e1]
  rfl
 ·rw [Ef e]
  dsimp only
  rw [xp]
  have:(kL ps).map prD = (fZ (ps.map sn)).map sH:=by
   rw [<- rH,List.map_map]
   rfl
  rw [this]
  rfl
noncomputable def nk (p:Int × Int):Bool:=decide (p.1 <= p.2)
noncomputable def kF (ps:R):R:=kD (kL (ps.filter nk))
theorem gw (ps:R):HW ps (kF ps):=by
 refine ED ?_ (FD _) fun x=>?_
 ·intro p hp
  have:=(f8 _).mem_iff.mp hp
  simpa [nk] using (List.mem_filter.mp this).2
 ·rw [Ez (f8 _)]
  exact mem_filter ps x
theorem FK (acc:R) (p:Int × Int):(step acc p).length <= acc.length + 1:=by
 rcases List.eq_nil_or_concat acc with rfl | ⟨t,q,rfl⟩
 ·simp [Rw.step]
 ·rw [List.concat_eq_append,nX]
  split <;> simp
theorem nF:∀ (l acc:R),(l.foldl step acc).length <= acc.length + l.length
 | [],acc=>by simp
 | p :: l,acc=>by
  have h1:=nF l (step acc p)
  have h2:=FK acc p
  rw [List.foldl_cons,List.length_cons]
  lia
theorem CF (ps:R):(kF ps).length <= ps.length:=by
 have h1:=nF (kL (ps.filter nk)) []
 have h2:=(f8 (ps.filter nk)).length_eq
 have h3:=List.length_filter_le nk ps
 unfold kF kD
 simp only [List.length_nil] at h1
 lia
theorem aI {n:Nat} (h:n <= 100000):n <= LIM:=Nat.le_trans h (by rw [eh];decide)
theorem bH {n:Nat} (h:n <= 100000):n < LIM:=Nat.lt_of_le_of_lt h (by rw [eh];decide)
theorem vL (a b:Int):D.tup [.int a,.int b] = prD (a,b):=rfl
theorem tF:∀ ps:R,ps.filterMap (fun p=>if p.1 <= p.2 then some (prD p) else none) = (ps.filter nk).map prD
 | []=>rfl
 | p :: t=>by
  rw [List.filterMap_cons,List.filter_cons,tF t]
  by_cases h:p.1 <= p.2
  ·simp [nk,h]
  ·simp [nk,h]
theorem BD (ps:R):bF (aE (ai (af 0) (ai (af 1) aB))) (xB (xOp dLe (ah 0) (ah 1))) (aQ (ab (ak 0) (ab (ak 1) aj))) [.un,.un] (ps.map prD) = some ((ps.filter nk).map prD):=by
 rw [fG prD (fun p=>if p.1 <= p.2 then some (prD p) else none) ps,tF]
 intro p _
 by_cases h:p.1 <= p.2 <;> simp [gJ,h]
theorem zt (pre:R) (p:Int × Int):kD (pre ++ [p]) = step (kD pre) p:=by
 unfold kD
 rw [List.foldl_append]
 rfl
theorem EC (pre:R):(kD pre).length <= pre.length:=by
 have:=nF pre []
 unfold kD
 simpa using this
theorem HX {r:R} {i:Nat} {p:Int × Int} (h:r[i]? = some p):atI (r.map prD) (i:Int) = some (prD p):=fD (by rw [List.getElem?_map,h];rfl)
theorem qA (n:Nat):eY 0 n = (List.range n).map fun k:Nat=>D.int (k:Int):=by
 apply List.ext_getElem?
 intro i
 cases q:(eY 0 n)[i]? with
 | none=>
  have:=List.getElem?_eq_none_iff.mp q
  rw [nu] at this
  rw [List.getElem?_eq_none (by rw [List.length_map,List.length_range];exact this)]
 | some d=>
  obtain ⟨h1,rfl⟩:=nr n 0 i d q
  rw [List.getElem?_map,List.getElem?_range h1]
  simp
theorem Gn {α β:Type} (f:α -> β) (xs:List α) (lo hi:Option Int):iE (xs.map f) lo hi = (iE xs lo hi).map f:=by
 unfold iE
 rw [List.length_map,<- List.map_drop,<- List.map_take]
theorem Jg {α:Type} (xs:List α) (lo hi:Option Int):(iE xs lo hi).length <= xs.length:=by
 exact Nat.le_trans (List.length_take_le' _ _) (by rw [List.length_drop];exact Nat.sub_le _ _)
theorem bo {m n:XS} {ρ ρ':M.Env} (h:m ρ = some (.nx ρ')):aA m n ρ = n ρ':=by unfold aA;rw [h]
theorem Lq {n:Nat} {x:XS} {ds:List D} {d:D} (h:x (ds.map .sh ++ List.replicate (n - ds.length) .un) = some (.rt d)):(fnO n x ds).map O.d = some d:=by unfold fnO;rw [h];simp
theorem AZ {n d:Nat} {v:Int} (h:0 <= v):HT.sIx n d (some v) = min v.toNat n:=by
 show (if v < 0 then _ else _) = _
 rw [if_neg (by lia)]
theorem ya (s0:Sl) (acc:R) (a b:Int) (h:acc.length <= 30000):dh [s0,owl (acc.map prD),.sh (.int a),.sh (.int b)] = some (.nx [s0,owl ((step acc (a,b)).map prD),.sh (.int a),.sh (.int b)]):=by
 rcases List.eq_nil_or_concat acc with rfl | ⟨t,q,rfl⟩
 ·simp [dh,Rw.step,prD]
 ·rw [List.concat_eq_append] at *
  rw [nX]
  have hl:t.length + 1 <= 30000:=by simpa using h
  have hlim:t.length + 1 < LIM:=bH (by lia)
  have at1:atI (t.map prD ++ [prD q]) (-1) = some (prD q):=gP _ _
  by_cases hc:a <= q.2 + 1
  ·simp [dh,at1,hc,qD,vL]
  ·simp [dh,at1,hc,hlim,vL]
theorem xw (ps:R) (h:ps.length < 30000):mG [Cc ps] = some (bp (kF ps)):=by
 have hf:=List.length_filter_le nk ps
 have hs:=(f8 (ps.filter nk)).length_eq
 have key:∃ ρ',cT (aE (ai (af 2) (ai (af 3) aB))) dh ((kL (ps.filter nk)).map prD) [.sh (Cc ps),.ow (.lst []),.un,.un] = some (.nx ρ') /\ ∃ va vb,ρ' = [.sh (Cc ps),owl ((kF ps).map prD),va,vb]:=by
  refine aV prD (fun pre ρ=>∃ va vb,ρ = [.sh (Cc ps),owl ((kD pre).map prD),va,vb]) _ _ ⟨_,_,rfl⟩ ?_
  rintro pre p post _ e ⟨va,vb,rfl⟩
  have hp:pre.length <= 30000:=by
   have:=congrArg List.length e
   rw [List.length_append] at this
   lia
  refine ⟨_,_,rfl,.inl (ya _ (kD pre) p.1 p.2 (by have:=EC pre;lia)),.sh (.int p.1),.sh (.int p.2),by rw [zt]⟩
 obtain ⟨ρ',k1,va,vb,rfl⟩:=key
 have hc:=BD ps
 have hb:=wn (ps.filter nk) (by lia)
 have hl:ps.length <= LIM:=aI (by lia)
 simp [mG,nL,fnO,l9,hl,hc,hb,k1]
noncomputable abbrev Tri:=Int × Int × Int
noncomputable abbrev ar (t:Tri):D:=.tup [.int t.1,.int t.2.1,.int t.2.2]
noncomputable abbrev Pic:=List (Int × R)
noncomputable abbrev pyD (q:Int × R):D:=.tup [.int q.1,bp q.2]
noncomputable abbrev am (p:Pic):D:=.tup (p.map pyD)
def ba (ts:List Tri) (x y:Int):Prop:=∃ t ∈ ts,t.1 = y /\ t.2.1 <= x /\ x <= t.2.2
def br (p:Pic) (x y:Int):Prop:=∃ q ∈ p,q.1 = y /\ Mem q.2 x
def ao (p:Pic):Prop:=(∀ q ∈ p,aP q.2 /\ q.2 ≠ []) /\ p.Pairwise fun a b=>a.1 < b.1
theorem hE (x y:Int):¬ br [] x y:=by rintro ⟨_,h,_⟩;cases h
theorem a6 (q:Int × R) (p:Pic) (x y:Int):br (q :: p) x y ↔ (q.1 = y /\ Mem q.2 x) \/ br p x y:=by
 constructor
 ·rintro ⟨s,h,e⟩
  rcases List.mem_cons.mp h with rfl | h
  ·exact .inl e
  ·exact .inr ⟨s,h,e⟩
 ·rintro (e | ⟨s,h,e⟩)
  ·exact ⟨q,List.mem_cons_self,e⟩
  ·exact ⟨s,List.mem_cons_of_mem _ h,e⟩
theorem jM (p q:Pic) (x y:Int):br (p ++ q) x y ↔ br p x y \/ br q x y:=by
 constructor
 ·rintro ⟨s,h,e⟩
  rcases List.mem_append.mp h with h | h
  ·exact .inl ⟨s,h,e⟩
  ·exact .inr ⟨s,h,e⟩
 ·rintro (⟨s,h,e⟩ | ⟨s,h,e⟩)
  ·exact ⟨s,List.mem_append_left _ h,e⟩
  ·exact ⟨s,List.mem_append_right _ h,e⟩
theorem cu (t:Tri) (ts:List Tri) (x y:Int):ba (t :: ts) x y ↔ (t.1 = y /\ t.2.1 <= x /\ x <= t.2.2) \/ ba ts x y:=by
 constructor
 ·rintro ⟨s,h,e⟩
  rcases List.mem_cons.mp h with rfl | h
  ·exact .inl e
  ·exact .inr ⟨s,h,e⟩
 ·rintro (e | ⟨s,h,e⟩)
  ·exact ⟨t,List.mem_cons_self,e⟩
  ·exact ⟨s,List.mem_cons_of_mem _ h,e⟩
theorem cP (a b:List Tri) (x y:Int):ba (a ++ b) x y ↔ ba a x y \/ ba b x y:=by
 constructor
 ·rintro ⟨s,h,e⟩
  rcases List.mem_append.mp h with h | h
  ·exact .inl ⟨s,h,e⟩
  ·exact .inr ⟨s,h,e⟩
 ·rintro (⟨s,h,e⟩ | ⟨s,h,e⟩)
  ·exact ⟨s,List.mem_append_left _ h,e⟩
  ·exact ⟨s,List.mem_append_right _ h,e⟩
theorem ue {a b:List Tri} (h:a.Perm b) (x y:Int):ba a x y ↔ ba b x y:=
 ⟨fun ⟨q,m,e⟩=>⟨q,h.mem_iff.mp m,e⟩,fun ⟨q,m,e⟩=>⟨q,h.mem_iff.mpr m,e⟩⟩
theorem zH:ao []:=⟨fun _ h=>(by cases h),.nil⟩
theorem pcanon_cons {q:Int × R} {p:Pic}:ao (q :: p) ↔ (aP q.2 /\ q.2 ≠ []) /\ (∀ s ∈ p,q.1 < s.1) /\ ao p:=by
 constructor
 ·rintro ⟨h1,h2⟩
  have h3:=List.pairwise_cons.mp h2
  exact ⟨h1 q List.mem_cons_self,h3.1,fun s hs=>h1 s (List.mem_cons_of_mem _ hs),h3.2⟩
 ·rintro ⟨h1,h2,h3,h4⟩
  refine ⟨fun s hs=>?_,List.pairwise_cons.mpr ⟨h2,h4⟩⟩
  rcases List.mem_cons.mp hs with rfl | hs
  ·exact h1
  ·exact h3 s hs
theorem gr {r:R} (c:aP r) (h:r ≠ []):∃ x,Mem r x:=by
 cases r with
 | nil=>exact absurd rfl h
 | cons p r=>exact ⟨p.1,(mem_cons ..).mpr (.inl ⟨Int.le_refl _,(canon_cons.mp c).1⟩)⟩
theorem AV:∀ {p q:Pic},ao p -> ao q -> (∀ x y,br p x y ↔ br q x y) -> p = q
 | [],[],_,_,_=>rfl
 | [],b :: q,_,cq,h=>by
  obtain ⟨⟨c1,c2⟩,_⟩:=pcanon_cons.mp cq
  obtain ⟨x,hx⟩:=gr c1 c2
  exact (hE _ _ ((h x b.1).mpr ((a6 ..).mpr (.inl ⟨rfl,hx⟩)))).elim
 | a :: p,[],cp,_,h=>by
  obtain ⟨⟨c1,c2⟩,_⟩:=pcanon_cons.mp cp
  obtain ⟨x,hx⟩:=gr c1 c2
  exact (hE _ _ ((h x a.1).mp ((a6 ..).mpr (.inl ⟨rfl,hx⟩)))).elim
 | a :: p,b :: q,cp,cq,h=>by
  obtain ⟨⟨ca,na⟩,la,cp'⟩:=pcanon_cons.mp cp
  obtain ⟨⟨cb,nb⟩,lb,cq'⟩:=pcanon_cons.mp cq
  obtain ⟨xa,ha⟩:=gr ca na
  obtain ⟨xb,hb⟩:=gr cb nb
  have ey:a.1 = b.1:=by
   have h1:b.1 <= a.1:=by
    rcases (a6 ..).mp ((h xa a.1).mp ((a6 ..).mpr (.inl ⟨rfl,ha⟩))) with ⟨e,_⟩ | ⟨s,hs,e,_⟩
    ·lia
    ·have:=lb s hs;lia
   have h2:a.1 <= b.1:=by
    rcases (a6 ..).mp ((h xb b.1).mpr ((a6 ..).mpr (.inl ⟨rfl,hb⟩))) with ⟨e,_⟩ | ⟨s,hs,e,_⟩
    ·lia
    ·have:=la s hs;lia
   lia
  have er:a.2 = b.2:=FY ca cb fun x=>by
   have hx:=h x a.1
   rw [a6,a6] at hx
   have n1:¬ br p x a.1:=by rintro ⟨s,hs,e,_⟩;have:=la s hs;lia
   have n2:¬ br q x a.1:=by rintro ⟨s,hs,e,_⟩;have:=lb s hs;lia
   constructor
   ·intro hm
    rcases hx.mp (.inl ⟨rfl,hm⟩) with z | z
    ·exact z.2
    ·exact absurd z n2
   ·intro hm
    rcases hx.mpr (.inl ⟨ey.symm,hm⟩) with z | z
    ·exact z.2
    ·exact absurd z n1
  have eab:a = b:=by
   obtain ⟨a1,a2⟩:=a
   obtain ⟨b1,b2⟩:=b
   simp only at ey er
   rw [ey,er]
  subst eab
  have ih:p = q:=AV cp' cq' fun x y=>by
   have hx:=h x y
   rw [a6,a6] at hx
   constructor
   ·intro hm
    rcases hx.mp (.inr hm) with z | z
    ·obtain ⟨s,hs,e,_⟩:=hm;have:=la s hs;lia
    ·exact z
   ·intro hm
    rcases hx.mpr (.inr hm) with z | z
    ·obtain ⟨s,hs,e,_⟩:=hm;have:=lb s hs;lia
    ·exact z
  rw [ih]
noncomputable def a7 (t:Tri):List Int:=[t.1,t.2.1,t.2.2]
noncomputable def vd:List Int -> Tri
 | [a,b,c]=>(a,b,c)
 | _=>(0,0,0)
theorem tP:∀ r:List Tri,keys (r.map ar) = some (r.map a7)
 | []=>rfl
 | p :: r=>by rw [List.map_cons,keys,tP r];rfl
theorem B2:∀ {r:List Tri},r ≠ [] -> bi (r.map ar) = none
 | [],h=>absurd rfl h
 | _ :: _,_=>rfl
noncomputable def b6 (ts:List Tri):List Tri:=(fZ (ts.map a7)).map vd
theorem lQ (ts:List Tri):(b6 ts).map a7 = fZ (ts.map a7):=by
 unfold b6
 rw [List.map_map]
 have h:∀ k ∈ fZ (ts.map a7),(a7 ∘ vd) k = k:=fun k hk=>by
  have:=(f7 _).mem_iff.mp hk
  obtain ⟨p,_,rfl⟩:=List.mem_map.mp this
  rfl
 rw [List.map_congr_left h,List.map_id']
theorem dw (ts:List Tri):(b6 ts).Perm ts:=by
 have h:=(f7 (ts.map a7)).map vd
 rw [List.map_map] at h
 have e:(vd ∘ a7) = id:=rfl
 rw [e,List.map_id] at h
 exact h
theorem yh (ts:List Tri):(b6 ts).Pairwise fun p q=>p.1 <= q.1:=by
 have h:=mO (ts.map a7)
 rw [<- lQ,List.pairwise_map] at h
 refine h.imp fun {p q} e=>?_
 have e':(if q.1 = p.1 then HT.bx [q.2.1,q.2.2] [p.2.1,p.2.2] else decide (q.1 < p.1)) = false:=e
 by_cases hq:q.1 = p.1
 ·lia
 ·rw [if_neg hq] at e'
  have:=of_decide_eq_false e'
  lia
theorem md (ts:List Tri) (h:ts.length < 30000):iB [.lst (ts.map ar)] = some ((b6 ts).map ar):=by
 show (if (ts.map ar).length < 30000 then _ else _) = _
 rw [if_pos (by rw [List.length_map];exact h)]
 by_cases e:ts = []
 ·subst e
  have e0:b6 [] = []:=List.length_eq_zero_iff.mp (by rw [(dw []).length_eq];rfl)
  have e1:oI [] = []:=List.length_eq_zero_iff.mp (by rw [(lP []).length_eq];rfl)
  show some ((oI []).map D.int) = _
  rw [e0,e1]
  rfl
 ·rw [B2 e]
  dsimp only
  rw [tP]
  have:(b6 ts).map ar = (fZ (ts.map a7)).map sH:=by
   rw [<- lQ,List.map_map]
   rfl
  rw [this]
  rfl
noncomputable def bN (t:Tri):Bool:=decide (t.2.1 <= t.2.2)
theorem yp (ts:List Tri) (x y:Int):ba (ts.filter bN) x y ↔ ba ts x y:=by
 constructor
 ·rintro ⟨q,m,e⟩
  exact ⟨q,(List.mem_filter.mp m).1,e⟩
 ·rintro ⟨q,m,e⟩
  exact ⟨q,List.mem_filter.mpr ⟨m,by simp [bN];lia⟩,e⟩
theorem qj:∀ ps:List Tri,ps.filterMap (fun p=>if p.2.1 <= p.2.2 then some (ar p) else none) = (ps.filter bN).map ar
 | []=>rfl
 | p :: t=>by
  rw [List.filterMap_cons,List.filter_cons,qj t]
  by_cases h:p.2.1 <= p.2.2
  ·simp [bN,h]
  ·simp [bN,h]
theorem yI (ps:List Tri):bF (aE (ai (af 0) (ai (af 1) (ai (af 2) aB)))) (xB (xOp dLe (ah 1) (ah 2))) (aQ (ab (ak 0) (ab (ak 1) (ab (ak 2) aj)))) [.un,.un,.un] (ps.map ar) = some ((ps.filter bN).map ar):=by
 rw [fG ar (fun p=>if p.2.1 <= p.2.2 then some (ar p) else none) ps,qj]
 intro p _
 by_cases h:p.2.1 <= p.2.2 <;> simp [gJ,h]
noncomputable def jb (gs:Pic) (t:Tri):Pic:=match gs.getLast? with
 | none=>[(t.1,[t.2])]
 | some g=>if g.1 = t.1 then gs.dropLast ++ [(g.1,g.2 ++ [t.2])] else gs ++ [(t.1,[t.2])]
theorem BW (t:Tri):jb [] t = [(t.1,[t.2])]:=rfl
theorem k7 (gs:Pic) (g:Int × R) (t:Tri):jb (gs ++ [g]) t = if g.1 = t.1 then gs ++ [(g.1,g.2 ++ [t.2])] else gs ++ [g] ++ [(t.1,[t.2])]:=by
 unfold jb
 simp
noncomputable def cZ (ts:List Tri):Pic:=ts.foldl jb []
theorem qv (pre:List Tri) (t:Tri):cZ (pre ++ [t]) = jb (cZ pre) t:=by
 unfold cZ
 rw [List.foldl_append]
 rfl
structure GOk (gs:Pic) (ts:List Tri):Prop where
 ne:∀ g ∈ gs,g.2 ≠ [] /\ Ok g.2
 up:gs.Pairwise fun a b=>a.1 < b.1
 mem:∀ x y,br gs x y ↔ ba ts x y
 le:∀ g ∈ gs,∃ t ∈ ts,g.1 = t.1
 len:(gs.map fun g=>g.2.length).sum = ts.length
theorem D4 {gs:Pic} {ts:List Tri} {t:Tri} (o:GOk gs ts) (ht:t.2.1 <= t.2.2) (hb:∀ s ∈ ts,s.1 <= t.1):GOk (jb gs t) (ts ++ [t]):=by
 have tm:∀ x y,ba (ts ++ [t]) x y ↔ ba ts x y \/ (t.1 = y /\ t.2.1 <= x /\ x <= t.2.2):=fun x y=>by
  rw [cP,cu]
  constructor
  ·rintro (h | h | ⟨_,h,_⟩)
   ·exact .inl h
   ·exact .inr h
   ·cases h
  ·rintro (h | h)
   ·exact .inl h
   ·exact .inr (.inl h)
 have okt:Ok [t.2]:=fun p hp=>by rw [List.mem_singleton.mp hp];exact ht
 rcases List.eq_nil_or_concat gs with rfl | ⟨gs0,g,rfl⟩
 ·rw [BW]
  have e0:ts = []:=List.length_eq_zero_iff.mp (by have:=o.len;simpa using this.symm)
  subst e0
  refine ⟨fun g hg=>?_,List.pairwise_singleton _ _,fun x y=>?_,fun g hg=>⟨t,by simp,by rw [List.mem_singleton.mp hg]⟩,by simp⟩
  ·rw [List.mem_singleton.mp hg];exact ⟨by simp,okt⟩
  ·rw [tm,a6,mem_cons]
   constructor
   ·rintro (⟨h1,h2 | h2⟩ | h)
    ·exact .inr ⟨h1,h2⟩
    ·exact (dX _ h2).elim
    ·exact (hE _ _ h).elim
   ·rintro (⟨_,h,_⟩ | h)
    ·cases h
    ·exact .inl ⟨h.1,.inl h.2⟩
 ·rw [List.concat_eq_append] at *
  have up:=List.pairwise_append.mp o.up
  rw [k7]
  have glast:g.1 <= t.1:=by
   obtain ⟨s,hs,e⟩:=o.le g (by simp)
   have:=hb s hs
   lia
  by_cases h:g.1 = t.1
  ·rw [if_pos h]
   refine ⟨fun q hq=>?_,?_,fun x y=>?_,fun q hq=>?_,?_⟩
   ·rcases List.mem_append.mp hq with hq | hq
    ·exact o.ne q (List.mem_append_left _ hq)
    ·rw [List.mem_singleton.mp hq]
     refine ⟨by simp,fun p hp=>?_⟩
     rcases List.mem_append.mp hp with hp | hp
     ·exact (o.ne g (by simp)).2 p hp
     ·exact okt p hp
   ·refine List.pairwise_append.mpr ⟨up.1,List.pairwise_singleton _ _,fun a ha b hb=>?_⟩
    rw [List.mem_singleton.mp hb]
    exact up.2.2 a ha g (by simp)
   ·rw [tm,<- o.mem,jM,jM,a6,a6]
    dsimp only
    rw [mem_append,mem_cons]
    have n0:=hE x y
    have n1:=dX x
    constructor
    ·rintro (k | ⟨k1,k2 | k2 | k2⟩ | k)
     ·exact .inl (.inl k)
     ·exact .inl (.inr (.inl ⟨k1,k2⟩))
     ·exact .inr ⟨by lia,k2⟩
     ·exact absurd k2 n1
     ·exact absurd k n0
    ·rintro ((k | ⟨k1,k2⟩ | k) | ⟨k1,k2⟩)
     ·exact .inl k
     ·exact .inr (.inl ⟨k1,.inl k2⟩)
     ·exact absurd k n0
     ·exact .inr (.inl ⟨by lia,.inr (.inl k2)⟩)
   ·rcases List.mem_append.mp hq with hq | hq
    ·obtain ⟨s,hs,e⟩:=o.le q (List.mem_append_left _ hq)
     exact ⟨s,List.mem_append_left _ hs,e⟩
    ·rw [List.mem_singleton.mp hq]
     exact ⟨t,by simp,h⟩
   ·have:=o.len
    simp only [List.map_append,List.sum_append,List.map_cons,List.map_nil,List.sum_cons,List.sum_nil,List.length_append,List.length_cons,List.length_nil] at this ⊢
    lia
  ·rw [if_neg h]
   refine ⟨fun q hq=>?_,?_,fun x y=>?_,fun q hq=>?_,?_⟩
   ·rcases List.mem_append.mp hq with hq | hq
    ·exact o.ne q hq
    ·rw [List.mem_singleton.mp hq];exact ⟨by simp,okt⟩
   ·refine List.pairwise_append.mpr ⟨o.up,List.pairwise_singleton _ _,fun a ha b hb'=>?_⟩
    rw [List.mem_singleton.mp hb']
    rcases List.mem_append.mp ha with ha | ha
    ·have:=up.2.2 a ha g (by simp)
     dsimp only
     lia
    ·rw [List.mem_singleton.mp ha];dsimp only;lia
   ·rw [tm,<- o.mem,jM,a6]
    dsimp only
    rw [mem_cons]
    have n0:=hE x y
    have n1:=dX x
    constructor
    ·rintro (k | ⟨k1,k2 | k2⟩ | k)
     ·exact .inl k
     ·exact .inr ⟨k1,k2⟩
     ·exact absurd k2 n1
     ·exact absurd k n0
    ·rintro (k | ⟨k1,k2⟩)
     ·exact .inl k
     ·exact .inr (.inl ⟨k1,.inl k2⟩)
   ·rcases List.mem_append.mp hq with hq | hq
    ·obtain ⟨s,hs,e⟩:=o.le q hq
     exact ⟨s,List.mem_append_left _ hs,e⟩
    ·rw [List.mem_singleton.mp hq]
     exact ⟨t,by simp,rfl⟩
   ·have:=o.len
    simp only [List.map_append,List.sum_append,List.map_cons,List.map_nil,List.sum_cons,List.sum_nil,List.length_append,List.length_cons,List.length_nil] at this ⊢
    lia
theorem xm:∀ (post pre:List Tri),(∀ t ∈ pre ++ post,t.2.1 <= t.2.2) -> (pre ++ post).Pairwise (fun p q=>p.1 <= q.1) -> GOk (cZ pre) pre -> GOk (cZ (pre ++ post)) (pre ++ post)
 | [],pre,_,_,o=>by rw [List.append_nil];exact o
 | t :: post,pre,h1,h2,o=>by
  have e:pre ++ t :: post = (pre ++ [t]) ++ post:=by simp
  rw [e] at h1 h2 ⊢
  refine xm post (pre ++ [t]) h1 h2 ?_
  rw [qv]
  have h3:=List.pairwise_append.mp h2
  have h4:=List.pairwise_append.mp h3.1
  exact D4 o (h1 t (by simp)) fun s hs=>h4.2.2 s hs t (by simp)
theorem tI {ts:List Tri} (h1:∀ t ∈ ts,t.2.1 <= t.2.2) (h2:ts.Pairwise fun p q=>p.1 <= q.1):GOk (cZ ts) ts:=
 xm ts [] h1 h2 ⟨fun _ h=>(by cases h),.nil,fun x y=>⟨fun h=>(hE _ _ h).elim,fun ⟨_,h,_⟩=>by cases h⟩,fun _ h=>(by cases h),rfl⟩
noncomputable def aZ (ts:List Tri):Pic:=(cZ (b6 (ts.filter bN))).map fun g=>(g.1,kF g.2)
theorem jS (ts:List Tri):GOk (cZ (b6 (ts.filter bN))) (b6 (ts.filter bN)):=tI (fun t ht=>by
 have:=(dw _).mem_iff.mp ht
 simpa [bN] using (List.mem_filter.mp this).2) (yh _)
theorem Fo {ps:R} (h:ps ≠ []) (o:Ok ps):kF ps ≠ []:=fun e=>by
 cases ps with
 | nil=>exact h rfl
 | cons p ps=>
  have:=((gw (p :: ps)).2 p.1).mpr ((mem_cons ..).mpr (.inl ⟨Int.le_refl _,o p List.mem_cons_self⟩))
  rw [e] at this
  exact dX _ this
theorem cO (ts:List Tri):ao (aZ ts) /\ ∀ x y,br (aZ ts) x y ↔ ba ts x y:=by
 have o:=jS ts
 refine ⟨⟨fun q hq=>?_,?_⟩,fun x y=>?_⟩
 ·obtain ⟨g,hg,rfl⟩:=List.mem_map.mp hq
  obtain ⟨h1,h2⟩:=o.ne g hg
  exact ⟨(gw g.2).1,Fo h1 h2⟩
 ·unfold aZ
  rw [List.pairwise_map]
  exact o.up
 ·rw [<- yp ts,<- ue (dw _),<- o.mem]
  constructor
  ·rintro ⟨q,hq,e,hm⟩
   obtain ⟨g,hg,rfl⟩:=List.mem_map.mp hq
   exact ⟨g,hg,e,((gw g.2).2 x).mp hm⟩
  ·rintro ⟨g,hg,e,hm⟩
   exact ⟨_,List.mem_map.mpr ⟨g,hg,rfl⟩,e,((gw g.2).2 x).mpr hm⟩
noncomputable def ag (p:Pic):List Tri:=p.flatMap fun q=>q.2.map fun s=>(q.1,s)
theorem aJ (q:Int × R) (p:Pic):ag (q :: p) = (q.2.map fun s=>(q.1,s)) ++ ag p:=rfl
theorem bA (p:Pic) (x y:Int):ba (ag p) x y ↔ br p x y:=by
 constructor
 ·rintro ⟨t,ht,e,h⟩
  obtain ⟨q,hq,hs⟩:=List.mem_flatMap.mp ht
  obtain ⟨s,hs2,rfl⟩:=List.mem_map.mp hs
  exact ⟨q,hq,e,s,hs2,h⟩
 ·rintro ⟨q,hq,e,s,hs,h⟩
  exact ⟨(q.1,s),List.mem_flatMap.mpr ⟨q,hq,List.mem_map.mpr ⟨s,hs,rfl⟩⟩,e,h⟩
theorem iT {ts:List Tri} {p:Pic} (c:ao p) (h:∀ x y,ba ts x y ↔ br p x y):aZ ts = p:=
 AV (cO ts).1 c fun x y=>((cO ts).2 x y).trans (h x y)
theorem Cu {p:Pic} (c:ao p):aZ (ag p) = p:=iT c (bA p)
mutual
theorem wM:∀ (n:Nat) (d:D),okD n d = true -> eqD d d = true
 | _,.non,_=>by simp [eqD]
 | _,.bl _,_=>by simp [eqD]
 | _,.int _,_=>by simp [eqD]
 | _,.str _,_=>by simp [eqD]
 | 0,.lst _,h=>by simp [okD] at h
 | n + 1,.lst l,h=>by rw [eqD];exact eqDs_refl n l (by simpa [okD] using h)
 | 0,.tup _,h=>by simp [okD] at h
 | n + 1,.tup l,h=>by rw [eqD];exact eqDs_refl n l (by simpa [okD] using h)
 | 0,.mtp _,h=>by simp [okD] at h
 | n + 1,.mtp l,h=>by rw [eqD];exact eqDs_refl n l (by simpa [okD] using h)
 | n,.ty _,h=>by cases n <;> simp [okD] at h
 | n,.scr _,h=>by cases n <;> simp [okD] at h
 | n,.ins _ _ _,h=>by cases n <;> simp [okD] at h
 | n,.dic _,h=>by cases n <;> simp [okD] at h
theorem eqDs_refl:∀ (n:Nat) (l:List D),okDs n l = true -> eqDs l l = true
 | _,[],_=>by simp [eqDs]
 | n,d :: l,h=>by
  rw [okDs,Bool.and_eq_true] at h
  rw [eqDs,wM n d h.1,eqDs_refl n l h.2]
  rfl
end
theorem DI {d:D} (neg:Bool) (h:okD 50 d = true):dEq neg d d = some (.bl (!neg)):=by
 unfold dEq
 rw [if_pos ⟨h,h⟩,wM 50 d h]
 cases neg <;> rfl
noncomputable def grO (g:Int × R):O:=.tup [.sh (.int g.1),.lst (g.2.map (O.sh ∘ prD))]
noncomputable def grD (g:Int × R):D:=.tup [.int g.1,Cc g.2]
theorem Lu (g:Int × R):(grO g).d = grD g:=by simp [grO,grD]
theorem Ig:∀ gs:Pic,O.ds (gs.map grO) = gs.map grD
 | []=>by simp
 | g :: gs=>by rw [List.map_cons,Bp,Lu,Ig gs];rfl
theorem BV (gs:Pic) (t:Tri):(jb gs t).length <= gs.length + 1:=by
 rcases List.eq_nil_or_concat gs with rfl | ⟨gs0,g,rfl⟩
 ·simp [jb]
 ·rw [List.concat_eq_append,k7]
  split <;> simp
theorem tH:∀ ts:List Tri,(cZ ts).length <= ts.length:=by
 intro ts
 have key:∀ (l:List Tri) (gs:Pic),(l.foldl jb gs).length <= gs.length + l.length:=by
  intro l
  induction l with
  | nil=>intro gs;simp
  | cons t l ih=>
   intro gs
   have h1:=ih (jb gs t)
   have h2:=BV gs t
   rw [List.foldl_cons,List.length_cons]
   lia
 have:=key ts []
 unfold cZ
 simpa using this
theorem vk (s0:Sl) (gs:Pic) (t:Tri) (h:gs.length <= 30000) (hg:∀ g ∈ gs,g.2.length <= 30000):bg [s0,.ow (.lst (gs.map grO)),.sh (.int t.1),.sh (.int t.2.1),.sh (.int t.2.2)] = some (.nx [s0,.ow (.lst ((jb gs t).map grO)),.sh (.int t.1),.sh (.int t.2.1),.sh (.int t.2.2)]):=by
 rcases List.eq_nil_or_concat gs with rfl | ⟨gs0,g,rfl⟩
 ·simp [bg,jb,grO]
 ·rw [List.concat_eq_append] at *
  rw [k7]
  have hl:gs0.length + 1 <= 30000:=by simpa using h
  have hlim:gs0.length + 1 < LIM:=bH (by lia)
  have hg2:g.2.length < LIM:=bH (by have:=hg g (by simp);lia)
  by_cases hc:g.1 = t.1
  ·simp [bg,hc,hg2,grO]
  ·simp [bg,hc,hlim,grO]
theorem k9:∀ {l:List Nat} {n:Nat},n ∈ l -> n <= l.sum
 | [],_,h=>by cases h
 | m :: l,n,h=>by
  rw [List.sum_cons]
  rcases List.mem_cons.mp h with rfl | h
  ·lia
  ·have:=k9 h;lia
theorem bZ (ts:List Tri) (h:ts.length < 30000):bQ [.lst (ts.map ar)] = some (am (aZ ts)):=by
 have hf:=List.length_filter_le bN ts
 have hs:=(dw (ts.filter bN)).length_eq
 have og:=jS ts
 have key:∃ ρ',cT (aE (ai (af 2) (ai (af 3) (ai (af 4) aB)))) bg ((b6 (ts.filter bN)).map ar) [.sh (.lst (ts.map ar)),.ow (.lst []),.un,.un,.un] = some (.nx ρ') /\ ∃ va vb vc,ρ' = [.sh (.lst (ts.map ar)),.ow (.lst ((cZ (b6 (ts.filter bN))).map grO)),va,vb,vc]:=by
  refine aV ar (fun pre ρ=>∃ va vb vc,ρ = [.sh (.lst (ts.map ar)),.ow (.lst ((cZ pre).map grO)),va,vb,vc]) _ _ ⟨_,_,_,rfl⟩ ?_
  rintro pre t post _ e ⟨va,vb,vc,rfl⟩
  have hp:pre.length <= 30000:=by
   have:=congrArg List.length e
   rw [List.length_append] at this
   lia
  have gl:=tH pre
  have gp:GOk (cZ pre) pre:=by
   refine tI (fun s hs=>?_) ?_
   ·have:=(dw _).mem_iff.mp (show s ∈ b6 (ts.filter bN) by rw [e];simp [hs])
    simpa [bN] using (List.mem_filter.mp this).2
   ·have:=yh (ts.filter bN)
    rw [e] at this
    exact (List.pairwise_append.mp this).1
  have gg:∀ g ∈ cZ pre,g.2.length <= 30000:=fun g hg=>by
   have h1:=gp.len
   have h2:g.2.length <= ((cZ pre).map fun g=>g.2.length).sum:=k9 (List.mem_map.mpr ⟨g,hg,rfl⟩)
   lia
  refine ⟨_,_,rfl,.inl (vk _ (cZ pre) t (by lia) gg),.sh (.int t.1),.sh (.int t.2.1),.sh (.int t.2.2),by rw [qv]⟩
 obtain ⟨ρ',k1,va,vb,vc,rfl⟩:=key
 have hc:=yI ts
 have hb:=md (ts.filter bN) (by lia)
 have hl:ts.length <= LIM:=aI (by lia)
 have gl:=tH (b6 (ts.filter bN))
 have hl2:(cZ (b6 (ts.filter bN))).length <= LIM:=aI (by lia)
 have c2:bF (aE (ai (af 0) (ai (af 1) aB))) cv (aQ (ab (ak 0) (ab (aq mG (ab (ak 1) aj)) aj))) [.un,.un] ((cZ (b6 (ts.filter bN))).map grD) = some ((aZ ts).map pyD):=by
  rw [bf grD (fun g=>pyD (g.1,kF g.2))]
  ·unfold aZ
   rw [List.map_map]
   rfl
  ·intro g hg
   have h1:g.2.length < 30000:=by
    have h2:g.2.length <= ((cZ (b6 (ts.filter bN))).map fun g=>g.2.length).sum:=k9 (List.mem_map.mpr ⟨g,hg,rfl⟩)
    have:=og.len
    lia
   have h3:=xw g.2 h1
   simp [gJ,grD,h3]
 simp [bQ,gI,fnO,e7,hl,hc,hb,k1,frz,Ig,hl2,c2]
theorem fh (p q:Pic):ag (p ++ q) = ag p ++ ag q:=by unfold ag;rw [List.flatMap_append]
theorem c8 {p:Pic} {q:Int × R} (h:q ∈ p):q.2.length <= (ag p).length:=by
 induction p with
 | nil=>cases h
 | cons s p ih=>
  rw [aJ,List.length_append,List.length_map]
  rcases List.mem_cons.mp h with rfl | h
  ·lia
  ·have:=ih h;lia
theorem fS (p:Pic) (h:(ag p).length <= 100000):b5 [am p] = some (.lst ((ag p).map (O.sh ∘ ar))):=by
 obtain ⟨ρ',k1,v2,v3,rfl⟩:=aV (g:=aE (ai (af 2) (ai (af 3) aB))) (m:=cQ) pyD (fun pre ρ=>∃ v2 v3,ρ = [.sh (am p),.ow (.lst ((ag pre).map (O.sh ∘ ar))),v2,v3]) p [.sh (am p),.ow (.lst []),.un,.un] ⟨_,_,rfl⟩ (by
  rintro pre q post _ e ⟨v2,v3,rfl⟩
  have hlen:(ag pre).length + q.2.length <= 100000:=by
   rw [e,fh,aJ,List.length_append,List.length_append,List.length_map] at h
   lia
  have hl:(ag pre).length + q.2.length <= LIM:=aI hlen
  have hl2:q.2.length <= LIM:=aI (by lia)
  have hc:bF (aE (ai (af 0) (ai (af 1) aB))) cv (aQ (ab (ak 2) (ab (ak 0) (ab (ak 1) aj)))) [.un,.un,.sh (.int q.1)] (q.2.map prD) = some (q.2.map fun s=>ar (q.1,s)):=bf prD _ q.2 fun s _=>by simp [gJ]
  refine ⟨_,[.sh (am p),.ow (.lst ((ag (pre ++ [q])).map (O.sh ∘ ar))),.sh (.int q.1),.sh (bp q.2)],rfl,.inl ?_,_,_,rfl⟩
  have es:ag (pre ++ [q]) = ag pre ++ q.2.map fun s=>(q.1,s):=by rw [fh,aJ];simp [ag]
  rw [es]
  simp [cQ,hl,hl2,hc])
 simp [b5,fnO,dP,k1]
theorem bz (p:Pic) (h:(ag p).length <= 100000):bj [am p] = some (.lst ((ag p).map ar)):=by
 unfold bj
 rw [fS p h]
 simp
theorem et {α:Type} (l:List α) (k:α -> Int) (enc:α -> D) (x:Int) (he:∀ a,dIx (enc a) (.int 0) = some (.int (k a))) (hl:l.length <= 100000) (pw:l.Pairwise fun a b=>k a < k b) :
  ∃ n:Nat,n <= l.length /\ c0 [.tup (l.map enc),.int x] = some (.int n) /\ ∀ (i:Nat) a,l[i]? = some a -> (k a <= x ↔ i < n):=by
 have lt:∀ (i j:Nat) a b,l[i]? = some a -> l[j]? = some b -> i < j -> k a < k b:=fun i j a b hi hj hij=>by
  obtain ⟨h1,rfl⟩:=List.getElem?_eq_some_iff.mp hi
  obtain ⟨h2,rfl⟩:=List.getElem?_eq_some_iff.mp hj
  exact List.pairwise_iff_getElem.mp pw i j h1 h2 hij
 obtain ⟨ρ',k1,n,v3,v4,rfl,h1,h2⟩:=lX (c:=bV) (m:=bU)
  (fun ρ=>∃ (lo hi:Nat) (v4:Sl),ρ = [.sh (.tup (l.map enc)),.sh (.int x),.sh (.int lo),.sh (.int hi),v4] /\ lo <= hi /\ hi <= l.length /\ (∀ (i:Nat) a,l[i]? = some a -> i < lo -> k a <= x) /\ ∀ (i:Nat) a,l[i]? = some a -> hi <= i -> x < k a)
  (fun ρ=>match ρ with | [_,_,.sh (.int lo),.sh (.int hi),_]=>(hi - lo).toNat | _=>0)
  (fun ρ=>∃ (n:Nat) (v3 v4:Sl),ρ = [.sh (.tup (l.map enc)),.sh (.int x),.sh (.int n),v3,v4] /\ n <= l.length /\ ∀ (i:Nat) a,l[i]? = some a -> (k a <= x ↔ i < n))
  (by
   rintro _ ⟨lo,hi,v4,rfl,h1,h2,h3,h4⟩
   by_cases hc:lo < hi
   ·right
    have hc':(lo:Int) < hi:=by lia
    obtain ⟨a,ha⟩:∃ a,l[(lo + hi) / 2]? = some a:=⟨_,List.getElem?_eq_getElem (by lia)⟩
    have em:((lo:Int) + hi) / 2 = (((lo + hi) / 2:Nat):Int):=by lia
    have ea:atI (l.map enc) (((lo:Int) + hi) / 2) = some (enc a):=by rw [em];exact fD (by rw [List.getElem?_map,ha];rfl)
    refine ⟨by simp [bV,hc'],?_⟩
    by_cases ck:k a <= x
    ·refine ⟨[.sh (.tup (l.map enc)),.sh (.int x),.sh (.int (((lo + hi) / 2 + 1:Nat):Int)),.sh (.int hi),.sh (.int (((lo:Int) + hi) / 2))],?_,⟨(lo + hi) / 2 + 1,hi,_,rfl,by lia,h2,fun i b hb hi'=>?_,h4⟩,by dsimp only;lia⟩
     ·simp [bU,ea,he,ck]
     ·by_cases z:i = (lo + hi) / 2
      ·subst z;rw [ha] at hb;cases hb;exact ck
      ·have:=lt i _ b a hb ha (by lia);lia
    ·refine ⟨[.sh (.tup (l.map enc)),.sh (.int x),.sh (.int lo),.sh (.int (((lo + hi) / 2:Nat):Int)),.sh (.int (((lo:Int) + hi) / 2))],?_,⟨lo,(lo + hi) / 2,_,rfl,by lia,by lia,h3,fun i b hb hi'=>?_⟩,by dsimp only;lia⟩
     ·simp [bU,ea,he,ck]
     ·by_cases z:i = (lo + hi) / 2
      ·subst z;rw [ha] at hb;cases hb;lia
      ·have:=lt _ i a b ha hb (by lia);lia
   ·left
    have hc':¬ (lo:Int) < hi:=by lia
    have e:lo = hi:=by lia
    subst e
    refine ⟨by simp [bV],lo,_,_,rfl,h2,fun i a ha=>⟨fun hk=>?_,fun hi'=>h3 i a ha hi'⟩⟩
    by_cases z:i < lo
    ·exact z
    ·have:=h4 i a ha (by lia);lia)
  [.sh (.tup (l.map enc)),.sh (.int x),.sh (.int 0),.sh (.int l.length),.un]
  ⟨0,l.length,_,rfl,Nat.zero_le _,Nat.le_refl _,fun i a _ h=>absurd h (Nat.not_lt_zero _),fun i a ha h=>by have:=(List.getElem?_eq_some_iff.mp ha).1;lia⟩
 refine ⟨n,h1,?_,h2⟩
 simp [c0,fP,fnO,eE,k1]
noncomputable def aG (p:Pic) (y:Int):R:=match p.find? fun q=>decide (q.1 = y) with | some q=>q.2 | none=>[]
theorem hJ {p:Pic} (c:ao p) {q:Int × R} (hq:q ∈ p):aG p q.1 = q.2:=by
 unfold aG
 cases e:p.find? fun s=>decide (s.1 = q.1) with
 | none=>
  have:=List.find?_eq_none.mp e q hq
  simp at this
 | some s=>
  have h1:=List.find?_some e
  have h2:=List.mem_of_find?_eq_some e
  have h3:s.1 = q.1:=of_decide_eq_true h1
  have:s = q:=by
   obtain ⟨i,hi⟩:=List.getElem?_of_mem h2
   obtain ⟨j,hj⟩:=List.getElem?_of_mem hq
   obtain ⟨li,ei⟩:=List.getElem?_eq_some_iff.mp hi
   obtain ⟨lj,ej⟩:=List.getElem?_eq_some_iff.mp hj
   have pw:=List.pairwise_iff_getElem.mp c.2
   by_cases z:i < j
   ·have:=pw i j li lj z;rw [ei,ej] at this;lia
   ·by_cases z2:j < i
    ·have:=pw j i lj li z2;rw [ei,ej] at this;lia
    ·have:i = j:=by lia
     subst this
     rw [hi] at hj;exact Option.some.inj hj
  rw [this]
theorem fW {p:Pic} {y:Int} (h:∀ q ∈ p,q.1 ≠ y):aG p y = []:=by
 unfold aG
 have:p.find? (fun q=>decide (q.1 = y)) = none:=List.find?_eq_none.mpr fun q hq=>by simpa using h q hq
 rw [this]
theorem jO {p:Pic} (c:ao p) (y:Int):aP (aG p y):=by
 by_cases h:∃ q ∈ p,q.1 = y
 ·obtain ⟨q,hq,rfl⟩:=h
  rw [hJ c hq];exact (c.1 q hq).1
 ·rw [fW fun q hq e=>h ⟨q,hq,e⟩];exact eg
theorem jF (p:Pic) (y:Int) (c:ao p) (h:p.length <= 100000):cM [am p,.int y] = some (bp (aG p y)):=by
 obtain ⟨n,h1,h2,h3⟩:=et p (·.1) pyD y (fun a=>by simp) h c.2
 by_cases hn:n = 0
 ·subst hn
  have e:aG p y = []:=fW fun q hq e=>by
   obtain ⟨j,ej⟩:=List.getElem?_of_mem hq
   exact absurd ((h3 j q ej).mp (by lia)) (Nat.not_lt_zero _)
  simp at h2
  simp [cM,g8,fnO,gO,h2,e]
 ·obtain ⟨q,hq⟩:∃ q,p[n - 1]? = some q:=⟨_,List.getElem?_eq_getElem (by lia)⟩
  have en:(n:Int) - 1 = ((n - 1:Nat):Int):=by lia
  have ea:atI (p.map pyD) ((n:Int) - 1) = some (pyD q):=by rw [en];exact fD (by rw [List.getElem?_map,hq];rfl)
  have hn':(0:Int) < n:=by lia
  have hn2:0 < n:=by lia
  by_cases hy:q.1 = y
  ·have e:aG p y = q.2:=by rw [<- hy];exact hJ c (List.mem_of_getElem? hq)
   simp [cM,g8,fnO,gO,h2,hn,hn',hn2,ea,hy,e]
  ·have e:aG p y = []:=fW fun s hs e=>by
    obtain ⟨j,ej⟩:=List.getElem?_of_mem hs
    have hj:=(h3 j s ej).mp (by lia)
    by_cases z:j = n - 1
    ·subst z;rw [hq] at ej;cases ej;exact hy e
    ·obtain ⟨l1,e1⟩:=List.getElem?_eq_some_iff.mp ej
     obtain ⟨l2,e2⟩:=List.getElem?_eq_some_iff.mp hq
     have:=List.pairwise_iff_getElem.mp c.2 j (n - 1) l1 l2 (by lia)
     rw [e1,e2] at this
     have:=(h3 _ _ hq).mpr (by lia)
     lia
   simp [cM,g8,fnO,gO,h2,hn,hn',hn2,ea,hy,e]
end P
namespace Eu
noncomputable def px {α:Type} (l:List α) (f:α -> Bool):Bool:=l.foldr (fun a b=>xor (f a) b) false
section
variable {α β:Type}
theorem fc (a:α) (l:List α) (f:α -> Bool):px (a :: l) f = xor (f a) (px l f):=rfl
theorem aX {l:List α} {f g:α -> Bool} (h:∀ a ∈ l,f a = g a):px l f = px l g:=by
 induction l with
 | nil=>rfl
 | cons a l ih=>rw [fc,fc,h a List.mem_cons_self,ih fun b hb=>h b (List.mem_cons_of_mem _ hb)]
theorem nU (l:List α) (f g:α -> Bool):px l (fun a=>xor (f a) (g a)) = xor (px l f) (px l g):=by
 induction l with
 | nil=>rfl
 | cons a l ih=>
  rw [fc,fc,fc,ih]
  cases f a <;> cases g a <;> cases px l f <;> cases px l g <;> rfl
theorem fV {l:List α} {f:α -> Bool} (h:∀ a ∈ l,f a = false):px l f = false:=by
 induction l with
 | nil=>rfl
 | cons a l ih=>rw [fc,h a List.mem_cons_self,ih fun b hb=>h b (List.mem_cons_of_mem _ hb)];rfl
theorem Fb (l:List α) (c:Bool) (f:α -> Bool):px l (fun a=>c && f a) = (c && px l f):=by
 cases c
 ·exact fV fun _ _=>rfl
 ·exact aX fun _ _=>rfl
theorem Ho (l:List α) (m:List β) (f:α -> β -> Bool):px l (fun a=>px m (f a)) = px m (fun b=>px l fun a=>f a b):=by
 induction l with
 | nil=>exact (fV fun _ _=>rfl).symm
 | cons a l ih=>
  rw [fc,ih]
  exact (nU m (f a) fun b=>px l fun a=>f a b).symm
theorem nT [DecidableEq α] {l:List α} (nd:l.Nodup) {a:α} (ha:a ∈ l) (f:α -> Bool):px l (fun b=>f b && decide (a = b)) = f a:=by
 induction l with
 | nil=>cases ha
 | cons c l ih=>
  obtain ⟨n1,n2⟩:=List.nodup_cons.mp nd
  rw [fc]
  rcases List.mem_cons.mp ha with rfl | ha
  ·rw [fV fun b hb=>by rw [decide_eq_false fun e=>n1 (by rw [e];exact hb),Bool.and_false],decide_eq_true rfl,Bool.and_true,Bool.xor_false]
  ·rw [decide_eq_false fun e=>n1 (by rw [<- e];exact ha),Bool.and_false,Bool.false_xor]
   exact ih n2 ha
theorem Fc [DecidableEq α] {l:List α} (nd:l.Nodup) {f:α -> Bool} (h:px l f = false) {a:α} (ha:a ∈ l) (hf:f a = true):∃ b ∈ l,b ≠ a /\ f b = true:=by
 apply Classical.byContradiction
 intro hn
 have:px l f = px l fun b=>f b && decide (a = b):=aX fun b hb=>by
  by_cases e:a = b
  ·rw [decide_eq_true e,Bool.and_true]
  ·rw [decide_eq_false e,Bool.and_false]
   cases hb':f b with
   | false=>rfl
   | true=>exact absurd ⟨b,hb,fun z=>e z.symm,hb'⟩ hn
 rw [this,nT nd ha,hf] at h
 cases h
end
section
variable {V:Type} [DecidableEq V]
noncomputable abbrev Ed (V:Type):=V × V
noncomputable def bd (es:List (Ed V)) (z:Ed V -> Bool) (v:V):Bool:=px es fun e=>z e && xor (decide (e.1 = v)) (decide (e.2 = v))
theorem yF (es:List (Ed V)) (z z':Ed V -> Bool) (v:V):bd es (fun e=>xor (z e) (z' e)) v = xor (bd es z v) (bd es z' v):=by
 unfold bd
 rw [<- nU]
 refine aX fun e _=>?_
 generalize xor (decide (e.1 = v)) (decide (e.2 = v)) = c
 dsimp only
 cases z e <;> cases z' e <;> cases c <;> rfl
def Sup (es:List (Ed V)) (z:Ed V -> Bool):Prop:=∀ e,z e = true -> e ∈ es
def Cyc (es:List (Ed V)) (z:Ed V -> Bool):Prop:=Sup es z /\ ∀ v,bd es z v = false
theorem Sup.xor {es:List (Ed V)} {z z':Ed V -> Bool} (h:Sup es z) (h':Sup es z'):Sup es fun e=>Bool.xor (z e) (z' e):=fun e he=>by
 change Bool.xor (z e) (z' e) = true at he
 cases q:z e with
 | true=>exact h e q
 | false=>
  cases q':z' e with
  | true=>exact h' e q'
  | false=>rw [q,q'] at he;cases he
theorem Cyc.xor {es:List (Ed V)} {z z':Ed V -> Bool} (h:Cyc es z) (h':Cyc es z'):Cyc es fun e=>Bool.xor (z e) (z' e):=⟨h.1.xor h'.1,fun v=>by rw [yF,h.2,h'.2];rfl⟩
noncomputable def Ind {ι:Type}:List (ι -> Bool) -> Prop
 | []=>True
 | z :: zs=>(∃ e,z e = true /\ ∀ z' ∈ zs,z' e = false) /\ Ind zs
theorem rS {es:List (Ed V)} {e:Ed V} {z:Ed V -> Bool} (h:Sup es z):Sup (e :: es) z:=fun e' h'=>List.mem_cons_of_mem _ (h e' h')
theorem ux {es:List (Ed V)} {e:Ed V} (hn:e ∉ es) {z:Ed V -> Bool} (h:Sup es z) (v:V):bd (e :: es) z v = bd es z v:=by
 unfold bd
 rw [fc]
 have:z e = false:=by
  cases q:z e with
  | false=>rfl
  | true=>exact absurd (h e q) hn
 rw [this]
 simp
theorem wC {es:List (Ed V)} {e:Ed V} (hn:e ∉ es) {z:Ed V -> Bool} (h:Cyc es z):Cyc (e :: es) z:=⟨rS h.1,fun v=>by rw [ux hn h.1];exact h.2 v⟩
def Way (es:List (Ed V)) (x y:V):Prop:=∃ z,Sup es z /\ ∀ v,bd es z v = Bool.xor (decide (x = v)) (decide (y = v))
theorem F0 {es:List (Ed V)} {e:Ed V} (hn:e ∉ es) {x y:V} (h:Way es x y):Way (e :: es) x y:=let ⟨z,h1,h2⟩:=h;⟨z,rS h1,fun v=>by rw [ux hn h1];exact h2 v⟩
theorem Way.refl (es:List (Ed V)) (x:V):Way es x x:=⟨fun _=>false,(fun _ h=>by cases h),fun v=>by rw [show bd es (fun _=>false) v = false from fV fun _ _=>rfl,Bool.xor_self]⟩
theorem Way.symm {es:List (Ed V)} {x y:V} (h:Way es x y):Way es y x:=let ⟨z,h1,h2⟩:=h;⟨z,h1,fun v=>by rw [h2,Bool.xor_comm]⟩
theorem Way.trans {es:List (Ed V)} {x y w:V} (h:Way es x y) (k:Way es y w):Way es x w:=by
 obtain ⟨z,h1,h2⟩:=h
 obtain ⟨z',k1,k2⟩:=k
 exact ⟨_,h1.xor k1,fun v=>by rw [yF,h2,k2];cases decide (x = v) <;> cases decide (y = v) <;> cases decide (w = v) <;> rfl⟩
theorem Dv (es:List (Ed V)) (nd:es.Nodup) {e:Ed V} (he:e ∈ es) (v:V):bd es (fun e'=>decide (e = e')) v = Bool.xor (decide (e.1 = v)) (decide (e.2 = v)):=by
 unfold bd
 rw [<- nT nd he fun e=>Bool.xor (decide (e.1 = v)) (decide (e.2 = v))]
 exact aX fun e' _=>Bool.and_comm _ _
theorem A3 {es:List (Ed V)} {e:Ed V} (he:e ∈ es):Sup es fun e'=>decide (e = e'):=fun e' h=>by rw [<- of_decide_eq_true h];exact he
theorem Way.edge {es:List (Ed V)} (nd:es.Nodup) {e:Ed V} (he:e ∈ es):Way es e.1 e.2:=⟨_,A3 he,Dv es nd he⟩
structure St (X:List V) (es:List (Ed V)) (u:V -> V) (R:List V) (zs:List (Ed V -> Bool)):Prop where
 nd:R.Nodup
 inr:∀ x ∈ X,u x ∈ R
 sub:∀ r ∈ R,r ∈ X /\ u r = r
 way:∀ x ∈ X,Way es x (u x)
 cyc:∀ z ∈ zs,Cyc es z
 ind:Ind zs
 cnt:R.length + es.length = X.length + zs.length
theorem FJ {X:List V} (ndX:X.Nodup):∀ (es:List (Ed V)),es.Nodup -> (∀ e ∈ es,e.1 ∈ X /\ e.2 ∈ X) -> ∃ u R zs,St X es u R zs
 | [],_,_=>⟨id,X,[],ndX,fun x h=>h,fun r h=>⟨h,rfl⟩,fun x _=>.refl _ x,(fun _ h=>by cases h),trivial,rfl⟩
 | e :: es,nd,hX=>by
  obtain ⟨n1,n2⟩:=List.nodup_cons.mp nd
  obtain ⟨u,R,zs,s⟩:=FJ ndX es n2 fun e' h=>hX e' (List.mem_cons_of_mem _ h)
  obtain ⟨x1,x2⟩:=hX e List.mem_cons_self
  have we:Way (e :: es) e.1 e.2:=Way.edge nd List.mem_cons_self
  have w1:∀ x ∈ X,Way (e :: es) x (u x):=fun x hx=>F0 n1 (s.way x hx)
  by_cases h:u e.1 = u e.2
  ·-- a cycle
   obtain ⟨z,z1,z2⟩:Way es e.1 e.2:=(s.way _ x1).trans (h ▸ (s.way _ x2).symm)
   refine ⟨u,R,(fun e'=>Bool.xor (decide (e = e')) (z e')) :: zs,s.nd,s.inr,s.sub,w1,fun z' hz=>?_,⟨⟨e,?_,fun z' hz=>?_⟩,s.ind⟩,?_⟩
   ·rcases List.mem_cons.mp hz with rfl | hz
    ·refine ⟨(A3 List.mem_cons_self).xor (rS z1),fun v=>?_⟩
     rw [yF,Dv _ nd List.mem_cons_self,ux n1 z1,z2]
     simp
    ·exact wC n1 (s.cyc z' hz)
   ·have:z e = false:=by
     cases q:z e with
     | false=>rfl
     | true=>exact absurd (z1 e q) n1
    show Bool.xor (decide (e = e)) (z e) = true
    rw [this,decide_eq_true rfl]
    rfl
   ·cases q:z' e with
    | false=>rfl
    | true=>exact absurd ((s.cyc z' hz).1 e q) n1
   ·have:=s.cnt
    rw [List.length_cons,List.length_cons]
    lia
  ·-- two classes are one
   have hr2:=s.inr _ x2
   refine ⟨fun v=>if u v = u e.2 then u e.1 else u v,R.erase (u e.2),zs,s.nd.erase _,fun x hx=>?_,fun r hr=>?_,fun x hx=>?_,fun z hz=>wC n1 (s.cyc z hz),s.ind,?_⟩
   ·show (if u x = u e.2 then u e.1 else u x) ∈ _
    split
    ·exact (List.mem_erase_of_ne h).mpr (s.inr _ x1)
    ·rename_i hn
     exact (List.mem_erase_of_ne hn).mpr (s.inr x hx)
   ·have hr':=List.mem_of_mem_erase hr
    obtain ⟨a1,a2⟩:=s.sub r hr'
    refine ⟨a1,?_⟩
    show (if u r = u e.2 then u e.1 else u r) = r
    rw [a2,if_neg]
    intro z
    rw [z] at hr
    exact (s.nd.not_mem_erase) hr
   ·show Way _ x (if u x = u e.2 then u e.1 else u x)
    split
    ·rename_i hn
     refine (w1 x hx).trans ?_
     rw [hn]
     exact (w1 _ x2).symm.trans (we.symm.trans (w1 _ x1))
    ·exact w1 x hx
   ·have:=s.cnt
    rw [List.length_erase_of_mem hr2,List.length_cons]
    have:=List.length_pos_of_mem hr2
    lia
theorem qU {α:Type} [DecidableEq α]:∀ {l m:List α},l.Nodup -> (∀ a ∈ l,a ∈ m) -> l.length <= m.length
 | [],_,_,_=>Nat.zero_le _
 | a :: l,m,h,k=>by
  obtain ⟨h1,h2⟩:=List.nodup_cons.mp h
  have hm:=k a List.mem_cons_self
  have ih:=qU (m:=m.erase a) h2 fun b hb=>(List.mem_erase_of_ne (fun e=>h1 (by rw [<- e];exact hb))).mpr (k b (List.mem_cons_of_mem _ hb))
  rw [List.length_erase_of_mem hm] at ih
  have:=List.length_pos_of_mem hm
  rw [List.length_cons]
  lia
theorem wO {X:List V} (ndX:X.Nodup) {es:List (Ed V)} (hX:∀ e ∈ es,e.1 ∈ X /\ e.2 ∈ X) {z:Ed V -> Bool} (A:V -> Bool):px es (fun e=>z e && Bool.xor (A e.1) (A e.2)) = px X fun v=>A v && bd es z v:=by
 unfold bd
 rw [show (px X fun v=>A v && px es fun e=>z e && Bool.xor (decide (e.1 = v)) (decide (e.2 = v))) = px X fun v=>px es fun e=>A v && (z e && Bool.xor (decide (e.1 = v)) (decide (e.2 = v))) from aX fun v _=>(Fb _ _ _).symm,Ho]
 refine aX fun e he=>?_
 obtain ⟨h1,h2⟩:=hX e he
 rw [show (px X fun v=>A v && (z e && Bool.xor (decide (e.1 = v)) (decide (e.2 = v)))) = px X fun v=>z e && Bool.xor (A v && decide (e.1 = v)) (A v && decide (e.2 = v)) from aX fun v _=>by cases A v <;> cases z e <;> simp,Fb,nU,nT ndX h1,nT ndX h2]
theorem HR {X:List V} (ndX:X.Nodup) {es:List (Ed V)} (hX:∀ e ∈ es,e.1 ∈ X /\ e.2 ∈ X) {c:V -> Nat} (hc:∀ e ∈ es,c e.1 = c e.2) {x y:V} (hx:x ∈ X) (hy:y ∈ X) (h:Way es x y):c x = c y:=by
 obtain ⟨z,_,h2⟩:=h
 have:=wO ndX hX (z:=z) fun v=>decide (c v = c x)
 rw [fV fun e he=>by rw [hc e he];simp] at this
 have k:(px X fun v=>decide (c v = c x) && bd es z v) = Bool.xor (decide (c x = c x)) (decide (c y = c x)):=by
  rw [show (px X fun v=>decide (c v = c x) && bd es z v) = px X fun v=>Bool.xor (decide (c v = c x) && decide (x = v)) (decide (c v = c x) && decide (y = v)) from aX fun v _=>by rw [h2];cases decide (c v = c x) <;> simp,nU,nT ndX hx fun v=>decide (c v = c x),nT ndX hy fun v=>decide (c v = c x)]
 rw [k] at this
 rw [decide_eq_true rfl] at this
 cases q:decide (c y = c x) with
 | true=>exact (of_decide_eq_true q).symm
 | false=>rw [q] at this;cases this
theorem Jh {X:List V} (ndX:X.Nodup) {es:List (Ed V)} (nd:es.Nodup) (hX:∀ e ∈ es,e.1 ∈ X /\ e.2 ∈ X) {c:V -> Nat} (hc:∀ e ∈ es,c e.1 = c e.2) {L:List Nat} (hL:L.Nodup) (hL2:∀ n ∈ L,∃ x ∈ X,c x = n):∃ zs:List (Ed V -> Bool),(∀ z ∈ zs,Cyc es z) /\ Ind zs /\ es.length + L.length <= X.length + zs.length:=by
 obtain ⟨u,R,zs,s⟩:=FJ ndX es nd hX
 refine ⟨zs,s.cyc,s.ind,?_⟩
 have:L.length <= (R.map c).length:=qU hL fun n hn=>by
  obtain ⟨x,hx,rfl⟩:=hL2 n hn
  exact List.mem_map.mpr ⟨u x,s.inr x hx,(HR ndX hX hc hx (s.sub _ (s.inr x hx)).1 (s.way x hx)).symm⟩
 rw [List.length_map] at this
 have:=s.cnt
 lia
theorem wL {ι:Type} (C:(ι -> Bool) -> Prop) (hC:∀ z z',C z -> C z' -> C fun e=>Bool.xor (z e) (z' e)) (f:(ι -> Bool) -> Bool) (hf:∀ z z',f (fun e=>Bool.xor (z e) (z' e)) = Bool.xor (f z) (f z')):∀ zs:List (ι -> Bool),Ind zs -> (∀ z ∈ zs,C z) ->
  ∃ zs':List (ι -> Bool),Ind zs' /\ (∀ z ∈ zs',C z /\ f z = false) /\ (∀ e,(∀ z ∈ zs,z e = false) -> ∀ z ∈ zs',z e = false) /\ (zs'.length = zs.length \/ zs.length = zs'.length + 1 /\ ∃ p ∈ zs,f p = true)
 | [],_,_=>⟨[],trivial,(fun _ h=>by cases h),(fun _ _ _ h=>by cases h),.inl rfl⟩
 | z :: zs,hi,hc=>by
  obtain ⟨⟨e0,h1,h2⟩,h3⟩:=hi
  obtain ⟨zs',a1,a2,a3,a4⟩:=wL C hC f hf zs h3 fun z hz=>hc z (List.mem_cons_of_mem _ hz)
  have hcz:=hc z List.mem_cons_self
  have v0:∀ z' ∈ zs',z' e0 = false:=a3 e0 h2
  have van:∀ e,(∀ w ∈ z :: zs,w e = false) -> ∀ z' ∈ zs',z' e = false:=fun e he=>a3 e fun w hw=>he w (List.mem_cons_of_mem _ hw)
  have add:∀ y:ι -> Bool,C y -> f y = false -> y e0 = true -> (∀ e,(∀ w ∈ z :: zs,w e = false) -> y e = false) -> Ind (y :: zs') /\ (∀ z' ∈ y :: zs',C z' /\ f z' = false) /\ ∀ e,(∀ w ∈ z :: zs,w e = false) -> ∀ z' ∈ y :: zs',z' e = false:=fun y y1 y2 y3 y4=>⟨⟨⟨e0,y3,v0⟩,a1⟩,fun z' hz=>(List.mem_cons.mp hz).elim (fun e=>by rw [e];exact ⟨y1,y2⟩) (a2 z'),fun e he z' hz=>(List.mem_cons.mp hz).elim (fun q=>by rw [q];exact y4 e he) (van e he z')⟩
  cases q:f z with
  | false=>
   obtain ⟨b1,b2,b3⟩:=add z hcz q h1 fun e he=>he z List.mem_cons_self
   refine ⟨z :: zs',b1,b2,b3,?_⟩
   rw [List.length_cons,List.length_cons]
   rcases a4 with a4 | ⟨a4,p,hp,fp⟩
   ·exact .inl (by lia)
   ·exact .inr ⟨by lia,p,List.mem_cons_of_mem _ hp,fp⟩
  | true=>
   rcases a4 with a4 | ⟨a4,p,hp,fp⟩
   ·exact ⟨zs',a1,a2,van,.inr ⟨by rw [List.length_cons];lia,z,List.mem_cons_self,q⟩⟩
   ·obtain ⟨b1,b2,b3⟩:=add (fun e=>Bool.xor (z e) (p e)) (hC z p hcz (hc p (List.mem_cons_of_mem _ hp))) (by rw [hf,q,fp];rfl) (by show Bool.xor (z e0) (p e0) = true;rw [h1,h2 p hp];rfl) fun e he=>by
     show Bool.xor (z e) (p e) = false
     rw [he z List.mem_cons_self,he p (List.mem_cons_of_mem _ hp)]
     rfl
    refine ⟨_,b1,b2,b3,?_⟩
    rw [List.length_cons,List.length_cons]
    exact .inr ⟨by lia,p,List.mem_cons_of_mem _ hp,fp⟩
theorem dep {γ ι:Type} (f:γ -> (ι -> Bool) -> Bool) (hf:∀ g z z',f g (fun e=>Bool.xor (z e) (z' e)) = Bool.xor (f g z) (f g z')):∀ (gs:List γ) (C:(ι -> Bool) -> Prop),(∀ z z',C z -> C z' -> C fun e=>Bool.xor (z e) (z' e)) -> ∀ zs:List (ι -> Bool),Ind zs -> (∀ z ∈ zs,C z) -> gs.length < zs.length -> ∃ z,C z /\ (∃ e,z e = true) /\ ∀ g ∈ gs,f g z = false
 | [],C,_,[],_,_,h=>by simp at h
 | [],C,_,z :: _,hi,hc,_=>⟨z,hc z List.mem_cons_self,let ⟨e,h,_⟩:=hi.1;⟨e,h⟩,fun _ h=>by cases h⟩
 | g :: gs,C,hC,zs,hi,hc,h=>by
  obtain ⟨zs',a1,a2,_,a4⟩:=wL C hC (f g) (hf g) zs hi hc
  rw [List.length_cons] at h
  obtain ⟨z,b1,b2,b3⟩:=dep f hf gs (fun z=>C z /\ f g z = false) (fun z z' h h'=>⟨hC z z' h.1 h'.1,by rw [hf,h.2,h'.2];rfl⟩) zs' a1 a2 (by lia)
  refine ⟨z,b1.1,b2,fun g' hg=>?_⟩
  rcases List.mem_cons.mp hg with rfl | hg
  ·exact b1.2
  ·exact b3 g' hg
end
end Eu
namespace Eu
noncomputable abbrev T3:=Int × Int × Int
noncomputable def tk (k:Int) (s t:T3):Bool:=decide (t.1 = s.1 + 1 /\ t.2.1 <= s.2.2 + k /\ s.2.1 <= t.2.2 + k)
noncomputable def edg (k:Int) (X:List T3):List (Ed T3):=X.flatMap fun s=>(X.filter (tk k s)).map fun t=>(s,t)
theorem mem_edg {k:Int} {X:List T3} {e:Ed T3}:e ∈ edg k X ↔ e.1 ∈ X /\ e.2 ∈ X /\ e.2.1 = e.1.1 + 1 /\ e.2.2.1 <= e.1.2.2 + k /\ e.1.2.1 <= e.2.2.2 + k:=by
 unfold edg
 rw [List.mem_flatMap]
 constructor
 ·rintro ⟨s,hs,h⟩
  obtain ⟨t,ht,rfl⟩:=List.mem_map.mp h
  obtain ⟨h1,h2⟩:=List.mem_filter.mp ht
  exact ⟨hs,h1,of_decide_eq_true h2⟩
 ·rintro ⟨h1,h2,h3⟩
  exact ⟨e.1,h1,List.mem_map.mpr ⟨e.2,List.mem_filter.mpr ⟨h2,decide_eq_true h3⟩,rfl⟩⟩
theorem gT {k:Int} {X:List T3} (h:X.Nodup):(edg k X).Nodup:=by
 unfold edg
 have key:∀ l:List T3,l.Nodup -> (l.flatMap fun s=>(X.filter (tk k s)).map fun t=>(s,t)).Nodup:=by
  intro l
  induction l with
  | nil=>exact fun _=>.nil
  | cons s l ih=>
   intro hl
   obtain ⟨h1,h2⟩:=List.nodup_cons.mp hl
   rw [List.flatMap_cons]
   refine List.nodup_append.mpr ⟨?_,ih h2,fun a ha b hb e=>?_⟩
   ·have:=h.filter (tk k s)
    rw [List.nodup_iff_pairwise_ne,List.pairwise_map]
    exact (List.nodup_iff_pairwise_ne.mp this).imp fun n e=>n (Prod.mk.inj e).2
   ·subst e
    obtain ⟨t,_,rfl⟩:=List.mem_map.mp ha
    obtain ⟨s',hs',hm⟩:=List.mem_flatMap.mp hb
    obtain ⟨t',_,e⟩:=List.mem_map.mp hm
    exact h1 ((Prod.mk.inj e).1 ▸ hs')
 exact key X h
structure Lay (X:List T3):Prop where
 nd:X.Nodup
 ok:∀ a ∈ X,a.2.1 <= a.2.2
 sp:∀ a ∈ X,∀ b ∈ X,a ≠ b -> a.1 = b.1 -> a.2.2 + 2 <= b.2.1 \/ b.2.2 + 2 <= a.2.1
theorem Lay.hi {X:List T3} (l:Lay X) {a b:T3} (ha:a ∈ X) (hb:b ∈ X) (h1:a.1 = b.1) (h2:a.2.2 = b.2.2):a = b:=by
 apply Classical.byContradiction
 intro hn
 have:=l.ok a ha
 have:=l.ok b hb
 rcases l.sp a ha b hb hn h1 with h | h <;> lia
structure Btw (X Y:List T3):Prop where
 dis:∀ a ∈ X,∀ g ∈ Y,a.1 = g.1 -> a.2.2 < g.2.1 \/ g.2.2 < a.2.1
 nxt:∀ a ∈ X,(∃ g ∈ Y,g.1 = a.1 /\ g.2.1 = a.2.2 + 1) \/ ∀ b ∈ X,b.1 = a.1 -> b.2.2 <= a.2.2
section
variable {k:Int} {X Y:List T3} {z:Ed T3 -> Bool}
noncomputable def wd (k:Int) (X:List T3) (g:T3) (z:Ed T3 -> Bool):Bool:=px (edg k X) fun e=>z e && decide (e.1.1 = g.1 /\ e.1.2.2 < g.2.1)
noncomputable def wu (k:Int) (X:List T3) (g:T3) (z:Ed T3 -> Bool):Bool:=px (edg k X) fun e=>z e && decide (e.2.1 = g.1 /\ e.2.2.2 < g.2.1)
theorem KU (g:T3) (z z':Ed T3 -> Bool):wd k X g (fun e=>Bool.xor (z e) (z' e)) = Bool.xor (wd k X g z) (wd k X g z'):=by
 unfold wd
 rw [<- nU]
 refine aX fun e _=>?_
 dsimp only
 generalize decide (e.1.1 = g.1 /\ e.1.2.2 < g.2.1) = c
 cases z e <;> cases z' e <;> cases c <;> rfl
theorem cut (l:Lay X) (hz:Cyc (edg k X) z) (A:T3 -> Bool):px (edg k X) (fun e=>z e && Bool.xor (A e.1) (A e.2)) = false:=by
 rw [wO l.nd (fun e he=>⟨(mem_edg.mp he).1,(mem_edg.mp he).2.1⟩)]
 exact fV fun v _=>by rw [hz.2,Bool.and_false]
theorem IG (l:Lay X) (hz:Cyc (edg k X) z) (g:T3):wd k X g z = wu k X g z:=by
 have:=cut l hz fun v=>decide (v.1 = g.1 /\ v.2.2 < g.2.1)
 rw [show (px (edg k X) fun e=>z e && Bool.xor (decide (e.1.1 = g.1 /\ e.1.2.2 < g.2.1)) (decide (e.2.1 = g.1 /\ e.2.2.2 < g.2.1))) = Bool.xor (wd k X g z) (wu k X g z) from by
  unfold wd wu
  rw [<- nU]
  refine aX fun e _=>?_
  generalize decide (e.1.1 = g.1 /\ e.1.2.2 < g.2.1) = c
  generalize decide (e.2.1 = g.1 /\ e.2.2.2 < g.2.1) = d
  cases z e <;> cases c <;> cases d <;> rfl] at this
 cases q:wd k X g z <;> cases q':wu k X g z <;> rw [q,q'] at this <;> first | rfl | cases this
theorem uv (l:Lay X) (hz:Cyc (edg k X) z) (y:Int):px (edg k X) (fun e=>z e && decide (e.1.1 = y)) = false:=by
 rw [<- cut l hz fun v=>decide (v.1 <= y)]
 refine aX fun e he=>?_
 obtain ⟨_,_,h,_⟩:=mem_edg.mp he
 congr 1
 by_cases h1:e.1.1 <= y
 ·by_cases h2:e.2.1 <= y
  ·rw [decide_eq_false (by lia),decide_eq_true h1,decide_eq_true h2];rfl
  ·rw [decide_eq_true (by lia),decide_eq_true h1,decide_eq_false h2];rfl
 ·rw [decide_eq_false (by lia),decide_eq_false h1,decide_eq_false (by lia)];rfl
theorem mV (b:Btw X Y) (hz:Cyc (edg k X) z) (l:Lay X) {g g':T3} (hg:g ∈ Y) (hg':g' ∈ Y) (h1:g'.1 = g.1 + 1) (h2:g'.2.1 <= g.2.2 + (1 - k)) (h3:g.2.1 <= g'.2.2 + (1 - k)):wd k X g z = wd k X g' z:=by
 rw [IG l hz g']
 unfold wd wu
 refine aX fun e he=>?_
 obtain ⟨e1,e2,r1,r2,r3⟩:=mem_edg.mp he
 congr 1
 refine decide_eq_decide.mpr ⟨fun ⟨a1,a2⟩=>⟨by lia,?_⟩,fun ⟨a1,a2⟩=>⟨by lia,?_⟩⟩
 ·rcases b.dis e.2 e2 g' hg' (by lia) with q | q
  ·exact q
  ·lia
 ·rcases b.dis e.1 e1 g hg (by lia) with q | q
  ·exact q
  ·lia
theorem kS {α:Type} (f:α -> Int):∀ {l:List α},l ≠ [] -> ∃ m ∈ l,∀ b ∈ l,f m <= f b
 | [],h=>absurd rfl h
 | [a],_=>⟨a,List.mem_cons_self,fun b hb=>by rw [List.mem_singleton.mp hb];exact Int.le_refl _⟩
 | a :: c :: l,_=>by
  obtain ⟨m,h1,h2⟩:=kS f (l:=c :: l) (by simp)
  by_cases h:f a <= f m
  ·refine ⟨a,List.mem_cons_self,fun b hb=>?_⟩
   rcases List.mem_cons.mp hb with rfl | hb
   ·exact Int.le_refl _
   ·have:=h2 b hb;lia
  ·refine ⟨m,List.mem_cons_of_mem _ h1,fun b hb=>?_⟩
   rcases List.mem_cons.mp hb with rfl | hb
   ·lia
   ·exact h2 b hb
theorem HS (l:Lay X) (b:Btw X Y) (hk:k <= 1) (hz:Cyc (edg k X) z) (hw:∀ g ∈ Y,wd k X g z = false) (e0:Ed T3):z e0 = false:=by
 cases q0:z e0 with
 | false=>rfl
 | true=>
  exfalso
  have nd:=gT (k:=k) l.nd
  obtain ⟨e1,h1,m1⟩:=kS (fun e:Ed T3=>e.1.2.2) (l:=(edg k X).filter fun e=>z e && decide (e.1.1 = e0.1.1)) (List.ne_nil_of_mem (List.mem_filter.mpr ⟨hz.1 e0 q0,by rw [q0,decide_eq_true rfl];rfl⟩))
  obtain ⟨e,h2,m2⟩:=kS (fun e:Ed T3=>e.2.2.2) (l:=((edg k X).filter fun e=>z e && decide (e.1.1 = e0.1.1)).filter fun e=>decide (e.1.2.2 = e1.1.2.2)) (List.ne_nil_of_mem (List.mem_filter.mpr ⟨h1,decide_eq_true rfl⟩))
  obtain ⟨h3,h4⟩:=List.mem_filter.mp h2
  have h4:=of_decide_eq_true h4
  obtain ⟨he,h5⟩:=List.mem_filter.mp h3
  obtain ⟨hze,hy⟩:=Bool.and_eq_true_iff.mp h5
  have hy:=of_decide_eq_true hy
  obtain ⟨r1,s1,t1,t2,t3⟩:=mem_edg.mp he
  have min1:∀ f ∈ edg k X,z f = true -> f.1.1 = e.1.1 -> e.1.2.2 <= f.1.2.2:=fun f hf hzf hr=>by
   have:=m1 f (List.mem_filter.mpr ⟨hf,by rw [hzf,decide_eq_true (by lia)];rfl⟩)
   lia
  have min2:∀ f ∈ edg k X,z f = true -> f.1.1 = e.1.1 -> f.1.2.2 = e.1.2.2 -> e.2.2.2 <= f.2.2.2:=fun f hf hzf hr hh=>m2 f (List.mem_filter.mpr ⟨List.mem_filter.mpr ⟨hf,by rw [hzf,decide_eq_true (by lia)];rfl⟩,decide_eq_true (by lia)⟩)
  have up:px (edg k X) (fun f=>z f && decide (f.1.1 = e.1.1 /\ f.1.2.2 <= e.1.2.2)) = false:=by
   rcases b.nxt e.1 r1 with ⟨g,hg,g1,g2⟩ | hl
   ·rw [<- hw g hg]
    exact aX fun f _=>by congr 1;exact decide_eq_decide.mpr (by lia)
   ·rw [<- uv l hz e.1.1]
    refine aX fun f hf=>?_
    congr 1
    exact decide_eq_decide.mpr ⟨fun h=>h.1,fun h=>⟨h,hl _ (mem_edg.mp hf).1 h⟩⟩
  have dn:px (edg k X) (fun f=>z f && decide (f.2.1 = e.2.1 /\ f.2.2.2 <= e.2.2.2)) = false:=by
   rcases b.nxt e.2 s1 with ⟨g,hg,g1,g2⟩ | hl
   ·rw [<- hw g hg,IG l hz]
    exact aX fun f _=>by congr 1;exact decide_eq_decide.mpr (by lia)
   ·rw [<- uv l hz e.1.1]
    refine aX fun f hf=>?_
    obtain ⟨_,f2,f3,_⟩:=mem_edg.mp hf
    congr 1
    exact decide_eq_decide.mpr ⟨fun h=>by lia,fun h=>⟨by lia,hl _ f2 (by lia)⟩⟩
  obtain ⟨f,f1,f2,f3⟩:=Fc nd up he (by rw [hze,decide_eq_true ⟨rfl,Int.le_refl _⟩];rfl)
  obtain ⟨zf,f4⟩:=Bool.and_eq_true_iff.mp f3
  obtain ⟨f4,f5⟩:=of_decide_eq_true f4
  obtain ⟨x1,x2,x3,x4,x5⟩:=mem_edg.mp f1
  have fm:=min1 f f1 zf f4
  have fe:f.1 = e.1:=l.hi x1 r1 f4 (by lia)
  have fn:f.2 ≠ e.2:=fun q=>f2 (Prod.ext fe q)
  have fm2:=min2 f f1 zf f4 (by lia)
  have fs:e.2.2.2 + 2 <= f.2.2.1:=by
   have:=l.ok _ x2
   have:=l.ok _ s1
   rcases l.sp e.2 s1 f.2 x2 (fun q=>fn q.symm) (by lia) with q | q
   ·exact q
   ·lia
  obtain ⟨g,g1,g2,g3⟩:=Fc nd dn he (by rw [hze,decide_eq_true ⟨rfl,Int.le_refl _⟩];rfl)
  obtain ⟨zg,g4⟩:=Bool.and_eq_true_iff.mp g3
  obtain ⟨g4,g5⟩:=of_decide_eq_true g4
  obtain ⟨y1,y2,y3,y4,y5⟩:=mem_edg.mp g1
  have gm:=min1 g g1 zg (by lia)
  have gn:g.1 ≠ e.1:=fun q=>by
   have h:=min2 g g1 zg (by lia) (by rw [q])
   exact g2 (Prod.ext q (l.hi y2 s1 g4 (by lia)))
  have gs:e.1.2.2 + 2 <= g.1.2.1:=by
   have:=l.ok _ y1
   have:=l.ok _ r1
   rcases l.sp e.1 r1 g.1 y1 (fun q=>gn q.symm) (by lia) with q | q
   ·exact q
   ·lia
  rw [fe] at x4
  lia
theorem HY (l:Lay X) (b:Btw X Y) (hk:k <= 1) {c:T3 -> Nat} (hc:∀ e ∈ edg k X,c e.1 = c e.2) {L:List Nat} (hL:L.Nodup) (hL2:∀ n ∈ L,∃ x ∈ X,c x = n) (gs:List T3) (hg:∀ z,Cyc (edg k X) z -> (∀ g ∈ gs,wd k X g z = false) -> ∀ g ∈ Y,wd k X g z = false):(edg k X).length + L.length <= X.length + gs.length:=by
 obtain ⟨zs,h1,h2,h3⟩:=Jh l.nd (gT l.nd) (fun e he=>⟨(mem_edg.mp he).1,(mem_edg.mp he).2.1⟩) hc hL hL2
 apply Classical.byContradiction
 intro hn
 obtain ⟨z,k1,⟨e,k2⟩,k3⟩:=dep (fun g=>wd k X g) (fun g=>KU g) gs (Cyc (edg k X)) (fun z z'=>Cyc.xor) zs h2 h1 (by lia)
 rw [HS l b hk k1 (hg z k1 k3) e] at k2
 cases k2
end
end Eu
namespace Eu
noncomputable abbrev Rw1:=List (Int × Int)
noncomputable def co (hi:Int):Int -> Rw1 -> Rw1
 | lo,[]=>[(lo,hi)]
 | lo,s :: r=>(lo,s.1 - 1) :: co hi (s.2 + 1) r
noncomputable def In (hi:Int):Int -> Rw1 -> Prop
 | lo,[]=>lo <= hi
 | lo,s :: r=>lo < s.1 /\ s.1 <= s.2 /\ In hi (s.2 + 1) r
noncomputable def cF:Rw1 -> Int -> Int
 | [],_=>0
 | s :: r,x=>(if s.1 <= x then 1 else 0) + cF r x
noncomputable def cG:Rw1 -> Int -> Int
 | [],_=>0
 | s :: r,x=>(if s.2 <= x then 1 else 0) + cG r x
theorem In.le {hi:Int}:∀ {r:Rw1} {lo:Int},In hi lo r -> lo <= hi
 | [],_,h=>h
 | _ :: _,_,⟨h1,h2,h3⟩=>by have:=In.le h3;lia
theorem In.mem {hi:Int}:∀ {r:Rw1} {lo:Int},In hi lo r -> ∀ s ∈ r,lo < s.1 /\ s.1 <= s.2 /\ s.2 < hi
 | [],_,_,_,h=>by cases h
 | a :: r,_,hpt0,s,h=>by
  obtain ⟨h1,h2,h3⟩:=hpt0
  have:=In.le h3
  rcases List.mem_cons.mp h with rfl | h
  ·exact ⟨h1,h2,by lia⟩
  ·have:=In.mem h3 s h
   exact ⟨by lia,this.2⟩
theorem Dz (hi x:Int):∀ (r:Rw1) (lo:Int),cF (co hi lo r) x = (if lo <= x then 1 else 0) + cG r (x - 1)
 | [],lo=>rfl
 | s :: r,lo=>by
  show (if lo <= x then (1:Int) else 0) + cF (co hi (s.2 + 1) r) x = (if lo <= x then 1 else 0) + ((if s.2 <= x - 1 then 1 else 0) + cG r (x - 1))
  rw [Dz hi x r]
  congr 2
  split <;> split <;> first | rfl | lia
theorem DA (hi x:Int):∀ (r:Rw1) (lo:Int),cG (co hi lo r) x = cF r (x + 1) + (if hi <= x then 1 else 0)
 | [],lo=>by show (if hi <= x then (1:Int) else 0) + 0 = 0 + (if hi <= x then 1 else 0);lia
 | s :: r,lo=>by
  show (if s.1 - 1 <= x then (1:Int) else 0) + cG (co hi (s.2 + 1) r) x = (if s.1 <= x + 1 then 1 else 0) + cF r (x + 1) + (if hi <= x then 1 else 0)
  rw [DA hi x r]
  have:(if s.1 - 1 <= x then (1:Int) else 0) = if s.1 <= x + 1 then 1 else 0:=by split <;> split <;> first | rfl | lia
  lia
theorem HZ:∀ {r:Rw1} {x:Int},(∀ s ∈ r,x < s.1) -> cF r x = 0
 | [],_,_=>rfl
 | s :: r,x,h=>by
  have h1:=h s List.mem_cons_self
  show (if s.1 <= x then (1:Int) else 0) + cF r x = 0
  rw [if_neg (by lia),HZ fun s' h'=>h s' (List.mem_cons_of_mem _ h')]
  rfl
theorem H9:∀ {r:Rw1} {x:Int},(∀ s ∈ r,s.2 <= x) -> cG r x = r.length
 | [],_,_=>rfl
 | s :: r,x,h=>by
  show (if s.2 <= x then (1:Int) else 0) + cG r x = _
  rw [if_pos (h s List.mem_cons_self),H9 fun s' h'=>h s' (List.mem_cons_of_mem _ h'),List.length_cons]
  lia
noncomputable def tk1 (k:Int) (s t:Int × Int):Bool:=decide (t.1 <= s.2 + k /\ s.1 <= t.2 + k)
theorem GV (k:Int) (hk:0 <= k) (s:Int × Int) (hs:s.1 <= s.2):∀ t:Rw1,(∀ u ∈ t,u.1 <= u.2) -> ((t.filter (tk1 k s)).length:Int) = cF t (s.2 + k) - cG t (s.1 - k - 1)
 | [],_=>rfl
 | u :: t,h=>by
  have hu:=h u List.mem_cons_self
  have ih:=GV k hk s hs t fun v hv=>h v (List.mem_cons_of_mem _ hv)
  show _ = ((if u.1 <= s.2 + k then (1:Int) else 0) + cF t (s.2 + k)) - ((if u.2 <= s.1 - k - 1 then 1 else 0) + cG t (s.1 - k - 1))
  by_cases h1:u.1 <= s.2 + k
  ·by_cases h2:u.2 <= s.1 - k - 1
   ·rw [List.filter_cons_of_neg (by unfold tk1;rw [decide_eq_false (by lia)];decide),if_pos h1,if_pos h2]
    lia
   ·rw [List.filter_cons_of_pos (by unfold tk1;exact decide_eq_true ⟨h1,by lia⟩),if_pos h1,if_neg h2,List.length_cons]
    lia
  ·rw [List.filter_cons_of_neg (by unfold tk1;rw [decide_eq_false (by lia)];decide),if_neg h1,if_neg (by lia)]
   lia
noncomputable def eR (k:Int):Rw1 -> Rw1 -> Int
 | [],_=>0
 | s :: r,t=>((t.filter (tk1 k s)).length:Int) + eR k r t
theorem mf {hi:Int}:∀ {r:Rw1} {lo:Int},In hi lo r -> ∀ s ∈ co hi lo r,lo <= s.1 /\ s.1 <= s.2 /\ s.2 <= hi
 | [],lo,h,s,hs=>by rw [List.mem_singleton.mp hs];exact ⟨Int.le_refl _,h,Int.le_refl _⟩
 | a :: r,lo,hpt0,s,hs=>by
  obtain ⟨h1,h2,h3⟩:=hpt0
  have:=h3.le
  rcases List.mem_cons.mp hs with rfl | hs
  ·exact ⟨Int.le_refl _,by dsimp only;lia,by dsimp only;lia⟩
  ·have:=mf h3 s hs
   exact ⟨by lia,this.2⟩
theorem DD (hi:Int):∀ (r:Rw1) (lo:Int),(co hi lo r).length = r.length + 1
 | [],_=>rfl
 | _ :: r,_=>by show (co hi _ r).length + 1 = _;rw [DD hi r];rfl
theorem AO {hi LO:Int} {t:Rw1} (ht:In hi LO t):∀ (r:Rw1) (lo:Int),LO <= lo -> In hi lo r -> eR 0 (co hi lo r) (co hi LO t) + eR 1 r t = r.length + 1 + cG t (hi - 1) - cF t lo
 | [],lo,hl,h=>by
  have h:lo <= hi:=h
  show (((co hi LO t).filter (tk1 0 (lo,hi))).length:Int) + 0 + 0 = _
  rw [GV 0 (Int.le_refl _) (lo,hi) h _ fun u hu=>(mf ht u hu).2.1,Dz,DA,if_pos (by dsimp only;lia),if_neg (by dsimp only;lia)]
  dsimp only
  rw [show hi + 0 - 1 = hi - 1 by lia,show lo - 0 - 1 + 1 = lo by lia]
  simp only [List.length_nil]
  lia
 | s :: r,lo,hl,hpt0=>by
  obtain ⟨h1,h2,h3⟩:=hpt0
  have h4:=h3.le
  have ih:=AO ht r (s.2 + 1) (by lia) h3
  show (((co hi LO t).filter (tk1 0 (lo,s.1 - 1))).length:Int) + eR 0 (co hi (s.2 + 1) r) (co hi LO t) + (((t.filter (tk1 1 s)).length:Int) + eR 1 r t) = _
  rw [GV 0 (Int.le_refl _) (lo,s.1 - 1) (by dsimp only;lia) _ fun u hu=>(mf ht u hu).2.1,Dz,DA,if_pos (by dsimp only;lia),if_neg (by dsimp only;lia),GV 1 (by lia) s h2 t fun u hu=>(ht.mem u hu).2.1]
  dsimp only
  rw [show s.1 - 1 + 0 - 1 = s.1 - 1 - 1 by lia,show lo - 0 - 1 + 1 = lo by lia,List.length_cons]
  lia
theorem Nl {hi LO:Int} {r t:Rw1} (hr:In hi LO r) (ht:In hi LO t):eR 0 (co hi LO r) (co hi LO t) + eR 1 r t = r.length + t.length + 1:=by
 rw [AO ht r LO (Int.le_refl _) hr,H9 fun s hs=>by have:=ht.mem s hs;lia,HZ fun s hs=>(ht.mem s hs).1]
 lia
noncomputable def lay (f:Int -> Rw1) (y:Int):Nat -> List T3
 | 0=>[]
 | n + 1=>(f y).map (fun s=>(y,s)) ++ lay f (y + 1) n
theorem aM (f:Int -> Rw1) (t:T3):∀ (n:Nat) (y:Int),t ∈ lay f y n ↔ y <= t.1 /\ t.1 < y + n /\ t.2 ∈ f t.1
 | 0,y=>by
  constructor
  ·intro h;cases h
  ·intro h;lia
 | n + 1,y=>by
  show t ∈ _ ++ _ ↔ _
  rw [List.mem_append,aM f t n (y + 1),List.mem_map]
  constructor
  ·rintro (⟨s,hs,rfl⟩ | ⟨h1,h2,h3⟩)
   ·exact ⟨Int.le_refl _,by dsimp only;lia,hs⟩
   ·exact ⟨by lia,by lia,h3⟩
  ·rintro ⟨h1,h2,h3⟩
   by_cases h:t.1 = y
   ·exact .inl ⟨t.2,h ▸ h3,by rw [<- h]⟩
   ·exact .inr ⟨by lia,by lia,h3⟩
noncomputable def eN (k:Int) (X Z:List T3):Nat:=(X.map fun s=>(Z.filter (tk k s)).length).sum
theorem yK (k:Int) (X:List T3):(edg k X).length = eN k X X:=by
 unfold edg eN
 rw [List.length_flatMap]
 congr 1
 exact List.map_congr_left fun s _=>by rw [List.length_map]
theorem Gp (k:Int) (A B Z:List T3):eN k (A ++ B) Z = eN k A Z + eN k B Z:=by unfold eN;rw [List.map_append,List.sum_append]
theorem mm (k:Int) (B C:List T3):∀ A:List T3,eN k A (B ++ C) = eN k A B + eN k A C
 | []=>rfl
 | a :: A=>by
  have:=mm k B C A
  unfold eN at this ⊢
  rw [List.map_cons,List.map_cons,List.map_cons,List.sum_cons,List.sum_cons,List.sum_cons,List.filter_append,List.length_append,this]
  lia
theorem mn (k:Int) (Z:List T3):∀ A:List T3,(∀ a ∈ A,∀ b ∈ Z,b.1 ≠ a.1 + 1) -> eN k A Z = 0
 | [],_=>rfl
 | a :: A,h=>by
  have:=mn k Z A fun x hx=>h x (List.mem_cons_of_mem _ hx)
  unfold eN at this ⊢
  rw [List.map_cons,List.sum_cons,this,List.filter_eq_nil_iff.mpr fun b hb=>by unfold tk;rw [decide_eq_false fun q=>h a List.mem_cons_self b hb q.1];decide]
  rfl
theorem DM (k y:Int) (t:Rw1):∀ r:Rw1,(eN k (r.map fun s=>(y,s)) (t.map fun s=>(y + 1,s)):Int) = eR k r t
 | []=>rfl
 | s :: r=>by
  have:=DM k y t r
  unfold eN at this ⊢
  rw [List.map_cons,List.map_cons,List.sum_cons,List.filter_map,List.length_map]
  show _ = ((t.filter (tk1 k s)).length:Int) + eR k r t
  rw [<- this,show (tk k (y,s) ∘ fun s=>(y + 1,s)) = tk1 k s from funext fun u=>decide_eq_decide.mpr ⟨fun h=>h.2,fun h=>⟨rfl,h⟩⟩]
  lia
theorem DN (k:Int) (f:Int -> Rw1) (y:Int) (n:Nat):((edg k (lay f y (n + 2))).length:Int) = eR k (f y) (f (y + 1)) + (edg k (lay f (y + 1) (n + 1))).length:=by
 rw [yK,yK,<- DM k y]
 have hl:∀ t ∈ lay f (y + 1) (n + 1),y + 1 <= t.1:=fun t ht=>((aM f t _ _).mp ht).1
 have hr:∀ t ∈ (f y).map (fun s=>(y,s)),t.1 = y:=fun t ht=>by obtain ⟨s,_,rfl⟩:=List.mem_map.mp ht;rfl
 show ((eN k ((f y).map (fun s=>(y,s)) ++ lay f (y + 1) (n + 1)) ((f y).map (fun s=>(y,s)) ++ lay f (y + 1) (n + 1)):Nat):Int) = _
 rw [Gp,mm,mm,mn k _ _ fun a ha b hb=>by rw [hr a ha,hr b hb];lia,mn k ((f y).map fun s=>(y,s)) _ fun a ha b hb=>by have:=hl a ha;rw [hr b hb];lia]
 rw [show eN k ((f y).map fun s=>(y,s)) (lay f (y + 1) (n + 1)) = eN k ((f y).map fun s=>(y,s)) ((f (y + 1)).map fun s=>(y + 1,s)) from by
  show eN k _ ((f (y + 1)).map (fun s=>(y + 1,s)) ++ lay f (y + 1 + 1) n) = _
  rw [mm,mn k (lay f (y + 1 + 1) n) _ fun a ha b hb=>by have:=((aM f b _ _).mp hb).1;rw [hr a ha];lia]
  rfl]
 lia
theorem Ic (k:Int) (f:Int -> Rw1) (y:Int):(edg k (lay f y 1)).length = 0:=by
 rw [yK]
 refine mn k _ _ fun a ha b hb=>?_
 have:=(aM f a _ _).mp ha
 have:=(aM f b _ _).mp hb
 lia
theorem pi (f:Int -> Rw1) (y:Int) (n:Nat):(lay f y (n + 1)).length = (f y).length + (lay f (y + 1) n).length:=by
 show ((f y).map (fun s=>(y,s)) ++ lay f (y + 1) n).length = _
 rw [List.length_append,List.length_map]
noncomputable def cf (lo hi:Int) (f:Int -> Rw1) (y:Int):Rw1:=co hi lo (f y)
theorem DH {lo hi:Int} {f:Int -> Rw1} (h:∀ y,In hi lo (f y)):∀ (n:Nat) (y:Int),((edg 1 (lay f y (n + 1))).length:Int) + (edg 0 (lay (cf lo hi f) y (n + 1))).length + (f y).length + (f (y + n)).length = 2 * (lay f y (n + 1)).length + n
 | 0,y=>by
  rw [Ic,Ic,pi]
  show ((0:Nat):Int) + ((0:Nat):Int) + (f y).length + (f (y + 0)).length = 2 * (((f y).length + 0:Nat):Int) + 0
  rw [Int.add_zero y]
  lia
 | n + 1,y=>by
  have ih:=DH h n (y + 1)
  rw [DN,DN,pi f y]
  have:=Nl (h y) (h (y + 1))
  rw [show y + ((n + 1:Nat):Int) = y + 1 + (n:Int) by lia]
  unfold cf at ih ⊢
  lia
theorem En (lo hi:Int) (f:Int -> Rw1):∀ (n:Nat) (y:Int),(lay (cf lo hi f) y n).length = (lay f y n).length + n
 | 0,_=>rfl
 | n + 1,y=>by
  rw [pi,pi,En lo hi f n,show (cf lo hi f y).length = (f y).length + 1 from DD hi _ lo]
  lia
end Eu
namespace Eu
theorem In.apart {hi:Int}:∀ {r:Rw1} {lo:Int},In hi lo r -> r.Pairwise fun a b=>a.2 + 2 <= b.1
 | [],_,_=>.nil
 | s :: r,_,⟨_,_,h3⟩=>List.pairwise_cons.mpr ⟨fun b hb=>by have:=(h3.mem b hb).1;lia,h3.apart⟩
theorem wz {hi:Int}:∀ {r:Rw1} {lo:Int},In hi lo r -> (co hi lo r).Pairwise fun a b=>a.2 + 2 <= b.1
 | [],_,_=>List.pairwise_singleton _ _
 | s :: r,_,⟨_,h2,h3⟩=>List.pairwise_cons.mpr ⟨fun b hb=>by have:=(mf h3 b hb).1;dsimp only;lia,wz h3⟩
theorem uC (hi:Int):∀ (r:Rw1) (lo:Int),∃ g ∈ co hi lo r,g.1 = lo
 | [],lo=>⟨(lo,hi),List.mem_cons_self,rfl⟩
 | s :: r,lo=>⟨(lo,s.1 - 1),List.mem_cons_self,rfl⟩
theorem uA {hi:Int}:∀ {r:Rw1} {lo:Int},In hi lo r -> ∀ a ∈ r,∀ g ∈ co hi lo r,a.2 < g.1 \/ g.2 < a.1
 | [],_,_,_,h,_,_=>by cases h
 | s :: r,lo,hpt0,a,ha,g,hg=>by
  obtain ⟨h1,h2,h3⟩:=hpt0
  rcases List.mem_cons.mp ha with rfl | ha
  ·rcases List.mem_cons.mp hg with rfl | hg
   ·exact .inr (by dsimp only;lia)
   ·have:=(mf h3 g hg).1
    exact .inl (by lia)
  ·rcases List.mem_cons.mp hg with rfl | hg
   ·have:=(h3.mem a ha).1
    exact .inr (by dsimp only;lia)
   ·exact uA h3 a ha g hg
theorem DE {hi:Int}:∀ {r:Rw1} {lo:Int},∀ a ∈ r,∃ g ∈ co hi lo r,g.1 = a.2 + 1
 | [],_,_,h=>by cases h
 | s :: r,lo,a,ha=>by
  rcases List.mem_cons.mp ha with rfl | ha
  ·obtain ⟨g,h1,h2⟩:=uC hi r (a.2 + 1)
   exact ⟨g,List.mem_cons_of_mem _ h1,h2⟩
  ·obtain ⟨g,h1,h2⟩:=DE (lo:=s.2 + 1) a ha
   exact ⟨g,List.mem_cons_of_mem _ h1,h2⟩
theorem uD {hi:Int}:∀ {r:Rw1} {lo:Int},∀ g ∈ co hi lo r,(∃ a ∈ r,a.1 = g.2 + 1) \/ g.2 = hi
 | [],_,g,hg=>.inr (by rw [List.mem_singleton.mp hg])
 | s :: r,lo,g,hg=>by
  rcases List.mem_cons.mp hg with rfl | hg
  ·exact .inl ⟨s,List.mem_cons_self,by dsimp only;lia⟩
  ·rcases uD g hg with ⟨a,h1,h2⟩ | h
   ·exact .inl ⟨a,List.mem_cons_of_mem _ h1,h2⟩
   ·exact .inr h
theorem vq {α:Type} {R:α -> α -> Prop}:∀ {l:List α},l.Pairwise R -> ∀ a ∈ l,∀ b ∈ l,a ≠ b -> R a b \/ R b a
 | [],_,_,h,_,_,_=>by cases h
 | x :: l,h,a,ha,b,hb,hn=>by
  obtain ⟨h1,h2⟩:=List.pairwise_cons.mp h
  rcases List.mem_cons.mp ha with rfl | ha'
  ·rcases List.mem_cons.mp hb with rfl | hb
   ·exact absurd rfl hn
   ·exact .inl (h1 b hb)
  ·rcases List.mem_cons.mp hb with q | hb
   ·exact .inr (q ▸ h1 a ‹a ∈ l›)
   ·exact vq h2 a ‹a ∈ l› b hb hn
theorem tQ {f:Int -> Rw1} (h:∀ y,(f y).Nodup):∀ (n:Nat) (y:Int),(lay f y n).Nodup
 | 0,_=>.nil
 | n + 1,y=>by
  show ((f y).map (fun s=>(y,s)) ++ lay f (y + 1) n).Nodup
  refine List.nodup_append.mpr ⟨?_,tQ h n (y + 1),fun a ha b hb e=>?_⟩
  ·rw [List.nodup_iff_pairwise_ne,List.pairwise_map]
   exact (List.nodup_iff_pairwise_ne.mp (h y)).imp fun n e=>n (Prod.mk.inj e).2
  ·subst e
   obtain ⟨s,_,rfl⟩:=List.mem_map.mp ha
   have:=((aM f _ n (y + 1)).mp hb).1
   dsimp only at this
   lia
theorem AG {f:Int -> Rw1} (h1:∀ y,∀ s ∈ f y,s.1 <= s.2) (h2:∀ y,(f y).Pairwise fun a b=>a.2 + 2 <= b.1) (y:Int) (n:Nat):Lay (lay f y n) where
 nd:=tQ (fun y=>List.nodup_iff_pairwise_ne.mpr ((List.pairwise_iff_forall_sublist.mpr fun {a b} hs e=>by
  have h3:=List.pairwise_iff_forall_sublist.mp (h2 y) hs
  have:=h1 y a (hs.subset List.mem_cons_self)
  subst e
  lia))) n y
 ok a ha:=h1 _ _ ((aM f a n y).mp ha).2.2
 sp a ha b hb hn e:=by
  have:=((aM f a n y).mp ha).2.2
  have h3:=((aM f b n y).mp hb).2.2
  rw [<- e] at h3
  exact vq (h2 a.1) a.2 this b.2 h3 fun q=>hn (Prod.ext e q)
section
variable {lo hi:Int} {f:Int -> Rw1} (h:∀ y,In hi lo (f y)) (y:Int) (n:Nat)
include h
theorem zh:Lay (lay f y n):=AG (fun y s hs=>((h y).mem s hs).2.1) (fun y=>(h y).apart) y n
theorem LB:Lay (lay (cf lo hi f) y n):=AG (fun y s hs=>(mf (h y) s hs).2.1) (fun y=>wz (h y)) y n
theorem Bw:Btw (lay f y n) (lay (cf lo hi f) y n) where
 dis a ha g hg e:=by
  have h1:=((aM f a n y).mp ha).2.2
  have h2:=((aM _ g n y).mp hg).2.2
  rw [<- e] at h2
  exact uA (h a.1) a.2 h1 g.2 h2
 nxt a ha:=by
  obtain ⟨h1,h2,h3⟩:=(aM f a n y).mp ha
  obtain ⟨g,h4,h5⟩:=DE (hi:=hi) (lo:=lo) a.2 h3
  exact .inl ⟨(a.1,g),(aM _ _ n y).mpr ⟨h1,h2,h4⟩,rfl,h5⟩
theorem Lh:Btw (lay (cf lo hi f) y n) (lay f y n) where
 dis g hg a ha e:=by rcases (Bw h y n).dis a ha g hg e.symm with q | q;exact .inr q;exact .inl q
 nxt g hg:=by
  obtain ⟨h1,h2,h3⟩:=(aM _ g n y).mp hg
  rcases uD g.2 h3 with ⟨a,h4,h5⟩ | h4
  ·exact .inl ⟨(g.1,a),(aM _ _ n y).mpr ⟨h1,h2,h4⟩,rfl,h5⟩
  ·refine .inr fun b hb _=>?_
   have:=(mf (h b.1) b.2 ((aM _ b n y).mp hb).2.2).2.2
   lia
end
def Touch (k:Int) (s t:T3):Prop:=(s.1 = t.1 + 1 \/ t.1 = s.1 + 1) /\ s.2.1 <= t.2.2 + k /\ t.2.1 <= s.2.2 + k
theorem Touch.symm {k:Int} {s t:T3} (h:Touch k s t):Touch k t s:=⟨h.1.symm,h.2.2,h.2.1⟩
inductive Con (k:Int) (S:List T3) (s:T3):T3 -> Prop
 | refl:Con k S s s
 | step {t u:T3}:Con k S s t -> Touch k t u -> u ∈ S -> Con k S s u
theorem Con.mem {k:Int} {S:List T3} {s t:T3} (hs:s ∈ S) (h:Con k S s t):t ∈ S:=by
 cases h with
 | refl=>exact hs
 | step _ _ h=>exact h
theorem Con.trans {k:Int} {S:List T3} {s t u:T3} (a:Con k S s t) (b:Con k S t u):Con k S s u:=by
 induction b with
 | refl=>exact a
 | step _ h1 h2 ih=>exact ih.step h1 h2
theorem Con.symm {k:Int} {S:List T3} {s t:T3} (hs:s ∈ S) (a:Con k S s t):Con k S t s:=by
 induction a with
 | refl=>exact .refl
 | step h h1 h2 ih=>exact (Con.refl.step h1.symm (h.mem hs)).trans ih
structure Fam (k:Int) (S:List T3) (Ws:List (List T3)):Prop where
 cl:∀ W ∈ Ws,∃ s ∈ S,∀ t,t ∈ W ↔ Con k S s t
 dj:Ws.Pairwise fun V W=>∀ t ∈ V,t ∉ W
 all:∀ t ∈ S,∃ W ∈ Ws,t ∈ W
theorem Fam.filter {k:Int} {S:List T3} {Ws:List (List T3)} (F:Fam k S Ws) (q:List T3 -> Bool):(∀ W ∈ Ws.filter q,∃ s ∈ S,∀ t,t ∈ W ↔ Con k S s t) /\ (Ws.filter q).Pairwise fun V W=>∀ t ∈ V,t ∉ W:=⟨fun W hW=>F.cl W (List.mem_filter.mp hW).1,F.dj.filter q⟩
noncomputable def ix (Fs:List (List T3)) (t:T3):Nat:=Fs.findIdx fun F=>decide (t ∈ F)
theorem qE {s t:T3}:∀ {Fs:List (List T3)},(∀ F ∈ Fs,s ∈ F ↔ t ∈ F) -> ix Fs s = ix Fs t
 | [],_=>rfl
 | F :: Fs,h=>by
  have ih:=qE (Fs:=Fs) fun G hG=>h G (List.mem_cons_of_mem _ hG)
  unfold ix at ih ⊢
  rw [List.findIdx_cons,List.findIdx_cons,ih,decide_eq_decide.mpr (h F List.mem_cons_self)]
theorem uS {t:T3}:∀ {Fs:List (List T3)},(∀ F ∈ Fs,t ∉ F) -> ix Fs t = Fs.length
 | [],_=>rfl
 | F :: Fs,h=>by
  have ih:=uS (Fs:=Fs) fun G hG=>h G (List.mem_cons_of_mem _ hG)
  unfold ix at ih ⊢
  rw [List.findIdx_cons,ih,decide_eq_false (h F List.mem_cons_self)]
  rfl
theorem Ej {S:List T3}:∀ {Fs:List (List T3)},(∀ F ∈ Fs,∃ s ∈ S,s ∈ F) -> Fs.Pairwise (fun V W=>∀ t ∈ V,t ∉ W) -> ∀ n,n < Fs.length -> ∃ s ∈ S,ix Fs s = n
 | [],_,_,n,h=>absurd h (Nat.not_lt_zero _)
 | F :: Fs,h1,h2,n,h=>by
  obtain ⟨h3,h4⟩:=List.pairwise_cons.mp h2
  cases n with
  | zero=>
   obtain ⟨s,a,b⟩:=h1 F List.mem_cons_self
   exact ⟨s,a,by unfold ix;rw [List.findIdx_cons,decide_eq_true b];rfl⟩
  | succ n=>
   have h:n < Fs.length:=Nat.lt_of_succ_lt_succ h
   obtain ⟨s,a,b⟩:=Ej (fun G hG=>h1 G (List.mem_cons_of_mem _ hG)) h4 n h
   refine ⟨s,a,?_⟩
   have hn:s ∉ F:=fun hs=>by
    have:∀ G ∈ Fs,s ∉ G:=fun G hG=>h3 G hG s hs
    have:=uS this
    lia
   unfold ix at b ⊢
   rw [List.findIdx_cons,decide_eq_false hn,b]
   rfl
theorem Kb {S:List T3}:∀ {Fs:List (List T3)},(∀ F ∈ Fs,∃ s ∈ S,s ∈ F) -> ∃ gs:List T3,gs.length = Fs.length /\ ∀ F ∈ Fs,∃ g ∈ gs,g ∈ F
 | [],_=>⟨[],rfl,fun _ h=>by cases h⟩
 | F :: Fs,h=>by
  obtain ⟨gs,h1,h2⟩:=Kb fun G hG=>h G (List.mem_cons_of_mem _ hG)
  obtain ⟨s,_,h3⟩:=h F List.mem_cons_self
  refine ⟨s :: gs,by rw [List.length_cons,List.length_cons,h1],fun G hG=>?_⟩
  rcases List.mem_cons.mp hG with rfl | hG
  ·exact ⟨s,List.mem_cons_self,h3⟩
  ·obtain ⟨g,a,b⟩:=h2 G hG
   exact ⟨g,List.mem_cons_of_mem _ a,b⟩
theorem F1 {k:Int} {X Y:List T3} {z:Ed T3 -> Bool} (b:Btw X Y) (l:Lay X) (hz:Cyc (edg k X) z) {S:List T3} (hS:∀ s ∈ S,s ∈ Y) {s t:T3} (hs:s ∈ S) (h:Con (1 - k) S s t):wd k X s z = wd k X t z:=by
 induction h with
 | refl=>rfl
 | step h h1 h2 ih=>
  have:=hS _ (h.mem hs)
  rw [ih]
  obtain ⟨e | e,h3,h4⟩:=h1
  ·exact (mV b hz l (hS _ h2) this e h3 h4).symm
  ·exact mV b hz l this (hS _ h2) e h4 h3
end Eu
namespace Eu
def Di (lo hi:Int) (g:T3):Prop:=g.2.1 = lo \/ g.2.2 = hi
section
variable {lo hi:Int} {f:Int -> Rw1} (h:∀ y,In hi lo (f y)) (y:Int) (n:Nat)
include h
theorem F2 {z:Ed T3 -> Bool} (hz:Cyc (edg 1 (lay f y n)) z) {g:T3} (hg:g ∈ lay (cf lo hi f) y n) (ho:Di lo hi g):wd 1 (lay f y n) g z = false:=by
 have hx:∀ a ∈ lay f y n,lo < a.2.1 /\ a.2.1 <= a.2.2 /\ a.2.2 < hi:=fun a ha=>(h a.1).mem a.2 ((aM f a n y).mp ha).2.2
 rcases ho with e | e
 ·refine fV fun q hq=>?_
  have:=hx q.1 (mem_edg.mp hq).1
  rw [decide_eq_false (by lia),Bool.and_false]
 ·rw [<- uv (zh h y n) hz g.1]
  refine aX fun q hq=>?_
  congr 1
  refine decide_eq_decide.mpr ⟨fun a=>a.1,fun a=>⟨a,?_⟩⟩
  have:=hx q.1 (mem_edg.mp hq).1
  rcases (Bw h y n).dis q.1 (mem_edg.mp hq).1 g hg a with b | b <;> lia
theorem Lk (h0:f y = []) (h1:f (y + n) = []) {S G:List T3} (hS:∀ t,t ∈ S ↔ t ∈ lay f y (n + 1)) (hG:∀ t,t ∈ G ↔ t ∈ lay (cf lo hi f) y (n + 1) /\ ¬ Di lo hi t) {op:T3 -> Bool}
  (hop:∀ g ∈ G,op g = true ↔ ∃ o ∈ lay (cf lo hi f) y (n + 1),Di lo hi o /\ Touch 0 g o) {Ws Gs:List (List T3)} (FW:Fam 1 S Ws) (FG:Fam 0 G Gs) :
  (Ws.length:Int) - ((Gs.filter fun W=>!W.any op).length:Nat) = (lay f y (n + 1)).length - (edg 1 (lay f y (n + 1))).length:=by
 obtain ⟨c1,c2⟩:=FG.filter fun W=>!W.any op
 have hn:∀ H ∈ Gs.filter (fun W=>!W.any op),∀ a ∈ H,op a = false:=fun H hH a ha=>by
  have:=(List.mem_filter.mp hH).2
  cases q:op a with
  | false=>rfl
  | true=>rw [List.any_eq_true.mpr ⟨a,ha,q⟩] at this;cases this
 have tch:∀ {k:Int} {X:List T3} {e:Ed T3},e ∈ edg k X -> Touch k e.1 e.2:=fun he=>let ⟨_,_,a,b,c⟩:=mem_edg.mp he;⟨.inr a,c,b⟩
 obtain ⟨gs,g1,g2⟩:=Kb (S:=G) (Fs:=Gs.filter fun W=>!W.any op) fun H hH=>let ⟨s,a,b⟩:=c1 H hH;⟨s,a,(b s).mpr .refl⟩
 obtain ⟨ws,w1,w2⟩:=Kb (S:=S) (Fs:=Ws) fun W hW=>let ⟨s,a,b⟩:=FW.cl W hW;⟨s,a,(b s).mpr .refl⟩
 have i1:=HY (k:=1) (zh h y (n + 1)) (Bw h y (n + 1)) (Int.le_refl _) (c:=ix Ws) (fun e he=>qE fun W hW=>by
  obtain ⟨s,a,b⟩:=FW.cl W hW
  rw [b,b]
  exact ⟨fun q=>q.step (tch he) ((hS _).mpr (mem_edg.mp he).2.1),fun q=>q.step (tch he).symm ((hS _).mpr (mem_edg.mp he).1)⟩) (L:=List.range Ws.length) List.nodup_range (fun m hm=>by
  exact Ej (fun W hW=>let ⟨s,a,b⟩:=FW.cl W hW;⟨s,(hS s).mp a,(b s).mpr .refl⟩) FW.dj m (List.mem_range.mp hm)) gs (fun z hz hw g hg=>by
  by_cases ho:Di lo hi g
  ·exact F2 h y (n + 1) hz hg ho
  have hg':=(hG g).mpr ⟨hg,ho⟩
  obtain ⟨W,hW,gW⟩:=FG.all g hg'
  obtain ⟨s,a,b⟩:=FG.cl W hW
  have cn:∀ t ∈ W,wd 1 (lay f y (n + 1)) s z = wd 1 (lay f y (n + 1)) t z:=fun t ht=>F1 (Bw h y (n + 1)) (zh h y (n + 1)) hz (S:=G) (fun s hs=>((hG s).mp hs).1) a ((b t).mp ht)
  rw [<- cn g gW]
  cases q:W.any op with
  | true=>
   obtain ⟨o,o1,o2⟩:=List.any_eq_true.mp q
   have oG:=((b o).mp o1).mem a
   obtain ⟨o',o3,o4,o5⟩:=(hop o oG).mp o2
   rw [cn o o1,<- F2 h y (n + 1) hz o3 o4]
   obtain ⟨e | e,h3,h4⟩:=o5
   ·exact (mV (Bw h y (n + 1)) hz (zh h y (n + 1)) o3 ((hG o).mp oG).1 e h3 h4).symm
   ·exact mV (Bw h y (n + 1)) hz (zh h y (n + 1)) ((hG o).mp oG).1 o3 e h4 h3
  | false=>
   obtain ⟨r,r1,r2⟩:=g2 W (List.mem_filter.mpr ⟨hW,by rw [q];rfl⟩)
   rw [cn r r2,hw r r1])
 have i2:=HY (k:=0) (LB h y (n + 1)) (Lh h y (n + 1)) (by lia) (c:=ix (Gs.filter fun W=>!W.any op)) (fun e he=>qE fun H hH=>by
  obtain ⟨s,a,b⟩:=c1 H hH
  have go:∀ {u v:T3},u ∈ H -> v ∈ lay (cf lo hi f) y (n + 1) -> Touch 0 u v -> v ∈ H:=fun {u v} hu hv ht=>by
   have hc:=(b u).mp hu
   refine (b v).mpr (hc.step ht ((hG v).mpr ⟨hv,fun ho=>?_⟩))
   have:=(hop u (hc.mem a)).mpr ⟨v,hv,ho,ht⟩
   rw [hn H hH u hu] at this
   cases this
  exact ⟨fun q=>go q (mem_edg.mp he).2.1 (tch he),fun q=>go q (mem_edg.mp he).1 (tch he).symm⟩) (L:=List.range ((Gs.filter fun W=>!W.any op).length + 1)) List.nodup_range (fun m hm=>by
  have hm:=List.mem_range.mp hm
  by_cases hl:m < (Gs.filter fun W=>!W.any op).length
  ·exact Ej (fun H hH=>let ⟨s,a,b⟩:=c1 H hH;⟨s,((hG s).mp a).1,(b s).mpr .refl⟩) c2 m hl
  ·obtain ⟨g,a,b⟩:=uC hi (f y) lo
   refine ⟨(y,g),(aM _ _ _ _).mpr ⟨Int.le_refl _,by dsimp only;lia,a⟩,?_⟩
   rw [uS fun H hH hg=>?_]
   ·lia
   ·obtain ⟨s,a,d⟩:=c1 H hH
    exact ((hG _).mp (((d _).mp hg).mem a)).2 (.inl b)) ws (fun z hz hw g hg=>by
  obtain ⟨W,hW,gW⟩:=FW.all g ((hS g).mpr hg)
  obtain ⟨s,a,b⟩:=FW.cl W hW
  have cn:∀ t ∈ W,wd 0 (lay (cf lo hi f) y (n + 1)) s z = wd 0 (lay (cf lo hi f) y (n + 1)) t z:=fun t ht=>F1 (Lh h y (n + 1)) (LB h y (n + 1)) hz (S:=S) (fun s hs=>(hS s).mp hs) a ((b t).mp ht)
  obtain ⟨r,r1,r2⟩:=w2 W hW
  rw [<- cn g gW,cn r r2,hw r r1])
 have ct:=DH h n y
 have lc:=En lo hi f (n + 1) y
 rw [h0,h1] at ct
 rw [List.length_range] at i1 i2
 simp only [List.length_nil] at ct
 lia
end
end Eu
namespace P
open PySem L2 M Rw
theorem qf {α:Type} (p q:α -> Bool):∀ (r:List α) (a b:Nat),(∀ (i:Nat) x,r[i]? = some x -> q x = (decide (a <= i) && decide (i < b) && p x)) -> ((r.drop a).take (b - a)).filter p = r.filter q
 | [],a,b,_=>by simp
 | x :: r,0,0,h=>by
  have:(x :: r).filter q = []:=List.filter_eq_nil_iff.mpr fun y hy=>by
   obtain ⟨i,hi⟩:=List.getElem?_of_mem hy
   rw [h i y hi]
   simp
  rw [this]
  simp
 | x :: r,0,b + 1,h=>by
  have ih:=qf p q r 0 b fun i y hy=>by
   have:=h (i + 1) y hy
   rw [this]
   simp
  have h0:=h 0 x rfl
  have e:q x = p x:=by rw [h0];simp
  rw [List.drop_zero,Nat.sub_zero,List.take_succ_cons,List.filter_cons,List.filter_cons,e]
  rw [List.drop_zero,Nat.sub_zero] at ih
  rw [ih]
 | x :: r,a + 1,b,h=>by
  have ih:=qf p q r a (b - 1) fun i y hy=>by
   have:=h (i + 1) y hy
   rw [this]
   by_cases h1:a <= i <;> by_cases h2:i + 1 < b
   ·rw [decide_eq_true (by lia:a + 1 <= i + 1),decide_eq_true h2,decide_eq_true h1,decide_eq_true (by lia:i < b - 1)]
   ·rw [decide_eq_true (by lia:a + 1 <= i + 1),decide_eq_false h2,decide_eq_true h1,decide_eq_false (by lia:¬ i < b - 1)]
   ·rw [decide_eq_false (by lia:¬ a + 1 <= i + 1),decide_eq_false h1];rfl
   ·rw [decide_eq_false (by lia:¬ a + 1 <= i + 1),decide_eq_false h1];rfl
  have h0:=h 0 x rfl
  have e:q x = false:=by rw [h0];simp
  rw [List.drop_succ_cons,List.filter_cons,e,<- ih,show b - (a + 1) = b - 1 - a by lia]
  rfl
noncomputable def AK (f l:Int) (p:Int × Int):Bool:=decide (p.1 <= l) && decide (f <= p.2)
theorem lh (r:R) (c:aP r) (h:r.length <= 100000) (f l:Int) (hfl:f <= l):∃ r':R,eW [bp r,.int f,.int l] = some (bp r') /\ r'.length <= r.length /\ (r'.filter fun p=>decide (f <= p.2)) = r.filter (AK f l):=by
 have pw:r.Pairwise fun a b=>a.1 < b.1:=by
  refine List.Pairwise.imp_of_mem ?_ c.2
  intro p q hp _ h
  have:=c.1 p hp
  lia
 obtain ⟨n1,a1,b1,c1⟩:=et r (·.1) prD f (fun a=>by simp) h pw
 obtain ⟨n2,a2,b2,c2⟩:=et r (·.1) prD l (fun a=>by simp) h pw
 refine ⟨iE r (some ((n1 - 1:Nat):Int)) (some (n2:Int)),?_,Jg _ _ _,?_⟩
 ·have e1:(if ((n1:Int) - 1) > 0 then (n1:Int) - 1 else 0) = ((n1 - 1:Nat):Int):=by split <;> lia
  have e1':(if 1 < n1 then (n1:Int) - 1 else 0) = ((n1 - 1:Nat):Int):=by split <;> lia
  have e1'':(if (1:Int) < (n1:Int) then (n1:Int) - 1 else 0) = ((n1 - 1:Nat):Int):=by split <;> lia
  simp [eW,ez,fnO,de,b1,b2,Gn,e1,e1',e1'',dSl]
 ·unfold iE
  rw [AZ (by lia),AZ (by lia),Int.toNat_natCast,Int.toNat_natCast,Nat.min_eq_left (by lia:n1 - 1 <= r.length),Nat.min_eq_left a2]
  refine qf _ _ r (n1 - 1) n2 fun i x hx=>?_
  unfold AK
  have h2:=c2 i x hx
  by_cases hi:n1 - 1 <= i
  ·rw [decide_eq_true hi,Bool.true_and]
   congr 1
   exact decide_eq_decide.mpr h2
  ·rw [decide_eq_false hi,Bool.false_and,Bool.false_and]
   have hi1:i + 1 < n1:=by lia
   obtain ⟨y,hy⟩:∃ y,r[i + 1]? = some y:=⟨_,List.getElem?_eq_getElem (by lia)⟩
   have h3:=(c1 (i + 1) y hy).mpr hi1
   obtain ⟨l1,e1⟩:=List.getElem?_eq_some_iff.mp hx
   obtain ⟨l2,e2⟩:=List.getElem?_eq_some_iff.mp hy
   have h4:=List.pairwise_iff_getElem.mp c.2 i (i + 1) l1 l2 (by lia)
   rw [e1,e2] at h4
   rw [decide_eq_false (by lia:¬ f <= x.2),Bool.and_false]
noncomputable def fE (k:Int) (p:Pic) (s:Tri) (y:Int):List Tri:=((aG p y).filter (AK (s.2.1 - k) (s.2.2 + k))).map fun q=>(y,q)
noncomputable def qT (k:Int) (p:Pic) (s:Tri):List Tri:=fE k p s (s.1 - 1) ++ fE k p s (s.1 + 1)
theorem j6 {p:Pic} (c:ao p) (y:Int) (q:Int × Int):q ∈ aG p y ↔ ((y,q):Tri) ∈ ag p:=by
 constructor
 ·intro h
  by_cases k:∃ g ∈ p,g.1 = y
  ·obtain ⟨g,hg,rfl⟩:=k
   rw [hJ c hg] at h
   exact List.mem_flatMap.mpr ⟨g,hg,List.mem_map.mpr ⟨q,h,rfl⟩⟩
  ·rw [fW fun g hg e=>k ⟨g,hg,e⟩] at h
   cases h
 ·intro h
  obtain ⟨g,hg,hs⟩:=List.mem_flatMap.mp h
  obtain ⟨z,hz,e⟩:=List.mem_map.mp hs
  cases e
  rw [hJ c hg]
  exact hz
theorem xD {k:Int} {p:Pic} (c:ao p) (s t:Tri):t ∈ qT k p s ↔ t ∈ ag p /\ Eu.Touch k s t:=by
 have key:∀ y:Int,t ∈ fE k p s y ↔ t ∈ ag p /\ t.1 = y /\ s.2.1 <= t.2.2 + k /\ t.2.1 <= s.2.2 + k:=fun y=>by
  unfold fE AK
  constructor
  ·intro h
   obtain ⟨q,hq,rfl⟩:=List.mem_map.mp h
   obtain ⟨h1,h2⟩:=List.mem_filter.mp hq
   simp only [Bool.and_eq_true,decide_eq_true_eq] at h2
   exact ⟨(j6 c y q).mp h1,rfl,by dsimp only;lia,by dsimp only;lia⟩
  ·rintro ⟨h1,rfl,h2,h3⟩
   refine List.mem_map.mpr ⟨t.2,List.mem_filter.mpr ⟨(j6 c t.1 t.2).mpr h1,?_⟩,rfl⟩
   simp only [Bool.and_eq_true,decide_eq_true_eq]
   lia
 unfold qT
 rw [List.mem_append,key,key]
 unfold Eu.Touch
 constructor
 ·rintro (⟨h1,h2,h3⟩ | ⟨h1,h2,h3⟩)
  ·exact ⟨h1,.inl (by lia),h3⟩
  ·exact ⟨h1,.inr (by lia),h3⟩
 ·rintro ⟨h1,h2 | h2,h3⟩
  ·exact .inl ⟨h1,by lia,h3⟩
  ·exact .inr ⟨h1,by lia,h3⟩
theorem t5 {p:Pic} {n:Nat} (h:∀ q ∈ p,q.2.length <= n) (y:Int):(aG p y).length <= n:=by
 unfold aG
 cases e:p.find? fun q=>decide (q.1 = y) with
 | none=>simp
 | some q=>exact h q (List.mem_of_find?_eq_some e)
theorem pR (k:Int) (p:Pic) (s:Tri) (y:Int):(fE k p s y).length <= (aG p y).length:=by
 unfold fE
 rw [List.length_map]
 exact List.length_filter_le _ _
theorem Ay (f:Int) (y:Int):∀ r:R,r.filterMap (fun p=>if f <= p.2 then some (ar (y,p)) else none) = ((r.filter fun p=>decide (f <= p.2)).map fun q=>((y,q):Tri)).map ar
 | []=>rfl
 | p :: r=>by
  rw [List.filterMap_cons,List.filter_cons,Ay f y r]
  by_cases h:f <= p.2 <;> simp [h]
theorem rX {k:Int} (hk:0 <= k) (p:Pic) (c:ao p) (hp:p.length <= 1000) (hq:∀ q ∈ p,q.2.length <= 1000) (s:Tri) (hs:s.2.1 <= s.2.2) (s1 s2:Sl) (acc:List Tri) (ha:acc.length <= 1000) (y:Int) :
  bv [.sh (am p),s1,s2,.sh (.int (s.2.1 - k)),.sh (.int (s.2.2 + k)),owl (acc.map ar),.sh (.int y)] = some (.nx [.sh (am p),s1,s2,.sh (.int (s.2.1 - k)),.sh (.int (s.2.2 + k)),owl ((acc ++ fE k p s y).map ar),.sh (.int y)]):=by
 have h1:=jF p y c (by lia)
 have hl:=t5 hq y
 obtain ⟨r',h2,h3,h4⟩:=lh (aG p y) (jO c y) (by lia) (s.2.1 - k) (s.2.2 + k) (by lia)
 have h5:r'.length <= LIM:=aI (by lia)
 have hb:=pR k p s y
 have h6:acc.length + (fE k p s y).length <= LIM:=aI (by lia)
 have hc:bF (aE (ai (af 0) (ai (af 1) aB))) (xB (xOp dGe (ah 1) (ah 3))) (aQ (ab (ak 2) (ab (ak 0) (ab (ak 1) aj)))) [.un,.un,.sh (.int y),.sh (.int (s.2.1 - k))] (r'.map prD) = some ((fE k p s y).map ar):=by
  rw [fG prD (fun q=>if s.2.1 - k <= q.2 then some (ar (y,q)) else none) r',Ay,h4]
  ·rfl
  ·intro q _
   by_cases h:s.2.1 - k <= q.2 <;> simp [gJ,h]
 simp [bv,h1,h2,h5,hc,h6]
theorem ss {k:Int} (hk:0 <= k) (p:Pic) (c:ao p) (hp:p.length <= 400) (hq:∀ q ∈ p,q.2.length <= 400) (s:Tri) (hs:s.2.1 <= s.2.2) (ds:List D) :
  iL [am p,.tup (.int s.1 :: .int s.2.1 :: .int s.2.2 :: ds),.int k] = some (.lst ((qT k p s).map ar)):=by
 have a0:atI (D.int s.1 :: .int s.2.1 :: .int s.2.2 :: ds) 0 = some (.int s.1):=fD (j:=0) rfl
 have a1:atI (D.int s.1 :: .int s.2.1 :: .int s.2.2 :: ds) 1 = some (.int s.2.1):=fD (j:=1) rfl
 have a2:atI (D.int s.1 :: .int s.2.1 :: .int s.2.2 :: ds) 2 = some (.int s.2.2):=fD (j:=2) rfl
 have t1:=rX hk p c (by lia) (fun q h=>Nat.le_trans (hq q h) (by lia)) s hs (.sh (.tup (.int s.1 :: .int s.2.1 :: .int s.2.2 :: ds))) (.sh (.int k)) [] (by simp) (s.1 - 1)
 have hb:=pR k p s (s.1 - 1)
 have hl:=t5 hq (s.1 - 1)
 have t2:=rX hk p c (by lia) (fun q h=>Nat.le_trans (hq q h) (by lia)) s hs (.sh (.tup (.int s.1 :: .int s.2.1 :: .int s.2.2 :: ds))) (.sh (.int k)) ([] ++ fE k p s (s.1 - 1)) (by rw [List.nil_append];lia) (s.1 + 1)
 have hl2:(2:Nat) <= LIM:=aI (by lia)
 rw [List.nil_append] at t1 t2
 have t1':bv [.sh (am p),.sh (.tup (.int s.1 :: .int s.2.1 :: .int s.2.2 :: ds)),.sh (.int k),.sh (.int (s.2.1 - k)),.sh (.int (s.2.2 + k)),.ow (.lst []),.sh (.int (s.1 - 1))] = _:=t1
 have lp:cT (af 6) bv [.int (s.1 - 1),.int (s.1 + 1)] [.sh (am p),.sh (.tup (.int s.1 :: .int s.2.1 :: .int s.2.2 :: ds)),.sh (.int k),.sh (.int (s.2.1 - k)),.sh (.int (s.2.2 + k)),.ow (.lst []),.un] = some (.nx [.sh (am p),.sh (.tup (.int s.1 :: .int s.2.1 :: .int s.2.2 :: ds)),.sh (.int k),.sh (.int (s.2.1 - k)),.sh (.int (s.2.2 + k)),owl ((qT k p s).map ar),.sh (.int (s.1 + 1))]):=by
  rw [fL]
  show (match bv [.sh (am p),.sh (.tup (.int s.1 :: .int s.2.1 :: .int s.2.2 :: ds)),.sh (.int k),.sh (.int (s.2.1 - k)),.sh (.int (s.2.2 + k)),.ow (.lst []),.sh (.int (s.1 - 1))] with | some (.nx ρ2)=>_ | some (.ct ρ2)=>_ | some (.bk ρ2)=>_ | some (.rt d)=>_ | some (.ro d)=>_ | none=>_) = _
  rw [t1']
  dsimp only
  rw [fL]
  show (match bv [.sh (am p),.sh (.tup (.int s.1 :: .int s.2.1 :: .int s.2.2 :: ds)),.sh (.int k),.sh (.int (s.2.1 - k)),.sh (.int (s.2.2 + k)),owl ((fE k p s (s.1 - 1)).map ar),.sh (.int (s.1 + 1))] with | some (.nx ρ2)=>_ | some (.ct ρ2)=>_ | some (.bk ρ2)=>_ | some (.rt d)=>_ | some (.ro d)=>_ | none=>_) = _
  rw [t2]
  rfl
 simp [iL,jL,fnO,iy,a0,a1,a2,hl2,lp]
noncomputable abbrev Wk:=List (Tri × D)
noncomputable abbrev bX (w:Tri × D):D:=.tup [.int w.1.1,.int w.1.2.1,.int w.1.2.2,w.2]
theorem nM {α:Type} [DecidableEq α]:∀ {l m:List α},l.Nodup -> (∀ a ∈ l,a ∈ m) -> l.length <= m.length
 | [],m,_,_=>Nat.zero_le _
 | a :: l,m,h,k=>by
  obtain ⟨h1,h2⟩:=List.nodup_cons.mp h
  have ha:=k a List.mem_cons_self
  have ih:=nM (m:=m.erase a) h2 fun b hb=>(List.mem_erase_of_ne (fun e=>h1 (by rw [<- e];exact hb))).mpr (k b (List.mem_cons_of_mem _ hb))
  rw [List.length_erase_of_mem ha] at ih
  have:=List.length_pos_of_mem ha
  rw [List.length_cons]
  lia
structure WOk (k:Int) (p:Pic) (s:Tri) (W:Wk):Prop where
 nd:(W.map (·.1)).Nodup
 hd:∃ d,W[0]? = some (s,d)
 con:∀ w ∈ W,Eu.Con k (ag p) s w.1
theorem GO {s t:Tri} (h:a7 s = a7 t):s = t:=by
 obtain ⟨a,b,c⟩:=s
 obtain ⟨d,e,f⟩:=t
 unfold a7 at h
 simp at h
 obtain ⟨rfl,rfl,rfl⟩:=h
 rfl
theorem ku {ts:List Tri} {t:Tri}:(ts.map a7).contains (a7 t) = decide (t ∈ ts):=by
 by_cases h:t ∈ ts
 ·rw [decide_eq_true h,List.contains_iff_mem]
  exact List.mem_map.mpr ⟨t,h,rfl⟩
 ·rw [decide_eq_false h]
  cases q:(ts.map a7).contains (a7 t) with
  | false=>rfl
  | true=>
   obtain ⟨u,hu,e⟩:=List.mem_map.mp (List.contains_iff_mem.mp q)
   rw [GO e] at hu
   exact absurd hu h
theorem ze (t:Tri):kyD (ar t) = some (a7 t):=rfl
theorem mM {c:XT} {m n:XS} {ρ:M.Env} (h:c ρ = some true):xIf c m n ρ = m ρ:=by unfold xIf;rw [h];rfl
theorem vt {c:XT} {m n:XS} {ρ:M.Env} (h:c ρ = some false):xIf c m n ρ = n ρ:=by unfold xIf;rw [h];rfl
theorem mI {ρ:M.Env} {t:Tri} {ks:List (List Int)} {b:Bool} {i j:Nat} (h6:ρ[j]? = some (.sh (ar t))) (h4:ρ[i]? = some (.ow (.dic ks))) (hc:ks.contains (a7 t) = b):xB (C6 true (ak j) i) ρ = some (!b):=by
 unfold xB C6 ak tz
 rw [h6,h4]
 dsimp only [Option.bind]
 rw [ze]
 dsimp only [Option.bind,Option.map]
 rw [hc]
 rfl
theorem WOk.snoc {k:Int} {p:Pic} {s:Tri} {W:Wk} (o:WOk k p s W) {j:Nat} {w:Tri × D} (hj:W[j]? = some w) {t:Tri} (ht:t ∈ ag p) (kt:Eu.Touch k w.1 t) (hn:t ∉ W.map (·.1)):WOk k p s (W ++ [(t,.int (j:Int))]) where
 nd:=by
  rw [List.map_append]
  refine List.nodup_append.mpr ⟨o.nd,by simp,fun a ha b hb=>?_⟩
  have hb':b = t:=by simpa using hb
  subst hb'
  intro e
  subst e
  exact hn ha
 hd:=by
  obtain ⟨d,hd⟩:=o.hd
  exact ⟨d,by rw [List.getElem?_append_left (List.getElem?_eq_some_iff.mp hd).1];exact hd⟩
 con:=fun v hv=>by
  rcases List.mem_append.mp hv with hv | hv
  ·exact o.con v hv
  ·rw [List.mem_singleton.mp hv]
   exact (o.con w (List.mem_of_getElem? hj)).step kt ht
theorem WOk.le {k:Int} {p:Pic} {s:Tri} {W:Wk} (o:WOk k p s W) (hs:s ∈ ag p):W.length <= (ag p).length:=by
 have:=nM o.nd (m:=ag p) fun t ht=>by
  obtain ⟨w,hw,rfl⟩:=List.mem_map.mp ht
  exact (o.con w hw).mem hs
 simpa using this
theorem Ah {k:Int} (p:Pic) (c:ao p) (s:Tri) (hs:s ∈ ag p) (hn:(ag p).length <= 400) (s1 s2 v6:Sl) (W:Wk) (j:Nat) (w:Tri × D) (hj:W[j]? = some w) (o:WOk k p s W) :
  ∃ (W':Wk) (v6':Sl),cT (af 6) b8 ((qT k p w.1).map ar) [.sh (am p),s1,s2,owl (W.map bX),.ow (.dic ((W.map (·.1)).map a7)),.sh (.int j),v6] = some (.nx [.sh (am p),s1,s2,owl (W'.map bX),.ow (.dic ((W'.map (·.1)).map a7)),.sh (.int j),v6']) /\ WOk k p s W' /\ (∃ Z,W' = W ++ Z) /\ ∀ t ∈ qT k p w.1,t ∈ W'.map (·.1):=by
 obtain ⟨ρ',k1,W',v6',rfl,h1,h2,h3⟩:=aV (g:=af 6) (m:=b8) ar (fun pre ρ=>∃ (W':Wk) (v6':Sl),ρ = [.sh (am p),s1,s2,owl (W'.map bX),.ow (.dic ((W'.map (·.1)).map a7)),.sh (.int j),v6'] /\ WOk k p s W' /\ (∃ Z,W' = W ++ Z) /\ ∀ t ∈ pre,t ∈ W'.map (·.1)) (qT k p w.1) [.sh (am p),s1,s2,owl (W.map bX),.ow (.dic ((W.map (·.1)).map a7)),.sh (.int j),v6]
  ⟨W,v6,rfl,o,⟨[],by simp⟩,fun _ h=>by cases h⟩ (by
  rintro pre t post _ e ⟨W',v6',rfl,h1,⟨Z,rfl⟩,h3⟩
  have ht:t ∈ qT k p w.1:=by rw [e];simp
  obtain ⟨ht1,ht2⟩:=(xD c w.1 t).mp ht
  have hc:=ku (ts:=(W ++ Z).map (·.1)) (t:=t)
  have hle:=h1.le hs
  by_cases hm:t ∈ (W ++ Z).map (·.1)
  ·rw [decide_eq_true hm] at hc
   refine ⟨[.sh (am p),s1,s2,owl ((W ++ Z).map bX),.ow (.dic (((W ++ Z).map (·.1)).map a7)),.sh (.int j),.sh (ar t)],[.sh (am p),s1,s2,owl ((W ++ Z).map bX),.ow (.dic (((W ++ Z).map (·.1)).map a7)),.sh (.int j),.sh (ar t)],rfl,.inl ?_,W ++ Z,_,rfl,h1,⟨Z,rfl⟩,fun u hu=>?_⟩
   ·unfold b8
    rw [vt (mI rfl rfl hc)]
    rfl
   ·rcases List.mem_append.mp hu with hu | hu
    ·exact h3 u hu
    ·rw [List.mem_singleton.mp hu];exact hm
  ·rw [decide_eq_false hm] at hc
   have h4:WOk k p s ((W ++ Z) ++ [(t,D.int (j:Int))]):=h1.snoc (by rw [List.getElem?_append_left (List.getElem?_eq_some_iff.mp hj).1];exact hj) ht1 ht2 hm
   have hl:((W ++ Z).map (·.1)).length < LIM:=bH (by rw [List.length_map];lia)
   have hl1:((W ++ Z).map bX).length < LIM:=bH (by rw [List.length_map];lia)
   have hl4:(3 + 1:Nat) <= LIM:=aI (by lia)
   refine ⟨[.sh (am p),s1,s2,owl ((W ++ Z).map bX),.ow (.dic (((W ++ Z).map (·.1)).map a7)),.sh (.int j),.sh (ar t)],[.sh (am p),s1,s2,owl (((W ++ Z) ++ [(t,D.int (j:Int))]).map bX),.ow (.dic ((((W ++ Z) ++ [(t,D.int (j:Int))]).map (·.1)).map a7)),.sh (.int j),.sh (ar t)],rfl,.inl ?_,(W ++ Z) ++ [(t,D.int (j:Int))],_,rfl,h4,⟨Z ++ [(t,D.int (j:Int))],by simp⟩,fun u hu=>?_⟩
   ·have e1:jk (((W ++ Z).map (·.1)).map a7) (a7 t) = (((W ++ Z) ++ [(t,D.int (j:Int))]).map (·.1)).map a7:=by
     unfold jk
     rw [hc,if_neg (by decide),List.map_append (l₁:=W ++ Z),List.map_append (l₁:=(W ++ Z).map (·.1))]
     rfl
    have e2:((W ++ Z) ++ [(t,D.int (j:Int))]).map bX = (W ++ Z).map bX ++ [.tup [.int t.1,.int t.2.1,.int t.2.2,.int j]]:=by rw [List.map_append];rfl
    rw [e2,<- e1]
    generalize (W ++ Z).map bX = es at hl1
    generalize (W ++ Z).map (·.1) = ts at hc hl
    have hl':(ts.map a7).length < LIM:=by rw [List.length_map];exact hl
    have hl2:(es.map O.sh).length < LIM:=by rw [List.length_map];exact hl1
    unfold b8
    rw [mM (mI rfl rfl hc),bo (ρ':=[.sh (am p),s1,s2,owl es,.ow (.dic (jk (ts.map a7) (a7 t))),.sh (.int j),.sh (ar t)]) (by
     show (if (ts.map a7).length < LIM then _ else _) = _
     rw [if_pos hl']
     rfl)]
    simp [aR,hl4,hl1]
   ·rw [List.map_append]
    rcases List.mem_append.mp hu with hu | hu
    ·exact List.mem_append_left _ (h3 u hu)
    ·rw [List.mem_singleton.mp hu];simp)
 exact ⟨W',v6',k1,h1,h2,h3⟩
theorem z8 {p:Pic} (c:ao p) {t:Tri} (h:t ∈ ag p):t.2.1 <= t.2.2:=by
 obtain ⟨g,hg,hs⟩:=List.mem_flatMap.mp h
 obtain ⟨z,hz,rfl⟩:=List.mem_map.mp hs
 exact (c.1 g hg).1.1 z hz
structure IsWalk (k:Int) (p:Pic) (s:Tri) (W:Wk):Prop extends WOk k p s W where
 all:∀ t,t ∈ W.map (·.1) ↔ Eu.Con k (ag p) s t
theorem qM {k:Int} (hk:0 <= k) (p:Pic) (c:ao p) (hp:p.length <= 400) (hn:(ag p).length <= 400) (s:Tri) (hs:s ∈ ag p):∃ W:Wk,jH [am p,ar s,.int k] = some (.lst (W.map bX)) /\ IsWalk k p s W:=by
 have hq:∀ q ∈ p,q.2.length <= 400:=fun q hq=>Nat.le_trans (c8 hq) hn
 have hl4:(3 + 1:Nat) <= LIM:=aI (by lia)
 obtain ⟨ρ',k1,W,v5,v6,rfl,o,hcl⟩:=lX (c:=b9) (m:=cW)
  (fun ρ=>∃ (W:Wk) (j:Nat) (v6:Sl),ρ = [.sh (am p),.sh (ar s),.sh (.int k),owl (W.map bX),.ow (.dic ((W.map (·.1)).map a7)),.sh (.int j),v6] /\ WOk k p s W /\ j <= W.length /\ ∀ (i:Nat) w,i < j -> W[i]? = some w -> ∀ t ∈ qT k p w.1,t ∈ W.map (·.1))
  (fun ρ=>match ρ with | [_,_,_,_,_,.sh (.int j),_]=>((ag p).length - j).toNat | _=>0)
  (fun ρ=>∃ (W:Wk) (v5 v6:Sl),ρ = [.sh (am p),.sh (ar s),.sh (.int k),owl (W.map bX),.ow (.dic ((W.map (·.1)).map a7)),v5,v6] /\ WOk k p s W /\ ∀ w ∈ W,∀ t ∈ qT k p w.1,t ∈ W.map (·.1))
  (by
   rintro _ ⟨W,j,v6,rfl,o,hj,hcl⟩
   have hle:=o.le hs
   by_cases hlt:j < W.length
   ·right
    have hlt':(j:Int) < W.length:=by lia
    have hw:W[j]? = some W[j]:=List.getElem?_eq_getElem hlt
    have ea:atI (W.map bX) (j:Int) = some (bX W[j]):=fD (by rw [List.getElem?_map,hw];rfl)
    obtain ⟨W',v6',h1,h2,⟨Z,rfl⟩,h3⟩:=Ah p c s hs hn (.sh (ar s)) (.sh (.int k)) v6 W j W[j] hw o
    have hwm:=(o.con _ (List.mem_of_getElem? hw)).mem hs
    have ht:=ss hk p c hp hq W[j].1 (z8 c hwm) [W[j].2]
    refine ⟨by simp [b9,hlt,hlt'],[.sh (am p),.sh (ar s),.sh (.int k),owl ((W ++ Z).map bX),.ow (.dic (((W ++ Z).map (·.1)).map a7)),.sh (.int ((j + 1:Nat):Int)),v6'],?_,⟨W ++ Z,j + 1,v6',rfl,h2,by rw [List.length_append];lia,fun i w hi hw' t ht'=>?_⟩,by dsimp only;lia⟩
    ·unfold cW
     rw [bo (ρ':=[.sh (am p),.sh (ar s),.sh (.int k),owl ((W ++ Z).map bX),.ow (.dic (((W ++ Z).map (·.1)).map a7)),.sh (.int j),v6']) (by
      have hcall:(xIt (aq iL (ab (ak 0) (ab (xOp dIx (ah 3) (ah 5)) (ab (ak 2) aj))))) [.sh (am p),.sh (ar s),.sh (.int k),owl (W.map bX),.ow (.dic ((W.map (·.1)).map a7)),.sh (.int j),v6] = some ((qT k p W[j].1).map ar):=by
       simp [ea,ht,mN]
      unfold d8
      rw [hcall]
      exact h1)]
     simp [wD,dI]
    ·by_cases hij:i < j
     ·rw [List.getElem?_append_left (by lia)] at hw'
      rw [List.map_append]
      exact List.mem_append_left _ (hcl i w hij hw' t ht')
     ·have:i = j:=by lia
      subst this
      rw [List.getElem?_append_left hlt,hw] at hw'
      cases hw'
      exact h3 t ht'
   ·left
    have hlt':¬ (j:Int) < W.length:=by lia
    refine ⟨by simp [b9,hlt,hlt'],W,_,_,rfl,o,fun w hw t ht=>?_⟩
    obtain ⟨i,hi⟩:=List.getElem?_of_mem hw
    exact hcl i w (by have:=(List.getElem?_eq_some_iff.mp hi).1;lia) hi t ht)
  [.sh (am p),.sh (ar s),.sh (.int k),owl ([(s,D.non)].map bX),.ow (.dic ((([(s,D.non)]:Wk).map (·.1)).map a7)),.sh (.int 0),.un]
  ⟨[(s,.non)],0,.un,rfl,⟨by simp,⟨.non,rfl⟩,fun w hw=>by rw [List.mem_singleton.mp hw];exact .refl⟩,by simp,fun i _ hi=>absurd hi (Nat.not_lt_zero _)⟩
 refine ⟨W,?_,o,fun t=>⟨fun ht=>?_,fun ht=>?_⟩⟩
 ·have hd:yt (ak 1) [.sh (am p),.sh (ar s),.sh (.int k),owl ([(s,D.non)].map bX),.un,.un,.un] = some (.dic [a7 s]):=by
   simp only [yt,ak,List.getElem?_cons_succ,List.getElem?_cons_zero,Option.bind_some,ze,Option.map_some]
  have k1':d7 b9 cW [.sh (am p),.sh (ar s),.sh (.int k),owl ([(s,D.non)].map bX),.ow (.dic [a7 s]),.sh (.int 0),.un] = _:=k1
  have h1:eM [.sh (am p),.sh (ar s),.sh (.int k),.un,.un,.un,.un] = some (.ro (.lst ((W.map bX).map O.sh))):=by
   unfold eM
   rw [bo (ρ':=[.sh (am p),.sh (ar s),.sh (.int k),owl ([(s,D.non)].map bX),.un,.un,.un]) (by simp [aR,hl4]),bo (ρ':=[.sh (am p),.sh (ar s),.sh (.int k),owl ([(s,D.non)].map bX),.ow (.dic [a7 s]),.un,.un]) (by unfold r8;rw [hd];rfl),bo (ρ':=[.sh (am p),.sh (ar s),.sh (.int k),owl ([(s,D.non)].map bX),.ow (.dic [a7 s]),.sh (.int 0),.un]) (by simp),bo k1']
   simp
  unfold jH iR fnO
  have h2:([am p,ar s,.int k].map Sl.sh ++ List.replicate (7 - [am p,ar s,D.int k].length) .un) = [.sh (am p),.sh (ar s),.sh (.int k),.un,.un,.un,.un]:=rfl
  rw [h2,h1]
  simp
 ·obtain ⟨w,hw,rfl⟩:=List.mem_map.mp ht
  exact o.con w hw
 ·induction ht with
  | refl=>
   obtain ⟨d,hd⟩:=o.hd
   exact List.mem_map.mpr ⟨_,List.mem_of_getElem? hd,rfl⟩
  | step h1 h2 h3 ih=>
   obtain ⟨w,hw,rfl⟩:=List.mem_map.mp ih
   exact hcl w hw _ ((xD c _ _).mpr ⟨h3,h2⟩)
theorem si (ks:List (List Int)) (a q:List Int):(jk ks a).contains q = (ks.contains q || q == a):=by
 unfold jk
 cases h:ks.contains a with
 | true=>
  rw [if_pos rfl]
  by_cases e:q = a
  ·subst e;rw [h];rfl
  ·have:(q == a) = false:=by simpa using e
   rw [this,Bool.or_false]
 | false=>
  rw [if_neg (by decide),List.contains_eq_any_beq,List.contains_eq_any_beq,List.any_append]
  simp
theorem jv (q:List Int):∀ (qs ks:List (List Int)),(qs.foldl jk ks).contains q = (ks.contains q || qs.contains q)
 | [],ks=>by simp
 | a :: qs,ks=>by rw [List.foldl_cons,jv q qs (jk ks a),si,List.contains_cons,Bool.or_assoc]
theorem sU:∀ (qs ks:List (List Int)),(qs.foldl jk ks).length <= ks.length + qs.length
 | [],ks=>by simp
 | a :: qs,ks=>by
  have h:=sU qs (jk ks a)
  have h2:(jk ks a).length <= ks.length + 1:=by unfold jk;split <;> simp
  rw [List.foldl_cons,List.length_cons]
  lia
theorem q9:∀ W:Wk,gK (W.map fun w=>D.tup [ar w.1,.bl true]) = some ((W.map (·.1)).map a7)
 | []=>rfl
 | w :: W=>by
  rw [List.map_cons,gK,ze,q9 W]
  rfl
noncomputable abbrev az (W:Wk):D:=.lst (W.map bX)
noncomputable abbrev y0 (Ws:List Wk):List (List Tri):=Ws.map fun W=>W.map (·.1)
theorem jd {k:Int} (hk0:0 <= k) (p:Pic) (c:ao p) (hp:p.length <= 160) (hn:(ag p).length <= 160):∃ Ws:List Wk,fb [am p,.int k] = some (.lst (Ws.map az)) /\ Ws.length <= 160 /\ (∀ W ∈ Ws,∃ s ∈ ag p,IsWalk k p s W) /\ Eu.Fam k (ag p) (y0 Ws):=by
 have hS:=bz p (by lia)
 obtain ⟨ρ',k1,Ws,ks,v4,rfl,_,_,hl,hW,hd,ha⟩:=aV (g:=af 4) (m:=cH) ar (fun pre ρ=>∃ (Ws:List Wk) (ks:List (List Int)) (v4:Sl),ρ = [.sh (am p),.sh (.int k),owl (Ws.map az),.ow (.dic ks),v4] /\ ks.length <= 160 * pre.length /\
   (∀ t,ks.contains (a7 t) = true ↔ ∃ W ∈ Ws,t ∈ W.map (·.1)) /\ Ws.length <= pre.length /\ (∀ W ∈ Ws,∃ s ∈ ag p,IsWalk k p s W) /\ Ws.Pairwise (fun V W=>∀ t ∈ V.map (·.1),t ∉ W.map (·.1)) /\ ∀ t ∈ pre,∃ W ∈ Ws,t ∈ W.map (·.1)) (ag p) [.sh (am p),.sh (.int k),.ow (.lst []),.ow (.dic []),.un]
  ⟨[],[],_,rfl,by simp,fun t=>⟨fun h=>by simp at h,fun ⟨W,h,_⟩=>by cases h⟩,Nat.le_refl _,fun _ h=>(by cases h),.nil,fun _ h=>(by cases h)⟩ (by
  rintro pre s post _ e ⟨Ws,ks,v4,rfl,hk,hcon,hl,hW,hd,ha⟩
  have hlen:pre.length < (ag p).length:=by rw [e];simp
  have hsm:s ∈ ag p:=by rw [e];simp
  have el:(pre ++ [s]).length = pre.length + 1:=by rw [List.length_append];rfl
  by_cases hm:∃ W ∈ Ws,s ∈ W.map (·.1)
  ·have hc:=(hcon s).mpr hm
   refine ⟨_,[.sh (am p),.sh (.int k),owl (Ws.map az),.ow (.dic ks),.sh (ar s)],rfl,.inl ?_,Ws,ks,_,rfl,by rw [el];lia,hcon,by rw [el];lia,hW,hd,fun t ht=>?_⟩
   ·unfold cH
    show xIf _ _ _ [.sh (am p),.sh (.int k),owl (Ws.map az),.ow (.dic ks),.sh (ar s)] = _
    rw [vt (mI rfl rfl hc)]
    rfl
   ·rcases List.mem_append.mp ht with ht | ht
    ·exact ha t ht
    ·rw [List.mem_singleton.mp ht];exact hm
  ·have hc:ks.contains (a7 s) = false:=by
    cases q:ks.contains (a7 s) with
    | false=>rfl
    | true=>exact absurd ((hcon s).mp q) hm
   obtain ⟨V,w1,w2⟩:=qM hk0 p c (by lia) (by lia) s hsm
   have wl:=w2.toWOk.le hsm
   have hl1:((Ws.map az).map O.sh).length < LIM:=bH (by rw [List.length_map,List.length_map];lia)
   have hl2:V.length <= LIM:=aI (by lia)
   have hl3:ks.length + V.length < LIM:=bH (by lia)
   refine ⟨_,[.sh (am p),.sh (.int k),owl ((Ws ++ [V]).map az),.ow (.dic (((V.map (·.1)).map a7).foldl jk ks)),.sh (ar s)],rfl,.inl ?_,Ws ++ [V],_,_,rfl,?_,fun t=>?_,by rw [el,List.length_append];simp;lia,fun W hw=>?_,?_,fun t ht=>?_⟩
   ·unfold cH
    have e2:(Ws ++ [V]).map az = Ws.map az ++ [az V]:=by rw [List.map_append];rfl
    rw [e2]
    generalize Ws.map az = es at hl1
    show xIf _ _ _ [.sh (am p),.sh (.int k),owl es,.ow (.dic ks),.sh (ar s)] = _
    rw [mM (mI rfl rfl hc),bo (ρ':=[.sh (am p),.sh (.int k),owl (es ++ [az V]),.ow (.dic ks),.sh (ar s)]) (by
     rw [List.length_map] at hl1
     simp [w1,hl1])]
    have hcomp:bq [none,none,none,none] (xIt (xOp dIx (ah 2) (xUn j9 (xC (.int 1))))) (aE (ai (af 0) (ai (af 1) (ai (af 2) (ai (af 3) aB))))) cv (aQ (ab (aQ (ab (ak 0) (ab (ak 1) (ab (ak 2) aj)))) (ab (xC (.bl true)) aj))) [.sh (am p),.sh (.int k),owl (es ++ [az V]),.ow (.dic ks),.sh (ar s)] = some (V.map fun w=>D.tup [ar w.1,.bl true]):=by
     have hc2:bF (aE (ai (af 0) (ai (af 1) (ai (af 2) (ai (af 3) aB))))) cv (aQ (ab (aQ (ab (ak 0) (ab (ak 1) (ab (ak 2) aj)))) (ab (xC (.bl true)) aj))) [.un,.un,.un,.un] (V.map bX) = some (V.map fun w=>D.tup [ar w.1,.bl true]):=bf bX _ V fun w _=>by simp [gJ]
     have at1:atI (es ++ [az V]) (-1) = some (az V):=gP _ _
     simp [at1,mN,hl2,hc2]
    unfold Bg
    rw [hcomp]
    show ((gK (V.map fun w=>D.tup [ar w.1,.bl true])).bind _) = _
    rw [q9]
    show (if ks.length + (V.map fun w=>D.tup [ar w.1,.bl true]).length < LIM then _ else _) = _
    rw [List.length_map,if_pos hl3]
    rfl
   ·have:=sU ((V.map (·.1)).map a7) ks
    rw [List.length_map,List.length_map] at this
    rw [el]
    lia
   ·rw [jv,Bool.or_eq_true,hcon t,ku,decide_eq_true_eq]
    constructor
    ·rintro (⟨W,h1,h2⟩ | h)
     ·exact ⟨W,List.mem_append_left _ h1,h2⟩
     ·exact ⟨V,by simp,h⟩
    ·rintro ⟨W,h1,h2⟩
     rcases List.mem_append.mp h1 with h1 | h1
     ·exact .inl ⟨W,h1,h2⟩
     ·rw [List.mem_singleton.mp h1] at h2;exact .inr h2
   ·rcases List.mem_append.mp hw with hw | hw
    ·exact hW W hw
    ·rw [List.mem_singleton.mp hw];exact ⟨s,hsm,w2⟩
   ·refine List.pairwise_append.mpr ⟨hd,List.pairwise_singleton _ _,fun A hA B hB t h1 h2=>?_⟩
    rw [List.mem_singleton.mp hB] at h2
    obtain ⟨s0,h3,h4⟩:=hW A hA
    exact hm ⟨A,hA,(h4.all s).mpr (((h4.all t).mp h1).trans (((w2.all t).mp h2).symm hsm))⟩
   ·rcases List.mem_append.mp ht with ht | ht
    ·obtain ⟨W,h1,h2⟩:=ha t ht
     exact ⟨W,List.mem_append_left _ h1,h2⟩
    ·rw [List.mem_singleton.mp ht];exact ⟨V,by simp,(w2.all s).mpr .refl⟩)
 refine ⟨Ws,by simp [fb,gH,fnO,e6,hS,mN,k1],by lia,hW,fun W hw=>?_,List.pairwise_map.mpr hd,fun t ht=>?_⟩
 ·obtain ⟨V,h1,rfl⟩:=List.mem_map.mp hw
  obtain ⟨s,h2,h3⟩:=hW V h1
  exact ⟨s,h2,h3.all⟩
 ·obtain ⟨V,h1,h2⟩:=ha t ht
  exact ⟨_,List.mem_map.mpr ⟨V,h1,rfl⟩,h2⟩
theorem Gh {q:Int} (hq:1 <= q) {k:Nat} (hk:k < 8):∃ s,1 <= s /\ atI [D.int 1,.int 2,.int 1,.int q,.int 1,.int 1,.int 3,.int 2] (k:Int) = some (.int s):=by
 have:k = 0 \/ k = 1 \/ k = 2 \/ k = 3 \/ k = 4 \/ k = 5 \/ k = 6 \/ k = 7:=by lia
 rcases this with rfl | rfl | rfl | rfl | rfl | rfl | rfl | rfl
 ·exact ⟨1,by lia,rfl⟩
 ·exact ⟨2,by lia,rfl⟩
 ·exact ⟨1,by lia,rfl⟩
 ·exact ⟨q,hq,rfl⟩
 ·exact ⟨1,by lia,rfl⟩
 ·exact ⟨1,by lia,rfl⟩
 ·exact ⟨3,by lia,rfl⟩
 ·exact ⟨2,by lia,rfl⟩
theorem Cb (bits x:Int) (wide more:Bool) (acc:R) (k:Nat) (hk:k < 8) (v5:Sl) (c:aP acc) (hx:∀ p ∈ acc,p.2 <= x - 1) (hl:acc.length <= 100) :
  ∃ bits' x' acc' v5',jn [.sh (.int bits),.sh (.int x),.sh (.bl wide),.sh (.bl more),owl (acc.map prD),.sh (.int k),v5] = some (.nx [.sh (.int bits'),.sh (.int x'),.sh (.bl wide),.sh (.bl more),owl (acc'.map prD),.sh (.int k),v5']) /\ aP acc' /\ (∀ p ∈ acc',p.2 <= x' - 1) /\ acc'.length <= acc.length + 1:=by
 have hlim:acc.length < LIM:=bH (by lia)
 obtain ⟨q,hq1,hq⟩:∃ q:Int,1 <= q /\ wE (.int 10) (.int 40) = some (.int q):=⟨_,by decide,IC (by decide)⟩
 obtain ⟨s,hs,h1⟩:∃ s:Int,1 <= s /\ ∀ (n:XS),aA (bB (xC (.int 1)) (af 6)) (aA (xIf (mY (ah 2)) (bB (xOp dIx (xL (im (ab (xC (.int 1)) (ab (xC (.int 2)) (ab (xC (.int 1)) (ab (xOp wE (xC (.int 10)) (xC (.int 40))) (ab (xC (.int 1)) (ab (xC (.int 1)) (ab (xC (.int 3)) (ab (xC (.int 2)) aj)))))))))) (ah 5)) (af 6)) dF) n) [.sh (.int bits),.sh (.int x),.sh (.bl wide),.sh (.bl more),owl (acc.map prD),.sh (.int k),v5] = n [.sh (.int bits),.sh (.int x),.sh (.bl wide),.sh (.bl more),owl (acc.map prD),.sh (.int k),.sh (.int s)]:=by
  cases wide with
  | false=>exact ⟨1,by lia,fun n=>by simp⟩
  | true=>
   obtain ⟨s,hs,e⟩:=Gh hq1 hk
   exact ⟨s,hs,fun n=>by simp [hq,e]⟩
 unfold jn
 rw [h1]
 have hq:∃ b:Bool,∀ v:Sl,xOr (xB (xOp (dEq false) (xOp iG (ah 0) (xC (.int 2))) (xC (.int 1)))) (vO (mY (ah 3)) (xB (xOp (dEq false) (xOp iG (xOp kQ (ah 0) (xC (.int 512))) (xC (.int 4))) (xC (.int 1))))) [.sh (.int bits),.sh (.int x),.sh (.bl wide),.sh (.bl more),v,.sh (.int k),.sh (.int s)] = some b:=by
  by_cases z1:bits % 2 = 1
  ·exact ⟨true,fun v=>by simp [z1]⟩
  ·by_cases z2:bits / 512 % 4 = 1
   ·exact ⟨more,fun v=>by cases more <;> simp [z1,z2]⟩
   ·exact ⟨false,fun v=>by cases more <;> simp [z1,z2]⟩
 obtain ⟨b,hb⟩:=hq
 cases b with
 | true=>
  rcases List.eq_nil_or_concat acc with rfl | ⟨t,p,rfl⟩
  ·refine ⟨bits / 2,x + s,[(x,x + s - 1)],.sh (.int s),?_,canon_cons.mpr ⟨by dsimp only;lia,fun _ h=>(by cases h),eg⟩,fun p hp=>?_,by simp⟩
   ·rw [bo (ρ':=[.sh (.int bits),.sh (.int x),.sh (.bl wide),.sh (.bl more),owl ([(x,x + s - 1)].map prD),.sh (.int k),.sh (.int s)]) (by rw [mM (hb _)];simp [prD])]
    simp
   ·rw [List.mem_singleton.mp hp];dsimp only;lia
  ·rw [List.concat_eq_append] at *
   obtain ⟨ct,hp,ht⟩:=canon_snoc.mp c
   have at1:atI (t.map prD ++ [prD p]) (-1) = some (prD p):=gP _ _
   have hpx:=hx p (by simp)
   have hlim':t.length + 1 < LIM:=by simpa using hlim
   by_cases he:p.2 = x - 1
   ·refine ⟨bits / 2,x + s,t ++ [(p.1,x + s - 1)],.sh (.int s),?_,canon_snoc.mpr ⟨ct,by dsimp only;lia,ht⟩,fun r hr=>?_,by simp⟩
    ·have hpos:(0:Int) < (t.length:Int) + 1:=by lia
     rw [bo (ρ':=[.sh (.int bits),.sh (.int x),.sh (.bl wide),.sh (.bl more),owl ((t ++ [(p.1,x + s - 1)]).map prD),.sh (.int k),.sh (.int s)]) (by rw [mM (hb _)];simp [at1,he,qD,vL,hpos])]
     simp
    ·rcases List.mem_append.mp hr with hr | hr
     ·have:=hx r (by simp [hr]);lia
     ·rw [List.mem_singleton.mp hr];dsimp only;lia
   ·refine ⟨bits / 2,x + s,t ++ [p] ++ [(x,x + s - 1)],.sh (.int s),?_,canon_snoc.mpr ⟨c,by dsimp only;lia,fun r hr=>?_⟩,fun r hr=>?_,by simp⟩
    ·have hpos:(0:Int) < (t.length:Int) + 1:=by lia
     rw [bo (ρ':=[.sh (.int bits),.sh (.int x),.sh (.bl wide),.sh (.bl more),owl ((t ++ [p] ++ [(x,x + s - 1)]).map prD),.sh (.int k),.sh (.int s)]) (by rw [mM (hb _)];simp [at1,he,qD,vL,hpos,hlim'])]
     simp
    ·dsimp only
     rcases List.mem_append.mp hr with hr | hr
     ·have:=ht r hr;lia
     ·rw [List.mem_singleton.mp hr];lia
    ·rcases List.mem_append.mp hr with hr | hr
     ·have:=hx r hr;lia
     ·rw [List.mem_singleton.mp hr];dsimp only;lia
 | false=>
  refine ⟨bits / 2,x + s,acc,.sh (.int s),?_,c,fun p hp=>by have:=hx p hp;lia,by lia⟩
  rw [bo (ρ':=[.sh (.int bits),.sh (.int x),.sh (.bl wide),.sh (.bl more),owl (acc.map prD),.sh (.int k),.sh (.int s)]) (by rw [vt (hb _)];rfl)]
  simp
theorem u0 (bits x:Int) (wide more:Bool):∃ r:R,zl [.int bits,.int x,.bl wide,.bl more] = some (bp r) /\ aP r /\ r.length <= 8:=by
 obtain ⟨ρ',k1,b',x',acc',v4,v5,rfl,c1,c2,c3⟩:=aV (g:=af 5) (m:=jn) (fun k:Nat=>D.int (k:Int)) (fun pre ρ=>∃ b' x' acc' v4 v5,ρ = [.sh (.int b'),.sh (.int x'),.sh (.bl wide),.sh (.bl more),owl (acc'.map prD),v4,v5] /\ aP acc' /\ (∀ p ∈ acc',p.2 <= x' - 1) /\ acc'.length <= pre.length) (List.range 8) [.sh (.int bits),.sh (.int x),.sh (.bl wide),.sh (.bl more),.ow (.lst []),.un,.un]
  ⟨bits,x,[],_,_,rfl,eg,fun _ h=>(by cases h),by simp⟩ (by
  rintro pre k post _ e ⟨b',x',acc',v4,v5,rfl,c1,c2,c3⟩
  have hk:k < 8:=List.mem_range.mp (by rw [e];simp)
  have hl:pre.length <= 8:=by
   have:=congrArg List.length e
   rw [List.length_range,List.length_append] at this
   lia
  obtain ⟨b2,x2,acc2,w5,e1,d1,d2,d3⟩:=Cb b' x' wide more acc' k hk v5 c1 c2 (by lia)
  exact ⟨_,_,rfl,.inl e1,b2,x2,acc2,_,_,rfl,d1,d2,by rw [List.length_append,List.length_singleton];lia⟩)
 refine ⟨acc',?_,c1,by simpa using c3⟩
 rw [<- qA] at k1
 have hr:Fm [D.int 8] = some (eY 0 8):=dg (by decide)
 simp [zl,u6,fnO,ut,hr,k1]
theorem ny (ns:List Int) (k:Nat):∃ f:Int,fM [.scr (ns.map D.int),.int k] = some (.int f):=by
 by_cases h:k < ns.length
 ·have h':(k:Int) < ns.length:=by lia
  have ea:atI (ns.map D.int) (k:Int) = some (.int ns[k]):=fD (by rw [List.getElem?_map,List.getElem?_eq_getElem h];rfl)
  exact ⟨ns[k],by simp [fM,gC,fnO,fB,h,h',ea]⟩
 ·have h':¬ (k:Int) < ns.length:=by lia
  exact ⟨0,by simp [fM,gC,fnO,fB,h,h']⟩
theorem je (c m:Int) (h:0 < m):∃ f:Int,g6 [.int c,.int m] = some (.int f):=by
 by_cases hc:c < 0
 ·exact ⟨_,by simp [g6,iM,fnO,gM,h,hc];rfl⟩
 ·exact ⟨_,by simp [g6,iM,fnO,gM,h,hc];rfl⟩
theorem CJ {a j:Int} (h0:0 <= a) (h1:a < 1000000) (h2:0 <= j) (h3:j < 1000000):Builtin.Range.small a j 20 = true:=by
 have e1:0 <= Builtin.Range.rangeSize a j 20 /\ Builtin.Range.rangeSize a j 20 < 1000000:=by
  unfold Builtin.Range.rangeSize
  rw [if_pos (by decide)]
  split <;> lia
 unfold Builtin.Range.small
 generalize Builtin.Range.rangeSize a j 20 = n at e1
 simp only [Builtin.Range.rangeFitsLong,Bool.and_eq_true,Bool.or_eq_true,decide_eq_true_eq,beq_iff_eq,show (20:Int) > 0 by decide,if_true]
 have e:(2:Int) ^ 63 = 9223372036854775808:=by decide
 lia
theorem zk (ns:List Int) (hn:ns.length <= 63) (k:Nat) (hk:k < 20) (s1 s2 s3 s4 v7 v8:Sl) (bits:Int):∃ bits' v7',d8 (Be (ab (xOp aR (xC (.int 21)) (ah 5)) (ab (xCB pQ (ab (xCB iA (ab (ah 0) aj)) (ab (xC (.int 99)) aj))) (ab (xC (.int 20)) aj)))) (af 7) (dM) [.sh (.scr (ns.map D.int)),s1,s2,s3,s4,.sh (.int k),.sh (.int bits),v7,v8] = some (.nx [.sh (.scr (ns.map D.int)),s1,s2,s3,s4,.sh (.int k),.sh (.int bits'),v7',v8]):=by
 have hr:Fn [.int (21 + (k:Int)),.int (ns.length:Int),.int 20] = some (rO (21 + (k:Int)) 20 (Builtin.Range.rangeSize (21 + (k:Int)) ns.length 20).toNat):=dg ⟨by decide,by decide,CJ (by lia) (by lia) (by lia) (by lia)⟩
 have hmin:¬ (99:Int) < ns.length:=by lia
 obtain ⟨ρ',k1,b',v',rfl⟩:=aV (g:=af 7) (m:=dM) (fun i:Nat=>D.int (21 + (k:Int) + (i:Int) * 20)) (fun pre ρ=>∃ b' v',ρ = [.sh (.scr (ns.map D.int)),s1,s2,s3,s4,.sh (.int k),.sh (.int b'),v',v8]) (List.range (Builtin.Range.rangeSize (21 + (k:Int)) ns.length 20).toNat) [.sh (.scr (ns.map D.int)),s1,s2,s3,s4,.sh (.int k),.sh (.int bits),v7,v8] ⟨_,_,rfl⟩ (by
  rintro pre i post _ e ⟨b',v',rfl⟩
  have hi:i < (Builtin.Range.rangeSize (21 + (k:Int)) ns.length 20).toNat:=List.mem_range.mp (by rw [e];simp)
  have hb:21 + k + i * 20 < ns.length:=by
   unfold Builtin.Range.rangeSize at hi
   rw [if_pos (by decide)] at hi
   split at hi <;> lia
  have ea:atI (ns.map D.int) (21 + (k:Int) + (i:Int) * 20) = some (.int ns[21 + k + i * 20]):=by
   have:=fD (l:=ns.map D.int) (j:=21 + k + i * 20) (x:=.int ns[21 + k + i * 20]) (by rw [List.getElem?_map,List.getElem?_eq_getElem hb];rfl)
   rw [<- this]
   congr 1
  have hm:oQ (.int 5) (.int ns[21 + k + i * 20]) = some (.int (5 * ns[21 + k + i * 20])):=dg (.inl (by decide))
  exact ⟨[.sh (.scr (ns.map D.int)),s1,s2,s3,s4,.sh (.int k),.sh (.int b'),.sh (.int (21 + (k:Int) + (i:Int) * 20)),v8],[.sh (.scr (ns.map D.int)),s1,s2,s3,s4,.sh (.int k),.sh (.int (b' + 5 * ns[21 + k + i * 20] % 256)),.sh (.int (21 + (k:Int) + (i:Int) * 20)),v8],rfl,.inl (by simp [dM,ea,hm]),_,_,rfl⟩)
 refine ⟨b',v',?_⟩
 unfold rO at hr
 simp [hmin,hr,k1]
theorem Fj {n k:Nat} {pre post:List Nat} (e:List.range n = pre ++ k :: post):k = pre.length /\ k < n:=by
 have h1:(List.range n)[pre.length]? = some k:=by rw [e];simp
 obtain ⟨h2,h3⟩:=List.getElem?_eq_some_iff.mp h1
 rw [List.getElem_range] at h3
 rw [List.length_range] at h2
 lia
theorem sG (p:Pic) (q:Int × R):(ag (p ++ [q])).length = (ag p).length + q.2.length:=by
 unfold ag
 simp
theorem nz (ns:List Int) (hn:ns.length <= 63):∃ p:Pic,lg [.scr (ns.map D.int)] = some (am p) /\ ao p /\ p.length <= 20 /\ (ag p).length <= 160:=by
 obtain ⟨f,hf⟩:=ny ns 0
 obtain ⟨q,hq1,hq⟩:∃ q:Int,0 < q /\ wE (.int 10) (.int 58) = some (.int q):=⟨_,by decide,IC (by decide)⟩
 have at2:∀ c:Int,∃ m:Int,0 < m /\ atI [D.int 9,.int q] (c % 2) = some (.int m):=fun c=>by
  have:c % 2 = 0 \/ c % 2 = 1:=by lia
  rcases this with e | e <;> rw [e]
  ·exact ⟨9,by lia,rfl⟩
  ·exact ⟨q,hq1,rfl⟩
 obtain ⟨m1,h1,e1⟩:=at2 (f / 3)
 obtain ⟨m2,h2,e2⟩:=at2 (f / 6)
 obtain ⟨x,hx⟩:=je (f / 12) m1 h1
 obtain ⟨y,hy⟩:=je (f / 24) m2 h2
 obtain ⟨n,hn20,hr⟩:∃ n:Nat,n <= 20 /\ n <= ns.length - 1 /\ Fm [.int (if (ns.length:Int) - 1 < 20 then (ns.length:Int) - 1 else 20)] = some ((List.range n).map fun k:Nat=>D.int (k:Int)):=by
  refine ⟨(if (ns.length:Int) - 1 < 20 then (ns.length:Int) - 1 else 20).toNat,by split <;> lia,by split <;> lia,?_⟩
  rw [<- qA]
  exact dg (by split <;> lia)
 obtain ⟨hnl,hr⟩:=hr
 obtain ⟨ρ',k1,p,v5,v6,v7,v8,rfl,c1,c2,c3,c4⟩:=aV (g:=af 5) (m:=dN) (fun k:Nat=>D.int (k:Int)) (fun pre ρ=>∃ (p:Pic) (v5 v6 v7 v8:Sl),ρ = [.sh (.scr (ns.map D.int)),.sh (.int f),.sh (.int x),.sh (.int y),owl (p.map pyD),v5,v6,v7,v8] /\ ao p /\ (∀ g ∈ p,g.1 < y + pre.length) /\ p.length <= pre.length /\ (ag p).length <= 8 * pre.length) (List.range n) [.sh (.scr (ns.map D.int)),.sh (.int f),.sh (.int x),.sh (.int y),.ow (.lst []),.un,.un,.un,.un]
  ⟨[],_,_,_,_,rfl,zH,fun _ h=>(by cases h),by simp,by simp [ag]⟩ (by
  rintro pre k post _ e ⟨p,v5,v6,v7,v8,rfl,c1,c2,c3,c4⟩
  obtain ⟨hk,hkn⟩:=Fj e
  have hlim:p.length < LIM:=bH (by lia)
  have ea:atI (ns.map D.int) (1 + (k:Int)) = some (.int (ns[1 + k]'(by lia))):=by
   have:=fD (l:=ns.map D.int) (j:=1 + k) (x:=.int (ns[1 + k]'(by lia))) (by rw [List.getElem?_map,List.getElem?_eq_getElem (by lia)];rfl)
   rw [<- this]
   congr 1
  obtain ⟨b0,v7',hin⟩:=zk ns hn k (by lia) (.sh (.int f)) (.sh (.int x)) (.sh (.int y)) (owl (p.map pyD)) v7 v8 (ns[1 + k]'(by lia) * 48271 % 2147483647 / 37)
  obtain ⟨b,step2⟩:∃ b:Int,∀ n:XS,aA (xIf (xB (xOp (dEq false) (xOp iG (xOp kQ (ah 1) (xC (.int 96))) (xC (.int 2))) (xC (.int 1)))) (bB (xOp iG (xOp dIx (ah 0) (xOp aR (xC (.int 1)) (ah 5))) (xC (.int 256))) (af 6)) dF) n [.sh (.scr (ns.map D.int)),.sh (.int f),.sh (.int x),.sh (.int y),owl (p.map pyD),.sh (.int k),.sh (.int b0),v7',v8] = n [.sh (.scr (ns.map D.int)),.sh (.int f),.sh (.int x),.sh (.int y),owl (p.map pyD),.sh (.int k),.sh (.int b),v7',v8]:=by
   by_cases h9:f / 96 % 2 = 1
   ·exact ⟨_,fun n=>by simp [h9,ea];rfl⟩
   ·exact ⟨b0,fun n=>by simp [h9]⟩
  obtain ⟨r,hrow,cr,lr⟩:=u0 b x (decide (f % 3 = 1)) (decide (f / 48 % 2 = 0))
  have step1:∀ n:XS,aA (bB (xOp kQ (xOp iG (xOp oQ (xOp dIx (ah 0) (xOp aR (xC (.int 1)) (ah 5))) (xC (.int 48271))) (xC (.int 2147483647))) (xC (.int 37))) (af 6)) n [.sh (.scr (ns.map D.int)),.sh (.int f),.sh (.int x),.sh (.int y),owl (p.map pyD),.sh (.int k),v6,v7,v8] = n [.sh (.scr (ns.map D.int)),.sh (.int f),.sh (.int x),.sh (.int y),owl (p.map pyD),.sh (.int k),.sh (.int (ns[1 + k]'(by lia) * 48271 % 2147483647 / 37)),v7,v8]:=fun n=>by
   have hm:oQ (.int (ns[1 + k]'(by lia))) (.int 48271) = some (.int (ns[1 + k]'(by lia) * 48271)):=dg (.inr (by decide))
   simp [ea,hm]
  by_cases hr0:r = []
  ·subst hr0
   refine ⟨[.sh (.scr (ns.map D.int)),.sh (.int f),.sh (.int x),.sh (.int y),owl (p.map pyD),.sh (.int k),v6,v7,v8],[.sh (.scr (ns.map D.int)),.sh (.int f),.sh (.int x),.sh (.int y),owl (p.map pyD),.sh (.int k),.sh (.int b),v7',.sh (bp [])],rfl,.inl ?_,p,_,_,_,_,rfl,c1,fun g hg=>by have:=c2 g hg;rw [List.length_append,List.length_singleton];lia,by rw [List.length_append,List.length_singleton];lia,by rw [List.length_append,List.length_singleton];lia⟩
   unfold dN
   rw [step1,bo hin,step2]
   simp [hrow]
  ·have hpos:(0:Int) < r.length:=by have:=List.length_pos_iff.mpr hr0;lia
   have hpos':0 < r.length:=List.length_pos_iff.mpr hr0
   refine ⟨[.sh (.scr (ns.map D.int)),.sh (.int f),.sh (.int x),.sh (.int y),owl (p.map pyD),.sh (.int k),v6,v7,v8],[.sh (.scr (ns.map D.int)),.sh (.int f),.sh (.int x),.sh (.int y),owl ((p ++ [(y + k,r)]).map pyD),.sh (.int k),.sh (.int b),v7',.sh (bp r)],rfl,.inl ?_,p ++ [(y + k,r)],_,_,_,_,rfl,⟨fun g hg=>?_,?_⟩,fun g hg=>?_,?_,?_⟩
   ·unfold dN
    rw [step1,bo hin,step2]
    simp [hrow,hpos,hpos',hlim]
   ·rcases List.mem_append.mp hg with hg | hg
    ·exact c1.1 g hg
    ·rw [List.mem_singleton.mp hg];exact ⟨cr,hr0⟩
   ·refine List.pairwise_append.mpr ⟨c1.2,List.pairwise_singleton _ _,fun a ha b hb=>?_⟩
    rw [List.mem_singleton.mp hb]
    have:=c2 a ha
    dsimp only
    lia
   ·rw [List.length_append,List.length_singleton]
    rcases List.mem_append.mp hg with hg | hg
    ·have:=c2 g hg;lia
    ·rw [List.mem_singleton.mp hg];dsimp only;lia
   ·rw [List.length_append,List.length_append,List.length_singleton,List.length_singleton];lia
   ·rw [sG,List.length_append,List.length_singleton];dsimp only;lia)
 rw [List.length_range] at c3 c4
 refine ⟨p,?_,c1,by lia,by lia⟩
 have hf':fM [D.scr (ns.map D.int),.int 0] = some (.int f):=hf
 simp [lg,jJ,fnO,ir,hf',hq,e1,e2,hx,hy,hr,k1]
noncomputable def iH (q:Int × R):Bool:=!decide (q.2 = [])
theorem uL:∀ l:Pic,l.filterMap (fun q=>if q.2 = [] then none else some (pyD q)) = (l.filter iH).map pyD
 | []=>rfl
 | q :: l=>by
  by_cases h:q.2 = []
  ·simp [h,iH,<- uL l]
  ·simp [h,iH,<- uL l]
theorem jG (l:Pic) (h:l.length <= 30000):dW [.lst (l.map pyD)] = some (am (l.filter iH)):=by
 have hl:l.length <= LIM:=aI (by lia)
 have hf:=List.length_filter_le iH l
 have hl2:(l.filter iH).length <= LIM:=aI (by lia)
 have hc:bF (aE (ai (af 0) (ai (af 1) aB))) (xB (xOp (dEq true) (ah 1) (aQ aj))) (aQ (ab (ak 0) (ab (ak 1) aj))) [.un,.un] (l.map pyD) = some ((l.filter iH).map pyD):=by
  rw [fG pyD (fun q=>if q.2 = [] then none else some (pyD q)) l,uL]
  intro q _
  have d:dEq true (bp q.2) (.tup []) = some (.bl (!decide (q.2 = []))):=Av true q.2 []
  by_cases hq:q.2 = []
  ·simp [hq] at d
   simp [gJ,hq,d]
  ·simp [hq] at d
   simp [gJ,hq,d]
 simp [dW,dq,fnO,cD,hl,hc,hl2]
noncomputable def gt (r:R) (k:Nat):Int × Int:=r.getD k (0,0)
theorem D8 {r:R} {k:Nat} (h:k < r.length):r[k]? = some (gt r k):=by
 rw [List.getElem?_eq_getElem h]
 simp [gt,h]
noncomputable def gap (r:R) (k:Nat):Int × Int:=((gt r k).2 + 1,(gt r (k + 1)).1 - 1)
noncomputable def aU (r:R):R:=(List.range (r.length - 1)).map (gap r)
theorem D5 (r:R):bF (af 0) cv (aQ (ab (xOp aR (xOp dIx (xOp dIx (ah 1) (ah 0)) (xC (.int 1))) (xC (.int 1))) (ab (xOp dG (xOp dIx (xOp dIx (ah 1) (xOp aR (ah 0) (xC (.int 1)))) (xC (.int 0))) (xC (.int 1))) aj))) [.un,.sh (bp r)] ((List.range (r.length - 1)).map fun k:Nat=>D.int (k:Int)) = some ((aU r).map prD):=by
 have:bF (af 0) cv (aQ (ab (xOp aR (xOp dIx (xOp dIx (ah 1) (ah 0)) (xC (.int 1))) (xC (.int 1))) (ab (xOp dG (xOp dIx (xOp dIx (ah 1) (xOp aR (ah 0) (xC (.int 1)))) (xC (.int 0))) (xC (.int 1))) aj))) [.un,.sh (bp r)] ((List.range (r.length - 1)).map fun k:Nat=>D.int (k:Int)) = some ((List.range (r.length - 1)).map fun k=>prD (gap r k)):=bf (fun k:Nat=>D.int (k:Int)) _ (List.range (r.length - 1)) fun k hk=>by
  have hk':=List.mem_range.mp hk
  have b1:=HX (D8 (r:=r) (k:=k) (by lia))
  have b2:=HX (D8 (r:=r) (k:=k + 1) (by lia))
  have e:((k + 1:Nat):Int) = (k:Int) + 1:=by lia
  rw [e] at b2
  simp [gJ,b1,b2,gap]
 rw [this]
 unfold aU
 rw [List.map_map]
 rfl
theorem GE (r:R) (h:r.length <= 1000):Fm [.int ((r.length:Int) - 1)] = some ((List.range (r.length - 1)).map fun k:Nat=>D.int (k:Int)):=by
 rw [ML (by lia),show ((r.length:Int) - 1).toNat = r.length - 1 by lia,qA]
theorem xi (r:R):(aU r).length <= r.length:=by
 unfold aU
 rw [List.length_map,List.length_range]
 lia
theorem sr (r:R) (h:r.length <= 1000):iK [bp r] = some (bp (aU r)):=by
 have hg:=xi r
 have hl:(aU r).length <= LIM:=aI (by lia)
 have hl2:r.length - 1 <= LIM:=aI (by lia)
 have hc:=D5 r
 try simp at hc
 simp [iK,jK,fnO,iw,GE r h,hc,hl,hl2]
noncomputable def gpP (p:Pic):Pic:=p.map fun q=>(q.1,aU q.2)
theorem jD (p:Pic) (h:p.length <= 1000) (hr:∀ q ∈ p,q.2.length <= 1000):cE [am p] = some (am ((gpP p).filter iH)):=by
 have hl:p.length <= LIM:=aI (by lia)
 have hc:bF (aE (ai (af 0) (ai (af 1) aB))) cv (aQ (ab (ak 0) (ab (aq iK (ab (ak 1) aj)) aj))) [.un,.un] (p.map pyD) = some ((gpP p).map pyD):=by
  unfold gpP
  rw [List.map_map]
  exact bf pyD (fun q=>pyD (q.1,aU q.2)) p fun q hq=>by
   have a:=sr q.2 (hr q hq)
   simp [gJ,a]
 have hm:=jG (gpP p) (by unfold gpP;rw [List.length_map];lia)
 have hl2:(gpP p).length <= LIM:=by unfold gpP;rw [List.length_map];exact hl
 simp [cE,dm,fnO,cB,hl,hl2,hc,hm]
theorem fi:∀ p:Pic,ag (p.filter iH) = ag p
 | []=>rfl
 | q :: p=>by
  rw [List.filter_cons]
  by_cases h:q.2 = []
  ·have:iH q = false:=by simp [iH,h]
   rw [this,aJ,h]
   exact fi p
  ·have:iH q = true:=by simp [iH,h]
   rw [this,if_pos rfl,aJ,aJ,fi p]
theorem mQ:∀ p:Pic,(ag (gpP p)).length <= (ag p).length
 | []=>Nat.le_refl _
 | q :: p=>by
  have h1:=mQ p
  have h2:=xi q.2
  unfold gpP at h1 ⊢
  rw [List.map_cons,aJ,aJ,List.length_append,List.length_append,List.length_map,List.length_map]
  dsimp only
  lia
noncomputable def cU (r:R) (a b:Int):Bool:=match r.head?,r.getLast? with
 | some p,some q=>decide (p.1 <= a) && decide (b <= q.2)
 | _,_=>false
noncomputable def c5 (p:Pic) (g:Tri):Bool:=!(cU (aG p (g.1 - 1)) g.2.1 g.2.2 && cU (aG p (g.1 + 1)) g.2.1 g.2.2)
theorem z7 (p:Int × Int) (t:R) (q:Int × Int) (a b:Int) (h:(p :: t).getLast? = some q):cU (p :: t) a b = (decide (p.1 <= a) && decide (b <= q.2)):=by
 unfold cU
 rw [h]
 rfl
theorem Fp {r:R} (h:r ≠ []):∃ p q,r.head? = some p /\ r.getLast? = some q /\ atI (r.map prD) 0 = some (prD p) /\ atI (r.map prD) (-1) = some (prD q):=by
 rcases List.eq_nil_or_concat r with e | ⟨t,q,e⟩
 ·exact absurd e h
 ·rw [List.concat_eq_append] at e
  subst e
  refine ⟨(t ++ [q]).head h,q,List.head?_eq_some_head h,by simp,?_,by rw [List.map_append];exact gP _ _⟩
  refine fD (j:=0) ?_
  rw [List.getElem?_map,<- List.head?_eq_getElem?,List.head?_eq_some_head h]
  rfl
theorem mD (s0 s1:Sl) (r:R) (a b:Int):aK [s0,s1,.sh (.int a),.sh (.int b),.sh (bp r)] = if cU r a b = true then some (.nx [s0,s1,.sh (.int a),.sh (.int b),.sh (bp r)]) else some (.rt (.bl true)):=by
 have d:dEq false (bp r) (.tup []) = some (.bl (decide (r = []))):=Av false r []
 by_cases hr:r = []
 ·subst hr
  have d2:dEq false (bp []) (.tup []) = some (.bl true):=d
  simp [aK,cU,d2]
 ·obtain ⟨p,q,h1,h2,h3,h4⟩:=Fp hr
  have es:cU r a b = (decide (p.1 <= a) && decide (b <= q.2)):=by unfold cU;rw [h1,h2]
  rw [es]
  rw [decide_eq_false hr] at d
  by_cases c1:p.1 <= a
  ·by_cases c2:b <= q.2
   ·have n1:¬ a < p.1:=by lia
    have n2:¬ q.2 < b:=by lia
    simp [aK,d,h3,h4,c1,c2,n1,n2]
   ·have n1:¬ a < p.1:=by lia
    have n2:q.2 < b:=by lia
    simp [aK,d,h3,h4,c1,c2,n1,n2]
  ·have n1:a < p.1:=by lia
   simp [aK,d,h3,h4,c1,n1]
theorem uZ (p:Pic) (c:ao p) (hp:p.length <= 1000) (y a b:Int):cj [am p,.int y,.int a,.int b] = some (.bl (c5 p (y,a,b))):=by
 have r1:=jF p (y - 1) c (by lia)
 have r2:=jF p (y + 1) c (by lia)
 have t1:=mD (.sh (am p)) (.sh (.int y)) (aG p (y - 1)) a b
 have t2:=mD (.sh (am p)) (.sh (.int y)) (aG p (y + 1)) a b
 have hl2:(2:Nat) <= LIM:=aI (by lia)
 have e:∀ ρ,xIt (aQ (ab (aq cM (ab (ak 0) (ab (xOp dG (ah 1) (xC (.int 1))) aj))) (ab (aq cM (ab (ak 0) (ab (xOp aR (ah 1) (xC (.int 1))) aj))) aj))) (.sh (am p) :: .sh (.int y) :: ρ) = some [bp (aG p (y - 1)),bp (aG p (y + 1))]:=fun ρ=>by
  simp [r1,r2,hl2,mN]
 have l2:cT (af 4) aK [bp (aG p (y + 1))] [.sh (am p),.sh (.int y),.sh (.int a),.sh (.int b),.sh (bp (aG p (y - 1)))] = if cU (aG p (y + 1)) a b = true then some (.nx [.sh (am p),.sh (.int y),.sh (.int a),.sh (.int b),.sh (bp (aG p (y + 1)))]) else some (.rt (.bl true)):=by
  rw [fL]
  show (match aK [.sh (am p),.sh (.int y),.sh (.int a),.sh (.int b),.sh (bp (aG p (y + 1)))] with | some (.nx ρ2)=>_ | some (.ct ρ2)=>_ | some (.bk ρ2)=>_ | some (.rt d)=>_ | some (.ro d)=>_ | none=>_) = _
  rw [t2]
  by_cases h2:cU (aG p (y + 1)) a b = true
  ·rw [if_pos h2];rfl
  ·rw [if_neg h2]
 have l1:cT (af 4) aK [bp (aG p (y - 1)),bp (aG p (y + 1))] [.sh (am p),.sh (.int y),.sh (.int a),.sh (.int b),.un] = if cU (aG p (y - 1)) a b = true then (if cU (aG p (y + 1)) a b = true then some (.nx [.sh (am p),.sh (.int y),.sh (.int a),.sh (.int b),.sh (bp (aG p (y + 1)))]) else some (.rt (.bl true))) else some (.rt (.bl true)):=by
  rw [fL]
  show (match aK [.sh (am p),.sh (.int y),.sh (.int a),.sh (.int b),.sh (bp (aG p (y - 1)))] with | some (.nx ρ2)=>_ | some (.ct ρ2)=>_ | some (.bk ρ2)=>_ | some (.rt d)=>_ | some (.ro d)=>_ | none=>_) = _
  rw [t1]
  by_cases h1:cU (aG p (y - 1)) a b = true
  ·rw [if_pos h1,if_pos h1];exact l2
  ·rw [if_neg h1,if_neg h1]
 have hX:gN [.sh (am p),.sh (.int y),.sh (.int a),.sh (.int b),.un] = some (.rt (.bl (c5 p (y,a,b)))):=by
  have hf:d8 (xIt (aQ (ab (aq cM (ab (ak 0) (ab (xOp dG (ah 1) (xC (.int 1))) aj))) (ab (aq cM (ab (ak 0) (ab (xOp aR (ah 1) (xC (.int 1))) aj))) aj)))) (af 4) aK [.sh (am p),.sh (.int y),.sh (.int a),.sh (.int b),.un] = cT (af 4) aK [bp (aG p (y - 1)),bp (aG p (y + 1))] [.sh (am p),.sh (.int y),.sh (.int a),.sh (.int b),.un]:=by
   unfold d8
   rw [e]
   rfl
  rw [l1] at hf
  unfold gN c5
  cases h1:cU (aG p (y - 1)) a b with
  | true=>
   rw [h1,if_pos rfl] at hf
   cases h2:cU (aG p (y + 1)) a b with
   | true=>
    rw [h2,if_pos rfl] at hf
    rw [bo hf]
    simp [h1,h2]
   | false=>
    rw [h2,if_neg (by decide)] at hf
    unfold aA
    rw [hf]
    simp [h1,h2]
  | false=>
   rw [h1,if_neg (by decide)] at hf
   unfold aA
   rw [hf]
   simp [h1]
 unfold cj lu fnO
 have hh:([am p,.int y,.int a,.int b].map Sl.sh ++ List.replicate (5 - [am p,D.int y,.int a,.int b].length) .un) = [.sh (am p),.sh (.int y),.sh (.int a),.sh (.int b),.un]:=rfl
 rw [hh,hX]
 simp
theorem xj (p:Int × Int):aU [p] = []:=rfl
theorem dB (p q:Int × Int) (t:R):aU (p :: q :: t) = (p.2 + 1,q.1 - 1) :: aU (q :: t):=by
 unfold aU
 simp only [List.length_cons,Nat.add_sub_cancel]
 rw [List.range_succ_eq_map,List.map_cons,List.map_map]
 rfl
theorem AB:∀ (r:R) (p:Int × Int),aP (p :: r) -> ∀ g ∈ aU (p :: r),p.2 + 1 <= g.1
 | [],p,_,g,h=>by rw [xj] at h;cases h
 | q :: t,p,c,g,h=>by
  obtain ⟨c1,c2,c3⟩:=canon_cons.mp c
  rw [dB] at h
  rcases List.mem_cons.mp h with rfl | h
  ·exact Int.le_refl _
  ·have h1:=AB t q c3 g h
   have h2:=c2 q List.mem_cons_self
   have h3:=(canon_cons.mp c3).1
   lia
theorem qu:∀ (r:R) (p:Int × Int),aP (p :: r) -> aP (aU (p :: r))
 | [],p,_=>eg
 | q :: t,p,c=>by
  obtain ⟨c1,c2,c3⟩:=canon_cons.mp c
  rw [dB]
  have h2:=c2 q List.mem_cons_self
  refine canon_cons.mpr ⟨by dsimp only;lia,fun g hg=>?_,qu t q c3⟩
  have h1:=AB t q c3 g hg
  have h3:=(canon_cons.mp c3).1
  dsimp only
  lia
theorem xh {r:R} (c:aP r):aP (aU r):=by
 cases r with
 | nil=>exact eg
 | cons p r=>exact qu r p c
noncomputable def gU (p:Pic):Pic:=(gpP p).filter iH
theorem y7 {p:Pic} (c:ao p):ao (gU p):=by
 unfold gU gpP
 refine ⟨fun q hq=>?_,?_⟩
 ·obtain ⟨h1,h2⟩:=List.mem_filter.mp hq
  obtain ⟨s,hs,rfl⟩:=List.mem_map.mp h1
  exact ⟨xh (c.1 s hs).1,by simpa [iH] using h2⟩
 ·refine List.Pairwise.sublist List.filter_sublist ?_
  rw [List.pairwise_map]
  exact c.2
theorem rQ (p:Pic):ag (gU p) = ag (gpP p):=fi _
theorem ol {α:Type} (f:α -> Bool):∀ l:List α,e8 (l.map fun a=>D.bl (f a)) = some (l.map f)
 | []=>rfl
 | a :: l=>by
  rw [List.map_cons,e8,ol f l]
  rfl
theorem xc (f:Wk -> Bool):∀ l:List Wk,l.filterMap (fun W=>if f W = true then some (az W) else none) = (l.filter f).map az
 | []=>rfl
 | W :: l=>by
  rw [List.filterMap_cons,List.filter_cons,xc f l]
  cases h:f W <;> simp
noncomputable def ga (p:Pic) (W:Wk):Bool:=!(W.any fun w=>c5 p w.1)
theorem nq (p:Pic) (c:ao p) (hp:p.length <= 160) (hn:(ag p).length <= 160):∃ Ws:List Wk,eI [am p] = some (.lst ((Ws.filter (ga p)).map az)) /\ Ws.length <= 160 /\ (∀ W ∈ Ws,W.length <= 160) /\ Eu.Fam 0 (ag (gU p)) (y0 Ws):=by
 have cg:=y7 c
 have hgl:(gU p).length <= 160:=by
  have h1:=List.length_filter_le iH (gpP p)
  have h2:(gpP p).length = p.length:=by unfold gpP;rw [List.length_map]
  unfold gU
  lia
 have hgn:(ag (gU p)).length <= 160:=by
  rw [rQ]
  have:=mQ p
  lia
 have hpg:cE [am p] = some (am (gU p)):=jD p (by lia) fun q hq=>by
  have:=c8 hq
  lia
 obtain ⟨Ws,hcl,wlen,hw,fam⟩:=jd (Int.le_refl 0) (gU p) cg hgl hgn
 have wok:∀ W ∈ Ws,W.length <= 160:=fun W hW=>by
  obtain ⟨s,h1,h2⟩:=hw W hW
  have:=h2.toWOk.le h1
  lia
 refine ⟨Ws,?_,wlen,wok,fam⟩
 have hl:Ws.length <= LIM:=aI (by lia)
 have inner:∀ W ∈ Ws,xCB yE (ab (xL (bq [none,none,none,none,some 1] (xIt (ah 0)) (aE (ai (af 0) (ai (af 1) (ai (af 2) (ai (af 3) aB))))) cv (aq cj (ab (ak 4) (ab (ak 0) (ab (ak 1) (ab (ak 2) aj))))))) aj) [.sh (az W),.sh (am p)] = some (.bl (W.any fun w=>c5 p w.1)):=fun W hW=>by
  have hl1:W.length <= LIM:=aI (by have:=wok W hW;lia)
  have hc:bF (aE (ai (af 0) (ai (af 1) (ai (af 2) (ai (af 3) aB))))) cv (aq cj (ab (ak 4) (ab (ak 0) (ab (ak 1) (ab (ak 2) aj))))) [.un,.un,.un,.un,.sh (am p)] (W.map bX) = some (W.map fun w=>D.bl (c5 p w.1)):=bf bX _ W fun w _=>by
   have h:=uZ p c (by lia) w.1.1 w.1.2.1 w.1.2.2
   simp [gJ,h]
  have z:bq [none,none,none,none,some 1] (xIt (ah 0)) (aE (ai (af 0) (ai (af 1) (ai (af 2) (ai (af 3) aB))))) cv (aq cj (ab (ak 4) (ab (ak 0) (ab (ak 1) (ab (ak 2) aj))))) [.sh (az W),.sh (am p)] = some (W.map fun w=>D.bl (c5 p w.1)):=by
   have z1:xIt (ah 0) [.sh (az W),.sh (am p)] = some (W.map bX):=by simp [mN]
   unfold bq
   rw [z1]
   show (if (W.map bX).length <= LIM then _ else _) = _
   rw [List.length_map,if_pos hl1]
   exact hc
  have z2:ab (xL (bq [none,none,none,none,some 1] (xIt (ah 0)) (aE (ai (af 0) (ai (af 1) (ai (af 2) (ai (af 3) aB))))) cv (aq cj (ab (ak 4) (ab (ak 0) (ab (ak 1) (ab (ak 2) aj))))))) aj [.sh (az W),.sh (am p)] = some [.lst (W.map fun w=>D.bl (c5 p w.1))]:=by
   unfold ab xL
   unfold ab at z
   rw [z]
   rfl
  unfold xCB
  rw [z2]
  show ((e8 (W.map fun w=>D.bl (c5 p w.1))).map _) = _
  rw [ol]
  show some (D.bl ((W.map fun w=>c5 p w.1).any id)) = _
  rw [List.any_map]
  rfl
 have hc2:bF (af 0) (vR (mY (xCB yE (ab (xL (bq [none,none,none,none,some 1] (xIt (ah 0)) (aE (ai (af 0) (ai (af 1) (ai (af 2) (ai (af 3) aB))))) cv (aq cj (ab (ak 4) (ab (ak 0) (ab (ak 1) (ab (ak 2) aj))))))) aj)))) (ak 0) [.un,.sh (am p)] (Ws.map az) = some ((Ws.filter (ga p)).map az):=by
  rw [fG az (fun W=>if ga p W = true then some (az W) else none) Ws,xc]
  intro W hW
  have h:=inner W hW
  have ht:vR (mY (xCB yE (ab (xL (bq [none,none,none,none,some 1] (xIt (ah 0)) (aE (ai (af 0) (ai (af 1) (ai (af 2) (ai (af 3) aB))))) cv (aq cj (ab (ak 4) (ab (ak 0) (ab (ak 1) (ab (ak 2) aj))))))) aj))) [.sh (az W),.sh (am p)] = some (ga p W):=by
   unfold vR mY
   rw [h]
   rfl
  show ((vR (mY _) [.sh (az W),.sh (am p)]).bind fun b=>if b = true then (ak 0 [.sh (az W),.sh (am p)]).map some else some none) = _
  rw [ht]
  cases ga p W <;> rfl
 have hX:l7 [.sh (am p),.un] = some (.ro (.lst (((Ws.filter (ga p)).map az).map O.sh))):=by
  unfold l7
  rw [bo (ρ':=[.sh (am p),.sh (.lst (Ws.map az))]) (by simp [hpg,hcl])]
  have z:bq [none,some 0] (xIt (ah 1)) (af 0) (vR (mY (xCB yE (ab (xL (bq [none,none,none,none,some 1] (xIt (ah 0)) (aE (ai (af 0) (ai (af 1) (ai (af 2) (ai (af 3) aB))))) cv (aq cj (ab (ak 4) (ab (ak 0) (ab (ak 1) (ab (ak 2) aj))))))) aj)))) (ak 0) [.sh (am p),.sh (.lst (Ws.map az))] = some ((Ws.filter (ga p)).map az):=by
   have z1:xIt (ah 1) [.sh (am p),.sh (.lst (Ws.map az))] = some (Ws.map az):=by simp [mN]
   unfold bq
   rw [z1]
   show (if (Ws.map az).length <= LIM then _ else _) = _
   rw [List.length_map,if_pos hl]
   exact hc2
  unfold Bd xLT
  rw [z]
  rfl
 unfold eI qR fnO
 have hh:([am p].map Sl.sh ++ List.replicate (2 - [am p].length) .un) = [.sh (am p),.un]:=rfl
 rw [hh,hX]
 simp
theorem jI (p:Pic) (t:Tri):t ∈ ag (gU p) ↔ ∃ g ∈ p,t.1 = g.1 /\ t.2 ∈ aU g.2:=by
 rw [rQ]
 unfold gpP
 constructor
 ·intro h
  obtain ⟨q,hq,hs⟩:=List.mem_flatMap.mp h
  obtain ⟨z,hz,rfl⟩:=List.mem_map.mp hs
  obtain ⟨g,hg,rfl⟩:=List.mem_map.mp hq
  exact ⟨g,hg,rfl,hz⟩
 ·rintro ⟨g,hg,h1,h2⟩
  exact List.mem_flatMap.mpr ⟨_,List.mem_map.mpr ⟨g,hg,rfl⟩,List.mem_map.mpr ⟨t.2,h2,by rw [<- h1]⟩⟩
theorem qq:∀ (Hs:List Wk),(∀ W ∈ Hs,W.length <= 160) -> (Hs.flatMap fun W=>W.map (·.1)).length <= 160 * Hs.length
 | [],_=>Nat.le_refl _
 | W :: Hs,h=>by
  have h1:=qq Hs fun V hV=>h V (List.mem_cons_of_mem _ hV)
  have h2:=h W List.mem_cons_self
  rw [List.flatMap_cons,List.length_append,List.length_map,List.length_cons]
  lia
theorem BS (p:Pic) (hn:(ag p).length <= 160) (Hs:List Wk) (hh:eI [am p] = some (.lst (Hs.map az))) (hH:Hs.length <= 160) (hW:∀ W ∈ Hs,W.length <= 160):mF [am p] = some (am (aZ (ag p ++ Hs.flatMap fun W=>W.map (·.1)))):=by
 have hS:=fS p (by lia)
 have fl:=qq Hs hW
 obtain ⟨ρ',k1,v2,rfl⟩:=aV (g:=af 2) (m:=ip) az (fun pre ρ=>∃ v2,ρ = [.sh (am p),owl ((ag p ++ pre.flatMap fun W=>W.map (·.1)).map ar),v2]) Hs [.sh (am p),owl ((ag p).map ar),.un] ⟨.un,by simp⟩ (by
  rintro pre W post _ e ⟨v2,rfl⟩
  have hWl:=hW W (by rw [e];simp)
  have pl:=qq pre fun V hV=>hW V (by rw [e];simp [hV])
  have hpl:pre.length <= 160:=by
   have:=congrArg List.length e
   rw [List.length_append] at this
   lia
  have hl1:W.length <= LIM:=aI (by lia)
  have hl2:(ag p ++ pre.flatMap fun W=>W.map (·.1)).length + (W.map (·.1)).length <= LIM:=aI (by rw [List.length_append,List.length_map];lia)
  have hc:bF (aE (ai (af 0) (ai (af 1) (ai (af 2) (ai (af 3) aB))))) cv (aQ (ab (ak 0) (ab (ak 1) (ab (ak 2) aj)))) [.un,.un,.un,.un] (W.map bX) = some ((W.map (·.1)).map ar):=by
   rw [bf bX (fun w=>ar w.1) W fun w _=>by simp [gJ],List.map_map]
   rfl
  refine ⟨[.sh (am p),owl ((ag p ++ pre.flatMap fun W=>W.map (·.1)).map ar),.sh (az W)],[.sh (am p),owl ((ag p ++ (pre ++ [W]).flatMap fun W=>W.map (·.1)).map ar),.sh (az W)],rfl,.inl ?_,_,rfl⟩
  have ef:(ag p ++ (pre ++ [W]).flatMap fun W=>W.map (·.1)) = (ag p ++ pre.flatMap fun W=>W.map (·.1)) ++ W.map (·.1):=by
   rw [List.flatMap_append,<- List.append_assoc]
   simp
  rw [ef]
  generalize (ag p ++ pre.flatMap fun W=>W.map (·.1)) = ts at hl2
  generalize hMs:W.map (·.1) = Ms at hc hl2
  simp [ip,mN,hl1,hc,hl2])
 have hpic:=bZ (ag p ++ Hs.flatMap fun W=>W.map (·.1)) (by rw [List.length_append];lia)
 generalize (ag p ++ Hs.flatMap fun W=>W.map (·.1)) = ts at k1 hpic ⊢
 have hX:ju [.sh (am p),.un,.un] = some (.rt (am (aZ ts))):=by
  unfold ju
  rw [bo (ρ':=[.sh (am p),owl ((ag p).map ar),.un]) (by simp [hS]),bo (ρ':=[.sh (am p),owl (ts.map ar),v2]) (by
   have z:xIt (aq eI (ab (ak 0) aj)) [.sh (am p),owl ((ag p).map ar),.un] = some (Hs.map az):=by simp [hh,mN]
   unfold d8
   rw [z]
   exact k1)]
  simp [frz,hpic]
 unfold mF nJ fnO
 have hh2:([am p].map Sl.sh ++ List.replicate (3 - [am p].length) .un) = [.sh (am p),.un,.un]:=rfl
 rw [hh2,hX]
 simp
noncomputable def dA (f:Int × Int -> Bool):Int × Int -> R -> R
 | p,[]=>[p]
 | p,q :: t=>if f (p.2 + 1,q.1 - 1) = true then dA f (p.1,q.2) t else p :: dA f q t
noncomputable def oq (f:Int × Int -> Bool):R -> R
 | []=>[]
 | p :: r=>dA f p r
theorem fI (f:Int × Int -> Bool):∀ (r:R) (p:Int × Int),∃ b t,dA f p r = (p.1,b) :: t
 | [],p=>⟨p.2,[],rfl⟩
 | q :: r,p=>by
  unfold dA
  split
  ·exact fI f r (p.1,q.2)
  ·exact ⟨p.2,_,rfl⟩
theorem k6 (f:Int × Int -> Bool):∀ (r:R) (p:Int × Int),((dA f p r).getLast?).map (·.2) = ((p :: r).getLast?).map (·.2)
 | [],p=>rfl
 | q :: r,p=>by
  unfold dA
  have e:∀ a:Int × Int,(a :: q :: r).getLast? = (q :: r).getLast?:=fun a=>List.getLast?_cons_cons
  split
  ·rw [k6 f r (p.1,q.2),e p]
   cases r with
   | nil=>rfl
   | cons z r=>rw [List.getLast?_cons_cons,List.getLast?_cons_cons]
  ·obtain ⟨b,t,h⟩:=fI f r q
   rw [e p,<- k6 f r q,h,List.getLast?_cons_cons]
theorem oE {p q:Int × Int} {t:R} (c:aP (p :: q :: t)):aP ((p.1,q.2) :: t):=by
 obtain ⟨c1,c2,c3⟩:=canon_cons.mp c
 obtain ⟨d1,d2,d3⟩:=canon_cons.mp c3
 have:=c2 q List.mem_cons_self
 exact canon_cons.mpr ⟨by dsimp only;lia,d2,d3⟩
theorem jz (f:Int × Int -> Bool):∀ (r:R) (p:Int × Int),aP (p :: r) -> aP (dA f p r) /\ ∀ z ∈ dA f p r,p.1 <= z.1
 | [],p,c=>⟨c,fun z hz=>by rw [List.mem_singleton.mp hz];exact Int.le_refl _⟩
 | q :: r,p,c=>by
  unfold dA
  split
  ·exact jz f r (p.1,q.2) (oE c)
  ·obtain ⟨c1,c2,c3⟩:=canon_cons.mp c
   obtain ⟨h1,h2⟩:=jz f r q c3
   have:=c2 q List.mem_cons_self
   refine ⟨canon_cons.mpr ⟨c1,fun z hz=>?_,h1⟩,fun z hz=>?_⟩
   ·have:=h2 z hz;lia
   ·rcases List.mem_cons.mp hz with rfl | hz
    ·exact Int.le_refl _
    ·have:=h2 z hz;lia
theorem tG (a a' b:Int) (t:R):aU ((a,b) :: t) = aU ((a',b) :: t):=by
 cases t with
 | nil=>rfl
 | cons q t=>rw [dB,dB]
theorem kZ (f:Int × Int -> Bool):∀ (r:R) (p:Int × Int),aU (dA f p r) = (aU (p :: r)).filter fun g=>!f g
 | [],p=>rfl
 | q :: r,p=>by
  rw [dB,List.filter_cons]
  unfold dA
  by_cases h:f (p.2 + 1,q.1 - 1) = true
  ·rw [if_pos h,kZ f r (p.1,q.2),h,tG p.1 q.1 q.2 r]
   rfl
  ·have h':f (p.2 + 1,q.1 - 1) = false:=by simpa using h
   rw [if_neg h,h']
   obtain ⟨b,t,e⟩:=fI f r q
   have ih:=kZ f r q
   rw [e] at ih ⊢
   rw [dB,ih]
   rfl
theorem m9 (f:Int × Int -> Bool) (x:Int):∀ (r:R) (p:Int × Int),aP (p :: r) -> (Mem (dA f p r) x ↔ Mem (p :: r) x \/ ∃ g ∈ aU (p :: r),f g = true /\ g.1 <= x /\ x <= g.2)
 | [],p,_=>⟨.inl,fun h=>h.elim id fun ⟨g,hg,_⟩=>by cases hg⟩
 | q :: r,p,c=>by
  obtain ⟨c1,c2,c3⟩:=canon_cons.mp c
  have hq:=c2 q List.mem_cons_self
  have hqq:=(canon_cons.mp c3).1
  rw [dB]
  unfold dA
  by_cases h:f (p.2 + 1,q.1 - 1) = true
  ·rw [if_pos h,m9 f x r (p.1,q.2) (oE c),tG p.1 q.1 q.2 r,mem_cons,mem_cons,mem_cons]
   dsimp only
   constructor
   ·rintro ((k | k) | ⟨g,hg,k⟩)
    ·by_cases h1:x <= p.2
     ·exact .inl (.inl ⟨k.1,h1⟩)
     ·by_cases h2:q.1 <= x
      ·exact .inl (.inr (.inl ⟨h2,k.2⟩))
      ·exact .inr ⟨_,List.mem_cons_self,h,by dsimp only;lia,by dsimp only;lia⟩
    ·exact .inl (.inr (.inr k))
    ·exact .inr ⟨g,List.mem_cons_of_mem _ hg,k⟩
   ·rintro ((k | k | k) | ⟨g,hg,k⟩)
    ·left;left;lia
    ·left;left;lia
    ·exact .inl (.inr k)
    ·rcases List.mem_cons.mp hg with rfl | hg
     ·dsimp only at k;left;left;lia
     ·exact .inr ⟨g,hg,k⟩
  ·rw [if_neg h,mem_cons,m9 f x r q c3,mem_cons p]
   constructor
   ·rintro (k | k | ⟨g,hg,k⟩)
    ·exact .inl (.inl k)
    ·exact .inl (.inr k)
    ·exact .inr ⟨g,List.mem_cons_of_mem _ hg,k⟩
   ·rintro ((k | k) | ⟨g,hg,k⟩)
    ·exact .inl k
    ·exact .inr (.inl k)
    ·rcases List.mem_cons.mp hg with rfl | hg
     ·exact absurd k.1 h
     ·exact .inr (.inr ⟨g,hg,k⟩)
theorem wZ (f:Int × Int -> Bool) {r:R} (c:aP r):aP (oq f r):=by
 cases r with
 | nil=>exact c
 | cons p r=>exact (jz f r p c).1
theorem DW (f:Int × Int -> Bool) {r:R} (h:r ≠ []):oq f r ≠ []:=by
 cases r with
 | nil=>exact absurd rfl h
 | cons p r=>
  obtain ⟨b,t,e⟩:=fI f r p
  intro z
  have z':dA f p r = []:=z
  rw [e] at z'
  cases z'
theorem p8 (f:Int × Int -> Bool) (r:R):aU (oq f r) = (aU r).filter fun g=>!f g:=by
 cases r with
 | nil=>rfl
 | cons p r=>exact kZ f r p
theorem nh (f:Int × Int -> Bool) (x:Int) {r:R} (c:aP r):Mem (oq f r) x ↔ Mem r x \/ ∃ g ∈ aU r,f g = true /\ g.1 <= x /\ x <= g.2:=by
 cases r with
 | nil=>exact ⟨.inl,fun h=>h.elim id fun ⟨g,hg,_⟩=>by cases hg⟩
 | cons p r=>exact m9 f x r p c
theorem ox (f:Int × Int -> Bool) (r:R) (a b:Int):cU (oq f r) a b = cU r a b:=by
 cases r with
 | nil=>rfl
 | cons p r=>
  obtain ⟨z,t,e⟩:=fI f r p
  have hl:=k6 f r p
  show cU (dA f p r) a b = _
  unfold cU
  have e1:(dA f p r).head? = some (p.1,z):=by rw [e];rfl
  rw [e1]
  cases q1:(dA f p r).getLast? with
  | none=>rw [e] at q1;simp at q1
  | some u=>
   cases q2:(p :: r).getLast? with
   | none=>simp at q2
   | some v=>
    rw [q1,q2] at hl
    have hl':u.2 = v.2:=by simpa using hl
    show (decide (p.1 <= a) && decide (b <= u.2)) = (decide (p.1 <= a) && decide (b <= v.2))
    rw [hl']
noncomputable def ee (L:List Tri) (p:Pic):Pic:=p.map fun g=>(g.1,oq (fun z=>decide (((g.1,z):Tri) ∈ L)) g.2)
theorem jA (L:List Tri) {p:Pic} (c:ao p):ao (ee L p):=by
 unfold ee
 refine ⟨fun q hq=>?_,by rw [List.pairwise_map];exact c.2⟩
 obtain ⟨g,hg,rfl⟩:=List.mem_map.mp hq
 exact ⟨wZ _ (c.1 g hg).1,DW _ (c.1 g hg).2⟩
theorem BQ {L:List Tri} {p:Pic} (c:ao p) (hL:∀ t ∈ L,t ∈ ag (gU p)) (x y:Int):br (ee L p) x y ↔ ba (ag p ++ L) x y:=by
 rw [cP,bA]
 unfold ee
 constructor
 ·rintro ⟨q,hq,e,hm⟩
  obtain ⟨g,hg,rfl⟩:=List.mem_map.mp hq
  rcases (nh _ x (c.1 g hg).1).mp hm with h | ⟨z,hz,hf,h⟩
  ·exact .inl ⟨g,hg,e,h⟩
  ·exact .inr ⟨(g.1,z),of_decide_eq_true hf,e,h⟩
 ·rintro (⟨g,hg,e,h⟩ | ⟨t,ht,e,h⟩)
  ·exact ⟨_,List.mem_map.mpr ⟨g,hg,rfl⟩,e,(nh _ x (c.1 g hg).1).mpr (.inl h)⟩
  ·obtain ⟨g,hg,h1,h2⟩:=(jI p t).mp (hL t ht)
   exact ⟨_,List.mem_map.mpr ⟨g,hg,rfl⟩,by dsimp only;lia,(nh _ x (c.1 g hg).1).mpr (.inr ⟨t.2,h2,decide_eq_true (by rw [<- h1];exact ht),h⟩)⟩
theorem p7 (L:List Tri) (p:Pic) (t:Tri):t ∈ ag (gU (ee L p)) ↔ t ∈ ag (gU p) /\ t ∉ L:=by
 rw [jI,jI]
 unfold ee
 constructor
 ·rintro ⟨q,hq,h1,h2⟩
  obtain ⟨g,hg,rfl⟩:=List.mem_map.mp hq
  dsimp only at h1 h2
  rw [p8,List.mem_filter] at h2
  refine ⟨⟨g,hg,h1,h2.1⟩,fun z=>?_⟩
  have h3:=h2.2
  rw [<- h1,decide_eq_true (show ((t.1,t.2):Tri) ∈ L from z)] at h3
  cases h3
 ·rintro ⟨⟨g,hg,h1,h2⟩,h3⟩
  refine ⟨_,List.mem_map.mpr ⟨g,hg,rfl⟩,h1,?_⟩
  dsimp only
  rw [p8,List.mem_filter]
  refine ⟨h2,?_⟩
  rw [<- h1,decide_eq_false (show ¬ ((t.1,t.2):Tri) ∈ L from h3)]
  rfl
theorem nc (L:List Tri) (y:Int):∀ p:Pic,aG (ee L p) y = oq (fun z=>decide (((y,z):Tri) ∈ L)) (aG p y)
 | []=>rfl
 | g :: p=>by
  have ih:=nc L y p
  unfold ee aG at ih ⊢
  rw [List.map_cons,List.find?_cons,List.find?_cons]
  by_cases h:g.1 = y
  ·rw [decide_eq_true h]
   dsimp only
   rw [h]
  ·rw [decide_eq_false h]
   exact ih
theorem yX (L:List Tri) (p:Pic) (g:Tri):c5 (ee L p) g = c5 p g:=by
 unfold c5
 rw [nc,nc,ox,ox]
theorem p9 (f:Int × Int -> Bool):∀ (r:R) (p:Int × Int),(dA f p r).length <= r.length + 1
 | [],_=>Nat.le_refl _
 | q :: r,p=>by
  unfold dA
  split
  ·have:=p9 f r (p.1,q.2)
   rw [List.length_cons];lia
  ·have:=p9 f r q
   rw [List.length_cons,List.length_cons];lia
theorem BR (f:Int × Int -> Bool) (r:R):(oq f r).length <= r.length:=by
 cases r with
 | nil=>exact Nat.le_refl _
 | cons p r=>exact p9 f r p
theorem tE (L:List Tri):∀ p:Pic,(ag (ee L p)).length <= (ag p).length
 | []=>Nat.le_refl _
 | g :: p=>by
  have h1:=tE L p
  have h2:=BR (fun z=>decide (((g.1,z):Tri) ∈ L)) g.2
  unfold ee at h1 ⊢
  rw [List.map_cons,aJ,aJ,List.length_append,List.length_append,List.length_map,List.length_map]
  dsimp only
  lia
theorem mW (p:Pic) (W:Wk):ga p W = !((W.map (·.1)).any (c5 p)):=by
 unfold ga
 rw [List.any_map]
 rfl
theorem Fz {k:Int} {S:List Tri} {Fs:List (List Tri)} (F:Eu.Fam k S Fs) {U V:List Tri} (hU:U ∈ Fs) (hV:V ∈ Fs) {t:Tri} (h1:t ∈ U) (h2:t ∈ V):U = V:=by
 apply Classical.byContradiction
 intro hn
 rcases Eu.vq F.dj U hU V hV hn with h | h
 ·exact h t h1 h2
 ·exact h t h2 h1
theorem BU (p:Pic) (c:ao p) (hp:p.length <= 160) (hn:(ag p).length <= 160):∃ q:Pic,mF [am p] = some (am q) /\ ao q /\ q.length <= 160 /\ (ag q).length <= 160 /\ eI [am q] = some (.lst []):=by
 obtain ⟨Ws,a1,a2,a3,F⟩:=nq p c hp hn
 have hf:=BS p hn _ a1 (Nat.le_trans (List.length_filter_le _ _) a2) fun W hW=>a3 W (List.mem_filter.mp hW).1
 generalize hL:((Ws.filter (ga p)).flatMap fun W=>W.map (·.1)) = L at hf
 have mL:∀ t,t ∈ L ↔ ∃ V ∈ y0 Ws,V.any (c5 p) = false /\ t ∈ V:=fun t=>by
  rw [<- hL,List.mem_flatMap]
  constructor
  ·rintro ⟨W,h1,h2⟩
   obtain ⟨h3,h4⟩:=List.mem_filter.mp h1
   rw [mW] at h4
   exact ⟨_,List.mem_map.mpr ⟨W,h3,rfl⟩,by simpa using h4,h2⟩
  ·rintro ⟨V,h1,h2,h3⟩
   obtain ⟨W,h4,rfl⟩:=List.mem_map.mp h1
   exact ⟨W,List.mem_filter.mpr ⟨h4,by rw [mW,h2];rfl⟩,h3⟩
 have hsub:∀ t ∈ L,t ∈ ag (gU p):=fun t ht=>by
  obtain ⟨V,h1,_,h2⟩:=(mL t).mp ht
  obtain ⟨s,h3,h4⟩:=F.cl V h1
  exact ((h4 t).mp h2).mem h3
 have ef:aZ (ag p ++ L) = ee L p:=iT (jA L c) fun x y=>(BQ c hsub x y).symm
 rw [ef] at hf
 have ql:(ee L p).length <= 160:=by unfold ee;rw [List.length_map];exact hp
 have qn:(ag (ee L p)).length <= 160:=Nat.le_trans (tE L p) hn
 refine ⟨ee L p,hf,jA L c,ql,qn,?_⟩
 obtain ⟨Xs,b1,_,_,G⟩:=nq (ee L p) (jA L c) ql qn
 rw [b1,List.filter_eq_nil_iff.mpr fun X hX=>?_]
 ·rfl
 obtain ⟨s,s1,s2⟩:=G.cl _ (List.mem_map.mpr ⟨X,hX,rfl⟩)
 obtain ⟨s3,s4⟩:=(p7 L p s).mp s1
 obtain ⟨V,v1,v2⟩:=F.all s s3
 obtain ⟨r,r1,r2⟩:=F.cl V v1
 have hv:V.any (c5 p) = true:=by
  cases q:V.any (c5 p) with
  | true=>rfl
  | false=>exact absurd ((mL s).mpr ⟨V,v1,q,v2⟩) s4
 obtain ⟨o,o1,o2⟩:=List.any_eq_true.mp hv
 have key:∀ u,Eu.Con 0 (ag (gU p)) s u -> Eu.Con 0 (ag (gU (ee L p))) s u:=fun u hu=>by
  induction hu with
  | refl=>exact .refl
  | step a b d ih=>
   refine ih.step b ((p7 L p _).mpr ⟨d,fun z=>?_⟩)
   obtain ⟨U,u1,u2,u3⟩:=(mL _).mp z
   rw [Fz F u1 v1 u3 ((r2 _).mpr (((r2 s).mp v2).trans (a.step b d))),hv] at u2
   cases u2
 have so:=key o ((((r2 s).mp v2).symm r1).trans ((r2 o).mp o1))
 rw [mW,List.any_eq_true.mpr ⟨o,(s2 o).mpr so,by rw [yX];exact o2⟩]
 decide
theorem qK (r:R) (h:r.length <= 30000):gz [bp r] = some (.int (count r)):=by
 have hl:r.length <= LIM:=aI (by lia)
 have hc:bF (aE (ai (af 0) (ai (af 1) aB))) cv (xOp aR (xOp dG (ah 1) (ah 0)) (xC (.int 1))) [.un,.un] (r.map prD) = some (r.map fun p=>.int (p.2 - p.1 + 1)):=bf prD _ r fun p _=>by simp [gJ]
 have hi:Bv [.lst (r.map fun p=>.int (p.2 - p.1 + 1))] = some (.int (count r)):=by
  have e:(r.map fun p=>D.int (p.2 - p.1 + 1)) = (r.map fun p=>p.2 - p.1 + 1).map D.int:=by rw [List.map_map];rfl
  rw [e]
  show (bi _).map _ = _
  rw [gY]
  rfl
 simp [gz,iP,fnO,gk,hl,hc,hi]
noncomputable def cnt (p:Pic):Int:=(p.map fun q=>count q.2).sum
noncomputable def kl (ts:List Tri):Int:=(ts.map fun t=>t.2.2 - t.2.1 + 1).sum
theorem g7 (p:Pic) (h:p.length <= 30000) (hr:∀ q ∈ p,q.2.length <= 30000):bC [am p] = some (.int (cnt p)):=by
 have hl:p.length <= LIM:=aI (by lia)
 have hc:bF (aE (ai (af 0) (ai (af 1) aB))) cv (aq gz (ab (ak 1) aj)) [.un,.un] (p.map pyD) = some (p.map fun q=>.int (count q.2)):=bf pyD _ p fun q hq=>by
  have:=qK q.2 (hr q hq)
  simp [gJ,this]
 have hi:Bv [.lst (p.map fun q=>.int (count q.2))] = some (.int (cnt p)):=by
  have e:(p.map fun q=>D.int (count q.2)) = (p.map fun q=>count q.2).map D.int:=by rw [List.map_map];rfl
  rw [e]
  show (bi _).map _ = _
  rw [gY]
  rfl
 simp [bC,fO,fnO,eD,hl,hc,hi]
theorem oJ (a b:List Tri):kl (a ++ b) = kl a + kl b:=by unfold kl;rw [List.map_append,List.sum_append]
theorem CV (t:Tri) (b:List Tri):kl (t :: b) = t.2.2 - t.2.1 + 1 + kl b:=by unfold kl;rw [List.map_cons,List.sum_cons]
theorem pe:∀ p:Pic,cnt p = kl (ag p)
 | []=>rfl
 | q :: p=>by
  rw [aJ,oJ,<- pe p]
  unfold cnt
  rw [List.map_cons,List.sum_cons]
  congr 1
  unfold kl count
  rw [List.map_map]
  rfl
noncomputable def zs (lo:Int):Nat -> List Int
 | 0=>[]
 | n + 1=>lo :: zs (lo + 1) n
theorem Ga:∀ (n:Nat) (lo:Int),(zs lo n).length = n
 | 0,_=>rfl
 | n + 1,lo=>by rw [zs,List.length_cons,Ga n]
theorem u5:∀ (n:Nat) (lo x:Int),x ∈ zs lo n ↔ lo <= x /\ x < lo + n
 | 0,lo,x=>by simp [zs]
 | n + 1,lo,x=>by
  rw [zs,List.mem_cons,u5 n]
  lia
noncomputable def jw (t:Tri):R:=(zs t.2.1 (t.2.2 + 1 - t.2.1).toNat).map fun x=>(x,t.1)
noncomputable def aN (ts:List Tri):R:=ts.flatMap jw
theorem eP (t:Tri) (b:List Tri):aN (t :: b) = jw t ++ aN b:=rfl
theorem kP (t:Tri):(jw t).length = (t.2.2 + 1 - t.2.1).toNat:=by unfold jw;rw [List.length_map,Ga]
theorem fF:∀ ts:List Tri,(∀ t ∈ ts,t.2.1 <= t.2.2) -> ((aN ts).length:Int) = kl ts
 | [],_=>rfl
 | t :: ts,h=>by
  rw [eP,List.length_append,CV,kP]
  have h1:=fF ts fun s hs=>h s (List.mem_cons_of_mem _ hs)
  have h2:=h t List.mem_cons_self
  lia
theorem a8 (ts:List Tri) (x y:Int):(x,y) ∈ aN ts ↔ ba ts x y:=by
 unfold aN
 rw [List.mem_flatMap]
 constructor
 ·rintro ⟨t,ht,h⟩
  obtain ⟨z,hz,e⟩:=List.mem_map.mp h
  cases e
  have:=(u5 _ _ _).mp hz
  exact ⟨t,ht,rfl,by lia,by lia⟩
 ·rintro ⟨t,ht,h1,h2,h3⟩
  exact ⟨t,ht,List.mem_map.mpr ⟨x,(u5 _ _ _).mpr ⟨h2,by lia⟩,by rw [h1]⟩⟩
theorem f9 {p:Pic} (c:ao p):∀ t ∈ ag p,t.2.1 <= t.2.2:=fun t ht=>by
 obtain ⟨q,hq,h⟩:=List.mem_flatMap.mp ht
 obtain ⟨s,hs,rfl⟩:=List.mem_map.mp h
 exact (c.1 q hq).1.1 s hs
theorem CK (ts:List Tri):(b6 ts).Pairwise fun p q=>p.1 < q.1 \/ (p.1 = q.1 /\ p.2.1 <= q.2.1):=by
 have h:=mO (ts.map a7)
 rw [<- lQ,List.pairwise_map] at h
 refine h.imp fun {p q} e=>?_
 have e':(if q.1 = p.1 then (if q.2.1 = p.2.1 then HT.bx [q.2.2] [p.2.2] else decide (q.2.1 < p.2.1)) else decide (q.1 < p.1)) = false:=e
 by_cases hq:q.1 = p.1
 ·rw [if_pos hq] at e'
  by_cases hr:q.2.1 = p.2.1
  ·exact .inr ⟨hq.symm,by lia⟩
  ·rw [if_neg hr] at e'
   have:=of_decide_eq_false e'
   exact .inr ⟨hq.symm,by lia⟩
 ·rw [if_neg hq] at e'
  have:=of_decide_eq_false e'
  exact .inl (by lia)
theorem yx:∀ (n:Nat) (lo:Int),(zs lo n).Nodup
 | 0,_=>.nil
 | n + 1,lo=>by
  unfold zs
  refine List.nodup_cons.mpr ⟨fun h=>?_,yx n (lo + 1)⟩
  have:=(u5 n (lo + 1) lo).mp h
  lia
theorem me (t:Tri):(jw t).Nodup:=by
 unfold jw
 refine List.pairwise_map.mpr ((yx _ _).imp fun {a b} h e=>h ?_)
 exact (Prod.mk.inj e).1
def sN (a b:Tri):Prop:=a.1 ≠ b.1 \/ a.2.2 < b.2.1
theorem qN (t:Tri) (x y:Int):(x,y) ∈ jw t ↔ t.1 = y /\ t.2.1 <= x /\ x <= t.2.2:=by
 have h:=a8 [t] x y
 have e:aN [t] = jw t:=by unfold aN;simp
 rw [e] at h
 rw [h]
 constructor
 ·rintro ⟨s,hs,k⟩
  rw [List.mem_singleton.mp hs] at k
  exact k
 ·exact fun k=>⟨t,List.mem_singleton.mpr rfl,k⟩
theorem e9:∀ {ds:List Tri},ds.Pairwise sN -> (aN ds).Nodup
 | [],_=>.nil
 | t :: ds,h=>by
  have h1:=List.pairwise_cons.mp h
  rw [eP]
  refine List.nodup_append.mpr ⟨me t,e9 h1.2,?_⟩
  rintro ⟨x,y⟩ ha ⟨x',y'⟩ hb e
  cases e
  obtain ⟨s,hs,k1,k2,k3⟩:=(a8 ds x y).mp hb
  obtain ⟨j1,j2,j3⟩:=(qN t x y).mp ha
  rcases h1.1 s hs with q | q
  ·exact q (by lia)
  ·lia
theorem Gk {ds es:List Tri} (h1:ds.Pairwise sN) (h2:es.Pairwise sN) (g1:∀ t ∈ ds,t.2.1 <= t.2.2) (g2:∀ t ∈ es,t.2.1 <= t.2.2) (h:∀ x y,ba ds x y ↔ ba es x y):kl ds = kl es:=by
 rw [<- fF ds g1,<- fF es g2]
 have:=((List.perm_ext_iff_of_nodup (e9 h1) (e9 h2)).mpr fun ⟨x,y⟩=>by rw [a8,a8];exact h x y).length_eq
 rw [this]
theorem nY:∀ {p:Pic},ao p -> (ag p).Pairwise sN
 | [],_=>.nil
 | q :: p,c=>by
  obtain ⟨⟨c1,_⟩,c2,c3⟩:=pcanon_cons.mp c
  rw [aJ]
  refine List.pairwise_append.mpr ⟨List.pairwise_map.mpr ?_,nY c3,?_⟩
  ·exact c1.2.imp fun {a b} h=>.inr (by dsimp only;lia)
  ·intro a ha b hb
   obtain ⟨s,_,rfl⟩:=List.mem_map.mp ha
   obtain ⟨u,hu,k⟩:=List.mem_flatMap.mp hb
   obtain ⟨v,_,rfl⟩:=List.mem_map.mp k
   exact .inl (by have:=c2 u hu;dsimp only;lia)
theorem Je {ds:List Tri} {p:Pic} (h1:ds.Pairwise sN) (g1:∀ t ∈ ds,t.2.1 <= t.2.2) (c:ao p) (h:∀ x y,ba ds x y ↔ br p x y):kl ds = cnt p:=by
 rw [pe]
 exact Gk h1 (nY c) g1 (f9 c) fun x y=>by rw [h,bA]
noncomputable abbrev La:=Int × Option (Int × Int)
noncomputable def eo (a:La) (t:Tri):La:=
 match a.2 with
 | none=>if t.2.1 <= t.2.2 then (a.1 + t.2.2 - t.2.1 + 1,some (t.1,t.2.2)) else a
 | some (y,h)=>if y = t.1 /\ t.2.1 <= h then (if h + 1 <= t.2.2 then (a.1 + t.2.2 - (h + 1) + 1,some (t.1,t.2.2)) else a) else (if t.2.1 <= t.2.2 then (a.1 + t.2.2 - t.2.1 + 1,some (t.1,t.2.2)) else a)
structure LnOk (a:La) (pre ds:List Tri):Prop where
 ap:ds.Pairwise sN
 gd:∀ t ∈ ds,t.2.1 <= t.2.2
 tot:a.1 = kl ds
 mem:∀ x y,ba ds x y ↔ ba pre x y
 non:a.2 = none -> pre = []
 som:∀ y h,a.2 = some (y,h) -> (∃ s ∈ pre,s.1 = y /\ s.2.2 = h) /\ ∀ d ∈ ds,d.1 < y \/ (d.1 = y /\ d.2.2 <= h)
theorem LnOk.put {a:La} {pre ds:List Tri} {t:Tri} (o:LnOk a pre ds) (lo:Int) (hg:lo <= t.2.2) (hap:∀ d ∈ ds,d.1 < t.1 \/ (d.1 = t.1 /\ d.2.2 < lo)) (hm:∀ x,t.2.1 <= x -> x < lo -> ba pre x t.1) (hl:t.2.1 <= lo):LnOk (a.1 + t.2.2 - lo + 1,some (t.1,t.2.2)) (pre ++ [t]) (ds ++ [(t.1,lo,t.2.2)]) where
 ap:=List.pairwise_append.mpr ⟨o.ap,List.pairwise_singleton ..,fun d hd e he=>by
  rw [List.mem_singleton.mp he]
  rcases hap d hd with h | h
  ·exact .inl (by dsimp only;lia)
  ·exact .inr h.2⟩
 gd:=fun d hd=>by
  rcases List.mem_append.mp hd with h | h
  ·exact o.gd d h
  ·rw [List.mem_singleton.mp h];exact hg
 tot:=by
  have:kl [(t.1,lo,t.2.2)] = t.2.2 - lo + 1:=by unfold kl;simp
  rw [oJ,this,<- o.tot]
  dsimp only
  lia
 mem:=fun x y=>by
  rw [cP,cP,o.mem,cu,cu]
  constructor
  ·rintro (h | ⟨h1,h2,h3⟩ | ⟨_,h,_⟩)
   ·exact .inl h
   ·exact .inr (.inl ⟨h1,by dsimp only at h2;lia,h3⟩)
   ·cases h
  ·rintro (h | ⟨h1,h2,h3⟩ | ⟨_,h,_⟩)
   ·exact .inl h
   ·by_cases hx:x < lo
    ·exact .inl (h1 ▸ hm x h2 hx)
    ·exact .inr (.inl ⟨h1,by dsimp only;lia,h3⟩)
   ·cases h
 non:=fun h=>by cases h
 som:=fun y h e=>by
  cases e
  refine ⟨⟨t,List.mem_append_right _ (List.mem_singleton.mpr rfl),rfl,rfl⟩,fun d hd=>?_⟩
  rcases List.mem_append.mp hd with h | h
  ·rcases hap d h with k | k
   ·exact .inl k
   ·exact .inr ⟨k.1,by lia⟩
  ·rw [List.mem_singleton.mp h]
   exact .inr ⟨rfl,Int.le_refl _⟩
theorem B8 {a:La} {pre ds:List Tri} {t:Tri} (o:LnOk a pre ds) (ht:t.2.1 <= t.2.2) (hb:∀ s ∈ pre,s.1 < t.1 \/ (s.1 = t.1 /\ s.2.1 <= t.2.1)):∃ ds',LnOk (eo a t) (pre ++ [t]) ds':=by
 obtain ⟨tot,last⟩:=a
 unfold eo
 cases last with
 | none=>
  have hp:pre = []:=o.non rfl
  dsimp only
  rw [if_pos ht]
  refine ⟨_,o.put t.2.1 ht (fun d hd=>?_) (fun x h1 h2=>by lia) (Int.le_refl _)⟩
  have:=o.mem
  exfalso
  have hd1:=o.gd d hd
  have k:=(o.mem d.2.1 d.1).mp ⟨d,hd,rfl,Int.le_refl _,hd1⟩
  rw [hp] at k
  obtain ⟨_,h,_⟩:=k
  cases h
 | some p=>
  obtain ⟨y,h⟩:=p
  obtain ⟨⟨s,hs,s1,s2⟩,hd⟩:=o.som y h rfl
  dsimp only
  have hbs:=hb s hs
  by_cases hc:y = t.1 /\ t.2.1 <= h
  ·rw [if_pos hc]
   have cov:∀ x,t.2.1 <= x -> x <= h -> ba pre x t.1:=fun x h1 h2=>⟨s,hs,by lia,by lia,by lia⟩
   by_cases hh:h + 1 <= t.2.2
   ·rw [if_pos hh]
    refine ⟨_,o.put (h + 1) hh (fun d hd'=>?_) (fun x h1 h2=>cov x h1 (by lia)) (by lia)⟩
    rcases hd d hd' with k | k
    ·exact .inl (by lia)
    ·exact .inr ⟨by lia,by lia⟩
   ·rw [if_neg hh]
    refine ⟨ds,o.ap,o.gd,o.tot,fun x y'=>?_,fun e=>(by cases e),fun y' h' e=>?_⟩
    ·rw [o.mem,cP,cu]
     constructor
     ·exact .inl
     ·rintro (k | ⟨k1,k2,k3⟩ | ⟨_,k,_⟩)
      ·exact k
      ·exact k1 ▸ cov x k2 (by lia)
      ·cases k
    ·cases e
     exact ⟨⟨s,List.mem_append_left _ hs,s1,s2⟩,hd⟩
  ·rw [if_neg hc,if_pos ht]
   refine ⟨_,o.put t.2.1 ht (fun d hd'=>?_) (fun x h1 h2=>by lia) (Int.le_refl _)⟩
   rcases hd d hd' with k | k
   ·exact .inl (by lia)
   ·by_cases e:y = t.1
    ·exact .inr ⟨by lia,by have:¬ t.2.1 <= h:=fun q=>hc ⟨e,q⟩;lia⟩
    ·exact .inl (by lia)
theorem Ij:∀ (post pre:List Tri) (a:La) (ds:List Tri),(∀ t ∈ pre ++ post,t.2.1 <= t.2.2) -> (pre ++ post).Pairwise (fun p q=>p.1 < q.1 \/ (p.1 = q.1 /\ p.2.1 <= q.2.1)) -> LnOk a pre ds -> ∃ ds',LnOk (post.foldl eo a) (pre ++ post) ds'
 | [],pre,a,ds,_,_,o=>⟨ds,by rw [List.append_nil];exact o⟩
 | t :: post,pre,a,ds,hg,hp,o=>by
  obtain ⟨ds1,o1⟩:=B8 (t:=t) o (hg t (by simp)) fun s hs=>(List.pairwise_append.mp hp).2.2 s hs t (by simp)
  have e:pre ++ t :: post = pre ++ [t] ++ post:=by simp
  rw [e] at hg hp ⊢
  exact Ij post (pre ++ [t]) (eo a t) ds1 hg hp o1
noncomputable def jc:Option (Int × Int) -> D
 | none=>.non
 | some (y,h)=>.tup [.int y,.int h]
theorem xq (s0:Sl) (a:La) (t:Tri):∃ w4,aS [s0,.sh (.int a.1),.sh (jc a.2),.sh (.int t.1),.sh (.int t.2.1),.sh (.int t.2.2)] = some (.nx [s0,.sh (.int (eo a t).1),.sh (jc (eo a t).2),.sh (.int t.1),w4,.sh (.int t.2.2)]):=by
 obtain ⟨tot,last⟩:=a
 unfold eo
 cases last with
 | none=>
  dsimp only
  by_cases h:t.2.1 <= t.2.2
  ·exact ⟨_,by rw [if_pos h];simp [aS,jc,h];rfl⟩
  ·exact ⟨_,by rw [if_neg h];simp [aS,jc,h];rfl⟩
 | some p=>
  obtain ⟨y,h⟩:=p
  dsimp only
  by_cases hc:y = t.1
  ·by_cases hd:t.2.1 <= h
   ·rw [if_pos ⟨hc,hd⟩]
    by_cases hh:h + 1 <= t.2.2
    ·exact ⟨_,by rw [if_pos hh];simp [aS,jc,hc,hd,hh];rfl⟩
    ·exact ⟨_,by rw [if_neg hh];simp [aS,jc,hc,hd,hh];rfl⟩
   ·rw [if_neg (fun q=>hd q.2)]
    by_cases hh:t.2.1 <= t.2.2
    ·exact ⟨_,by rw [if_pos hh];simp [aS,jc,hc,hd,hh];rfl⟩
    ·exact ⟨_,by rw [if_neg hh];simp [aS,jc,hc,hd,hh];rfl⟩
  ·rw [if_neg (fun q=>hc q.1)]
   by_cases hh:t.2.1 <= t.2.2
   ·exact ⟨_,by rw [if_pos hh];simp [aS,jc,hc,hh];rfl⟩
   ·exact ⟨_,by rw [if_neg hh];simp [aS,jc,hc,hh];rfl⟩
theorem iI (ts:List Tri) (hg:∀ t ∈ ts,t.2.1 <= t.2.2) (h:ts.length < 30000):fj [.lst (ts.map ar)] = some (.int (cnt (aZ ts))):=by
 have key:∃ ρ',cT (aE (ai (af 3) (ai (af 4) (ai (af 5) aB)))) aS ((b6 ts).map ar) [.sh (.lst (ts.map ar)),.sh (.int 0),.sh .non,.un,.un,.un] = some (.nx ρ') /\ ∃ va vb vc,ρ' = [.sh (.lst (ts.map ar)),.sh (.int ((b6 ts).foldl eo (0,none)).1),.sh (jc ((b6 ts).foldl eo (0,none)).2),va,vb,vc]:=by
  refine aV ar (fun pre ρ=>∃ va vb vc,ρ = [.sh (.lst (ts.map ar)),.sh (.int (pre.foldl eo (0,none)).1),.sh (jc (pre.foldl eo (0,none)).2),va,vb,vc]) _ _ ⟨_,_,_,rfl⟩ ?_
  rintro pre t post _ e ⟨va,vb,vc,rfl⟩
  obtain ⟨w4,hw⟩:=xq (.sh (.lst (ts.map ar))) (pre.foldl eo (0,none)) t
  exact ⟨_,_,rfl,.inl hw,.sh (.int t.1),w4,.sh (.int t.2.2),by rw [List.foldl_append];rfl⟩
 obtain ⟨ρ',k1,va,vb,vc,rfl⟩:=key
 have hp:=dw ts
 obtain ⟨ds,o⟩:=Ij (b6 ts) [] (0,none) [] (fun t ht=>hg t (hp.mem_iff.mp (by simpa using ht))) (by simpa using CK ts) ⟨.nil,fun _ h=>(by cases h),rfl,fun _ _=>Iff.rfl,fun _=>rfl,fun _ _ e=>(by cases e)⟩
 have c:=cO ts
 have e:((b6 ts).foldl eo (0,none)).1 = cnt (aZ ts):=by
  rw [o.tot]
  exact Je o.ap o.gd c.1 fun x y=>by rw [o.mem,List.nil_append,ue hp,c.2]
 have hb:=md ts h
 have hl:ts.length <= LIM:=aI (by lia)
 rw [e] at k1
 simp [fj,ll,fnO,jV,hl,hb,k1]
theorem qL (r:R) (by':Int) (h:r.length <= 30000):gA [bp r,.int by'] = some (bp (rF r by' by')):=by
 have hl:r.length <= LIM:=aI (by lia)
 have hc:bF (aE (ai (af 0) (ai (af 1) aB))) cv (aQ (ab (xOp aR (ah 0) (ah 2)) (ab (xOp aR (ah 1) (ah 2)) aj))) [.un,.un,.sh (.int by')] (r.map prD) = some (r.map fun p=>prD (p.1 + by',p.2 + by')):=bf prD _ r fun p _=>by simp [gJ]
 simp [gA,iQ,fnO,gq,hl,hc,rF]
noncomputable def mvP (p:Pic) (dx dy:Int):Pic:=p.map fun q=>(q.1 + dy,rF q.2 dx dx)
theorem zo (p:Pic) (dx dy:Int) (h:p.length <= 30000) (hr:∀ q ∈ p,q.2.length <= 30000):u4 [am p,.int dx,.int dy] = some (am (mvP p dx dy)):=by
 have hl:p.length <= LIM:=aI (by lia)
 have hc:bF (aE (ai (af 0) (ai (af 1) aB))) cv (aQ (ab (xOp aR (ah 0) (ah 2)) (ab (aq gA (ab (ak 1) (ab (ak 3) aj))) aj))) [.un,.un,.sh (.int dy),.sh (.int dx)] (p.map pyD) = some (p.map fun q=>pyD (q.1 + dy,rF q.2 dx dx)):=bf pyD _ p fun q hq=>by
  have:=qL q.2 dx (hr q hq)
  simp [gJ,this]
 simp [u4,qS,fnO,pd,hl,hc,mvP]
theorem Ey (r:R) (d x:Int):Mem (rF r d d) x ↔ Mem r (x - d):=by
 rw [Cf]
 constructor
 ·rintro ⟨p,hp,h1,h2⟩;exact ⟨p,hp,by lia,by lia⟩
 ·rintro ⟨p,hp,h1,h2⟩;exact ⟨p,hp,by lia,by lia⟩
theorem GU (p:Pic) (dx dy x y:Int):br (mvP p dx dy) x y ↔ br p (x - dx) (y - dy):=by
 constructor
 ·rintro ⟨q,hq,h1,h2⟩
  obtain ⟨s,hs,rfl⟩:=List.mem_map.mp hq
  dsimp only at h1 h2
  exact ⟨s,hs,by lia,(Ey _ _ _).mp h2⟩
 ·rintro ⟨s,hs,h1,h2⟩
  exact ⟨_,List.mem_map.mpr ⟨s,hs,rfl⟩,by dsimp only;lia,(Ey _ _ _).mpr h2⟩
noncomputable abbrev Blk:=Int × Int × Int × Int
noncomputable abbrev uy (b:Blk):D:=.tup [.int b.1,.int b.2.1,.int b.2.2.1,.int b.2.2.2]
def KZ (b:Blk) (dx dy:Int):Prop:=b.1 <= dx /\ dx <= b.2.2.1 /\ b.2.1 <= dy /\ dy <= b.2.2.2
def BOk (b:Blk):Prop:=b.1 <= b.2.2.1 /\ b.2.1 <= b.2.2.2
theorem JI (p:Pic) (dx dy:Int):(ag (mvP p dx dy)).length = (ag p).length:=by
 unfold mvP ag
 rw [List.length_flatMap,List.length_flatMap,List.map_map]
 congr 1
 apply List.map_congr_left
 intro q _
 simp [rF]
theorem nP (ts:List Tri):(ag (aZ ts)).length <= ts.length:=by
 have o:=jS ts
 have h1:∀ gs:Pic,(ag (gs.map fun g=>(g.1,kF g.2))).length <= (gs.map fun g=>g.2.length).sum:=by
  intro gs
  induction gs with
  | nil=>simp [ag]
  | cons g gs ih=>
   have:=CF g.2
   rw [List.map_cons,aJ,List.length_append,List.length_map,List.map_cons,List.sum_cons]
   dsimp only
   lia
 have h2:=h1 (cZ (b6 (ts.filter bN)))
 have h3:=o.len
 have h4:=(dw (ts.filter bN)).length_eq
 have h5:=List.length_filter_le bN ts
 have h6:ag (aZ ts) = ag ((cZ (b6 (ts.filter bN))).map fun g=>(g.1,kF g.2)):=rfl
 rw [h6]
 lia
theorem pA {p:Pic} (c:ao p):p.length <= (ag p).length:=by
 induction p with
 | nil=>exact Nat.le_refl _
 | cons q p ih=>
  obtain ⟨⟨_,h1⟩,_,h2⟩:=pcanon_cons.mp c
  have:=ih h2
  have:=List.length_pos_iff.mpr h1
  rw [aJ,List.length_append,List.length_map,List.length_cons]
  lia
theorem z9 {p:Pic} (c:ao p):∀ t ∈ ag p,t.2.1 <= t.2.2:=by
 intro t ht
 obtain ⟨q,hq,h⟩:=List.mem_flatMap.mp ht
 obtain ⟨s,hs,rfl⟩:=List.mem_map.mp h
 exact (c.1 q hq).1.1 s hs
noncomputable def joP (p q:Pic):Pic:=aZ (ag p ++ ag q)
theorem B4 (p q:Pic):ao (joP p q):=(cO _).1
theorem GL (p q:Pic) (x y:Int):br (joP p q) x y ↔ br p x y \/ br q x y:=by
 unfold joP
 rw [(cO _).2,cP,bA,bA]
theorem Cd (p q:Pic) (h:(ag p).length + (ag q).length < 30000):zn [am p,am q] = some (am (joP p q)):=by
 have h1:=bz p (by lia)
 have h2:=bz q (by lia)
 have hl:(ag p).length + (ag q).length <= LIM:=aI (by lia)
 have hm:=bZ (ag p ++ ag q) (by rw [List.length_append];exact h)
 rw [List.map_append] at hm
 simp [zn,u7,fnO,uu,h1,h2,KQ,hl,hm,joP]
theorem JA (p q:Pic):(ag (joP p q)).length <= (ag p).length + (ag q).length:=by
 have:=nP (ag p ++ ag q)
 rwa [List.length_append] at this
theorem nB (p:Pic) (c:ao p) (n:Nat) (hs:(2 * n + 1) * (ag p).length <= 10000):∃ q:Pic,eJ [am p,.int (n:Int)] = some (am q) /\ ao q /\ (ag q).length <= (2 * n + 1) * (ag p).length /\ ∀ x y,br q x y ↔ ∃ j:Int,0 <= j /\ j <= n /\ br p x (y - j):=by
 obtain ⟨ρ',k1,q,v2,v3,rfl,a1,a3,a4⟩:=lX (c:=bW) (m:=dc)
  (fun ρ=>∃ (q:Pic) (k:Nat) (v3:Sl),ρ = [.sh (am q),.sh (.int (n:Int)),.sh (.int (k:Int)),v3] /\ k <= n /\ ao q /\ ((ag q).length <= (k + 1) * (ag p).length \/ (k = n /\ (ag q).length <= (2 * n + 1) * (ag p).length)) /\ ∀ x y,br q x y ↔ ∃ j:Int,0 <= j /\ j <= k /\ br p x (y - j))
  (fun ρ=>match ρ with | [_,.sh (.int n),.sh (.int k),_]=>(n - k).toNat | _=>0)
  (fun ρ=>∃ (q:Pic) (v2 v3:Sl),ρ = [.sh (am q),.sh (.int (n:Int)),v2,v3] /\ ao q /\ (ag q).length <= (2 * n + 1) * (ag p).length /\ ∀ x y,br q x y ↔ ∃ j:Int,0 <= j /\ j <= n /\ br p x (y - j))
  (by
   rintro _ ⟨q,k,v3,rfl,hk,c',hsz,hm⟩
   by_cases hc:k < n
   ·right
    have hc':(k:Int) < n:=by lia
    refine ⟨by simp [bW,hc'],?_⟩
    have hsz':(ag q).length <= (k + 1) * (ag p).length:=hsz.elim id fun h=>by lia
    generalize hst:(if (n:Int) - k < (k:Int) + 1 then (n:Int) - k else (k:Int) + 1) = st
    have hst1:1 <= st /\ st <= k + 1 /\ st <= n - k /\ (st = k + 1 \/ st = n - k):=by rw [<- hst];split <;> lia
    have e1:(k + 1) * (ag p).length <= (2 * n + 1) * (ag p).length:=Nat.mul_le_mul_right _ (by lia)
    have lq:(ag q).length <= 10000:=by lia
    have rq:=pA c'
    have mv:=zo q 0 st (by lia) fun z hz=>by have:=c8 hz;lia
    have smv:=JI q 0 st
    have jo:=Cd q (mvP q 0 st) (by lia)
    have sjo:=JA q (mvP q 0 st)
    have ek:(((k + st.toNat:Nat)):Int) = (k:Int) + st:=by lia
    refine ⟨[.sh (am (joP q (mvP q 0 st))),.sh (.int (n:Int)),.sh (.int ((k + st.toNat:Nat):Int)),.sh (.int st)],?_,⟨joP q (mvP q 0 st),k + st.toNat,_,rfl,by lia,B4 _ _,?_,fun x y=>?_⟩,by dsimp only;lia⟩
    ·rw [ek]
     simp [dc,hst,mv,jo]
    ·rcases hst1.2.2.2 with e | e
     ·left
      have e2:(k + st.toNat + 1) * (ag p).length = (k + 1) * (ag p).length + (k + 1) * (ag p).length:=by
       rw [<- Nat.add_mul]
       congr 1
       lia
      lia
     ·right
      have e2:(k + 1) * (ag p).length + (k + 1) * (ag p).length <= (2 * n + 1) * (ag p).length:=by
       rw [<- Nat.add_mul]
       exact Nat.mul_le_mul_right _ (by lia)
      exact ⟨by lia,by lia⟩
    ·rw [GL,GU,hm,hm,show x - 0 = x by lia]
     constructor
     ·rintro (⟨j,j0,j1,g⟩ | ⟨j,j0,j1,g⟩)
      ·exact ⟨j,j0,by lia,g⟩
      ·exact ⟨st + j,by lia,by lia,by rwa [show y - (st + j) = y - st - j by lia]⟩
     ·rintro ⟨j,j0,j1,g⟩
      by_cases hj:j <= k
      ·exact .inl ⟨j,j0,hj,g⟩
      ·exact .inr ⟨j - st,by lia,by lia,by rwa [show y - st - (j - st) = y - j by lia]⟩
   ·left
    have ek:k = n:=by lia
    subst ek
    refine ⟨by simp [bW],q,_,_,rfl,c',?_,hm⟩
    rcases hsz with h | h
    ·have:(k + 1) * (ag p).length <= (2 * k + 1) * (ag p).length:=Nat.mul_le_mul_right _ (by lia)
     lia
    ·exact h.2)
  [.sh (am p),.sh (.int (n:Int)),.sh (.int 0),.un] ⟨p,0,.un,rfl,by lia,c,.inl (by lia),fun x y=>⟨fun h=>⟨0,by lia,by lia,by rwa [show y - 0 = y by lia]⟩,fun ⟨j,j0,j1,h⟩=>by rwa [show y - j = y by lia] at h⟩⟩
 exact ⟨q,by simp [eJ,fQ,fnO,eF,k1],a1,a3,a4⟩
noncomputable def dE (b:Blk) (t:Tri):Tri:=(t.1 + b.2.1,t.2.1 + b.1,t.2.2 + b.2.2.1)
theorem rZ {p:Pic} (c:ao p) {b:Blk} (hb:b.1 <= b.2.2.1) (x y:Int):ba ((ag p).map (dE b)) x y ↔ ∃ dx,b.1 <= dx /\ dx <= b.2.2.1 /\ br p (x - dx) (y - b.2.1):=by
 constructor
 ·rintro ⟨_,ht0,h1,h2,h3⟩
  obtain ⟨t,ht,rfl⟩:=List.mem_map.mp ht0
  have ok:=z9 c t ht
  simp only [dE] at h1 h2 h3
  refine ⟨max b.1 (x - t.2.2),by lia,by lia,?_⟩
  exact (bA _ _ _).mp ⟨t,ht,by lia,by lia,by lia⟩
 ·rintro ⟨dx,d1,d2,h⟩
  obtain ⟨t,ht,h1,h2,h3⟩:=(bA _ _ _).mpr h
  exact ⟨_,List.mem_map.mpr ⟨t,ht,rfl⟩,by simp only [dE];lia,by simp only [dE];lia,by simp only [dE];lia⟩
def GrB (p:Pic) (b:Blk) (x y:Int):Prop:=∃ dx dy,KZ b dx dy /\ br p (x - dx) (y - dy)
theorem jl (p:Pic) (c:ao p) (b:Blk) (hb:BOk b) (n:Nat) (hn:b.2.2.2 - b.2.1 = n) (hs:(2 * n + 1) * (ag p).length <= 10000):∃ ts:List Tri,bP [am p,uy b] = some (.lst (ts.map ar)) /\ (∀ t ∈ ts,t.2.1 <= t.2.2) /\ ts.length <= (2 * n + 1) * (ag p).length /\ ∀ x y,ba ts x y ↔ GrB p b x y:=by
 have e1:(ag p).length <= (2 * n + 1) * (ag p).length:=Nat.le_mul_of_pos_left _ (by lia)
 have hl:(ag p).length <= LIM:=aI (by lia)
 have h1:=bz p (by lia)
 have hc:bF (aE (ai (af 0) (ai (af 1) (ai (af 2) aB)))) cv (aQ (ab (xOp aR (ah 0) (xOp dIx (ah 3) (xC (.int 1)))) (ab (xOp aR (ah 1) (xOp dIx (ah 3) (xC (.int 0)))) (ab (xOp aR (ah 2) (xOp dIx (ah 3) (xC (.int 2)))) aj)))) [.un,.un,.un,.sh (uy b)] ((ag p).map ar) = some (((ag p).map (dE b)).map ar):=by
  rw [List.map_map]
  exact bf ar (ar ∘ dE b) (ag p) fun q hq=>by simp [gJ,atI,ixN,dE]
 have hw:∀ t ∈ (ag p).map (dE b),t.2.1 <= t.2.2:=by
  intro t ht
  obtain ⟨s,hs,rfl⟩:=List.mem_map.mp ht
  have:=z9 c s hs
  have:=hb.1
  simp only [dE]
  lia
 by_cases h0:b.2.1 = b.2.2.2
 ·refine ⟨(ag p).map (dE b),?_,hw,by rw [List.length_map];exact e1,fun x y=>?_⟩
  ·generalize ((ag p).map (dE b)).map ar = zs at hc
   simp [bP,bI,fnO,bh,h1,hl,hc,atI,ixN,h0]
  ·rw [rZ c hb.1]
   constructor
   ·rintro ⟨dx,d1,d2,h⟩
    exact ⟨dx,b.2.1,⟨d1,d2,by lia,by lia⟩,h⟩
   ·rintro ⟨dx,dy,⟨d1,d2,d3,d4⟩,h⟩
    refine ⟨dx,d1,d2,?_⟩
    rwa [show b.2.1 = dy by lia]
 ·have lw:(ag (aZ ((ag p).map (dE b)))).length <= (ag p).length:=by
   have:=nP ((ag p).map (dE b))
   rwa [List.length_map] at this
  have e2:(2 * n + 1) * (ag (aZ ((ag p).map (dE b)))).length <= (2 * n + 1) * (ag p).length:=Nat.mul_le_mul_left _ lw
  obtain ⟨q,a1,a2,a3,a4⟩:=nB (aZ ((ag p).map (dE b))) (cO _).1 n (by lia)
  have hp:=bZ ((ag p).map (dE b)) (by rw [List.length_map];lia)
  have h2:=bz q (by lia)
  have a1':eJ [am (aZ ((ag p).map (dE b))),.int (b.2.2.2 - b.2.1)] = some (am q):=by rw [hn];exact a1
  refine ⟨ag q,?_,z9 a2,by lia,fun x y=>?_⟩
  ·generalize aZ ((ag p).map (dE b)) = w at hp a1'
   generalize ((ag p).map (dE b)).map ar = zs at hc hp
   simp [bP,bI,fnO,bh,h1,hl,hc,atI,ixN,h0,hp,a1',h2]
  ·rw [bA,a4]
   constructor
   ·rintro ⟨j,j0,j1,h⟩
    rw [(cO _).2,rZ c hb.1] at h
    obtain ⟨dx,d1,d2,h⟩:=h
    exact ⟨dx,b.2.1 + j,⟨d1,d2,by lia,by lia⟩,by rwa [show y - (b.2.1 + j) = y - j - b.2.1 by lia]⟩
   ·rintro ⟨dx,dy,⟨d1,d2,d3,d4⟩,h⟩
    refine ⟨dy - b.2.1,by lia,by lia,?_⟩
    rw [(cO _).2,rZ c hb.1]
    exact ⟨dx,d1,d2,by rwa [show y - (dy - b.2.1) - b.2.1 = y - dy by lia]⟩
noncomputable def qw (b:Blk):Nat:=2 * (b.2.2.2 - b.2.1).toNat + 1
noncomputable def cS (bs:List Blk):Nat:=(bs.map qw).sum
def GrP (p:Pic) (bs:List Blk) (x y:Int):Prop:=∃ b ∈ bs,GrB p b x y
theorem mz (as bs:List Blk):cS (as ++ bs) = cS as + cS bs:=by unfold cS;rw [List.map_append,List.sum_append]
theorem jC (p:Pic) (c:ao p) (bs:List Blk) (hb:∀ b ∈ bs,BOk b) (hs:cS bs * (ag p).length <= 10000):∃ q:Pic,dU [am p,.tup (bs.map uy)] = some (am q) /\ ao q /\ (ag q).length <= cS bs * (ag p).length /\ ∀ x y,br q x y ↔ GrP p bs x y:=by
 obtain ⟨ρ',k1,ts,v3,rfl,b1,b2⟩:=aV (g:=af 3) (m:=bG) uy (fun pre ρ=>∃ (ts:List Tri) (v3:Sl),ρ = [.sh (am p),.sh (.tup (bs.map uy)),.ow (.lst (ts.map (O.sh ∘ ar))),v3] /\ ts.length <= cS pre * (ag p).length /\ ∀ x y,ba ts x y ↔ GrP p pre x y) bs [.sh (am p),.sh (.tup (bs.map uy)),.ow (.lst []),.un] ⟨[],_,rfl,by simp [cS],fun x y=>⟨fun ⟨_,h,_⟩=>(by cases h),fun ⟨_,h,_⟩=>(by cases h)⟩⟩ (by
  rintro pre b post _ e ⟨ts,v3,rfl,l1,l2⟩
  have hbb:=hb b (by rw [e];simp)
  have hh:cS pre + qw b <= cS bs:=by
   rw [e,mz]
   have:cS (b :: post) = qw b + cS post:=rfl
   lia
  have hh2:(cS pre + qw b) * (ag p).length <= cS bs * (ag p).length:=Nat.mul_le_mul_right _ hh
  rw [Nat.add_mul] at hh2
  obtain ⟨us,c1,c2,c3,c4⟩:=jl p c b hbb (b.2.2.2 - b.2.1).toNat (by have:=hbb.2;lia) (by show qw b * _ <= _;lia)
  have c3':us.length <= qw b * (ag p).length:=c3
  have hl:ts.length + us.length <= LIM:=aI (by lia)
  refine ⟨_,[.sh (am p),.sh (.tup (bs.map uy)),.ow (.lst ((ts ++ us).map (O.sh ∘ ar))),.sh (uy b)],rfl,.inl ?_,ts ++ us,_,rfl,?_,fun x y=>?_⟩
  ·simp [bG,c1,hl]
  ·rw [List.length_append,mz,Nat.add_mul]
   have:cS [b] = qw b:=by simp [cS]
   rw [this]
   lia
  ·rw [cP,l2,c4]
   unfold GrP
   simp only [List.mem_append,List.mem_singleton]
   constructor
   ·rintro (⟨z,hz,h⟩ | h)
    ·exact ⟨z,.inl hz,h⟩
    ·exact ⟨b,.inr rfl,h⟩
   ·rintro ⟨z,hz | rfl,h⟩
    ·exact .inl ⟨z,hz,h⟩
    ·exact .inr h)
 have hp:=bZ ts (by lia)
 have hl:=nP ts
 refine ⟨aZ ts,?_,(cO _).1,by lia,fun x y=>by rw [(cO _).2,b2]⟩
 simp [dU,di,fnO,cz,k1,hp,frz]
noncomputable abbrev AQ (bs:List Blk):D:=.tup (bs.map uy)
noncomputable abbrev vh (ps:List (List Blk)):D:=.tup (ps.map AQ)
noncomputable abbrev ja (N:Str) (ps:List (List Blk)):D:=.ins N ["parts"] [vh ps]
def K6 (bs:List Blk) (x y:Int):Prop:=∃ b ∈ bs,KZ b x y
noncomputable def Off:List (List Blk) -> Int -> Int -> Prop
 | [],x,y=>x = 0 /\ y = 0
 | bs :: r,x,y=>∃ u v,K6 bs u v /\ Off r (x - u) (y - v)
noncomputable def dD:List (List Blk) -> Nat
 | []=>1
 | bs :: r=>cS bs * dD r
def FOk (ps:List (List Blk)):Prop:=∀ bs ∈ ps,bs ≠ [] /\ ∀ b ∈ bs,BOk b
theorem mJ:∀ (a b:List (List Blk)),dD (a ++ b) = dD a * dD b
 | [],b=>(Nat.one_mul _).symm
 | x :: a,b=>by rw [List.cons_append,dD,dD,mJ a b,Nat.mul_assoc]
theorem B0 {bs:List Blk} (h:bs ≠ []):1 <= cS bs:=by
 cases bs with
 | nil=>exact absurd rfl h
 | cons b bs=>
  have e:cS (b :: bs) = qw b + cS bs:=rfl
  rw [e]
  unfold qw
  lia
theorem tZ:∀ {ps:List (List Blk)},FOk ps -> 1 <= dD ps
 | [],_=>Nat.le_refl _
 | bs :: r,h=>by
  have h1:=B0 (h bs List.mem_cons_self).1
  have h2:=tZ (ps:=r) fun x hx=>h x (List.mem_cons_of_mem _ hx)
  rw [dD]
  exact Nat.mul_pos h1 h2
theorem GG (p:Pic) (bs:List Blk) (x y:Int):GrP p bs x y ↔ ∃ u v,K6 bs u v /\ br p (x - u) (y - v):=by
 constructor
 ·rintro ⟨b,hb,dx,dy,h1,h2⟩
  exact ⟨dx,dy,⟨b,hb,h1⟩,h2⟩
 ·rintro ⟨dx,dy,⟨b,hb,h1⟩,h2⟩
  exact ⟨b,hb,dx,dy,h1,h2⟩
theorem mE (N:Str) (hN:NS.contains N = true) (ps:List (List Blk)) (hf:FOk ps) (p:Pic) (c:ao p) (hs:dD ps * (ag p).length <= 10000):∃ q:Pic,bL [ja N ps,am p] = some (am q) /\ ao q /\ (ag q).length <= dD ps * (ag p).length /\ ∀ x y,br q x y ↔ ∃ u v,Off ps u v /\ br p (x - u) (y - v):=by
 obtain ⟨ρ',k1,q,v2,rfl,b1,b2,b3⟩:=aV (g:=af 2) (m:=bK) AQ (fun pre ρ=>∃ (q:Pic) (v2:Sl),ρ = [.sh (ja N ps),.sh (am q),v2] /\ ao q /\ (ag q).length <= dD pre.reverse * (ag p).length /\ ∀ x y,br q x y ↔ ∃ u v,Off pre.reverse u v /\ br p (x - u) (y - v)) ps.reverse [.sh (ja N ps),.sh (am p),.un] ⟨p,_,rfl,c,by simp [dD],fun x y=>⟨fun h=>⟨0,0,⟨rfl,rfl⟩,by simpa using h⟩,fun ⟨u,v,⟨hu,hv⟩,h⟩=>by subst hu hv;simpa using h⟩⟩ (by
  rintro pre bs post _ e ⟨q,v2,rfl,cq,l1,l2⟩
  have e':ps = post.reverse ++ (bs :: pre.reverse):=by
   have:=congrArg List.reverse e
   rw [List.reverse_reverse] at this
   rw [this]
   simp
  have hbs:=hf bs (by rw [e'];simp)
  have hpost:FOk post.reverse:=fun x hx=>hf x (by rw [e'];exact List.mem_append_left _ hx)
  have hp1:=tZ hpost
  have hp2:dD (bs :: pre.reverse) * (ag p).length <= dD ps * (ag p).length:=by
   rw [e',mJ]
   exact Nat.mul_le_mul_right _ (Nat.le_mul_of_pos_left _ hp1)
  have hp3:cS bs * (ag q).length <= dD (bs :: pre.reverse) * (ag p).length:=by
   rw [dD,Nat.mul_assoc]
   exact Nat.mul_le_mul_left _ l1
  obtain ⟨q',c1,c2,c3,c4⟩:=jC q cq bs hbs.2 (by lia)
  have er:(pre ++ [bs]).reverse = bs :: pre.reverse:=by simp
  refine ⟨_,[.sh (ja N ps),.sh (am q'),.sh (AQ bs)],rfl,.inl ?_,q',_,rfl,c2,?_,fun x y=>?_⟩
  ·simp [bK,c1]
  ·rw [er]
   lia
  ·rw [er,c4,GG]
   constructor
   ·rintro ⟨u,v,h1,h2⟩
    obtain ⟨u',v',h3,h4⟩:=(l2 _ _).mp h2
    exact ⟨u + u',v + v',⟨u,v,h1,by rwa [show u + u' - u = u' by lia,show v + v' - v = v' by lia]⟩,by rwa [show x - (u + u') = x - u - u' by lia,show y - (v + v') = y - v - v' by lia]⟩
   ·rintro ⟨u,v,⟨u',v',h1,h3⟩,h2⟩
    exact ⟨u',v',h1,(l2 _ _).mpr ⟨u - u',v - v',h3,by rwa [show x - u' - (u - u') = x - u by lia,show y - v' - (v - v') = y - v by lia]⟩⟩)
 rw [List.reverse_reverse] at b2
 refine ⟨q,?_,b1,b2,fun x y=>by rw [b3,List.reverse_reverse]⟩
 have ef:C5 NS "parts" (ak 0) [.sh (ja N ps),.sh (am p),.un] = some (vh ps):=by
  show (if NS.contains N then yZ ["parts"] [vh ps] "parts" else none) = _
  rw [if_pos hN]
  rfl
 rw [List.map_reverse] at k1
 have er:uj (ab (C5 NS "parts" (ak 0)) aj) [.sh (ja N ps),.sh (am p),.un] = some (ps.map AQ).reverse:=by
  unfold uj ab aj
  rw [ef]
  rfl
 have ex:cJ [.sh (ja N ps),.sh (am p),.un] = some (.rt (am q)):=by
  unfold cJ
  have e1:d8 (uj (ab (C5 NS "parts" (ak 0)) aj)) (af 2) bK [.sh (ja N ps),.sh (am p),.un] = some (.nx [.sh (ja N ps),.sh (am q),v2]):=by
   unfold d8
   rw [er]
   exact k1
  rw [bo e1]
  rfl
 exact Lq (n:=3) (ds:=[ja N ps,am p]) ex
noncomputable abbrev uz (l u r d:Int):Blk:=(-l,-u,r,d)
theorem nH (l u r d:Int) (h1:0 <= l) (h2:0 <= u) (h3:0 <= r) (h4:0 <= d):nG [.int l,.int u,.int r,.int d] = some (vh [[uz l u r d]]):=by
 have hm:∃ m:Int,Ar [.int l,.int u,.int r,.int d] = some (.int m) /\ 0 <= m:=by
  exact ⟨min l (min u (min r d)),rfl,Int.le_min.mpr ⟨h1,Int.le_min.mpr ⟨h2,Int.le_min.mpr ⟨h3,h4⟩⟩⟩⟩
 obtain ⟨m,hm,m0⟩:=hm
 have m1:¬ m < 0:=by lia
 simp [nG,GI,hm,m1]
theorem AM (l u r d:Int) (x y:Int):Off [[uz l u r d]] x y ↔ (-l <= x /\ x <= r) /\ -u <= y /\ y <= d:=by
 constructor
 ·rintro ⟨u',v',⟨b,hb,h⟩,h1,h2⟩
  rw [List.mem_singleton.mp hb] at h
  obtain ⟨k1,k2,k3,k4⟩:=h
  dsimp only at k1 k2 k3 k4
  exact ⟨⟨by lia,by lia⟩,by lia,by lia⟩
 ·rintro ⟨⟨h1,h2⟩,h3,h4⟩
  exact ⟨x,y,⟨_,List.mem_singleton.mpr rfl,h1,h2,h3,h4⟩,by lia,by lia⟩
theorem wo (p:Pic) (c:ao p) (h:(ag p).length <= 1000) (r d:Int) (h1:0 <= r) (h2:0 <= d) (h3:d <= 1):∃ q:Pic,bL [ja "Box" [[uz 0 0 r d]],am p] = some (am q) /\ ao q /\ (ag q).length <= 3000 /\ ∀ x y,br q x y ↔ ∃ u v,((0 <= u /\ u <= r) /\ 0 <= v /\ v <= d) /\ br p (x - u) (y - v):=by
 have hp:dD [[uz 0 0 r d]] <= 3:=by
  have e:dD [[uz 0 0 r d]] = qw (uz 0 0 r d):=by simp [dD,cS]
  rw [e]
  unfold qw
  dsimp only
  lia
 have hm:dD [[uz 0 0 r d]] * (ag p).length <= 3 * 1000:=Nat.mul_le_mul hp h
 obtain ⟨q,a1,a2,a3,a4⟩:=mE "Box" (by decide) [[uz 0 0 r d]] (fun bs hb=>by
  rw [List.mem_singleton.mp hb]
  refine ⟨by simp,fun b hb'=>?_⟩
  rw [List.mem_singleton.mp hb']
  exact ⟨by dsimp only;lia,by dsimp only;lia⟩) p c (by lia)
 refine ⟨q,a1,a2,by lia,fun x y=>?_⟩
 rw [a4]
 constructor
 ·rintro ⟨u,v,ho,hm⟩
  have:=(AM 0 0 r d u v).mp ho
  exact ⟨u,v,⟨⟨by lia,by lia⟩,by lia,by lia⟩,hm⟩
 ·rintro ⟨u,v,ho,hm⟩
  exact ⟨u,v,(AM 0 0 r d u v).mpr ⟨⟨by lia,by lia⟩,by lia,by lia⟩,hm⟩
noncomputable def iV (t:Tri):List Tri:=[(t.1,t.2.1,t.2.2 + 1),(t.1 + 1,t.2.1,t.2.2 + 1)]
noncomputable def uK (t:Tri):List Tri:=[(t.1,t.2.1,t.2.2),(t.1 + 1,t.2.1,t.2.2)]
noncomputable def CZ (t:Tri):List Tri:=[(t.1,t.2.1,t.2.2 + 1)]
noncomputable def crn (p:Pic):Int:=cnt (aZ ((ag p).flatMap iV))
noncomputable def flt (p:Pic):Int:=cnt (aZ ((ag p).flatMap uK))
noncomputable def upr (p:Pic):Int:=cnt (aZ ((ag p).flatMap CZ))
theorem d6 (f:Tri -> List Tri) (ts:List Tri) (x y:Int):ba (ts.flatMap f) x y ↔ ∃ t ∈ ts,ba (f t) x y:=by
 constructor
 ·rintro ⟨s,hs,h⟩
  obtain ⟨t,ht,hs'⟩:=List.mem_flatMap.mp hs
  exact ⟨t,ht,s,hs',h⟩
 ·rintro ⟨t,ht,s,hs,h⟩
  exact ⟨s,List.mem_flatMap.mpr ⟨t,ht,hs⟩,h⟩
theorem dr  (c:ao p) {x y u v:Int} (h:br p (x - u) (y - v)):∃ t ∈ ag p,t.1 = y - v /\ t.2.1 <= x - u /\ x - u <= t.2.2:=(bA p _ _).mpr h
theorem Hm {p:Pic} (c:ao p) (x y:Int):ba ((ag p).flatMap iV) x y ↔ ∃ u v,((0 <= u /\ u <= 1) /\ 0 <= v /\ v <= 1) /\ br p (x - u) (y - v):=by
 rw [d6]
 constructor
 ·rintro ⟨t,ht,h⟩
  have g:=f9 c t ht
  have pm:∀ u v:Int,t.1 = y - v -> t.2.1 <= x - u -> x - u <= t.2.2 -> br p (x - u) (y - v):=fun u v h1 h2 h3=>(bA p _ _).mp ⟨t,ht,h1,h2,h3⟩
  simp only [iV,cu] at h
  rcases h with ⟨h1,h2,h3⟩ | ⟨h1,h2,h3⟩ | ⟨_,h,_⟩
  ·by_cases e:x = t.2.2 + 1
   ·exact ⟨1,0,by lia,pm 1 0 (by lia) (by lia) (by lia)⟩
   ·exact ⟨0,0,by lia,pm 0 0 (by lia) (by lia) (by lia)⟩
  ·by_cases e:x = t.2.2 + 1
   ·exact ⟨1,1,by lia,pm 1 1 (by lia) (by lia) (by lia)⟩
   ·exact ⟨0,1,by lia,pm 0 1 (by lia) (by lia) (by lia)⟩
  ·cases h
 ·rintro ⟨u,v,h,hm⟩
  obtain ⟨t,ht,k1,k2,k3⟩:=dr c hm
  refine ⟨t,ht,?_⟩
  simp only [iV,cu]
  by_cases e:v = 0
  ·exact .inl ⟨by lia,by lia,by lia⟩
  ·exact .inr (.inl ⟨by lia,by lia,by lia⟩)
theorem Gz {p:Pic} (c:ao p) (x y:Int):ba ((ag p).flatMap uK) x y ↔ ∃ u v,((0 <= u /\ u <= 0) /\ 0 <= v /\ v <= 1) /\ br p (x - u) (y - v):=by
 rw [d6]
 constructor
 ·rintro ⟨t,ht,h⟩
  have pm:∀ u v:Int,t.1 = y - v -> t.2.1 <= x - u -> x - u <= t.2.2 -> br p (x - u) (y - v):=fun u v h1 h2 h3=>(bA p _ _).mp ⟨t,ht,h1,h2,h3⟩
  simp only [uK,cu] at h
  rcases h with ⟨h1,h2,h3⟩ | ⟨h1,h2,h3⟩ | ⟨_,h,_⟩
  ·exact ⟨0,0,by lia,pm 0 0 (by lia) (by lia) (by lia)⟩
  ·exact ⟨0,1,by lia,pm 0 1 (by lia) (by lia) (by lia)⟩
  ·cases h
 ·rintro ⟨u,v,h,hm⟩
  obtain ⟨t,ht,k1,k2,k3⟩:=dr c hm
  refine ⟨t,ht,?_⟩
  simp only [uK,cu]
  by_cases e:v = 0
  ·exact .inl ⟨by lia,by lia,by lia⟩
  ·exact .inr (.inl ⟨by lia,by lia,by lia⟩)
theorem HN {p:Pic} (c:ao p) (x y:Int):ba ((ag p).flatMap CZ) x y ↔ ∃ u v,((0 <= u /\ u <= 1) /\ 0 <= v /\ v <= 0) /\ br p (x - u) (y - v):=by
 rw [d6]
 constructor
 ·rintro ⟨t,ht,h⟩
  have g:=f9 c t ht
  have pm:∀ u v:Int,t.1 = y - v -> t.2.1 <= x - u -> x - u <= t.2.2 -> br p (x - u) (y - v):=fun u v h1 h2 h3=>(bA p _ _).mp ⟨t,ht,h1,h2,h3⟩
  simp only [CZ,cu] at h
  rcases h with ⟨h1,h2,h3⟩ | ⟨_,h,_⟩
  ·by_cases e:x = t.2.2 + 1
   ·exact ⟨1,0,by lia,pm 1 0 (by lia) (by lia) (by lia)⟩
   ·exact ⟨0,0,by lia,pm 0 0 (by lia) (by lia) (by lia)⟩
  ·cases h
 ·rintro ⟨u,v,h,hm⟩
  obtain ⟨t,ht,k1,k2,k3⟩:=dr c hm
  refine ⟨t,ht,?_⟩
  simp only [CZ,cu]
  exact .inl ⟨by lia,by lia,by lia⟩
theorem za {p:Pic} (c:ao p) (h:(ag p).length <= 1000) (r d:Int) (h1:0 <= r) (h2:0 <= d) (h3:d <= 1) {ts:List Tri} (hm:∀ x y,ba ts x y ↔ ∃ u v,((0 <= u /\ u <= r) /\ 0 <= v /\ v <= d) /\ br p (x - u) (y - v)):∃ q:Pic,bL [ja "Box" [[uz 0 0 r d]],am p] = some (am q) /\ bC [am q] = some (.int (cnt (aZ ts))):=by
 obtain ⟨q,a1,a2,a3,a4⟩:=wo p c h r d h1 h2 h3
 refine ⟨q,a1,?_⟩
 have e:aZ ts = q:=iT a2 fun x y=>by rw [hm,a4]
 rw [e]
 exact g7 q (by have:=pA a2;lia) fun s hs=>by have:=c8 hs;lia
theorem D7:¬ (Str.ofString "greater" = Str.ofString "parts"):=by decide +kernel
theorem uX (p:Pic) (c:ao p) (h:(ag p).length <= 1000):nw [am p] = some (.int (crn p)):=by
 obtain ⟨q,a1,a2⟩:=za c h 1 1 (by lia) (by lia) (by lia) (Hm c)
 have b:=nH 0 0 1 1 (by lia) (by lia) (by lia) (by lia)
 simp [nw,ln,fnO,jX,D7,b,a1,a2,crn]
theorem zm (p:Pic) (c:ao p) (h:(ag p).length <= 1000):uY [am p] = some (.int (upr p + flt p)):=by
 obtain ⟨q,a1,a2⟩:=za c h 1 0 (by lia) (by lia) (by lia) (HN c)
 obtain ⟨q',a3,a4⟩:=za c h 0 1 (by lia) (by lia) (by lia) (Gz c)
 have b:=nH 0 0 1 0 (by lia) (by lia) (by lia) (by lia)
 have b':=nH 0 0 0 1 (by lia) (by lia) (by lia) (by lia)
 simp [uY,qQ,fnO,pb,D7,b,b',a1,a2,a3,a4,upr,flt]
theorem nD (p:Pic) (c:ao p) (h:(ag p).length <= 1000):gG [am p] = some (.int (crn p - (upr p + flt p) + cnt p)):=by
 have a1:=uX p c h
 have a2:=zm p c h
 have a3:=g7 p (by have:=pA c;lia) fun s hs=>by have:=c8 hs;lia
 simp [gG,fT,fnO,eG,a1,a2,a3]
theorem vG:∀ {p:Pic},ao p -> (ag p).Pairwise fun s t=>s.1 < t.1 \/ (s.1 = t.1 /\ s.2.2 + 2 <= t.2.1)
 | [],_=>.nil
 | q :: p,c=>by
  obtain ⟨⟨c1,_⟩,c2,c3⟩:=pcanon_cons.mp c
  rw [aJ]
  refine List.pairwise_append.mpr ⟨List.pairwise_map.mpr ?_,vG c3,?_⟩
  ·exact c1.2.imp fun {a b} h=>.inr ⟨rfl,h⟩
  ·intro a ha b hb
   obtain ⟨s,_,rfl⟩:=List.mem_map.mp ha
   obtain ⟨u,hu,k⟩:=List.mem_flatMap.mp hb
   obtain ⟨v,_,rfl⟩:=List.mem_map.mp k
   exact .inl (c2 u hu)
theorem gx {p:Pic} (c:ao p):Eu.Lay (ag p) where
 nd:=List.nodup_iff_pairwise_ne.mpr (List.Pairwise.imp_of_mem (fun {a b} ha _ h e=>by
  have:=z8 c ha
  subst e
  lia) (vG c))
 ok a ha:=z8 c ha
 sp a ha b hb hn e:=by rcases Eu.vq (vG c) a ha b hb hn with h | h <;> lia
theorem pT {α:Type} (f:α -> Tri):∀ {l:List α},l.Nodup -> (∀ a ∈ l,∀ b ∈ l,a ≠ b -> (f a).1 ≠ (f b).1 \/ (f a).2.2 < (f b).2.1 \/ (f b).2.2 < (f a).2.1) -> (aN (l.map f)).Nodup
 | [],_,_=>.nil
 | t :: l,hn,h=>by
  obtain ⟨n1,n2⟩:=List.nodup_cons.mp hn
  rw [List.map_cons,eP]
  refine List.nodup_append.mpr ⟨me _,pT f n2 fun a ha b hb=>h a (List.mem_cons_of_mem _ ha) b (List.mem_cons_of_mem _ hb),?_⟩
  rintro ⟨x,y⟩ ha ⟨x',y'⟩ hb e
  cases e
  obtain ⟨s,hs,k1,k2,k3⟩:=(a8 _ x y).mp hb
  obtain ⟨b,hb',rfl⟩:=List.mem_map.mp hs
  obtain ⟨j1,j2,j3⟩:=(qN _ x y).mp ha
  have:=h t List.mem_cons_self b (List.mem_cons_of_mem _ hb') fun e=>n1 (e ▸ hb')
  lia
theorem ii {α:Type} (f:α -> Tri) (l:List α) (x y:Int):ba (l.map f) x y ↔ ∃ a ∈ l,(f a).1 = y /\ (f a).2.1 <= x /\ x <= (f a).2.2:=by
 constructor
 ·rintro ⟨t,ht,h⟩
  obtain ⟨a,ha,rfl⟩:=List.mem_map.mp ht
  exact ⟨a,ha,h⟩
 ·rintro ⟨a,ha,h⟩
  exact ⟨_,List.mem_map.mpr ⟨a,ha,rfl⟩,h⟩
theorem pj {α:Type} (f g:α -> Tri):∀ {l:List α},(∀ a ∈ l,(f a).2.1 <= (f a).2.2 + 1 /\ (g a).2.1 = (f a).2.1 /\ (g a).2.2 = (f a).2.2 + 1) -> (aN (l.map g)).length = (aN (l.map f)).length + l.length
 | [],_=>rfl
 | a :: l,h=>by
  have ih:=pj f g fun b hb=>h b (List.mem_cons_of_mem _ hb)
  obtain ⟨h1,h2,h3⟩:=h a List.mem_cons_self
  rw [List.map_cons,List.map_cons,eP,eP,List.length_append,List.length_append,kP,kP,ih,h2,h3,List.length_cons]
  lia
theorem xQ {α:Type} (f:α -> Bool):∀ l:List α,(l.filter f).length + (l.filter fun t=>!f t).length = l.length
 | []=>rfl
 | a :: l=>by
  have:=xQ f l
  rw [List.filter_cons,List.filter_cons]
  cases f a <;> simp <;> lia
theorem gR (ts:List Tri):∃ u:R,u.Nodup /\ (∀ x y,(x,y) ∈ u ↔ ba ts x y) /\ cnt (aZ ts) = u.length:=by
 obtain ⟨c,h⟩:=cO ts
 exact ⟨aN (ag (aZ ts)),e9 (nY c),fun x y=>by rw [a8,bA,h],by rw [fF _ (f9 c),pe]⟩
theorem Jd {ts a:List Tri} (ha:(aN a).Nodup) (h:∀ x y,ba ts x y ↔ ba a x y):cnt (aZ ts) = (aN a).length:=by
 obtain ⟨u,u1,u2,u3⟩:=gR ts
 rw [u3,((List.perm_ext_iff_of_nodup u1 ha).mpr fun ⟨x,y⟩=>by rw [u2,h,a8]).length_eq]
theorem wx {ts a b i:List Tri} (ha:(aN a).Nodup) (hb:(aN b).Nodup) (hi:(aN i).Nodup) (h1:∀ x y,ba ts x y ↔ ba a x y \/ ba b x y) (h2:∀ x y,ba i x y ↔ ba a x y /\ ba b x y):cnt (aZ ts) + (aN i).length = (aN a).length + (aN b).length:=by
 obtain ⟨u,u1,u2,u3⟩:=gR ts
 have e1:=((List.perm_ext_iff_of_nodup hi (hb.filter fun z=>decide (z ∈ aN a))).mpr fun hpt0=>by
  obtain ⟨x,y⟩:=hpt0
  rw [List.mem_filter,decide_eq_true_eq,a8,a8,a8,h2]
  exact And.comm).length_eq
 have nd:(aN a ++ (aN b).filter fun z=>!decide (z ∈ aN a)).Nodup:=List.nodup_append.mpr ⟨ha,hb.filter _,fun s hs t ht e=>by
  subst e
  have:=(List.mem_filter.mp ht).2
  rw [decide_eq_true hs] at this
  cases this⟩
 have e2:=((List.perm_ext_iff_of_nodup u1 nd).mpr fun hpt0=>by
  obtain ⟨x,y⟩:=hpt0
  rw [List.mem_append,List.mem_filter,u2,h1,<- a8 a,<- a8 b]
  by_cases z:(x,y) ∈ aN a <;> simp [z]).length_eq
 have e3:=xQ (fun z=>decide (z ∈ aN a)) (aN b)
 rw [List.length_append] at e2
 rw [u3]
 lia
noncomputable def exT (d e:Int) (t:Tri):Tri:=(t.1 + d,t.2.1,t.2.2 + e)
noncomputable def mtT (e:Int) (q:Tri × Tri):Tri:=(q.2.1,if q.1.2.1 < q.2.2.1 then q.2.2.1 else q.1.2.1,(if q.1.2.2 < q.2.2.2 then q.1.2.2 else q.2.2.2) + e)
theorem mt_lo {q:Tri × Tri} {e x:Int}:(mtT e q).2.1 <= x ↔ q.1.2.1 <= x /\ q.2.2.1 <= x:=by
 unfold mtT
 dsimp only
 split <;> lia
theorem mt_hi {q:Tri × Tri} {e x:Int}:x <= (mtT e q).2.2 ↔ x <= q.1.2.2 + e /\ x <= q.2.2.2 + e:=by
 unfold mtT
 dsimp only
 split <;> lia
section
variable {p:Pic} (c:ao p)
include c
theorem wP (d:Int) {e:Int} (he:e <= 1):(aN ((ag p).map (exT d e))).Nodup:=pT _ (gx c).nd fun a ha b hb hn=>by
 unfold exT
 dsimp only
 by_cases h:a.1 = b.1
 ·have:=(gx c).sp a ha b hb hn h
  lia
 ·lia
theorem Ip {e:Int} (he:e <= 1):(aN ((Eu.edg 1 (ag p)).map (mtT e))).Nodup:=pT _ (Eu.gT (gx c).nd) fun a ha b hb hn=>by
 obtain ⟨a1,a2,a3,_,_⟩:=Eu.mem_edg.mp ha
 obtain ⟨b1,b2,b3,_,_⟩:=Eu.mem_edg.mp hb
 by_cases h:a.2.1 = b.2.1
 ·right
  have l1:=(mt_lo (q:=a) (e:=e)).mp (Int.le_refl _)
  have l2:=(mt_lo (q:=b) (e:=e)).mp (Int.le_refl _)
  have m1:=(mt_hi (q:=a) (e:=e)).mp (Int.le_refl _)
  have m2:=(mt_hi (q:=b) (e:=e)).mp (Int.le_refl _)
  by_cases h1:a.1 = b.1
  ·have:=(gx c).sp a.2 a2 b.2 b2 (fun h2=>hn (Prod.ext h1 h2)) h
   lia
  ·have:=(gx c).sp a.1 a1 b.1 b1 h1 (by lia)
   lia
 ·exact .inl h
theorem EE {e:Int} (h0:0 <= e) (h1:e <= 1) (x y:Int):ba ((Eu.edg 1 (ag p)).map (mtT e)) x y ↔ ba ((ag p).map (exT 0 e)) x y /\ ba ((ag p).map (exT 1 e)) x y:=by
 rw [ii,ii,ii]
 constructor
 ·rintro ⟨q,hq,k1,k2,k3⟩
  obtain ⟨a1,a2,a3,_,_⟩:=Eu.mem_edg.mp hq
  have k1:q.2.1 = y:=k1
  rw [mt_lo] at k2
  rw [mt_hi] at k3
  exact ⟨⟨q.2,a2,by show q.2.1 + 0 = y;lia,k2.2,k3.2⟩,⟨q.1,a1,by show q.1.1 + 1 = y;lia,k2.1,k3.1⟩⟩
 ·rintro ⟨⟨t,ht,k1,k2,k3⟩,⟨s,hs,j1,j2,j3⟩⟩
  have k1:t.1 + 0 = y:=k1
  have j1:s.1 + 1 = y:=j1
  have k2:t.2.1 <= x:=k2
  have j2:s.2.1 <= x:=j2
  have k3:x <= t.2.2 + e:=k3
  have j3:x <= s.2.2 + e:=j3
  exact ⟨(s,t),Eu.mem_edg.mpr ⟨hs,ht,by dsimp only;lia,by dsimp only;lia,by dsimp only;lia⟩,by show t.1 = y;lia,mt_lo.mpr ⟨j2,k2⟩,mt_hi.mpr ⟨j3,k3⟩⟩
theorem Cm:crn p - (upr p + flt p) + cnt p = (ag p).length - (Eu.edg 1 (ag p)).length:=by
 have ex2:∀ (e:Int) (g:Tri -> List Tri),(∀ t,g t = [exT 0 e t,exT 1 e t]) -> ∀ x y,ba ((ag p).flatMap g) x y ↔ ba ((ag p).map (exT 0 e)) x y \/ ba ((ag p).map (exT 1 e)) x y:=fun e g hg x y=>by
  rw [d6,ii,ii]
  constructor
  ·rintro ⟨t,ht,s,hs,k⟩
   rw [hg] at hs
   rcases List.mem_cons.mp hs with rfl | hs
   ·exact .inl ⟨t,ht,k⟩
   ·rw [List.mem_singleton.mp hs] at k
    exact .inr ⟨t,ht,k⟩
  ·rintro (⟨t,ht,k⟩ | ⟨t,ht,k⟩)
   ·exact ⟨t,ht,exT 0 e t,by rw [hg];simp,k⟩
   ·exact ⟨t,ht,exT 1 e t,by rw [hg];simp,k⟩
 have i1:crn p + _ = _:=wx (wP c 0 (Int.le_refl 1)) (wP c 1 (Int.le_refl 1)) (Ip c (Int.le_refl 1)) (ex2 1 iV fun t=>by unfold iV exT;rw [Int.add_zero]) (EE c (by lia) (Int.le_refl 1))
 have i0:flt p + _ = _:=wx (wP c 0 (e:=0) (by lia)) (wP c 1 (e:=0) (by lia)) (Ip c (e:=0) (by lia)) (ex2 0 uK fun t=>by unfold uK exT;rw [Int.add_zero,Int.add_zero]) (EE c (Int.le_refl 0) (by lia))
 have iu:upr p = _:=Jd (wP c 0 (Int.le_refl 1)) fun x y=>by
  rw [d6,ii]
  constructor
  ·rintro ⟨t,ht,s,hs,k⟩
   rw [List.mem_singleton.mp hs] at k
   exact ⟨t,ht,by show t.1 + 0 = y;rw [Int.add_zero];exact k.1,k.2⟩
  ·rintro ⟨t,ht,k1,k2⟩
   have k1:t.1 + 0 = y:=k1
   exact ⟨t,ht,(t.1,t.2.1,t.2.2 + 1),List.mem_singleton.mpr rfl,by dsimp only;lia,k2⟩
 have ic:cnt p = ((aN ((ag p).map (exT 0 0))).length:Int):=by
  rw [show (ag p).map (exT 0 0) = ag p from by
   conv=>rhs;rw [<- List.map_id (ag p)]
   exact List.map_congr_left fun t _=>by unfold exT;rw [Int.add_zero,Int.add_zero];rfl,fF _ (f9 c),pe]
 have ok:=fun t ht=>f9 c t ht
 have l0:=pj (exT 0 0) (exT 0 1) (l:=ag p) fun t ht=>⟨by have:=ok t ht;show t.2.1 <= t.2.2 + 0 + 1;lia,rfl,by show t.2.2 + 1 = t.2.2 + 0 + 1;lia⟩
 have l1:=pj (exT 1 0) (exT 1 1) (l:=ag p) fun t ht=>⟨by have:=ok t ht;show t.2.1 <= t.2.2 + 0 + 1;lia,rfl,by show t.2.2 + 1 = t.2.2 + 0 + 1;lia⟩
 have l2:=pj (mtT 0) (mtT 1) (l:=Eu.edg 1 (ag p)) fun q hq=>by
  obtain ⟨a1,a2,a3,a4,a5⟩:=Eu.mem_edg.mp hq
  have:=ok _ a1
  have:=ok _ a2
  refine ⟨mt_lo.mpr ?_,rfl,by show _ + 1 = _ + 0 + 1;lia⟩
  have:(mtT 0 q).2.2 = (if q.1.2.2 < q.2.2.2 then q.1.2.2 else q.2.2.2):=Int.add_zero _
  rw [this]
  split <;> lia
 lia
end
noncomputable abbrev owT (ts:List Tri):Sl:=.ow (.lst (ts.map (O.sh ∘ ar)))
noncomputable def sdT (t:Tri):List Tri:=[(2 * t.1,t.2.1,t.2.2 + 1),(2 * t.1 - 1,t.2.1,t.2.2),(2 * t.1 + 2 - 1,t.2.1,t.2.2)]
theorem EI (s0 s5:Sl) (A B C:List Tri) (t:Tri) (v8:Sl) (hA:A.length <= 5000) (hB:B.length <= 5000) (hC:C.length <= 5000) :
  ∃ w8,eK [s0,owT A,owT B,owT C,.sh (.int t.1),s5,.sh (.int t.2.1),.sh (.int t.2.2),v8] = some (.nx [s0,owT (A ++ iV t),owT (B ++ sdT t),owT (C ++ [t]),.sh (.int t.1),s5,.sh (.int t.2.1),.sh (.int t.2.2),w8]):=by
 have a1:A.length < LIM:=bH (by lia)
 have a2:A.length + 1 < LIM:=bH (by lia)
 have b1:B.length < LIM:=bH (by lia)
 have b2:B.length + 1 < LIM:=bH (by lia)
 have b3:B.length + 1 + 1 < LIM:=bH (by lia)
 have b4:B.length + 2 < LIM:=bH (by lia)
 have c1:C.length < LIM:=bH (by lia)
 have l2:2 <= LIM:=aI (by lia)
 have l3:3 <= LIM:=aI (by lia)
 have m2:∀ z:Int,oQ (.int 2) (.int z) = some (.int (2 * z)):=fun z=>dg (.inl (by decide))
 refine ⟨.sh (.int 1),?_⟩
 simp [eK,jm,cT,iV,sdT,a1,a2,b1,b2,b3,b4,c1,l2,l3,m2]
theorem GY (s0:Sl) (A B C:List Tri) (y:Int) (r:R) (v6 v7 v8:Sl) (hA:A.length + 2 * r.length <= 5000) (hB:B.length + 3 * r.length <= 5000) (hC:C.length + r.length <= 5000) :
  ∃ w6 w7 w8,eL [s0,owT A,owT B,owT C,.sh (.int y),.sh (bp r),v6,v7,v8] = some (.nx [s0,owT (A ++ (r.map fun s=>(y,s)).flatMap iV),owT (B ++ (r.map fun s=>(y,s)).flatMap sdT),owT (C ++ r.map fun s=>(y,s)),.sh (.int y),.sh (bp r),w6,w7,w8]):=by
 obtain ⟨ρ',k1,w7,w8,w9,rfl⟩:=aV (g:=aE (ai (af 6) (ai (af 7) aB))) (m:=eK) prD (fun pre ρ=>∃ w6 w7 w8,ρ = [s0,owT (A ++ (pre.map fun s=>(y,s)).flatMap iV),owT (B ++ (pre.map fun s=>(y,s)).flatMap sdT),owT (C ++ pre.map fun s=>(y,s)),.sh (.int y),.sh (bp r),w6,w7,w8]) r [s0,owT A,owT B,owT C,.sh (.int y),.sh (bp r),v6,v7,v8] ⟨v6,v7,v8,by simp⟩ (by
  rintro pre s post _ e ⟨w7,w8,w9,rfl⟩
  have hl:=congrArg List.length e
  rw [List.length_append,List.length_cons] at hl
  have l1:∀ (f:Tri -> List Tri) (k:Nat),(∀ t,(f t).length = k) -> ((pre.map fun s=>(y,s)).flatMap f).length = k * pre.length:=fun f k hf=>by
   clear hl e
   induction pre with
   | nil=>rfl
   | cons a l ih=>rw [List.map_cons,List.flatMap_cons,List.length_append,hf,ih,List.length_cons,Nat.mul_succ];lia
  have p1:=l1 iV 2 fun _=>rfl
  have p2:=l1 sdT 3 fun _=>rfl
  obtain ⟨u9,hu⟩:=EI s0 (.sh (bp r)) (A ++ (pre.map fun s=>(y,s)).flatMap iV) (B ++ (pre.map fun s=>(y,s)).flatMap sdT) (C ++ pre.map fun s=>(y,s)) (y,s) w9 (by rw [List.length_append,p1];lia) (by rw [List.length_append,p2];lia) (by rw [List.length_append,List.length_map];lia)
  exact ⟨_,_,rfl,.inl hu,.sh (.int s.1),.sh (.int s.2),u9,by simp⟩)
 refine ⟨w7,w8,w9,?_⟩
 have hr:r.length <= LIM:=aI (by lia)
 simp only [eL]
 simp [hr,k1]
theorem qt (f:Tri -> List Tri) (k:Nat) (hf:∀ t,(f t).length = k):∀ ts:List Tri,(ts.flatMap f).length = k * ts.length
 | []=>rfl
 | a :: l=>by rw [List.flatMap_cons,List.length_append,hf,qt f k hf l,List.length_cons,Nat.mul_succ];lia
theorem CH (p:Pic):cnt (aZ ((ag p).flatMap sdT)) = upr p + flt p:=by
 obtain ⟨u,u1,u2,u3⟩:=gR ((ag p).flatMap sdT)
 obtain ⟨a,a1,a2,a3⟩:=gR ((ag p).flatMap CZ)
 obtain ⟨b,b1,b2,b3⟩:=gR ((ag p).flatMap uK)
 have na:(a.map fun z=>((z.1,2 * z.2):Int × Int)).Nodup:=List.pairwise_map.mpr (a1.imp fun {s t} h e=>h (by injection e with e1 e2;exact Prod.ext e1 (by lia)))
 have nb:(b.map fun z=>((z.1,2 * z.2 - 1):Int × Int)).Nodup:=List.pairwise_map.mpr (b1.imp fun {s t} h e=>h (by injection e with e1 e2;exact Prod.ext e1 (by lia)))
 have nd:((a.map fun z=>((z.1,2 * z.2):Int × Int)) ++ b.map fun z=>((z.1,2 * z.2 - 1):Int × Int)).Nodup:=List.nodup_append.mpr ⟨na,nb,fun s hs t ht e=>by
  obtain ⟨s',_,rfl⟩:=List.mem_map.mp hs
  obtain ⟨t',_,rfl⟩:=List.mem_map.mp ht
  injection e with _ e
  lia⟩
 have hl:=((List.perm_ext_iff_of_nodup u1 nd).mpr fun hpt0=>by
  obtain ⟨x,y⟩:=hpt0
  rw [u2,List.mem_append,List.mem_map,List.mem_map,d6]
  constructor
  ·rintro ⟨t,ht,s,hs,k1,k2,k3⟩
   rcases List.mem_cons.mp hs with rfl | hs
   ·exact .inl ⟨(x,t.1),(a2 x t.1).mpr ((d6 _ _ _ _).mpr ⟨t,ht,(t.1,t.2.1,t.2.2 + 1),by simp [CZ],rfl,k2,k3⟩),Prod.ext rfl k1⟩
   rcases List.mem_cons.mp hs with rfl | hs
   ·exact .inr ⟨(x,t.1),(b2 x t.1).mpr ((d6 _ _ _ _).mpr ⟨t,ht,(t.1,t.2.1,t.2.2),by simp [uK],rfl,k2,k3⟩),Prod.ext rfl k1⟩
   ·rw [List.mem_singleton.mp hs] at k1 k2 k3
    exact .inr ⟨(x,t.1 + 1),(b2 x (t.1 + 1)).mpr ((d6 _ _ _ _).mpr ⟨t,ht,(t.1 + 1,t.2.1,t.2.2),by simp [uK],rfl,k2,k3⟩),Prod.ext rfl (by dsimp only at k1 ⊢;lia)⟩
  ·rintro (⟨⟨x',y'⟩,h,e⟩ | ⟨⟨x',y'⟩,h,e⟩)
   ·obtain ⟨t,ht,s,hs,k1,k2,k3⟩:=(d6 _ _ _ _).mp ((a2 x' y').mp h)
    injection e with e1 e2
    rw [List.mem_singleton.mp hs] at k1 k2 k3
    dsimp only at k1 k2 k3 e1 e2
    exact ⟨t,ht,(2 * t.1,t.2.1,t.2.2 + 1),by simp [sdT],by dsimp only;lia,by dsimp only;lia,by dsimp only;lia⟩
   ·obtain ⟨t,ht,s,hs,k1,k2,k3⟩:=(d6 _ _ _ _).mp ((b2 x' y').mp h)
    injection e with e1 e2
    rcases List.mem_cons.mp hs with rfl | hs
    ·dsimp only at k1 k2 k3 e1 e2
     exact ⟨t,ht,(2 * t.1 - 1,t.2.1,t.2.2),by simp [sdT],by dsimp only;lia,by dsimp only;lia,by dsimp only;lia⟩
    ·rw [List.mem_singleton.mp hs] at k1 k2 k3
     dsimp only at k1 k2 k3 e1 e2
     exact ⟨t,ht,(2 * t.1 + 2 - 1,t.2.1,t.2.2),by simp [sdT],by dsimp only;lia,by dsimp only;lia,by dsimp only;lia⟩).length_eq
 rw [List.length_append,List.length_map,List.length_map] at hl
 unfold upr flt
 lia
theorem iJ (p:Pic) (c:ao p) (h:(ag p).length <= 1000):gZ [am p] = some (.int (crn p - (upr p + flt p) + cnt p)):=by
 obtain ⟨ρ',k1,v5,v6,v7,v8,v9,rfl⟩:=aV (g:=aE (ai (af 4) (ai (af 5) aB))) (m:=eL) pyD (fun pre ρ=>∃ v4 v5 v6 v7 v8,ρ = [.sh (am p),owT ((ag pre).flatMap iV),owT ((ag pre).flatMap sdT),owT (ag pre),v4,v5,v6,v7,v8]) p [.sh (am p),owT [],owT [],owT [],.un,.un,.un,.un,.un] ⟨.un,.un,.un,.un,.un,rfl⟩ (by
  rintro pre q post _ e ⟨v5,v6,v7,v8,v9,rfl⟩
  have h2:(ag pre).length + q.2.length <= 1000:=by
   have h:=h
   rw [e,fh,aJ,List.length_append,List.length_append,List.length_map] at h
   lia
  obtain ⟨w7,w8,w9,hw⟩:=GY (.sh (am p)) ((ag pre).flatMap iV) ((ag pre).flatMap sdT) (ag pre) q.1 q.2 v7 v8 v9 (by rw [qt iV 2 fun _=>rfl];lia) (by rw [qt sdT 3 fun _=>rfl];lia) (by lia)
  refine ⟨_,_,rfl,.inl hw,.sh (.int q.1),.sh (bp q.2),w7,w8,w9,?_⟩
  rw [fh]
  simp [ag])
 have hpl:p.length <= 5000:=by have:=pA c;lia
 have g:=f9 c
 have gd:∀ f:Tri -> List Tri,(∀ t,∀ s ∈ f t,s.2.1 = t.2.1 /\ t.2.2 <= s.2.2) -> ∀ t ∈ (ag p).flatMap f,t.2.1 <= t.2.2:=fun f hf t ht=>by
  obtain ⟨s,hs,k⟩:=List.mem_flatMap.mp ht
  have:=g s hs
  have:=hf s t k
  lia
 have L1:=iI ((ag p).flatMap iV) (gd _ fun t s hs=>by
  rcases List.mem_cons.mp hs with rfl | hs
  ·exact ⟨rfl,by dsimp only;lia⟩
  ·rw [List.mem_singleton.mp hs];exact ⟨rfl,by dsimp only;lia⟩) (by rw [qt iV 2 fun _=>rfl];lia)
 have L2:=iI ((ag p).flatMap sdT) (gd _ fun t s hs=>by
  rcases List.mem_cons.mp hs with rfl | hs
  ·exact ⟨rfl,by dsimp only;lia⟩
  rcases List.mem_cons.mp hs with rfl | hs
  ·exact ⟨rfl,Int.le_refl _⟩
  ·rw [List.mem_singleton.mp hs];exact ⟨rfl,Int.le_refl _⟩) (by rw [qt sdT 3 fun _=>rfl];lia)
 have L3:=iI (ag p) g (by lia)
 rw [CH] at L2
 rw [Cu c] at L3
 have L1':fj [.lst (((ag p).flatMap iV).map ar)] = some (.int (crn p)):=L1
 generalize (ag p).flatMap iV = A at *
 generalize (ag p).flatMap sdT = B at *
 generalize ag p = C at *
 have ds:∀ ts:List Tri,O.ds (ts.map (O.sh ∘ ar)) = ts.map ar:=fun ts=>by
  induction ts with
  | nil=>rfl
  | cons t ts ih=>simpa using ih
 have hp:p.length <= LIM:=aI (by lia)
 simp only [owT,List.map_nil] at k1
 simp [gZ,lm,fnO,jW,hp,k1,frz,ds,L1',L2,L3]
end P
namespace Eu
theorem Au (hi:Int):∀ (r:Rw1) (lo:Int),∃ g ∈ co hi lo r,g.2 = hi
 | [],lo=>⟨(lo,hi),List.mem_cons_self,rfl⟩
 | s :: r,lo=>let ⟨g,h1,h2⟩:=Au hi r (s.2 + 1);⟨g,List.mem_cons_of_mem _ h1,h2⟩
theorem DF (hi:Int):∀ (r:Rw1) (lo:Int),∀ g ∈ co hi lo r,(∃ q ∈ r,g.1 = q.2 + 1) \/ g.1 = lo
 | [],lo,g,h=>.inr (by rw [List.mem_singleton.mp h])
 | s :: r,lo,g,h=>by
  rcases List.mem_cons.mp h with rfl | h
  ·exact .inr rfl
  ·rcases DF hi r (s.2 + 1) g h with ⟨q,h1,h2⟩ | h1
   ·exact .inl ⟨q,List.mem_cons_of_mem _ h1,h2⟩
   ·exact .inl ⟨s,List.mem_cons_self,h1⟩
end Eu
namespace P
open PySem L2 M Rw
theorem xn {hi:Int}:∀ {r:R} {lo:Int},aP r -> (∀ s ∈ r,lo < s.1 /\ s.2 < hi) -> lo <= hi -> Eu.In hi lo r
 | [],_,_,_,h=>h
 | s :: r,lo,c,h,_=>by
  obtain ⟨c1,c2,c3⟩:=canon_cons.mp c
  have h1:=h s List.mem_cons_self
  exact ⟨h1.1,c1,xn c3 (fun q hq=>⟨by have:=c2 q hq;lia,(h q (List.mem_cons_of_mem _ hq)).2⟩) (by lia)⟩
theorem wA {hi:Int}:∀ (r:R) (s:Int × Int),Eu.In hi (s.2 + 1) r -> ∀ g,g ∈ Eu.co hi (s.2 + 1) r /\ g.2 ≠ hi ↔ g ∈ aU (s :: r)
 | [],s,_,g=>⟨fun h=>absurd (by rw [List.mem_singleton.mp h.1]) h.2,fun h=>by rw [xj] at h;cases h⟩
 | q :: t,s,hpt0,g=>by
  obtain ⟨h1,h2,h3⟩:=hpt0
  have:=h3.le
  rw [dB,List.mem_cons,<- wA t q h3 g]
  show g ∈ (_ :: _) /\ _ ↔ _
  rw [List.mem_cons]
  constructor
  ·rintro ⟨h | h,k⟩
   ·exact .inl h
   ·exact .inr ⟨h,k⟩
  ·rintro (rfl | ⟨h,k⟩)
   ·exact ⟨.inl rfl,by dsimp only;lia⟩
   ·exact ⟨.inr h,k⟩
theorem uB {lo hi:Int} {r:R} (h:Eu.In hi lo r) (g:Int × Int):g ∈ aU r ↔ g ∈ Eu.co hi lo r /\ ¬ (g.1 = lo \/ g.2 = hi):=by
 cases r with
 | nil=>exact ⟨fun h=>(by cases h),fun h=>absurd (.inl (by rw [List.mem_singleton.mp h.1])) h.2⟩
 | cons s r=>
  obtain ⟨h1,h2,h3⟩:=h
  rw [<- wA r s h3 g]
  show _ ↔ g ∈ (_ :: _) /\ _
  rw [List.mem_cons]
  constructor
  ·rintro ⟨a,b⟩
   have:=(Eu.mf h3 g a).1
   exact ⟨.inr a,by lia⟩
  ·rintro ⟨rfl | a,b⟩
   ·exact absurd (.inl rfl) b
   ·exact ⟨a,fun e=>b (.inr e)⟩
theorem CT {r:R} (c:aP r) (a b:Int):cU r a b = true ↔ (∃ s ∈ r,s.1 <= a) /\ ∃ q ∈ r,b <= q.2:=by
 cases r with
 | nil=>exact ⟨fun h=>(by cases h),fun ⟨⟨_,h,_⟩,_⟩=>by cases h⟩
 | cons s t=>
  rcases List.eq_nil_or_concat (s :: t) with e | ⟨r0,q,e⟩
  ·cases e
  rw [List.concat_eq_append] at e
  rw [z7 s t q a b (by rw [e];simp),Bool.and_eq_true,decide_eq_true_eq,decide_eq_true_eq]
  have c2:=(canon_cons.mp c).2.1
  have c1:=(canon_cons.mp c).1
  have hq:q ∈ s :: t:=by rw [e];simp
  rw [e] at c
  have c4:=canon_snoc.mp c
  constructor
  ·exact fun h=>⟨⟨s,List.mem_cons_self,h.1⟩,q,hq,h.2⟩
  ·rintro ⟨⟨s',h1,h2⟩,q',h3,h4⟩
   constructor
   ·rcases List.mem_cons.mp h1 with rfl | h1
    ·exact h2
    ·have:=c2 s' h1;lia
   ·rw [e] at h3
    rcases List.mem_append.mp h3 with h3 | h3
    ·have:=c4.2.2 q' h3;have:=c4.2.1;lia
    ·rw [List.mem_singleton.mp h3] at h4;exact h4
theorem CS {lo hi:Int} {r:R} (c:aP r) (h:Eu.In hi lo r) {a b:Int} (ha:a <= hi) (hb:lo <= b):cU r a b = false ↔ ∃ o ∈ Eu.co hi lo r,(o.1 = lo \/ o.2 = hi) /\ a <= o.2 /\ o.1 <= b:=by
 rw [<- Bool.not_eq_true,CT c]
 constructor
 ·intro hn
  obtain ⟨g,g1,g2⟩:=Eu.uC hi r lo
  obtain ⟨k,k1,k2⟩:=Eu.Au hi r lo
  by_cases h1:a <= g.2
  ·exact ⟨g,g1,.inl g2,h1,by lia⟩
  by_cases h2:k.1 <= b
  ·exact ⟨k,k1,.inr k2,by lia,h2⟩
  refine absurd ⟨?_,?_⟩ hn
  ·rcases Eu.uD g g1 with ⟨s,s1,s2⟩ | e
   ·exact ⟨s,s1,by lia⟩
   ·lia
  ·rcases Eu.DF hi r lo k k1 with ⟨q,q1,q2⟩ | e
   ·exact ⟨q,q1,by lia⟩
   ·lia
 ·rintro ⟨o,o1,o2,o3,o4⟩ ⟨⟨s,s1,s2⟩,q,q1,q2⟩
  have hs:=h.mem s s1
  have hq:=h.mem q q1
  rcases o2 with e | e
  ·rcases Eu.uA h s s1 o o1 with z | z <;> lia
  ·rcases Eu.uA h q q1 o o1 with z | z <;> lia
theorem uN {p:Pic} (c:ao p) (t:Tri):t ∈ ag (gU p) ↔ t.2 ∈ aU (aG p t.1):=by
 rw [jI]
 constructor
 ·rintro ⟨g,hg,e,h⟩
  rw [e,hJ c hg]
  exact h
 ·intro h
  by_cases k:∃ g ∈ p,g.1 = t.1
  ·obtain ⟨g,hg,e⟩:=k
   rw [<- e,hJ c hg] at h
   exact ⟨g,hg,e.symm,h⟩
  ·rw [fW fun g hg e=>k ⟨g,hg,e⟩] at h
   cases h
theorem far (ts:List Tri):∃ M:Int,0 < M /\ ∀ t ∈ ts,(-M < t.1 /\ t.1 < M) /\ -M < t.2.1 /\ t.2.2 < M:=by
 induction ts with
 | nil=>exact ⟨1,by lia,fun _ h=>by cases h⟩
 | cons t ts ih=>
  obtain ⟨M,h0,h⟩:=ih
  refine ⟨M + t.1.natAbs + t.2.1.natAbs + t.2.2.natAbs + 1,by lia,fun s hs=>?_⟩
  rcases List.mem_cons.mp hs with rfl | hs
  ·lia
  ·have:=h s hs;lia
theorem BH {p:Pic} (c:ao p) {Ws Gs:List (List Tri)} (FW:Eu.Fam 1 (ag p) Ws) (FG:Eu.Fam 0 (ag (gU p)) Gs):(Ws.length:Int) - ((Gs.filter fun W=>!W.any (c5 p)).length:Nat) = crn p - (upr p + flt p) + cnt p:=by
 rw [Cm c]
 obtain ⟨M,h0,hM⟩:=far (ag p)
 have hrow:∀ y,∀ s ∈ aG p y,(-M < y /\ y < M) /\ -M < s.1 /\ s.2 < M:=fun y s hs=>hM (y,s) ((j6 c y s).mp hs)
 have hIn:∀ y,Eu.In M (-M) (aG p y):=fun y=>xn (jO c y) (fun s hs=>(hrow y s hs).2) (by lia)
 have en:-M + ((2 * M).toNat:Int) = M:=by lia
 have emp:∀ y,¬ (-M < y /\ y < M) -> aG p y = []:=fun y hy=>List.eq_nil_iff_forall_not_mem.mpr fun s hs=>hy (hrow y s hs).1
 have hS:∀ t,t ∈ ag p ↔ t ∈ Eu.lay (aG p) (-M) ((2 * M).toNat + 1):=fun t=>by
  rw [Eu.aM,j6 c]
  exact ⟨fun h=>by have:=hM t h;exact ⟨by lia,by lia,h⟩,fun h=>h.2.2⟩
 have gin:∀ g ∈ ag (gU p),-M < g.1 /\ g.1 < M:=fun g hg=>by
  obtain ⟨q,hq,e,h⟩:=(jI p g).mp hg
  have hne:=(c.1 q hq).2
  cases hr:q.2 with
  | nil=>exact absurd hr hne
  | cons s r=>
   have:=hM (q.1,s) (List.mem_flatMap.mpr ⟨q,hq,List.mem_map.mpr ⟨s,by rw [hr];exact List.mem_cons_self,rfl⟩⟩)
   lia
 have hG:∀ t,t ∈ ag (gU p) ↔ t ∈ Eu.lay (Eu.cf (-M) M (aG p)) (-M) ((2 * M).toNat + 1) /\ ¬ Eu.Di (-M) M t:=fun t=>by
  rw [Eu.aM]
  constructor
  ·intro h
   have h1:=gin t h
   obtain ⟨h2,h3⟩:=(uB (hIn t.1) t.2).mp ((uN c t).mp h)
   exact ⟨⟨by lia,by lia,h2⟩,h3⟩
  ·rintro ⟨⟨_,_,h2⟩,h3⟩
   exact (uN c t).mpr ((uB (hIn t.1) t.2).mpr ⟨h2,h3⟩)
 have E:=Eu.Lk hIn (-M) (2 * M).toNat (emp _ (by lia)) (emp _ (by lia)) hS hG (op:=c5 p) (fun g hg=>by
  have h1:=gin g hg
  have h2:=(uB (hIn g.1) g.2).mp ((uN c g).mp hg)
  have h3:=Eu.mf (hIn g.1) g.2 h2.1
  have so:∀ y,cU (aG p y) g.2.1 g.2.2 = false ↔ _:=fun y=>CS (jO c y) (hIn y) (a:=g.2.1) (b:=g.2.2) (by lia) (by lia)
  unfold c5
  rw [Bool.not_eq_true',Bool.and_eq_false_iff,so,so]
  constructor
  ·rintro (⟨o,o1,o2,o3,o4⟩ | ⟨o,o1,o2,o3,o4⟩)
   ·exact ⟨(g.1 - 1,o),(Eu.aM _ _ _ _).mpr ⟨by dsimp only;lia,by dsimp only;lia,o1⟩,o2,.inl (by dsimp only;lia),by dsimp only;lia,by dsimp only;lia⟩
   ·exact ⟨(g.1 + 1,o),(Eu.aM _ _ _ _).mpr ⟨by dsimp only;lia,by dsimp only;lia,o1⟩,o2,.inr rfl,by dsimp only;lia,by dsimp only;lia⟩
  ·rintro ⟨o,o1,o2,o3 | o3,o4,o5⟩
   ·have:=((Eu.aM _ _ _ _).mp o1).2.2
    rw [show o.1 = g.1 - 1 by lia] at this
    exact .inl ⟨o.2,this,o2,by lia,by lia⟩
   ·have:=((Eu.aM _ _ _ _).mp o1).2.2
    rw [o3] at this
    exact .inr ⟨o.2,this,o2,by lia,by lia⟩) FW FG
 have l1:=((List.perm_ext_iff_of_nodup (gx c).nd (Eu.zh hIn (-M) ((2 * M).toNat + 1)).nd).mpr hS).length_eq
 have l2:=((List.perm_ext_iff_of_nodup (Eu.gT (k:=1) (gx c).nd) (Eu.gT (k:=1) (Eu.zh hIn (-M) ((2 * M).toNat + 1)).nd)).mpr fun e=>by rw [Eu.mem_edg,Eu.mem_edg,hS,hS]).length_eq
 rw [l1,l2]
 exact E
theorem qJ (W:Wk) (h:W.length <= 400):bR [az W] = some (am (aZ (W.map (·.1)))):=by
 have hl:W.length <= LIM:=aI (by lia)
 have hp:=bZ (W.map (·.1)) (by rw [List.length_map];lia)
 have hc:bF (aE (ai (af 0) (ai (af 1) (ai (af 2) (ai (af 3) aB))))) cv (aQ (ab (ak 0) (ab (ak 1) (ab (ak 2) aj)))) [.un,.un,.un,.un] (W.map bX) = some ((W.map (·.1)).map ar):=by
  rw [bf bX (fun w=>ar w.1) W fun w _=>by simp [gJ],List.map_map]
  rfl
 simp only [List.map_map] at hp hc
 simp [bR,cV,fnO,bO,mN,hl,hc,hp]
theorem lF (p:Pic) (c:ao p) (hp:p.length <= 160) (hn:(ag p).length <= 160):∃ Ws:List Wk,jE [am p] = some (.lst (Ws.map az)) /\ Ws.length <= 160 /\ (∀ W ∈ Ws,∃ s ∈ ag p,IsWalk 1 p s W) /\ Eu.Fam 1 (ag p) (y0 Ws):=by
 obtain ⟨Ws,h,k⟩:=jd (k:=1) (by lia) p c hp hn
 exact ⟨Ws,by simp [jE,nK,fnO,l8,h],k⟩
noncomputable def num (p:Pic):Int:=crn p - (upr p + flt p) + cnt p
theorem C4 (p:Pic) (Gs:List Wk):(Gs.filter (ga p)).length = ((y0 Gs).filter fun W=>!W.any (c5 p)).length:=by
 rw [List.filter_map,List.length_map]
 congr 1
 exact List.filter_congr fun W _=>mW p W
noncomputable def yn (L:List Tri) (p:Pic):Pic:=(p.map fun g=>(g.1,g.2.filter fun z=>decide (((g.1,z):Tri) ∈ L))).filter iH
theorem rR (L:List Tri) {p:Pic} (c:ao p):ao (yn L p):=by
 unfold yn
 refine ⟨fun q hq=>?_,List.Pairwise.sublist List.filter_sublist (by rw [List.pairwise_map];exact c.2)⟩
 obtain ⟨h1,h2⟩:=List.mem_filter.mp hq
 obtain ⟨g,hg,rfl⟩:=List.mem_map.mp h1
 have cg:=(c.1 g hg).1
 exact ⟨⟨fun s hs=>cg.1 s (List.mem_filter.mp hs).1,List.Pairwise.sublist List.filter_sublist cg.2⟩,by simpa [iH] using h2⟩
theorem xx (L:List Tri) (p:Pic) (t:Tri):t ∈ ag (yn L p) ↔ t ∈ ag p /\ t ∈ L:=by
 unfold yn
 rw [fi]
 constructor
 ·intro h
  obtain ⟨q,hq,hs⟩:=List.mem_flatMap.mp h
  obtain ⟨z,hz,rfl⟩:=List.mem_map.mp hs
  obtain ⟨g,hg,rfl⟩:=List.mem_map.mp hq
  obtain ⟨h1,h2⟩:=List.mem_filter.mp hz
  exact ⟨List.mem_flatMap.mpr ⟨g,hg,List.mem_map.mpr ⟨z,h1,rfl⟩⟩,of_decide_eq_true h2⟩
 ·rintro ⟨h,hL⟩
  obtain ⟨g,hg,hs⟩:=List.mem_flatMap.mp h
  obtain ⟨z,hz,rfl⟩:=List.mem_map.mp hs
  exact List.mem_flatMap.mpr ⟨_,List.mem_map.mpr ⟨g,hg,rfl⟩,List.mem_map.mpr ⟨z,List.mem_filter.mpr ⟨hz,decide_eq_true hL⟩,rfl⟩⟩
theorem G2 {s:Tri}:∀ {Fs:List (List Tri)},Fs.Pairwise (fun V W=>∀ t ∈ V,t ∉ W) -> (∀ U ∈ Fs,s ∈ U) -> (∃ U ∈ Fs,s ∈ U) -> Fs.length = 1
 | [],_,_,⟨_,h,_⟩=>by cases h
 | [_],_,_,_=>rfl
 | U :: V :: Fs,h,k,_=>absurd (k V (List.mem_cons_of_mem _ List.mem_cons_self)) ((List.pairwise_cons.mp h).1 V List.mem_cons_self s (k U List.mem_cons_self))
theorem Dq {p:Pic} (c:ao p) (hp:p.length <= 160) (hn:(ag p).length <= 160) {W:Wk} {s:Tri} (hs:s ∈ ag p) (w:IsWalk 1 p s W):∃ A:Pic,bR [az W] = some (am A) /\ ao A /\ A.length <= 160 /\ (ag A).length <= 160 /\ ∀ Fs,Eu.Fam 1 (ag A) Fs -> Fs.length = 1:=by
 have hl:=w.toWOk.le hs
 have mem:∀ t,t ∈ ag (yn (W.map (·.1)) p) ↔ Eu.Con 1 (ag p) s t:=fun t=>by
  rw [xx,w.all]
  exact ⟨fun h=>h.2,fun h=>⟨h.mem hs,h⟩⟩
 have e:aZ (W.map (·.1)) = yn (W.map (·.1)) p:=iT (rR _ c) fun x y=>by
  rw [<- bA]
  constructor
  ·rintro ⟨t,ht,k⟩
   exact ⟨t,(mem t).mpr ((w.all t).mp ht),k⟩
  ·rintro ⟨t,ht,k⟩
   exact ⟨t,(w.all t).mpr ((mem t).mp ht),k⟩
 have ca:=rR (W.map (·.1)) c
 refine ⟨_,by rw [<- e];exact qJ W (by lia),ca,?_,?_,fun Fs F=>?_⟩
 ·have:=List.length_filter_le iH (p.map fun g=>(g.1,g.2.filter fun z=>decide (((g.1,z):Tri) ∈ W.map (·.1))))
  rw [List.length_map] at this
  unfold yn
  lia
 ·have:=nM (gx ca).nd (m:=ag p) fun t ht=>((xx _ _ t).mp ht).1
  lia
 ·have key:∀ u,Eu.Con 1 (ag p) s u -> Eu.Con 1 (ag (yn (W.map (·.1)) p)) s u:=fun u hu=>by
   induction hu with
   | refl=>exact .refl
   | step a b d ih=>exact ih.step b ((mem _).mpr (a.step b d))
  have sA:=(mem s).mpr .refl
  refine G2 (s:=s) F.dj (fun U hU=>?_) (F.all s sA)
  obtain ⟨r,r1,r2⟩:=F.cl U hU
  exact (r2 s).mpr ((key r ((mem r).mp r1)).symm sA)
theorem vK (p:Pic) (c:ao p) (hp:p.length <= 160) (hn:(ag p).length <= 160):∃ Hs:List Wk,eI [am p] = some (.lst (Hs.map az)) /\ Hs.length <= 160 /\ ∀ Fs,Eu.Fam 1 (ag p) Fs -> (Fs.length:Int) - Hs.length = num p:=by
 obtain ⟨Gs,a1,a2,_,G⟩:=nq p c hp hn
 refine ⟨_,a1,Nat.le_trans (List.length_filter_le _ _) a2,fun Fs F=>?_⟩
 rw [C4]
 exact BH c F G
theorem Em {p:Pic} (c:ao p) (hp:p.length <= 160) (hn:(ag p).length <= 160) {W:Wk} {s:Tri} (hs:s ∈ ag p) (w:IsWalk 1 p s W) (s0 s1 s2 s3 s4 v6:Sl):∃ w6,lZ [s0,s1,s2,s3,s4,.sh (az W),v6] = some (.nx [s0,s1,s2,s3,s4,.sh (az W),w6]):=by
 obtain ⟨A,h1,cA,hA,nA,one⟩:=Dq c hp hn hs w
 obtain ⟨Ws,p1,_,_,F⟩:=lF A cA hA nA
 obtain ⟨Hs,q1,_,q3⟩:=vK A cA hA nA
 have e1:=one _ F
 have e2:=q3 _ F
 rw [e1] at e2
 have e3:Ws.length = 1:=by rw [<- e1];exact (List.length_map ..).symm
 have hN:=iJ A cA (by lia)
 rw [show crn A - (upr A + flt A) + cnt A = num A from rfl] at hN
 refine ⟨.sh (am A),?_⟩
 have e4:(1:Int) - Hs.length = num A:=by lia
 generalize am A = D0 at *
 generalize hX:Ws.map az = X at *
 have hXl:X.length = 1:=by rw [<- hX,List.length_map];exact e3
 generalize hY:Hs.map az = Y at *
 have hYl:Y.length = Hs.length:=by rw [<- hY,List.length_map]
 rw [<- hYl] at e4
 generalize az W = Q at *
 simp [lZ,h1,p1,q1,hN,hXl,e4]
theorem Ev (ns:List Int) (h:ns.length <= 63):Im [.scr (ns.map D.int)] = some (.bl true):=by
 obtain ⟨p,h1,c,h2,h3⟩:=nz ns h
 obtain ⟨Ws,p1,p2,p3,F⟩:=lF p c (by lia) h3
 obtain ⟨Hs,q1,_,q3⟩:=vK p c (by lia) h3
 have e1:=q3 _ F
 rw [show (y0 Ws).length = Ws.length from List.length_map ..] at e1
 have hN:=iJ p c (by lia)
 have hT:=nD p c (by lia)
 rw [show crn p - (upr p + flt p) + cnt p = num p from rfl] at hN hT
 obtain ⟨q,f1,cq,f2,f3,f4⟩:=BU p c (by lia) h3
 obtain ⟨Xs,r1,_,_,G⟩:=lF q cq f2 f3
 obtain ⟨Gs,s1,_,s3⟩:=vK q cq f2 f3
 have e2:=s3 _ G
 rw [show (y0 Xs).length = Xs.length from List.length_map ..] at e2
 rw [f4] at s1
 have hG:Gs = []:=by
  have:([]:List D) = Gs.map az:=by injection s1 with z;injection z
  exact List.map_eq_nil_iff.mp this.symm
 subst hG
 have hM:=iJ q cq (by lia)
 rw [show crn q - (upr q + flt q) + cnt q = num q from rfl] at hM
 have e3:(Xs.length:Int) = num q:=by simpa using e2
 obtain ⟨ρ',k1,v5,v6,rfl⟩:=aV (g:=af 5) (m:=lZ) az (fun _ ρ=>∃ v5 v6,ρ = [.sh (.scr (ns.map D.int)),.sh (am p),.sh (.lst (Ws.map az)),.sh (.int ((Ws.length:Int) - Hs.length)),.sh (am q),v5,v6]) Ws [.sh (.scr (ns.map D.int)),.sh (am p),.sh (.lst (Ws.map az)),.sh (.int ((Ws.length:Int) - Hs.length)),.sh (am q),.un,.un] ⟨_,_,rfl⟩ (by
  rintro pre W post _ e ⟨v5,v6,rfl⟩
  obtain ⟨s,hs,w⟩:=p3 W (by rw [e];simp)
  obtain ⟨w6,hw⟩:=Em c (by lia) h3 hs w (.sh (.scr (ns.map D.int))) (.sh (am p)) (.sh (.lst (Ws.map az))) (.sh (.int ((Ws.length:Int) - Hs.length))) (.sh (am q)) v6
  exact ⟨_,_,rfl,.inl hw,_,_,rfl⟩)
 have d1:dEq true (.lst []) (.lst []) = some (.bl false):=DI true rfl
 have hWl:(Ws.map az).length = Ws.length:=List.length_map ..
 have hHl:(Hs.map az).length = Hs.length:=List.length_map ..
 have hXl:(Xs.map az).length = Xs.length:=List.length_map ..
 generalize am p = P0 at *
 generalize am q = P1 at *
 generalize Ws.map az = A at *
 generalize Hs.map az = B at *
 generalize Xs.map az = C at *
 rw [<- hWl,<- hHl] at e1 k1
 rw [<- hXl] at e3
 rw [e1] at k1
 simp [Im,zu,fnO,Aq,h1,p1,q1,hN,hT,e1,f1,r1,hM,e3,f4,d1,mN,k1]
end P
namespace L2
open PySem PySem.Spec PyProof.Rows M
structure Fd (K:W.Frag) (x:Str) (st:Stmt) (f:Addr) (fd:FuncData):Prop where
 a:W.nsIn K mainGlobals x = some (some (.ref f))
 F:Fun K x x st f fd
structure Bk (P:Program) (w:World) (K:W.Frag) (mg:Str -> Option Value) (base:Heap) (n:Nat) (x:Str) (ps:List Str) (sp:Sp) (f:Addr) (fd:FuncData):Prop where
 G:FnOk P w K mg base CX0 n f fd ps sp
 m:mg x = some (.ref f)
 k:W.keepIn K (.ref f) = true
 b:Binds K fd ps []
structure Bm (P:Program) (w:World) (K:W.Frag) (mg:Str -> Option Value) (base:Heap) (n:Nat) (x:Str) (Ns ps:List Str) (sp:Sp) (f:Addr) (fd:FuncData):Prop where
 G:FnOk P w K mg base CX0 n f fd ps sp
 b:Binds K fd ps []
 cm:ul K Ns fun C=>Cls K C /\ Meth K C x f
structure Bc (P:Program) (w:World) (K:W.Frag) (mg:Str -> Option Value) (base:Heap) (n:Nat) (x:Str) (ps:List Str) (sp:Sp) (c f:Addr) (fd:FuncData):Prop where
 G:FnOk P w K mg base CX0 n f fd ps sp
 b:Binds K fd ps []
 n:W.nsIn K mainGlobals x = some (some (.ref c))
 M:Mk K c f
 g:mg x = some (.ref c)
structure Bb (P:Program) (w:World) (K:W.Frag) (mg:Str -> Option Value) (base:Heap) (n:Nat) (x:Str) (ps:List Str) (sp:Sp) (c f:Addr) (fd:FuncData):Prop where
 G:FnOk P w K mg base CX0 n f fd ps sp
 b:Binds K fd ps []
 cf:ClsFn K c "__init__" f
 g:mg x = some (.ref c)
section
variable {X:Cx} {a b e o:Expr} {es:List Expr} {ta tb te:TE} {t:TA} {p pos pos' apos:Pos} {x:Str} {n k:Nat} {ps:List Str} {sp:Sp} {c f:Addr} {fd:FuncData}
theorem pgn (i:Nat) (hN:X.N.Nodup) (hi:X.N[i]? = some x:=by rfl) (hx:Loc X.env.scope x:=by exact .inl rfl) (hf:X.fn x = true \/ X.env.scope.names.lookup x = some .local:=by first | exact .inl rfl | exact .inr rfl | assumption):PG X (.Name x pos) (gv i):=pz hN hi hx hf
theorem pgc {N:List Str} {scope:Scope} {z:CxZ} (i:Nat) (hN:N.Nodup:=by decide +kernel) (hi:(cxC X N scope z).N[i]? = some x:=by rfl) (hx:Loc (cxC X N scope z).env.scope x:=by exact .inl rfl) (hf:(cxC X N scope z).fn x = true \/ (cxC X N scope z).env.scope.names.lookup x = some .local:=by first | exact .inl rfl | exact .inr rfl | assumption):PG (cxC X N scope z) (.Name x pos) (gv i):=pz hN hi hx hf
theorem pst (i:Nat) (hN:X.N.Nodup) (he:PE X e te) (hi:X.N[i]? = some x:=by rfl) (hx:Loc X.env.scope x:=by exact .inl rfl) (hs:swapsWith e (some (.Name x pos')) pos.line X.env = pure false:=by rfl) (hf:X.fn x = true \/ X.env.scope.names.lookup x = some .local:=by first | exact .inl rfl | exact .inr rfl | assumption) :
  PS X (.Assign [.Name x pos'] e pos) (vH te (gv i)):=E6 hN hi hx he hs hf
theorem pix (ha:PE X a ta) (hb:PE X b tb) (hs:Am b:=by exact fun _ _=>rfl):PE X (.Subscript a b pos) (tOp (rIx X.K) ta tb):=LM Jy ha hb hs
theorem ptc {op:CmpOp} {r:R2} (ho:OpR X (compareOp op) r) (ha:PE X a ta) (hb:PE X b tb) (hm:behindInMarks op b = false:=by exact EG _):PT X (.Compare a [op] [b] pos) (A6 (tOp r ta tb)):=Hl ho ha hb hm
theorem pcl (F:Bk X.prog X.w X.K X.mg X.base n x ps sp f fd) (hr:Room k X.A) (ha:PA X (e :: es) t) (hn:n <= k:=by decide) (hg:Gl X x:=by rfl) (hdb:(x == ("__debug__" : Str)) = false:=by decide)
  (he:starEach (e :: es) X.env = (false,eval e X.env) :: starEach es X.env:=by rfl) (hpl:(backTo pos (starEach es X.env)).any (·.1) = false:=by rfl):PE X (.Call (.Name x p) (e :: es) [] pos) (oM sp [] E0 t):=G8 F.G (hr.mono hn) hg F.m F.k F.b .nil AR ha hdb he hpl
theorem pmk (F:Bc X.prog X.w X.K X.mg X.base n x ps sp c f fd) (hr:Room k X.A) (ha:PA X (e :: es) t) (hn:n + 1 <= k:=by decide) (hg:Gl X x:=by rfl) (hdb:(x == ("__debug__" : Str)) = false:=by decide)
  (he:starEach (e :: es) X.env = (false,eval e X.env) :: starEach es X.env:=by rfl) (hpl:(backTo pos (starEach es X.env)).any (·.1) = false:=by rfl):PE X (.Call (.Name x p) (e :: es) [] pos) (vI X.K x sp t):=ES F.n F.M F.G (hr.mono hn) hg F.g F.b AR ha hdb he hpl
theorem pmt {pl:Sem Bool} {Ns:List Str} (F:Bm X.prog X.w X.K X.mg X.base n x Ns ps sp f fd) (hr:Room k X.A) (he:PE X o ta) (ha:PA X (e :: es) t) (hn:n <= k:=by decide)
  (hst:starEach (e :: es) X.env = (false,eval e X.env) :: starEach es X.env:=by rfl) (hpl:(backTo pos (starEach es X.env)).any (·.1) = false:=by rfl)
  (ht:eval (.Call (.Attribute o x apos) (e :: es) [] pos) X.env = (do
   let ov ← eval o X.env
   standAt apos.atName
   let (f,first) ← holding [ov] (getMethod ov x pl)
   callWith pos f first (backTo pos (starEach (e :: es) X.env)) (backToKw pos (keywordEach [] X.env))):=by rfl) :
  PE X (.Call (.Attribute o x apos) (e :: es) [] pos) (vJ X.K Ns x sp ta t):=ET F.cm F.G (hr.mono hn) F.b AR he ha hst hpl ht
theorem pec {XN N:List Str} {sc scope:Scope} {js:List (Option Nat)} {tg iter elt:Expr} {ifs:List Expr} {wi:TI} {g:TG} {tt:TIf} (ck:CmpOk XN sc scope N js) (hi:PI X tg iter wi:=by and_intros) (hg:∀ z,PG (cxC X N scope z) tg g:=by intro _;and_intros) (hs:ur js g:=by and_intros) (ht:∀ z,PIf (cxC X N scope z) ifs tt:=by intro _;and_intros) (he:∀ z,PE (cxC X N scope z) elt te:=by intro _;and_intros)
  (hXN:X.N = XN:=by rfl) (hsc:X.env.scope = sc:=by rfl) (hc:X.calm = true:=by rfl) (hf:∀ x,foldedSetIterable iter X.env x = pure x:=by intro _;rfl) :
  PE X (.ListComp elt [⟨tg,iter,ifs,0⟩] scope pos) (yo js wi g tt te):=Ha ck hi hg hs ht he hXN hsc hc hf
end
theorem Fd.ok {P:Program} {w:World} {K:W.Frag} {mg:Str -> Option Value} {base:Heap} {x:Str} {st:Stmt} {f:Addr} {fd:FuncData} {N ps:List Str} {k n j:Nat} {y:XS} (F:Fd K x st f fd) (T:∀ y v,W.nsIn K mainGlobals y = some (some v) -> mg y = some v) (p:{ t:TS // SS K t y })
  (hb:N.Nodup -> ∀ (cdv:Value) (A:Around) (outer:List PySem.Env) (s:Shared) (H:Hp) (E:XK),Room k (A.deeper (envOfC x (au st) s.heap.objs.size f cdv)) ->
   PSs (wB CX0 P w K mg base N x (au st) f cdv A outer s H E).nox (gu st) p.1:=by
   bv_omega
   and_intros)
  (hN:N.length = n:=by rfl) (hj:ps.length = j:=by rfl) (S:FnScope N ps (au st):=by ac_rfl)
  (hB:∀ (kV doc pm:Value) (an:Option Addr) (cdv ct:Value) (us:List Value),us.length = ps.length -> bindArgs (W.fnOf x x (mh st) (gu st) (au st) .none kV doc pm an cdv ct) ⟨us,[]⟩ = pure (ps.zip us):=by
   intro _ _ _ _ _ _ us hl
   first
    | (cases us0 hl;rfl)
    | (obtain ⟨_,rfl⟩:=us1 hl;rfl)
    | (obtain ⟨_,_,rfl⟩:=us2 hl;rfl)
    | (obtain ⟨_,_,_,rfl⟩:=us3 hl;rfl)
    | (obtain ⟨_,_,_,_,rfl⟩:=us4 hl;rfl)
    | (obtain ⟨_,_,_,_,_,rfl⟩:=us5 hl;rfl)) :
  Bk P w K mg base (k + 1) x ps (bD K j (fnO n y)) f fd:=by
 refine ⟨F.F.ok S (fun vs H Q E h=>h.1.trans hj.symm) fun cdv A outer s H vs Q E hr h=>?_,T x _ F.a,F.F.kp,F.F.binds hB⟩
 exact ⟨_,hb S.nd cdv A outer s H E hr,M.xY p.2 hN h⟩
theorem Fun.okm {P:Program} {w:World} {K:W.Frag} {mg:Str -> Option Value} {base:Heap} {x qual:Str} {st:Stmt} {f:Addr} {fd:FuncData} {N ps:List Str} {k n j:Nat} {y:XS} (F:Fun K x qual st f fd) (p:{ t:TS // SS K t y })
  (hb:N.Nodup -> ∀ (cdv:Value) (A:Around) (outer:List PySem.Env) (s:Shared) (H:Hp) (E:XK),Room k (A.deeper (envOfC qual (au st) s.heap.objs.size f cdv)) ->
   PSs (wB CX0 P w K mg base N qual (au st) f cdv A outer s H E).nox (gu st) p.1:=by
   bv_omega
   and_intros)
  (hN:N.length = n:=by rfl) (hj:ps.length = j:=by rfl) (S:FnScope N ps (au st):=by ac_rfl) :
  FnOk P w K mg base CX0 (k + 1) f fd ps (bD K j (fnO n y)):=
 F.ok S (fun vs H Q E h=>h.1.trans hj.symm) fun cdv A outer s H vs Q E hr h=>⟨_,hb S.nd cdv A outer s H E hr,M.xY p.2 hN h⟩
end L2
namespace Lw
open PySem PySem.W L2 M P
set_option autoImplicit true
noncomputable def top (i : Nat) : Stmt := PySem.Challenge.pw_shapethin_k49_whole_pieces_less_holes.main.body.getD i (.Pass ⟨0, 0, 0, 0⟩)
noncomputable abbrev rE:Stmt:=top 5
noncomputable abbrev kG:Stmt:=top 6
noncomputable abbrev jQ:Stmt:=top 7
noncomputable abbrev jR:Stmt:=top 8
noncomputable abbrev lL:Stmt:=top 9
noncomputable abbrev fg:Stmt:=top 11
noncomputable abbrev fY:Stmt:=top 12
noncomputable abbrev yd:Stmt:=top 13
noncomputable abbrev dZ:Stmt:=top 14
noncomputable abbrev Fw:Stmt:=top 15
noncomputable abbrev gL:Stmt:=top 16
noncomputable abbrev vx:Stmt:=top 17
noncomputable abbrev kH:Stmt:=top 19
noncomputable abbrev dt:Stmt:=top 20
noncomputable abbrev gD:Stmt:=top 21
noncomputable abbrev jh:Stmt:=top 22
noncomputable abbrev ua:Stmt:=top 26
noncomputable abbrev A1:Stmt:=top 27
noncomputable abbrev kJ:Stmt:=top 28
noncomputable abbrev lM:Stmt:=top 32
noncomputable abbrev oH:Stmt:=top 33
noncomputable abbrev iX:Stmt:=top 34
noncomputable abbrev yc:Stmt:=top 35
noncomputable abbrev du:Stmt:=top 36
noncomputable abbrev dY:Stmt:=top 38
noncomputable abbrev ub:Stmt:=top 39
noncomputable abbrev vw:Stmt:=top 40
noncomputable abbrev rD:Stmt:=top 41
noncomputable abbrev rB:Stmt:=top 43
noncomputable abbrev t9:Stmt:=top 44
noncomputable abbrev Fu:Stmt:=top 45
noncomputable abbrev rC:Stmt:=top 46
noncomputable abbrev t7:Stmt:=top 47
noncomputable abbrev t8:Stmt:=top 48
noncomputable abbrev IA:Stmt:=top 49
noncomputable abbrev eX:Stmt:=uP (top 23) 0
noncomputable abbrev jP:Stmt:=uP (top 23) 2
noncomputable abbrev fX:Stmt:=uP (top 24) 0
structure Txt (P:Program) (w:World) (K:Frag) (mg:Str -> Option Value) (base:Heap):Prop where
 mo:∀ x v,nsIn K mainGlobals x = some (some v) -> mg x = some v
 any:mg "any" = none
 len:mg "len" = none
 max:mg "max" = none
 min:mg "min" = none
 range:mg "range" = none
 reversed:mg "reversed" = none
 sorted:mg "sorted" = none
 sum:mg "sum" = none
 tuple:mg "tuple" = none
 BY_EIGHT:∃ t:Tok,mg "BY_EIGHT" = some (.int (1) t)
 BY_FOUR:∃ t:Tok,mg "BY_FOUR" = some (.int (0) t)
 cN:ul K NS fun C=>Cls K C /\ NoAttr K C "parts"
section
variable (P:Program) (w:World) (K:Frag) (mg:Str -> Option Value) (base:Heap)
noncomputable abbrev wb:=Bk P w K mg base 1 "row_of" ["pairs"] (CP K)
noncomputable abbrev gE:=Bk P w K mg base 1 "count_up_to" ["pairs", "number"] (rL K)
noncomputable abbrev oh:=Bk P w K mg base 1 "row_count" ["row"] (vD K)
noncomputable abbrev oi:=Bk P w K mg base 1 "row_moved" ["row", "by"] (vE K)
noncomputable abbrev pN:=Bk P w K mg base 1 "row_gaps" ["row"] (yl K)
noncomputable abbrev cI:=Bk P w K mg base 1 "stretches_of" ["picture"] (o8 K)
noncomputable abbrev gj:=Bk P w K mg base 1 "rows_with_cells" ["rows"] (lU K)
noncomputable abbrev pK:=Bk P w K mg base 1 "_law_cell_at" ["_law_script", "_law_k"] (yi K)
noncomputable abbrev sQ:=Bk P w K mg base 1 "_law_signed" ["_law_cell", "_law_most"] (zX K)
noncomputable abbrev Dk:=Bk P w K mg base 1 "_law_row" ["_law_bits", "_law_x", "_law_wide", "_law_more"] (Hz K)
noncomputable abbrev sO:=Bk P w K mg base 1 "_law_length" ["_law_stretches"] (zV K)
noncomputable abbrev An:=Bb P w K mg base 1 "Form" ["self", "parts"] (ie K)
noncomputable abbrev cR:=Bk P w K mg base 2 "picture_of" ["stretches"] (sF K)
noncomputable abbrev pM:=Bk P w K mg base 2 "row_at" ["picture", "y"] (CO K)
noncomputable abbrev eB:=Bk P w K mg base 2 "count_cells" ["picture"] (rK K)
noncomputable abbrev Ap:=Bk P w K mg base 2 "moved" ["picture", "dx", "dy"] (FH K)
noncomputable abbrev i6:=Bk P w K mg base 2 "begun_between" ["pairs", "first", "last"] (nW K)
noncomputable abbrev gi:=Bk P w K mg base 2 "picture_of_gaps" ["picture"] (lS K)
noncomputable abbrev pL:=Bk P w K mg base 2 "_law_picture" ["_law_script"] (yj K)
noncomputable abbrev sP:=Bk P w K mg base 2 "_law_number" ["_law_picture_here"] (zW K)
noncomputable abbrev Dj:=Bc P w K mg base 2 "Box" ["self", "left", "up", "right", "down"] (ji K)
noncomputable abbrev Dm:=Bk P w K mg base 3 "join" ["one", "other"] (HA K)
noncomputable abbrev pO:=Bk P w K mg base 3 "touching" ["picture", "stretch", "reach"] (ym K)
noncomputable abbrev fA:=Bk P w K mg base 3 "picture_of_piece" ["piece"] (kj K)
noncomputable abbrev sS:=Bk P w K mg base 3 "is_open" ["picture", "y", "a", "b"] (zZ K)
noncomputable abbrev kq:=Bk P w K mg base 4 "spread_down" ["picture", "by"] (rM K)
noncomputable abbrev oj:=Bk P w K mg base 4 "walk_from" ["picture", "first", "reach"] (vF K)
noncomputable abbrev fy:=Bk P w K mg base 5 "greater_by_block" ["picture", "block"] (ki K)
noncomputable abbrev iq:=Bk P w K mg base 5 "classes_of" ["picture", "reach"] (sE K)
noncomputable abbrev gh:=Bk P w K mg base 6 "greater_by_part" ["picture", "blocks"] (lR K)
noncomputable abbrev wa:=Bk P w K mg base 6 "pieces" ["picture"] (CN K)
noncomputable abbrev uq:=Bk P w K mg base 6 "holes" ["picture"] (FF K)
noncomputable abbrev vZ:=Bk P w K mg base 7 "filled" ["picture"] (CM K)
noncomputable abbrev fx:=Bm P w K mg base 7 "greater" NS ["self", "picture"] (jj K)
noncomputable abbrev sR:=Bk P w K mg base 8 "corners" ["picture"] (zY K)
noncomputable abbrev Ao:=Bk P w K mg base 8 "edges" ["picture"] (FE K)
noncomputable abbrev kr:=Bk P w K mg base 9 "told_number" ["picture"] (rN K)
noncomputable abbrev K7:=Bk P w K mg base 10 "law" ["_law_script"] (vC K)
end
section
variable {P:Program} {w:World} {K:Frag} {mg:Str -> Option Value} {base:Heap}
local macro_rules | `(tactic| ac_rfl)=>`(tactic| exact ⟨rfl,rfl,rfl,by decide +kernel,rfl,by decide +kernel,by decide +kernel⟩)
seal CallR OpR PA PC PE PG PGs PI PIf PIp PO PS IP PSs PT PW ur wc UnR binaryOp compareOp AA gv GB Jq GC Fe rAppend Hq rExtM rI rI0 rIx Ff Fg J8 rn rU KH vH KI tB tBM tC tCB oM yo ig Aa rT FO KJ HG HH vI vJ A5 rV KL tOp tOr FQ FS HJ tSl A6 HK tUn lV Ac unaryOp
set_option hygiene false in
local macro_rules | `(tactic| and_intros)=>`(tactic| repeat' first | exact pv _ | refine aF ?_ ?_ | exact bu | exact ER | refine bn ?_ | refine aL ?_ ?_ | refine pix ?_ ?_ | refine vj ?_ | refine pcl (by assumption) hr ?_ | refine fU ?_ | refine pst _ nd ?_ | refine zJ ?_ | refine LN ?_ ?_ ?_ | refine EV ?_ ?_ | refine EY ?_ ?_ | exact HC | refine FM ?_ ?_ y6 | exact G4 | refine ptc ?_ ?_ ?_ | exact pgn _ nd | exact JQ | refine JW rfl ?_ | exact He | refine E5 ?_ ?_ ?_ | refine JS ?_ | exact vp | refine KG ?_ | exact HF | refine c6 Bz (by rfl) T.len Jb ?_ | exact AS | exact JM | refine lJ PassesOwn.never rfl ?_ ?_ ?_ | refine tX PySem.F.plainAttrs_list PySem.F.slot_list_append PySem.F.type_list_append tU ?_ ?_ | exact Ag | exact JL hr.units | exact G5 | exact LL | exact JO hr.units | refine Ir ?_ ?_ | refine PW.pt (Ir ?_ ?_) | exact LJ | exact Iq | refine Fa ?_ ?_ | refine J7 ?_ | refine PW.pt (Fa ?_ ?_) | exact JN | refine Hn ?_ | exact LH | refine AU ?_ | exact JP | refine c6 (BB rfl) (by rfl) T.min Dw ?_ | refine fk ci (by rfl) T.tuple gQ ?_ | exact JT | refine Cs (by rfl) T.range ?_ | refine pmk (by assumption) hr ?_ | refine pmt (by assumption) hr ?_ ?_ | refine E7 PassesOwn.never ?_ ?_ | refine tW (un1 hr.units) ?_ ?_ | refine c6 (BA rfl) (by rfl) T.max Jc ?_ | refine G9 ?_ ?_ ?_ (EG _) | exact pz nd rfl (.inr rfl) | refine JV ?_ ?_ FA | refine Hh ?_ | refine JZ ?_ ?_ | refine J2 nd rfl (.inl rfl) ?_ Jx | refine J5 (tW (un1 hr.units) ?_ ?_) | exact LG | exact G6 | refine tX PySem.F.plainAttrs_list PySem.F.slot_list_extend PySem.F.type_list_extend pp ?_ ?_ | refine c6 iC (by rfl) T.sorted m6 ?_ | refine EN (Kd hr.units) ?_ ?_ | exact EO | refine Hb T.cN ?_ rfl | exact vi (v:=.int (0)) (by rfl) T.BY_FOUR.choose_spec ⟨_,rfl⟩ | exact vi (v:=.int (1)) (by rfl) T.BY_EIGHT.choose_spec ⟨_,rfl⟩ | refine EU NA ?_ ?_ ?_ | refine Ct (by rfl) T.range ?_ | refine JX (by rfl) T.reversed ?_ | refine Hj (un1 hr.units) ?_ ?_ ?_ (by rfl) | refine E8 ?_ | exact pgc _ | refine j5 ?_ | refine xV ?_ (fun _=>rfl) | refine E6 nd rfl (.inr rfl) ?_)
set_option hygiene false in
local macro_rules | `(tactic| bv_omega)=>`(tactic| (intro nd _ _ _ _ _ _ hr;(conv=>arg 2;whnf);(with_reducible conv=>arg 3;whnf)))
theorem nV:FnScope ["self", "parts"] ["self", "parts"] (au eX):=by ac_rfl
theorem o7:FnScope ["self", "left", "up", "right", "down"] ["self", "left", "up", "right", "down"] (au fX):=by ac_rfl
theorem nN (F:Fun K "__init__" "Form.__init__" eX f fd) (T:Txt P w K mg base):FnOk P w K mg base CX0 1 f fd ["self", "parts"] (ie K):=by
 refine F.ok nV (fun vs H Q E h=>h.1) (fun cdv A outer s H vs Q E hr h=>?_)
 exact ⟨_,bn (J4 (pv 0) (pv 1) rfl),Eb T.cN h⟩
theorem xI (F:Fd K "_law_cell_at" rB f fd) (T:Txt P w K mg base):pK P w K mg base f fd:=F.ok (N:=["_law_script", "_law_k"]) T.mo (xR K)
theorem zz (F:Fd K "_law_length" t7 f fd) (T:Txt P w K mg base):sO P w K mg base f fd:=F.ok (N:=["_law_stretches", "_law_total", "_law_last", "_law_y", "_law_low", "_law_high"]) T.mo (zK K)
theorem G0 (F:Fd K "_law_row" Fu f fd) (T:Txt P w K mg base):Dk P w K mg base f fd:=F.ok (N:=["_law_bits", "_law_x", "_law_wide", "_law_more", "_law_row_here", "_law_k", "_law_size"]) T.mo (Hf K)
theorem zB (F:Fd K "_law_signed" t9 f fd) (T:Txt P w K mg base):sQ P w K mg base f fd:=F.ok (N:=["_law_cell", "_law_most"]) T.mo (zM K)
theorem qX (F:Fd K "count_up_to" kG f fd) (T:Txt P w K mg base):gE P w K mg base f fd:=F.ok (N:=["pairs", "number", "low", "high", "middle"]) T.mo (re K)
theorem ve (F:Fd K "row_count" jQ f fd) (T:Txt P w K mg base):oh P w K mg base f fd:=F.ok (N:=["row"]) T.mo (vm K) (by bv_omega;exact bn (fU (c6 (tj rfl) (by rfl) T.sum Dy (aF (pec (show CmpOk ["row"] (au jQ) _ ["a", "b"] [none,none] from d9)) bu))))
theorem xK (F:Fd K "row_gaps" lL f fd) (T:Txt P w K mg base):pN P w K mg base f fd:=F.ok (N:=["row"]) T.mo (xT K) (by bv_omega;exact bn (fU (fk ci (by rfl) T.tuple gQ (aF (pec (show CmpOk ["row"] (au lL) _ ["k", "row"] [none,some 0] from d9)) bu))))
theorem vf (F:Fd K "row_moved" jR f fd) (T:Txt P w K mg base):oi P w K mg base f fd:=F.ok (N:=["row", "by"]) T.mo (vn K) (by bv_omega;exact bn (fU (fk ci (by rfl) T.tuple gQ (aF (pec (show CmpOk ["row", "by"] (au jR) _ ["a", "b", "by"] [none,none,some 1] from d9)) bu))))
theorem Cr (F:Fd K "row_of" rE f fd) (T:Txt P w K mg base):wb P w K mg base f fd:=F.ok (N:=["pairs", "stretches", "a", "b"]) T.mo (Cz K) (by bv_omega;exact aL (by and_intros) (aL (lJ PassesOwn.never rfl (zJ (c6 iC (by rfl) T.sorted m6 (aF (pec (show CmpOk ["pairs", "stretches", "a", "b"] (au rE) _ ["a", "b"] [none,none] from d9)) bu))) (by and_intros) (by and_intros)) (by and_intros)))
theorem lB (F:Fd K "rows_with_cells" dZ f fd) (T:Txt P w K mg base):gj P w K mg base f fd:=F.ok (N:=["rows"]) T.mo (lI K) (by bv_omega;exact bn (fU (fk ci (by rfl) T.tuple gQ (aF (pec (show CmpOk ["rows"] (au dZ) _ ["y", "row"] [none,none] from d9)) bu))))
theorem oY (F:Fd K "stretches_of" fY f fd) (T:Txt P w K mg base):cI P w K mg base f fd:=F.ok (N:=["picture", "stretches", "y", "row"]) T.mo (o6 K) (by bv_omega;exact aL (by and_intros) (aL (lJ PassesOwn.never rfl (by and_intros) (by and_intros) (bn (j5 (tX PySem.F.plainAttrs_list PySem.F.slot_list_extend PySem.F.type_list_extend pp (pv 1) (aF (pec (show CmpOk ["picture", "stretches", "y", "row"] (au fY) _ ["a", "b", "y"] [none,none,some 2] from d9)) bu))))) (by and_intros)))
theorem oW (F:Fun K "__init__" "Box.__init__" fX f fd) (T:Txt P w K mg base) (AB_Form:An P w K mg base c_Form f_Form___init__ m7):FnOk P w K mg base CX0 2 f fd ["self", "left", "up", "right", "down"] (ji K):=by
 refine F.ok o7 (fun vs H Q E h=>h.1) (fun cdv A outer s H vs Q E hr h=>?_)
 exact ⟨_,aL (E5 (ptc Iq (c6 (BC rfl) (by rfl) T.min Dw (aF (pv 1) (aF (pv 2) (aF (pv 3) (aF (pv 4) bu))))) ER) CB vp) (bn (j5 (zI AB_Form.cf (by rfl) AB_Form.g AB_Form.G (hr.mono (by decide)) AB_Form.b AR (aF (pv 0) (aF (vj (aF (vj (aF (vj (aF (EV Ag (pv 1)) (aF (EV Ag (pv 2)) (aF (pv 3) (aF (pv 4) bu))))) bu)) bu)) bu))))),Ee (Fx (SE.p (Mx Mb ((Mo IZ (mP (lN 1) (mP (lN 2) (mP (lN 3) (mP (lN 4) FI))))).p) ((s_c rfl).p)))) (A2 (iY (A2 (iY (A2 (iY (Ky Fi (lN 1)) (iY (Ky Fi (lN 2)) (iY (Fy 3) (iY (Fy 4) vz))))) vz)) vz)) rfl h⟩
theorem zA (F:Fd K "_law_number" t8 f fd) (T:Txt P w K mg base) (sI:sO P w K mg base BI yS):sP P w K mg base f fd:=F.ok (N:=["_law_picture_here", "_law_points", "_law_sides", "_law_cells", "_law_y", "_law_row_here", "_law_low", "_law_high", "_law_dy"]) T.mo (zL K)
theorem xJ (F:Fd K "_law_picture" rC f fd) (T:Txt P w K mg base) (pE:pK P w K mg base yO wU) (sK:sQ P w K mg base BK yU) (C9:Dk P w K mg base Jm Gw):pL P w K mg base f fd:=F.ok (N:=["_law_script", "_law_first", "_law_x", "_law_y", "_law_rows", "_law_k", "_law_bits", "_law_j", "_law_row_here"]) T.mo (xS K)
theorem nO (F:Fd K "begun_between" jh f fd) (T:Txt P w K mg base) (eA:gE P w K mg base kA jy):i6 P w K mg base f fd:=F.ok (N:=["pairs", "first", "last"]) T.mo (nR K)
theorem qW (F:Fd K "count_cells" gL f fd) (T:Txt P w K mg base) (n6:oh P w K mg base wR uH):eB P w K mg base f fd:=F.ok (N:=["picture"]) T.mo (rc K) (by bv_omega;exact bn (fU (c6 (tj rfl) (by rfl) T.sum Dy (aF (pec (show CmpOk ["picture"] (au gL) _ ["y", "row"] [none,none] from d9)) bu))))
theorem EL (F:Fd K "moved" vx f fd) (T:Txt P w K mg base) (n8:oi P w K mg base wS uI):Ap P w K mg base f fd:=F.ok (N:=["picture", "dx", "dy"]) T.mo (E3 K) (by bv_omega;exact bn (fU (fk ci (by rfl) T.tuple gQ (aF (pec (show CmpOk ["picture", "dx", "dy"] (au vx) _ ["y", "row", "dy", "dx"] [none,none,some 2,some 1] from d9)) bu))))
theorem sv (F:Fd K "picture_of" fg f fd) (T:Txt P w K mg base) (vU:wb P w K mg base DT BP):cR P w K mg base f fd:=F.ok (N:=["stretches", "pairs_by_row", "y", "a", "b"]) T.mo (sC K) (by bv_omega;exact aL (by and_intros) (aL (lJ PassesOwn.never rfl (zJ (c6 iC (by rfl) T.sorted m6 (aF (pec (show CmpOk ["stretches", "pairs_by_row", "y", "a", "b"] (au fg) _ ["y", "a", "b"] [none,none,none] from d9)) bu))) (by and_intros) (by and_intros)) (bn (fU (fk ci (by rfl) T.tuple gQ (aF (pec (show CmpOk ["stretches", "pairs_by_row", "y", "a", "b"] (au fg) _ ["y", "pairs"] [none,none] from d9)) bu))))))
theorem lA (F:Fd K "picture_of_gaps" dY f fd) (T:Txt P w K mg base) (dJ:gj P w K mg base mx kY) (pG:pN P w K mg base yQ wX):gi P w K mg base f fd:=F.ok (N:=["picture"]) T.mo (lH K) (by bv_omega;exact bn (fU (pcl dJ hr (aF (pec (show CmpOk ["picture"] (au dY) _ ["y", "row"] [none,none] from d9)) bu))))
theorem Cq (F:Fd K "row_at" yd f fd) (T:Txt P w K mg base) (eA:gE P w K mg base kA jy):pM P w K mg base f fd:=F.ok (N:=["picture", "y", "begun"]) T.mo (Cy K)
theorem zD (F:Fd K "is_open" ub f fd) (T:Txt P w K mg base) (lY:pM P w K mg base wQ tD):sS P w K mg base f fd:=F.ok (N:=["picture", "y", "a", "b", "row"]) T.mo (zO K)
theorem G1 (F:Fd K "join" Fw f fd) (T:Txt P w K mg base) (aO:cR P w K mg base dQ cY) (aW:cI P w K mg base dS df):Dm P w K mg base f fd:=F.ok (N:=["one", "other"]) T.mo (Hg K)
theorem ke (F:Fd K "picture_of_piece" du f fd) (T:Txt P w K mg base) (aO:cR P w K mg base dQ cY):fA P w K mg base f fd:=F.ok (N:=["piece"]) T.mo (kg K) (by bv_omega;exact bn (fU (pcl aO hr (aF (pec (show CmpOk ["piece"] (au du) _ ["y", "a", "b", "place"] [none,none,none,none] from d9)) bu))))
theorem xM (F:Fd K "touching" lM f fd) (T:Txt P w K mg base) (i4:i6 P w K mg base oT m8) (lY:pM P w K mg base wQ tD):pO P w K mg base f fd:=F.ok (N:=["picture", "stretch", "reach", "first", "last", "found", "y"]) T.mo (xU K) (by bv_omega;exact aL (by and_intros) (aL (by and_intros) (aL (by and_intros) (aL (lJ PassesOwn.never rfl (by and_intros) (by and_intros) (bn (j5 (tX PySem.F.plainAttrs_list PySem.F.slot_list_extend PySem.F.type_list_extend pp (pv 5) (aF (pec (show CmpOk ["picture", "stretch", "reach", "first", "last", "found", "y"] (au lM) _ ["a", "b", "y", "first"] [none,none,some 6,some 3] from d9)) bu))))) (by and_intros)))))
theorem qY (F:Fd K "spread_down" kH f fd) (T:Txt P w K mg base) (Da:Dm P w K mg base Jn Gx) (Al:Ap P w K mg base Gv DV):kq P w K mg base f fd:=F.ok (N:=["picture", "by", "done", "step"]) T.mo (rg K)
theorem vg (F:Fd K "walk_from" oH f fd) (T:Txt P w K mg base) (pH:pO P w K mg base yR wY):oj P w K mg base f fd:=F.ok (N:=["picture", "first", "reach", "walk", "walked", "place", "stretch"]) T.mo (vo K)
theorem su (F:Fd K "classes_of" iX f fd) (T:Txt P w K mg base) (aW:cI P w K mg base dS df) (n9:oj P w K mg base wT uJ):iq P w K mg base f fd:=F.ok (N:=["picture", "reach", "classes", "walked", "stretch"]) T.mo (sw K) (by bv_omega;exact aL (by and_intros) (aL (by and_intros) (aL (lJ PassesOwn.never rfl (by and_intros) (by and_intros) (bn (E5 (by and_intros) (aL (by and_intros) (bn (j5 (tX PySem.F.plainAttrs_dict PySem.F.slot_dict_update PySem.F.type_dict_update (Cj (Ht hr.units) rfl) (pv 3) (aF (pec (show CmpOk ["picture", "reach", "classes", "walked", "stretch"] (au iX) _ ["y", "a", "b", "place"] [none,none,none,none] from d9)) bu))))) vp))) (by and_intros))))
theorem kd (F:Fd K "greater_by_block" dt f fd) (T:Txt P w K mg base) (aW:cI P w K mg base dS df) (kn:kq P w K mg base sj p0) (aO:cR P w K mg base dQ cY):fy P w K mg base f fd:=F.ok (N:=["picture", "block", "wide"]) T.mo (kf K) (by bv_omega;exact aL (Hk (i:=2) (hN:=nd) (hi0:=rfl) (hx:=Or.inl rfl) (ck:=(show CmpOk ["picture", "block", "wide"] (au dt) _ ["y", "a", "b", "block"] [none,none,none,some 1] from d9)) (hi:=(by and_intros)) (hg:=fun _=>(by and_intros)) (hs:=(by and_intros)) (ht:=fun _=>AS) (he:=fun _=>(by and_intros))) (by and_intros))
theorem lz (F:Fd K "greater_by_part" gD f fd) (T:Txt P w K mg base) (ft:fy P w K mg base kT ka) (aO:cR P w K mg base dQ cY):gh P w K mg base f fd:=F.ok (N:=["picture", "blocks", "stretches", "block"]) T.mo (lG K)
theorem EK (F:Fd K "holes" vw f fd) (T:Txt P w K mg base) (eZ:iq P w K mg base mq kB) (gf:gi P w K mg base mw kX) (sM:sS P w K mg base BM yW):uq P w K mg base f fd:=F.ok (N:=["picture", "classes"]) T.mo (E2 K) (by bv_omega;exact aL (by and_intros) (bn (fU (pec (show CmpOk ["picture", "classes"] (au vw) _ ["gaps", "picture"] [none,some 0] from d9) (ht:=fun _=>(AU (by exact (E8 (xV (c6 (Bx rfl) (by rfl) T.any Ja (aF (pec (show CmpOk ["gaps", "picture"] ({kind:=.function,names:=[(".0",.local),("gaps",.local),("any",.globalImplicit),("picture",.cell)],isGenerator:=false,isCoroutine:=false}:Scope) _ ["y", "a", "b", "place", "picture"] [none,none,none,none,some 1] from d9)) bu)) (fun _=>rfl))))))))))
theorem Cp (F:Fd K "pieces" yc f fd) (T:Txt P w K mg base) (eZ:iq P w K mg base mq kB):wa P w K mg base f fd:=F.ok (N:=["picture"]) T.mo (Cw K)
theorem oX (F:Fun K "greater" "Form.greater" jP f fd) (T:Txt P w K mg base) (gc:gh P w K mg base mr kW):FnOk P w K mg base CX0 7 f fd ["self", "picture"] (jj K):=F.okm (N:=["self", "picture", "blocks"]) (oZ K)
theorem Co (F:Fd K "filled" rD f fd) (T:Txt P w K mg base) (aW:cI P w K mg base dS df) (o9:uq P w K mg base Ax wW) (aO:cR P w K mg base dQ cY):vZ P w K mg base f fd:=F.ok (N:=["picture", "stretches", "hole"]) T.mo (Cv K) (by bv_omega;exact aL (by and_intros) (aL (lJ PassesOwn.never rfl (by and_intros) (by and_intros) (bn (j5 (tX PySem.F.plainAttrs_list PySem.F.slot_list_extend PySem.F.type_list_extend pp (pv 1) (aF (pec (show CmpOk ["picture", "stretches", "hole"] (au rD) _ ["y", "a", "b", "place"] [none,none,none,none] from d9)) bu))))) (by and_intros)))
theorem zC (F:Fd K "corners" ua f fd) (T:Txt P w K mg base) (b7:eB P w K mg base gF fH) (dH:fx P w K mg base f_Form_greater i9) (A_Box:Dj P w K mg base c_Box cK i8):sR P w K mg base f fd:=F.ok (N:=["picture"]) T.mo (zN K)
theorem EJ (F:Fd K "edges" A1 f fd) (T:Txt P w K mg base) (b7:eB P w K mg base gF fH) (dH:fx P w K mg base f_Form_greater i9) (A_Box:Dj P w K mg base c_Box cK i8):Ao P w K mg base f fd:=F.ok (N:=["picture", "upright", "level"]) T.mo (E1 K)
theorem qZ (F:Fd K "told_number" kJ f fd) (T:Txt P w K mg base) (sL:sR P w K mg base BL yV) (Ak:Ao P w K mg base Gu DU) (b7:eB P w K mg base gF fH):kr P w K mg base f fd:=F.ok (N:=["picture"]) T.mo (rh K)
theorem JK (F:Fd K "law" IA f fd) (T:Txt P w K mg base) (pF:pL P w K mg base yP wV) (vT:wa P w K mg base DS BO) (o9:uq P w K mg base Ax wW) (sJ:sP P w K mg base BJ yT) (ko:kr P w K mg base sk p6) (vS:vZ P w K mg base DR BN) (fv:fA P w K mg base kU kb):K7 P w K mg base f fd:=F.ok (N:=["_law_script", "_law_picture_here", "_law_found", "_law_due", "_law_whole", "_law_piece", "_law_alone"]) T.mo (JY K)
end
theorem IU {l:OpenLaw} {w:World} {K:Frag} {h:Heap} {mg:Str -> Option Value} {fa:Addr} (X:K.In h) (G:h.Ns mainGlobals mg) (hfa:mg "law" = some (.ref fa))
  (n_Box:nsIn K mainGlobals "Box" = some (some (.ref c_Box)))
  (n_Form:nsIn K mainGlobals "Form" = some (some (.ref c_Form)))
  (C7:findIn K (.ref c_Form) "__init__" = some (some (.ref f_Form___init__)))
  (C8:isFn K (.ref f_Form___init__) = true)
  (Dp:findIn K (.ref c_Box) "greater" = some (some (.ref f_Form_greater)))
  (qz:isFn K (.ref f_Form_greater) = true)
  (pP:findIn K (.ref c_Box) "__init__" = some (some (.ref cK)))
  (qy:isFn K (.ref cK) = true)
  (eU:Fun K "__init__" "Form.__init__" eX f_Form___init__ m7)
  (fw:Fun K "greater" "Form.greater" jP f_Form_greater i9)
  (jq:Fun K "__init__" "Box.__init__" fX cK i8)
  (Dg:Fd K "row_of" rE DT BP)
  (se:Fd K "count_up_to" kG kA jy)
  (vV:Fd K "row_count" jQ wR uH)
  (vW:Fd K "row_moved" jR wS uI)
  (yA:Fd K "row_gaps" lL yQ wX)
  (uo:Fd K "picture_of" fg dQ cY)
  (pI:Fd K "stretches_of" fY dS df)
  (Df:Fd K "row_at" yd wQ tD)
  (l6:Fd K "rows_with_cells" dZ mx kY)
  (IK:Fd K "join" Fw Jn Gx)
  (sd:Fd K "count_cells" gL gF fH)
  (Gd:Fd K "moved" vx Gv DV)
  (sf:Fd K "spread_down" kH sj p0)
  (kN:Fd K "greater_by_block" dt kT ka)
  (l4:Fd K "greater_by_part" gD mr kW)
  (oO:Fd K "begun_between" jh oT m8)
  (Bn:Fd K "corners" ua BL yV)
  (Gb:Fd K "edges" A1 Gu DU)
  (sg:Fd K "told_number" kJ sk p6)
  (yB:Fd K "touching" lM yR wY)
  (vX:Fd K "walk_from" oH wT uJ)
  (um:Fd K "classes_of" iX mq kB)
  (De:Fd K "pieces" yc DS BO)
  (kO:Fd K "picture_of_piece" du kU kb)
  (l5:Fd K "picture_of_gaps" dY mw kX)
  (Bo:Fd K "is_open" ub BM yW)
  (Gc:Fd K "holes" vw Ax wW)
  (Db:Fd K "filled" rD DR BN)
  (yy:Fd K "_law_cell_at" rB yO wU)
  (Bl:Fd K "_law_signed" t9 BK yU)
  (IJ:Fd K "_law_row" Fu Jm Gw)
  (yz:Fd K "_law_picture" rC yP wV)
  (Bi:Fd K "_law_length" t7 BI yS)
  (Bj:Fd K "_law_number" t8 BJ yT)
  (Dc:Fd K "law" IA Oz Jo)
  (pg_Box:plainGet K c_Box Str.empty = true)
  (hd_Box:hasDictIn K c_Box = true)
  (po_Box:plainOver K c_Box = true)
  (sa_Box:findIn K (.ref c_Box) "__setattr__" = some (some (.builtin "object.__setattr__")))
  (mk_Box:makesIn K c_Box = true)
  (kc_Box:keepIn K (.ref c_Box) = true)
  (np_Box:findIn K (.ref c_Box) "parts" = some none)
  (mm_Box_greater:findIn K (.ref c_Box) "greater" = some (some (.ref f_Form_greater)))
  (bs_Form:specialIn K (.ref c_Form) "__getattribute__" = some (some (.builtin "type.__getattribute__")))
  (br_Form:readsIn K c_Form (.type "type") = true)
  (bf_Form:findCls K (.ref c_Form) (.type "type") "__init__" = some (.val (.ref f_Form___init__)))
  (z_any:nsIn K mainGlobals "any" = some none)
  (z_len:nsIn K mainGlobals "len" = some none)
  (z_max:nsIn K mainGlobals "max" = some none)
  (z_min:nsIn K mainGlobals "min" = some none)
  (z_range:nsIn K mainGlobals "range" = some none)
  (z_reversed:nsIn K mainGlobals "reversed" = some none)
  (z_sorted:nsIn K mainGlobals "sorted" = some none)
  (z_sum:nsIn K mainGlobals "sum" = some none)
  (z_tuple:nsIn K mainGlobals "tuple" = some none)
  (y_BY_EIGHT:nsIn K mainGlobals "BY_EIGHT" = some (some (.int (1) t_BY_EIGHT)))
  (y_BY_FOUR:nsIn K mainGlobals "BY_FOUR" = some (some (.int (0) t_BY_FOUR)))
  : ∃ fd:FuncData,(∀ (s:Shared) (v:Value),BindsTo s fd ⟨[v],[]⟩ [("_law_script",v)]) /\ ∀ base:Heap,K.In base -> base.Ns mainGlobals mg -> FnOk l.prog w K mg base CX0 10 fa fd ["_law_script"] (vC K):=by
 have e:=hfa.symm.trans (mg_of X G Dc.a)
 cases e
 have oP:ul K NS fun C=>Cls K C /\ Meth K C "greater" f_Form_greater:=tq n_Box ⟨⟨pg_Box,hd_Box,po_Box,sa_Box⟩,⟨mm_Box_greater,qz,fw.kp⟩⟩ (ww)
 have M_Box:Mk K c_Box cK:=⟨mk_Box,pP,qy,kc_Box⟩
 have cf_Form:ClsFn K c_Form "__init__" f_Form___init__:=⟨bs_Form,br_Form,bf_Form,eU.kp⟩
 obtain ⟨_,_,_,_,_,_,_,_,_,hfd,_⟩:=Dc.F.ex
 refine ⟨Jo,fun s v=>.of_eq (by rw [hfd];rfl),fun base _ _=>?_⟩
 have T:Txt l.prog w K mg base:=⟨fun _ _=>mg_of X G,mg_none_of X G z_any,mg_none_of X G z_len,mg_none_of X G z_max,mg_none_of X G z_min,mg_none_of X G z_range,mg_none_of X G z_reversed,mg_none_of X G z_sorted,mg_none_of X G z_sum,mg_none_of X G z_tuple,⟨_,mg_of X G y_BY_EIGHT⟩,⟨_,mg_of X G y_BY_FOUR⟩,tq n_Box ⟨⟨pg_Box,hd_Box,po_Box,sa_Box⟩,np_Box⟩ (ww)⟩
 have AB_Form:An l.prog w K mg base _ _ _:=⟨nN eU T,eU.binds fun _ _ _ _ _ _ us hl=>by obtain ⟨_,_,rfl⟩:=us2 hl;rfl,cf_Form,mg_of X G n_Form⟩
 have pE:=xI yy T
 have sI:=zz Bi T
 have C9:=G0 IJ T
 have sK:=zB Bl T
 have eA:=qX se T
 have n6:=ve vV T
 have pG:=xK yA T
 have n8:=vf vW T
 have vU:=Cr Dg T
 have dJ:=lB l6 T
 have aW:=oY pI T
 have A_Box:Dj l.prog w K mg base _ _ _:=⟨oW jq T AB_Form,jq.binds fun _ _ _ _ _ _ us hl=>by obtain ⟨_,_,_,_,_,rfl⟩:=us5 hl;rfl,n_Box,M_Box,mg_of X G n_Box⟩
 have sJ:=zA Bj T sI
 have pF:=xJ yz T pE sK C9
 have i4:=nO oO T eA
 have b7:=qW sd T n6
 have Al:=EL Gd T n8
 have aO:=sv uo T vU
 have gf:=lA l5 T dJ pG
 have lY:=Cq Df T eA
 have sM:=zD Bo T lY
 have Da:=G1 IK T aO aW
 have fv:=ke kO T aO
 have pH:=xM yB T i4 lY
 have kn:=qY sf T Da Al
 have n9:=vg vX T pH
 have eZ:=su um T aW n9
 have ft:=kd kN T aW kn aO
 have gc:=lz l4 T ft aO
 have o9:=EK Gc T eZ gf sM
 have vT:=Cp De T eZ
 have dH:fx l.prog w K mg base _ _:=⟨oX fw T gc,fw.binds fun _ _ _ _ _ _ us hl=>by obtain ⟨_,_,rfl⟩:=us2 hl;rfl,oP⟩
 have vS:=Co Db T aW o9 aO
 have sL:=zC Bn T b7 dH A_Box
 have Ak:=EJ Gb T b7 dH A_Box
 have ko:=qZ sg T sL Ak b7
 exact (JK Dc T pF vT o9 sJ ko vS fv).G
theorem walk {l:OpenLaw} {q:Program} {loose:List Str} {XP:(Str -> Option Value) -> Heap -> Prop} {YP:World -> Heap -> Prop} {d:DefRec} {K:Params -> Frag} (hn:l.most = some 63) (hdf:d.params.defaults = [])
  (hY:∀ (w:World) (h:Heap),YP w h -> (K w.params).In h)
  (F:∀ (w:World) (mg:Str -> Option Value) (fa:Addr) (h:Heap),(K w.params).In h -> h.Ns mainGlobals mg -> mg d.name = some (.ref fa) ->
   ∃ fd:FuncData,(∀ (s:Shared) (u:Value),BindsTo s fd ⟨[u],[]⟩ [("_law_script",u)]) /\ ∀ base:Heap,(K w.params).In base -> base.Ns mainGlobals mg -> FnOk l.prog w (K w.params) mg base CX0 10 fa fd ["_law_script"] (vC (K w.params))) :
  WalkO q loose XP YP l.row.toRowW d [] (fun f vs=>PySem.call f vs):=
 L2.HQ (n:=63) (k:=10) (x := "_law_script") (CX:=fun _=>CX0) (sp:=fun w=>vC (K w.params)) hn (by decide) hdf ⟨rfl,by decide,by decide⟩ hY F (fun _ H a ns hl _ hS=>M.CQ hS (Ev ns hl)) fun _ _ _ _ _ z=>z
end Lw
open PySem PySem.W PyProof.Rows
set_option maxRecDepth 100000 in
set_option maxHeartbeats 0 in
theorem PySem.Challenge.cw_shapethin_k49_whole_pieces_less_holes_holds : PySem.Challenge.rw_shapethin_k49_whole_pieces_less_holes.Holds := by
 w_on;refine holds_law Hd.e2 fun said=>?_
 refine holds_open (q:=Hd.q) (XP:=XL Hd.q []) (YP:=Hook.says Hd.H) (N:=100000) Hd.e1 (Hook.of Hd.H) (Hook.keeps Hd.H) (fun s e=>xl_of s (Bool.and_eq_true_iff.mp e).1) XL.keeps (by rfl) (by rfl) (by rfl) (fun s e=>recFacts_of (Bool.and_eq_true_iff.mp e).2) (by rfl) (by assumption) (by decide +kernel) ⟨rfl,rfl,rfl,rfl,rfl,by decide +kernel⟩ ?hw ?hc
 case hw=>w_witness2
 refine Lw.walk (l := PySem.Challenge.rw_shapethin_k49_whole_pieces_less_holes) rfl rfl (fun w h Y => kIn_of Y) ?F
 case F=>
  intro w mg fa h KX G hmg
  refine' Lw.IU KX G hmg ?x0 ?x1 ?x2 ?x3 ?x4 ?x5 ?x6 ?x7 ?x8 ?x9 ?x10 ?x11 ?x12 ?x13 ?x14 ?x15 ?x16 ?x17 ?x18 ?x19 ?x20 ?x21 ?x22 ?x23 ?x24 ?x25 ?x26 ?x27 ?x28 ?x29 ?x30 ?x31 ?x32 ?x33 ?x34 ?x35 ?x36 ?x37 ?x38 ?x39 ?x40 ?x41 ?x42 ?x43 ?x44 ?x45 ?x46 ?x47 ?x48 ?x49 ?x50 ?x51 ?x52 ?x53 ?x54 ?x55 ?x56 ?x57 ?x58 ?x59 ?x60 ?x61 ?x62 ?x63 ?x64 ?x65 ?x66 ?x67
  case x0 | x1 | x2 | x3 | x4 | x5 | x6 | x7=>k_is
  case x8 | x9 | x10=>exact L2.D3 (by k_is) (by k_is) (by k_is)
  case x11 | x12 | x13 | x14 | x15 | x16 | x17 | x18 | x19 | x20 | x21 | x22 | x23 | x24 | x25 | x26 | x27 | x28 | x29 | x30 | x31 | x32 | x33 | x34 | x35 | x36 | x37 | x38 | x39 | x40 | x41 | x42 | x43 | x44 | x45=>exact ⟨by k_is,L2.D3 (by k_is) (by k_is) (by k_is)⟩
  case x46 | x47 | x48 | x49 | x50 | x51 | x52 | x53 | x54 | x55 | x56 | x57 | x58 | x59 | x60 | x61 | x62 | x63 | x64 | x65 | x66 | x67=>k_is

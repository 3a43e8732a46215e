import PyProof.Rows.All
import Wide.All
import OpenK.AllK
import Wide.FinOn
import Lean
import PyProof.EqAt
import PyProof.EqKinds
import PyProof.TupleCall
import PySem.Challenge.RW_shapethin_k54_too_great_to_be_thinned
set_option genSizeOf false
set_option bootstrap.genMatcherCode false
set_option compiler.extract_closed false
set_option linter.all false
set_option maxHeartbeats 4000000
set_option maxRecDepth 100000
noncomputable section
namespace Hd
open PySem PySem.W PySem.Calls PyProof.Rows
def CK (stp : SharedT -> Thread -> Option (SharedT × Thread)) (ok : Thread -> Bool) : Nat -> SharedT -> Thread -> Option SharedT
 | 0, _, _ => none
 | n + 1, s, t => match through t with
  | true => some s
  | false => match ok t with
   | false => none
   | true => match stp s t with
    | some (s', t') => CK stp ok n s' t'
    | none => none
theorem t6 {tb : String -> Option Builtin} {p : Program} {w : World} {n₀ : Nat} {ann : Option Value} : ∀ (n : Nat) (s : SharedT) (t : Thread) (r : SharedT), CK (stepT (denote tb) p w) (stepOk n₀ ann) n s t = some r -> topRun tb p w n₀ ann n s.abs t = some r.abs
 | 0, _, _, _, h => by cases h
 | n + 1, s, t, r, h => by
  unfold CK at h
  unfold topRun
  cases ht : through t with
  | true => rw [ht] at h; cases h; rfl
  | false =>
   rw [ht] at h
   cases hk : stepOk n₀ ann t with
   | false => rw [hk] at h; cases h
   | true =>
    rw [hk] at h
    cases hs : stepT (denote tb) p w s t with
    | none => rw [hs] at h; cases h
    | some x =>
     obtain ⟨s', t'⟩ := x
     rw [hs] at h
     rw [stepT_spec hs]
     exact t6 n s' t' r h
def Cq : List Obj -> Nat -> BT -> BT
 | [], _, t => t
 | o :: l, n, t => Cq l (n + 1) (t.ins n o)
def T0 (P : Params) : BT := Cq (boot_heap P).objs.toList 0 .nil
theorem HD (P : Params) : absHeap (T0 P) 11 (boot_heap P).life = boot_heap P := by kernel_rfl
theorem sz (P : Params) : ((boot_heap P).isNs mainGlobals, (boot_heap P).objs.size, (boot_heap P).nsMap mainGlobals "__annotations__") = (true, 11, some (.ref 6)) := by kernel_rfl
def S0 (w : World) (os : OsState) : SharedT := ⟨T0 w.params, 11, (boot_heap w.params).life, Array.mk [], boot_drawn, boot_toks, os⟩
theorem D4 {p q : Program} {loose : List Str} {Xt : Shared -> Bool} {α : Type} {Yf : Shared -> α} {Ya : World -> α} {N M : Nat} {g0 : Bool}
  (open_ : ∀ w : World, (fencedOpening treeTable p w N).map (fun s => (s.heap, s.gens, s.drawn, s.toks)) = some (boot_heap w.params, Array.mk [], boot_drawn, boot_toks)) (le : Nat.ble M N = true)
  (big : ∀ w : World, (fun os => (CK (stepT (denote treeTable) p w) (stepOk 11 (some (.ref 6))) M (S0 w os) (topStub p)).map fun r => ((staticsOk (importedModules p.main.body) (boot_heap w.params) r.abs.heap && namesBound p r.abs.heap && gensDone r.abs && laidKept (boot_heap w.params) r.abs.heap),
    openSeen q loose (importedModules p.main.body) Xt g0 r.abs, Yf r.abs)) = fun _ => some (true, openGood q loose, Ya w)) : LeftO p q loose Xt Yf Ya N g0 := fun w => by
 obtain ⟨⟨h, gs, d, k, os⟩, e, e'⟩ := Option.map_eq_some_iff.mp (open_ w)
 obtain ⟨rfl, rfl, rfl, rfl⟩ : h = boot_heap w.params /\ gs = Array.mk [] /\ d = boot_drawn /\ k = boot_toks := by simpa using e'
 obtain ⟨z1, z2, z3⟩ : _ /\ _ /\ _ := by simpa only [Prod.mk.injEq] using sz w.params
 obtain ⟨r, hr, hb⟩ := Option.map_eq_some_iff.mp (congrFun (big w) os)
 obtain ⟨l1, l2, l3⟩ : _ /\ _ /\ _ := by simpa only [Prod.mk.injEq] using hb
 have ha : (S0 w os).abs = ⟨boot_heap w.params, Array.mk [], boot_drawn, boot_toks, os⟩ := by
  unfold S0 SharedT.abs
  dsimp only
  rw [HD]
 have t := topRun_mono (N - M) _ _ _ _ (t6 _ _ _ _ hr)
 rw [show M + (N - M) = N by have := Nat.le_of_ble_eq_true le; lia, ha] at t
 have t2 : topFrom treeTable p w N ⟨boot_heap w.params, Array.mk [], boot_drawn, boot_toks, os⟩ = some r.abs := by
  unfold topFrom
  dsimp only
  rw [z1, z2, z3, t]
  show (match staticsOk (importedModules p.main.body) (boot_heap w.params) r.abs.heap && namesBound p r.abs.heap && gensDone r.abs && laidKept (boot_heap w.params) r.abs.heap with | true => _ | false => _) = _
  rw [l1]
 unfold openEnds
 rw [e]
 show (topFrom treeTable p w N _).map _ = _
 rw [t2]
 exact congrArg some (Prod.ext l2 l3)
theorem DZ {p q : Program} {loose : List Str} {Xt : Shared -> Bool} {α : Type} {Yf : Shared -> α} {Ya : World -> α} {g0 : Bool}
  (open_ : ∀ w : World, (fencedOpening treeTable p w 100000).map (fun s => (s.heap, s.gens, s.drawn, s.toks)) = some (boot_heap w.params, Array.mk [], boot_drawn, boot_toks))
  (big : ∀ w : World, (fun os => (CK (Fast.tw10156331382660048174 (Fast.tw11892475500146522536 Fast.tw14364793385576792824) p w) (Fast.tw6613529449190102663 11 (some (.ref 6))) 100000 (S0 w os) (topStub p)).map fun r => ((staticsOk (Fast.tw5923862056798008813 p.main.body) (boot_heap w.params) r.abs.heap && namesBound p r.abs.heap && gensDone r.abs && laidKept (boot_heap w.params) r.abs.heap),
    Fast.tw4187177175401517315 q loose (Fast.tw5923862056798008813 p.main.body) Xt g0 r.abs, Yf r.abs)) = fun _ => some (true, openGood q loose, Ya w)) : LeftO p q loose Xt Yf Ya 100000 g0 := by
 rw [<- Fast.te10156331382660048174, <- Fast.te11892475500146522536, <- Fast.te14364793385576792824, <- Fast.te6613529449190102663, <- Fast.te5923862056798008813, <- Fast.te4187177175401517315] at big
 exact D4 open_ rfl big
theorem E1 {l : OpenLaw} (h : Fast.tw9446332074065402090 l = true) : l.wellSaid = true := by
 rw [Fast.te9446332074065402090]
 exact h
end Hd
set_option Elab.async false
section
open PySem PySem.W PyProof.Rows
def Hd.q : Program := view PySem.Challenge.pw_shapethin_k54_too_great_to_be_thinned [1, 2, 3, 4, 5, 6, 7, 8, 10, 11, 13, 14, 15, 16, 17, 19, 20, 21, 22, 24, 26, 27, 28, 29, 31, 32, 33, 34, 35]
local macro_rules | `(tactic| o_head $_) => `(tactic| assumption)
set_option maxHeartbeats 0 in
theorem Hd.e0 : PySem.Challenge.rw_shapethin_k54_too_great_to_be_thinned.row.Holds -> PySem.Challenge.rw_shapethin_k54_too_great_to_be_thinned.row.Holds := by intro h; w_on; k_head
def Hd.as : List Addr := (Hd.e0.heap_1 { strHash := fun _ => 0, shareClass := fun _ => 0, mergeTok := id, idOf := fun _ => 0, idOfShared := fun _ _ => 0, followText := fun _ => true, idOfImm := fun _ => 0 }).map (·.1)
theorem Hd.ae (P : Params) : Hd.as = (Hd.e0.heap_1 P).map (·.1) := by kernel_rfl
abbrev Hd.H : Hook := kHook Hd.e0.heap_1 Hd.as Hd.ae
set_option maxHeartbeats 0 in
theorem Hd.e1 : LeftO PySem.Challenge.rw_shapethin_k54_too_great_to_be_thinned.row.prog Hd.q ["thinned"] (fun s => xlAt Hd.q [] s && recOk (RowW.records (OpenRow.toRowW (OpenLaw.row PySem.Challenge.rw_shapethin_k54_too_great_to_be_thinned))) s) (Hook.obs Hd.H) (Hook.val Hd.H) 100000 := Hd.DZ (boot_open (by rfl) rfl (fun s => rfl)) (by intro w; kernel_rfl)
set_option maxHeartbeats 0 in
theorem Hd.e2 : PySem.Challenge.rw_shapethin_k54_too_great_to_be_thinned.wellSaid = true := Hd.E1 (by kernel_rfl)
end
set_option Elab.async false
set_option linter.all false
set_option maxRecDepth 100000
namespace L2
open PySem PySem.Spec PyProof.Rows
abbrev Key := Sum Int Str
def sU : Key -> Value -> Bool
 | .inl k, v => Value.isInt k v
 | .inr x, v => Value.isStrOf x v
def Jm (w : World) : Key -> Int
 | .inl k => hashInt k
 | .inr x => hashStr w x
theorem cu : ∀ {k : Key} {v : Value}, sU k v = true -> (∃ i t, k = Sum.inl i /\ v = Value.int i t) \/ (∃ x t, k = Sum.inr x /\ v = Value.str x t)
 | .inl i, v, h => by
  obtain ⟨t, e⟩ := Value.isInt_shape (k := i) (v := v) h
  exact .inl ⟨i, t, rfl, e⟩
 | .inr x, v, h => by
  obtain ⟨t, e⟩ := Value.isStrOf_shape (x := x) (v := v) h
  exact .inr ⟨x, t, rfl, e⟩
theorem Av (i : Int) (t : Tok) : sU (.inl i) (.int i t) = true := by simp [sU, Value.isInt]
theorem Au (x : Str) (t : Tok) : sU (.inr x) (.str x t) = true := by simp [sU, Value.isStrOf]
theorem FY (a b : Int) : decide ((Sum.inl a : Key) = Sum.inl b) = (a == b) := by
 by_cases e : a = b
 ·subst e; simp
 ·have h : ¬ (Sum.inl a : Key) = Sum.inl b := fun q => e (Sum.inl.inj q)
  rw [decide_eq_false h]
  exact (beq_eq_false_iff_ne.mpr e).symm
theorem Gf (a b : Str) : decide ((Sum.inr a : Key) = Sum.inr b) = decide (a = b) := by
 by_cases e : a = b
 ·subst e; simp
 ·have h : ¬ (Sum.inr a : Key) = Sum.inr b := fun q => e (Sum.inr.inj q)
  rw [decide_eq_false h, decide_eq_false e]
theorem F1 (a : Int) (b : Str) : decide ((Sum.inl a : Key) = Sum.inr b) = false := decide_eq_false (fun q => nomatch q)
theorem FP (a : Str) (b : Int) : decide ((Sum.inr a : Key) = Sum.inl b) = false := decide_eq_false (fun q => nomatch q)
def bG (prog : Program) (w : World) : PySem.KeyKind prog w Key where
 is := sU
 hash := Jm w
 inj := fun v a b ha hb => by
  rcases cu ha with ⟨i, t, rfl, rfl⟩ | ⟨x, t, rfl, rfl⟩
  ·rcases cu hb with ⟨j, u, rfl, e⟩ | ⟨y, u, rfl, e⟩
   ·injection e with e1 _; rw [e1]
   ·exact nomatch e
  ·rcases cu hb with ⟨j, u, rfl, e⟩ | ⟨y, u, rfl, e⟩
   ·exact nomatch e
   ·injection e with e1 _; rw [e1]
 byValue := fun k v h => by
  rcases cu h with ⟨i, t, rfl, rfl⟩ | ⟨x, t, rfl, rfl⟩ <;> rfl
 pyHash := fun hv h => by
  rcases cu hv with ⟨i, t, rfl, rfl⟩ | ⟨x, t, rfl, rfl⟩
  ·exact wpAny_pyHash_int h
  ·exact wpAny_pyHash_str h
 eqBool := fun hu hv h => by
  rcases cu hu with ⟨i, t, rfl, rfl⟩ | ⟨x, t, rfl, rfl⟩
  ·rcases cu hv with ⟨j, u, rfl, rfl⟩ | ⟨y, u, rfl, rfl⟩
   ·rw [FY] at h; exact wpAny_eqBool_int h
   ·rw [F1] at h; exact SeqAt.EqAt.int_str i t y u _ _ _ _ h
  ·rcases cu hv with ⟨j, u, rfl, rfl⟩ | ⟨y, u, rfl, rfl⟩
   ·rw [FP] at h; exact SeqAt.EqAt.str_int x t j u _ _ _ _ h
   ·rw [Gf] at h; exact wpAny_eqBool_str h
 «strs» := fun k x t v h => by
  rcases cu h with ⟨i, u, rfl, e⟩ | ⟨y, u, rfl, e⟩
  ·exact nomatch e
  ·injection e with e1 _
   subst e1
   cases v <;> rfl
theorem wR (prog : Program) (w : World) (i : Int) (t : Tok) : (bG prog w).is (.inl i) (.int i t) = true := Av i t
theorem wj (prog : Program) (w : World) (x : Str) (t : Tok) : (bG prog w).is (.inr x) (.str x t) = true := Au x t
inductive V where
 | non | bl (b : Bool) | int (i : Int) | str (x : Str) | byt (b : Array UInt8) | flt (b : UInt64) | ref (a : Addr) | ty (n : String)
 deriving DecidableEq
def RelV : V -> Value -> Prop
 | .non, u => u = Value.none
 | .bl b, u => u = Value.bool b
 | .int i, u => ∃ t, u = Value.int i t
 | .str x, u => ∃ t, u = Value.str x t
 | .byt b, u => ∃ t, u = Value.bytes b t
 | .flt b, u => ∃ t, u = Value.float b t
 | .ref a, u => u = Value.ref a
 | .ty n, u => u = Value.type n
abbrev Vals : List V -> List Value -> Prop := Paired RelV
theorem Vals.length {xs : List V} {us : List Value} (r : Vals xs us) : xs.length = us.length := Paired.length r
theorem Vals.get : ∀ {xs : List V} {us : List Value} {i : Nat} {x : V}, Vals xs us -> xs[i]? = some x -> ∃ u, us[i]? = some u /\ RelV x u
 | _, _, _, _, .nil, e => by simp at e
 | _, _, 0, _, .cons r _, e => by simp at e; subst e; exact ⟨_, rfl, r⟩
 | _, _, i + 1, x, .cons _ t, e => by
  obtain ⟨u, h1, h2⟩ := Vals.get (i := i) (x := x) t (by simpa using e)
  exact ⟨u, by simpa using h1, h2⟩
theorem Vals.set {x : V} {u : Value} (r : RelV x u) : ∀ {xs : List V} {us : List Value} (i : Nat), Vals xs us -> Vals (xs.set i x) (us.set i u)
 | _, _, _, .nil => .nil
 | _, _, 0, .cons _ t => .cons r t
 | _, _, i + 1, .cons q t => .cons q (Vals.set r i t)
theorem Vals.append : ∀ {xs ys : List V} {us ws : List Value}, Vals xs us -> Vals ys ws -> Vals (xs ++ ys) (us ++ ws)
 | _, _, _, _, .nil, s => s
 | _, _, _, _, .cons r t, s => .cons r (Vals.append t s)
def RelO : Option V -> Option Value -> Prop
 | some v, some u => RelV v u
 | none, none => True
 | _, _ => False
def KV {κ : Type} : List (κ × V) -> List (κ × Value) -> Prop := Paired fun (p : κ × V) (q : κ × Value) => p.1 = q.1 /\ RelV p.2 q.2
def kV : Key -> V
 | .inl i => .int i
 | .inr x => .str x
inductive HO where
  | lst (xs : List V)
  | tup (xs : List V)
  | dK (kvs : List (Key × V)) | dT (kvs : List (List Key × V))
  | set (S : Int -> Bool) (n : Nat)
  | ins (C dx : Addr) (fs : List (Str × V))
  | own (x : Addr)
  | xd (fs : List (Str × V))
  | met (f x : Addr)
  | rng (lo hi : Int)
  | frz (o : Obj) (u : HO)
  | tbl (ps : Array Value)
  | ext (φ : Heap -> Prop)
abbrev Hp := Addr -> Option HO
def upd (H : Hp) (a : Addr) (o : HO) : Hp := fun b => if b = a then some o else H b
theorem aJ {H : Hp} {a : Addr} {o : HO} : upd H a o a = some o := by unfold upd; rw [if_pos rfl]
theorem aA {H : Hp} {a b : Addr} {o : HO} (h : b ≠ a) : upd H a o b = H b := by unfold upd; rw [if_neg h]
theorem zo {H : Hp} {a : Addr} {o u : HO} : upd (upd H a o) a u = upd H a u := by
 funext b; unfold upd; split <;> rfl
theorem xV {H : Hp} {a b : Addr} {o u : HO} (h : H a = some o) (h' : H b = some u) (d : o ≠ u) : a ≠ b := by
 intro e; subst e; rw [h] at h'; exact d (Option.some.inj h')
theorem aP {H : Hp} {a b : Addr} {o : HO} (h : H a = some o) (h' : H b = none) : a ≠ b := by
 intro e; subst e; rw [h] at h'; cases h'
section
variable (P : Program) (w : World)
def ObjOk (H : Hp) (h : Heap) (a : Addr) : HO -> Prop
 | .lst xs => xs.length <= sizeLine /\ ∃ (its : List Value) (n : Nat), Vals xs its /\ h.get? a = some { cls := .type "list", data := .seq its.toArray n }
 | .tup xs => xs.length <= sizeLine /\ ∃ its : List Value, Vals xs its /\ IsTup h a its.toArray
 | .dK kvs => kvs.length <= sizeLine /\ (a == sysModules) = false /\ ∃ vs, KV kvs vs /\ h.DictOf (bG P w) a vs
 | .dT kvs => kvs.length <= sizeLine /\ (a == sysModules) = false /\ ∃ xs : List (List Key × Addr × Value),
   Paired (fun (p : List Key × V) (q : List Key × Addr × Value) => p.1 = q.1 /\ H q.2.1 = some (.tup (p.1.map kV)) /\ RelV p.2 q.2.2) kvs xs /\
   ∃ o es ep, h.get? a = some o /\ o.ExactDict /\ o.data = .dict es ep /\ es.toList = xs.map (entryOfKey (tupleKind (bG P w))) /\ (xs.map (·.1)).Nodup
 | .set S n => h.SetOf (intKind P w) a S n
 | .ins C dx fs => H dx = some (.own a) /\ fs.length <= 1000 /\ dx ≠ a /\ h.get? a = some (W.instObj C dx) /\
   ∃ mA, h.Ns1 dx mA /\ (∀ f, RelO (fs.lookup f) (mA f)) /\ PySem.Within mA (fs.map (·.1))
 | .own _ => ∃ o, h.get? a = some o
 | .xd fs => ∃ mA, h.Ns1 a mA /\ ∀ f, RelO (fs.lookup f) (mA f)
 | .rng lo hi => ∃ t u v, h.get? a = some { cls := .type "range", data := .fields #[.int lo t, .int hi u, .int 1 v] }
 | .frz o u => h.get? a = some o /\ ObjOk H h a u
 | .tbl ps => h.get? a = some { cls := .none, data := .fields ps }
 | .met f x => h.get? a = some (W.methodObj (.ref f) (.ref x))
 | .ext φ => φ h /\ (∃ o, h.get? a = some o) /\ ∀ h1 h2 : Heap, φ h1 -> (∀ o, h1.get? a = some o -> h2.get? a = some o) -> φ h2
def HOk (H : Hp) (h : Heap) : Prop := ∀ a o, H a = some o -> ObjOk P w H h a o
end
section
variable {P : Program} {w : World} {H H' : Hp} {h h' : Heap} {a : Addr} {o : HO}
theorem ObjOk.lt (x : ObjOk P w H h a o) : a < h.objs.size := by
 cases o with
 | lst xs => obtain ⟨_, _, _, _, e⟩ := x; exact Heap.lt_size e
 | tup xs => obtain ⟨_, _, _, p⟩ := x; exact p.lt
 | dK kvs => obtain ⟨_, _, _, _, o, _, _, e, _⟩ := x; exact Heap.lt_size e
 | dT kvs => obtain ⟨_, _, _, _, o, _, _, e, _⟩ := x; exact Heap.lt_size e
 | set S n => obtain ⟨o, _, _, _, e, _⟩ := x; exact Heap.lt_size e
 | ins C dx fs => obtain ⟨_, _, _, e, _⟩ := x; exact Heap.lt_size e
 | own y => obtain ⟨_, e⟩ := x; exact Heap.lt_size e
 | xd fs => obtain ⟨_, ⟨_, _, _, e, _⟩, _⟩ := x; exact Heap.lt_size e
 | rng lo hi => obtain ⟨_, _, _, e⟩ := x; exact Heap.lt_size e
 | frz ob u => obtain ⟨e, _⟩ := x; exact Heap.lt_size e
 | tbl ps => exact Heap.lt_size (show h.get? a = some _ from x)
 | met f y => exact Heap.lt_size (show h.get? a = some _ from x)
 | ext φ => obtain ⟨_, ⟨_, e⟩, _⟩ := x; exact Heap.lt_size e
theorem Paired.mapP {α β : Type} {F G : α -> β -> Prop} : ∀ {l₁ : List α} {l₂ : List β}, Paired F l₁ l₂ -> (∀ a b, F a b -> G a b) -> Paired G l₁ l₂
 | _, _, .nil, _ => .nil
 | _, _, .cons r t, f => .cons (f _ _ r) (Paired.mapP t f)
theorem ObjOk.stay (x : ObjOk P w H h a o) (k : ∀ b u, (b = a \/ H b = some (.own a)) -> h.get? b = some u -> h'.get? b = some u)
  (ho : ∀ b, H b = some (.own a) -> H' b = some (.own a)) (ht : ∀ b xs, H b = some (.tup xs) -> H' b = some (.tup xs)) : ObjOk P w H' h' a o := by
 induction o with
 | lst xs => obtain ⟨z, its, n, r, e⟩ := x; exact ⟨z, its, n, r, k _ _ (.inl rfl) e⟩
 | tup xs => obtain ⟨z, its, r, ob, e, c⟩ := x; exact ⟨z, its, r, ob, k _ _ (.inl rfl) e, c⟩
 | dK kvs => obtain ⟨z, y, vs, r, ob, es, ep, e, c⟩ := x; exact ⟨z, y, vs, r, ob, es, ep, k _ _ (.inl rfl) e, c⟩
 | dT kvs =>
  obtain ⟨z, y, xs, r, ob, es, ep, e, c⟩ := x
  exact ⟨z, y, xs, Paired.mapP r fun p q z => ⟨z.1, ht _ _ z.2.1, z.2.2⟩, ob, es, ep, k _ _ (.inl rfl) e, c⟩
 | set S n => obtain ⟨ob, es, ep, t, e, c⟩ := x; exact ⟨ob, es, ep, t, k _ _ (.inl rfl) e, c⟩
 | ins C dx fs =>
  obtain ⟨d, z, ne, e, mA, ⟨od, es, ep, e2, c⟩, r⟩ := x
  exact ⟨ho _ d, z, ne, k _ _ (.inl rfl) e, mA, ⟨od, es, ep, k _ _ (.inr d) e2, c⟩, r⟩
 | own y => obtain ⟨ob, e⟩ := x; exact ⟨ob, k _ _ (.inl rfl) e⟩
 | xd fs => obtain ⟨mA, ⟨od, es, ep, e, c⟩, r⟩ := x; exact ⟨mA, ⟨od, es, ep, k _ _ (.inl rfl) e, c⟩, r⟩
 | rng lo hi => obtain ⟨t, u, v, e⟩ := x; exact ⟨t, u, v, k _ _ (.inl rfl) e⟩
 | frz ob u ih => obtain ⟨e, q⟩ := x; exact ⟨k _ _ (.inl rfl) e, ih q⟩
 | tbl ps =>
  have e : h.get? a = some { cls := .none, data := .fields ps } := x
  show h'.get? a = some { cls := .none, data := .fields ps }
  exact k a _ (.inl rfl) e
 | met f y =>
  have e : h.get? a = some (W.methodObj (.ref f) (.ref y)) := x
  show h'.get? a = some (W.methodObj (.ref f) (.ref y))
  exact k a _ (.inl rfl) e
 | ext φ => obtain ⟨p, ⟨o, e⟩, st⟩ := x; exact ⟨st _ _ p fun o q => k _ _ (.inl rfl) q, ⟨o, k _ _ (.inl rfl) e⟩, st⟩
theorem HOk.lt (x : HOk P w H h) (e : H a = some o) : a < h.objs.size := (x a o e).lt
theorem HOk.fresh (x : HOk P w H h) (e : h.objs.size <= a) : H a = none := by
 cases q : H a with
 | none => rfl
 | some u => exact absurd (Nat.lt_of_lt_of_le (x.lt q) e) (Nat.lt_irrefl _)
theorem HOk.kept (x : HOk P w H h) (k : ∀ b u, h.get? b = some u -> h'.get? b = some u) : HOk P w H h' := fun a o e =>
 (x a o e).stay (fun b u _ q => k b u q) (fun _ q => q) fun _ _ q => q
theorem HOk.laid (x : HOk P w H h) (k : ∀ b u, h.get? b = some u -> h'.get? b = some u) (hp : h.objs.size <= a) (new : ObjOk P w (upd H a o) h' a o) : HOk P w (upd H a o) h' := fun b u e => by
 have hn := x.fresh hp
 by_cases hb : b = a
 ·subst hb; rw [aJ] at e; cases e; exact new
 ·rw [aA hb] at e
  exact (x b u e).stay (fun c v _ q => k c v q) (fun c q => by rw [aA (aP q hn)]; exact q) fun c xs q => by rw [aA (aP q hn)]; exact q
end
def Rd (H : Hp) (a : Addr) (u : HO) : Prop := H a = some u \/ ∃ o, H a = some (.frz o u)
theorem Rd.ok {P : Program} {w : World} {H : Hp} {h : Heap} {a : Addr} {u : HO} (r : Rd H a u) (x : HOk P w H h) : ObjOk P w H h a u := by
 rcases r with r | ⟨o, r⟩
 ·exact x a u r
 ·obtain ⟨_, q⟩ := x a _ r
  exact q
def Mut : Option HO -> Prop
 | some (.lst _) => True
 | some (.dK _) => True
 | some (.dT _) => True
 | some (.set _ _) => True
 | some (.ins _ _ _) => True
 | some (.ext _) => True
 | _ => False
section
variable {P : Program} {w : World} {H : Hp} {h h' : Heap} {x e : Addr} {o' : HO}
theorem HOk.write (ok : HOk P w H h) (mu : Mut (H x)) (he : e = x \/ H e = some (.own x)) (k : ∀ b u, b ≠ e -> h.get? b = some u -> h'.get? b = some u) (heo : ∃ u, h'.get? e = some u)
  (new : ObjOk P w (upd H x o') h' x o') : HOk P w (upd H x o') h' := fun b u q => by
 have nown : ∀ c y, H c = some (.own y) -> c ≠ x := fun c y r z => by subst z; rw [r] at mu; exact mu
 have ntup : ∀ c xs, H c = some (.tup xs) -> c ≠ x := fun c xs r z => by subst z; rw [r] at mu; exact mu
 by_cases hb : b = x
 ·subst hb; rw [aJ] at q; cases q; exact new
 ·rw [aA hb] at q
  by_cases hbe : b = e
  ·have q' : H b = some (.own x) := by
    rcases he with z | z
    ·exact absurd (hbe.trans z) hb
    ·rw [hbe]; exact z
   rw [q] at q'; cases q'
   obtain ⟨v, hv⟩ := heo
   exact ⟨v, by rw [hbe]; exact hv⟩
  ·refine (ok b u q).stay (fun c v hc r => k c v ?_ r) (fun c r => by rw [aA (nown c b r)]; exact r) fun c xs r => by rw [aA (ntup c xs r)]; exact r
   rcases hc with rfl | hc
   ·exact hbe
   ·rintro rfl
    rcases he with z | z
    ·exact nown c b hc z
    ·rw [hc] at z; cases z; exact hb rfl
end
structure Un (fs ex : List Addr) (H H' : Hp) (h h' : Heap) : Prop where
 keep : ∀ b o, h.get? b = some o -> H b = none -> b ∉ fs -> b ∉ ex -> h'.get? b = some o
 slot : ∀ b o, h.get? b = some o -> H b = none -> b ∈ fs -> b ∉ ex -> ∃ sl, h'.get? b = some { o with slots := sl }
 free : ∀ b o, h.get? b = some o -> H b = none -> b ∉ ex -> H' b = none
 there : ∀ b o, h.get? b = some o -> b ∉ ex -> ∃ o', h'.get? b = some o'
 tups : ∀ b xs, H b = some (.tup xs) -> H' b = some (.tup xs)
 frzs : ∀ b o u, H b = some (.frz o u) -> H' b = some (.frz o u)
 tbls : ∀ b ps, H b = some (.tbl ps) -> ∃ more, H' b = some (.tbl (ps ++ more))
section
variable {fs fs' ex ex' : List Addr} {H H1 H2 : Hp} {h h1 h2 h' : Heap} {a x e : Addr} {o : HO}
theorem Un.any (u : Un fs ex H H1 h h1) {b : Addr} {ob : Obj} (q : h.get? b = some ob) (n : H b = none) (hx : b ∉ ex) : ∃ sl, h1.get? b = some { ob with slots := sl } := by
 by_cases hb : b ∈ fs
 ·exact u.slot b ob q n hb hx
 ·exact ⟨ob.slots, u.keep b ob q n hb hx⟩
theorem Un.trans (a : Un fs ex H H1 h h1) (b : Un fs ex H1 H2 h1 h2) : Un fs ex H H2 h h2 where
 keep := fun c ob q n hc hx => b.keep c ob (a.keep c ob q n hc hx) (a.free c ob q n hx) hc hx
 slot := fun c ob q n hc hx => by
  obtain ⟨sl, e1⟩ := a.slot c ob q n hc hx
  obtain ⟨sl', e2⟩ := b.slot c _ e1 (a.free c ob q n hx) hc hx
  exact ⟨sl', e2⟩
 free := fun c ob q n hx => by
  obtain ⟨o', e1⟩ := a.there c ob q hx
  exact b.free c o' e1 (a.free c ob q n hx) hx
 there := fun c ob q hx => by
  obtain ⟨o', e1⟩ := a.there c ob q hx
  exact b.there c o' e1 hx
 tups := fun c xs q => b.tups c xs (a.tups c xs q)
 frzs := fun c ob xs q => b.frzs c ob xs (a.frzs c ob xs q)
 tbls := fun c ps q => by
  obtain ⟨m1, e1⟩ := a.tbls c ps q
  obtain ⟨m2, e2⟩ := b.tbls c _ e1
  exact ⟨m1 ++ m2, by rw [e2, Array.append_assoc]⟩
theorem Un.kept (k : ∀ b u, h.get? b = some u -> h'.get? b = some u) : Un fs ex H H h h' :=
 ⟨fun b ob q _ _ _ => k b ob q, fun b ob q _ _ _ => ⟨ob.slots, k b ob q⟩, fun _ _ _ n _ => n, fun b ob q _ => ⟨ob, k b ob q⟩, fun _ _ q => q, fun _ _ _ q => q, fun _ ps q => ⟨#[], by rw [q]; simp⟩⟩
theorem Un.refl : Un fs ex H H h h := Un.kept fun _ _ q => q
theorem Un.laid (k : ∀ b u, h.get? b = some u -> h'.get? b = some u) (hp : h.objs.size <= a) (hn : H a = none) : Un fs ex H (upd H a o) h h' where
 keep := fun b u q _ _ _ => k b u q
 slot := fun b u q _ _ _ => ⟨u.slots, k b u q⟩
 free := fun b u q n _ => by rw [aA (Nat.ne_of_lt (Nat.lt_of_lt_of_le (Heap.lt_size q) hp))]; exact n
 there := fun b u q _ => ⟨u, k b u q⟩
 tups := fun b xs q => by rw [aA (aP q hn)]; exact q
 frzs := fun b u xs q => by rw [aA (aP q hn)]; exact q
 tbls := fun b ps q => ⟨#[], by rw [aA (aP q hn), q]; simp⟩
theorem Un.write (mu : Mut (H x)) (he : e = x \/ H e = some (.own x)) (k : ∀ b u, b ≠ e -> h.get? b = some u -> h'.get? b = some u) (heo : ∃ u, h'.get? e = some u) : Un fs ex H (upd H x o) h h' := by
 have hx : ∀ b, H b = none -> b ≠ x := fun b n z => by subst z; rw [n] at mu; exact mu
 have hb : ∀ b, H b = none -> b ≠ e := fun b n z => by
  subst z
  rcases he with r | r
  ·exact hx b n r
  ·rw [n] at r; cases r
 have hm : ∀ b u, H b = some u -> ¬ Mut (some u) -> b ≠ x := fun b u q nm z => by subst z; rw [q] at mu; exact nm mu
 refine ⟨fun b u q n _ _ => k b u (hb b n) q, fun b u q n _ _ => ⟨u.slots, k b u (hb b n) q⟩, fun b u q n _ => by rw [aA (hx b n)]; exact n, fun b u q _ => ?_,
  fun b xs q => by rw [aA (hm b _ q fun z => z)]; exact q, fun b u xs q => by rw [aA (hm b _ q fun z => z)]; exact q, fun b ps q => ⟨#[], by rw [aA (hm b _ q fun z => z), q]; simp⟩⟩
 by_cases hbe : b = e
 ·subst hbe; exact heo
 ·exact ⟨u, k b u hbe q⟩
end
def trk (h : Heap) (H : Hp) : List Addr := (List.range h.objs.size).filter fun a => (H a).isSome
def vq (h : Heap) (H : Hp) : Heap := W.hideAll h (trk h H)
theorem Ap (h : Heap) (H : Hp) : (vq h H).objs.size = h.objs.size := W.hideAll_size _ _
theorem Bt {h : Heap} {H : Hp} {b : Addr} {o : Obj} (e : h.get? b = some o) (n : H b = none) : (vq h H).get? b = some o :=
 W.hideAll_get _ e fun hm => by
  have q : (H b).isSome = true := (List.mem_filter.mp hm).2
  rw [n] at q; simp at q
theorem Eu {h : Heap} {H : Hp} {b : Addr} {o : Obj} (e : (vq h H).get? b = some o) : h.get? b = some o /\ H b = none := by
 have e' : h.get? b = some o := W.of_hideAll (trk h H) e
 refine ⟨e', ?_⟩
 cases q : H b with
 | none => rfl
 | some x =>
  have hm : b ∈ trk h H := List.mem_filter.mpr ⟨List.mem_range.mpr (Heap.lt_size e'), by simp [q]⟩
  have z : (vq h H).get? b = none := W.hideAll_none (trk h H) hm
  rw [z] at e; cases e
def D0 (g h : Heap) (L : Addr) : List (Addr × Obj) := (List.range h.objs.size).filterMap fun a => if a = L \/ (g.get? a).isSome = true then none else (h.get? a).map fun o => (a, o)
def c9 (g h : Heap) (L d : Addr) : List (Addr × Obj) := (D0 g h L).filter fun p => decide (p.1 ≠ d)
structure Mod (K : W.Frag) (mg : Str -> Option Value) (base : Heap) : Prop where
 kin : K.In base
 glob : base.Ns mainGlobals mg
 blt : ∃ mb, base.Ns builtinsNs mb /\ ∀ x : Str, x ≠ "__name__" -> mb x = bootBuiltins x
 nolimit : base.NoLimit
structure Cx where
 prog : Program
 w : World
 K : W.Frag
 mg : Str -> Option Value
 base : Heap
 A : Around
 N : List Str
 s₀ : Shared
 H₀ : Hp
 env : Env
 outer : List Env
 stack : List Env
 ex : List Addr
 fn : Str -> Bool
 calm : Bool
 pn : List (Addr × Obj)
 xe : Value -> Shared -> Prop
def frs (l : List Env) : List Addr := l.filterMap (·.frame)
abbrev Cx.fs (X : Cx) : List Addr := frs X.outer
def Vis (sc : Scope) (x : Str) : Prop := sc.names.lookup x = some .local \/ sc.names.lookup x = some .cell \/ sc.names.lookup x = some .free
def Loc (sc : Scope) (x : Str) : Prop := sc.names.lookup x = some .local \/ sc.names.lookup x = some .cell
def IA (env : Env) (h : Heap) (m : Str -> Option Value) (x : Str) (u : Value) : Prop :=
 (env.kindOf x = some .local /\ m x = some u) \/ ((env.kindOf x = some .cell \/ env.kindOf x = some .free) /\ ∃ c, env.cells.lookup x = some c /\ h.IsCell c (some u))
structure Cx.Ok (X : Cx) : Prop where
 mod : Mod X.K X.mg X.base
 kind : X.env.scope.kind = .function
 glob : X.env.globals = mainGlobals
 blt : X.env.builtins = builtinsNs
 above : X.s₀.heap.objs.size <= X.env.locals
 inj : ∀ x y c, X.env.cells.lookup x = some c -> X.env.cells.lookup y = some c -> x = y
 has : ∀ x, (X.env.kindOf x = some .cell \/ X.env.kindOf x = some .free) -> ∃ c, X.env.cells.lookup x = some c
 cab : ∀ x c, X.fn x = true -> X.env.cells.lookup x = some c -> X.s₀.heap.objs.size <= c
 hd : X.calm = true -> X.A.handled = none
 frames : X.A.frames = some X.stack
 stk : X.stack = X.outer \/ (X.stack = X.env :: X.outer /\ X.env.frame = some X.env.locals)
 exf : ∀ b ∈ X.ex, b ≠ X.env.locals /\ ∀ x c, X.env.cells.lookup x = some c -> c ≠ b
 bs : ∀ b o, X.base.get? b = some o -> X.s₀.heap.get? b = some o /\ X.H₀ b = none
 bsz : X.base.objs.size <= X.s₀.heap.objs.size
 noex : ∀ b o, X.base.get? b = some o -> b ∉ X.ex
 exfs : ∀ b ∈ X.ex, b ∉ X.fs
 funs : X.s₀.heap.FunFrames X.base X.outer
 frf : ∀ b ∈ X.fs, X.H₀ b = none
structure Inv (X : Cx) (pins : List (Addr × Obj)) (σ : List (Option V)) (H : Hp) (s : Shared) : Prop where
 ok : X.Ok
 os : s.os = X.s₀.os
 bare : AllBare s.gens
 base : Un X.fs X.ex X.H₀ H X.s₀.heap s.heap
 loc : ∃ m, s.heap.Ns X.env.locals m /\ ∀ (i : Nat) (x : Str) (v : V), X.N[i]? = some x -> σ[i]? = some (some v) -> Vis X.env.scope x -> ∃ u, RelV v u /\ IA X.env s.heap m x u
 cell : ∀ x c, X.env.cells.lookup x = some c -> ∃ v, s.heap.IsCell c v
 free : H X.env.locals = none
 freeC : ∀ x c, X.env.cells.lookup x = some c -> H c = none
 pin : ∀ p ∈ X.pn ++ pins, s.heap.get? p.1 = some p.2 /\ H p.1 = none /\ p.1 ≠ X.env.locals /\ p.1 ∉ X.fs /\ ∀ v, p.2.data ≠ .cell v
 hok : HOk X.prog X.w H s.heap
 len : σ.length = X.N.length
section
variable {X : Cx} {pins : List (Addr × Obj)} {σ : List (Option V)} {H H' : Hp} {s : Shared} {h' : Heap}
theorem Cx.Ok.nofr (ok : X.Ok) {b : Addr} {o : Obj} (e : X.base.get? b = some o) : b ∉ X.fs := fun hb => by
 have := (ok.funs.mem hb).1
 rw [e] at this; cases this
theorem Inv.bs (I : Inv X pins σ H s) : ∀ b o, X.base.get? b = some o -> s.heap.get? b = some o /\ H b = none := fun b o e =>
 ⟨I.base.keep b o (I.ok.bs b o e).1 (I.ok.bs b o e).2 (I.ok.nofr e) (I.ok.noex b o e), I.base.free b o (I.ok.bs b o e).1 (I.ok.bs b o e).2 (I.ok.noex b o e)⟩
theorem Inv.bk (I : Inv X pins σ H s) : ∀ b o, X.base.get? b = some o -> s.heap.get? b = some o := fun b o e => (I.bs b o e).1
theorem Inv.mod (I : Inv X pins σ H s) : Mod X.K X.mg X.base := I.ok.mod
theorem Inv.kIn (I : Inv X pins σ H s) : X.K.In s.heap := I.ok.mod.kin.keeps I.bk
theorem Inv.fr (I : Inv X pins σ H s) : ∃ m, Fr X.base X.env.locals s.heap m :=
 let ⟨m, hn, _⟩ := I.loc
 ⟨m, hn, I.bk, Nat.le_trans I.ok.bsz I.ok.above⟩
theorem Inv.lt (I : Inv X pins σ H s) : X.env.locals < s.heap.objs.size := let ⟨_, hn, _⟩ := I.loc; hn.lt
theorem Inv.sz (I : Inv X pins σ H s) : X.s₀.heap.objs.size <= s.heap.objs.size := Nat.le_trans I.ok.above (Nat.le_of_lt I.lt)
theorem Inv.nofs (I : Inv X pins σ H s) {a : Addr} (h : s.heap.objs.size <= a) : a ∉ X.fs := fun hb => by
 obtain ⟨_, o, ho, _⟩ := I.ok.funs.mem hb
 exact absurd (Nat.lt_of_lt_of_le (Heap.lt_size ho) (Nat.le_trans I.sz h)) (Nat.lt_irrefl _)
theorem Inv.cne (I : Inv X pins σ H s) : ∀ x c, X.env.cells.lookup x = some c -> c ≠ X.env.locals := fun x c e z => by
 obtain ⟨v, o, ho, hd⟩ := I.cell x c e
 obtain ⟨m, ⟨o', es, ep, ho', hd', _⟩, _⟩ := I.loc
 rw [z, ho'] at ho; cases ho; rw [hd'] at hd; cases hd
theorem Inv.funs (I : Inv X pins σ H s) : s.heap.FunFrames X.base X.outer := by
 have all : ∀ (l : List Env), (∀ b ∈ frs l, b ∈ X.fs) -> X.s₀.heap.FunFrames X.base l -> s.heap.FunFrames X.base l := by
  intro l
  induction l with
  | nil => intro _ _; trivial
  | cons env r ih =>
   intro hs hl
   obtain ⟨hk, ⟨L, o, hf, hn, ho, hd⟩, hr⟩ := hl
   have hL : L ∈ X.fs := hs L (by unfold frs; rw [List.filterMap_cons, hf]; exact List.mem_cons_self)
   obtain ⟨sl, e⟩ := I.base.slot L o ho (I.ok.frf L hL) hL fun z => I.ok.exfs L z hL
   exact ⟨hk, ⟨L, _, hf, hn, e, hd⟩, ih (fun b hb => hs b (by unfold frs; rw [List.filterMap_cons, hf]; exact List.mem_cons_of_mem _ hb)) hr⟩
 exact all X.outer (fun _ hb => hb) I.ok.funs
theorem Inv.stack (I : Inv X pins σ H s) : s.heap.FunFrames X.base X.stack := by
 rcases I.ok.stk with e | ⟨e, hf⟩
 ·rw [e]; exact I.funs
 ·rw [e]
  obtain ⟨m, hn, _⟩ := I.loc
  refine .cons (by rw [I.ok.kind]; decide) hf hn ?_ I.funs
  exact Heap.get?_none_of_le (Nat.le_trans I.ok.bsz I.ok.above)
theorem Inv.stkSub (I : Inv X pins σ H s) : ∀ b ∈ frs X.stack, b ∈ X.env.locals :: X.fs := fun b hb => by
 rcases I.ok.stk with e | ⟨e, hf⟩
 ·rw [e] at hb; exact List.mem_cons_of_mem _ hb
 ·rw [e] at hb
  unfold frs at hb
  rw [List.filterMap_cons, hf] at hb
  exact hb
theorem Inv.stkFree (I : Inv X pins σ H s) : ∀ b ∈ frs X.stack, H b = none := fun b hb => by
 rcases List.mem_cons.mp (I.stkSub b hb) with e | hb
 ·rw [e]; exact I.free
 ·obtain ⟨_, o, ho, _⟩ := I.ok.funs.mem hb
  exact I.base.free b o ho (I.ok.frf b hb) fun z => I.ok.exfs b z hb
theorem Inv.step {g' : Array GenState} {t' : Nat} {d' : Drawn} {ch : List Addr} (I : Inv X pins σ H s)
  (hch : ∀ b ∈ ch, (b ∈ X.ex \/ X.s₀.heap.objs.size <= b) /\ b ≠ X.env.locals /\ (∀ x c, X.env.cells.lookup x = some c -> c ≠ b) /\ ∀ p ∈ X.pn ++ pins, p.1 ≠ b)
  (keep : ∀ b o, b ≠ X.env.locals -> b ∉ X.fs -> b ∉ ch -> s.heap.get? b = some o -> H b = none -> h'.get? b = some o)
  (slot : ∀ b o, b ≠ X.env.locals -> b ∈ X.fs -> b ∉ ch -> s.heap.get? b = some o -> H b = none -> ∃ sl, h'.get? b = some { o with slots := sl }) (free : ∀ b o, b ∉ ch -> s.heap.get? b = some o -> H b = none -> H' b = none)
  (there : ∀ b o, b ∉ ch -> s.heap.get? b = some o -> ∃ o', h'.get? b = some o')
  (tups : ∀ b xs, H b = some (.tup xs) -> H' b = some (.tup xs)) (frzs : ∀ b o u, H b = some (.frz o u) -> H' b = some (.frz o u)) (tbls : ∀ b ps, H b = some (.tbl ps) -> ∃ more, H' b = some (.tbl (ps ++ more)))
  (ns : ∀ m, s.heap.Ns X.env.locals m -> h'.Ns X.env.locals m) (hok : HOk X.prog X.w H' h') (hg : AllBare g') :
  Inv X pins σ H' { s with heap := h', gens := g', drawn := d', toks := t' } := by
 have neL : ∀ b o, X.s₀.heap.get? b = some o -> b ≠ X.env.locals := fun b o e => Nat.ne_of_lt (Nat.lt_of_lt_of_le (Heap.lt_size e) I.ok.above)
 have neC : ∀ b o, X.s₀.heap.get? b = some o -> b ∉ X.ex -> b ∉ ch := fun b o e hx hb => by
  rcases (hch b hb).1 with z | z
  ·exact hx z
  ·exact absurd (Nat.lt_of_lt_of_le (Heap.lt_size e) z) (Nat.lt_irrefl _)
 have cellK : ∀ x c, X.env.cells.lookup x = some c -> ∀ v, s.heap.IsCell c v -> h'.IsCell c v := fun x c e v hpt0 => by
  obtain ⟨o, ho, hd⟩ := hpt0
  have nch : c ∉ ch := fun z => (hch c z).2.2.1 x c e rfl
  by_cases hc : c ∈ X.fs
  ·obtain ⟨sl, q⟩ := slot c o (I.cne x c e) hc nch ho (I.freeC x c e)
   exact ⟨_, q, hd⟩
  ·exact ⟨o, keep c o (I.cne x c e) hc nch ho (I.freeC x c e), hd⟩
 refine ⟨I.ok, I.os, hg, ⟨fun b o e n hb hx => ?_, fun b o e n hb hx => ?_, fun b o e n hx => ?_, fun b o e hx => ?_, fun b xs e => tups b xs (I.base.tups b xs e), fun b o xs e => frzs b o xs (I.base.frzs b o xs e), fun b ps e => ?_⟩, ?_, fun x c e => ?_, ?_, fun x c e => ?_, fun p hp => ?_, hok, I.len⟩
 ·exact keep b o (neL b o e) hb (neC b o e hx) (I.base.keep b o e n hb hx) (I.base.free b o e n hx)
 ·obtain ⟨sl, e1⟩ := I.base.slot b o e n hb hx
  obtain ⟨sl', e2⟩ := slot b _ (neL b o e) hb (neC b o e hx) e1 (I.base.free b o e n hx)
  exact ⟨sl', e2⟩
 ·obtain ⟨o', e1⟩ := I.base.there b o e hx
  exact free b o' (neC b o e hx) e1 (I.base.free b o e n hx)
 ·obtain ⟨o', e1⟩ := I.base.there b o e hx
  exact there b o' (neC b o e hx) e1
 ·obtain ⟨m1, e1⟩ := I.base.tbls b ps e
  obtain ⟨m2, e2⟩ := tbls b _ e1
  exact ⟨m1 ++ m2, by rw [e2, Array.append_assoc]⟩
 ·obtain ⟨m, hn, hl⟩ := I.loc
  refine ⟨m, ns m hn, fun i x v e1 e2 e3 => ?_⟩
  obtain ⟨u, r, l⟩ := hl i x v e1 e2 e3
  refine ⟨u, r, ?_⟩
  rcases l with l | ⟨k, c, e, z⟩
  ·exact .inl l
  ·exact .inr ⟨k, c, e, cellK x c e _ z⟩
 ·obtain ⟨v, z⟩ := I.cell x c e
  exact ⟨v, cellK x c e v z⟩
 ·obtain ⟨m, ⟨o, _, _, ho, _⟩, _⟩ := I.loc
  exact free _ o (fun z => (hch _ z).2.1 rfl) ho I.free
 ·obtain ⟨v, o, ho, hd⟩ := I.cell x c e
  exact free c o (fun z => (hch c z).2.2.1 x c e rfl) ho (I.freeC x c e)
 ·obtain ⟨e, n, ne, nf, d⟩ := I.pin p hp
  have nch : p.1 ∉ ch := fun z => (hch p.1 z).2.2.2 p hp rfl
  exact ⟨keep p.1 p.2 ne nf nch e n, free p.1 p.2 nch e n, ne, nf, d⟩
theorem Inv.un {t' : Nat} (I : Inv X pins σ H s) (u : Un X.fs [] H H' s.heap h') (hok : HOk X.prog X.w H' h') : Inv X pins σ H' { s with heap := h', toks := t' } := by
 obtain ⟨m, ⟨o, es, ep, ho, r⟩, _⟩ := id I.loc
 obtain ⟨sl, hL⟩ := u.any ho I.free (by simp)
 exact I.step (g' := s.gens) (d' := s.drawn) (ch := []) (fun _ z => nomatch z) (fun b o _ hb _ e n => u.keep b o e n hb (by simp)) (fun b o _ hb _ e n => u.slot b o e n hb (by simp)) (fun b o _ e n => u.free b o e n (by simp)) (fun b o _ e => u.there b o e (by simp)) u.tups u.frzs u.tbls (fun m' hm => by
  obtain ⟨o', es', ep', ho', r'⟩ := hm
  rw [ho] at ho'; cases ho'
  exact ⟨_, es', ep', hL, r'⟩) hok I.bare
theorem Inv.call {g' : Array GenState} {t' : Nat} {d' : Drawn} {ch : List Addr} (I : Inv X pins σ H s) (u : Un (frs X.stack) ch H H' s.heap h') (hok : HOk X.prog X.w H' h') (hg : AllBare g')
  (hch : ∀ b ∈ ch, (b ∈ X.ex \/ X.s₀.heap.objs.size <= b) /\ b ≠ X.env.locals /\ (∀ x c, X.env.cells.lookup x = some c -> c ≠ b) /\ ∀ p ∈ X.pn ++ pins, p.1 ≠ b) :
  Inv X pins σ H' { s with heap := h', gens := g', drawn := d', toks := t' } := by
 obtain ⟨m, ⟨o, es, ep, ho, r⟩, _⟩ := id I.loc
 obtain ⟨sl, hL⟩ := u.any ho I.free fun z => (hch _ z).2.1 rfl
 exact I.step (ch := ch) hch (fun b o hL hb hc e n => u.keep b o e n (fun z => (List.mem_cons.mp (I.stkSub b z)).elim hL hb) hc) (fun b o _ _ hc e n => u.any e n hc) (fun b o hc e n => u.free b o e n hc) (fun b o hc e => u.there b o e hc) u.tups u.frzs u.tbls (fun m' hm => by
  obtain ⟨o', es', ep', ho', r'⟩ := hm
  rw [ho] at ho'; cases ho'
  exact ⟨_, es', ep', hL, r'⟩) hok hg
theorem Inv.turned {t' : Nat} {it : Addr} (I : Inv X pins σ H s) (k : ∀ b o, b ≠ it -> s.heap.get? b = some o -> h'.get? b = some o) (hn : H it = none) (hL : it ≠ X.env.locals)
  (h1 : it ∈ X.ex \/ X.s₀.heap.objs.size <= it) (h2 : ∀ x c, X.env.cells.lookup x = some c -> c ≠ it) (h3 : ∀ p ∈ X.pn ++ pins, p.1 ≠ it) : Inv X pins σ H { s with heap := h', toks := t' } := by
 have nit : ∀ b u, H b = some u -> b ≠ it := fun b u e z => by rw [z, hn] at e; cases e
 refine I.step (g' := s.gens) (d' := s.drawn) (ch := [it]) (fun b hb => ?_) (fun b o _ _ hc e _ => k b o (fun z => hc (by simp [z])) e) (fun b o _ _ hc e _ => ⟨o.slots, k b o (fun z => hc (by simp [z])) e⟩) (fun _ _ _ _ n => n)
  (fun b o hc e => ⟨o, k b o (fun z => hc (by simp [z])) e⟩) (fun _ _ e => e) (fun _ _ _ e => e) (fun b ps e => ⟨#[], by rw [e]; simp⟩) (fun m hm => ?_) (fun b u e => ?_) I.bare
 ·have e : b = it := by simpa using hb
  subst e
  exact ⟨h1, hL, h2, h3⟩
 ·obtain ⟨o, es, ep, ho, r⟩ := hm
  exact ⟨o, es, ep, k _ o (Ne.symm hL) ho, r⟩
 ·refine (I.hok b u e).stay (fun c v hc q => k c v ?_ q) (fun _ q => q) fun _ _ q => q
  rcases hc with z | z
  ·rw [z]; exact nit b u e
  ·exact nit c _ z
theorem Inv.tok (I : Inv X pins σ H s) (t : Nat) : Inv X pins σ H { s with toks := t } := I.un (h' := s.heap) (t' := t) Un.refl I.hok
theorem Inv.kept {t' : Nat} (I : Inv X pins σ H s) (k : ∀ b u, s.heap.get? b = some u -> h'.get? b = some u) : Inv X pins σ H { s with heap := h', toks := t' } := I.un (Un.kept k) (I.hok.kept k)
theorem Inv.laid {a : Addr} {o : HO} {t' : Nat} (I : Inv X pins σ H s) (k : ∀ b u, s.heap.get? b = some u -> h'.get? b = some u) (hp : s.heap.objs.size <= a) (new : ObjOk X.prog X.w (upd H a o) h' a o) :
  Inv X pins σ (upd H a o) { s with heap := h', toks := t' } := I.un (Un.laid k hp (I.hok.fresh hp)) (I.hok.laid k hp new)
theorem Inv.write {x e : Addr} {o : HO} {t' : Nat} (I : Inv X pins σ H s) (mu : Mut (H x)) (he : e = x \/ H e = some (.own x)) (k : ∀ b u, b ≠ e -> s.heap.get? b = some u -> h'.get? b = some u) (heo : ∃ u, h'.get? e = some u)
  (new : ObjOk X.prog X.w (upd H x o) h' x o) : Inv X pins σ (upd H x o) { s with heap := h', toks := t' } := I.un (Un.write mu he k heo) (I.hok.write mu he k heo new)
theorem Inv.weak {σ' : List (Option V)} (I : Inv X pins σ H s) (hl : σ'.length = σ.length) (w : ∀ (i : Nat) v, σ'[i]? = some (some v) -> σ[i]? = some (some v)) : Inv X pins σ' H s :=
 ⟨I.ok, I.os, I.bare, I.base, let ⟨m, hn, hl'⟩ := I.loc; ⟨m, hn, fun i x v e1 e2 e3 => hl' i x v e1 (w i v e2) e3⟩, I.cell, I.free, I.freeC, I.pin, I.hok, hl.trans I.len⟩
theorem Inv.pins_of {pins' : List (Addr × Obj)} (I : Inv X pins σ H s) (h : ∀ p ∈ pins', s.heap.get? p.1 = some p.2 /\ H p.1 = none /\ p.1 ≠ X.env.locals /\ p.1 ∉ X.fs /\ ∀ v, p.2.data ≠ .cell v) : Inv X pins' σ H s :=
 ⟨I.ok, I.os, I.bare, I.base, I.loc, I.cell, I.free, I.freeC, fun p hp => (List.mem_append.mp hp).elim (fun z => I.pin p (List.mem_append_left _ z)) (h p), I.hok, I.len⟩
theorem pM {N : List Str} (hN : N.Nodup) {i j : Nat} {x : Str} (a : N[i]? = some x) (b : N[j]? = some x) : i = j := by
 obtain ⟨h1, e1⟩ := List.getElem?_eq_some_iff.mp a
 obtain ⟨h2, e2⟩ := List.getElem?_eq_some_iff.mp b
 exact (List.getElem_inj hN).mp (e1.trans e2.symm)
theorem AN {M : Model} {A : Around} {E : Value -> Shared -> Prop} {i : Nat} {x : Str} {v : V} {u : Value} {Q : Unit -> Shared -> Prop} (I : Inv X pins σ H s) (hN : X.N.Nodup) (hi : X.N[i]? = some x) (hx : Loc X.env.scope x) (r : RelV v u)
  (h : ∀ s', Inv X pins (σ.set i (some v)) H s' -> (∃ a, Heap.SameBut a s.heap s'.heap /\ (a = X.env.locals \/ X.env.cells.lookup x = some a)) -> Q () s') (hf : X.fn x = true \/ X.env.scope.names.lookup x = some .local := by first | exact .inl rfl | exact .inr rfl | assumption) : wpAny M A (storeName X.env x u) Q E s := by
 obtain ⟨m, hn, hl⟩ := id I.loc
 have hcls : (X.env.scope.kind == .class || (X.env.scope.kind == .module && X.env.locals != X.env.globals)) = false := by rw [I.ok.kind]; rfl
 have hiσ : i < σ.length := by rw [I.len]; exact (List.getElem?_eq_some_iff.mp hi).1
 have cne := I.cne
 have tracked : ∀ {a : Addr} {h' : Heap}, (∃ o, s.heap.get? a = some o /\ H a = none) -> Heap.SameBut a s.heap h' -> HOk X.prog X.w H h' := fun {a h'} ha hs b ob e => by
  obtain ⟨_, _, hfree⟩ := ha
  refine (I.hok b ob e).stay (fun c w' hc q => (hs.2 c ?_).trans q) (fun _ q => q) fun _ _ q => q
  rintro rfl
  rcases hc with rfl | hc
  ·rw [hfree] at e; cases e
  ·rw [hfree] at hc; cases hc
 rcases hx with hk | hk
 ·refine wpAny_storeName_local hk hn (fun h' hn' hs => ?_) hcls
  obtain ⟨oL, _, _, hoL, _⟩ := id hn
  refine h _ ⟨I.ok, I.os, I.bare, ⟨fun b o e n hb hx => ?_, fun b o e n hb hx => ?_, I.base.free, fun b o e hx => ?_, I.base.tups, I.base.frzs, I.base.tbls⟩, ⟨_, hn', fun j y v' e1 e2 e3 => ?_⟩, fun y c e => ?_, I.free, I.freeC, fun p hp => ?_, tracked ⟨oL, hoL, I.free⟩ hs, by simpa using I.len⟩ ⟨_, hs, .inl rfl⟩
  ·exact (hs.2 b (Nat.ne_of_lt (Nat.lt_of_lt_of_le (Heap.lt_size e) I.ok.above))).trans (I.base.keep b o e n hb hx)
  ·obtain ⟨sl, e1⟩ := I.base.slot b o e n hb hx
   exact ⟨sl, (hs.2 b (Nat.ne_of_lt (Nat.lt_of_lt_of_le (Heap.lt_size e) I.ok.above))).trans e1⟩
  ·obtain ⟨o', e1⟩ := I.base.there b o e hx
   exact ⟨o', (hs.2 b (Nat.ne_of_lt (Nat.lt_of_lt_of_le (Heap.lt_size e) I.ok.above))).trans e1⟩
  ·by_cases hj : j = i
   ·subst hj
    rw [hi] at e1; cases e1
    rw [List.getElem?_set_self hiσ] at e2
    cases e2
    exact ⟨u, r, .inl ⟨hk, by simp⟩⟩
   ·rw [List.getElem?_set_ne (Ne.symm hj)] at e2
    obtain ⟨u', r', q⟩ := hl j y v' e1 e2 e3
    refine ⟨u', r', ?_⟩
    rcases q with ⟨k, e⟩ | ⟨k, c, e, z⟩
    ·refine .inl ⟨k, ?_⟩
     have : y ≠ x := fun e => hj (pM hN e1 (e ▸ hi))
     simp [this, e]
    ·exact .inr ⟨k, c, e, z.sameBut hs (cne y c e)⟩
  ·obtain ⟨w', z⟩ := I.cell y c e
   exact ⟨w', z.sameBut hs (cne y c e)⟩
  ·obtain ⟨e, n, ne, nf, d⟩ := I.pin p hp
   exact ⟨(hs.2 p.1 ne).trans e, n, ne, nf, d⟩
 ·have hfn : X.fn x = true := by
   rcases hf with z | z
   ·exact z
   ·rw [z] at hk; cases hk
  obtain ⟨c, hc⟩ := I.ok.has x (.inl hk)
  obtain ⟨w', z⟩ := I.cell x c hc
  refine wpAny_storeName_cell I.ok.kind hk hc z (fun h' hc' hs => ?_)
  obtain ⟨oc, hoc, hocd⟩ := id z
  refine h { s with heap := h' } ⟨I.ok, I.os, I.bare, ⟨fun b o e n hb hx => ?_, fun b o e n hb hx => ?_, I.base.free, fun b o e hx => ?_, I.base.tups, I.base.frzs, I.base.tbls⟩, ⟨m, hn.sameBut hs (Ne.symm (cne x c hc)), fun j y v' e1 e2 e3 => ?_⟩, fun y c' e => ?_, I.free, I.freeC, fun p hp => ?_, tracked ⟨oc, hoc, I.freeC x c hc⟩ hs, by simpa using I.len⟩ ⟨c, hs, .inr hc⟩
  ·exact (hs.2 b (Nat.ne_of_lt (Nat.lt_of_lt_of_le (Heap.lt_size e) (I.ok.cab x c hfn hc)))).trans (I.base.keep b o e n hb hx)
  ·obtain ⟨sl, e1⟩ := I.base.slot b o e n hb hx
   exact ⟨sl, (hs.2 b (Nat.ne_of_lt (Nat.lt_of_lt_of_le (Heap.lt_size e) (I.ok.cab x c hfn hc)))).trans e1⟩
  ·obtain ⟨o', e1⟩ := I.base.there b o e hx
   exact ⟨o', (hs.2 b (Nat.ne_of_lt (Nat.lt_of_lt_of_le (Heap.lt_size e) (I.ok.cab x c hfn hc)))).trans e1⟩
  ·by_cases hj : j = i
   ·subst hj
    rw [hi] at e1; cases e1
    rw [List.getElem?_set_self hiσ] at e2
    cases e2
    exact ⟨u, r, .inr ⟨.inl hk, c, hc, hc'⟩⟩
   ·rw [List.getElem?_set_ne (Ne.symm hj)] at e2
    obtain ⟨u', r', q⟩ := hl j y v' e1 e2 e3
    refine ⟨u', r', ?_⟩
    rcases q with q | ⟨k, c', e, z'⟩
    ·exact .inl q
    ·refine .inr ⟨k, c', e, z'.sameBut hs ?_⟩
     rintro rfl
     exact hj (pM hN e1 (I.ok.inj _ _ _ e hc ▸ hi))
  ·by_cases hcc : c' = c
   ·subst hcc; exact ⟨_, hc'⟩
   ·obtain ⟨w2, z2⟩ := I.cell y c' e
    exact ⟨w2, z2.sameBut hs hcc⟩
  ·obtain ⟨e, n, ne, nf, d⟩ := I.pin p hp
   refine ⟨(hs.2 p.1 ?_).trans e, n, ne, nf, d⟩
   intro q
   rw [q, hoc] at e
   have q' : oc = p.2 := Option.some.inj e
   exact d w' (by rw [<- q']; exact hocd)
theorem pQ {M : Model} {A : Around} {E : Value -> Shared -> Prop} {i : Nat} {x : Str} {v : V} {u : Value} {Q : Unit -> Shared -> Prop} (I : Inv X pins σ H s) (hN : X.N.Nodup) (hi : X.N[i]? = some x) (hx : Loc X.env.scope x) (r : RelV v u)
  (h : ∀ s', Inv X pins (σ.set i (some v)) H s' -> Q () s') (hf : X.fn x = true \/ X.env.scope.names.lookup x = some .local := by first | exact .inl rfl | exact .inr rfl | assumption) : wpAny M A (storeName X.env x u) Q E s :=
 AN I hN hi hx r (fun s' I' _ => h s' I') hf
theorem Inv.call' {s' : Shared} {ch : List Addr} (I : Inv X pins σ H s) (ho : s'.os = s.os) (u : Un (frs X.stack) ch H H' s.heap s'.heap) (hok : HOk X.prog X.w H' s'.heap) (hg : AllBare s'.gens)
  (hch : ∀ b ∈ ch, (b ∈ X.ex \/ X.s₀.heap.objs.size <= b) /\ b ≠ X.env.locals /\ (∀ x c, X.env.cells.lookup x = some c -> c ≠ b) /\ ∀ p ∈ X.pn ++ pins, p.1 ≠ b) : Inv X pins σ H' s' := by
 obtain ⟨h', g', d', t', o'⟩ := s'
 have e : o' = s.os := ho
 subst e
 exact I.call (g' := g') (t' := t') (d' := d') u hok hg hch
end
abbrev XK := Value -> Option Addr -> Hp -> Prop
abbrev St := List (Option V)
abbrev VK := V -> Hp -> Prop
abbrev TE := St -> Hp -> VK -> Prop
abbrev TT := St -> Hp -> (Bool -> Hp -> Prop) -> Prop
abbrev TA := St -> Hp -> (List V -> Hp -> Prop) -> Prop
structure Ends where
 nx : St -> Hp -> Prop
 rt : VK
 bk : St -> Hp -> Prop := fun _ _ => False
 ct : St -> Hp -> Prop := fun _ _ => False
abbrev TS := Ends -> St -> Hp -> Prop
def EP (X : Cx) (pins : List (Addr × Obj)) (σ : St) (Q : VK) (u : Value) (s' : Shared) : Prop := ∃ v H', Inv X pins σ H' s' /\ RelV v u /\ Q v H'
def TP (X : Cx) (pins : List (Addr × Obj)) (σ : St) (Q : Bool -> Hp -> Prop) (b : Bool) (s' : Shared) : Prop := ∃ H', Inv X pins σ H' s' /\ Q b H'
def AP (X : Cx) (pins : List (Addr × Obj)) (σ : St) (Q : List V -> Hp -> Prop) (us : List Value) (s' : Shared) : Prop := ∃ vs H', Inv X pins σ H' s' /\ Vals vs us /\ Q vs H'
def SP (X : Cx) (pins : List (Addr × Obj)) (D : Ends) (f : Flow) (s' : Shared) : Prop :=
 match f with
 | .next => ∃ σ' H', Inv X pins σ' H' s' /\ D.nx σ' H'
 | .brk => ∃ σ' H', Inv X pins σ' H' s' /\ D.bk σ' H'
 | .cont => ∃ σ' H', Inv X pins σ' H' s' /\ D.ct σ' H'
 | .ret u => ∃ v σ' H', Inv X pins σ' H' s' /\ RelV v u /\ D.rt v H'
def PE (X : Cx) (e : Expr) (t : TE) : Prop :=
 ∀ (pins : List (Addr × Obj)) (s : Shared) (σ : St) (H : Hp) (Q : VK), Inv X pins σ H s -> t σ H Q -> wpAny (model X.prog X.w) X.A (eval e X.env) (EP X pins σ Q) X.xe s
def PT (X : Cx) (e : Expr) (t : TT) : Prop :=
 ∀ (pins : List (Addr × Obj)) (s : Shared) (σ : St) (H : Hp) (Q : Bool -> Hp -> Prop), Inv X pins σ H s -> t σ H Q -> wpAny (model X.prog X.w) X.A (isTrue e X.env (eval e X.env)) (TP X pins σ Q) X.xe s
def PW (X : Cx) (e : Expr) (t : TT) : Prop :=
 ∀ (whole : Sem Value) (pins : List (Addr × Obj)) (s : Shared) (σ : St) (H : Hp) (Q : Bool -> Hp -> Prop), Inv X pins σ H s -> t σ H Q -> wpAny (model X.prog X.w) X.A (isTrue e X.env whole) (TP X pins σ Q) X.xe s
theorem PW.pt {X : Cx} {e : Expr} {t : TT} (h : PW X e t) : PT X e t := h _
def PA (X : Cx) (es : List Expr) (t : TA) : Prop :=
 ∀ (pos : Pos) (pins : List (Addr × Obj)) (s : Shared) (σ : St) (H : Hp) (Q : List V -> Hp -> Prop), Inv X pins σ H s -> t σ H Q -> wpAny (model X.prog X.w) X.A (spliced (backTo pos (starEach es X.env))) (AP X pins σ Q) X.xe s
def PS (X : Cx) (st : Stmt) (t : TS) : Prop :=
 ∀ (pins : List (Addr × Obj)) (s : Shared) (σ : St) (H : Hp) (D : Ends), Inv X pins σ H s -> t D σ H -> wpAny (model X.prog X.w) X.A (exec st X.env) (SP X pins D) X.xe s
def PSs (X : Cx) (st : List Stmt) (t : TS) : Prop :=
 ∀ (pins : List (Addr × Obj)) (s : Shared) (σ : St) (H : Hp) (D : Ends), Inv X pins σ H s -> t D σ H -> wpAny (model X.prog X.w) X.A (execs st X.env) (SP X pins D) X.xe s
theorem thn {α : Type} {t : Sem α} {Q Q' : α -> Shared -> Prop} {M : Model} {A : Around} {E : Value -> Shared -> Prop} {s : Shared} (h : wpAny M A t Q E s) (hQ : ∀ a s, Q a s -> Q' a s) : wpAny M A t Q' E s := wpAny_mono h hQ fun _ _ x => x
section
variable {X : Cx}
def jG (i : Nat) : TE := fun σ H Q => ∃ v, σ[i]? = some (some v) /\ Q v H
def tC (v : V) : TE := fun _ H Q => Q v H
theorem FR {i : Nat} {x : Str} {pos : Pos} (hN : X.N[i]? = some x) (hv : Vis X.env.scope x) (hd : (x == ("__debug__" : Str)) = false := by decide) (hcd : (x == ("__classdict__" : Str)) = false := by decide) : PE X (.Name x pos) (jG i) := by
 intro pins s σ H Q I h
 obtain ⟨v, e, h⟩ := h
 obtain ⟨m, hn, hl⟩ := I.loc
 obtain ⟨u, r, l⟩ := hl i x v hN e hv
 have fin : EP X pins σ Q u s := ⟨v, H, I, r, h⟩
 rcases l with ⟨hk, hm⟩ | ⟨hk, c, hc, hcell⟩
 ·exact wpAny_Name (wpAny_loadName_local I.ok.kind hk hn hm fin) hd
 ·rcases hk with hk | hk
  ·exact wpAny_Name (wpAny_loadName_cell I.ok.kind hk hc hcell fin) hd
  ·exact wpAny_Name (wpAny_loadName_free I.ok.kind hk hc hcell fin hcd) hd
theorem av {i j pos} : PE X (.Constant (.int i) j pos) (tC (.int i)) := fun _ _ _ H _ I h => wpAny_Constant_int ⟨.int i, H, I.tok _, ⟨_, rfl⟩, h⟩
theorem eD {b j pos} : PE X (.Constant (.bool b) j pos) (tC (.bl b)) := fun _ _ _ H _ I h => Constant_bool ⟨.bl b, H, I, rfl, h⟩
theorem Gj {x j pos} : PE X (.Constant (.str x) j pos) (tC (.str x)) := fun _ _ _ H _ I h => Calls.Constant_str ⟨.str x, H, I.tok _, ⟨_, rfl⟩, h⟩
def Gl (X : Cx) (x : Str) : Prop := X.env.kindOf x = some .globalImplicit
theorem o8 {E : Value -> Shared -> Prop} {pins : List (Addr × Obj)} {s : Shared} {σ : St} {H : Hp} {x : Str} {u : Value} {pos : Pos} {Q : Value -> Shared -> Prop} (I : Inv X pins σ H s) (hg : Gl X x) (hm : X.mg x = some u) (h : Q u s)
  (hd : (x == ("__debug__" : Str)) = false := by decide) : wpAny (model X.prog X.w) X.A (eval (.Name x pos) X.env) Q E s :=
 Calls.Name_function_global I.ok.kind hg (Calls.loadGlobal_global (by rw [I.ok.glob]; exact I.mod.glob.keeps I.bk) hm h) hd
theorem pe {E : Value -> Shared -> Prop} {pins : List (Addr × Obj)} {s : Shared} {σ : St} {H : Hp} {x : Str} {u : Value} {pos : Pos} {Q : Value -> Shared -> Prop} (I : Inv X pins σ H s) (hg : Gl X x) (hm : X.mg x = none) (hv : bootBuiltins x = some u) (h : Q u s)
  (hn : x ≠ "__name__" := by decide) (hd : (x == ("__debug__" : Str)) = false := by decide) : wpAny (model X.prog X.w) X.A (eval (.Name x pos) X.env) Q E s := by
 obtain ⟨mb, h1, h2⟩ := I.mod.blt
 exact Calls.Name_function_global I.ok.kind hg (Calls.loadGlobal_builtin (by rw [I.ok.glob]; exact I.mod.glob.keeps I.bk) hm (by rw [I.ok.blt]; exact h1.keeps I.bk) ((h2 x hn).trans hv) h) hd
theorem o3 {x : Str} {v : V} {u : Value} {pos : Pos} (hg : Gl X x) (hm : X.mg x = some u) (r : RelV v u) (hd : (x == ("__debug__" : Str)) = false := by decide) : PE X (.Name x pos) (tC v) :=
 fun _ _ _ H _ I h => o8 I hg hm ⟨v, H, I, r, h⟩ hd
theorem Eo {x : Str} {v : V} {u : Value} {pos : Pos} (hg : Gl X x) (hm : X.mg x = none) (hv : bootBuiltins x = some u) (r : RelV v u) (hn : x ≠ "__name__" := by decide) (hd : (x == ("__debug__" : Str)) = false := by decide) : PE X (.Name x pos) (tC v) :=
 fun _ _ _ H _ I h => pe I hg hm hv ⟨v, H, I, r, h⟩ hn hd
variable {a b : Expr} {ta tb : TE} {pos : Pos}
def PC (X : Cx) (op : CmpOp) (a b : Expr) (t : TE) : Prop :=
 ∀ (pins : List (Addr × Obj)) (s : Shared) (σ : St) (H : Hp) (Q : VK), Inv X pins σ H s -> t σ H Q ->
  wpAny (model X.prog X.w) X.A (eval a X.env) (fun v s₁ => wpAny (model X.prog X.w) X.A (eval b X.env) (fun u s₂ => wpAny (model X.prog X.w) X.A (compareOp op v u) (EP X pins σ Q) X.xe s₂) X.xe s₁) X.xe s
def tB (t : TE) : TT := fun σ H Q => t σ H fun x H1 => ∃ c, x = .bl c /\ Q c H1
theorem Ce {op : CmpOp} {t : TE} (h : PC X op a b t) (h1 : behindInMarks op b = false := by first | exact nobehind _ (by decide) (by decide) | rfl) : PT X (.Compare a [op] [b] pos) (tB t) := by
 intro pins s σ H Q I hw
 refine wpAny_isTrue_Compare1 (thn (h pins s σ H _ I hw) fun v s1 h1 => thn h1 fun u s2 h2 => thn h2 fun c s3 hpt9 => ?_) h1
 obtain ⟨x, H1, I1, r1, q1⟩ := hpt9
 obtain ⟨d, rfl, q⟩ := q1
 cases r1
 exact wpAny_truthy_bool ⟨H1, I1, q⟩
variable {tA tB' : TT} {c9 : List Expr}
def G5 (t u : TT) : TT := fun σ H Q => t σ H fun c H1 => if c = true then u σ H1 Q else Q false H1
def tOr (t u : TT) : TT := fun σ H Q => t σ H fun c H1 => if c = true then Q true H1 else u σ H1 Q
def GL (t : TT) : TT := fun σ H Q => t σ H fun c H1 => Q (!c) H1
theorem y3 (ha : PT X a tA) : PW X (.BoolOp .And [a] pos) tA := by
 intro wh pins s σ H Q I h
 refine isTrue_and (thn (ha pins s σ H Q I h) fun c s1 e => ?_)
 cases c with
 | true => exact isTrue_and_nil e
 | false => exact e
theorem yI (ha : PT X a tA) : PW X (.BoolOp .Or [a] pos) tA := by
 intro wh pins s σ H Q I h
 refine isTrue_or (thn (ha pins s σ H Q I h) fun c s1 e => ?_)
 cases c with
 | false => exact isTrue_or_nil e
 | true => exact e
theorem DR (ha : PT X a tA) (hb : PW X (.BoolOp .And (b :: c9) pos) tB') : PW X (.BoolOp .And (a :: b :: c9) pos) (G5 tA tB') := by
 intro wh pins s σ H Q I h
 refine isTrue_and (thn (ha pins s σ H _ I h) fun c s1 hpt9 => ?_)
 obtain ⟨H1, I1, q1⟩ := hpt9
 cases c with
 | true => exact hb wh pins s1 σ H1 Q I1 q1
 | false => exact ⟨H1, I1, q1⟩
theorem BG (ha : PT X a tA) (hb : PW X (.BoolOp .Or (b :: c9) pos) tB') : PW X (.BoolOp .Or (a :: b :: c9) pos) (tOr tA tB') := by
 intro wh pins s σ H Q I h
 refine isTrue_or (thn (ha pins s σ H _ I h) fun c s1 hpt9 => ?_)
 obtain ⟨H1, I1, q1⟩ := hpt9
 cases c with
 | true => exact ⟨H1, I1, q1⟩
 | false => exact hb wh pins s1 σ H1 Q I1 q1
theorem yo (ha : PT X a tA) : PT X (.UnaryOp .Not a pos) (GL tA) := by
 intro pins s σ H Q I h
 exact isTrue_not (ha pins s σ H (fun c H1 => Q (!c) H1) I h)
def Fg (ta tb : TE) : TE := fun σ H Q => ta σ H fun x H1 => ∃ c, x = .bl c /\ if c = true then tb σ H1 Q else Q (.bl false) H1
def GW (ta tb : TE) : TE := fun σ H Q => ta σ H fun x H1 => ∃ c, x = .bl c /\ if c = true then Q (.bl true) H1 else tb σ H1 Q
def Fk (ta : TE) : TE := fun σ H Q => ta σ H fun x H1 => ∃ c, x = .bl c /\ Q (.bl (!c)) H1
theorem yv {op} {t : TE} (h : PE X a t) : PE X (.BoolOp op [a] pos) t := fun pins s σ H Q I hw => BoolOp_one (h pins s σ H Q I hw)
theorem DI (ha : PE X a ta) (hb : PE X (.BoolOp .And (b :: c9) pos) tb) : PE X (.BoolOp .And (a :: b :: c9) pos) (Fg ta tb) := by
 intro pins s σ H Q I h
 refine BoolOp_and (thn (ha pins s σ H _ I h) fun v s1 hpt9 => ?_)
 obtain ⟨x, H1, I1, r1, q1⟩ := hpt9
 obtain ⟨c, rfl, q1⟩ := q1
 cases r1
 refine wpAny_truthy_bool ?_
 cases c with
 | true => exact hb pins s1 σ H1 Q I1 q1
 | false => exact ⟨.bl false, H1, I1, rfl, q1⟩
theorem HH (ha : PE X a ta) (hb : PE X (.BoolOp .Or (b :: c9) pos) tb) : PE X (.BoolOp .Or (a :: b :: c9) pos) (GW ta tb) := by
 intro pins s σ H Q I h
 refine BoolOp_or (thn (ha pins s σ H _ I h) fun v s1 hpt9 => ?_)
 obtain ⟨x, H1, I1, r1, q1⟩ := hpt9
 obtain ⟨c, rfl, q1⟩ := q1
 cases r1
 refine wpAny_truthy_bool ?_
 cases c with
 | false => exact hb pins s1 σ H1 Q I1 q1
 | true => exact ⟨.bl true, H1, I1, rfl, q1⟩
theorem Gx (ha : PE X a ta) : PE X (.UnaryOp .Not a pos) (Fk ta) := by
 intro pins s σ H Q I h
 refine UnaryOp_ (thn (ha pins s σ H _ I h) fun v s1 hpt9 => ?_)
 obtain ⟨x, H1, I1, r1, q1⟩ := hpt9
 obtain ⟨c, rfl, q1⟩ := q1
 cases r1
 exact not_of (wpAny_truthy_bool ⟨.bl (!c), H1, I1, rfl, q1⟩)
end
def SqL (K : W.Frag) (H : Hp) (a : Addr) (xs : List V) : Prop :=
 Rd H a (.lst xs) \/
  ∃ (o : Obj) (its : Array Value) (n : Nat), K.lookup a = some o /\ o.cls = .type "list" /\ o.dict = none /\ o.data = .seq its n /\ its.size <= sizeLine /\ Vals xs its.toList
def SqT (K : W.Frag) (H : Hp) (a : Addr) (xs : List V) : Prop :=
 Rd H a (.tup xs) \/
  ∃ (o : Obj) (its : Array Value) (n : Nat), K.lookup a = some o /\ o.cls = .type "tuple" /\ o.data = .seq its n /\ its.size <= sizeLine /\ Vals xs its.toList
def IJ : Value -> Option V
 | .none => some .non
 | .bool b => some (.bl b)
 | .int i _ => some (.int i)
 | .str x _ => some (.str x)
 | .bytes b _ => some (.byt b)
 | .float b _ => some (.flt b)
 | .ref a => some (.ref a)
 | .type n => some (.ty n)
 | _ => none
theorem RelV.abs {x : V} {u : Value} (r : RelV x u) : IJ u = some x := by
 cases x with
 | non => cases r; rfl
 | bl _ => cases r; rfl
 | int _ => obtain ⟨t, rfl⟩ := r; rfl
 | str _ => obtain ⟨t, rfl⟩ := r; rfl
 | byt _ => obtain ⟨t, rfl⟩ := r; rfl
 | flt _ => obtain ⟨t, rfl⟩ := r; rfl
 | ref _ => cases r; rfl
 | ty _ => cases r; rfl
theorem RelV.inj {x y : V} {u : Value} (r : RelV x u) (q : RelV y u) : x = y := Option.some.inj (r.abs.symm.trans q.abs)
theorem Vals.inj {xs ys : List V} {us : List Value} (h : Vals xs us) (k : Vals ys us) : xs = ys := by
 induction h generalizing ys with
 | nil => cases k; rfl
 | cons r t ih =>
  cases k with
  | cons r' t' => rw [r.inj r', ih t']
section
variable {X : Cx} {pins : List (Addr × Obj)} {σ : St} {H : Hp} {s : Shared} {a : Addr} {xs ys : List V}
theorem SqL.of {K : W.Frag} (h : H a = some (.lst xs)) : SqL K H a xs := .inl (.inl h)
theorem SqT.of {K : W.Frag} (h : H a = some (.tup xs)) : SqT K H a xs := .inl (.inl h)
theorem Inv.list (I : Inv X pins σ H s) (h : SqL X.K H a xs) : ∃ its : List Value, Vals xs its /\ PlainL s.heap a its.toArray /\ xs.length <= sizeLine := by
 rcases h with h | ⟨o, its, n, hk, hc, hd, hs, hz, r⟩
 ·obtain ⟨z, its, n, r, e⟩ := h.ok I.hok
  exact ⟨its, r, ⟨_, n, e, rfl, rfl, rfl⟩, z⟩
 ·refine ⟨its.toList, r, ⟨o, n, I.kIn a o hk, hc, hd, by simpa using hs⟩, ?_⟩
  have e := r.length
  simp only [Array.length_toList] at e
  lia
theorem Inv.tuple (I : Inv X pins σ H s) (h : SqT X.K H a xs) : ∃ its : List Value, Vals xs its /\ IsTup s.heap a its.toArray /\ xs.length <= sizeLine := by
 rcases h with h | ⟨o, its, n, hk, hc, hs, hz, r⟩
 ·obtain ⟨z, its, r, p⟩ := h.ok I.hok
  exact ⟨its, r, p, z⟩
 ·refine ⟨its.toList, r, ⟨o, I.kIn a o hk, hc, n, by simpa using hs⟩, ?_⟩
  have e := r.length
  simp only [Array.length_toList] at e
  lia
theorem Inv.list_inj (I : Inv X pins σ H s) (h : SqL X.K H a xs) (h' : SqL X.K H a ys) : xs = ys := by
 obtain ⟨its, r, ⟨o, n, e, _, _, d⟩, _⟩ := I.list h
 obtain ⟨its', r', ⟨o', n', e', _, _, d'⟩, _⟩ := I.list h'
 rw [e] at e'; cases e'
 rw [d] at d'
 injection d' with d1 _
 have : its = its' := by simpa using congrArg Array.toList d1
 subst this
 exact r.inj r'
theorem Inv.tuple_inj (I : Inv X pins σ H s) (h : SqT X.K H a xs) (h' : SqT X.K H a ys) : xs = ys := by
 obtain ⟨its, r, ⟨o, e, _, n, d⟩, _⟩ := I.tuple h
 obtain ⟨its', r', ⟨o', e', _, n', d'⟩, _⟩ := I.tuple h'
 rw [e] at e'; cases e'
 rw [d] at d'
 injection d' with d1 _
 have : its = its' := by simpa using congrArg Array.toList d1
 subst this
 exact r.inj r'
end
abbrev Cx.wish (X : Cx) (E : Value -> Shared -> Prop) : Cx := { X with xe := E }
abbrev Cx.nox (X : Cx) : Cx := X.wish fun _ _ => False
theorem Cx.Ok.wish {X : Cx} (ok : X.Ok) (E : Value -> Shared -> Prop) : (X.wish E).Ok :=
 ⟨ok.mod, ok.kind, ok.glob, ok.blt, ok.above, ok.inj, ok.has, ok.cab, ok.hd, ok.frames, ok.stk, ok.exf, ok.bs, ok.bsz, ok.noex, ok.exfs, ok.funs, ok.frf⟩
theorem Cx.Ok.unwish {X : Cx} {E : Value -> Shared -> Prop} (ok : (X.wish E).Ok) : X.Ok :=
 ⟨ok.mod, ok.kind, ok.glob, ok.blt, ok.above, ok.inj, ok.has, ok.cab, ok.hd, ok.frames, ok.stk, ok.exf, ok.bs, ok.bsz, ok.noex, ok.exfs, ok.funs, ok.frf⟩
section
variable {X : Cx} {pins : List (Addr × Obj)} {σ : St} {H : Hp} {s : Shared} {E : Value -> Shared -> Prop}
theorem Inv.wish (I : Inv X pins σ H s) (E : Value -> Shared -> Prop) : Inv (X.wish E) pins σ H s := ⟨I.ok.wish E, I.os, I.bare, I.base, I.loc, I.cell, I.free, I.freeC, I.pin, I.hok, I.len⟩
theorem Inv.unwish (I : Inv (X.wish E) pins σ H s) : Inv X pins σ H s := ⟨I.ok.unwish, I.os, I.bare, I.base, I.loc, I.cell, I.free, I.freeC, I.pin, I.hok, I.len⟩
theorem SP.unwish {D : Ends} {f : Flow} {s' : Shared} (h : SP (X.wish E) pins D f s') : SP X pins D f s' := by
 cases f with
 | next => obtain ⟨σ', H', I, q⟩ := h; exact ⟨σ', H', I.unwish, q⟩
 | brk => obtain ⟨σ', H', I, q⟩ := h; exact ⟨σ', H', I.unwish, q⟩
 | cont => obtain ⟨σ', H', I, q⟩ := h; exact ⟨σ', H', I.unwish, q⟩
 | ret u => obtain ⟨v, σ', H', I, r, q⟩ := h; exact ⟨v, σ', H', I.unwish, r, q⟩
theorem PSs.nox {st : List Stmt} {t : TS} (h : PSs X.nox st t) : PSs X st t := fun pins s σ H D I hw =>
 wpAny_mono (h pins s σ H D (I.wish _) hw) (fun _ _ q => q.unwish) fun _ _ z => False.elim z
end
section
variable {X : Cx} {st : Stmt} {c9 : List Stmt} {t u : TS} {e : Expr} {te : TE} {pos : Pos}
def zg : TS := fun D σ H => D.nx σ H
def F2 (t u : TS) : TS := fun D σ H => t { D with nx := u D } σ H
theorem dS : PSs X [] zg := fun _ _ σ H _ I h => wpAny_execs_nil ⟨σ, H, I, h⟩
theorem az (h1 : PS X st t) (h2 : PSs X c9 u) : PSs X (st :: c9) (F2 t u) := by
 intro pins s σ H D I h
 refine wpAny_execs_cons (thn (h1 pins s σ H { D with nx := u D } I h) fun f s1 q => ?_)
 cases f with
 | next =>
  obtain ⟨σ', H', I', q⟩ := q
  exact h2 pins s1 σ' H' D I' q
 | ret v => exact q
 | brk => exact q
 | cont => exact q
theorem aH (h1 : PS X st t) : PSs X [st] t := by
 intro pins s σ H D I h
 refine wpAny_execs_cons (thn (h1 pins s σ H D I h) fun f s1 q => ?_)
 cases f with
 | next => exact wpAny_execs_nil q
 | ret v => exact q
 | brk => exact q
 | cont => exact q
theorem Inv.quiet {pins : List (Addr × Obj)} {σ : St} {H : Hp} {s : Shared} (I : Inv X pins σ H s) : interactive X.env = false := by simp [interactive, I.ok.kind]
def t7 (te : TE) : TS := fun D σ H => te σ H fun _ H1 => D.nx σ H1
theorem fj (he : PE X e te) (hs : swapsWith e none pos.line X.env = pure false := by rfl) : PS X (.Expr e pos) (t7 te) := by
 intro pins s σ H D I h
 exact wpAny_Expr_any (thn (he pins s σ H _ I h) fun v s1 ⟨x, H1, I1, r1, q1⟩ => ⟨σ, H1, I1, q1⟩) I.quiet hs
def Bm (te : TE) : TS := fun D σ H => te σ H D.rt
theorem bO (he : PE X e te) : PS X (.Return (some e) pos) (Bm te) := by
 intro pins s σ H D I h
 exact wpAny_Return_some (thn (he pins s σ H _ I h) fun v s1 ⟨x, H1, I1, r1, q1⟩ => ⟨x, σ, H1, I1, r1, q1⟩)
def GF (c : TT) (t u : TS) : TS := fun D σ H => c σ H fun b H1 => if b = true then t D σ H1 else u D σ H1
theorem ik {c : Expr} {a b : List Stmt} {tc : TT} (hc : PT X c tc) (ha : PSs X a t) (hb : PSs X b u) : PS X (.If c a b pos) (GF tc t u) := by
 intro pins s σ H D I h
 refine wpAny_If (thn (hc pins s σ H _ I h) fun d s1 hpt9 => ?_)
 obtain ⟨H1, I1, q1⟩ := hpt9
 cases d with
 | true => exact ha pins s1 σ H1 D I1 q1
 | false => exact hb pins s1 σ H1 D I1 q1
def Dv : TS := fun _ _ _ => False
theorem Cy : PS X st Dv := fun _ _ _ _ _ _ h => h.elim
end
abbrev TG := V -> St -> Hp -> (St -> Hp -> Prop) -> Prop
abbrev TGs := List V -> St -> Hp -> (St -> Hp -> Prop) -> Prop
def PG (X : Cx) (target : Expr) (t : TG) : Prop :=
 ∀ (pins : List (Addr × Obj)) (s : Shared) (σ : St) (H : Hp) (v : V) (u : Value) (Q : St -> Hp -> Prop), Inv X pins σ H s -> RelV v u -> t v σ H Q ->
  wpAny (model X.prog X.w) X.A (assign target X.env u) (fun _ s' => ∃ σ' H', Inv X pins σ' H' s' /\ Q σ' H') X.xe s
def PGs (X : Cx) (ts : List Expr) (t : TGs) : Prop :=
 ∀ (pins : List (Addr × Obj)) (s : Shared) (σ : St) (H : Hp) (vs : List V) (us : List Value) (Q : St -> Hp -> Prop), Inv X pins σ H s -> Vals vs us -> t vs σ H Q ->
  wpAny (model X.prog X.w) X.A (assignInOrder ((assignEach ts X.env).map (·.2)) us) (fun _ s' => ∃ σ' H', Inv X pins σ' H' s' /\ Q σ' H') X.xe s
abbrev F0 := V -> V -> V -> Hp -> (Hp -> Prop) -> Prop
def HE (X : Cx) (t : F0) : Prop :=
 ∀ (pins : List (Addr × Obj)) (s : Shared) (σ : St) (H : Hp) (o i v : V) (ov iv u : Value) (Q : Hp -> Prop), Inv X pins σ H s -> RelV o ov -> RelV i iv -> RelV v u -> t o i v H Q ->
  wpAny (model X.prog X.w) X.A (setItem ov iv u) (fun _ s' => ∃ H', Inv X pins σ H' s' /\ Q H') X.xe s
section
variable {X : Cx} {pos : Pos}
def gB (i : Nat) : TG := fun v σ H Q => Q (σ.set i (some v)) H
theorem aD {i : Nat} {x : Str} (hN : X.N.Nodup) (hi : X.N[i]? = some x) (hx : Loc X.env.scope x) (hf : X.fn x = true \/ X.env.scope.names.lookup x = some .local := by first | exact .inl rfl | exact .inr rfl | assumption) : PG X (.Name x pos) (gB i) := by
 intro pins s σ H v u Q I r h
 exact wpAny_assign_Name (pQ I hN hi hx r (fun s' I' => ⟨_, H, I', h⟩) hf)
def F9 : TGs := fun vs σ H Q => vs = [] /\ Q σ H
def Dd (t : TG) (u : TGs) : TGs := fun vs σ H Q => ∃ v r, vs = v :: r /\ t v σ H fun σ' H' => u r σ' H' Q
theorem ci : PGs X [] F9 := by
 intro pins s σ H vs us Q I r h
 obtain ⟨e, h⟩ := h
 subst e
 cases r
 exact assignInOrder_nil ⟨σ, H, I, h⟩
theorem aE {e : Expr} {es : List Expr} {t : TG} {u : TGs} (h1 : PG X e t) (h2 : PGs X es u)
  (hs : (assignEach (e :: es) X.env).map (·.2) = assign e X.env :: (assignEach es X.env).map (·.2) := by rfl) : PGs X (e :: es) (Dd t u) := by
 intro pins s σ H vs us Q I r h
 obtain ⟨v, vr, e1, h⟩ := h
 subst e1
 cases r with
 | cons r rr =>
  rw [hs]
  refine assignInOrder_cons (thn (h1 pins s σ H _ _ _ I r h) fun _ s1 hpt9 => ?_)
  obtain ⟨σ1, H1, I1, q1⟩ := hpt9
  exact h2 pins s1 σ1 H1 _ _ Q I1 rr q1
def D6 (K : W.Frag) (n : Nat) (t : TGs) : TG := fun v σ H Q => ∃ a xs, v = .ref a /\ SqT K H a xs /\ xs.length = n /\ t xs σ H Q
theorem dq {es : List Expr} {k : Nat} {t : TGs} {n : Nat} (hc : X.calm = true) (h : PGs X es t)
  (hn : (assignEach es X.env).length = n := by rfl) (hst : (assignEach es X.env).findIdx? (·.1) = none := by rfl) : PG X (.Tuple es k pos) (D6 X.K n t) := by
 intro pins s σ H v u Q I r hw
 obtain ⟨a, xs, e1, hq, hl, hw⟩ := hw
 subst e1
 cases r
 obtain ⟨its, rv, ht, hz⟩ := I.tuple hq
 refine assign_Tuple_tuple (I.ok.hd hc) ht (by simp [hn, <- hl, rv.length]) hst fun h' hx => ?_
 have I1 : Inv X pins σ H { s with heap := h' } := I.kept (t' := s.toks) fun b o e => hx b o (Nat.ne_of_lt (Heap.lt_size e)) e
 exact h pins _ σ H xs _ Q I1 (by simpa using rv) hw
def HP (to ti : TE) (t : F0) : TG := fun v σ H Q => to σ H fun o H1 => ti σ H1 fun i H2 => t o i v H2 fun H3 => Q σ H3
theorem Dj {o i : Expr} {to ti : TE} {t : F0} (ho : PE X o to) (hi : PE X i ti) (hs : HE X t)
  (ha : ∀ v, assign (.Subscript o i pos) X.env v = (do
   let ov ← holding [v] (eval o X.env)
   let iv ← holding [v, ov] (eval i X.env)
   standAt pos
   holding [v, ov, iv] (setItem ov iv v)
   release [v, ov, iv] []) := by intro _; rfl) : PG X (.Subscript o i pos) (HP to ti t) := by
 intro pins s σ H v u Q I r h
 rw [ha]
 refine wpAny_bind (wpAny_holding (thn (ho pins s σ H _ I h) fun ov s1 hpt9 => ?_))
 obtain ⟨x, H1, I1, r1, q1⟩ := hpt9
 refine wpAny_bind (wpAny_holding (thn (hi pins s1 σ H1 _ I1 q1) fun iv s2 hpt9 => ?_))
 obtain ⟨y, H2, I2, r2, q2⟩ := hpt9
 refine wpAny_bind (wpAny_standAt (wpAny_bind (wpAny_holding (thn (hs pins s2 σ H2 x y v ov iv u _ I2 r1 r2 r q2) fun _ s3 hpt9 => ?_))))
 obtain ⟨H3, I3, q3⟩ := hpt9
 exact wpAny_release ⟨σ, H3, I3, q3⟩
def rH (te : TE) (g : TG) : TS := fun D σ H => te σ H fun x H1 => g x σ H1 D.nx
theorem CT {tg e : Expr} {te : TE} {g : TG} (he : PE X e te) (hg : PG X tg g) (hs : swapsWithSole [tg] e pos.line X.env = pure false := by rfl) (hw : swappedStores [tg] e X.env = pure none := by rfl)
  (h1 : (assignEach [tg] X.env).map (·.2) = [assign tg X.env] := by rfl) : PS X (.Assign [tg] e pos) (rH te g) := by
 intro pins s σ H D I h
 refine wpAny_Assign_stores (thn (he pins s σ H _ I h) fun v s1 hpt9 => ?_) hs hw
 obtain ⟨x, H1, I1, r1, q1⟩ := hpt9
 rw [h1]
 exact thn (hg pins s1 σ H1 x v _ I1 r1 q1) fun _ s2 q => q
theorem bh {i : Nat} {x : Str} {e : Expr} {te : TE} {pos' : Pos} (hN : X.N.Nodup) (hi : X.N[i]? = some x) (hx : Loc X.env.scope x) (he : PE X e te) (hs : swapsWith e (some (.Name x pos')) pos.line X.env = pure false := by rfl) (hf : X.fn x = true \/ X.env.scope.names.lookup x = some .local := by first | exact .inl rfl | exact .inr rfl | assumption) :
  PS X (.Assign [.Name x pos'] e pos) (rH te (gB i)) := by
 intro pins s σ H D I h
 refine wpAny_Assign_Name (thn (he pins s σ H _ I h) fun v s1 hpt9 => ?_) hs
 obtain ⟨y, H1, I1, r1, q1⟩ := hpt9
 exact pQ I1 hN hi hx r1 (fun s2 I2 => ⟨_, H1, I2, q1⟩) hf
end
section
variable {X : Cx} {pos : Pos}
def B9 (c : TT) (tb : TS) : TS := fun D σ H => ∃ W : Nat -> St -> Hp -> Prop, (∃ m, W m σ H) /\ ∀ m σ H, W m σ H ->
 c σ H fun b H1 => if b = true then ∃ N : St -> Hp -> Prop, (∀ σ' H', N σ' H' -> ∃ m', m' < m /\ W m' σ' H') /\ tb { D with nx := N, ct := N, bk := D.nx } σ H1 else D.nx σ H1
theorem BL {c : Expr} {body : List Stmt} {tc : TT} {tb : TS} (hp : PassesOwn (model X.prog X.w) X.A X.env X.xe) (hc : PT X c tc) (hb : PSs X body tb) : PS X (.While c body [] pos) (B9 tc tb) := by
 intro pins s σ H D I h
 obtain ⟨W, ⟨m0, w0⟩, turn⟩ := h
 refine wpAny_While (codeAny_whileLoop (fun n s' => ∃ σ' H', Inv X pins σ' H' s' /\ W n σ' H') ?_ m0 ⟨σ, H, I, w0⟩)
 rintro n s1 ⟨σ1, H1, I1, w1⟩
 refine wpAny_passesOwn hp (thn (hc pins s1 σ1 H1 _ I1 (turn n σ1 H1 w1)) fun b s2 hpt9 => ?_)
 obtain ⟨H2, I2, q2⟩ := hpt9
 cases b with
 | true =>
  obtain ⟨N, hN, q2⟩ := q2
  rw [if_pos rfl]
  refine wpAny_passesOwn hp (thn (hb pins s2 σ1 H2 _ I2 q2) fun f s3 q3 => ?_)
  cases f with
  | next =>
   obtain ⟨σ3, H3, I3, n3⟩ := q3
   obtain ⟨m', hm, w3⟩ := hN σ3 H3 n3
   exact ⟨m', hm, σ3, H3, I3, w3⟩
  | cont =>
   obtain ⟨σ3, H3, I3, n3⟩ := q3
   obtain ⟨m', hm, w3⟩ := hN σ3 H3 n3
   exact ⟨m', hm, σ3, H3, I3, w3⟩
  | brk => exact q3
  | ret v => exact q3
 | false =>
  rw [if_neg Bool.false_ne_true]
  exact wpAny_execs_nil ⟨σ1, H2, I2, q2⟩
end
structure It where
 go : Nat -> Hp -> Prop
 yld : Nat -> Hp -> V -> Hp -> Prop
 stop : Nat -> Hp -> Prop
def qu (X : Cx) (pins : List (Addr × Obj)) (H : Hp) (b : Addr) : Prop :=
 H b = none /\ b ≠ X.env.locals /\ b ∉ X.fs /\ (b ∈ X.ex \/ X.s₀.heap.objs.size <= b) /\ (∀ x c, X.env.cells.lookup x = some c -> c ≠ b) /\ ∀ p ∈ X.pn ++ pins, p.1 ≠ b
theorem Inv.fpOk {X : Cx} {pins : List (Addr × Obj)} {σ : St} {H H' : Hp} {s : Shared} {b : Addr} (I : Inv X pins σ H s) (hb : s.heap.objs.size <= b) (hn : H' b = none) : qu X pins H' b := by
 refine ⟨hn, Nat.ne_of_gt (Nat.lt_of_lt_of_le I.lt hb), I.nofs hb, .inr (Nat.le_trans I.sz hb), fun x c e z => ?_, fun p hp z => ?_⟩
 ·obtain ⟨v, q⟩ := I.cell x c e
  exact absurd (Nat.lt_of_lt_of_le q.lt (by rw [z]; exact hb)) (Nat.lt_irrefl _)
 ·exact absurd (Nat.lt_of_lt_of_le (Heap.lt_size (I.pin p hp).1) (by rw [z]; exact hb)) (Nat.lt_irrefl _)
structure Turn (P : Program) (w : World) (K : W.Frag) (tg : Expr) (J : It) (fp : List Addr) (it : Addr) (tn : Nat -> Heap -> Prop) : Prop where
 mem : it ∈ fp
 obj : ∀ i h, tn i h -> ∀ b ∈ fp, ∃ o, h.get? b = some o /\ ∀ v, o.data ≠ .cell v
 keep : ∀ i h h', tn i h -> (∀ b ∈ fp, ∀ o, h.get? b = some o -> h'.get? b = some o) -> tn i h'
 item : ∀ (X : Cx), X.prog = P -> X.w = w -> X.K = K -> X.calm = true -> ∀ (i : Nat) (pins : List (Addr × Obj)) (s : Shared) (σ : St) (H : Hp) (E : Value -> Shared -> Prop), Inv X pins σ H s -> (∀ b ∈ fp, qu X pins H b) -> tn i s.heap -> J.go i H ->
  wpAny (model P w) X.A (pyNext (.ref it)) (fun r s1 => ∃ u, r = some u /\
   wpAny (model P w) X.A (letOwnedTupleGo tg (.ref it) u) (fun _ s2 => ∃ x H', Inv X pins σ H' s2 /\ RelV x u /\ J.yld i H x H' /\ tn (i + 1) s2.heap /\ ∀ b ∈ fp, H' b = none) E s1) E s
 done : ∀ (X : Cx), X.prog = P -> X.w = w -> X.K = K -> X.calm = true -> ∀ (i : Nat) (pins : List (Addr × Obj)) (s : Shared) (σ : St) (H : Hp) (E : Value -> Shared -> Prop), Inv X pins σ H s -> (∀ b ∈ fp, qu X pins H b) -> tn i s.heap -> J.stop i H ->
  wpAny (model P w) X.A (pyNext (.ref it)) (fun r s1 => r = none /\ Inv X pins σ H s1) E s
 self : ∀ (A : Around) (i : Nat) (s : Shared) (Q : Value -> Shared -> Prop) (E : Value -> Shared -> Prop), tn i s.heap -> Q (.ref it) s -> wpAny (model P w) A (pyIter (.ref it)) Q E s
abbrev TI := St -> Hp -> (It -> Hp -> Prop) -> Prop
def PIE (X : Cx) (pins : List (Addr × Obj)) (σ : St) (tg : Expr) (R : It -> Hp -> Prop) (itv : Value) (s2 : Shared) : Prop :=
 ∃ (it : Addr) (fp : List Addr) (tn : Nat -> Heap -> Prop) (J : It) (H' : Hp), itv = .ref it /\ Inv X pins σ H' s2 /\ Turn X.prog X.w X.K tg J fp it tn /\ tn 0 s2.heap /\ (∀ b ∈ fp, qu X pins H' b) /\ R J H'
def PI (X : Cx) (tg iter : Expr) (wi : TI) : Prop :=
 ∀ (pins : List (Addr × Obj)) (s : Shared) (σ : St) (H : Hp) (R : It -> Hp -> Prop), Inv X pins σ H s -> wi σ H R ->
  wpAny (model X.prog X.w) X.A (eval iter X.env) (fun v s1 => wpAny (model X.prog X.w) X.A (pyIter v) (PIE X pins σ tg R) X.xe s1) X.xe s
theorem eJ {M : Model} {A : Around} {E : Value -> Shared -> Prop} {s : Shared} {tg : Expr} {it : Addr} {u : Value} {o : Obj} {n : String} {vs : Array Value} {Q : Unit -> Shared -> Prop} (ho : s.heap.get? it = some o) (hc : o.cls = .type n) (hd : o.data = .fields vs)
  (hn : ["enumerate", "zip", "dict_itemiterator", "dict_reverseitemiterator", "odict_iterator", "itertools.zip_longest", "itertools.pairwise"].contains n = false) (hQ : Q () s) : wpAny M A (letOwnedTupleGo tg (.ref it) u) Q E s := by
 unfold letOwnedTupleGo
 cases tg <;> first
  | exact wpAny_pure hQ
  | (cases u <;> first
    | exact wpAny_pure hQ
    | (refine wpAny_bind (wpAny_load ho ?_)
       rw [hc, hd]
       show wpAny M A (if (["enumerate", "zip", "dict_itemiterator", "dict_reverseitemiterator", "odict_iterator", "itertools.zip_longest", "itertools.pairwise"].contains n && vs[0]? == some (rawInt _)) = true then _ else _) Q E s
       rw [if_neg (by intro h; rw [hn, Bool.false_and] at h; cases h)]
       exact wpAny_pure hQ))
def Itl (K : W.Frag) (a : Addr) : It :=
 ⟨fun i H => ∃ xs x, SqL K H a xs /\ xs[i]? = some x, fun i H x H' => H' = H /\ ∀ xs, SqL K H a xs -> xs[i]? = some x, fun i H => ∃ xs, SqL K H a xs /\ xs.length <= i⟩
def Itt (K : W.Frag) (a : Addr) : It :=
 ⟨fun i H => ∃ xs x, SqT K H a xs /\ xs[i]? = some x, fun i H x H' => H' = H /\ ∀ xs, SqT K H a xs -> xs[i]? = some x, fun i H => ∃ xs, SqT K H a xs /\ xs.length <= i⟩
def Itr (lo : Int) (n : Nat) : It := ⟨fun i _ => i < n, fun i H x H' => H' = H /\ x = .int (lo + i), fun i _ => n <= i⟩
theorem AD {P : Program} {w : World} {K : W.Frag} {tg : Expr} (a it : Addr) : Turn P w K tg (Itl K a) [it] it (fun i h => h.IsListIter it a i) where
 mem := by simp
 obj := fun i h st b hb => by
  have e : b = it := by simpa using hb
  subst e
  obtain ⟨o, e, c, d⟩ := st
  exact ⟨o, e, fun v z => by rw [d] at z; cases z⟩
 keep := fun i h h' st k => st.at fun o e => k it (by simp) o e
 item := by
  intro X hP hw hK hc i pins s σ H E I hf st hg
  subst hP hw hK
  obtain ⟨xs, x, hq, hx⟩ := hg
  obtain ⟨its, rv, p, hz⟩ := I.list hq
  obtain ⟨u, hu, ru⟩ := rv.get hx
  obtain ⟨f0, f1, f2, f3, f4, f5⟩ := hf it (by simp)
  refine wpAny_pyNext_list_item st p.isList (x := u) (by simpa using hu) fun h' st' sb => ?_
  have I1 : Inv X pins σ H { s with heap := h' } := I.turned (t' := s.toks) (fun b o hb e => (sb.2 b hb).trans e) f0 f1 f3 f4 f5
  obtain ⟨o, e, c, d⟩ := id st'
  exact ⟨u, rfl, eJ (s := { s with heap := h' }) e c d (by decide) ⟨x, H, I1, ru, ⟨rfl, fun ys hy => by rw [I.list_inj hy hq]; exact hx⟩, st', fun b hb => (hf b hb).1⟩⟩
 done := by
  intro X hP hw hK hc i pins s σ H E I hf st hg
  subst hP hw hK
  obtain ⟨xs, hq, hx⟩ := hg
  obtain ⟨its, rv, p, hz⟩ := I.list hq
  obtain ⟨f0, f1, f2, f3, f4, f5⟩ := hf it (by simp)
  have hl := rv.length
  exact wpAny_pyNext_list_end (I.ok.hd hc) st p.isList (by simp; lia) fun h' eb => ⟨rfl, I.turned (t' := s.toks) (fun b o hb e => eb b o hb e) f0 f1 f3 f4 f5⟩
 self := fun _ _ _ _ _ st h => wpAny_pyIter_listiter st h
theorem yX {P : Program} {w : World} {K : W.Frag} {tg : Expr} (a it : Addr) : Turn P w K tg (Itt K a) [it] it (fun i h => h.IsTupleIter it a i) where
 mem := by simp
 obj := fun i h st b hb => by
  have e : b = it := by simpa using hb
  subst e
  obtain ⟨o, e, c, d⟩ := st
  exact ⟨o, e, fun v z => by rw [d] at z; cases z⟩
 keep := fun i h h' st k => st.at fun o e => k it (by simp) o e
 item := by
  intro X hP hw hK hc i pins s σ H E I hf st hg
  subst hP hw hK
  obtain ⟨xs, x, hq, hx⟩ := hg
  obtain ⟨its, rv, p, hz⟩ := I.tuple hq
  obtain ⟨u, hu, ru⟩ := rv.get hx
  obtain ⟨f0, f1, f2, f3, f4, f5⟩ := hf it (by simp)
  refine wpAny_pyNext_tuple_item st (show s.heap.IsTuple a its.toArray from p) (x := u) (by simpa using hu) fun h' st' sb => ?_
  have I1 : Inv X pins σ H { s with heap := h' } := I.turned (t' := s.toks) (fun b o hb e => (sb.2 b hb).trans e) f0 f1 f3 f4 f5
  obtain ⟨o, e, c, d⟩ := id st'
  exact ⟨u, rfl, eJ (s := { s with heap := h' }) e c d (by decide) ⟨x, H, I1, ru, ⟨rfl, fun ys hy => by rw [I.tuple_inj hy hq]; exact hx⟩, st', fun b hb => (hf b hb).1⟩⟩
 done := by
  intro X hP hw hK hc i pins s σ H E I hf st hg
  subst hP hw hK
  obtain ⟨xs, hq, hx⟩ := hg
  obtain ⟨its, rv, p, hz⟩ := I.tuple hq
  obtain ⟨f0, f1, f2, f3, f4, f5⟩ := hf it (by simp)
  have hl := rv.length
  exact wpAny_pyNext_tuple_end (I.ok.hd hc) st (show s.heap.IsTuple a its.toArray from p) (by simp; lia) fun h' eb => ⟨rfl, I.turned (t' := s.toks) (fun b o hb e => eb b o hb e) f0 f1 f3 f4 f5⟩
 self := fun _ _ _ _ _ st h => wpAny_pyIter_tupleiter st h
theorem pf {P : Program} {w : World} {K : PySem.W.Frag} {tg : Expr} (it : Addr) (lo : Int) (n : Nat) : Turn P w K tg (Itr lo n) [it] it (fun i h => IsRangeIter h it (lo + (i : Nat) * 1) ((n : Int) - (i : Nat)) 1) where
 mem := by simp
 obj := fun i h st b hb => by
  have e : b = it := by simpa using hb
  subst e
  exact ⟨_, st, fun v z => by
   have z' : Data.fields _ = Data.cell v := z
   cases z'⟩
 keep := fun i h h' st k => k it (by simp) _ st
 item := by
  intro X hP hw hK hc i pins s σ H E I hf st hg
  subst hP hw hK
  obtain ⟨f0, f1, f2, f3, f4, f5⟩ := hf it (by simp)
  have W := Walks.range (prog := X.prog) (w := X.w) (I.ok.hd hc) it lo 1 n
  refine W.item i s _ _ hg st fun v h' tk hv st' kk => ?_
  obtain ⟨t, rfl⟩ := hv
  have I1 : Inv X pins σ H { s with heap := h', toks := tk } := I.turned (fun b o hb e => kk b o (by simpa using hb) e) f0 f1 f3 f4 f5
  refine ⟨_, rfl, eJ (s := { s with heap := h', toks := tk }) (n := "range_iterator") st' rfl rfl (by decide) ⟨.int (lo + i), H, I1, ⟨t, ?_⟩, ⟨rfl, rfl⟩, st', fun b hb => (hf b hb).1⟩⟩
  rw [Int.mul_one]
 done := by
  intro X hP hw hK hc i pins s σ H E I hf st hg
  subst hP hw hK
  obtain ⟨f0, f1, f2, f3, f4, f5⟩ := hf it (by simp)
  exact wpAny_pyNext_range_end (I.ok.hd hc) st (by have : n <= i := hg; lia) fun h' eb => ⟨rfl, I.turned (t' := s.toks) (fun b o hb e => eb b o hb e) f0 f1 f3 f4 f5⟩
 self := fun _ _ _ _ _ st h => wpAny_pyIter_rangeiter st h
section
variable {X : Cx} {tg : Expr}
theorem CD {pins : List (Addr × Obj)} {σ : St} {H : Hp} {s : Shared} {R : It -> Hp -> Prop} {E : Value -> Shared -> Prop} {lo hi : Int} {t u v : Tok} {tk : Nat} (I : Inv X pins σ H s) (h1 : -(2 ^ 62) <= lo) (h2 : lo < 2 ^ 62) (h3 : -(2 ^ 62) <= hi) (h4 : hi < 2 ^ 62)
  (q : R (Itr lo (hi - lo).toNat) H) : wpAny (model X.prog X.w) X.A (pyIter (.ref s.heap.objs.size)) (PIE X pins σ tg R) E { s with heap := s.heap.push { cls := .type "range", data := .fields #[.int lo t, .int hi u, .int 1 v] }, toks := tk } := by
 refine wpAny_pyIter_range (IsRange.new ..) (small_one h1 h2 h3 h4) ?_
 have I1 : Inv X pins σ H { s with heap := s.heap.push { cls := .type "range", data := .fields #[.int lo t, .int hi u, .int 1 v] }, toks := tk } := I.kept fun b o e => Heap.get?_push_of_some _ e
 refine ⟨(s.heap.push { cls := .type "range", data := .fields #[.int lo t, .int hi u, .int 1 v] }).objs.size, [(s.heap.push { cls := .type "range", data := .fields #[.int lo t, .int hi u, .int 1 v] }).objs.size], _, _, H, rfl,
  I1.kept (t' := tk) fun b o e => Heap.get?_push_of_some _ e, pf _ lo (hi - lo).toNat, ?_, fun b hb => ?_, q⟩
 ·have e1 : lo + ((0 : Nat) : Int) * 1 = lo := by simp
  have e2 : (((hi - lo).toNat : Nat) : Int) - ((0 : Nat) : Int) = Builtin.Range.rangeSize lo hi 1 := by rw [rangeSize_one]; split <;> lia
  show IsRangeIter _ _ (lo + ((0 : Nat) : Int) * 1) ((((hi - lo).toNat : Nat) : Int) - ((0 : Nat) : Int)) 1
  rw [e1, e2]
  exact Heap.get?_push_size _ rfl
 ·have e : b = (s.heap.push { cls := .type "range", data := .fields #[.int lo t, .int hi u, .int 1 v] }).objs.size := by simpa using hb
  subst e
  exact I1.fpOk (Nat.le_refl _) (I1.hok.fresh (Nat.le_refl _))
def Fo (ta : TA) : TI := fun σ H R => ta σ H fun vs H1 => ∃ j : Int, vs = [.int j] /\ -(2 ^ 62) <= j /\ j < 2 ^ 62 /\ R (Itr 0 j.toNat) H1
theorem Bf {a : Expr} {ta : TA} {p pos : Pos} (hg : Gl X "range") (hm : X.mg "range" = none) (ha : PA X [a] ta) (hs : starEach [a] X.env = [(false, eval a X.env)] := by rfl) : PI X tg (.Call (.Name "range" p) [a] [] pos) (Fo ta) := by
 intro pins s σ H R I h
 refine Call_ (pe I hg hm boot_range (PyProof.Rows.callWith_type1 (thn (ha pos pins s σ H _ I h) fun us s1 hpt9 => ?_) hs rfl))
 obtain ⟨vs, H1, I1, r1, q1⟩ := hpt9
 obtain ⟨j, e, q1, q2, q⟩ := q1
 subst e
 cases r1 with
 | cons r rr =>
  cases rr
  obtain ⟨t, rfl⟩ := r
  exact call_range_1 (CD I1 (by lia) (by lia) q1 q2 (by simpa using q))
def HL (wi : TI) (g : TG) (tb : TS) : TS := fun D σ H => wi σ H fun J H1 => ∃ W : Nat -> Nat -> St -> Hp -> Prop, (∃ m, W 0 m σ H1) /\ ∀ i m σ H, W i m σ H ->
 (J.stop i H /\ D.nx σ H) \/ (J.go i H /\ ∃ N : St -> Hp -> Prop, (∀ σ' H', N σ' H' -> ∃ m', m' < m /\ W (i + 1) m' σ' H') /\ ∀ x H', J.yld i H x H' -> g x σ H' fun σ2 H2 => tb { D with nx := N, ct := N, bk := D.nx } σ2 H2)
def m7 (fp : List Addr) (h : Heap) : List (Addr × Obj) := fp.filterMap fun b => (h.get? b).map fun o => (b, o)
theorem gA {fp : List Addr} {h : Heap} {b : Addr} {o : Obj} (hb : b ∈ fp) (e : h.get? b = some o) : (b, o) ∈ m7 fp h := List.mem_filterMap.mpr ⟨b, hb, by rw [e]; rfl⟩
theorem AC {fp : List Addr} {h : Heap} {p : Addr × Obj} (hp : p ∈ m7 fp h) : p.1 ∈ fp /\ h.get? p.1 = some p.2 := by
 obtain ⟨b, hb, e⟩ := List.mem_filterMap.mp hp
 cases q : h.get? b with
 | none => rw [q] at e; cases e
 | some o =>
  rw [q] at e
  have e' : (b, o) = p := Option.some.inj e
  subst e'
  exact ⟨hb, q⟩
theorem Inv.pinned {pins : List (Addr × Obj)} {σ : St} {H : Hp} {s : Shared} {fp : List Addr} (I : Inv X pins σ H s) (hf : ∀ b ∈ fp, qu X pins H b) (ho : ∀ b ∈ fp, ∃ o, s.heap.get? b = some o /\ ∀ v, o.data ≠ .cell v) : Inv X (pins ++ m7 fp s.heap) σ H s :=
 I.pins_of fun p hp => (List.mem_append.mp hp).elim (fun z => I.pin p (List.mem_append_right _ z)) fun z => by
  obtain ⟨hb, e⟩ := AC z
  obtain ⟨f0, f1, f2, _⟩ := hf p.1 hb
  obtain ⟨o, e', d⟩ := ho p.1 hb
  rw [e] at e'; cases e'
  exact ⟨e, f0, f1, f2, d⟩
theorem Inv.unpinned {pins pl : List (Addr × Obj)} {σ : St} {H : Hp} {s : Shared} (I : Inv X (pins ++ pl) σ H s) : Inv X pins σ H s := I.pins_of fun p hp => I.pin p (List.mem_append_right _ (List.mem_append_left _ hp))
theorem ka {iter : Expr} {body : List Stmt} {wi : TI} {g : TG} {tb : TS} {pos : Pos} (hp : PassesOwn (model X.prog X.w) X.A X.env X.xe) (hc : X.calm = true) (hi : PI X tg iter wi) (hg : PG X tg g) (hb : PSs X body tb)
  (hs : ∀ x, foldedSetIterable iter X.env x = pure x := by intro _; rfl) : PS X (.For tg iter body [] pos) (HL wi g tb) := by
 intro pins s σ H D I h
 refine wpAny_For (thn (hi pins s σ H _ I h) fun v s1 h1 => thn h1 fun itv s2 h2 => ?_) hs
 obtain ⟨it, fp, tn, J, H2, e, I2, T, st2, f2, W, ⟨m0, w0⟩, turn⟩ := h2
 subst e
 -- what stays true of the iterator's objects through the loop
 have stat : ∀ {H' : Hp}, (∀ b ∈ fp, H' b = none) -> ∀ b ∈ fp, qu X pins H' b := fun hn b hb => ⟨hn b hb, (f2 b hb).2⟩
 refine codeAny_forLoop_any (fun n s' => ∃ i σ' H', Inv X pins σ' H' s' /\ tn i s'.heap /\ (∀ b ∈ fp, H' b = none) /\ W i n σ' H') ?_ m0 ⟨0, σ, H2, I2, st2, fun b hb => (f2 b hb).1, w0⟩
 rintro n s3 ⟨i, σ3, H3, I3, st3, fr3, w3⟩
 rcases turn i n σ3 H3 w3 with ⟨stop, qn⟩ | ⟨go, N, hN, step⟩
 ·refine wpAny_passesOwn hp (thn (T.done X rfl rfl rfl hc i pins s3 σ3 H3 X.xe I3 (stat fr3) st3 stop) fun r s4 ⟨hr, I4⟩ => ?_)
  subst hr
  exact wpAny_execs_nil ⟨σ3, H3, I4, qn⟩
 ·refine wpAny_passesOwn hp (thn (T.item X rfl rfl rfl hc i pins s3 σ3 H3 X.xe I3 (stat fr3) st3 go) fun r s4 ⟨u, hr, h4⟩ => ?_)
  subst hr
  refine wpAny_passesOwn hp (thn h4 fun _ s5 hpt9 => ?_)
  obtain ⟨x, H5, I5, r5, y5, st5, fr5⟩ := hpt9
  have I5' := I5.pinned (stat fr5) (T.obj _ _ st5)
  refine wpAny_passesOwn hp (thn (hg _ s5 σ3 H5 x u _ I5' r5 (step x H5 y5)) fun _ s6 hpt9 => ?_)
  obtain ⟨σ6, H6, I6, q6⟩ := hpt9
  refine wpAny_passesOwn hp (thn (hb _ s6 σ6 H6 _ I6 q6) fun f s7 q7 => ?_)
  have again : ∀ {σ7 : St} {H7 : Hp}, Inv X (pins ++ m7 fp s5.heap) σ7 H7 s7 -> N σ7 H7 -> ∃ m, m < n /\ ∃ i σ' H', Inv X pins σ' H' s7 /\ tn i s7.heap /\ (∀ b ∈ fp, H' b = none) /\ W i m σ' H' := fun {σ7 H7} I7 n7 => by
   obtain ⟨m', hm, w7⟩ := hN σ7 H7 n7
   refine ⟨m', hm, i + 1, σ7, H7, I7.unpinned, T.keep _ _ _ st5 fun b hb o e => (I7.pin (b, o) (List.mem_append_right _ (List.mem_append_right _ (gA hb e)))).1, fun b hb => ?_, w7⟩
   obtain ⟨o, e, d⟩ := T.obj _ _ st5 b hb
   exact (I7.pin (b, o) (List.mem_append_right _ (List.mem_append_right _ (gA hb e)))).2.1
  cases f with
  | next => obtain ⟨σ7, H7, I7, n7⟩ := q7; exact again I7 n7
  | cont => obtain ⟨σ7, H7, I7, n7⟩ := q7; exact again I7 n7
  | brk => obtain ⟨σ7, H7, I7, q7⟩ := q7; exact ⟨σ7, H7, I7.unpinned, q7⟩
  | ret v => obtain ⟨x7, σ7, H7, I7, r7, q7⟩ := q7; exact ⟨x7, σ7, H7, I7.unpinned, r7, q7⟩
end
abbrev R2 := V -> V -> Hp -> VK -> Prop
def OpR (X : Cx) (f : Value -> Value -> Sem Value) (r : R2) : Prop :=
 ∀ (pins : List (Addr × Obj)) (s : Shared) (σ : St) (H : Hp) (x y : V) (v u : Value) (Q : VK), Inv X pins σ H s -> RelV x v -> RelV y u -> r x y H Q ->
  wpAny (model X.prog X.w) X.A (f v u) (EP X pins σ Q) X.xe s
def UnR (X : Cx) (f : Value -> Sem Value) (r : V -> Hp -> VK -> Prop) : Prop :=
 ∀ (pins : List (Addr × Obj)) (s : Shared) (σ : St) (H : Hp) (x : V) (v : Value) (Q : VK), Inv X pins σ H s -> RelV x v -> r x H Q ->
  wpAny (model X.prog X.w) X.A (f v) (EP X pins σ Q) X.xe s
def CallR (X : Cx) (f : Value) (r : List V -> Hp -> VK -> Prop) : Prop :=
 ∀ (pins : List (Addr × Obj)) (s : Shared) (σ : St) (H : Hp) (xs : List V) (us : List Value) (Q : VK), Inv X pins σ H s -> Vals xs us -> r xs H Q ->
  wpAny (model X.prog X.w) X.A (call f us) (EP X pins σ Q) X.xe s
def Jp (X : Cx) (r : V -> Hp -> (Bool -> Hp -> Prop) -> Prop) : Prop :=
 ∀ (pins : List (Addr × Obj)) (s : Shared) (σ : St) (H : Hp) (x : V) (v : Value) (Q : Bool -> Hp -> Prop), Inv X pins σ H s -> RelV x v -> r x H Q ->
  wpAny (model X.prog X.w) X.A (truthy v) (TP X pins σ Q) X.xe s
def tOp (r : R2) (ta tb : TE) : TE := fun σ H Q => ta σ H fun x H1 => tb σ H1 fun y H2 => r x y H2 Q
def tUn (r : V -> Hp -> VK -> Prop) (ta : TE) : TE := fun σ H Q => ta σ H fun x H1 => r x H1 Q
def rI (C : Int -> Int -> Prop) (g : Int -> Int -> V) : R2 := fun x y H Q => ∃ i j, x = .int i /\ y = .int j /\ C i j /\ Q (g i j) H
def rI0 (g : Int -> Int -> V) : R2 := fun x y H Q => ∃ i j, x = .int i /\ y = .int j /\ Q (g i j) H
def rU (g : Int -> V) : V -> Hp -> VK -> Prop := fun x H Q => ∃ i, x = .int i /\ Q (g i) H
section
variable {X : Cx} {a b c : Expr} {ta tb tc : TE} {pos : Pos}
theorem Gd (ha : PE X a ta) (hb : PE X b tb) {pins : List (Addr × Obj)} {s : Shared} {σ : St} {H : Hp} {R : V -> V -> Hp -> Prop} (I : Inv X pins σ H s)
  (h : ta σ H fun x H1 => tb σ H1 fun y H2 => R x y H2) {Q : Value -> Shared -> Prop} {f : Value -> Value -> Sem Value}
  (hf : ∀ v u s2 x y H2, Inv X pins σ H2 s2 -> RelV x v -> RelV y u -> R x y H2 -> wpAny (model X.prog X.w) X.A (f v u) Q X.xe s2) :
  wpAny (model X.prog X.w) X.A (eval a X.env) (fun v s₁ => wpAny (model X.prog X.w) X.A (eval b X.env) (fun u s₂ => wpAny (model X.prog X.w) X.A (f v u) Q X.xe s₂) X.xe s₁) X.xe s := by
 refine thn (ha pins s σ H _ I h) fun v s1 hpt9 => ?_
 obtain ⟨x, H1, I1, r1, q1⟩ := hpt9
 refine thn (hb pins s1 σ H1 _ I1 q1) fun u s2 hpt9 => ?_
 obtain ⟨y, H2, I2, r2, q2⟩ := hpt9
 exact hf v u s2 x y H2 I2 r1 r2 q2
theorem aQ {op : Operator} {r : R2} (ho : OpR X (binaryOp op) r) (ha : PE X a ta) (hb : PE X b tb) : PE X (.BinOp a op b pos) (tOp r ta tb) := by
 intro pins s σ H Q I h
 exact wpAny_BinOp (Gd ha hb I h fun v u s2 x y H2 I2 rx ry q => ho pins s2 σ H2 x y v u Q I2 rx ry q)
theorem qI {op : UnaryOp} {r : V -> Hp -> VK -> Prop} (ho : UnR X (unaryOp op) r) (ha : PE X a ta) : PE X (.UnaryOp op a pos) (tUn r ta) := by
 intro pins s σ H Q I h
 exact UnaryOp_ (thn (ha pins s σ H _ I h) fun v s1 ⟨x, H1, I1, r1, q1⟩ => ho pins s1 σ H1 x v Q I1 r1 q1)
theorem opI {f : Value -> Value -> Sem Value} {C : Int -> Int -> Prop} {g : Int -> Int -> Int}
  (rule : ∀ (i j : Int) (t u : Tok) (s : Shared) (Q : Value -> Shared -> Prop) (E : Value -> Shared -> Prop), C i j -> Q (.int (g i j) s.toks) { s with toks := s.toks + 1 } -> wpAny (model X.prog X.w) X.A (f (.int i t) (.int j u)) Q E s) :
  OpR X f (rI C fun i j => .int (g i j)) := by
 intro pins s σ H x y v u Q I rx ry h
 obtain ⟨i, j, rfl, rfl, hc, q⟩ := h
 obtain ⟨t, rfl⟩ := rx
 obtain ⟨t', rfl⟩ := ry
 exact rule i j t t' s _ _ hc ⟨.int (g i j), H, I.tok _, ⟨_, rfl⟩, q⟩
theorem F8 {f : Value -> Value -> Sem Value} {g : Int -> Int -> Int}
  (rule : ∀ (i j : Int) (t u : Tok) (s : Shared) (Q : Value -> Shared -> Prop) (E : Value -> Shared -> Prop), Q (.int (g i j) s.toks) { s with toks := s.toks + 1 } -> wpAny (model X.prog X.w) X.A (f (.int i t) (.int j u)) Q E s) :
  OpR X f (rI0 fun i j => .int (g i j)) := by
 intro pins s σ H x y v u Q I rx ry h
 obtain ⟨i, j, rfl, rfl, q⟩ := h
 obtain ⟨t, rfl⟩ := rx
 obtain ⟨t', rfl⟩ := ry
 exact rule i j t t' s _ _ ⟨.int (g i j), H, I.tok _, ⟨_, rfl⟩, q⟩
theorem Ey {f : Value -> Value -> Sem Value} {g : Int -> Int -> Bool}
  (rule : ∀ (i j : Int) (t u : Tok) (s : Shared) (Q : Value -> Shared -> Prop) (E : Value -> Shared -> Prop), Q (.bool (g i j)) s -> wpAny (model X.prog X.w) X.A (f (.int i t) (.int j u)) Q E s) :
  OpR X f (rI0 fun i j => .bl (g i j)) := by
 intro pins s σ H x y v u Q I rx ry h
 obtain ⟨i, j, rfl, rfl, q⟩ := h
 obtain ⟨t, rfl⟩ := rx
 obtain ⟨t', rfl⟩ := ry
 exact rule i j t t' s _ _ ⟨.bl (g i j), H, I, rfl, q⟩
def Hn (i j : Int) : Prop := 0 < j /\ j < 1073741824
def Fy (i j : Int) : Prop := 0 <= j /\ j <= 1000000 /\ i.natAbs < 2 ^ 64
def CMul (i j : Int) : Prop := (-(2 ^ 64) < i /\ i < 2 ^ 64) \/ (-(2 ^ 64) < j /\ j < 2 ^ 64)
theorem CMul.ok {i j : Int} (h : CMul i j) : IntMulOk i j := by
 rcases h with ⟨h1, h2⟩ | ⟨h1, h2⟩
 ·exact .of_left (intBits_le_64 h1 h2)
 ·exact .of_right (intBits_le_64 h1 h2)
theorem op_add : OpR X (binaryOp .Add) (rI0 fun i j => .int (i + j)) := F8 fun _ _ _ _ _ _ _ q => add_int q
theorem nj : OpR X (binaryOp .Sub) (rI0 fun i j => .int (i - j)) := F8 fun _ _ _ _ _ _ _ q => sub_int q
theorem yz : OpR X (binaryOp .Mult) (rI CMul fun i j => .int (i * j)) := opI fun _ _ _ _ _ _ _ hc q => mul_int q hc.ok
theorem uE : OpR X (binaryOp .FloorDiv) (rI Hn fun i j => .int (i / j)) := opI fun i j _ _ _ _ _ hc q => by
 have h1 : (0 : Int) < j := hc.1
 have h2 : j < 1073741824 := hc.2
 exact floordiv_int (by lia) (by rw [Int.fdiv_eq_ediv_of_nonneg i (by lia)]; exact q) (.inl (PyProof.noPylong_small (by lia)))
theorem eG : OpR X (binaryOp .Mod) (rI (fun _ j => 0 < j) fun i j => .int (i % j)) := opI fun i j _ _ _ _ _ hc q => by
 have h1 : (0 : Int) < j := hc
 exact mod_int' (by lia) (by rw [Int.fmod_eq_emod_of_nonneg i (by lia)]; exact q)
theorem yq : OpR X (binaryOp .Pow) (rI Fy fun i j => .int (i ^ j.toNat)) := opI fun _ _ _ _ _ _ _ hc q => pow_int_small hc.1 hc.2.1 hc.2.2 q
theorem yi : OpR X (binaryOp .BitAnd) (rI0 fun i j => .int (Builtin.bitAnd i j)) := F8 fun _ _ _ _ _ _ _ q => and_int q
theorem unI {f : Value -> Sem Value} {g : Int -> Int}
  (rule : ∀ (i : Int) (t : Tok) (s : Shared) (Q : Value -> Shared -> Prop) (E : Value -> Shared -> Prop), Q (.int (g i) s.toks) { s with toks := s.toks + 1 } -> wpAny (model X.prog X.w) X.A (f (.int i t)) Q E s) :
  UnR X f (rU fun i => .int (g i)) := by
 intro pins s σ H x v Q I rx h
 obtain ⟨i, rfl, q⟩ := h
 obtain ⟨t, rfl⟩ := rx
 exact rule i t s _ _ ⟨.int (g i), H, I.tok _, ⟨_, rfl⟩, q⟩
theorem lJ : UnR X (unaryOp .USub) (rU fun i => .int (-i)) := unI fun _ _ _ _ _ q => neg_int q
end
section
variable {X : Cx} {a b c : Expr} {ta tb tc : TE} {pos : Pos}
theorem G3 : OpR X (compareOp .Lt) (rI0 fun i j => .bl (decide (i < j))) := Ey fun _ _ _ _ _ _ _ q => lt_int q
theorem BH : OpR X (compareOp .LtE) (rI0 fun i j => .bl (decide (i <= j))) := Ey fun _ _ _ _ _ _ _ q => le_int q
theorem Dy : OpR X (compareOp .Gt) (rI0 fun i j => .bl (decide (j < i))) := Ey fun _ _ _ _ _ _ _ q => gt_int q
theorem Hl : OpR X (compareOp .GtE) (rI0 fun i j => .bl (decide (j <= i))) := Ey fun _ _ _ _ _ _ _ q => ge_int q
theorem OpR.or {f : Value -> Value -> Sem Value} {r r' : R2} (h : OpR X f r) (h' : OpR X f r') : OpR X f (fun x y H Q => r x y H Q \/ r' x y H Q) := by
 intro pins s σ H x y v u Q I rx ry q
 rcases q with q | q
 ·exact h pins s σ H x y v u Q I rx ry q
 ·exact h' pins s σ H x y v u Q I rx ry q
theorem bL (b : Expr) {op : CmpOp} (h : op ≠ .In := by decide) (h2 : op ≠ .NotIn := by decide) : behindInMarks op b = false := by
 have e1 : (op == CmpOp.In) = false := by cases op <;> first | rfl | exact absurd rfl h
 have e2 : (op == CmpOp.NotIn) = false := by cases op <;> first | rfl | exact absurd rfl h2
 cases b <;> simp [behindInMarks, e1, e2]
theorem kE {op : CmpOp} {r : R2} (ho : OpR X (compareOp op) r) (ha : PE X a ta) (hb : PE X b tb) (hm : behindInMarks op b = false) : PE X (.Compare a [op] [b] pos) (tOp r ta tb) := by
 intro pins s σ H Q I h
 exact wpAny_Compare1 (Gd ha hb I h fun v u s2 x y H2 I2 rx ry q => ho pins s2 σ H2 x y v u Q I2 rx ry q) hm
def Ft (t : TE) : TT := fun σ H Q => t σ H fun x H' => ∃ k, x = .bl k /\ Q k H'
theorem bW {op : CmpOp} {r : R2} (ho : OpR X (compareOp op) r) (ha : PE X a ta) (hb : PE X b tb) (hm : behindInMarks op b = false) : PT X (.Compare a [op] [b] pos) (Ft (tOp r ta tb)) := by
 intro pins s σ H Q I h
 refine wpAny_isTrue_Compare1 (thn (ha pins s σ H _ I h) fun v s1 ⟨x, H1, I1, r1, q1⟩ => thn (hb pins s1 σ H1 _ I1 q1) fun u s2 ⟨y, H2, I2, r2, q2⟩ =>
  thn (ho pins s2 σ H2 x y v u _ I2 r1 r2 q2) fun c s3 ⟨z, H3, I3, r3, k, e, q3⟩ => ?_) hm
 subst e
 cases r3
 exact wpAny_truthy_bool ⟨H3, I3, q3⟩
def BD (K : W.Frag) (x : V) (H : Hp) (k : Bool) : Prop :=
 match x with
 | .non => k = false
 | .bl b => k = b
 | .int i => k = (i != 0)
 | .str y => y.length <= sizeLine /\ k = ((y.length : Int) != 0)
 | .byt y => y.size <= sizeLine /\ k = ((y.size : Int) != 0)
 | .ref p => (∃ xs, SqL K H p xs /\ k = !xs.isEmpty) \/ (∃ xs, SqT K H p xs /\ k = !xs.isEmpty) \/ ∃ kvs, H p = some (.dK kvs) /\ k = !kvs.isEmpty
 | _ => False
theorem yZ {κ : Type} {kvs : List (κ × V)} {vs : List (κ × Value)} (r : KV kvs vs) : (!vs.isEmpty) = !kvs.isEmpty := by
 cases r <;> rfl
theorem qA {xs : List V} {its : List Value} (r : Vals xs its) : (!its.toArray.isEmpty) = !xs.isEmpty := by
 cases r <;> simp
theorem nD : (sizeLine : Nat) < 2 ^ 63 := by rw [sizeLine_eq]; decide
theorem FV : Jp X (fun x H Q => ∃ k, BD X.K x H k /\ Q k H) := by
 intro pins s σ H x v Q I rx h
 obtain ⟨k, e, q⟩ := h
 have hl := nD
 have hs : sizeLine = 16777216 := sizeLine_eq
 cases x with
 | non =>
  cases rx
  have e' : k = false := e
  subst e'
  exact truthy_none ⟨H, I, q⟩
 | bl b =>
  cases rx
  have e' : k = b := e
  subst e'
  exact wpAny_truthy_bool ⟨H, I, q⟩
 | int i =>
  obtain ⟨t, rfl⟩ := rx
  have e' : k = (i != 0) := e
  subst e'
  exact PySem.P.truthy_int ⟨H, I, q⟩
 | str y =>
  obtain ⟨t, rfl⟩ := rx
  obtain ⟨hy, e'⟩ : y.length <= sizeLine /\ k = ((y.length : Int) != 0) := e
  subst e'
  exact PySem.P.truthy_str (by lia) ⟨H, I.tok _, q⟩
 | byt y =>
  obtain ⟨t, rfl⟩ := rx
  obtain ⟨hy, e'⟩ : y.size <= sizeLine /\ k = ((y.size : Int) != 0) := e
  subst e'
  exact W.truthy_bytes (by lia) ⟨H, I.tok _, q⟩
 | ref p =>
  cases rx
  have e' : (∃ xs, SqL X.K H p xs /\ k = !xs.isEmpty) \/ (∃ xs, SqT X.K H p xs /\ k = !xs.isEmpty) \/ ∃ kvs, H p = some (.dK kvs) /\ k = !kvs.isEmpty := e
  rcases e' with ⟨xs, hx, e'⟩ | ⟨xs, hx, e'⟩ | ⟨kvs, hx, e'⟩
  ·subst e'
   obtain ⟨its, r, pl, hz⟩ := I.list hx
   have hlen := r.length
   exact wpAny_truthy_list pl.isList (by simp only [List.size_toArray]; lia) ⟨H, I.tok _, by rw [qA r]; exact q⟩
  ·subst e'
   obtain ⟨its, r, pl, hz⟩ := I.tuple hx
   have hlen := r.length
   exact truthy_tuple pl (by simp only [List.size_toArray]; lia) ⟨H, I.tok _, by rw [qA r]; exact q⟩
  ·subst e'
   obtain ⟨hz, hS, vs, r, m⟩ : kvs.length <= sizeLine /\ (p == sysModules) = false /\ ∃ vs, KV kvs vs /\ s.heap.DictOf (bG X.prog X.w) p vs := I.hok p _ hx
   have hlen : kvs.length = vs.length := Paired.length r
   exact wpAny_truthy_dict hS m (by lia) ⟨H, I.tok _, by rw [yZ r]; exact q⟩
 | _ => exact (show False from e).elim
theorem kc (ha : PE X a ta) (he : ∀ whole, isTrue a X.env whole = (do let v ← whole; standAt a.pos; holding [v] (truthy v))) :
  PT X a (fun σ H Q => ta σ H fun x H' => ∃ k, BD X.K x H' k /\ Q k H') := by
 intro pins s σ H Q I h
 exact isTrue_plain (thn (ha pins s σ H _ I h) fun v s1 ⟨x, H1, I1, r1, q1⟩ => FV pins s1 σ H1 x v Q I1 r1 q1) (he _)
theorem yb : OpR X (binaryOp .Add) (fun x y H Q => ∃ i j, x = .str i /\ y = .str j /\ i.length + j.length <= sizeLine /\ Q (.str (i ++ j)) H) := by
 intro pins s σ H x y v u Q I rx ry h
 obtain ⟨i, j, rfl, rfl, hz, q⟩ := h
 obtain ⟨t, rfl⟩ := rx
 obtain ⟨t', rfl⟩ := ry
 exact add_str (fun t' tk => ⟨.str (i ++ j), H, I.tok _, ⟨_, rfl⟩, q⟩) hz
theorem Fu {x : V} {us : List Value} (r : Vals [x] us) : ∃ u, us = [u] /\ RelV x u := by
 cases r with
 | cons r1 r2 => cases r2; exact ⟨_, rfl, r1⟩
theorem HQ {x y : V} {us : List Value} (r : Vals [x, y] us) : ∃ u w', us = [u, w'] /\ RelV x u /\ RelV y w' := by
 cases r with
 | cons r1 r2 =>
  cases r2 with
  | cons r3 r4 => cases r4; exact ⟨_, _, rfl, r1, r3⟩
theorem AF (hc : X.calm = true) : CallR X (.builtin "max") (fun xs H Q => ∃ i j, xs = [.int i, .int j] /\ Q (.int (if j > i then j else i)) H) := by
 intro pins s σ H xs us Q I r h
 obtain ⟨i, j, rfl, q⟩ := h
 obtain ⟨u, w', rfl, ⟨t, rfl⟩, ⟨t', rfl⟩⟩ := HQ r
 refine max_two_ints (I.ok.hd hc) fun h' tk k => ⟨_, H, I.kept k, ?_, q⟩
 by_cases hj : j > i
 ·rw [if_pos hj, if_pos hj]; exact ⟨_, rfl⟩
 ·rw [if_neg hj, if_neg hj]; exact ⟨_, rfl⟩
def HA (K : W.Frag) (x : V) (H : Hp) (n : Nat) : Prop :=
 match x with
 | .str y => y.length <= sizeLine /\ n = y.length
 | .byt y => y.size <= sizeLine /\ n = y.size
 | .ref p => (∃ xs, SqL K H p xs /\ n = xs.length) \/ ∃ xs, SqT K H p xs /\ n = xs.length
 | _ => False
theorem DC : CallR X (.builtin "len") (fun xs H Q => ∃ x n, xs = [x] /\ HA X.K x H n /\ Q (.int n) H) := by
 intro pins s σ H xs us Q I r h
 obtain ⟨x, n, rfl, e, q⟩ := h
 obtain ⟨u, rfl, rx⟩ := Fu r
 have hl := nD
 have hs : sizeLine = 16777216 := sizeLine_eq
 cases x with
 | str y =>
  obtain ⟨t, rfl⟩ := rx
  obtain ⟨hy, e'⟩ : y.length <= sizeLine /\ n = y.length := e
  subst e'
  exact len_str (by lia) ⟨.int _, H, I.tok _, ⟨_, rfl⟩, q⟩
 | byt y =>
  obtain ⟨t, rfl⟩ := rx
  obtain ⟨hy, e'⟩ : y.size <= sizeLine /\ n = y.size := e
  subst e'
  exact W.len_bytes (by lia) ⟨.int _, H, I.tok _, ⟨_, rfl⟩, q⟩
 | ref p =>
  cases rx
  have e' : (∃ xs, SqL X.K H p xs /\ n = xs.length) \/ ∃ xs, SqT X.K H p xs /\ n = xs.length := e
  rcases e' with ⟨xs, hx, e'⟩ | ⟨xs, hx, e'⟩
  ·subst e'
   obtain ⟨its, r', pl, hz⟩ := I.list hx
   have hlen := r'.length
   exact Calls.call_len_list pl.isList (by simp only [List.size_toArray]; lia) ⟨.int xs.length, H, I.tok _, ⟨_, by simp only [List.size_toArray]; rw [hlen]⟩, q⟩
  ·subst e'
   obtain ⟨its, r', pl, hz⟩ := I.tuple hx
   have hlen := r'.length
   exact len_tuple pl (by simp only [List.size_toArray]; lia) ⟨.int xs.length, H, I.tok _, ⟨_, by simp only [List.size_toArray]; rw [hlen]⟩, q⟩
 | _ => exact (show False from e).elim
end
section
variable {prog : Program} {w : World} {A : Around} {E : Value -> Shared -> Prop} {s : Shared} {K : W.Frag} {x dx C f : Addr} {mA : Str -> Option Value} {name : Str} {v : Value}
end
section
variable {P : Program} {w : World} {H H' : Hp} {h h' : Heap} {a C dx : Addr} {fs fs' : List (Str × V)}
end
structure Cls (K : W.Frag) (C : Addr) : Prop where
 pg : W.plainGet K C Str.empty = true
 hd : W.hasDictIn K C = true
 po : W.plainOver K C = true
 sa : W.findIn K (.ref C) "__setattr__" = some (some (.builtin "object.__setattr__"))
section
variable {X : Cx} {pins : List (Addr × Obj)} {σ : St} {H : Hp} {s : Shared} {a C dx : Addr} {fs : List (Str × V)} {f : Str} {v : V} {A : Around} {E : Value -> Shared -> Prop}
end
section
variable {X : Cx} {o e value : Expr} {f : Str} {pos pos' tpos : Pos} {ta tv : TE}
end
section
variable {X : Cx} {pins : List (Addr × Obj)} {σ : St} {H : Hp} {s : Shared} {A : Around} {E : Value -> Shared -> Prop} {Q : Value -> Shared -> Prop} {c : Value} {b : Bool}
inductive TyOf (K : W.Frag) (H : Hp) : V -> Value -> Prop where
 | non : TyOf K H .non (.type "NoneType")
 | bl (x : Bool) : TyOf K H (.bl x) (.type "bool")
 | int (i : Int) : TyOf K H (.int i) (.type "int")
 | str (x : Str) : TyOf K H (.str x) (.type "str")
 | flt (x : UInt64) : TyOf K H (.flt x) (.type "float")
 | lst {a : Addr} {xs : List V} (e : H a = some (.lst xs)) : TyOf K H (.ref a) (.type "list")
 | frz {a : Addr} {o : Obj} {xs : List V} (e : H a = some (.frz o (.lst xs))) : TyOf K H (.ref a) (.type "list")
 | tup {a : Addr} {xs : List V} (e : H a = some (.tup xs)) : TyOf K H (.ref a) (.type "tuple")
 | dK {a : Addr} {kvs : List (Key × V)} (e : H a = some (.dK kvs)) : TyOf K H (.ref a) (.type "dict")
 | dT {a : Addr} {kvs : List (List Key × V)} (e : H a = some (.dT kvs)) : TyOf K H (.ref a) (.type "dict")
 | ins {a C dx : Addr} {fs : List (Str × V)} (e : H a = some (.ins C dx fs)) (cl : Cls K C) (ha : W.findIn K (.ref C) "__class__" = some (some (.builtin "object.__class__")))
   (hn : W.specialIn K (.builtin "object.__class__") "__get__" = some (some (.builtin "getset_descriptor.__get__"))) (htk : W.takesIn K (.builtin "object.__class__") = some true)
   (hm : W.mroIn K C (.type "object") = some true) : TyOf K H (.ref a) (.ref C)
end
structure Room (k : Nat) (A : Around) : Prop where
 hd : A.handled = none
 dp : A.depth + 3 * k + 5 < recursionLimit
 un : A.units + 16 * k + 200 < cLine
theorem Room.mono {j k : Nat} {A : Around} (r : Room k A) (h : j <= k) : Room j A := ⟨r.hd, by have := r.dp; lia, by have := r.un; lia⟩
theorem Room.deeper {k : Nat} {A : Around} (r : Room (k + 1) A) (env : Env) : Room k (A.deeper env) :=
 ⟨r.hd, by have := r.dp; show A.depth + 1 + 3 * k + 5 < _; lia, by have := r.un; show A.units + 3 + 16 * k + 200 < _; lia⟩
theorem Room.depth {k : Nat} {A : Around} (r : Room k A) : A.depth < recursionLimit := by have := r.dp; lia
theorem Room.units {k : Nat} {A : Around} (r : Room k A) : A.units + 64 < cLine := by have := r.un; lia
def kJ : TA := fun _ H Q => Q [] H
def d9 (ta : TE) (tr : TA) : TA := fun σ H Q => ta σ H fun x H1 => tr σ H1 fun xs H2 => Q (x :: xs) H2
section
variable {X : Cx} {e : Expr} {es : List Expr} {te : TE} {t : TA} {pos : Pos}
theorem ai : PA X [] kJ := fun _ _ _ _ H Q I h => Calls.spliced_nil ⟨[], H, I, .nil, h⟩
theorem af (ha : PE X e te) (hr : PA X es t) (hs : starEach (e :: es) X.env = (false, eval e X.env) :: starEach es X.env := by rfl) : PA X (e :: es) (d9 te t) := by
 intro pos pins s σ H Q I h
 rw [hs]
 show wpAny _ _ (spliced ((false, eval e X.env) :: backTo pos (starEach es X.env))) _ _ s
 refine Calls.spliced_cons (thn (ha pins s σ H _ I h) fun u s1 hpt9 => ?_)
 obtain ⟨x, H1, I1, r1, q1⟩ := hpt9
 exact thn (hr pos pins s1 σ H1 _ I1 q1) fun us s2 ⟨xs, H2, I2, r2, q2⟩ => ⟨x :: xs, H2, I2, .cons r1 r2, q2⟩
def EH (t : TA) : TE := fun σ H Q => t σ H fun xs H1 => xs.length <= sizeLine /\ ∀ p, H1 p = none -> Q (.ref p) (upd H1 p (.tup xs))
def AE (t : TA) : TE := fun σ H Q => t σ H fun xs H1 => xs.length <= sizeLine /\ ∀ p, H1 p = none -> Q (.ref p) (upd H1 p (.lst xs))
theorem aN {x1} (h : PA X es t) : PE X (.Tuple es x1 pos) (EH t) := by
 intro pins s σ H Q I hq
 refine wpAny_Tuple_spliced (thn (h pos pins s σ H _ I hq) fun us s1 ⟨xs, H1, I1, r, z, q⟩ => ⟨by rw [<- r.length]; exact z, ?_⟩)
 have hf : H1 s1.heap.objs.size = none := I1.hok.fresh (Nat.le_refl _)
 refine ⟨.ref s1.heap.objs.size, upd H1 s1.heap.objs.size (.tup xs), I1.laid (t' := s1.toks) (fun b u e => Heap.get?_push_of_some _ e) (Nat.le_refl _) ?_, rfl, q _ hf⟩
 exact ⟨z, us, r, ⟨_, Heap.get?_push_size _ rfl, rfl, _, rfl⟩⟩
theorem cU (h : PA X es t) : PE X (.List es pos) (AE t) := by
 intro pins s σ H Q I hq
 refine wpAny_List_spliced (thn (h pos pins s σ H _ I hq) fun us s1 ⟨xs, H1, I1, r, z, q⟩ => ⟨by rw [<- r.length]; exact z, ?_⟩)
 have hf : H1 s1.heap.objs.size = none := I1.hok.fresh (Nat.le_refl _)
 refine ⟨.ref s1.heap.objs.size, upd H1 s1.heap.objs.size (.lst xs), I1.laid (t' := s1.toks) (fun b u e => Heap.get?_push_of_some _ e) (Nat.le_refl _) ?_, rfl, q _ hf⟩
 exact ⟨z, us, 0, r, Heap.get?_push_size _ rfl⟩
end
abbrev Sp := List V -> Hp -> VK -> XK -> Prop
abbrev CXT := List Env -> Hp -> Shared -> XK -> Value -> Shared -> Prop
structure Env0 (P : Program) (w : World) (K : W.Frag) (mg : Str -> Option Value) (base : Heap) (A : Around) (outer : List Env) (s : Shared) (H : Hp) : Prop where
 frames : A.frames = some outer
 mod : Mod K mg base
 bs : ∀ b o, base.get? b = some o -> s.heap.get? b = some o /\ H b = none
 bsz : base.objs.size <= s.heap.objs.size
 funs : s.heap.FunFrames base outer
 frf : ∀ b ∈ frs outer, H b = none
 hok : HOk P w H s.heap
 bare : AllBare s.gens
def CE (outer : List Env) (P : Program) (w : World) (H : Hp) (s : Shared) (Q : VK) (u : Value) (s' : Shared) : Prop :=
 ∃ v H', s'.os = s.os /\ AllBare s'.gens /\ Un (frs outer) [] H H' s.heap s'.heap /\ HOk P w H' s'.heap /\ RelV v u /\ Q v H'
def CR (CX : CXT) (outer : List Env) (P : Program) (w : World) (H : Hp) (s : Shared) (Q : VK) (E : XK) (r : Result) (s' : Shared) : Prop :=
 match r with
 | .ok (.ret u) => CE outer P w H s Q u s'
 | .ok _ => False
 | .error e => CX outer H s E e s'
structure FnOk (P : Program) (w : World) (K : W.Frag) (mg : Str -> Option Value) (base : Heap) (CX : CXT) (k : Nat) (f : Addr) (fd : FuncData) (ps : List Str) (sp : Sp) : Prop where
 len : ∀ vs H Q E, sp vs H Q E -> vs.length = ps.length
 run : ∀ (A : Around) (outer : List Env) (s : Shared) (H : Hp) (args : Args) (us : List Value) (vs : List V) (Q : VK) (E : XK), Room k A -> Env0 P w K mg base A outer s H -> BindsTo s fd args (ps.zip us) -> Vals vs us -> sp vs H Q E ->
  codeAny (model P w) A (.call (.ref f) args) (CR CX outer P w H s Q E) s
section
variable {X : Cx} {pins : List (Addr × Obj)} {σ : St} {H : Hp} {s s' : Shared}
theorem Inv.env0 (I : Inv X pins σ H s) : Env0 X.prog X.w X.K X.mg X.base X.A X.stack s H :=
 ⟨I.ok.frames, I.ok.mod, I.bs, Nat.le_trans I.ok.bsz I.sz, I.stack, I.stkFree, I.hok, I.bare⟩
theorem Inv.after {Q : VK} {u : Value} (I : Inv X pins σ H s) (h : CE X.stack X.prog X.w H s Q u s') : EP X pins σ Q u s' := by
 obtain ⟨v, H', os, bare, un, hok, r, q⟩ := h
 obtain ⟨hh, g, d, t, os'⟩ := s'
 obtain rfl : os' = s.os := os
 exact ⟨v, H', I.call (h' := hh) (g' := g) (d' := d) (t' := t) (ch := []) un hok bare (fun b z => absurd z (by simp)), r, q⟩
end
def uk (sp : Sp) (dvs : List V) (E : XK) (t : TA) : TE := fun σ H Q => t σ H fun vs H1 => sp (vs ++ dvs) H1 Q E
def Binds (K : W.Frag) (fd : FuncData) (ps : List Str) (ds : List Value) : Prop :=
 ∀ (s : Shared) (us : List Value), K.In s.heap -> (us ++ ds).length = ps.length -> BindsTo s fd ⟨us, []⟩ (ps.zip (us ++ ds))
theorem Binds.all {K : W.Frag} {fd : FuncData} {ps : List Str} (h : ∀ us : List Value, us.length = ps.length -> bindArgs fd ⟨us, []⟩ = pure (ps.zip us)) : Binds K fd ps [] := fun s us _ hl => by
 rw [List.append_nil] at hl ⊢
 exact .of_eq (h us hl)
def pW (CX : CXT) (X : Cx) (E : XK) : Prop := ∀ (pins : List (Addr × Obj)) (σ : St) (H : Hp) (s : Shared) (e : Value) (s' : Shared), Inv X pins σ H s -> CX X.stack H s E e s' -> X.xe e s'
section
variable {X : Cx} {CX : CXT} {k : Nat} {f C : Addr} {fd : FuncData} {ps : List Str} {sp : Sp} {dvs : List V} {ds : List Value} {E : XK} {x m : Str} {p pos apos : Pos} {e o : Expr} {es : List Expr} {ta : TE} {t : TA}
theorem GE {pins : List (Addr × Obj)} {σ : St} {H : Hp} {s : Shared} {Q : VK} {us : List Value} {vs : List V} (F : FnOk X.prog X.w X.K X.mg X.base CX k f fd ps sp) (hr : Room k X.A) (hb : Binds X.K fd ps ds) (hd : Vals dvs ds) (hx : pW CX X E)
  (I : Inv X pins σ H s) (r : Vals vs us) (h : sp (vs ++ dvs) H Q E) : wpAny (model X.prog X.w) X.A (call (.ref f) us) (EP X pins σ Q) X.xe s := by
 have r2 : Vals (vs ++ dvs) (us ++ ds) := r.append hd
 have hl : (us ++ ds).length = ps.length := by rw [<- r2.length]; exact F.len _ _ _ _ h
 refine wpAny_call (codeAny_mono (F.run X.A X.stack s H ⟨us, []⟩ (us ++ ds) (vs ++ dvs) Q E hr I.env0 (hb s us I.kIn hl) r2 h) fun r s' hq => ?_)
 cases r with
 | error e => exact hx pins σ H s e s' I hq
 | ok fl =>
  cases fl with
  | ret u => exact I.after hq
  | next => exact False.elim hq
  | brk => exact False.elim hq
  | cont => exact False.elim hq
theorem bc (F : FnOk X.prog X.w X.K X.mg X.base CX k f fd ps sp) (hr : Room k X.A) (hg : Gl X x) (hm : X.mg x = some (.ref f)) (hk : W.keepIn X.K (.ref f) = true) (hb : Binds X.K fd ps ds) (hd : Vals dvs ds) (hx : pW CX X E)
  (ha : PA X (e :: es) t) (hdb : (x == ("__debug__" : Str)) = false := by decide) (he : starEach (e :: es) X.env = (false, eval e X.env) :: starEach es X.env := by rfl) (hpl : (backTo pos (starEach es X.env)).any (·.1) = false := by rfl) :
  PE X (.Call (.Name x p) (e :: es) [] pos) (uk sp dvs E t) := by
 intro pins s σ H Q I h
 refine wpAny_Call_Name_kw (o8 I hg hm ?_ hdb)
 refine W.callWith_K (h₀ := X.base) I.ok.mod.kin hk (thn (ha pos pins s σ H _ I h) fun us s1 ⟨vs, H1, I1, r, q⟩ => ⟨I1.kIn, ?_⟩) he hpl
 exact GE F hr hb hd hx I1 r q
end
section
variable {X : Cx} {CX : CXT} {k : Nat} {f C : Addr} {fd : FuncData} {ps ks : List Str} {sp : Sp} {E : XK} {x m : Str} {p pos apos kpos : Pos} {e o : Expr} {es : List Expr} {kws : List Keyword} {te ta : TE} {t tk : TA} {nm : Option Str}
variable {g : List Value -> List Value -> List Value} {gV : List V -> List V -> List V}
end
structure FnScope (N P : List Str) (sc : Scope) : Prop where
 kind : sc.kind = .function
 co : sc.isCoroutine = false
 gen : sc.isGenerator = false
 nd : N.Nodup
 pre : N.take P.length = P
 par : ∀ x ∈ P, sc.names.lookup x = some .local \/ sc.names.lookup x = some .cell
 nofree : ∀ y ∈ sc.names, y.2 ≠ .free
theorem tJ {kindOf : Str -> Option NameKind} {x : Str} : ∀ {binds : List (Str × Value)} {m : Str -> Option Value}, (∀ v, (x, v) ∉ binds) -> bindL kindOf binds m x = m x
 | [], _, _ => rfl
 | (n, v) :: r, m, h => by
  unfold bindL
  rw [tJ fun w hw => h w (List.mem_cons_of_mem _ hw)]
  split
  ·have : x ≠ n := by rintro rfl; exact h v List.mem_cons_self
   simp [this]
  ·rfl
theorem ur {kindOf : Str -> Option NameKind} {x : Str} : ∀ {binds : List (Str × Value)} {m : Str -> Option Value}, (∀ v, (x, v) ∉ binds) -> bindC kindOf binds m x = m x
 | [], _, _ => rfl
 | (n, v) :: r, m, h => by
  unfold bindC
  rw [ur fun w hw => h w (List.mem_cons_of_mem _ hw)]
  split
  ·rfl
  ·have : x ≠ n := by rintro rfl; exact h v List.mem_cons_self
   simp [this]
theorem tK {kindOf : Str -> Option NameKind} {x : Str} {v : Value} : ∀ {P : List Str} {vs : List Value} {i : Nat} {m : Str -> Option Value}, P.Nodup -> P[i]? = some x -> vs[i]? = some v -> kindOf x = some .local ->
  bindL kindOf (P.zip vs) m x = some v
 | [], _, _, _, _, h, _, _ => by simp at h
 | _ :: _, [], _, _, _, _, h, _ => by simp at h
 | p :: P, w :: vs, 0, m, nd, h1, h2, hk => by
  simp at h1 h2; subst h1; subst h2
  show bindL kindOf ((p, w) :: P.zip vs) m p = _
  unfold bindL
  rw [tJ fun v hv => (List.nodup_cons.mp nd).1 (List.of_mem_zip hv).1, if_pos hk]
  simp
 | p :: P, w :: vs, i + 1, m, nd, h1, h2, hk => by
  show bindL kindOf ((p, w) :: P.zip vs) m x = _
  unfold bindL
  exact tK (i := i) (List.nodup_cons.mp nd).2 (by simpa using h1) (by simpa using h2) hk
theorem tI {kindOf : Str -> Option NameKind} {x : Str} {v : Value} : ∀ {P : List Str} {vs : List Value} {i : Nat} {m : Str -> Option Value}, P.Nodup -> P[i]? = some x -> vs[i]? = some v -> kindOf x ≠ some .local ->
  bindC kindOf (P.zip vs) m x = some v
 | [], _, _, _, _, h, _, _ => by simp at h
 | _ :: _, [], _, _, _, _, h, _ => by simp at h
 | p :: P, w :: vs, 0, m, nd, h1, h2, hk => by
  simp at h1 h2; subst h1; subst h2
  show bindC kindOf ((p, w) :: P.zip vs) m p = _
  unfold bindC
  rw [ur fun v hv => (List.nodup_cons.mp nd).1 (List.of_mem_zip hv).1, if_neg hk]
  simp
 | p :: P, w :: vs, i + 1, m, nd, h1, h2, hk => by
  show bindC kindOf ((p, w) :: P.zip vs) m x = _
  unfold bindC
  exact tI (i := i) (List.nodup_cons.mp nd).2 (by simpa using h1) (by simpa using h2) hk
def aG (N : List Str) (vs : List V) : St := vs.map some ++ List.replicate (N.length - vs.length) none
def kF (CX : CXT) (P : Program) (w : World) (K : W.Frag) (mg : Str -> Option Value) (base : Heap) (N : List Str) (qual : Str) (scope : Scope) (f : Addr) (cd : Value) (A : Around) (outer : List Env) (s : Shared) (H : Hp) (E : XK) : Cx where
 prog := P
 w := w
 K := K
 mg := mg
 base := base
 A := A.deeper (envOfC qual scope s.heap.objs.size f cd)
 N := N
 s₀ := s
 H₀ := H
 env := envOfC qual scope s.heap.objs.size f cd
 outer := outer
 stack := envOfC qual scope s.heap.objs.size f cd :: outer
 ex := []
 calm := true
 fn := fun _ => true
 pn := []
 xe := fun e s' => wpAny (model P w) (A.deeper (envOfC qual scope s.heap.objs.size f cd)) (leaving (envOfC qual scope s.heap.objs.size f cd) e) (fun _ s'' => CX outer H s E e s'') (fun e' s'' => CX outer H s E e' s'') s'
theorem wX {sc : Scope} {n : Nat} {x : Str} (h : sc.names.lookup x = some .cell) : ∃ c, (cellsFrom n sc.names []).lookup x = some c := by
 have q := W.cellsFrom_some sc.names n [] (.inl h)
 exact Option.isSome_iff_exists.mp q
theorem Ao {CX : CXT} {P : Program} {w : World} {K : W.Frag} {mg : Str -> Option Value} {base : Heap} {N ps : List Str} {qual : Str} {scope : Scope} {f : Addr} {cd : Value} {A : Around} {outer : List Env} {s s1 : Shared} {H : Hp} {E : XK} {us : List Value} {vs : List V}
  (S : FnScope N ps scope) (hd : A.handled = none) (e0 : Env0 P w K mg base A outer s H) (hl : vs.length = ps.length) (r : Vals vs us)
  (x : InCallC s s.heap.objs.size (bindL (envOfC qual scope s.heap.objs.size f cd).kindOf (ps.zip us) fun _ => none) (cellsFrom (s.heap.objs.size + 1) scope.names []) (bindC (envOfC qual scope s.heap.objs.size f cd).kindOf (ps.zip us) fun _ => none) s1) :
  Inv (kF CX P w K mg base N qual scope f cd A outer s H E) [] (aG N vs) H s1 := by
 have hpl : ps.length <= N.length := by have := congrArg List.length S.pre; rw [List.length_take] at this; lia
 obtain ⟨h1, tk, rfl, hk⟩ := x.done
 have noA : ∀ b : Addr, b ∉ (kF CX P w K mg base N qual scope f cd A outer s H E).ex := fun b z => absurd (show b ∈ ([] : List Addr) from z) (by simp)
 refine ⟨⟨e0.mod, S.kind, rfl, rfl, Nat.le_refl _, fun y z c h1 h2 => ?_, fun y hy => ?_, fun y c _ h => ?_, fun _ => hd, Around.frames_deeper e0.frames, .inr ⟨rfl, rfl⟩, fun b z => absurd z (noA b), e0.bs, e0.bsz, fun b _ _ => noA b, fun b z => absurd z (noA b), e0.funs, e0.frf⟩,
  rfl, e0.bare, Un.kept hk, ⟨_, x.toInCall.ns, fun i y v h1 h2 h3 => ?_⟩, fun y c h => ⟨_, x.cell y c h⟩, e0.hok.fresh (Nat.le_refl _), fun y c h => ?_, fun p hp => absurd (show p ∈ ([] : List (Addr × Obj)) from hp) (by simp), e0.hok.kept hk, ?_⟩
 ·exact name_of_addr x.apart (PySem.mem_of_lookup h1) (PySem.mem_of_lookup h2)
 ·have hy : scope.names.lookup y = some .cell \/ scope.names.lookup y = some .free := hy
  rcases hy with hy | hy
  ·exact wX hy
  ·exact absurd rfl (S.nofree _ (PySem.mem_of_lookup hy))
 ·exact Nat.le_of_lt (x.above y c (PySem.mem_of_lookup h))
 ·have hi : i < vs.length := by
   unfold aG at h2
   by_cases hi : i < vs.length
   ·exact hi
   ·rw [List.getElem?_append_right (by simpa using hi)] at h2
    rw [List.getElem?_replicate] at h2
    split at h2 <;> cases h2
  have ha : vs[i]? = some v := by
   unfold aG at h2
   rw [List.getElem?_append_left (by simpa using hi), List.getElem?_map] at h2
   cases e : vs[i]? with
   | none => rw [e] at h2; cases h2
   | some a => rw [e] at h2; cases h2; rfl
  obtain ⟨u, hu, rv⟩ := r.get ha
  have hp : ps[i]? = some y := by
   rw [<- S.pre, List.getElem?_take_of_lt (by lia)]; exact h1
  have ndP : ps.Nodup := by rw [<- S.pre]; exact S.nd.sublist (List.take_sublist _ _)
  refine ⟨u, rv, ?_⟩
  rcases S.par y (List.mem_of_getElem? hp) with k | k
  ·exact .inl ⟨k, tK ndP hp hu k⟩
  ·obtain ⟨c, e⟩ := wX (n := s.heap.objs.size + 1) k
   refine .inr ⟨.inl k, c, e, ?_⟩
   have q := x.cell y c e
   rw [tI ndP hp hu (by show scope.names.lookup y ≠ _; rw [k]; decide)] at q
   exact q
 ·exact e0.hok.fresh (Nat.le_of_lt (x.above y c (PySem.mem_of_lookup h)))
 ·unfold aG
  show _ = N.length
  rw [List.length_append, List.length_map, List.length_replicate]
  lia
theorem ze {CX : CXT} {P : Program} {w : World} {K : W.Frag} {mg : Str -> Option Value} {base : Heap} {k : Nat} {f : Addr} {name qual : Str} {params : Arguments} {body : List Stmt} {scope : Scope} {dV kV doc pm cdv ct oc : Value} {an od : Option Addr}
  {osl : Array (Option Value)} {N ps : List Str} {sp : Sp} (lk : K.lookup f = some ⟨oc, od, .func (W.fnOf name qual params body scope dV kV doc pm an cdv ct), osl⟩) (hcd : W.codeIn K cdv qual = true) (S : FnScope N ps scope)
  (len : ∀ vs H Q E, sp vs H Q E -> vs.length = ps.length)
  (hbody : ∀ (A : Around) (outer : List Env) (s : Shared) (H : Hp) (vs : List V) (Q : VK) (E : XK), Room k (A.deeper (envOfC qual scope s.heap.objs.size f cdv)) -> sp vs H Q E ->
   ∃ t, PSs (kF CX P w K mg base N qual scope f cdv A outer s H E) body t /\ t { nx := fun _ H' => Q .non H', rt := Q } (aG N vs) H) :
  FnOk P w K mg base CX (k + 1) f (W.fnOf name qual params body scope dV kV doc pm an cdv ct) ps sp := by
 refine ⟨len, fun A outer s H args us vs Q E hr e0 hb r hsp => ?_⟩
 have hl := len _ _ _ _ hsp
 have KX : K.In s.heap := e0.mod.kin.keeps fun b o e => (e0.bs b o e).1
 have lim : s.heap.NoLimit := e0.mod.nolimit.keeps fun b o e => (e0.bs b o e).1
 have hkind : ∀ y ∈ ps.zip us, scope.names.lookup y.1 = some .local \/ (scope.names.lookup y.1 = some .cell /\ ((cellsFrom (s.heap.objs.size + 1) scope.names []).lookup y.1).isSome = true) := fun hpt0 hy => by
  obtain ⟨n, v⟩ := hpt0
  rcases S.par n (List.of_mem_zip hy).1 with q | q
  ·exact .inl q
  ·exact .inr ⟨q, W.cellsFrom_some _ _ _ (.inl q)⟩
 refine codeAny_call_function hr.depth (KX _ _ lk) rfl S.co S.gen rfl (W.codeRec_of KX hcd) (hb _ _ _ _ ?_)
 refine wpAny_newFunctionEnv_cells S.kind hkind fun env he s1 x => ?_
 subst he
 refine ⟨lim.keeps x.toInCall.keep, codeAny_func ?_⟩
 obtain ⟨t, ht, hq⟩ := hbody A outer s H vs Q E (hr.deeper _) hsp
 have I : Inv (kF CX P w K mg base N qual scope f cdv A outer s H E) [] (aG N vs) H s1 := Ao S hr.hd e0 hl r x
 refine wpAny_mono (ht [] s1 (aG N vs) H _ I hq) (fun fl s' hs => ?_) fun e s' hs => hs
 have fin : ∀ {σ' : St} {H' : Hp} {v : V} {u : Value}, Inv (kF CX P w K mg base N qual scope f cdv A outer s H E) [] σ' H' s' -> RelV v u -> Q v H' -> CE outer P w H s Q u s' :=
  fun {σ' H' v u} J rv q => ⟨v, H', J.os, J.bare, J.base, J.hok, rv, q⟩
 cases fl with
 | ret u =>
  obtain ⟨v, σ', H', J, rv, q⟩ := hs
  exact fin J rv q
 | next =>
  obtain ⟨σ', H', J, q⟩ := hs
  exact fin (v := V.non) (u := Value.none) J rfl q
 | brk =>
  obtain ⟨_, _, _, q⟩ := hs
  exact False.elim q
 | cont =>
  obtain ⟨_, _, _, q⟩ := hs
  exact False.elim q
section
variable {X : Cx} {x : Str} {p pos : Pos} {e : Expr} {es : List Expr} {t : TA} {id T : String} {r : List V -> Hp -> VK -> Prop}
def tCB (r : List V -> Hp -> VK -> Prop) (t : TA) : TE := fun σ H Q => t σ H fun vs H1 => r vs H1 Q
theorem bQ (hc : CallR X (.builtin id) r) (hg : Gl X x) (hm : X.mg x = none) (hv : bootBuiltins x = some (.builtin id)) (ha : PA X (e :: es) t) (hn : x ≠ "__name__" := by decide) (hdb : (x == ("__debug__" : Str)) = false := by decide)
  (he : starEach (e :: es) X.env = (false, eval e X.env) :: starEach es X.env := by rfl) (hpl : (backTo pos (starEach es X.env)).any (·.1) = false := by rfl) : PE X (.Call (.Name x p) (e :: es) [] pos) (tCB r t) := by
 intro pins s σ H Q I h
 refine wpAny_Call_Name_kw (pe I hg hm hv ?_ hn hdb)
 exact PyProof.Rows.callWith_builtin1 (thn (ha pos pins s σ H _ I h) fun us s1 ⟨vs, H1, I1, r1, q1⟩ => hc pins s1 σ H1 vs us Q I1 r1 q1) he hpl
theorem fc (hc : CallR X (.type T) r) (hg : Gl X x) (hm : X.mg x = none) (hv : bootBuiltins x = some (.type T)) (ha : PA X (e :: es) t) (hn : x ≠ "__name__" := by decide) (hdb : (x == ("__debug__" : Str)) = false := by decide)
  (he : starEach (e :: es) X.env = (false, eval e X.env) :: starEach es X.env := by rfl) (hpl : (backTo pos (starEach es X.env)).any (·.1) = false := by rfl) : PE X (.Call (.Name x p) (e :: es) [] pos) (tCB r t) := by
 intro pins s σ H Q I h
 refine wpAny_Call_Name_kw (pe I hg hm hv ?_ hn hdb)
 exact PyProof.Rows.callWith_type1 (thn (ha pos pins s σ H _ I h) fun us s1 ⟨vs, H1, I1, r1, q1⟩ => hc pins s1 σ H1 vs us Q I1 r1 q1) he hpl
end
end L2
namespace HT
open PySem PyProof.Rows
def cD : List Int -> List Int -> Bool
 | [], [] => false
 | [], _ :: _ => true
 | _ :: _, [] => false
 | x :: xs, y :: ys => if x = y then cD xs ys else decide (x < y)
theorem yM (x y : Int) (xs ys : List Int) : cD (x :: xs) (y :: ys) = if x = y then cD xs ys else decide (x < y) := rfl
section
open PySem.SeqAt
open PySem.AutoSeq1 (wpAny_loadPart')
open PySem.MeetsSeq PySem.MeetsSeq2 PySem.MeetsSeq3
end
section
variable {prog : Program} {w : World} {A : Around} {E : Value -> Shared -> Prop} {s : Shared}
theorem EX {t b : Addr} {vs ws : List Value} {Q : Value -> Shared -> Prop} (ht : IsTup s.heap t vs.toArray) (hb : IsTup s.heap b ws.toArray) (hv : vs ≠ [])
  (h1 : ws = [] -> Q (.ref t) s) (h2 : ws ≠ [] -> Q (.ref s.heap.objs.size) { s with heap := s.heap.push { cls := .type "tuple", data := .seq (vs ++ ws).toArray } })
  (hsz : vs.length + ws.length <= sizeLine) : wpAny (model prog w) A (binaryOp .Add (.ref t) (.ref b)) Q E s := by
 obtain ⟨⟨cls, dd, data, sl⟩, ho, hc, n, hd⟩ := id ht
 obtain ⟨⟨cls2, dd2, data2, sl2⟩, ho2, hc2, n2, hd2⟩ := id hb
 simp only at hc hd hc2 hd2
 subst hc hd hc2 hd2
 have e : vs.toArray ++ ws.toArray = (vs ++ ws).toArray := by simp
 by_cases hw : ws = []
 ·exact concat_meets ⟨_, ho, rfl⟩ ⟨_, ho2, rfl⟩ noFill_tuple_add seq_tuple_add PySem.F.slot_tuple_add PySem.F.entry_tuple_add (PySem.F.args_tuple_add_2 _ _)
   (tuple_addW1 t b vs.toArray ws.toArray n n2 dd dd2 sl sl2 (by simpa using hv) (by simp [hw])) ⟨ho, ho2, h1 hw⟩
 ·refine concat_meets ⟨_, ho, rfl⟩ ⟨_, ho2, rfl⟩ noFill_tuple_add seq_tuple_add PySem.F.slot_tuple_add PySem.F.entry_tuple_add (PySem.F.args_tuple_add_2 _ _)
   (tuple_addW2 t b vs.toArray ws.toArray n n2 dd dd2 sl sl2 (by simpa using hv) (by simpa using hw) (by rw [List.size_toArray, List.size_toArray]; exact hsz)) ⟨ho, ho2, ?_⟩
  rw [e]
  exact h2 hw
def sIx (n d : Nat) : Option Int -> Nat
 | none => d
 | some v => if v < 0 then (v + (n : Int)).toNat else min v.toNat n
end
end HT
namespace L2
open PySem PySem.Spec PyProof.Rows
abbrev TO := St -> Hp -> (Option Int -> Hp -> Prop) -> Prop
theorem lN {ns : List Int} : ∀ {us : List Value}, Vals (ns.map V.int) us -> IntsAre us ns := by
 induction ns with
 | nil => intro us r; rw [List.map_nil] at r; cases r; exact .nil
 | cons n ns ih =>
  intro us r
  rw [List.map_cons] at r
  cases r with
  | cons r1 r2 =>
   obtain ⟨t, e⟩ := r1
   subst e
   exact .cons n t (ih r2)
section
variable {X : Cx} {e : Expr} {te : TE} {lo hi : Option Expr} {tl th : TO} {pos p2 : Pos}
theorem Vals.nil_iff {xs : List V} {us : List Value} (r : Vals xs us) : us = [] ↔ xs = [] := by
 cases r with
 | nil => simp
 | cons _ _ => simp
end
def ixN (n : Nat) (i : Int) : Option Nat := if 0 <= i then (if i < n then some i.toNat else none) else if -(n : Int) <= i then some (i + n).toNat else none
def atI {α : Type} (xs : List α) (i : Int) : Option α := (ixN xs.length i).bind fun j => xs[j]?
theorem zG {n : Nat} {i : Int} {j : Nat} (h : ixN n i = some j) : seqIndex? i n = some j /\ j < n /\ -(n : Int) <= i /\ i < n := by
 unfold ixN at h
 by_cases h0 : 0 <= i
 ·rw [if_pos h0] at h
  by_cases h1 : i < n
  ·rw [if_pos h1] at h
   have e : i.toNat = j := Option.some.inj h
   exact ⟨by rw [seqIndex_of h0 h1, e], by lia, by lia, h1⟩
  ·rw [if_neg h1] at h; cases h
 ·rw [if_neg h0] at h
  by_cases h1 : -(n : Int) <= i
  ·rw [if_pos h1] at h
   have e : (i + n).toNat = j := Option.some.inj h
   exact ⟨by rw [seqIndex_neg (by lia) h1, e], by lia, h1, by lia⟩
  ·rw [if_neg h1] at h; cases h
theorem u0 {α : Type} {xs : List α} {i : Int} {v : α} (h : atI xs i = some v) : ∃ j, seqIndex? i xs.length = some j /\ xs[j]? = some v /\ j < xs.length /\ -(xs.length : Int) <= i /\ i < xs.length := by
 unfold atI at h
 cases e : ixN xs.length i with
 | none => rw [e] at h; cases h
 | some j =>
  rw [e] at h
  obtain ⟨h1, h2, h3, h4⟩ := zG e
  exact ⟨j, h1, h, h2, h3, h4⟩
def D5 (b : Expr) : Prop := ∀ o i, subscripted b false o i = operate [o, i] (getItem o i)
def IxR (X : Cx) (r : R2) : Prop :=
 ∀ (value slice : Expr) (pins : List (Addr × Obj)) (s : Shared) (σ : St) (H : Hp) (x y : V) (v u : Value) (Q : VK), Inv X pins σ H s -> RelV x v -> RelV y u -> r x y H Q ->
  subscripted slice false v u = operate [v, u] (getItem v u) -> wpAny (model X.prog X.w) X.A (subscriptTail value slice v u) (EP X pins σ Q) X.xe s
def MtR (X : Cx) (id : String) (r : V -> List V -> Hp -> VK -> Prop) : Prop :=
 ∀ (pins : List (Addr × Obj)) (s : Shared) (σ : St) (H : Hp) (x : V) (xs : List V) (v : Value) (us : List Value) (Q : VK), Inv X pins σ H s -> RelV x v -> Vals xs us -> r x xs H Q ->
  wpAny (model X.prog X.w) X.A (call (.builtin id) (v :: us)) (EP X pins σ Q) X.xe s
section
variable {X : Cx} {a b : Expr} {ta tb : TE} {pos : Pos}
theorem IxR.or {r r' : R2} (h : IxR X r) (h' : IxR X r') : IxR X (fun x y H Q => r x y H Q \/ r' x y H Q) := by
 intro value slice pins s σ H x y v u Q I rx ry q hs
 rcases q with q | q
 ·exact h value slice pins s σ H x y v u Q I rx ry q hs
 ·exact h' value slice pins s σ H x y v u Q I rx ry q hs
theorem cY {r : R2} (hr : IxR X r) (ha : PE X a ta) (hb : PE X b tb) (hs : D5 b) : PE X (.Subscript a b pos) (tOp r ta tb) := by
 intro pins s σ H Q I h
 exact Subscript_ (Gd ha hb I h fun v u s2 x y H2 I2 rx ry q => hr a b pins s2 σ H2 x y v u Q I2 rx ry q (hs _ _))
def G0 (K : W.Frag) : R2 := fun x y H Q => ∃ p xs i v, x = .ref p /\ y = .int i /\ SqL K H p xs /\ atI xs i = some v /\ Q v H
def He (K : W.Frag) : R2 := fun x y H Q => ∃ p xs i v, x = .ref p /\ y = .int i /\ SqT K H p xs /\ atI xs i = some v /\ Q v H
def Hb : R2 := fun x y H Q => ∃ z i c, x = .str z /\ y = .int i /\ z.length <= sizeLine /\ atI z.cps.toList i = some c /\ Q (.str ⟨#[c]⟩) H
theorem ix_list : IxR X (G0 X.K) := by
 intro value slice pins s σ H x y v u Q I rx ry h hs
 obtain ⟨p, xs, i, z, rfl, rfl, hq, he, q⟩ := h
 cases rx
 obtain ⟨t, rfl⟩ := ry
 obtain ⟨its, r, pl, hz⟩ := I.list hq
 obtain ⟨j, h1, h2, h3, h4, h5⟩ := u0 he
 obtain ⟨w, ew, rw'⟩ := r.get h2
 have hl := r.length
 have hn := nD
 have fin : EP X pins σ Q w s := ⟨z, H, I, rw', q⟩
 by_cases h0 : 0 <= i
 ·have hj : i.toNat = j := by
   rw [seqIndex_of h0 h5] at h1
   exact Option.some.inj h1
  exact item_listR pl.isList h0 (by lia) (by rw [hj]; simpa using ew) fin hs
 ·have hj : (i + (its.toArray.size : Int)).toNat = j := by
   rw [seqIndex_neg (by lia) h4] at h1
   rw [List.size_toArray, <- hl]
   exact Option.some.inj h1
  exact subscriptTail_builtinR (x := w) pl.isList.typeIs slot_list_getitem.lookup
   (wpAny_getItem_list_neg (Q := fun r s' => r = w /\ EP X pins σ Q r s') pl.isList (by lia) (by rw [List.size_toArray] <;> lia) (by lia) (by rw [hj]; simpa using ew) ⟨rfl, fin⟩) hs
theorem ix_tup : IxR X (He X.K) := by
 intro value slice pins s σ H x y v u Q I rx ry h hs
 obtain ⟨p, xs, i, z, rfl, rfl, hq, he, q⟩ := h
 cases rx
 obtain ⟨t, rfl⟩ := ry
 obtain ⟨its, r, pl, hz⟩ := I.tuple hq
 obtain ⟨j, h1, h2, h3, h4, h5⟩ := u0 he
 obtain ⟨w, ew, rw'⟩ := r.get h2
 have hl := r.length
 have hn := nD
 have fin : EP X pins σ Q w s := ⟨z, H, I, rw', q⟩
 exact subscriptTail_builtinR (x := w) pl.typeIs slot_tuple_getitem.lookup
  (getItem_tuple (j := j) (Q := fun r s' => r = w /\ EP X pins σ Q r s') pl (by lia) (by lia) (by rw [List.size_toArray, <- hl]; exact h1) (by simpa using ew) ⟨rfl, fin⟩) hs
theorem FH : IxR X Hb := by
 intro value slice pins s σ H x y v u Q I rx ry h hs
 obtain ⟨z, i, c, rfl, rfl, hz, he, q⟩ := h
 obtain ⟨t, rfl⟩ := rx
 obtain ⟨t', rfl⟩ := ry
 obtain ⟨j, h1, h2, h3, h4, h5⟩ := u0 he
 have hl : z.cps.toList.length = z.length := by simp [Str.length]
 rw [hl] at h1 h4 h5
 have hn := nD
 exact tail_any (typeIs_str s z t) slot_str_getitem.lookup (getItem_str (c := c) (by
  have e1 : decide (i < -(2 ^ 63 : Int)) = false := decide_eq_false (by lia)
  have e2 : decide (i ≥ 2 ^ 63) = false := decide_eq_false (by lia)
  rw [e1, e2, Bool.or_false]) (by rw [h1]; simpa using h2) ⟨.str ⟨#[c]⟩, H, I.tok _, ⟨_, rfl⟩, q⟩) hs
def rIx (K : W.Frag) : R2 := fun x y H Q => G0 K x y H Q \/ He K x y H Q \/ Hb x y H Q
theorem bM : IxR X (rIx X.K) := ix_list.or (ix_tup.or FH)
theorem yf (its : List Value) (n j : Nat) (u : Value) : Obj.mapSeq (·.setIfInBounds j u) { cls := .type "list", data := .seq its.toArray n } = { cls := .type "list", data := .seq (its.set j u).toArray n } := by
 simp [Obj.mapSeq]
theorem Inv.lst {pins : List (Addr × Obj)} {σ : St} {H : Hp} {s : Shared} {p : Addr} {xs : List V} (I : Inv X pins σ H s) (h : H p = some (.lst xs)) :
  ∃ (its : List Value) (n : Nat), Vals xs its /\ s.heap.get? p = some { cls := .type "list", data := .seq its.toArray n } /\ xs.length <= sizeLine := by
 obtain ⟨z, its, n, r, e⟩ := I.hok p _ h
 exact ⟨its, n, r, e, z⟩
theorem Inv.lstUpd {pins : List (Addr × Obj)} {σ : St} {H : Hp} {s : Shared} {p : Addr} {xs ys : List V} {its its' : List Value} {n n' : Nat} {f : Obj -> Obj} (I : Inv X pins σ H s) (h : H p = some (.lst xs))
  (ho : s.heap.get? p = some { cls := .type "list", data := .seq its.toArray n }) (hf : f { cls := .type "list", data := .seq its.toArray n } = { cls := .type "list", data := .seq its'.toArray n' }) (r : Vals ys its') (hz : ys.length <= sizeLine) (t : Nat) :
  Inv X pins σ (upd H p (.lst ys)) { s with heap := s.heap.update p f, toks := t } := by
 have e : (s.heap.update p f).get? p = some { cls := .type "list", data := .seq its'.toArray n' } := by
  rw [Heap.get?_update_self f ho (by rw [hf] <;> rfl), hf]
 refine I.write (x := p) (e := p) (by rw [h]; trivial) (.inl rfl) (fun b u hb q => (Heap.get?_update_other _ _ (Ne.symm hb)).trans q) ⟨_, e⟩ ?_
 exact ⟨hz, its', n', r, e⟩
def Fp : V -> V -> V -> Hp -> (Hp -> Prop) -> Prop := fun o i v H Q => ∃ p xs k j, o = .ref p /\ i = .int k /\ H p = some (.lst xs) /\ ixN xs.length k = some j /\ Q (upd H p (.lst (xs.set j v)))
theorem xQ : HE X Fp := by
 intro pins s σ H o i v ov iv u Q I ro ri rv h
 obtain ⟨p, xs, k, j, rfl, rfl, hp, hj, q⟩ := h
 cases ro
 obtain ⟨t, rfl⟩ := ri
 obtain ⟨its, n, r, ho, hz⟩ := I.lst hp
 obtain ⟨h1, h2, h3, h4⟩ := zG hj
 have hl := r.length
 have hn := nD
 have I' : Inv X pins σ (upd H p (.lst (xs.set j v))) { s with heap := s.heap.update p (Obj.mapSeq (·.setIfInBounds j u)) } :=
  I.lstUpd hp ho (yf its n j u) (r.set rv j) (by rw [List.length_set]; exact hz) s.toks
 by_cases h0 : 0 <= k
 ·have hk : k.toNat = j := by
   rw [seqIndex_of h0 h4] at h1
   exact Option.some.inj h1
  exact W.ki_setAt ho h0 (by lia) (by rw [List.size_toArray, <- hl]; exact h4) (by rw [hk]; exact ⟨_, I', q⟩)
 ·have hk : (k + (its.toArray.size : Int)).toNat = j := by
   rw [seqIndex_neg (by lia) h3] at h1
   rw [List.size_toArray, <- hl]
   exact Option.some.inj h1
  exact W.ki_setBack ho (by lia) (by rw [List.size_toArray, <- hl]; exact h3) (by lia) (by rw [hk]; exact ⟨_, I', q⟩)
theorem CallR.or {f : Value} {r r' : List V -> Hp -> VK -> Prop} (h : CallR X f r) (h' : CallR X f r') : CallR X f (fun xs H Q => r xs H Q \/ r' xs H Q) := by
 intro pins s σ H xs us Q I rs q
 rcases q with q | q
 ·exact h pins s σ H xs us Q I rs q
 ·exact h' pins s σ H xs us Q I rs q
theorem fg : CallR X (.type "tuple") (fun xs H Q => ∃ p ys, xs = [.ref p] /\ ((SqL X.K H p ys /\ ∀ l, H l = none -> Q (.ref l) (upd H l (.tup ys))) \/ (SqT X.K H p ys /\ Q (.ref p) H))) := by
 intro pins s σ H xs us Q I r h
 obtain ⟨p, ys, rfl, h⟩ := h
 obtain ⟨u, rfl, rx⟩ := Fu r
 cases rx
 rcases h with ⟨hq, q⟩ | ⟨hq, q⟩
 ·obtain ⟨its, r', pl, hz⟩ := I.list hq
  have hlen := r'.length
  refine call_tuple_list pl.isList (fun h' kp => ?_) (by simp only [List.size_toArray] <;> lia)
  have I1 : Inv X pins σ H { s with heap := h' } := I.kept (t' := s.toks) kp
  have I2 : Inv X pins σ (upd H h'.objs.size (.tup ys)) { s with heap := h'.push { cls := .type "tuple", data := .seq its.toArray } } :=
   I1.laid (t' := s.toks) (fun b o e => Heap.get?_push_of_some _ e) (Nat.le_refl _) (show ObjOk X.prog X.w _ _ _ (.tup ys) from ⟨hz, its, r', IsTup.new _ _⟩)
  exact ⟨.ref h'.objs.size, _, I2, rfl, q _ (I1.hok.fresh (Nat.le_refl _))⟩
 ·obtain ⟨its, r', pl, hz⟩ := I.tuple hq
  exact call_tuple_same pl ⟨.ref p, H, I, rfl, q⟩
def tyV (K : W.Frag) (T : String) (x : V) (H : Hp) : Prop := match x with
 | .str _ => T = "str"
 | .int _ => T = "int"
 | .ref p => (T = "list" /\ ∃ xs, SqL K H p xs) \/ (T = "tuple" /\ ∃ o, K.lookup p = some o /\ o.cls = .type "tuple" /\ o.dict = none) \/
   (T = "dict" /\ ((∃ kvs, H p = some (.dK kvs)) \/ ∃ kvs, H p = some (.dT kvs))) \/ (T = "set" /\ ∃ S n, H p = some (.set S n))
 | _ => False
theorem Gg {pins : List (Addr × Obj)} {σ : St} {H : Hp} {s : Shared} {T : String} {x : V} {v : Value} (I : Inv X pins σ H s) (r : RelV x v) (ty : tyV X.K T x H) :
  s.TypeIs v T /\ ∀ a, v = .ref a -> ∃ ob, s.heap.get? a = some ob /\ ob.dict = none := by
 cases x with
 | str z =>
  obtain ⟨t, rfl⟩ := r
  cases (show T = "str" from ty)
  exact ⟨typeIs_str s z t, fun _ e => nomatch e⟩
 | int i =>
  obtain ⟨t, rfl⟩ := r
  cases (show T = "int" from ty)
  exact ⟨typeIs_int s i t, fun _ e => nomatch e⟩
 | ref p =>
  cases r
  rcases ty with ⟨rfl, xs, hq⟩ | ⟨rfl, o, hk, hc, hd⟩ | ⟨rfl, hk⟩ | ⟨rfl, S, n, hk⟩
  ·obtain ⟨its, _, pl, _⟩ := I.list hq
   refine ⟨pl.isList.typeIs, fun a e => ?_⟩
   cases e
   obtain ⟨o, n, e, c, hd, _⟩ := pl
   exact ⟨o, e, hd⟩
  ·refine ⟨⟨o, I.kIn p o hk, hc⟩, fun a e => ?_⟩
   cases e
   exact ⟨o, I.kIn _ o hk, hd⟩
  ·have z : ∃ o, s.heap.get? p = some o /\ o.ExactDict := by
    rcases hk with ⟨kvs, hk⟩ | ⟨kvs, hk⟩
    ·obtain ⟨_, _, _, _, o, _, _, e, ex, _⟩ := I.hok p _ hk
     exact ⟨o, e, ex⟩
    ·obtain ⟨_, _, _, _, o, _, _, e, ex, _⟩ := I.hok p _ hk
     exact ⟨o, e, ex⟩
   obtain ⟨o, e, ex⟩ := z
   refine ⟨⟨o, e, ex.1⟩, fun a e2 => ?_⟩
   cases e2
   exact ⟨o, e, ex.2.1⟩
  ·obtain ⟨o, _, _, _, e, ex, _⟩ := I.hok p _ hk
   refine ⟨⟨o, e, ex.1⟩, fun a e2 => ?_⟩
   cases e2
   exact ⟨o, e, ex.2.1⟩
 | _ => exact False.elim ty
def tBM (K : W.Frag) (T : String) (r : V -> List V -> Hp -> VK -> Prop) (to : TE) (t : TA) : TE := fun σ H Q => to σ H fun x H1 => tyV K T x H1 /\ t σ H1 fun xs H2 => r x xs H2 Q
variable {o e : Expr} {es : List Expr} {to : TE} {t : TA} {name : Str} {apos cpos : Pos} {T id : String} {r : V -> List V -> Hp -> VK -> Prop}
theorem mn (pa : PlainAttrs T) (slot : Slot T name id) (hty : typeOf (.builtin id) = pure (.type "method_descriptor")) (hm : MtR X id r) (ho : PE X o to) (ha : PA X (e :: es) t)
  (hbase : attributeBase o name X.env (eval o X.env) = eval o X.env := by rfl)
  (hfew : ((backTo cpos (starEach (e :: es) X.env)).all (fun x => !x.1) && (backToKw cpos (keywordEach [] X.env)).all (fun x => x.1.isSome)
   && decide ((e :: es).length + ([] : List Keyword).length + (if ([] : List Keyword).isEmpty then 0 else 1) < 30)) = true := by rfl)
  (hline : (apos.endLine == cpos.line) = true := by rfl) (hs : starEach (e :: es) X.env = (false, eval e X.env) :: starEach es X.env := by rfl) (hplain : (backTo cpos (starEach es X.env)).any (·.1) = false := by rfl) :
  PE X (.Call (.Attribute o name apos) (e :: es) [] cpos) (tBM X.K T r to t) := by
 intro pins s σ H Q I h
 refine wpAny_Call_method_late hbase hfew hline rfl (thn (ho pins s σ H _ I h) fun v s1 hpt9 => ?_)
 obtain ⟨x, H1, I1, r1, ty, q1⟩ := hpt9
 obtain ⟨h1, h2⟩ := Gg I1 r1 ty
 refine ⟨T, id, pa, slot, hty, h1, h2, ?_⟩
 have hA := ha cpos pins s1 σ H1 _ I1 q1
 rw [hs] at hA ⊢
 refine Calls.callWith_builtin (by show (false || (backTo cpos (starEach es X.env)).any (·.1)) = false; rw [hplain] <;> rfl) (Calls.evalArgs_plain ?_)
 exact thn hA fun us s2 ⟨vs, H2, I2, r2, q2⟩ => hm pins s2 σ H2 x vs v us Q I2 r1 r2 q2
end
def MtM (X : Cx) (id : String) (r : V -> List V -> Hp -> VK -> Prop) : Prop :=
 ∀ (pins : List (Addr × Obj)) (s : Shared) (σ : St) (H : Hp) (x : V) (xs : List V) (v : Value) (us : List Value) (Q : VK), Inv X pins σ H s -> RelV x v -> Vals xs us -> r x xs H Q ->
  wpAny (model X.prog X.w) X.A (call (.builtin id) (v :: us)) (EP X pins σ Q) X.xe s
theorem Vals.one {x : V} {us : List Value} (h : Vals [x] us) : ∃ u, us = [u] /\ RelV x u := by
 cases h with
 | cons r t => cases t; exact ⟨_, rfl, r⟩
theorem Vals.two {x y : V} {us : List Value} (h : Vals [x, y] us) : ∃ u v, us = [u, v] /\ RelV x u /\ RelV y v := by
 cases h with
 | cons r t =>
  cases t with
  | cons q t => cases t; exact ⟨_, _, rfl, r, q⟩
section
variable {X : Cx} {pins : List (Addr × Obj)} {σ : St} {H : Hp} {s : Shared} {l b : Addr} {xs ys zs : List V}
theorem Inv.lset {its its' : List Value} {n : Nat} {f : Array Value -> Array Value} {t' : Nat} (I : Inv X pins σ H s) (hH : H l = some (.lst xs))
  (e : s.heap.get? l = some { cls := .type "list", data := .seq its.toArray n }) (hf : f its.toArray = its'.toArray) (hv : Vals ys its') (hz : ys.length <= sizeLine) :
  Inv X pins σ (upd H l (.lst ys)) { s with heap := s.heap.update l (Obj.mapSeq f), toks := t' } := by
 have q := PySem.IsL.update e f
 rw [hf] at q
 refine I.write (x := l) (e := l) (by rw [hH]; exact trivial) (.inl rfl) (fun b' u hb hu => (Heap.get?_update_other s.heap (Obj.mapSeq f) (Ne.symm hb)).trans hu) ⟨_, q⟩ ?_
 exact ⟨hz, its', _, hv, q⟩
theorem Inv.lnew {its : List Value} {t' : Nat} (I : Inv X pins σ H s) (hv : Vals ys its) (hz : ys.length <= sizeLine) :
  Inv X pins σ (upd H s.heap.objs.size (.lst ys)) { s with heap := s.heap.push { cls := .type "list", data := .seq its.toArray }, toks := t' } :=
 I.laid (fun _ _ q => Heap.get?_push_of_some _ q) (Nat.le_refl _) ⟨hz, its, 0, hv, Heap.get?_push_size _ rfl⟩
theorem Inv.fresh (I : Inv X pins σ H s) : H s.heap.objs.size = none := I.hok.fresh (Nat.le_refl _)
theorem Inv.lstM (I : Inv X pins σ H s) (hH : H l = some (.lst xs)) : xs.length <= sizeLine /\ ∃ (its : List Value) (n : Nat), Vals xs its /\ xs.length = its.length /\ s.heap.get? l = some { cls := .type "list", data := .seq its.toArray n } := by
 obtain ⟨z, its, n, r, e⟩ := I.hok l _ hH
 exact ⟨z, its, n, r, r.length, e⟩
theorem Dp {n : Nat} (h : n <= sizeLine) : Builtin.List.listTooLong n = false := by
 unfold Builtin.List.listTooLong
 exact decide_eq_false (by lia)
end
section
variable {X : Cx}
def rAppend : V -> List V -> Hp -> VK -> Prop := fun x vs H Q => ∃ l xs y, x = .ref l /\ vs = [y] /\ H l = some (.lst xs) /\ xs.length < sizeLine /\ Q .non (upd H l (.lst (xs ++ [y])))
theorem iw : MtM X "list.append" rAppend := by
 intro pins s σ H x vs v us Q I rx rv h
 obtain ⟨l, xs, y, rfl, rfl, hH, hz, q⟩ := h
 cases rx
 obtain ⟨u, rfl, ru⟩ := rv.one
 obtain ⟨z, its, n, r, hl, e⟩ := I.lstM hH
 refine call_meets F.slot_list_append ⟨_, e, rfl⟩ F.entry_list_append (F.args_list_append_2 _ _) (PySem.list_append l its.toArray n u (by rw [List.size_toArray]; lia)) ⟨e, ?_⟩
 refine ⟨.non, _, I.lset (its' := its ++ [u]) hH e (by simp) (r.append (.cons ru .nil)) ?_, rfl, q⟩
 rw [List.length_append, List.length_singleton]
 lia
end
section
variable {prog : Program} {w : World} {A : Around} {E : Value -> Shared -> Prop} {s : Shared}
end
section
variable {X : Cx}
end
end L2
namespace Att
open PySem PySem.W PySem.Calls PyProof.Rows
theorem ox {P : Params} {h : Heap} : ∀ (ns : List Int) (vs : List Value), WellAll P h vs (ns.map WData.int) -> IntsAre vs ns := by
 intro ns
 induction ns with
 | nil =>
  intro vs w
  rw [List.map_nil] at w
  cases w
  exact .nil
 | cons n ns ih =>
  intro vs w
  rw [List.map_cons] at w
  cases w with
  | cons a b =>
   cases a
   exact .cons _ _ (ih _ b)
theorem Aq {l : OpenLaw} {n : Nat} (hn : l.most = some n) {P : Params} {h : Heap} {args : List WData} {vals : List Value}
  (hpre : l.row.toRowW.claim.pre args = true) (hwl : WellAll P h vals args) :
  ∃ a vs ns, vals = [Value.ref a] /\ args = [WData.list (ns.map WData.int)] /\ h.get? a = some { cls := .type "list", data := .seq vs.toArray } /\ IntsAre vs ns /\ ns.length <= n := by
 have hsh : WShape.hasAll [] args [.list .int] = true := (pre_splitW hpre).1
 have hc : l.pre.holds [] { args := args } = true := (pre_splitW hpre).2
 obtain ⟨d, r, rfl, h1, h2⟩ := hasAllW_cons hsh
 obtain rfl := hasAllW_nil h2
 obtain ⟨xs, rfl, h3⟩ := hasW_list h1
 obtain ⟨ns, rfl⟩ := items_int h3
 have hlen : ns.length <= n := by
  unfold OpenLaw.pre at hc
  have h4 : (WTm.not (.lt (.lit (.int (n : Int))) (.len (.arg 0)))).holds [] { args := [.list (ns.map .int)] } = true := by
   have h4 := (holds_andW hc).1
   rw [hn] at h4
   exact h4
  have h5 := condW_of h4 (w_not (w_lt w_lit (w_len_list (w_arg rfl))))
  rw [List.length_map] at h5
  refine Nat.le_of_not_lt fun q => ?_
  have q' : (n : Int) < ((ns.length : Nat) : Int) := by omega
  first
   | (rw [decide_eq_true q'] at h5; exact absurd h5 (by decide))
   | (simp at h5; omega)
 cases hwl with
 | cons w1 w2 =>
  cases w2
  cases w1 with
  | list ho hall => exact ⟨_, _, ns, rfl, rfl, ho, ox ns _ hall, hlen⟩
theorem Ak (l : OpenLaw) (args : List WData) : l.row.toRowW.claim.post args (.bool true) args = true :=
 postW_of (r := l.row.toRowW) (X := (true == true))
  (show WShape.has [] (.bool true) .bool = true by first | rfl | decide | simp [WShape.has, WShape.arms, WShape.armsAll])
  (show (WTm.eq .res (.lit (.bool true))).value [] { args := args, res := some (.bool true), after := args } = some (.bool (true == true)) from w_eq_bool (w_res rfl) w_lit) rfl
theorem w6 {l : OpenLaw} {n : Nat} {q : Program} {loose : List Str} {XP : (Str -> Option Value) -> Heap -> Prop} {YP : World -> Heap -> Prop} {d : DefRec}
  (hn : l.most = some n) (hdf : d.params.defaults = [])
  (call : ∀ (w : World) (s₀ s₁ : Shared) (mg mb : Str -> Option Value) (fa : Addr) (o : Obj) (pm cd doc : Value) (a : Addr) (vs : List Value) (ns : List Int),
   Ground q loose [] XP w s₀ mg mb s₁.heap -> YP w s₁.heap ->
   s₁.heap.get? fa = some o -> o.data = .func (docDef d.name d.params d.body d.scope pm cd doc) -> s₁.heap.CodeRec cd d.name -> mg d.name = some (.ref fa) ->
   s₁.heap.get? a = some { cls := .type "list", data := .seq vs.toArray } -> IntsAre vs ns -> ns.length <= n -> s₁.gens = #[] ->
   codeAny (model l.prog w) callerA (.call (.ref fa) ⟨[.ref a], []⟩) (fun r s' => r = .ok (.ret (.bool true)) /\ OldK s₁.heap s'.heap /\ s'.os = s₁.os /\ AllBare s'.gens) s₁) :
  WalkO q loose XP YP l.row.toRowW d [] (fun f vs => PySem.call f vs) := by
 intro w s₀ s₁ mg mb G Y fa o pm cd doc dV kV ho hd hcd hD hmg hg args vals as hpre hlay hrd hwl hlo
 obtain rfl : dV = .none := Dflts.none hD hdf
 obtain rfl : kV = .none := Dflts.noKw hD
 obtain ⟨a, vs, ns, rfl, rfl, hobj, hints, hlen⟩ := Aq hn hpre hwl
 refine enter_call (codeAny_mono (call w s₀ s₁ mg mb fa o pm cd doc a vs ns G Y ho (fd_plain hd) hcd hmg hobj hints hlen hg) fun r s' hq => ?_)
 obtain ⟨rfl, h2, h3, h4⟩ := hq
 exact ⟨.inl ⟨.bool true, .bool true, [], rfl, fun _ => rfl, .bool true, Ak l _, fun _ => ⟨List.Pairwise.nil, fun _ hm => (nomatch hm)⟩⟩, h2, h3, h4⟩
section
variable {prog : Program} {w : World} {A : Around} {E : Value -> Shared -> Prop} {s : Shared} {K : Frag}
end
end Att
namespace L2
open PySem PySem.Spec PyProof.Rows
theorem sO : ∀ {vs : List Value} {ns : List Int}, IntsAre vs ns -> Vals (ns.map V.int) vs
 | _, _, .nil => .nil
 | _, _, .cons n t h => .cons ⟨t, rfl⟩ (sO h)
def FG (H : Hp) : Prop := ∀ b, H b = none \/ ∃ o xs, H b = some (.frz o (.lst xs))
theorem BS {P : Program} {w : World} {K : W.Frag} {mg mb : Str -> Option Value} {CX : CXT} {k : Nat} {fa a : Addr} {fd : FuncData} {x : Str} {sp : Sp} {s₁ : Shared} {vs : List Value} {ns : List Int}
  (KX : K.In s₁.heap) (hns : s₁.heap.Ns mainGlobals mg) (hb : s₁.heap.Ns builtinsNs mb) (hbb : ∀ x : Str, x ≠ "__name__" -> mb x = bootBuiltins x) (hlim : s₁.heap.NoLimit) (hg : s₁.gens = #[])
  (ha : s₁.heap.get? a = some { cls := .type "list", data := .seq vs.toArray }) (hi : IntsAre vs ns) (hl : ns.length <= sizeLine) (hr : Room k callerA)
  (F : ∀ base : Heap, K.In base -> base.Ns mainGlobals mg -> FnOk P w K mg base CX k fa fd [x] sp) (hbind : ∀ (s : Shared) (u : Value), BindsTo s fd ⟨[u], []⟩ [(x, u)])
  (hsp : ∀ H : Hp, FG H -> SqL K H a (ns.map V.int) -> sp [.ref a] H (fun v _ => v = .bl true) fun _ _ _ => False)
  (hCX : ∀ H e s', CX [] H s₁ (fun _ _ _ => False) e s' -> False) :
  codeAny (model P w) callerA (.call (.ref fa) ⟨[.ref a], []⟩) (fun r s' => r = .ok (.ret (.bool true)) /\ OldK s₁.heap s'.heap /\ s'.os = s₁.os /\ AllBare s'.gens) s₁ := by
 have rv := sO hi
 have lenV := hi.length
 -- from an abstract heap in which nothing but the script may be tracked
 have core : ∀ H : Hp, FG H -> SqL K H a (ns.map V.int) -> HOk P w H s₁.heap -> (∀ b, H b ≠ none -> b = a) -> (H a ≠ none -> K.lookup a = none) ->
   codeAny (model P w) callerA (.call (.ref fa) ⟨[.ref a], []⟩) (fun r s' => r = .ok (.ret (.bool true)) /\ OldK s₁.heap s'.heap /\ s'.os = s₁.os /\ AllBare s'.gens) s₁ := by
  intro H hO hS hok hA hK
  have base_of : ∀ {b : Addr} {o : Obj}, s₁.heap.get? b = some o -> H b = none -> (vq s₁.heap H).get? b = some o := fun e n => Bt e n
  have noA : ∀ {b : Addr} {o : Obj} {es : Array DictEntry} {ep : Nat}, s₁.heap.get? b = some o -> o.data = .dict es ep -> H b = none := fun {b o es ep} e d => by
   cases q : H b with
   | none => rfl
   | some u =>
    have e' : b = a := hA b (by rw [q]; simp)
    subst e'
    rw [ha] at e; cases e
    have d' : Data.seq vs.toArray _ = Data.dict es ep := d
    cases d'
  have nsK : ∀ {b : Addr} {m : Str -> Option Value}, s₁.heap.Ns b m -> (vq s₁.heap H).Ns b m := fun {b m} ⟨o, es, ep, e, d, r⟩ => ⟨o, es, ep, base_of e (noA e d), d, r⟩
  have hKb : K.In (vq s₁.heap H) := fun b o e => base_of (KX b o e) (by
   cases q : H b with
   | none => rfl
   | some u =>
    have e' : b = a := hA b (by rw [q]; simp)
    subst e'
    rw [hK (by rw [q]; simp)] at e; cases e)
  have hM : Mod K mg (vq s₁.heap H) := ⟨hKb, nsK hns, ⟨mb, nsK hb, hbb⟩, let ⟨mc, h1, h2⟩ := hlim; ⟨mc, nsK h1, h2⟩⟩
  have e0 : Env0 P w K mg (vq s₁.heap H) callerA [] s₁ H := ⟨rfl, hM, fun b o e => Eu e, Nat.le_of_eq (Ap _ _), trivial, fun b hb => absurd (show b ∈ ([] : List Addr) from hb) (by simp), hok, .of_eq hg⟩
  refine codeAny_mono ((F _ hKb (nsK hns)).run callerA [] s₁ H ⟨[.ref a], []⟩ [.ref a] [.ref a] _ _ hr e0 (hbind s₁ (.ref a)) (.cons rfl .nil) (hsp H hO hS)) fun r s' h => ?_
  cases r with
  | error e => exact (hCX H e s' h).elim
  | ok fl =>
   cases fl with
   | next => exact False.elim h
   | brk => exact False.elim h
   | cont => exact False.elim h
   | ret u =>
    obtain ⟨v, H', os, bare, un, hok', r', q⟩ := h
    have q' : v = .bl true := q
    subst q'
    obtain rfl : u = Value.bool true := r'
    refine ⟨rfl, OldK.of_keep fun b o e => ?_, os, bare⟩
    cases q : H b with
    | none => exact un.keep b o e q (by intro z; exact absurd (show b ∈ ([] : List Addr) from z) (by simp)) (by simp)
    | some u =>
     rcases hO b with z | ⟨ob, xs, z⟩
     ·rw [q] at z; cases z
     ·have z2 := un.frzs b ob _ z
      obtain ⟨e1, _⟩ := hok b _ z
      obtain ⟨e2, _⟩ := hok' b _ z2
      rw [e] at e1; cases e1
      exact e2
 cases hk : K.lookup a with
 | some o =>
  -- the script is one of the module's own objects
  have e := KX a o hk
  rw [ha] at e
  cases e
  refine core (fun _ => none) (fun _ => .inl rfl) (.inr ⟨_, vs.toArray, _, hk, rfl, rfl, rfl, by rw [List.size_toArray, lenV]; exact hl, by simpa using rv⟩) (fun b u z => by have z' : (none : Option HO) = some u := z; cases z') (fun b z => absurd rfl z) fun z => absurd rfl z
 | none =>
  refine core (fun b => if b = a then some (.frz { cls := .type "list", data := .seq vs.toArray } (.lst (ns.map V.int))) else none) (fun b => ?_) (.inl (.inr ⟨{ cls := .type "list", data := .seq vs.toArray }, if_pos rfl⟩)) (fun b u z => ?_) (fun b z => ?_) fun _ => hk
  ·by_cases hb : b = a
   ·exact .inr ⟨_, _, if_pos hb⟩
   ·exact .inl (if_neg hb)
  ·by_cases hb : b = a
   ·have z' := (if_pos hb).symm.trans z
    cases z'
    subst hb
    exact ⟨ha, by rw [List.length_map]; exact hl, vs, _, rv, ha⟩
   ·have z' := (if_neg hb).symm.trans z
    cases z'
  ·by_cases hb : b = a
   ·exact hb
   ·exact absurd (if_neg hb) z
theorem Ei {l : W.OpenLaw} {n k : Nat} {q : Program} {loose : List Str} {XP : (Str -> Option Value) -> Heap -> Prop} {YP : World -> Heap -> Prop} {d : DefRec} {K : Params -> W.Frag} {CX : World -> CXT} {sp : World -> Sp} {x : Str}
  (hn : l.most = some n) (hn2 : n <= sizeLine) (hdf : d.params.defaults = []) (hr : Room k callerA)
  (hY : ∀ (w : World) (h : Heap), YP w h -> (K w.params).In h)
  (F : ∀ (w : World) (mg : Str -> Option Value) (fa : Addr) (h : Heap), (K w.params).In h -> h.Ns mainGlobals mg -> mg d.name = some (.ref fa) ->
   ∃ fd : FuncData, (∀ (s : Shared) (u : Value), BindsTo s fd ⟨[u], []⟩ [(x, u)]) /\
    ∀ base : Heap, (K w.params).In base -> base.Ns mainGlobals mg -> FnOk l.prog w (K w.params) mg base (CX w) k fa fd [x] (sp w))
  (hsp : ∀ (w : World) (H : Hp) (a : Addr) (ns : List Int), ns.length <= n -> FG H -> SqL (K w.params) H a (ns.map V.int) -> sp w [.ref a] H (fun v _ => v = .bl true) fun _ _ _ => False)
  (hCX : ∀ (w : World) (H : Hp) (s : Shared) (e : Value) (s' : Shared), CX w [] H s (fun _ _ _ => False) e s' -> False) :
  W.WalkO q loose XP YP l.row.toRowW d [] (fun f vs => PySem.call f vs) := by
 refine Att.w6 hn hdf fun w s₀ s₁ mg mb fa o pm cd doc a vs ns G Y ho hd hcd hmg hobj hints hlen hg => ?_
 have KX := hY w _ Y
 obtain ⟨fd, hb, hF⟩ := F w mg fa _ KX G.T.g hmg
 exact BS KX G.T.g G.T.b G.T.builtins G.T.nolimit hg hobj hints (Nat.le_trans hlen hn2) hr hF hb (fun H hO hS => hsp w H a ns hlen hO hS) fun H e s' => hCX w H s₁ e s'
def ba (s : Stmt) : Arguments := match s with
 | .FunctionDef _ a _ _ _ _ _ _ _ _ => a
 | _ => { posonlyargs := [], args := [], vararg := none, kwonlyargs := [], kw_defaults := [], kwarg := none, defaults := [] }
def aW (s : Stmt) : List Stmt := match s with
 | .FunctionDef _ _ b _ _ _ _ _ _ _ => b
 | _ => []
def ak (s : Stmt) : Scope := match s with
 | .FunctionDef _ _ _ _ _ _ sc _ _ _ => sc
 | _ => { kind := .function, names := [], isGenerator := false, isCoroutine := false }
abbrev CX0 : CXT := fun _ _ _ _ _ _ => False
abbrev E0 : XK := fun _ _ _ => False
theorem cZ {X : Cx} : pW CX0 X E0 := fun _ _ _ _ _ _ _ h => h.elim
structure Fun (K : W.Frag) (x qual : Str) (st : Stmt) (f : Addr) (fd : FuncData) : Prop where
 ex : ∃ (oc : Value) (od : Option Addr) (kV doc pm : Value) (an : Option Addr) (cdv ct : Value) (osl : Array (Option Value)),
  fd = W.fnOf x qual (ba st) (aW st) (ak st) .none kV doc pm an cdv ct /\ K.lookup f = some ⟨oc, od, .func fd, osl⟩ /\ W.codeIn K cdv qual = true
 kp : W.keepIn K (.ref f) = true
section
variable {P : Program} {w : World} {K : W.Frag} {mg : Str -> Option Value} {base : Heap}
theorem Fun.ok {x qual : Str} {st : Stmt} {f : Addr} {fd : FuncData} {N ps : List Str} {k : Nat} {sp : Sp} (F : Fun K x qual st f fd) (S : FnScope N ps (ak st)) (len : ∀ vs H Q E, sp vs H Q E -> vs.length = ps.length)
  (hbody : ∀ (cdv : Value) (A : Around) (outer : List Env) (s : Shared) (H : Hp) (vs : List V) (Q : VK) (E : XK), Room k (A.deeper (envOfC qual (ak st) s.heap.objs.size f cdv)) -> sp vs H Q E ->
   ∃ t, PSs (kF CX0 P w K mg base N qual (ak st) f cdv A outer s H E).nox (aW st) t /\ t { nx := fun _ H' => Q .non H', rt := Q } (aG N vs) H) : FnOk P w K mg base CX0 (k + 1) f fd ps sp := by
 obtain ⟨oc, od, kV, doc, pm, an, cdv, ct, osl, rfl, lk, hcd⟩ := F.ex
 refine ze lk hcd S len fun A outer s H vs Q E hr hsp => ?_
 obtain ⟨t, h, q⟩ := hbody cdv A outer s H vs Q E hr hsp
 exact ⟨t, h.nox, q⟩
theorem Fun.binds {x qual : Str} {st : Stmt} {f : Addr} {fd : FuncData} {ps : List Str} (F : Fun K x qual st f fd)
  (h : ∀ (kV doc pm : Value) (an : Option Addr) (cdv ct : Value) (us : List Value), us.length = ps.length -> bindArgs (W.fnOf x qual (ba st) (aW st) (ak st) .none kV doc pm an cdv ct) ⟨us, []⟩ = pure (ps.zip us)) : Binds K fd ps [] := by
 obtain ⟨oc, od, kV, doc, pm, an, cdv, ct, osl, rfl, lk, hcd⟩ := F.ex
 exact .all (h kV doc pm an cdv ct)
theorem du {x qual : Str} {st : Stmt} {f : Addr} {oc : Value} {od an : Option Addr} {osl : Array (Option Value)} {kV doc pm cdv ct : Value} (l : K.lookup f = some ⟨oc, od, .func (W.fnOf x qual (ba st) (aW st) (ak st) .none kV doc pm an cdv ct), osl⟩)
  (c : W.codeIn K cdv qual = true) (k : W.keepIn K (.ref f) = true) : Fun K x qual st f (W.fnOf x qual (ba st) (aW st) (ak st) .none kV doc pm an cdv ct) := ⟨⟨oc, od, kV, doc, pm, an, cdv, ct, osl, rfl, l, c⟩, k⟩
end
section
variable {X : Cx}
theorem pv (i : Nat) {x : Str} {pos : Pos} (hN : X.N[i]? = some x := by rfl) (hv : Vis X.env.scope x := by first | exact Or.inl rfl | exact Or.inr (.inl rfl) | exact Or.inr (.inr rfl)) (hd : (x == ("__debug__" : Str)) = false := by decide)
  (hcd : (x == ("__classdict__" : Str)) = false := by decide) : PE X (.Name x pos) (jG i) := FR hN hv hd hcd
end
theorem vo {A B : Prop} (h : B) : if false = true then A else B := by
 rw [if_neg Bool.false_ne_true]
 exact h
theorem vB {A B : Prop} (h : A) : if true = true then A else B := by
 rw [if_pos rfl]
 exact h
def Same (H H' : Hp) : Prop := ∀ b o, H b = some o -> H' b = some o
theorem Same.refl (H : Hp) : Same H H := fun _ _ h => h
theorem Same.trans {H H1 H2 : Hp} (a : Same H H1) (b : Same H1 H2) : Same H H2 := fun c o h => b c o (a c o h)
theorem Same.free {H H' : Hp} (e : Same H H') {l : Addr} (h : H' l = Option.none) : H l = Option.none := by
 cases q : H l with
 | none => rfl
 | some o =>
  rw [e l o q] at h
  cases h
end L2
set_option linter.all false
set_option maxHeartbeats 4000000
set_option maxRecDepth 100000
namespace L2
open PySem PySem.Spec PyProof.Rows
structure CmpOk (XN : List Str) (sc scope : Scope) (N : List Str) (js : List (Option Nat)) : Prop where
 kind : scope.kind = .function
 cell : ∀ y ∈ scope.names, y.2 ≠ .cell
 free : ∀ y ∈ scope.names, y.2 = .free -> sc.names.lookup y.1 = some .cell \/ sc.names.lookup y.1 = some .free
 loc : ∀ y ∈ scope.names, y.2 = .local -> scope.names.lookup y.1 = some .local
 len : js.length = N.length
 ix : ((N.zip js).all fun p => match p.2 with | none => true | some j => decide (XN[j]? = some p.1) && decide (scope.names.lookup p.1 = some .free)) = true
def ko (env : Env) : List (Str × NameKind) -> List (Str × Addr) -> List (Str × Addr)
 | [], cs => cs
 | (n, k) :: r, cs => ko env r (if k = .free then (match env.cells.lookup n with | some c => (n, c) :: cs | none => cs) else cs)
theorem xw {env : Env} : ∀ {names : List (Str × NameKind)} {cs : List (Str × Addr)}, (∀ n c, cs.lookup n = some c -> env.cells.lookup n = some c) -> ∀ n c, (ko env names cs).lookup n = some c -> env.cells.lookup n = some c
 | [], _, h => h
 | (m, k) :: r, cs, h => by
  unfold ko
  refine xw ?_
  split
  ·cases e : env.cells.lookup m with
   | none => exact h
   | some d =>
    intro n c hn
    dsimp only at hn
    rw [List.lookup_cons] at hn
    cases q : n == m with
    | true =>
     rw [q] at hn
     have e1 : n = m := by simpa using q
     cases hn
     rw [e1]; exact e
    | false => rw [q] at hn; exact h n c hn
  ·exact h
theorem xF {env : Env} : ∀ {names : List (Str × NameKind)} {cs : List (Str × Addr)} {n : Str}, ((n, NameKind.free) ∈ names /\ (∃ c, env.cells.lookup n = some c)) \/ (∃ c, cs.lookup n = some c) -> ∃ c, (ko env names cs).lookup n = some c
 | [], _, _, h => h.elim (fun z => by cases z.1) id
 | (m, k) :: r, cs, n, h => by
  unfold ko
  refine xF ?_
  rcases h with ⟨hm, c, hc⟩ | ⟨c, hc⟩
  ·rcases List.mem_cons.mp hm with e | hm
   ·cases e
    right
    rw [if_pos rfl, hc]
    exact ⟨c, by rw [List.lookup_cons]; simp⟩
   ·exact .inl ⟨hm, c, hc⟩
  ·right
   split
   ·cases e : env.cells.lookup m with
    | none => exact ⟨c, hc⟩
    | some d =>
     dsimp only
     rw [List.lookup_cons]
     cases q : n == m with
     | true => exact ⟨d, rfl⟩
     | false => exact ⟨c, hc⟩
   ·exact ⟨c, hc⟩
theorem pH {env : Env} {scope : Scope} (h : ∀ y ∈ scope.names, y.2 = .free -> ∃ c, env.cells.lookup y.1 = some c) : closureFor scope env = pure (ko env scope.names []) := by
 have key : ∀ (names : List (Str × NameKind)) (cs : List (Str × Addr)), (∀ y ∈ names, y.2 = .free -> ∃ c, env.cells.lookup y.1 = some c) ->
   (forIn names cs (fun (x : Str × NameKind) r => if (x.2 == NameKind.free) = true then (do let a ← cellOf env x.1; pure (ForInStep.yield ((x.1, a) :: r))) else pure (ForInStep.yield r)) : Sem (List (Str × Addr))) = pure (ko env names cs) := by
  intro names
  induction names with
  | nil => intro cs _; rfl
  | cons y r ih =>
   intro cs hy
   obtain ⟨n, k⟩ := y
   rw [List.forIn_cons]
   unfold ko
   by_cases hk : k = .free
   ·subst hk
    obtain ⟨c, hc⟩ := hy _ List.mem_cons_self rfl
    have e1 : cellOf env n = pure c := by unfold cellOf; rw [hc]
    rw [if_pos (by rfl)]
    rw [if_pos rfl, hc]
    show ((cellOf env n >>= fun a => pure (ForInStep.yield ((n, a) :: cs))) >>= _) = _
    rw [e1]
    exact ih _ fun z hz => hy z (List.mem_cons_of_mem _ hz)
   ·have hb : (k == NameKind.free) = false := by simpa using hk
    rw [if_neg (by rw [hb]; decide), if_neg hk]
    exact ih _ fun z hz => hy z (List.mem_cons_of_mem _ hz)
 have k := key scope.names [] h
 unfold closureFor
 show (forIn scope.names ([] : List (Str × Addr)) _ >>= fun cs => pure cs) = _
 refine Eq.trans (congrArg (fun t => t >>= fun cs => pure cs) (Eq.trans ?_ k)) rfl
 congr 1
theorem qN {env : Env} : ∀ {names : List (Str × NameKind)} {x : Str}, names.lookup x = some .free ->
  (names.map fun (n, k) => if (k == NameKind.free && env.scope.kind == .function && env.kindOf n == some .cell) then (n, NameKind.cell) else (n, k)).lookup x = some .cell \/
  (names.map fun (n, k) => if (k == NameKind.free && env.scope.kind == .function && env.kindOf n == some .cell) then (n, NameKind.cell) else (n, k)).lookup x = some .free
 | [], _, h => by simp at h
 | (n, k) :: r, x, h => by
  have ih := @qN env r x
  rw [List.map_cons]
  dsimp only
  cases q : x == n with
  | true =>
   rw [List.lookup_cons, q] at h
   cases h
   split
   ·left; rw [List.lookup_cons, q]
   ·right; rw [List.lookup_cons, q]
  | false =>
   rw [List.lookup_cons, q] at h
   split
   ·rw [List.lookup_cons, q]; exact ih h
   ·rw [List.lookup_cons, q]; exact ih h
theorem li {env : Env} : ∀ {names : List (Str × NameKind)} {x : Str} {j : NameKind}, (∀ y ∈ names, y.2 ≠ .cell) -> (j = .cell \/ j = .free) ->
  (names.map fun (n, k) => if (k == NameKind.free && env.scope.kind == .function && env.kindOf n == some .cell) then (n, NameKind.cell) else (n, k)).lookup x = some j -> (x, NameKind.free) ∈ names
 | [], _, _, _, _, h => by simp at h
 | (n, k) :: r, x, j, hc, hj, h => by
  have ih := @li env r x j (fun y hy => hc y (List.mem_cons_of_mem _ hy)) hj
  rw [List.map_cons] at h
  dsimp only at h
  cases q : x == n with
  | true =>
   have e : x = n := by simpa using q
   subst e
   split at h
   ·rename_i g
    have : k = .free := by
     simp only [Bool.and_eq_true, beq_iff_eq] at g
     exact g.1.1
    subst this
    exact List.mem_cons_self
   ·rw [List.lookup_cons, q] at h
    cases h
    rcases hj with z | z
    ·exact absurd z (hc _ List.mem_cons_self)
    ·rw [z]; exact List.mem_cons_self
  | false =>
   refine List.mem_cons_of_mem _ (ih ?_)
   split at h
   ·rw [List.lookup_cons, q] at h; exact h
   ·rw [List.lookup_cons, q] at h; exact h
def inn (js : List (Option Nat)) (σ : St) : St := js.map fun o => match o with | none => none | some j => (σ[j]?).join
structure CxZ where
 cl : List (Str × Addr)
 C : Addr
 s : Shared
 H : Hp
 fp : List Addr
 pins : List (Addr × Obj)
def cxC (X : Cx) (N : List Str) (scope : Scope) (z : CxZ) : Cx where
 prog := X.prog
 w := X.w
 K := X.K
 mg := X.mg
 base := X.base
 A := X.A
 N := N
 s₀ := z.s
 H₀ := z.H
 env := compEnvC scope z.cl z.C X.env
 outer := X.stack
 stack := X.stack
 ex := z.fp
 fn := fun _ => false
 calm := X.calm
 pn := X.pn ++ z.pins
 xe := fun _ _ => False
section
variable {X : Cx} {pins : List (Addr × Obj)} {σ : St} {H : Hp} {s : Shared} {XN N : List Str} {sc scope : Scope} {js : List (Option Nat)}
theorem Bu {h1 : Heap} {m : Str -> Option Value} {tk : Nat} {fp : List Addr} (ck : CmpOk XN sc scope N js) (hXN : X.N = XN) (hsc : X.env.scope = sc) (I : Inv X pins σ H s) (hf : ∀ b ∈ fp, qu X pins H b)
  (hfo : ∀ b ∈ fp, b < s.heap.objs.size) (hn : h1.Ns s.heap.objs.size m) (hk : ∀ b o, s.heap.get? b = some o -> h1.get? b = some o) :
  Inv (cxC X N scope ⟨ko X.env scope.names [], s.heap.objs.size, s, H, fp, pins⟩) [] (inn js σ) H { s with heap := h1, toks := tk } := by
 subst hXN hsc
 have sub : ∀ n c, (ko X.env scope.names []).lookup n = some c -> X.env.cells.lookup n = some c := xw fun n c h => by simp at h
 have clt : ∀ n c, (ko X.env scope.names []).lookup n = some c -> c < s.heap.objs.size := fun n c h => by
  obtain ⟨v, q⟩ := I.cell n c (sub n c h)
  exact q.lt
 have has : ∀ x, (x, NameKind.free) ∈ scope.names -> ∃ c, (ko X.env scope.names []).lookup x = some c := fun x hx =>
  xF (.inl ⟨hx, I.ok.has x (ck.free _ hx rfl)⟩)
 refine ⟨⟨I.ok.mod, ck.kind, I.ok.glob, I.ok.blt, Nat.le_refl _, fun x y c h1 h2 => I.ok.inj x y c (sub x c h1) (sub y c h2), fun x hx => ?has, fun x c hx => ?cab, I.ok.hd, I.ok.frames, .inl rfl, fun b hb => ?exf, I.bs, ?bsz, fun b o e hb => ?noex, fun b hb => ?exfs, I.stack, I.stkFree⟩,
  rfl, I.bare, Un.kept hk, ⟨m, hn, fun i x v h1 h2 h3 => ?loc⟩, fun x c h => ?cell, I.hok.fresh (Nat.le_refl _), fun x c h => I.freeC x c (sub x c h), fun p hp => ?pin, I.hok.kept hk, ?len⟩
 case has =>
  rcases hx with hx | hx
  ·exact has x (li ck.cell (.inl rfl) hx)
  ·exact has x (li ck.cell (.inr rfl) hx)
 case cab => cases hx
 case exf =>
  obtain ⟨f0, f1, f2, f3, f4, f5⟩ := hf b hb
  exact ⟨Nat.ne_of_lt (hfo b hb), fun x c e => f4 x c (sub x c e)⟩
 case bsz => exact Nat.le_trans I.ok.bsz I.sz
 case noex =>
  obtain ⟨f0, f1, f2, f3, f4, f5⟩ := hf b hb
  rcases f3 with f3 | f3
  ·exact I.ok.noex b o e f3
  ·exact absurd (Nat.lt_of_lt_of_le (Heap.lt_size e) (Nat.le_trans I.ok.bsz f3)) (Nat.lt_irrefl _)
 case exfs =>
  obtain ⟨f0, f1, f2, f3, f4, f5⟩ := hf b hb
  intro z
  rcases List.mem_cons.mp (I.stkSub b z) with e | e
  ·exact f1 e
  ·exact f2 e
 case loc =>
  have hl : N.length = js.length := ck.len.symm
  have hi : i < js.length := by
   have := (List.getElem?_eq_some_iff.mp h1).1
   have e : (cxC X N scope ⟨ko X.env scope.names [], s.heap.objs.size, s, H, fp, pins⟩).N = N := rfl
   rw [e] at this
   lia
  have hN : N[i]? = some x := h1
  have hj : js[i]? = some js[i] := List.getElem?_eq_getElem hi
  unfold inn at h2
  rw [List.getElem?_map, hj] at h2
  cases q : js[i] with
  | none => rw [q] at h2; cases h2
  | some j =>
   rw [q] at h2 hj
   have h2' : (σ[j]?).join = some v := Option.some.inj h2
   have hσ : σ[j]? = some (some v) := by
    cases e : σ[j]? with
    | none => rw [e] at h2'; cases h2'
    | some o => rw [e] at h2'; exact congrArg some h2'
   have hm : (x, some j) ∈ N.zip js := by
    refine List.mem_of_getElem? (i := i) ?_
    rw [List.getElem?_zip_eq_some]
    exact ⟨hN, hj⟩
   have hc := List.all_eq_true.mp ck.ix _ hm
   simp only [Bool.and_eq_true, decide_eq_true_eq] at hc
   obtain ⟨c1, c2⟩ := hc
   have hfr : (x, NameKind.free) ∈ scope.names := PySem.mem_of_lookup c2
   have hvis : X.env.scope.names.lookup x = some .cell \/ X.env.scope.names.lookup x = some .free := ck.free _ hfr rfl
   obtain ⟨m0, hn0, hl0⟩ := I.loc
   obtain ⟨u, r, l⟩ := hl0 j x v c1 hσ (hvis.elim (fun z => .inr (.inl z)) fun z => .inr (.inr z))
   refine ⟨u, r, .inr ⟨?_, ?_⟩⟩
   ·exact qN c2
   ·rcases l with ⟨k1, _⟩ | ⟨_, c, k1, k2⟩
    ·have k1' : X.env.scope.names.lookup x = some .local := k1
     rcases hvis with z | z
     ·rw [z] at k1'; cases k1'
     ·rw [z] at k1'; cases k1'
    ·obtain ⟨c', hc'⟩ := has x hfr
     have e := sub x c' hc'
     rw [k1] at e
     cases e
     obtain ⟨oc, ho, hd⟩ := k2
     exact ⟨c, hc', oc, hk _ _ ho, hd⟩
 case cell =>
  obtain ⟨v, oc, ho, hd⟩ := I.cell x c (sub x c h)
  exact ⟨v, oc, hk _ _ ho, hd⟩
 case pin =>
  have hp' : p ∈ X.pn ++ pins := by simpa [cxC] using hp
  obtain ⟨p1, p2, p3, p4, p5⟩ := I.pin p hp'
  refine ⟨hk _ _ p1, p2, Nat.ne_of_lt (Heap.lt_size p1), fun z => ?_, p5⟩
  rcases List.mem_cons.mp (I.stkSub _ z) with e | e
  ·exact p3 e
  ·exact p4 e
 case len =>
  show (inn js σ).length = N.length
  unfold inn
  rw [List.length_map]
  exact ck.len
abbrev TIf := St -> Hp -> (Bool -> Hp -> Prop) -> Prop
def PIf (X : Cx) (ifs : List Expr) (t : TIf) : Prop :=
 ∀ (pins : List (Addr × Obj)) (s : Shared) (σ : St) (H : Hp) (Q : Bool -> Hp -> Prop), Inv X pins σ H s -> t σ H Q ->
  wpAny (model X.prog X.w) X.A (forIn ifs true fun c r => if r = true then do let ok ← isTrue c X.env (eval c X.env); pure (ForInStep.yield ok) else pure (ForInStep.yield r)) (TP X pins σ Q) X.xe s
def DG : TIf := fun _ H Q => Q true H
theorem dR : PIf X [] DG := fun _ _ _ H _ I h => wpAny_tests_nil ⟨H, I, h⟩
theorem kA {c : Expr} {t : TT} (h : PT X c t) : PIf X [c] t := fun pins s σ H Q I q => wpAny_tests_one (h pins s σ H Q I q)
def Lev (σ σ' : St) : Prop := σ.length = σ'.length /\ ∀ (i : Nat) (v : V), σ[i]? = some (some v) -> σ'[i]? = some (some v)
theorem Lev.refl (σ : St) : Lev σ σ := ⟨rfl, fun _ _ h => h⟩
theorem Lev.trans {a b c : St} (h : Lev a b) (k : Lev b c) : Lev a c := ⟨h.1.trans k.1, fun i v e => k.2 i v (h.2 i v e)⟩
def yR (js : List (Option Nat)) (g : TG) : Prop := ∀ (σ0 : St) (v : V) (σ : St) (H : Hp) (Q : St -> Hp -> Prop), Lev (inn js σ0) σ -> g v σ H Q -> g v σ H fun σ' H' => Lev (inn js σ0) σ' /\ Q σ' H'
def zM (js : List (Option Nat)) (g : TGs) : Prop := ∀ (σ0 : St) (vs : List V) (σ : St) (H : Hp) (Q : St -> Hp -> Prop), Lev (inn js σ0) σ -> g vs σ H Q -> g vs σ H fun σ' H' => Lev (inn js σ0) σ' /\ Q σ' H'
theorem aV {i : Nat} (h : js[i]? = some none := by rfl) : yR js (gB i) := fun σ0 v σ H Q l q => by
 refine ⟨⟨?_, fun j u e => ?_⟩, q⟩
 ·rw [List.length_set]; exact l.1
 ·by_cases hij : i = j
  ·subst hij
   unfold inn at e
   rw [List.getElem?_map, h] at e
   cases e
  ·rw [List.getElem?_set_ne hij]
   exact l.2 j u e
theorem fi : zM js F9 := fun σ0 vs σ H Q l q => ⟨q.1, l, q.2⟩
theorem aZ {t : TG} {u : TGs} (h : yR js t) (k : zM js u) (mono : ∀ v σ H (Q Q' : St -> Hp -> Prop), (∀ a b, Q a b -> Q' a b) -> t v σ H Q -> t v σ H Q') : zM js (Dd t u) := fun σ0 vs σ H Q l q => by
 obtain ⟨v, r, e, q⟩ := q
 exact ⟨v, r, e, mono _ _ _ _ _ (fun σ' H' z => k σ0 r σ' H' Q z.1 z.2) (h σ0 v σ H _ l q)⟩
theorem aO {i : Nat} : ∀ v σ H (Q Q' : St -> Hp -> Prop), (∀ a b, Q a b -> Q' a b) -> gB i v σ H Q -> gB i v σ H Q' := fun _ _ _ _ _ h q => h _ _ q
theorem g9 {K : W.Frag} {n : Nat} {t : TGs} (h : zM js t) : yR js (D6 K n t) := fun σ0 v σ H Q l q => by
 obtain ⟨a, xs, e, hq, hl, q⟩ := q
 exact ⟨a, xs, e, hq, hl, h σ0 xs σ H Q l q⟩
def wo (js : List (Option Nat)) (wi : TI) (g : TG) (tt : TIf) (te : TE) : TE := fun σ H Q => wi σ H fun J H1 => ∀ D, H1 D = none -> ∃ W : Nat -> Nat -> Hp -> Prop, (∃ m, W 0 m (upd H1 D (.lst []))) /\ ∀ i m H, W i m H ->
 (J.stop i H /\ Q (.ref D) H) \/ (J.go i H /\ ∀ x H', J.yld i H x H' -> g x (inn js σ) H' fun σ2 H2 => tt σ2 H2 fun b H3 =>
  if b = true then te σ2 H3 fun y H4 => ∃ ys, H4 D = some (.lst ys) /\ ys.length < sizeLine /\ ∃ m', m' < m /\ W (i + 1) m' (upd H4 D (.lst (ys ++ [y]))) else ∃ m', m' < m /\ W (i + 1) m' H3)
variable {tg iter elt : Expr} {ifs : List Expr} {pos : Pos} {wi : TI} {g : TG} {tt : TIf} {te : TE}
theorem Bb {E : Value -> Shared -> Prop} {R : Result -> Shared -> Prop} {it D : Addr} {fp : List Addr} {tn : Nat -> Heap -> Prop} {J : It} {z : CxZ} {W : Nat -> Nat -> Hp -> Prop} {n : Nat}
  (hc : X.calm = true) (T : Turn X.prog X.w X.K tg J fp it tn) (hz : ∀ b ∈ fp, ∀ H', H' b = none -> qu (cxC X N scope z) [] H' b)
  (hg : PG (cxC X N scope z) tg g) (hs : yR js g) (ht : PIf (cxC X N scope z) ifs tt) (he : PE (cxC X N scope z) elt te)
  (turn : ∀ i m H, W i m H -> (J.stop i H /\ ∀ s', Inv (cxC X N scope z) [] (inn js σ) H s' -> R (.ok .next) s') \/ (J.go i H /\ ∀ x H', J.yld i H x H' -> g x (inn js σ) H' fun σ2 H2 => tt σ2 H2 fun b H3 =>
   if b = true then te σ2 H3 fun y H4 => ∃ ys, H4 D = some (.lst ys) /\ ys.length < sizeLine /\ ∃ m', m' < m /\ W (i + 1) m' (upd H4 D (.lst (ys ++ [y]))) else ∃ m', m' < m /\ W (i + 1) m' H3))
  {s1 : Shared} {H1 : Hp} (I1 : Inv (cxC X N scope z) [] (inn js σ) H1 s1) (t1 : tn 0 s1.heap) (f1 : ∀ b ∈ fp, H1 b = none) (w1 : W 0 n H1) :
  codeAny (model X.prog X.w) X.A (.compLoop (.ListComp elt [⟨tg, iter, ifs, 0⟩] scope pos) 0 (.ref it) (.ref D) (compEnvC scope z.cl z.C X.env)) R s1 := by
 refine codeAny_loop (c := .compLoop (.ListComp elt [⟨tg, iter, ifs, 0⟩] scope pos) 0 (.ref it) (.ref D) (compEnvC scope z.cl z.C X.env)) rfl
  (fun k s' => ∃ i H', Inv (cxC X N scope z) [] (inn js σ) H' s' /\ tn i s'.heap /\ (∀ b ∈ fp, H' b = none) /\ W i k H') ?_ n ⟨0, H1, I1, t1, f1, w1⟩
 rintro k s2 ⟨i, H2, I2, t2, f2, w2⟩
 show wpAny (model X.prog X.w) X.A ((compTurn (.ListComp elt [⟨tg, iter, ifs, 0⟩] scope pos) 0 (.ref it) (.ref D) (compEnvC scope z.cl z.C X.env)).onRaise fun x => do noteFrame x (compEnvC scope z.cl z.C X.env); theTreesLotGoes x) _ _ s2
 refine wpAny_noted ?_
 rw [compTurn_list]
 refine wpAny_bind (wpAny_standAt ?_)
 rcases turn i k H2 w2 with ⟨stop, fin⟩ | ⟨go, step⟩
 ·refine wpAny_bind (thn (T.done (cxC X N scope z) rfl rfl rfl hc i [] s2 (inn js σ) H2 _ I2 (fun b hb => hz b hb H2 (f2 b hb)) t2 stop) fun r s3 h3 => ?_)
  obtain ⟨rfl, I3⟩ := h3
  exact wpAny_pure (fin s3 I3)
 ·refine wpAny_bind (thn (T.item (cxC X N scope z) rfl rfl rfl hc i [] s2 (inn js σ) H2 _ I2 (fun b hb => hz b hb H2 (f2 b hb)) t2 go) fun r s3 h3 => ?_)
  obtain ⟨u, rfl, h3⟩ := h3
  refine wpAny_bind (thn h3 fun _ s4 h4 => ?_)
  obtain ⟨x, H4, I4, r4, y4, t4, f4⟩ := h4
  have P4 := I4.pinned (fun b hb => hz b hb H4 (f4 b hb)) (T.obj _ _ t4)
  have ff : ∀ {e : Value} {s' : Shared}, (cxC X N scope z).xe e s' -> False := fun h => h
  refine wpAny_bind (wpAny_mono (hg _ s4 (inn js σ) H4 x u _ P4 r4 (hs σ x (inn js σ) H4 _ (Lev.refl _) (step x H4 y4))) (fun _ s5 h5 => ?_) fun _ _ h => (ff h).elim)
  obtain ⟨σ5, H5, I5, lev, q5⟩ := h5
  refine wpAny_bind (wpAny_mono (ht _ s5 σ5 H5 _ I5 q5) (fun ok s6 h6 => ?_) fun _ _ h => (ff h).elim)
  obtain ⟨H6, I6, q6⟩ := h6
  have again : ∀ {s7 : Shared} {H7 : Hp}, Inv (cxC X N scope z) ([] ++ m7 fp s4.heap) σ5 H7 s7 -> (∃ m', m' < k /\ W (i + 1) m' H7) -> ∃ m, m < k /\ ∃ i H', Inv (cxC X N scope z) [] (inn js σ) H' s7 /\ tn i s7.heap /\ (∀ b ∈ fp, H' b = none) /\ W i m H' := fun {s7 H7} I7 h7 => by
   obtain ⟨m', hm, w7⟩ := h7
   refine ⟨m', hm, i + 1, H7, (I7.unpinned).weak lev.1 lev.2, T.keep _ _ _ t4 fun b hb o e => (I7.pin (b, o) (List.mem_append_right _ (List.mem_append_right _ (gA hb e)))).1, fun b hb => ?_, w7⟩
   obtain ⟨o, e, d⟩ := T.obj _ _ t4 b hb
   exact (I7.pin (b, o) (List.mem_append_right _ (List.mem_append_right _ (gA hb e)))).2.1
  cases ok with
  | false =>
   rw [if_neg (by decide)] at q6
   exact wpAny_pure ⟨rfl, again I6 q6⟩
  | true =>
   rw [if_pos rfl] at q6
   refine wpAny_bind (wpAny_bind (wpAny_mono (he _ s6 σ5 H6 _ I6 q6) (fun y s7 h7 => ?_) fun _ _ h => (ff h).elim))
   obtain ⟨vy, H7, I7, r7, ys, hD, hl, q7⟩ := h7
   refine wpAny_bind (wpAny_mono (iw (X := cxC X N scope z) _ s7 σ5 H7 (.ref D) [vy] (.ref D) [y] (fun _ H' => ∃ m', m' < k /\ W (i + 1) m' H') I7 rfl (.cons r7 .nil) ⟨D, ys, vy, rfl, rfl, hD, hl, q7⟩) (fun _ s8 h8 => ?_) fun _ _ h => (ff h).elim)
   obtain ⟨_, H8, I8, _, q8⟩ := h8
   exact wpAny_pure (wpAny_pure ⟨rfl, again I8 q8⟩)
theorem qv {E : Value -> Shared -> Prop} {RR : Value -> Addr -> Result -> Shared -> Prop} {Q : VK} {itv : Value} {s2 : Shared} (ck : CmpOk XN sc scope N js) (hXN : X.N = XN) (hsc : X.env.scope = sc) (hc : X.calm = true)
  (hg : ∀ z, PG (cxC X N scope z) tg g) (hs : yR js g) (ht : ∀ z, PIf (cxC X N scope z) ifs tt) (he : ∀ z, PE (cxC X N scope z) elt te)
  (h2 : PIE X pins σ tg (fun J H1 => ∀ D, H1 D = none -> ∃ W : Nat -> Nat -> Hp -> Prop, (∃ m, W 0 m (upd H1 D (.lst []))) /\ ∀ i m H, W i m H ->
   (J.stop i H /\ Q (.ref D) H) \/ (J.go i H /\ ∀ x H', J.yld i H x H' -> g x (inn js σ) H' fun σ2 H2 => tt σ2 H2 fun b H3 =>
    if b = true then te σ2 H3 fun y H4 => ∃ ys, H4 D = some (.lst ys) /\ ys.length < sizeLine /\ ∃ m', m' < m /\ W (i + 1) m' (upd H4 D (.lst (ys ++ [y]))) else ∃ m', m' < m /\ W (i + 1) m' H3)) itv s2)
  (hRR : ∀ D C s' H' m o, Inv X (pins ++ [(C, o)]) σ H' s' -> s'.heap.Ns C m -> (X.s₀.heap.objs.size <= C /\ C ≠ X.env.locals /\ (∀ x c, X.env.cells.lookup x = some c -> c ≠ C) /\ ∀ p ∈ X.pn ++ pins, p.1 ≠ C) -> H' C = none -> Q (.ref D) H' -> RR (.ref D) C (.ok .next) s') :
  wpAny (model X.prog X.w) X.A (newList []) (fun acc s₃ => wpAny (model X.prog X.w) X.A (newFunctionEnv scope X.env.globals (ko X.env scope.names []) [] X.env.qual none .none (some X.env)) (fun cenv s₄ =>
   codeAny (model X.prog X.w) X.A (.compStart (.ListComp elt [⟨tg, iter, ifs, 0⟩] scope pos) 0 itv acc { cenv with scope := relabel scope X.env }) (RR acc cenv.locals) s₄) E s₃) E s2 := by
 obtain ⟨it, fp, tn, J, H2, rfl, I2, T, t2, f2, q2⟩ := h2
 have fo : ∀ b ∈ fp, b < s2.heap.objs.size := fun b hb => by
  obtain ⟨o, e, _⟩ := T.obj _ _ t2 b hb
  exact Heap.lt_size e
 have hD : H2 s2.heap.objs.size = none := I2.fresh
 obtain ⟨W, ⟨n, w0⟩, turn⟩ := q2 _ hD
 refine wpAny_newObj_type (wpAny_newFunctionEnv ck.cell (by intro y hy; simp at hy) (fun h1 hns hsb => ?_) ck.kind)
 have I3 : Inv X pins σ (upd H2 s2.heap.objs.size (.lst [])) { s2 with heap := s2.heap.push { cls := .type "list", data := .seq ([] : List Value).toArray }, toks := s2.toks } := I2.lnew (its := []) .nil (Nat.zero_le _)
 have f3 : ∀ b ∈ fp, qu X pins (upd H2 s2.heap.objs.size (.lst [])) b := fun b hb => by
  obtain ⟨g0, g1⟩ := f2 b hb
  exact ⟨by rw [aA (Nat.ne_of_lt (fo b hb))]; exact g0, g1⟩
 have sz : (s2.heap.push { cls := .type "list", data := .seq ([] : List Value).toArray }).objs.size = s2.heap.objs.size + 1 := Heap.size_push _ _
 have kept : ∀ b o, (s2.heap.push { cls := .type "list", data := .seq ([] : List Value).toArray }).get? b = some o -> h1.get? b = some o := fun b o e =>
  hsb.extBut b o (Nat.ne_of_lt (Heap.lt_size e)) (Heap.get?_push_of_some _ e)
 have I4 := Bu (tk := s2.toks + ([] : List (Str × Value)).length) ck hXN hsc I3 f3 (fun b hb => by show b < (s2.heap.push _).objs.size; rw [sz]; exact Nat.lt_succ_of_lt (fo b hb)) hns kept
 have t4 : tn 0 h1 := T.keep _ _ _ t2 fun b hb o e => kept b o (Heap.get?_push_of_some _ e)
 have fz : ∀ b ∈ fp, ∀ H', H' b = none -> qu (cxC X N scope ⟨ko X.env scope.names [], (s2.heap.push { cls := .type "list", data := .seq ([] : List Value).toArray }).objs.size, { s2 with heap := s2.heap.push { cls := .type "list", data := .seq ([] : List Value).toArray }, toks := s2.toks }, upd H2 s2.heap.objs.size (.lst []), fp, pins⟩) [] H' b := fun b hb H' hn => by
  obtain ⟨g0, g1, g2, g3, g4, g5⟩ := f3 b hb
  refine ⟨hn, (I4.ok.exf b hb).1, I4.ok.exfs b hb, .inl hb, (I4.ok.exf b hb).2, fun p hp => ?_⟩
  exact g5 p (by simpa [cxC] using hp)
 have loop := Bb (X := X) (σ := σ) (N := N) (scope := scope) (js := js) (iter := iter) (pos := pos) (E := E) (R := RR (.ref s2.heap.objs.size) (s2.heap.push { cls := .type "list", data := .seq ([] : List Value).toArray }).objs.size) (D := s2.heap.objs.size) (W := W) (n := n)
  hc T fz (hg _) hs (ht _) (he _) (fun i m H w => (turn i m H w).imp (fun a => ⟨a.1, fun s' Y => ?_⟩) id) I4 t4 (fun b hb => (f3 b hb).1) w0
 ·exact codeAny_compStart_list loop (T.self _ 0 _ _ _ t4 loop)
 ·have bb := Y.base
  have J0 : Inv X pins σ H s' := I3.call' Y.os bb Y.hok Y.bare fun b hb => by
   obtain ⟨g0, g1, g2, g3, g4, g5⟩ := f3 b hb
   exact ⟨g3, g1, g4, g5⟩
  obtain ⟨mC, nC, _⟩ := Y.loc
  obtain ⟨oC, eC, dC⟩ : ∃ o, s'.heap.get? (s2.heap.push { cls := .type "list", data := .seq ([] : List Value).toArray }).objs.size = some o /\ ∀ v, o.data ≠ .cell v := by
   obtain ⟨o, es, ep, ho, hd, _⟩ := nC
   exact ⟨o, ho, fun v z => by rw [hd] at z; cases z⟩
  have lC : X.s₀.heap.objs.size <= (s2.heap.push { cls := .type "list", data := .seq ([] : List Value).toArray }).objs.size := I3.sz
  have cC : (s2.heap.push { cls := .type "list", data := .seq ([] : List Value).toArray }).objs.size ≠ X.env.locals := Nat.ne_of_gt I3.lt
  have kC : ∀ x c, X.env.cells.lookup x = some c -> c ≠ (s2.heap.push { cls := .type "list", data := .seq ([] : List Value).toArray }).objs.size := fun x c e => by
   obtain ⟨v, q⟩ := I3.cell x c e
   exact Nat.ne_of_lt q.lt
  have pC : ∀ p ∈ X.pn ++ pins, p.1 ≠ (s2.heap.push { cls := .type "list", data := .seq ([] : List Value).toArray }).objs.size := fun p hp => Nat.ne_of_lt (Heap.lt_size (I3.pin p hp).1)
  have J1 : Inv X (pins ++ [((s2.heap.push { cls := .type "list", data := .seq ([] : List Value).toArray }).objs.size, oC)]) σ H s' := J0.pins_of fun p hp => by
   rcases List.mem_append.mp hp with hp | hp
   ·exact J0.pin p (List.mem_append_right _ hp)
   ·rw [List.mem_singleton.mp hp]
    exact ⟨eC, Y.free, cC, I3.nofs (Nat.le_refl _), dC⟩
  exact hRR _ _ s' H mC oC J1 nC ⟨lC, cC, kC, pC⟩ Y.free a.2
theorem cn (ck : CmpOk XN sc scope N js) (hi : PI X tg iter wi) (hg : ∀ z, PG (cxC X N scope z) tg g) (hs : yR js g) (ht : ∀ z, PIf (cxC X N scope z) ifs tt) (he : ∀ z, PE (cxC X N scope z) elt te)
  (hXN : X.N = XN := by rfl) (hsc : X.env.scope = sc := by rfl) (hc : X.calm = true := by rfl) (hf : ∀ x, foldedSetIterable iter X.env x = pure x := by intro _; rfl) :
  PE X (.ListComp elt [⟨tg, iter, ifs, 0⟩] scope pos) (wo js wi g tt te) := by
 intro pins s σ H Q I h
 rw [eval_ListComp]
 have hcl : closureFor scope X.env = pure (ko X.env scope.names []) := pH fun y hy hk => I.ok.has y.1 (by
  have := ck.free y hy hk
  rw [<- hsc] at this
  exact this)
 refine wpAny_comprehension_free (use := none) rfl hf hcl ck.kind ck.loc (thn (hi pins s σ H _ I h) fun v s1 h1 => thn h1 fun itv s2 h2 => ?_)
 refine qv (RR := fun acc C => compPost (model X.prog X.w) X.A X.xe none (EP X pins σ Q) acc C) ck hXN hsc hc hg hs ht he h2 ?_
 intro D C s' H' m o J nC hC fC q
 refine ⟨m, nC, fun h' sb => ⟨.ref D, H', ?_, rfl, q⟩⟩
 have J0 : Inv X pins σ H' s' := J.unpinned
 exact J0.turned (t' := s'.toks) (it := C) (fun b o hb e => sb.extBut b o hb e) fC hC.2.1 (.inr hC.1) hC.2.2.1 hC.2.2.2
theorem ET {i : Nat} {y : Str} {pos' spos : Pos} (ck : CmpOk XN sc scope N js) (hN : X.N.Nodup) (hi0 : X.N[i]? = some y) (hx : Loc X.env.scope y) (hi : PI X tg iter wi) (hg : ∀ z, PG (cxC X N scope z) tg g) (hs : yR js g) (ht : ∀ z, PIf (cxC X N scope z) ifs tt) (he : ∀ z, PE (cxC X N scope z) elt te)
  (hsw : swapsWith (.ListComp elt [⟨tg, iter, ifs, 0⟩] scope pos) (some (.Name y pos')) spos.line X.env = pure true := by rfl)
  (hXN : X.N = XN := by rfl) (hsc : X.env.scope = sc := by rfl) (hc : X.calm = true := by rfl) (hf : ∀ x, foldedSetIterable iter X.env x = pure x := by intro _; rfl)
  (hfn : X.fn y = true \/ X.env.scope.names.lookup y = some .local := by first | exact .inl rfl | exact .inr rfl | assumption) :
  PS X (.Assign [.Name y pos'] (.ListComp elt [⟨tg, iter, ifs, 0⟩] scope pos) spos) (rH (wo js wi g tt te) (gB i)) := by
 intro pins s σ H D I h
 rw [exec_Assign_Name_used _ _ _ _ hsw]
 have hcl : closureFor scope X.env = pure (ko X.env scope.names []) := pH fun y hy hk => I.ok.has y.1 (by
  have := ck.free y hy hk
  rw [<- hsc] at this
  exact this)
 refine wpAny_bind (wpAny_standAt (wpAny_bind ?_))
 show wpAny (model X.prog X.w) X.A (comprehension (.ListComp elt [⟨tg, iter, ifs, 0⟩] scope pos) scope X.env _ (newList []) false (eval iter X.env) (some (assign (.Name y pos') X.env)) >>= fun _ => pure ()) _ _ s
 refine wpAny_bind (thn (wpAny_comprehension_free (use := some (assign (.Name y pos') X.env)) (Q := fun _ s' => SP X pins D .next s') rfl hf hcl ck.kind ck.loc (thn (hi pins s σ H _ I h) fun v s1 h1 => thn h1 fun itv s2 h2 => ?_)) fun _ s' q => wpAny_pure (wpAny_pure q))
 refine qv (RR := fun acc C => compPost (model X.prog X.w) X.A X.xe (some (assign (.Name y pos') X.env)) (fun _ s' => SP X pins D .next s') acc C) (Q := fun x H1 => gB i x σ H1 D.nx) ck hXN hsc hc hg hs ht he h2 ?_
 intro A C s' H' m o J nC hC fC q
 refine thn (aD hN hi0 hx hfn _ s' σ H' (.ref A) (.ref A) _ J rfl q) fun _ s3 h3 => ?_
 obtain ⟨σ3, H3, J3, q3⟩ := h3
 have pc := J3.pin (C, o) (List.mem_append_right _ (List.mem_append_right _ List.mem_cons_self))
 have oC : s'.heap.get? C = some o := (J.pin (C, o) (List.mem_append_right _ (List.mem_append_right _ List.mem_cons_self))).1
 refine ⟨m, nC.at' fun o' e => ?_, fun h' sb => ⟨σ3, H3, ?_, q3⟩⟩
 ·rw [oC] at e
  cases e
  exact pc.1
 ·have J0 : Inv X pins σ3 H3 s3 := J3.unpinned
  exact J0.turned (t' := s3.toks) (it := C) (fun b o hb e => sb.extBut b o hb e) pc.2.1 hC.2.1 (.inr hC.1) hC.2.2.1 hC.2.2.2
end
end L2
namespace Srt
open PySem PySem.W PyProof.Rows
section
variable {α β : Type} (lt : Nat -> Nat -> Bool) (n : Nat)
end
section
variable {lt : Nat -> Nat -> Bool} {le : Nat -> Nat -> Prop} {n : Nat} {p : Array Nat}
abbrev at' (p : Array Nat) (i : Nat) : Nat := p.getD i 0
theorem xN {p q : Array Nat} {i j : Nat} (h : p[i]? = q[j]?) : at' p i = at' q j := by
 have e : ∀ (r : Array Nat) (k : Nat), at' r k = (r[k]?).getD 0 := fun r k => by simp [at']
 rw [e, e, h]
def Asc (le : Nat -> Nat -> Prop) (p : Array Nat) (m : Nat) : Prop := ∀ i j, i <= j -> j < m -> le (at' p i) (at' p j)
def Bel (n : Nat) (p : Array Nat) : Prop := ∀ k, at' p k < n
structure Ord (lt : Nat -> Nat -> Bool) (le : Nat -> Nat -> Prop) : Prop where
 tr : ∀ a b c, le a b -> le b c -> le a c
 rf : ∀ a, le a a
 yes : ∀ a b, lt a b = true -> le a b
 no : ∀ a b, lt a b = false -> le b a
theorem Gq (hn : 0 < n) (hp : p.Perm (List.range n).toArray) : Bel n p := fun k => by
 have e : at' p k = (p[k]?).getD 0 := by simp [at']
 rw [e]
 cases h : p[k]? with
 | none => exact hn
 | some v =>
  have hm : v ∈ p := Array.mem_of_getElem? h
  have := (Array.perm_iff_toList_perm.mp hp).mem_iff.mp (Array.mem_toList_iff.mpr hm)
  simpa using this
theorem b9 {i j : Nat} (hj : j <= p.size) (k : Nat) : at' (kas_rev p i j) k = if i <= k /\ k < j then at' p (i + j - 1 - k) else at' p k := by
 have e := getElem?_mirror_all (i := i) hj k
 by_cases h : i <= k /\ k < j
 ·rw [if_pos h] at e ⊢; exact xN e
 ·rw [if_neg h] at e ⊢; exact xN e
variable {z : Nat}
theorem m8 {src d : Nat} (hs : src < p.size) (hd : d <= src) (k : Nat) : at' (bubble p src d) k = if k = src - d then at' p src else if src - d < k /\ k <= src then at' p (k - 1) else at' p k := by
 have e := getElem?_bubble hs d hd k
 by_cases h1 : k = src - d
 ·rw [if_pos h1] at e ⊢; exact xN e
 ·rw [if_neg h1] at e ⊢
  by_cases h2 : src - d < k /\ k <= src
  ·rw [if_pos h2] at e ⊢; exact xN e
  ·rw [if_neg h2] at e ⊢; exact xN e
end
theorem yh {α : Type} {le : Nat -> Nat -> Prop} {p : Array Nat} {vs : List α} {d : α} (hp : p.Perm (List.range vs.length).toArray) (ha : Asc le p vs.length) :
  (p.toList.map fun i => vs.getD i d).Perm vs /\ ∀ R : α -> α -> Prop, (∀ i j, i < vs.length -> j < vs.length -> le i j -> R (vs.getD i d) (vs.getD j d)) -> (p.toList.map fun i => vs.getD i d).Pairwise R := by
 have hl : p.toList.Perm (List.range vs.length) := by simpa using Array.perm_iff_toList_perm.mp hp
 constructor
 ·have h1 : (p.toList.map fun i => vs.getD i d).Perm ((List.range vs.length).map fun i => vs.getD i d) := hl.map _
  have h2 : ((List.range vs.length).map fun i => vs.getD i d) = vs := by
   apply List.ext_getElem
   ·simp
   ·intro i h1 h2; simp at h1; simp [h1]
  rw [h2] at h1
  exact h1
 ·intro R hR
  rw [List.pairwise_map, List.pairwise_iff_getElem]
  intro i j hi hj hij
  have hs : p.toList.length = vs.length := by rw [hl.length_eq]; simp
  have m : ∀ k (hk : k < p.toList.length), p.toList[k] < vs.length := fun k hk => by simpa using hl.mem_iff.mp (List.getElem_mem hk)
  have a : ∀ k (hk : k < p.toList.length), at' p k = p.toList[k] := fun k hk => by
   have : k < p.size := by simpa using hk
   simp [at', Array.getD, this]
  refine hR _ _ (m i hi) (m j hj) ?_
  rw [<- a i hi, <- a j hj]
  exact ha i j (Nat.le_of_lt hij) (by lia)
def Em : Bool -> Keyed -> Array Keyed -> Nat -> Nat -> Nat -> StateT SortSt Sem (Option Nat) := sortPriv% PySem.Builtin.gallop
def Df : Array Keyed -> Array Keyed -> StateT SortSt Sem (Array Keyed) := sortPriv% PySem.Builtin.mergeLo
def C5 : Array Keyed -> Array Keyed -> StateT SortSt Sem (Array Keyed) := sortPriv% PySem.Builtin.mergeHi
section
variable {prog : Program} {w : World} {A : Around} {E : Value -> Shared -> Prop} {s : Shared} {κ : SortKind} {it : Array Keyed} {n : Nat} {lt : Nat -> Nat -> Bool} {le : Nat -> Nat -> Prop}
def r9 (prog : Program) (w : World) (A : Around) (s : Shared) (κ : SortKind) (it : Array Keyed) (n : Nat) (lt : Nat -> Nat -> Bool) : Prop :=
 ∀ i j (C : Bool -> Shared -> Prop), i < n -> j < n -> C (lt i j) s -> kas_cmp prog w A κ it i j C s
theorem w_lt (hc : r9 prog w A s κ it n lt) {i j : Nat} {Q : Option Bool -> SortSt -> Prop} {st : SortSt} (hk : kindOf st = κ) (hi : i < n) (hj : j < n) (h : Q (some (lt i j)) st) : wpS (model prog w) A E s (lt' (kas_item it i) (kas_item it j)) Q st := by
 rw [lt'_eq]
 refine wpS_bind (wpS_get ?_)
 rw [hk]
 refine wpS_bind (wpS_lift (wpAny_attempt (wpAny_mono (hc i j (fun c s' => s' = s /\ c = lt i j) hi hj ⟨rfl, rfl⟩) (fun c s' h' => ?_) fun _ _ hF => hF.elim)))
 obtain ⟨rfl, rfl⟩ := h'
 exact ⟨rfl, wpS_pure h⟩
theorem aK {X : Array Nat} {k : Nat} {Q : Keyed -> SortSt -> Prop} {st : SortSt} (hk : k < X.size) (h : Q (kas_item it (at' X k)) st) : wpS (model prog w) A E s (elem' (X.map (kas_item it)) k) Q st := by
 rw [elem'_eq]
 have e : at' X k = X[k] := by simp [at', hk]
 rw [e] at h
 have e2 : (X.map (kas_item it))[k]? = some (kas_item it X[k]) := by simp [hk]
 rw [e2]
 exact wpS_pure h
theorem cg (o : Ord lt le) (hc : r9 prog w A s κ it n lt) {left : Bool} {key : Nat} {X : Array Nat} {base m hint : Nat} {Q : Option Nat -> SortSt -> Prop} {st : SortSt} (hk : kindOf st = κ) (hb : ∀ i, i < X.size -> at' X i < n) (hkey : key < n)
  (hz : base + m <= X.size) (hh : hint < m) (hs : ∀ i j, i <= j -> j < m -> le (at' X (base + i)) (at' X (base + j)))
  (h : ∀ k, k <= m -> (∀ i, i < k -> le (at' X (base + i)) key) -> (∀ i, k <= i -> i < m -> le key (at' X (base + i))) -> Q (some k) st) :
  wpS (model prog w) A E s (Em left (kas_item it key) (X.map (kas_item it)) base m hint) Q st := by
 have bey : ∀ i, i < m -> ∀ (R : Option Bool -> SortSt -> Prop), (∀ c, (c = true -> le (at' X (base + i)) key) -> (c = false -> le key (at' X (base + i))) -> R (some c) st) -> wpS (model prog w) A E s (do
   let x ← elem' (X.map (kas_item it)) (base + i)
   if left = true then lt' x (kas_item it key) else do
    let r ← lt' (kas_item it key) x
    pure (Option.map (fun x => !x) r)) R st := fun i hi R hR => by
  refine wpS_bind (aK (by lia) ?_)
  have hx := hb (base + i) (by lia)
  cases left with
  | true =>
   rw [if_pos rfl]
   exact w_lt hc hk hx hkey (hR _ (o.yes _ _) (o.no _ _))
  | false =>
   rw [if_neg (by decide)]
   refine wpS_bind (w_lt hc hk hkey hx (wpS_pure ?_))
   refine hR _ (fun e => o.no _ _ (by simpa using e)) (fun e => o.yes _ _ (by simpa using e))
 have lo' : ∀ k, k < m -> le (at' X (base + k)) key -> ∀ i, i <= k -> le (at' X (base + i)) key := fun k hk hl i hi => o.tr _ _ _ (hs i k hi hk) hl
 have hi' : ∀ k, k < m -> le key (at' X (base + k)) -> ∀ i, k <= i -> i < m -> le key (at' X (base + i)) := fun k hk hl i hi him => o.tr _ _ _ hl (hs k i hi him)
 refine wpS_bind (bey hint hh _ fun c c1 c2 => ?_)
 dsimp only
 cases c with
 | true =>
  rw [if_pos rfl]
  refine wpS_bind (wpS_mono (wpS_forRange (I := fun x c st' => st' = st /\ ∃ l f, c = (none, l, f) /\ x + 1 <= f /\ hint + l < m /\ le (at' X (base + (hint + l))) key)
   (Q := fun c st' => st' = st /\ ∃ l f, c = (none, l, f) /\ hint + l < m /\ le (at' X (base + (hint + l))) key /\ (f < m - hint -> le key (at' X (base + (hint + f))))) ?s1 ?f1 ?i1) ?p1)
  case i1 => exact ⟨rfl, 0, 1, rfl, by lia, by lia, c1 rfl⟩
  case f1 =>
   rintro c st' ⟨rfl, l, f, rfl, h1, h2, h3⟩
   exact ⟨rfl, l, f, rfl, h2, h3, fun _ => by lia⟩
  case s1 =>
   rintro x c st' _ hx ⟨rfl, l, f, rfl, h1, h2, h3⟩
   dsimp only
   by_cases hge : f ≥ m - hint
   ·rw [if_pos hge]
    exact wpS_pure ⟨rfl, l, f, rfl, h2, h3, fun _ => by lia⟩
   ·rw [if_neg hge]
    refine wpS_bind (bey (hint + f) (by lia) _ fun c d1 d2 => ?_)
    dsimp only
    cases c with
    | true => exact wpS_pure ⟨rfl, f, 2 * f + 1, rfl, by lia, by lia, d1 rfl⟩
    | false => exact wpS_pure ⟨rfl, l, f, rfl, h2, h3, fun _ => d2 rfl⟩
  case p1 =>
   rintro c st' ⟨rfl, l, f, rfl, h2, h3, h4⟩
   dsimp only
   have g1 : ∀ i, i < hint + l + 1 -> i < m -> le (at' X (base + i)) key := fun i hi _ => lo' _ h2 h3 i (by lia)
   have g2 : ∀ i, hint + min f (m - hint) <= i -> i < m -> le key (at' X (base + i)) := fun i hi him => hi' (hint + f) (by lia) (h4 (by lia)) i (by lia) him
   have g3 : hint + min f (m - hint) <= m := by lia
   generalize hint + l + 1 = L at g1 ⊢
   generalize hint + min f (m - hint) = H at g2 g3 ⊢
   refine wpS_bind (wpS_mono (wpS_forRange (I := fun x c st2 => st2 = st' /\ ∃ l h, c = (none, l, h) /\ h <= m /\ h - l <= m - x /\ (∀ i, i < l -> i < m -> le (at' X (base + i)) key) /\ (∀ i, h <= i -> i < m -> le key (at' X (base + i))))
    (Q := fun c st2 => st2 = st' /\ ∃ l h, c = (none, l, h) /\ h <= m /\ h <= l /\ (∀ i, i < l -> i < m -> le (at' X (base + i)) key) /\ (∀ i, h <= i -> i < m -> le key (at' X (base + i)))) ?s2 ?f2 ?i2) ?p2)
   case i2 => exact ⟨rfl, L, H, rfl, g3, by lia, g1, g2⟩
   case f2 =>
    rintro c st2 ⟨rfl, l, h, rfl, k1, k2, k3, k4⟩
    exact ⟨rfl, l, h, rfl, k1, by lia, k3, k4⟩
   case s2 =>
    rintro x c st2 _ hx ⟨rfl, l, h, rfl, k1, k2, k3, k4⟩
    dsimp only
    by_cases hge : l ≥ h
    ·rw [if_pos hge]
     exact wpS_pure ⟨rfl, l, h, rfl, k1, hge, k3, k4⟩
    ·rw [if_neg hge]
     refine wpS_bind (bey (l + (h - l) / 2) (by lia) _ fun c d1 d2 => ?_)
     dsimp only
     cases c with
     | true => exact wpS_pure ⟨rfl, _, _, rfl, k1, by lia, fun i hi him => lo' _ (by lia) (d1 rfl) i (by lia), k4⟩
     | false => exact wpS_pure ⟨rfl, _, _, rfl, by lia, by lia, k3, fun i hi him => hi' _ (by lia) (d2 rfl) i hi him⟩
   case p2 =>
    rintro c st2 ⟨rfl, l, h', rfl, k1, k2, k3, k4⟩
    exact wpS_pure (h h' k1 (fun i hi => k3 i (by lia) (by lia)) k4)
 | false =>
  rw [if_neg (by decide)]
  refine wpS_bind (wpS_mono (wpS_forRange (I := fun x c st' => st' = st /\ ∃ l f, c = (none, l, f) /\ x + 1 <= f /\ l <= hint /\ le key (at' X (base + (hint - l))))
   (Q := fun c st' => st' = st /\ ∃ l f, c = (none, l, f) /\ l <= hint /\ le key (at' X (base + (hint - l))) /\ (f < hint + 1 -> le (at' X (base + (hint - f))) key)) ?s1 ?f1 ?i1) ?p1)
  case i1 => exact ⟨rfl, 0, 1, rfl, by lia, by lia, c2 rfl⟩
  case f1 =>
   rintro c st' ⟨rfl, l, f, rfl, h1, h2, h3⟩
   exact ⟨rfl, l, f, rfl, h2, h3, fun _ => by lia⟩
  case s1 =>
   rintro x c st' _ hx ⟨rfl, l, f, rfl, h1, h2, h3⟩
   dsimp only
   by_cases hge : f ≥ hint + 1
   ·rw [if_pos hge]
    exact wpS_pure ⟨rfl, l, f, rfl, h2, h3, fun _ => by lia⟩
   ·rw [if_neg hge]
    refine wpS_bind (bey (hint - f) (by lia) _ fun c d1 d2 => ?_)
    dsimp only
    cases c with
    | true => exact wpS_pure ⟨rfl, l, f, rfl, h2, h3, fun _ => d1 rfl⟩
    | false => exact wpS_pure ⟨rfl, f, 2 * f + 1, rfl, by lia, by lia, d2 rfl⟩
  case p1 =>
   rintro c st' ⟨rfl, l, f, rfl, h2, h3, h4⟩
   dsimp only
   have g1 : ∀ i, i < hint + 1 - min f (hint + 1) -> i < m -> le (at' X (base + i)) key := fun i hi _ => lo' (hint - f) (by lia) (h4 (by lia)) i (by lia)
   have g2 : ∀ i, hint - l <= i -> i < m -> le key (at' X (base + i)) := fun i hi him => hi' (hint - l) (by lia) h3 i (by lia) him
   have g3 : hint - l <= m := by lia
   generalize hint + 1 - min f (hint + 1) = L at g1 ⊢
   generalize hint - l = H at g2 g3 ⊢
   refine wpS_bind (wpS_mono (wpS_forRange (I := fun x c st2 => st2 = st' /\ ∃ l h, c = (none, l, h) /\ h <= m /\ h - l <= m - x /\ (∀ i, i < l -> i < m -> le (at' X (base + i)) key) /\ (∀ i, h <= i -> i < m -> le key (at' X (base + i))))
    (Q := fun c st2 => st2 = st' /\ ∃ l h, c = (none, l, h) /\ h <= m /\ h <= l /\ (∀ i, i < l -> i < m -> le (at' X (base + i)) key) /\ (∀ i, h <= i -> i < m -> le key (at' X (base + i)))) ?s2 ?f2 ?i2) ?p2)
   case i2 => exact ⟨rfl, L, H, rfl, g3, by lia, g1, g2⟩
   case f2 =>
    rintro c st2 ⟨rfl, l, h, rfl, k1, k2, k3, k4⟩
    exact ⟨rfl, l, h, rfl, k1, by lia, k3, k4⟩
   case s2 =>
    rintro x c st2 _ hx ⟨rfl, l, h, rfl, k1, k2, k3, k4⟩
    dsimp only
    by_cases hge : l ≥ h
    ·rw [if_pos hge]
     exact wpS_pure ⟨rfl, l, h, rfl, k1, hge, k3, k4⟩
    ·rw [if_neg hge]
     refine wpS_bind (bey (l + (h - l) / 2) (by lia) _ fun c d1 d2 => ?_)
     dsimp only
     cases c with
     | true => exact wpS_pure ⟨rfl, _, _, rfl, k1, by lia, fun i hi him => lo' _ (by lia) (d1 rfl) i (by lia), k4⟩
     | false => exact wpS_pure ⟨rfl, _, _, rfl, by lia, by lia, k3, fun i hi him => hi' _ (by lia) (d2 rfl) i hi him⟩
   case p2 =>
    rintro c st2 ⟨rfl, l, h', rfl, k1, k2, k3, k4⟩
    exact wpS_pure (h h' k1 (fun i hi => k3 i (by lia) (by lia)) k4)
end
end Srt
namespace Srt
section
variable {le : Nat -> Nat -> Prop} {tot out ra rb xs : List Nat}
def Inv (le : Nat -> Nat -> Prop) (tot out ra rb : List Nat) : Prop := (out ++ ra).Pairwise le /\ (out ++ rb).Pairwise le /\ (out ++ (ra ++ rb)).Perm tot
theorem Inv.symm (h : Inv le tot out ra rb) : Inv le tot out rb ra := ⟨h.2.1, h.1, (List.Perm.append_left _ List.perm_append_comm).trans h.2.2⟩
theorem Inv.block (h : Inv le tot out (xs ++ ra) rb) (k : ∀ x ∈ xs, ∀ y ∈ rb, le x y) : Inv le tot (out ++ xs) ra rb := by
 obtain ⟨h1, h2, h3⟩ := h
 refine ⟨by rw [List.append_assoc]; exact h1, ?_, by rw [List.append_assoc, <- List.append_assoc xs]; exact h3⟩
 rw [List.pairwise_append] at h1 h2
 rw [List.append_assoc, List.pairwise_append]
 obtain ⟨a1, a2, a3⟩ := h1
 obtain ⟨b1, b2, b3⟩ := h2
 rw [List.pairwise_append] at a2
 refine ⟨a1, List.pairwise_append.mpr ⟨a2.1, b2, k⟩, fun x hx y hy => ?_⟩
 rcases List.mem_append.mp hy with hy | hy
 ·exact a3 x hx y (List.mem_append_left _ hy)
 ·exact b3 x hx y hy
theorem Inv.doneA (h : Inv le tot out ra []) : (out ++ ra).Pairwise le /\ (out ++ ra).Perm tot := ⟨h.1, by have := h.2.2; rwa [List.append_nil] at this⟩
theorem Inv.lastA {x : Nat} (h : Inv le tot out [x] rb) (k : ∀ y ∈ rb, le y x) : (out ++ (rb ++ [x])).Pairwise le /\ (out ++ (rb ++ [x])).Perm tot := by
 refine ⟨?_, (List.Perm.append_left _ List.perm_append_comm).trans h.2.2⟩
 obtain ⟨h1, h2, _⟩ := h
 rw [List.pairwise_append] at h1 h2
 rw [List.pairwise_append]
 refine ⟨h1.1, List.pairwise_append.mpr ⟨h2.2.1, List.pairwise_singleton _ _, fun y hy z hz => ?_⟩, fun a ha b hb => ?_⟩
 ·rw [List.mem_singleton] at hz; subst hz; exact k y hy
 ·rcases List.mem_append.mp hb with hb | hb
  ·exact h2.2.2 a ha b hb
  ·exact h1.2.2 a ha b hb
end
section
variable {X Y O : Array Nat} {le : Nat -> Nat -> Prop} {tot : List Nat}
theorem Gn {i : Nat} (h : i < X.size) : at' X i = X[i] := by simp [at', h]
theorem jr {i : Nat} (h : i < X.size) : X.toList[i]'(by simpa using h) = at' X i := by rw [Gn h]; simp
theorem uu {i : Nat} (h : i < X.size) : X.toList.drop i = at' X i :: X.toList.drop (i + 1) := by
 rw [List.drop_eq_getElem_cons (by simpa using h), jr h]
theorem mf {i j : Nat} (h : i <= j) : X.toList.drop i = (X.extract i j).toList ++ X.toList.drop j := by
 rw [Array.toList_extract, List.extract_eq_take_drop]
 have e : X.toList.drop j = (X.toList.drop i).drop (j - i) := by rw [List.drop_drop]; congr 1; lia
 rw [e, List.take_append_drop]
theorem pI {i x : Nat} (h : x ∈ X.toList.drop i) : ∃ j, i <= j /\ j < X.size /\ at' X j = x := by
 obtain ⟨k, hk⟩ := List.getElem?_of_mem h
 rw [List.getElem?_drop] at hk
 obtain ⟨h1, h2⟩ := List.getElem?_eq_some_iff.mp hk
 have h1' : i + k < X.size := by simpa using h1
 exact ⟨i + k, by lia, h1', by rw [<- jr h1']; exact h2⟩
theorem o6 {i j x : Nat} (h : x ∈ (X.extract i j).toList) : ∃ k, i <= k /\ k < j /\ k < X.size /\ at' X k = x := by
 obtain ⟨k, hk⟩ := List.getElem?_of_mem h
 rw [Array.toList_extract, List.extract_eq_take_drop, List.getElem?_take] at hk
 split at hk
 ·rw [List.getElem?_drop] at hk
  obtain ⟨h1, h2⟩ := List.getElem?_eq_some_iff.mp hk
  have h1' : i + k < X.size := by simpa using h1
  exact ⟨i + k, by lia, by lia, h1', by rw [<- jr h1']; exact h2⟩
 ·cases hk
abbrev J (le : Nat -> Nat -> Prop) (tot : List Nat) (X Y O : Array Nat) (ia ib : Nat) : Prop := Inv le tot O.toList (X.toList.drop ia) (Y.toList.drop ib)
variable {ia ib : Nat}
theorem J.one (j : J le tot X Y O ia ib) (h : ia < X.size) (k : ∀ i, ib <= i -> i < Y.size -> le (at' X ia) (at' Y i)) : J le tot X Y (O.push (at' X ia)) (ia + 1) ib := by
 unfold J at j ⊢
 rw [uu h] at j
 have := Inv.block (xs := [at' X ia]) j (fun x hx y hy => by
  rw [List.mem_singleton] at hx
  subst hx
  obtain ⟨i, h1, h2, rfl⟩ := pI hy
  exact k i h1 h2)
 rwa [Array.toList_push]
theorem J.blk {m : Nat} (j : J le tot X Y O ia ib) (k : ∀ i l, ia <= i -> i < ia + m -> i < X.size -> ib <= l -> l < Y.size -> le (at' X i) (at' Y l)) : J le tot X Y (O ++ X.extract ia (ia + m)) (ia + m) ib := by
 unfold J at j ⊢
 rw [mf (j := ia + m) (by lia)] at j
 have := Inv.block j (fun x hx y hy => by
  obtain ⟨i, h1, h2, h3, rfl⟩ := o6 hx
  obtain ⟨l, h4, h5, rfl⟩ := pI hy
  exact k i l h1 h2 h3 h4 h5)
 rwa [Array.toList_append]
theorem J.sy (j : J le tot X Y O ia ib) : J le tot Y X O ib ia := Inv.symm j
abbrev jF (le : Nat -> Nat -> Prop) (tot : List Nat) (R : Array Nat) : Prop := R.toList.Pairwise le /\ R.toList.Perm tot
theorem J.done1 (j : J le tot X Y O ia ib) (h : Y.size <= ib) (h2 : ia <= X.size) : jF le tot (O ++ X.extract ia X.size ++ Y.extract ib Y.size) := by
 unfold J at j
 rw [List.drop_of_length_le (l := Y.toList) (by simpa using h)] at j
 have e : (Y.extract ib Y.size) = #[] := by simp; lia
 have e2 : X.toList.drop ia = (X.extract ia X.size).toList := by rw [mf h2]; simp
 rw [e, Array.append_empty]
 unfold jF
 rw [Array.toList_append, <- e2]
 exact j.doneA
theorem J.done2 (j : J le tot X Y O ia ib) (h : X.size <= ia) (h2 : ib <= Y.size) : jF le tot (O ++ X.extract ia X.size ++ Y.extract ib Y.size) := by
 have e : (X.extract ia X.size) = #[] := by simp; lia
 have := j.sy.done1 h h2
 rw [e, Array.append_empty] at this ⊢
 exact this
theorem J.last (j : J le tot X Y O ia ib) (h : ia + 1 = X.size) (h2 : ib <= Y.size) (k : ∀ i, i < Y.size -> le (at' Y i) (at' X ia)) : jF le tot (O ++ Y.extract ib Y.size ++ X.extract ia X.size) := by
 unfold J at j
 rw [uu (by lia), List.drop_of_length_le (l := X.toList) (i := ia + 1) (by simp; lia)] at j
 have := j.lastA fun y hy => by
  obtain ⟨i, h1, h2, rfl⟩ := pI hy
  exact k i h2
 have e : (X.extract ia X.size).toList = [at' X ia] := by
  have e2 : X.toList.drop ia = (X.extract ia X.size).toList := by rw [mf (j := X.size) (by lia)]; simp
  rw [<- e2, uu (by lia), List.drop_of_length_le (l := X.toList) (i := ia + 1) (by simp; lia)]
 have e3 : Y.toList.drop ib = (Y.extract ib Y.size).toList := by rw [mf h2]; simp
 unfold jF
 rw [Array.toList_append, Array.toList_append, e, <- e3, List.append_assoc]
 exact this
end
end Srt
namespace Srt
open PySem PySem.W PyProof.Rows
section
variable {prog : Program} {w : World} {A : Around} {E : Value -> Shared -> Prop} {s : Shared} {κ : SortKind} {it : Array Keyed} {n : Nat} {lt : Nat -> Nat -> Bool} {le : Nat -> Nat -> Prop}
def Same (κ : SortKind) (st st' : SortSt) : Prop := kindOf st' = κ /\ arrOf st' = arrOf st /\ pendingOf st' = pendingOf st /\ failedOf st' = failedOf st
theorem Same.g {st st2 : SortSt} (h : Same κ st st2) (g : Nat) : Same κ st (SortSt.mk' (kindOf st2) (arrOf st2) (pendingOf st2) g (failedOf st2)) := h
theorem bH {σ α : Type} {M : Model} {c : Prop} [Decidable c] {a b : StateT σ Sem α} {Q : α -> σ -> Prop} {st : σ} (h1 : wpS M A E s a Q st) (h2 : wpS M A E s b Q st) : wpS M A E s (if c then a else b) Q st := by
 by_cases h : c
 ·rw [if_pos h]; exact h1
 ·rw [if_neg h]; exact h2
theorem exm (f : Nat -> Keyed) (Z : Array Nat) : (Z.map f).extract 0 Z.size = Z.map f := by
 have : Z.size = (Z.map f).size := by simp
 rw [this]; simp
theorem zK {X : Array Nat} (h : ∀ i j, i <= j -> j < X.size -> le (at' X i) (at' X j)) : X.toList.Pairwise le := by
 rw [List.pairwise_iff_getElem]
 intro i j hi hj hij
 have h2 : j < X.size := by simpa using hj
 rw [jr (by lia), jr h2]
 exact h i j (by lia) h2
theorem Bi (o : Ord lt le) (hc : r9 prog w A s κ it n lt) {X Y : Array Nat} {Q : Array Keyed -> SortSt -> Prop} {st : SortSt} (hk : kindOf st = κ) (hx : ∀ i, i < X.size -> at' X i < n) (hy : ∀ i, i < Y.size -> at' Y i < n)
  (x1 : 1 <= X.size) (y1 : 1 <= Y.size) (sx : ∀ i j, i <= j -> j < X.size -> le (at' X i) (at' X j)) (sy : ∀ i j, i <= j -> j < Y.size -> le (at' Y i) (at' Y j)) (hf : ∀ i, i < X.size -> le (at' Y 0) (at' X i)) (hl : ∀ i, i < Y.size -> le (at' Y i) (at' X (X.size - 1)))
  (h : ∀ R st', Same κ st st' -> jF le (X.toList ++ Y.toList) R -> Q (R.map (kas_item it)) st') :
  wpS (model prog w) A E s (Df (X.map (kas_item it)) (Y.map (kas_item it))) Q st := by
 have sm0 : Same κ st st := ⟨hk, rfl, rfl, rfl⟩
 have j0 : J le (X.toList ++ Y.toList) X Y #[] 0 0 := ⟨by simpa using zK sx, by simpa using zK sy, by simp⟩
 have j1 : J le (X.toList ++ Y.toList) X Y #[at' Y 0] 0 1 := (j0.sy.one (by lia) fun i _ h2 => hf i h2).sy
 refine wpS_bind (wpS_lift (wpAny_rule ⟨rfl, ?_⟩))
 refine wpS_bind (aK (by lia) ?_)
 dsimp only
 simp only [Array.size_map, beq_iff_eq]
 by_cases e1 : 1 = Y.size
 ·rw [if_pos e1]
  refine wpS_pure ?_
  have := h _ st sm0 (j1.done1 (by lia) (by lia))
  simpa [exm] using this
 rw [if_neg e1]
 by_cases e2 : 0 + 1 = X.size
 ·rw [if_pos e2]
  refine wpS_pure ?_
  have := h _ st sm0 (j1.last (by lia) (by lia) fun i hi => by have := hl i hi; rwa [show X.size - 1 = 0 by lia] at this)
  simpa [exm] using this
 rw [if_neg e2]
 refine wpS_bind (wpS_get ?_)
 refine wpS_bind (wpS_mono (wpS_forRange (I := fun x c st2 => Same κ st st2 /\ ∃ O ia ib g, c = (none, O.map (kas_item it), ia, ib, g) /\ ia + 1 < X.size /\ ib < Y.size /\ x + 1 <= ia + ib /\ J le (X.toList ++ Y.toList) X Y O ia ib)
  (Q := fun c st2 => ∃ R, c.1 = some (R.map (kas_item it)) /\ jF le (X.toList ++ Y.toList) R /\ Same κ st st2) ?s1 ?f1 ?i1) ?p1)
 case i1 => exact ⟨sm0, #[at' Y 0], 0, 1, _, by simp; rfl, by lia, by lia, by lia, j1⟩
 case f1 =>
  rintro c st2 ⟨sm, O, ia, ib, g, rfl, la, lb, ls, j⟩
  lia
 case p1 =>
  rintro ⟨c, c'⟩ st2 ⟨R, hc1, hR, sm⟩
  dsimp only at hc1
  subst hc1
  exact wpS_pure (h R st2 sm hR)
 case s1 =>
  rintro x c st2 _ hx0 ⟨sm, O, ia, ib, g, rfl, la, lb, ls, j⟩
  dsimp only
  -- one by one
  refine wpS_bind (wpS_mono (wpS_forRange (I := fun y c st2 => Same κ st st2 /\ ∃ O ia ib a b, c = (none, O.map (kas_item it), ia, ib, a, b) /\ ia + 1 < X.size /\ ib < Y.size /\ x + 1 + y <= ia + ib /\ J le (X.toList ++ Y.toList) X Y O ia ib)
   (Q := fun c st2 => (∃ R, c.1 = some (R.map (kas_item it)) /\ jF le (X.toList ++ Y.toList) R /\ Same κ st st2) \/ (Same κ st st2 /\ ∃ O ia ib a b, c = (none, O.map (kas_item it), ia, ib, a, b) /\ ia + 1 < X.size /\ ib < Y.size /\ x + 1 + 1 <= ia + ib /\ J le (X.toList ++ Y.toList) X Y O ia ib)) ?s2 ?f2 ?i2) ?p2)
  case i2 => exact ⟨sm, O, ia, ib, 0, 0, rfl, la, lb, ls, j⟩
  case f2 =>
   rintro c st2 ⟨sm, O, ia, ib, a, b, rfl, la, lb, ls, j⟩
   lia
  case s2 =>
   clear la lb ls j sm
   rintro y c st2 _ hy0 ⟨sm, O, ia, ib, a, b, rfl, la, lb, ls, j⟩
   dsimp only
   refine wpS_bind (aK lb ?_)
   refine wpS_bind (aK (by lia) ?_)
   refine wpS_bind (w_lt hc sm.1 (hy ib lb) (hx ia (by lia)) ?_)
   dsimp only
   cases cw : lt (at' Y ib) (at' X ia) with
   | true =>
    rw [if_pos rfl]
    have l0 := o.yes _ _ cw
    have j2 : J le (X.toList ++ Y.toList) X Y (O.push (at' Y ib)) ia (ib + 1) := (j.sy.one lb fun i h1 h2 => o.tr _ _ _ l0 (sx _ _ h1 h2)).sy
    refine wpS_bind (aK lb ?_)
    by_cases e3 : ib + 1 = Y.size
    ·rw [if_pos e3]
     refine wpS_pure (.inl ⟨(O.push (at' Y ib)) ++ X.extract ia X.size ++ Y.extract (ib + 1) Y.size, ?_, j2.done1 (by lia) (by lia), sm⟩)
     simp
    ·rw [if_neg e3]
     refine bH ?_ ?_
     ·exact wpS_pure (.inr ⟨sm, O.push (at' Y ib), ia, ib + 1, _, _, by rw [Array.map_push], by lia, by lia, by lia, j2⟩)
     ·exact wpS_pure ⟨sm, O.push (at' Y ib), ia, ib + 1, _, _, by rw [Array.map_push], by lia, by lia, by lia, j2⟩
   | false =>
    rw [if_neg (by decide)]
    have l0 := o.no _ _ cw
    have j2 := j.one (by lia) fun i h1 h2 => o.tr _ _ _ l0 (sy _ _ h1 h2)
    refine wpS_bind (aK (by lia) ?_)
    by_cases e3 : ia + 1 + 1 = X.size
    ·rw [if_pos e3]
     refine wpS_pure (.inl ⟨(O.push (at' X ia)) ++ Y.extract ib Y.size ++ X.extract (ia + 1) X.size, ?_, j2.last (by lia) (by lia) (fun i hi => by have := hl i hi; rwa [show X.size - 1 = ia + 1 by lia] at this), sm⟩)
     simp
    ·rw [if_neg e3]
     refine bH ?_ ?_
     ·exact wpS_pure (.inr ⟨sm, O.push (at' X ia), ia + 1, ib, _, _, by rw [Array.map_push], by lia, by lia, by lia, j2⟩)
     ·exact wpS_pure ⟨sm, O.push (at' X ia), ia + 1, ib, _, _, by rw [Array.map_push], by lia, by lia, by lia, j2⟩
  case p2 =>
   clear la lb ls j sm
   rintro ⟨c, c'⟩ st2 (⟨R, hc1, hR, sm⟩ | ⟨sm, O, ia, ib, a, b, hcc, la, lb, ls, j⟩)
   ·dsimp only at hc1
    subst hc1
    exact wpS_pure ⟨R, rfl, hR, sm⟩
   cases hcc
   dsimp only
   refine wpS_bind (wpS_lift (wpAny_rule ⟨rfl, ?_⟩))
   have hst : ∃ aG, aG = x + 1 + 1 := ⟨_, rfl⟩
   obtain ⟨aG, hst⟩ := hst
   rw [<- hst] at ls
   refine wpS_bind (wpS_mono (wpS_forRange (I := fun y c st2 => Same κ st st2 /\ ∃ O ia ib m a b, c = (none, O.map (kas_item it), ia, ib, m, a, b) /\ ia + 1 < X.size /\ ib < Y.size /\ aG <= ia + ib /\ J le (X.toList ++ Y.toList) X Y O ia ib)
    (Q := fun c st2 => (∃ R, c.1 = some (R.map (kas_item it)) /\ jF le (X.toList ++ Y.toList) R /\ Same κ st st2) \/ (Same κ st st2 /\ ∃ O ia ib m a b, c = (none, O.map (kas_item it), ia, ib, m, a, b) /\ ia + 1 < X.size /\ ib < Y.size /\ aG <= ia + ib /\ J le (X.toList ++ Y.toList) X Y O ia ib)) ?s3 ?f3 ?i3) ?p3)
   case i3 => exact ⟨sm, O, ia, ib, _, _, _, rfl, la, lb, ls, j⟩
   case f3 => exact fun c st2 h => .inr h
   case p3 =>
    clear la lb ls j sm
    rintro ⟨c, c'⟩ st2 (⟨R, hc1, hR, sm⟩ | ⟨sm, O, ia, ib, m, a, b, hcc, la, lb, ls, j⟩)
    ·dsimp only at hc1
     subst hc1
     exact wpS_pure ⟨R, rfl, hR, sm⟩
    cases hcc
    dsimp only
    refine wpS_bind (wpS_modify (wpS_pure ?_))
    exact ⟨sm.g _, O, ia, ib, _, rfl, la, lb, by lia, j⟩
   case s3 =>
    clear la lb ls j sm
    rintro y c st2 _ hy0 ⟨sm, O, ia, ib, m, a, b, rfl, la, lb, ls, j⟩
    dsimp only
    by_cases hm : m > 1
    ·rw [if_pos hm]
     refine wpS_bind (wpS_modify ?_)
     replace sm := sm.g (m - 1)
     refine wpS_bind (aK lb ?_)
     refine wpS_bind (cg o hc sm.1 hx (hy ib lb) (by lia) (by lia) (fun i k h1 h2 => sx _ _ (by lia) (by lia)) fun k k1 k2 k3 => ?_)
     dsimp only
     have k2' : ∀ i, ia <= i -> i < ia + k -> le (at' X i) (at' Y ib) := fun i h1 h2 => by
      have := k2 (i - ia) (by lia)
      rwa [show ia + (i - ia) = i by lia] at this
     have ky : ∀ i, ia + k <= i -> i < X.size -> le (at' Y ib) (at' X i) := fun i h1 h2 => by
      have := k3 (i - ia) (by lia) (by lia)
      rwa [show ia + (i - ia) = i by lia] at this
     by_cases k0 : k > 0
     ·rw [if_pos k0]
      replace j := j.blk (m := k) fun i l h1 h2 h3 h4 h5 => o.tr _ _ _ (k2' i h1 h2) (sy _ _ h4 h5)
      have eO : O.map (kas_item it) ++ (X.map (kas_item it)).extract ia (ia + k) = (O ++ X.extract ia (ia + k)).map (kas_item it) := by simp
      rw [eO]
      by_cases e1 : ia + k + 1 = X.size
      ·rw [if_pos e1]
       refine wpS_pure (.inl ⟨O ++ X.extract ia (ia + k) ++ Y.extract ib Y.size ++ X.extract (ia + k) X.size, ?_, j.last (by lia) (by lia) (fun i hi => by have := hl i hi; rwa [show X.size - 1 = ia + k by lia] at this), sm⟩)
       simp
      rw [if_neg e1]
      by_cases e2 : ia + k = X.size
      ·rw [if_pos e2]
       refine wpS_pure (.inl ⟨O ++ X.extract ia (ia + k) ++ X.extract (ia + k) X.size ++ Y.extract ib Y.size, ?_, j.done2 (by lia) (by lia), sm⟩)
       simp
      rw [if_neg e2]
      have la2 : ia + k + 1 < X.size := by lia
      have ls2 : aG <= ia + k + ib := by lia
      clear k2' k2 k3 eO e1 e2
      generalize O ++ X.extract ia (ia + k) = O at j ⊢
      generalize hia : ia + k = ia at j la2 ls2 ky ⊢
      clear la ls k1 hia
      rename_i ia0 _
      clear k0
      have la := la2
      have ls := ls2
      -- y0
      refine wpS_bind (aK lb ?_)
      have j2 : J le (X.toList ++ Y.toList) X Y (O.push (at' Y ib)) ia (ib + 1) := (j.sy.one lb fun i h1 h2 => ky i h1 h2).sy
      by_cases e3 : ib + 1 = Y.size
      ·rw [if_pos e3]
       refine wpS_pure (.inl ⟨(O.push (at' Y ib)) ++ X.extract ia X.size ++ Y.extract (ib + 1) Y.size, ?_, j2.done1 (by lia) (by lia), sm⟩)
       simp
      ·rw [if_neg e3]
       refine wpS_bind (aK (by lia) ?_)
       refine wpS_bind (cg o hc sm.1 hy (hx ia (by lia)) (by lia) (by lia) (fun i k h1 h2 => sy _ _ (by lia) (by lia)) fun k k1 k2 k3 => ?_)
       dsimp only
       have k2' : ∀ i, ib + 1 <= i -> i < ib + 1 + k -> le (at' Y i) (at' X ia) := fun i h1 h2 => by
        have := k2 (i - (ib + 1)) (by lia)
        rwa [show ib + 1 + (i - (ib + 1)) = i by lia] at this
       have k3' : ∀ i, ib + 1 + k <= i -> i < Y.size -> le (at' X ia) (at' Y i) := fun i h1 h2 => by
        have := k3 (i - (ib + 1)) (by lia) (by lia)
        rwa [show ib + 1 + (i - (ib + 1)) = i by lia] at this
       have j3 : J le (X.toList ++ Y.toList) X Y (O.push (at' Y ib) ++ Y.extract (ib + 1) (ib + 1 + k)) ia (ib + 1 + k) := (j2.sy.blk fun i l h1 h2 h3 h4 h5 => o.tr _ _ _ (k2' i h1 h2) (sx _ _ h4 h5)).sy
       by_cases k0 : k > 0
       ·rw [if_pos k0]
        by_cases e4 : ib + 1 + k = Y.size
        ·rw [if_pos e4]
         refine wpS_pure (.inl ⟨(O.push (at' Y ib)) ++ Y.extract (ib + 1) (ib + 1 + k) ++ X.extract ia X.size ++ Y.extract (ib + 1 + k) Y.size, ?_, j3.done1 (by lia) (by lia), sm⟩)
         simp
        ·rw [if_neg e4]
         refine wpS_bind (aK (by lia) ?_)
         have j4 := j3.one (by lia) fun i h1 h2 => k3' i h1 h2
         by_cases e5 : ia + 1 + 1 = X.size
         ·rw [if_pos e5]
          refine wpS_pure (.inl ⟨(O.push (at' Y ib) ++ Y.extract (ib + 1) (ib + 1 + k)).push (at' X ia) ++ Y.extract (ib + 1 + k) Y.size ++ X.extract (ia + 1) X.size, ?_, j4.last (by lia) (by lia) (fun i hi => by have := hl i hi; rwa [show X.size - 1 = ia + 1 by lia] at this), sm⟩)
          simp
         ·rw [if_neg e5]
          have fin : ∀ m c d, ∃ O' ia' ib' m' c' d', ((none, ((O.map (kas_item it)).push (kas_item it (at' Y ib)) ++ (Y.map (kas_item it)).extract (ib + 1) (ib + 1 + k)).push (kas_item it (at' X ia)), ia + 1, ib + 1 + k, m, c, d) : Option (Array Keyed) × Array Keyed × Nat × Nat × Nat × Nat × Nat) = (none, O'.map (kas_item it), ia', ib', m', c', d') /\ ia' + 1 < X.size /\ ib' < Y.size /\ aG <= ia' + ib' /\ J le (X.toList ++ Y.toList) X Y O' ia' ib' := fun m c d => ⟨_, _, _, m, c, d, by rw [show (((O.map (kas_item it)).push (kas_item it (at' Y ib)) ++ (Y.map (kas_item it)).extract (ib + 1) (ib + 1 + k)).push (kas_item it (at' X ia))) = ((O.push (at' Y ib) ++ Y.extract (ib + 1) (ib + 1 + k)).push (at' X ia)).map (kas_item it) by simp], by lia, by lia, by lia, j4⟩
          refine bH ?_ ?_
          ·exact wpS_pure (.inr ⟨sm, fin _ _ _⟩)
          ·exact wpS_pure ⟨sm, fin _ _ _⟩
       ·rw [if_neg k0]
        have k00 : k = 0 := by lia
        subst k00
        have j3' : J le (X.toList ++ Y.toList) X Y (O.push (at' Y ib)) ia (ib + 1) := j2
        refine wpS_bind (aK (by lia) ?_)
        have j4 := j3'.one (by lia) fun i h1 h2 => k3' i (by lia) h2
        by_cases e5 : ia + 1 + 1 = X.size
        ·rw [if_pos e5]
         refine wpS_pure (.inl ⟨(O.push (at' Y ib)).push (at' X ia) ++ Y.extract (ib + 1) Y.size ++ X.extract (ia + 1) X.size, ?_, j4.last (by lia) (by lia) (fun i hi => by have := hl i hi; rwa [show X.size - 1 = ia + 1 by lia] at this), sm⟩)
         simp
        ·rw [if_neg e5]
         have fin : ∀ m c d, ∃ O' ia' ib' m' c' d', ((none, ((O.map (kas_item it)).push (kas_item it (at' Y ib))).push (kas_item it (at' X ia)), ia + 1, ib + 1, m, c, d) : Option (Array Keyed) × Array Keyed × Nat × Nat × Nat × Nat × Nat) = (none, O'.map (kas_item it), ia', ib', m', c', d') /\ ia' + 1 < X.size /\ ib' < Y.size /\ aG <= ia' + ib' /\ J le (X.toList ++ Y.toList) X Y O' ia' ib' := fun m c d => ⟨_, _, _, m, c, d, by rw [show ((O.map (kas_item it)).push (kas_item it (at' Y ib))).push (kas_item it (at' X ia)) = ((O.push (at' Y ib)).push (at' X ia)).map (kas_item it) by simp], by lia, by lia, by lia, j4⟩
         refine bH ?_ ?_
         ·exact wpS_pure (.inr ⟨sm, fin _ _ _⟩)
         ·exact wpS_pure ⟨sm, fin _ _ _⟩
     ·rw [if_neg k0]
      have k00 : k = 0 := by lia
      subst k00
      replace ky : ∀ i, ia <= i -> i < X.size -> le (at' Y ib) (at' X i) := ky
      -- y0
      refine wpS_bind (aK lb ?_)
      have j2 : J le (X.toList ++ Y.toList) X Y (O.push (at' Y ib)) ia (ib + 1) := (j.sy.one lb fun i h1 h2 => ky i h1 h2).sy
      by_cases e3 : ib + 1 = Y.size
      ·rw [if_pos e3]
       refine wpS_pure (.inl ⟨(O.push (at' Y ib)) ++ X.extract ia X.size ++ Y.extract (ib + 1) Y.size, ?_, j2.done1 (by lia) (by lia), sm⟩)
       simp
      ·rw [if_neg e3]
       refine wpS_bind (aK (by lia) ?_)
       refine wpS_bind (cg o hc sm.1 hy (hx ia (by lia)) (by lia) (by lia) (fun i k h1 h2 => sy _ _ (by lia) (by lia)) fun k k1 k2 k3 => ?_)
       dsimp only
       have k2' : ∀ i, ib + 1 <= i -> i < ib + 1 + k -> le (at' Y i) (at' X ia) := fun i h1 h2 => by
        have := k2 (i - (ib + 1)) (by lia)
        rwa [show ib + 1 + (i - (ib + 1)) = i by lia] at this
       have k3' : ∀ i, ib + 1 + k <= i -> i < Y.size -> le (at' X ia) (at' Y i) := fun i h1 h2 => by
        have := k3 (i - (ib + 1)) (by lia) (by lia)
        rwa [show ib + 1 + (i - (ib + 1)) = i by lia] at this
       have j3 : J le (X.toList ++ Y.toList) X Y (O.push (at' Y ib) ++ Y.extract (ib + 1) (ib + 1 + k)) ia (ib + 1 + k) := (j2.sy.blk fun i l h1 h2 h3 h4 h5 => o.tr _ _ _ (k2' i h1 h2) (sx _ _ h4 h5)).sy
       by_cases k0 : k > 0
       ·rw [if_pos k0]
        by_cases e4 : ib + 1 + k = Y.size
        ·rw [if_pos e4]
         refine wpS_pure (.inl ⟨(O.push (at' Y ib)) ++ Y.extract (ib + 1) (ib + 1 + k) ++ X.extract ia X.size ++ Y.extract (ib + 1 + k) Y.size, ?_, j3.done1 (by lia) (by lia), sm⟩)
         simp
        ·rw [if_neg e4]
         refine wpS_bind (aK (by lia) ?_)
         have j4 := j3.one (by lia) fun i h1 h2 => k3' i h1 h2
         by_cases e5 : ia + 1 + 1 = X.size
         ·rw [if_pos e5]
          refine wpS_pure (.inl ⟨(O.push (at' Y ib) ++ Y.extract (ib + 1) (ib + 1 + k)).push (at' X ia) ++ Y.extract (ib + 1 + k) Y.size ++ X.extract (ia + 1) X.size, ?_, j4.last (by lia) (by lia) (fun i hi => by have := hl i hi; rwa [show X.size - 1 = ia + 1 by lia] at this), sm⟩)
          simp
         ·rw [if_neg e5]
          have fin : ∀ m c d, ∃ O' ia' ib' m' c' d', ((none, ((O.map (kas_item it)).push (kas_item it (at' Y ib)) ++ (Y.map (kas_item it)).extract (ib + 1) (ib + 1 + k)).push (kas_item it (at' X ia)), ia + 1, ib + 1 + k, m, c, d) : Option (Array Keyed) × Array Keyed × Nat × Nat × Nat × Nat × Nat) = (none, O'.map (kas_item it), ia', ib', m', c', d') /\ ia' + 1 < X.size /\ ib' < Y.size /\ aG <= ia' + ib' /\ J le (X.toList ++ Y.toList) X Y O' ia' ib' := fun m c d => ⟨_, _, _, m, c, d, by rw [show (((O.map (kas_item it)).push (kas_item it (at' Y ib)) ++ (Y.map (kas_item it)).extract (ib + 1) (ib + 1 + k)).push (kas_item it (at' X ia))) = ((O.push (at' Y ib) ++ Y.extract (ib + 1) (ib + 1 + k)).push (at' X ia)).map (kas_item it) by simp], by lia, by lia, by lia, j4⟩
          refine bH ?_ ?_
          ·exact wpS_pure (.inr ⟨sm, fin _ _ _⟩)
          ·exact wpS_pure ⟨sm, fin _ _ _⟩
       ·rw [if_neg k0]
        have k00 : k = 0 := by lia
        subst k00
        have j3' : J le (X.toList ++ Y.toList) X Y (O.push (at' Y ib)) ia (ib + 1) := j2
        refine wpS_bind (aK (by lia) ?_)
        have j4 := j3'.one (by lia) fun i h1 h2 => k3' i (by lia) h2
        by_cases e5 : ia + 1 + 1 = X.size
        ·rw [if_pos e5]
         refine wpS_pure (.inl ⟨(O.push (at' Y ib)).push (at' X ia) ++ Y.extract (ib + 1) Y.size ++ X.extract (ia + 1) X.size, ?_, j4.last (by lia) (by lia) (fun i hi => by have := hl i hi; rwa [show X.size - 1 = ia + 1 by lia] at this), sm⟩)
         simp
        ·rw [if_neg e5]
         have fin : ∀ m c d, ∃ O' ia' ib' m' c' d', ((none, ((O.map (kas_item it)).push (kas_item it (at' Y ib))).push (kas_item it (at' X ia)), ia + 1, ib + 1, m, c, d) : Option (Array Keyed) × Array Keyed × Nat × Nat × Nat × Nat × Nat) = (none, O'.map (kas_item it), ia', ib', m', c', d') /\ ia' + 1 < X.size /\ ib' < Y.size /\ aG <= ia' + ib' /\ J le (X.toList ++ Y.toList) X Y O' ia' ib' := fun m c d => ⟨_, _, _, m, c, d, by rw [show ((O.map (kas_item it)).push (kas_item it (at' Y ib))).push (kas_item it (at' X ia)) = ((O.push (at' Y ib)).push (at' X ia)).map (kas_item it) by simp], by lia, by lia, by lia, j4⟩
         refine bH ?_ ?_
         ·exact wpS_pure (.inr ⟨sm, fin _ _ _⟩)
         ·exact wpS_pure ⟨sm, fin _ _ _⟩
    ·rw [if_neg hm]
     refine wpS_bind (wpS_modify ?_)
     replace sm := sm.g (m)
     refine wpS_bind (aK lb ?_)
     refine wpS_bind (cg o hc sm.1 hx (hy ib lb) (by lia) (by lia) (fun i k h1 h2 => sx _ _ (by lia) (by lia)) fun k k1 k2 k3 => ?_)
     dsimp only
     have k2' : ∀ i, ia <= i -> i < ia + k -> le (at' X i) (at' Y ib) := fun i h1 h2 => by
      have := k2 (i - ia) (by lia)
      rwa [show ia + (i - ia) = i by lia] at this
     have ky : ∀ i, ia + k <= i -> i < X.size -> le (at' Y ib) (at' X i) := fun i h1 h2 => by
      have := k3 (i - ia) (by lia) (by lia)
      rwa [show ia + (i - ia) = i by lia] at this
     by_cases k0 : k > 0
     ·rw [if_pos k0]
      replace j := j.blk (m := k) fun i l h1 h2 h3 h4 h5 => o.tr _ _ _ (k2' i h1 h2) (sy _ _ h4 h5)
      have eO : O.map (kas_item it) ++ (X.map (kas_item it)).extract ia (ia + k) = (O ++ X.extract ia (ia + k)).map (kas_item it) := by simp
      rw [eO]
      by_cases e1 : ia + k + 1 = X.size
      ·rw [if_pos e1]
       refine wpS_pure (.inl ⟨O ++ X.extract ia (ia + k) ++ Y.extract ib Y.size ++ X.extract (ia + k) X.size, ?_, j.last (by lia) (by lia) (fun i hi => by have := hl i hi; rwa [show X.size - 1 = ia + k by lia] at this), sm⟩)
       simp
      rw [if_neg e1]
      by_cases e2 : ia + k = X.size
      ·rw [if_pos e2]
       refine wpS_pure (.inl ⟨O ++ X.extract ia (ia + k) ++ X.extract (ia + k) X.size ++ Y.extract ib Y.size, ?_, j.done2 (by lia) (by lia), sm⟩)
       simp
      rw [if_neg e2]
      have la2 : ia + k + 1 < X.size := by lia
      have ls2 : aG <= ia + k + ib := by lia
      clear k2' k2 k3 eO e1 e2
      generalize O ++ X.extract ia (ia + k) = O at j ⊢
      generalize hia : ia + k = ia at j la2 ls2 ky ⊢
      clear la ls k1 hia
      rename_i ia0 _
      clear k0
      have la := la2
      have ls := ls2
      -- y0
      refine wpS_bind (aK lb ?_)
      have j2 : J le (X.toList ++ Y.toList) X Y (O.push (at' Y ib)) ia (ib + 1) := (j.sy.one lb fun i h1 h2 => ky i h1 h2).sy
      by_cases e3 : ib + 1 = Y.size
      ·rw [if_pos e3]
       refine wpS_pure (.inl ⟨(O.push (at' Y ib)) ++ X.extract ia X.size ++ Y.extract (ib + 1) Y.size, ?_, j2.done1 (by lia) (by lia), sm⟩)
       simp
      ·rw [if_neg e3]
       refine wpS_bind (aK (by lia) ?_)
       refine wpS_bind (cg o hc sm.1 hy (hx ia (by lia)) (by lia) (by lia) (fun i k h1 h2 => sy _ _ (by lia) (by lia)) fun k k1 k2 k3 => ?_)
       dsimp only
       have k2' : ∀ i, ib + 1 <= i -> i < ib + 1 + k -> le (at' Y i) (at' X ia) := fun i h1 h2 => by
        have := k2 (i - (ib + 1)) (by lia)
        rwa [show ib + 1 + (i - (ib + 1)) = i by lia] at this
       have k3' : ∀ i, ib + 1 + k <= i -> i < Y.size -> le (at' X ia) (at' Y i) := fun i h1 h2 => by
        have := k3 (i - (ib + 1)) (by lia) (by lia)
        rwa [show ib + 1 + (i - (ib + 1)) = i by lia] at this
       have j3 : J le (X.toList ++ Y.toList) X Y (O.push (at' Y ib) ++ Y.extract (ib + 1) (ib + 1 + k)) ia (ib + 1 + k) := (j2.sy.blk fun i l h1 h2 h3 h4 h5 => o.tr _ _ _ (k2' i h1 h2) (sx _ _ h4 h5)).sy
       by_cases k0 : k > 0
       ·rw [if_pos k0]
        by_cases e4 : ib + 1 + k = Y.size
        ·rw [if_pos e4]
         refine wpS_pure (.inl ⟨(O.push (at' Y ib)) ++ Y.extract (ib + 1) (ib + 1 + k) ++ X.extract ia X.size ++ Y.extract (ib + 1 + k) Y.size, ?_, j3.done1 (by lia) (by lia), sm⟩)
         simp
        ·rw [if_neg e4]
         refine wpS_bind (aK (by lia) ?_)
         have j4 := j3.one (by lia) fun i h1 h2 => k3' i h1 h2
         by_cases e5 : ia + 1 + 1 = X.size
         ·rw [if_pos e5]
          refine wpS_pure (.inl ⟨(O.push (at' Y ib) ++ Y.extract (ib + 1) (ib + 1 + k)).push (at' X ia) ++ Y.extract (ib + 1 + k) Y.size ++ X.extract (ia + 1) X.size, ?_, j4.last (by lia) (by lia) (fun i hi => by have := hl i hi; rwa [show X.size - 1 = ia + 1 by lia] at this), sm⟩)
          simp
         ·rw [if_neg e5]
          have fin : ∀ m c d, ∃ O' ia' ib' m' c' d', ((none, ((O.map (kas_item it)).push (kas_item it (at' Y ib)) ++ (Y.map (kas_item it)).extract (ib + 1) (ib + 1 + k)).push (kas_item it (at' X ia)), ia + 1, ib + 1 + k, m, c, d) : Option (Array Keyed) × Array Keyed × Nat × Nat × Nat × Nat × Nat) = (none, O'.map (kas_item it), ia', ib', m', c', d') /\ ia' + 1 < X.size /\ ib' < Y.size /\ aG <= ia' + ib' /\ J le (X.toList ++ Y.toList) X Y O' ia' ib' := fun m c d => ⟨_, _, _, m, c, d, by rw [show (((O.map (kas_item it)).push (kas_item it (at' Y ib)) ++ (Y.map (kas_item it)).extract (ib + 1) (ib + 1 + k)).push (kas_item it (at' X ia))) = ((O.push (at' Y ib) ++ Y.extract (ib + 1) (ib + 1 + k)).push (at' X ia)).map (kas_item it) by simp], by lia, by lia, by lia, j4⟩
          refine bH ?_ ?_
          ·exact wpS_pure (.inr ⟨sm, fin _ _ _⟩)
          ·exact wpS_pure ⟨sm, fin _ _ _⟩
       ·rw [if_neg k0]
        have k00 : k = 0 := by lia
        subst k00
        have j3' : J le (X.toList ++ Y.toList) X Y (O.push (at' Y ib)) ia (ib + 1) := j2
        refine wpS_bind (aK (by lia) ?_)
        have j4 := j3'.one (by lia) fun i h1 h2 => k3' i (by lia) h2
        by_cases e5 : ia + 1 + 1 = X.size
        ·rw [if_pos e5]
         refine wpS_pure (.inl ⟨(O.push (at' Y ib)).push (at' X ia) ++ Y.extract (ib + 1) Y.size ++ X.extract (ia + 1) X.size, ?_, j4.last (by lia) (by lia) (fun i hi => by have := hl i hi; rwa [show X.size - 1 = ia + 1 by lia] at this), sm⟩)
         simp
        ·rw [if_neg e5]
         have fin : ∀ m c d, ∃ O' ia' ib' m' c' d', ((none, ((O.map (kas_item it)).push (kas_item it (at' Y ib))).push (kas_item it (at' X ia)), ia + 1, ib + 1, m, c, d) : Option (Array Keyed) × Array Keyed × Nat × Nat × Nat × Nat × Nat) = (none, O'.map (kas_item it), ia', ib', m', c', d') /\ ia' + 1 < X.size /\ ib' < Y.size /\ aG <= ia' + ib' /\ J le (X.toList ++ Y.toList) X Y O' ia' ib' := fun m c d => ⟨_, _, _, m, c, d, by rw [show ((O.map (kas_item it)).push (kas_item it (at' Y ib))).push (kas_item it (at' X ia)) = ((O.push (at' Y ib)).push (at' X ia)).map (kas_item it) by simp], by lia, by lia, by lia, j4⟩
         refine bH ?_ ?_
         ·exact wpS_pure (.inr ⟨sm, fin _ _ _⟩)
         ·exact wpS_pure ⟨sm, fin _ _ _⟩
     ·rw [if_neg k0]
      have k00 : k = 0 := by lia
      subst k00
      replace ky : ∀ i, ia <= i -> i < X.size -> le (at' Y ib) (at' X i) := ky
      -- y0
      refine wpS_bind (aK lb ?_)
      have j2 : J le (X.toList ++ Y.toList) X Y (O.push (at' Y ib)) ia (ib + 1) := (j.sy.one lb fun i h1 h2 => ky i h1 h2).sy
      by_cases e3 : ib + 1 = Y.size
      ·rw [if_pos e3]
       refine wpS_pure (.inl ⟨(O.push (at' Y ib)) ++ X.extract ia X.size ++ Y.extract (ib + 1) Y.size, ?_, j2.done1 (by lia) (by lia), sm⟩)
       simp
      ·rw [if_neg e3]
       refine wpS_bind (aK (by lia) ?_)
       refine wpS_bind (cg o hc sm.1 hy (hx ia (by lia)) (by lia) (by lia) (fun i k h1 h2 => sy _ _ (by lia) (by lia)) fun k k1 k2 k3 => ?_)
       dsimp only
       have k2' : ∀ i, ib + 1 <= i -> i < ib + 1 + k -> le (at' Y i) (at' X ia) := fun i h1 h2 => by
        have := k2 (i - (ib + 1)) (by lia)
        rwa [show ib + 1 + (i - (ib + 1)) = i by lia] at this
       have k3' : ∀ i, ib + 1 + k <= i -> i < Y.size -> le (at' X ia) (at' Y i) := fun i h1 h2 => by
        have := k3 (i - (ib + 1)) (by lia) (by lia)
        rwa [show ib + 1 + (i - (ib + 1)) = i by lia] at this
       have j3 : J le (X.toList ++ Y.toList) X Y (O.push (at' Y ib) ++ Y.extract (ib + 1) (ib + 1 + k)) ia (ib + 1 + k) := (j2.sy.blk fun i l h1 h2 h3 h4 h5 => o.tr _ _ _ (k2' i h1 h2) (sx _ _ h4 h5)).sy
       by_cases k0 : k > 0
       ·rw [if_pos k0]
        by_cases e4 : ib + 1 + k = Y.size
        ·rw [if_pos e4]
         refine wpS_pure (.inl ⟨(O.push (at' Y ib)) ++ Y.extract (ib + 1) (ib + 1 + k) ++ X.extract ia X.size ++ Y.extract (ib + 1 + k) Y.size, ?_, j3.done1 (by lia) (by lia), sm⟩)
         simp
        ·rw [if_neg e4]
         refine wpS_bind (aK (by lia) ?_)
         have j4 := j3.one (by lia) fun i h1 h2 => k3' i h1 h2
         by_cases e5 : ia + 1 + 1 = X.size
         ·rw [if_pos e5]
          refine wpS_pure (.inl ⟨(O.push (at' Y ib) ++ Y.extract (ib + 1) (ib + 1 + k)).push (at' X ia) ++ Y.extract (ib + 1 + k) Y.size ++ X.extract (ia + 1) X.size, ?_, j4.last (by lia) (by lia) (fun i hi => by have := hl i hi; rwa [show X.size - 1 = ia + 1 by lia] at this), sm⟩)
          simp
         ·rw [if_neg e5]
          have fin : ∀ m c d, ∃ O' ia' ib' m' c' d', ((none, ((O.map (kas_item it)).push (kas_item it (at' Y ib)) ++ (Y.map (kas_item it)).extract (ib + 1) (ib + 1 + k)).push (kas_item it (at' X ia)), ia + 1, ib + 1 + k, m, c, d) : Option (Array Keyed) × Array Keyed × Nat × Nat × Nat × Nat × Nat) = (none, O'.map (kas_item it), ia', ib', m', c', d') /\ ia' + 1 < X.size /\ ib' < Y.size /\ aG <= ia' + ib' /\ J le (X.toList ++ Y.toList) X Y O' ia' ib' := fun m c d => ⟨_, _, _, m, c, d, by rw [show (((O.map (kas_item it)).push (kas_item it (at' Y ib)) ++ (Y.map (kas_item it)).extract (ib + 1) (ib + 1 + k)).push (kas_item it (at' X ia))) = ((O.push (at' Y ib) ++ Y.extract (ib + 1) (ib + 1 + k)).push (at' X ia)).map (kas_item it) by simp], by lia, by lia, by lia, j4⟩
          refine bH ?_ ?_
          ·exact wpS_pure (.inr ⟨sm, fin _ _ _⟩)
          ·exact wpS_pure ⟨sm, fin _ _ _⟩
       ·rw [if_neg k0]
        have k00 : k = 0 := by lia
        subst k00
        have j3' : J le (X.toList ++ Y.toList) X Y (O.push (at' Y ib)) ia (ib + 1) := j2
        refine wpS_bind (aK (by lia) ?_)
        have j4 := j3'.one (by lia) fun i h1 h2 => k3' i (by lia) h2
        by_cases e5 : ia + 1 + 1 = X.size
        ·rw [if_pos e5]
         refine wpS_pure (.inl ⟨(O.push (at' Y ib)).push (at' X ia) ++ Y.extract (ib + 1) Y.size ++ X.extract (ia + 1) X.size, ?_, j4.last (by lia) (by lia) (fun i hi => by have := hl i hi; rwa [show X.size - 1 = ia + 1 by lia] at this), sm⟩)
         simp
        ·rw [if_neg e5]
         have fin : ∀ m c d, ∃ O' ia' ib' m' c' d', ((none, ((O.map (kas_item it)).push (kas_item it (at' Y ib))).push (kas_item it (at' X ia)), ia + 1, ib + 1, m, c, d) : Option (Array Keyed) × Array Keyed × Nat × Nat × Nat × Nat × Nat) = (none, O'.map (kas_item it), ia', ib', m', c', d') /\ ia' + 1 < X.size /\ ib' < Y.size /\ aG <= ia' + ib' /\ J le (X.toList ++ Y.toList) X Y O' ia' ib' := fun m c d => ⟨_, _, _, m, c, d, by rw [show ((O.map (kas_item it)).push (kas_item it (at' Y ib))).push (kas_item it (at' X ia)) = ((O.push (at' Y ib)).push (at' X ia)).map (kas_item it) by simp], by lia, by lia, by lia, j4⟩
         refine bH ?_ ?_
         ·exact wpS_pure (.inr ⟨sm, fin _ _ _⟩)
         ·exact wpS_pure ⟨sm, fin _ _ _⟩
end
section
variable {X Y O : Array Nat} {le : Nat -> Nat -> Prop} {tot : List Nat} {na nb : Nat}
theorem zQ {i : Nat} (h : i < X.size) : X.toList.take (i + 1) = X.toList.take i ++ [at' X i] := by
 rw [List.take_succ_eq_append_getElem (by simpa using h), jr h]
theorem jQ {i j : Nat} (h : i <= j) : X.toList.take j = X.toList.take i ++ (X.extract i j).toList := by
 rw [Array.toList_extract, List.extract_eq_take_drop]
 have e : j = i + (j - i) := by lia
 conv => lhs; rw [e, List.take_add]
theorem qw {i x : Nat} (h : x ∈ X.toList.take i) : ∃ j, j < i /\ j < X.size /\ at' X j = x := by
 obtain ⟨k, hk⟩ := List.getElem?_of_mem h
 rw [List.getElem?_take] at hk
 split at hk
 ·obtain ⟨h1, h2⟩ := List.getElem?_eq_some_iff.mp hk
  have h1' : k < X.size := by simpa using h1
  exact ⟨k, by lia, h1', by rw [<- jr h1']; exact h2⟩
 ·cases hk
abbrev JH (le : Nat -> Nat -> Prop) (tot : List Nat) (X Y O : Array Nat) (na nb : Nat) : Prop := Inv (fun a b => le b a) tot O.toList (X.toList.take na).reverse (Y.toList.take nb).reverse
theorem JH.sy (j : JH le tot X Y O na nb) : JH le tot Y X O nb na := Inv.symm j
theorem JH.one (j : JH le tot X Y O na nb) (h : 1 <= na) (h2 : na <= X.size) (k : ∀ i, i < nb -> le (at' Y i) (at' X (na - 1))) : JH le tot X Y (O.push (at' X (na - 1))) (na - 1) nb := by
 unfold JH at j ⊢
 obtain ⟨m, rfl⟩ : ∃ m, na = m + 1 := ⟨na - 1, by lia⟩
 rw [zQ (by lia), List.reverse_append] at j
 rw [Nat.add_sub_cancel] at k ⊢
 have := Inv.block (xs := [at' X m]) j (fun x hx y hy => by
  rw [List.mem_singleton] at hx
  subst hx
  obtain ⟨i, h1, h2, rfl⟩ := qw (List.mem_reverse.mp hy)
  exact k i h1)
 rwa [Array.toList_push]
theorem JH.blk {m : Nat} (j : JH le tot X Y O na nb) (h : m <= na) (h2 : na <= X.size) (k : ∀ i l, m <= i -> i < na -> l < nb -> le (at' Y l) (at' X i)) : JH le tot X Y (O ++ (X.extract m na).reverse) m nb := by
 unfold JH at j ⊢
 rw [jQ h, List.reverse_append] at j
 have := Inv.block j (fun x hx y hy => by
  obtain ⟨i, h1, h2, h3, rfl⟩ := o6 (List.mem_reverse.mp hx)
  obtain ⟨l, h4, h5, rfl⟩ := qw (List.mem_reverse.mp hy)
  exact k i l h1 h2 h4)
 rwa [Array.toList_append, Array.toList_reverse]
theorem xO {l r : List Nat} (h : l.Pairwise (fun a b => le b a) /\ l.Perm tot) (e : l = r.reverse) : r.Pairwise le /\ r.Perm tot := by
 subst e
 exact ⟨List.pairwise_reverse.mp h.1, (List.reverse_perm _).symm.trans h.2⟩
theorem Gb (m : Nat) : (X.extract 0 m).toList = X.toList.take m := by rw [Array.toList_extract, List.extract_eq_take_drop]; simp
theorem JH.done1 (j : JH le tot X Y O na nb) (h : nb = 0) (h2 : na <= X.size) : jF le tot (X.extract 0 na ++ Y.extract 0 nb ++ O.reverse) := by
 subst h
 refine xO (l := O.toList ++ (X.toList.take na).reverse) (Inv.doneA (by unfold JH at j; simpa using j)) ?_
 simp [Gb]
theorem JH.done2 (j : JH le tot X Y O na nb) (h : na = 0) (h2 : nb <= Y.size) : jF le tot (X.extract 0 na ++ Y.extract 0 nb ++ O.reverse) := by
 have := j.sy.done1 h h2
 subst h
 simpa using this
theorem JH.first (j : JH le tot X Y O na nb) (h : nb = 1) (y1 : 1 <= Y.size) (h2 : na <= X.size) (k : ∀ i, i < X.size -> le (at' Y 0) (at' X i)) : jF le tot (Y.extract 0 nb ++ X.extract 0 na ++ O.reverse) := by
 subst h
 have e : Y.toList.take 1 = [at' Y 0] := by rw [zQ (i := 0) (by lia)]; simp
 have j2 : Inv (fun a b => le b a) tot O.toList [at' Y 0] (X.toList.take na).reverse := by have := j.sy; unfold JH at this; rw [e] at this; exact this
 refine xO (j2.lastA fun y hy => ?_) ?_
 ·obtain ⟨i, h1, h2, rfl⟩ := qw (List.mem_reverse.mp hy)
  exact k i h2
 ·rw [Array.toList_append, Array.toList_append, Gb, Gb, e]
  simp
end
section
variable {prog : Program} {w : World} {A : Around} {E : Value -> Shared -> Prop} {s : Shared} {κ : SortKind} {it : Array Keyed} {n : Nat} {lt : Nat -> Nat -> Bool} {le : Nat -> Nat -> Prop}
theorem zT (o : Ord lt le) (hc : r9 prog w A s κ it n lt) {X Y : Array Nat} {Q : Array Keyed -> SortSt -> Prop} {st : SortSt} (hk : kindOf st = κ) (hx : ∀ i, i < X.size -> at' X i < n) (hy : ∀ i, i < Y.size -> at' Y i < n)
  (x1 : 1 <= X.size) (y1 : 1 <= Y.size) (sx : ∀ i j, i <= j -> j < X.size -> le (at' X i) (at' X j)) (sy : ∀ i j, i <= j -> j < Y.size -> le (at' Y i) (at' Y j)) (hf : ∀ i, i < X.size -> le (at' Y 0) (at' X i)) (hl : ∀ i, i < Y.size -> le (at' Y i) (at' X (X.size - 1)))
  (h : ∀ R st', Same κ st st' -> jF le (X.toList ++ Y.toList) R -> Q (R.map (kas_item it)) st') :
  wpS (model prog w) A E s (C5 (X.map (kas_item it)) (Y.map (kas_item it))) Q st := by
 have sm0 : Same κ st st := ⟨hk, rfl, rfl, rfl⟩
 have j0 : JH le (X.toList ++ Y.toList) X Y #[] X.size Y.size := by
  have ex : X.toList.take X.size = X.toList := List.take_of_length_le (by simp)
  have ey : Y.toList.take Y.size = Y.toList := List.take_of_length_le (by simp)
  unfold JH
  rw [ex, ey]
  exact ⟨by simpa using List.pairwise_reverse.mpr (zK sx), by simpa using List.pairwise_reverse.mpr (zK sy), by simpa using (List.reverse_perm X.toList).append (List.reverse_perm Y.toList)⟩
 have j1 : JH le (X.toList ++ Y.toList) X Y #[at' X (X.size - 1)] (X.size - 1) Y.size := j0.one x1 (Nat.le_refl _) fun i h2 => hl i h2
 refine wpS_bind (wpS_lift (wpAny_rule ⟨rfl, ?_⟩))
 dsimp only
 simp only [Array.size_map, beq_iff_eq]
 refine wpS_bind (aK (X := X) (by lia) ?_)
 by_cases e1 : X.size - 1 = 0
 ·rw [if_pos e1]
  refine wpS_pure ?_
  have := h _ st sm0 (j1.done2 e1 (by lia))
  simpa [exm] using this
 rw [if_neg e1]
 by_cases e2 : Y.size = 1
 ·rw [if_pos e2]
  refine wpS_pure ?_
  have := h _ st sm0 (j1.first e2 (by lia) (by lia) hf)
  simpa [exm] using this
 rw [if_neg e2]
 refine wpS_bind (wpS_get ?_)
 refine wpS_bind (wpS_mono (wpS_forRange (I := fun x c st2 => Same κ st st2 /\ ∃ O na nb g, c = (none, na, nb, O.map (kas_item it), g) /\ 1 <= na /\ 1 < nb /\ na < X.size /\ nb <= Y.size /\ na + nb + (x + 1) <= X.size + Y.size /\ JH le (X.toList ++ Y.toList) X Y O na nb)
  (Q := fun c st2 => ∃ R, c.1 = some (R.map (kas_item it)) /\ jF le (X.toList ++ Y.toList) R /\ Same κ st st2) ?s1 ?f1 ?i1) ?p1)
 case i1 => exact ⟨sm0, #[at' X (X.size - 1)], X.size - 1, Y.size, _, by simp; rfl, by lia, by lia, by lia, by lia, by lia, j1⟩
 case f1 =>
  rintro c st2 ⟨sm, O, na, nb, g, rfl, la, lb, lx, ly, ls, j⟩
  lia
 case p1 =>
  rintro ⟨c, c'⟩ st2 ⟨R, hc1, hR, sm⟩
  dsimp only at hc1
  subst hc1
  exact wpS_pure (h R st2 sm hR)
 case s1 =>
  rintro x c st2 _ hx0 ⟨sm, O, na, nb, g, rfl, la, lb, lx, ly, ls, j⟩
  dsimp only
  refine wpS_bind (wpS_mono (wpS_forRange (I := fun y c st2 => Same κ st st2 /\ ∃ O na nb a b, c = (none, na, nb, O.map (kas_item it), a, b) /\ 1 <= na /\ 1 < nb /\ na < X.size /\ nb <= Y.size /\ na + nb + (x + 1 + y) <= X.size + Y.size /\ JH le (X.toList ++ Y.toList) X Y O na nb)
   (Q := fun c st2 => (∃ R, c.1 = some (R.map (kas_item it)) /\ jF le (X.toList ++ Y.toList) R /\ Same κ st st2) \/ (Same κ st st2 /\ ∃ O na nb a b, c = (none, na, nb, O.map (kas_item it), a, b) /\ 1 <= na /\ 1 < nb /\ na < X.size /\ nb <= Y.size /\ na + nb + (x + 1 + 1) <= X.size + Y.size /\ JH le (X.toList ++ Y.toList) X Y O na nb)) ?s2 ?f2 ?i2) ?p2)
  case i2 => exact ⟨sm, O, na, nb, 0, 0, rfl, la, lb, lx, ly, ls, j⟩
  case f2 =>
   rintro c st2 ⟨sm, O, na, nb, a, b, rfl, la, lb, lx, ly, ls, j⟩
   lia
  case s2 =>
   clear la lb lx ly ls j sm
   rintro y c st2 _ hy0 ⟨sm, O, na, nb, a, b, rfl, la, lb, lx, ly, ls, j⟩
   dsimp only
   refine wpS_bind (aK (by lia) ?_)
   refine wpS_bind (aK (by lia) ?_)
   refine wpS_bind (w_lt hc sm.1 (hy (nb - 1) (by lia)) (hx (na - 1) (by lia)) ?_)
   dsimp only
   cases cw : lt (at' Y (nb - 1)) (at' X (na - 1)) with
   | true =>
    rw [if_pos rfl]
    have l0 := o.yes _ _ cw
    have j2 := j.one la (by lia) fun i h1 => o.tr _ _ _ (sy i (nb - 1) (by lia) (by lia)) l0
    refine wpS_bind (aK (by lia) ?_)
    by_cases e3 : na - 1 = 0
    ·rw [if_pos e3]
     refine wpS_pure (.inl ⟨X.extract 0 (na - 1) ++ Y.extract 0 nb ++ (O.push (at' X (na - 1))).reverse, ?_, j2.done2 e3 (by lia), sm⟩)
     simp [Array.map_reverse]
    ·rw [if_neg e3]
     refine bH ?_ ?_
     ·exact wpS_pure (.inr ⟨sm, O.push (at' X (na - 1)), na - 1, nb, _, _, by rw [Array.map_push], by lia, by lia, by lia, by lia, by lia, j2⟩)
     ·exact wpS_pure ⟨sm, O.push (at' X (na - 1)), na - 1, nb, _, _, by rw [Array.map_push], by lia, by lia, by lia, by lia, by lia, j2⟩
   | false =>
    rw [if_neg (by decide)]
    have l0 := o.no _ _ cw
    have j2 : JH le (X.toList ++ Y.toList) X Y (O.push (at' Y (nb - 1))) na (nb - 1) := (j.sy.one (by lia) (by lia) fun i h1 => o.tr _ _ _ (sx i (na - 1) (by lia) (by lia)) l0).sy
    refine wpS_bind (aK (by lia) ?_)
    by_cases e3 : nb - 1 = 1
    ·rw [if_pos e3]
     refine wpS_pure (.inl ⟨Y.extract 0 (nb - 1) ++ X.extract 0 na ++ (O.push (at' Y (nb - 1))).reverse, ?_, j2.first e3 (by lia) (by lia) hf, sm⟩)
     simp [Array.map_reverse]
    ·rw [if_neg e3]
     refine bH ?_ ?_
     ·exact wpS_pure (.inr ⟨sm, O.push (at' Y (nb - 1)), na, nb - 1, _, _, by rw [Array.map_push], by lia, by lia, by lia, by lia, by lia, j2⟩)
     ·exact wpS_pure ⟨sm, O.push (at' Y (nb - 1)), na, nb - 1, _, _, by rw [Array.map_push], by lia, by lia, by lia, by lia, by lia, j2⟩
  case p2 =>
   clear la lb lx ly ls j sm
   rintro ⟨c, c'⟩ st2 (⟨R, hc1, hR, sm⟩ | ⟨sm, O, na, nb, a, b, hcc, la, lb, lx, ly, ls, j⟩)
   ·dsimp only at hc1
    subst hc1
    exact wpS_pure ⟨R, rfl, hR, sm⟩
   cases hcc
   dsimp only
   refine wpS_bind (wpS_lift (wpAny_rule ⟨rfl, ?_⟩))
   have hst : ∃ aG, aG = x + 1 + 1 := ⟨_, rfl⟩
   obtain ⟨aG, hst⟩ := hst
   rw [<- hst] at ls
   refine wpS_bind (wpS_mono (wpS_forRange (I := fun y c st2 => Same κ st st2 /\ ∃ O na nb m a b, c = (none, na, nb, O.map (kas_item it), m, a, b) /\ 1 <= na /\ 1 < nb /\ na < X.size /\ nb <= Y.size /\ na + nb + aG <= X.size + Y.size /\ JH le (X.toList ++ Y.toList) X Y O na nb)
    (Q := fun c st2 => (∃ R, c.1 = some (R.map (kas_item it)) /\ jF le (X.toList ++ Y.toList) R /\ Same κ st st2) \/ (Same κ st st2 /\ ∃ O na nb m a b, c = (none, na, nb, O.map (kas_item it), m, a, b) /\ 1 <= na /\ 1 < nb /\ na < X.size /\ nb <= Y.size /\ na + nb + aG <= X.size + Y.size /\ JH le (X.toList ++ Y.toList) X Y O na nb)) ?s3 ?f3 ?i3) ?p3)
   case i3 => exact ⟨sm, O, na, nb, _, _, _, rfl, la, lb, lx, ly, ls, j⟩
   case f3 => exact fun c st2 h => .inr h
   case p3 =>
    clear la lb lx ly ls j sm
    rintro ⟨c, c'⟩ st2 (⟨R, hc1, hR, sm⟩ | ⟨sm, O, na, nb, m, a, b, hcc, la, lb, lx, ly, ls, j⟩)
    ·dsimp only at hc1
     subst hc1
     exact wpS_pure ⟨R, rfl, hR, sm⟩
    cases hcc
    dsimp only
    refine wpS_bind (wpS_modify (wpS_pure ?_))
    exact ⟨sm.g _, O, na, nb, _, rfl, la, lb, lx, ly, by lia, j⟩
   case s3 =>
    clear la lb lx ly ls j sm
    rintro y c st2 _ hy0 ⟨sm, O, na, nb, m, a, b, rfl, la, lb, lx, ly, ls, j⟩
    dsimp only
    by_cases hm : m > 1
    ·rw [if_pos hm]
     refine wpS_bind (wpS_modify ?_)
     replace sm := sm.g (m - 1)
     refine wpS_bind (aK (by lia) ?_)
     refine wpS_bind (cg o hc sm.1 hx (hy (nb - 1) (by lia)) (by lia) (by lia) (fun i k h1 h2 => sx _ _ (by lia) (by lia)) fun k k1 k2 k3 => ?_)
     dsimp only
     simp only [Nat.zero_add] at k2 k3
     by_cases k0 : na - k > 0
     ·rw [if_pos k0]
      replace j := j.blk (m := k) (by lia) (by lia) fun i l h1 h2 h3 => o.tr _ _ _ (sy l (nb - 1) (by lia) (by lia)) (k3 i h1 h2)
      have eO : O.map (kas_item it) ++ ((X.map (kas_item it)).extract k na).reverse = (O ++ (X.extract k na).reverse).map (kas_item it) := by simp [Array.map_reverse]
      rw [eO]
      by_cases e1 : k = 0
      ·rw [if_pos e1]
       refine wpS_pure (.inl ⟨X.extract 0 k ++ Y.extract 0 nb ++ (O ++ (X.extract k na).reverse).reverse, ?_, j.done2 e1 (by lia), sm⟩)
       simp [Array.map_reverse]
      rw [if_neg e1]
      have la2 : 1 <= k := by lia
      have lx2 : k < X.size := by lia
      have ls2 : k + nb + aG <= X.size + Y.size := by lia
      have ky : ∀ i, i < k -> le (at' X i) (at' Y (nb - 1)) := k2
      clear k2 k3 eO e1
      generalize O ++ (X.extract k na).reverse = O at j ⊢
      generalize na - k = kk at k0 ⊢
      clear k0 k1 la lx ls
      have la := la2
      have lx := lx2
      have ls := ls2
      clear la2 lx2 ls2
      obtain ⟨na, hna⟩ : ∃ na, na = k := ⟨k, rfl⟩
      subst hna
      refine wpS_bind (aK (by lia) ?_)
      have j2 : JH le (X.toList ++ Y.toList) X Y (O.push (at' Y (nb - 1))) na (nb - 1) := (j.sy.one (by lia) (by lia) fun i h1 => ky i h1).sy
      by_cases e3 : nb - 1 = 1
      ·rw [if_pos e3]
       refine wpS_pure (.inl ⟨Y.extract 0 (nb - 1) ++ X.extract 0 na ++ (O.push (at' Y (nb - 1))).reverse, ?_, j2.first e3 (by lia) (by lia) hf, sm⟩)
       simp [Array.map_reverse]
      ·rw [if_neg e3]
       refine wpS_bind (aK (by lia) ?_)
       refine wpS_bind (cg o hc sm.1 hy (hx (na - 1) (by lia)) (by lia) (by lia) (fun i k h1 h2 => sy _ _ (by lia) (by lia)) fun k k1 k2 k3 => ?_)
       dsimp only
       simp only [Nat.zero_add] at k2 k3
       have j3 : JH le (X.toList ++ Y.toList) X Y (O.push (at' Y (nb - 1)) ++ (Y.extract k (nb - 1)).reverse) na k := (j2.sy.blk (by lia) (by lia) fun i l h1 h2 h3 => o.tr _ _ _ (sx l (na - 1) (by lia) (by lia)) (k3 i h1 h2)).sy
       by_cases k0 : nb - 1 - k > 0
       ·rw [if_pos k0]
        by_cases e4 : k = 1
        ·rw [if_pos e4]
         refine wpS_pure (.inl ⟨Y.extract 0 k ++ X.extract 0 na ++ (O.push (at' Y (nb - 1)) ++ (Y.extract k (nb - 1)).reverse).reverse, ?_, j3.first e4 (by lia) (by lia) hf, sm⟩)
         simp [Array.map_reverse]
        rw [if_neg e4]
        by_cases e5 : k = 0
        ·rw [if_pos e5]
         refine wpS_pure (.inl ⟨X.extract 0 na ++ Y.extract 0 k ++ (O.push (at' Y (nb - 1)) ++ (Y.extract k (nb - 1)).reverse).reverse, ?_, j3.done1 e5 (by lia), sm⟩)
         simp [Array.map_reverse]
        rw [if_neg e5]
        refine wpS_bind (aK (by lia) ?_)
        have j4 := j3.one (by lia) (by lia) fun i h1 => k2 i h1
        have eO : ((O.map (kas_item it)).push (kas_item it (at' Y (nb - 1))) ++ ((Y.map (kas_item it)).extract k (nb - 1)).reverse).push (kas_item it (at' X (na - 1))) = ((O.push (at' Y (nb - 1)) ++ (Y.extract k (nb - 1)).reverse).push (at' X (na - 1))).map (kas_item it) := by simp [Array.map_reverse]
        by_cases e6 : na - 1 = 0
        ·rw [if_pos e6]
         refine wpS_pure (.inl ⟨X.extract 0 (na - 1) ++ Y.extract 0 k ++ ((O.push (at' Y (nb - 1)) ++ (Y.extract k (nb - 1)).reverse).push (at' X (na - 1))).reverse, ?_, j4.done2 e6 (by lia), sm⟩)
         simp [Array.map_reverse]
        ·rw [if_neg e6]
         have fin : ∀ m c d, ∃ O' na' nb' m' c' d', ((none, na - 1, k, ((O.map (kas_item it)).push (kas_item it (at' Y (nb - 1))) ++ ((Y.map (kas_item it)).extract k (nb - 1)).reverse).push (kas_item it (at' X (na - 1))), m, c, d) : Option (Array Keyed) × Nat × Nat × Array Keyed × Nat × Nat × Nat) = (none, na', nb', O'.map (kas_item it), m', c', d') /\ 1 <= na' /\ 1 < nb' /\ na' < X.size /\ nb' <= Y.size /\ na' + nb' + aG <= X.size + Y.size /\ JH le (X.toList ++ Y.toList) X Y O' na' nb' := fun m c d => ⟨_, _, _, m, c, d, by rw [eO], by lia, by lia, by lia, by lia, by lia, j4⟩
         refine bH ?_ ?_
         ·exact wpS_pure (.inr ⟨sm, fin _ _ _⟩)
         ·exact wpS_pure ⟨sm, fin _ _ _⟩
       ·rw [if_neg k0]
        have k00 : k = nb - 1 := by lia
        subst k00
        refine wpS_bind (aK (by lia) ?_)
        have j4 := j2.one (by lia) (by lia) fun i h1 => k2 i h1
        have eO : ((O.map (kas_item it)).push (kas_item it (at' Y (nb - 1)))).push (kas_item it (at' X (na - 1))) = ((O.push (at' Y (nb - 1))).push (at' X (na - 1))).map (kas_item it) := by simp
        by_cases e6 : na - 1 = 0
        ·rw [if_pos e6]
         refine wpS_pure (.inl ⟨X.extract 0 (na - 1) ++ Y.extract 0 (nb - 1) ++ ((O.push (at' Y (nb - 1))).push (at' X (na - 1))).reverse, ?_, j4.done2 e6 (by lia), sm⟩)
         simp [Array.map_reverse]
        ·rw [if_neg e6]
         have fin : ∀ m c d, ∃ O' na' nb' m' c' d', ((none, na - 1, nb - 1, ((O.map (kas_item it)).push (kas_item it (at' Y (nb - 1)))).push (kas_item it (at' X (na - 1))), m, c, d) : Option (Array Keyed) × Nat × Nat × Array Keyed × Nat × Nat × Nat) = (none, na', nb', O'.map (kas_item it), m', c', d') /\ 1 <= na' /\ 1 < nb' /\ na' < X.size /\ nb' <= Y.size /\ na' + nb' + aG <= X.size + Y.size /\ JH le (X.toList ++ Y.toList) X Y O' na' nb' := fun m c d => ⟨_, _, _, m, c, d, by rw [eO], by lia, by lia, by lia, by lia, by lia, j4⟩
         refine bH ?_ ?_
         ·exact wpS_pure (.inr ⟨sm, fin _ _ _⟩)
         ·exact wpS_pure ⟨sm, fin _ _ _⟩
     ·rw [if_neg k0]
      have k00 : na = k := by lia
      subst k00
      have ky : ∀ i, i < na -> le (at' X i) (at' Y (nb - 1)) := k2
      refine wpS_bind (aK (by lia) ?_)
      have j2 : JH le (X.toList ++ Y.toList) X Y (O.push (at' Y (nb - 1))) na (nb - 1) := (j.sy.one (by lia) (by lia) fun i h1 => ky i h1).sy
      by_cases e3 : nb - 1 = 1
      ·rw [if_pos e3]
       refine wpS_pure (.inl ⟨Y.extract 0 (nb - 1) ++ X.extract 0 na ++ (O.push (at' Y (nb - 1))).reverse, ?_, j2.first e3 (by lia) (by lia) hf, sm⟩)
       simp [Array.map_reverse]
      ·rw [if_neg e3]
       refine wpS_bind (aK (by lia) ?_)
       refine wpS_bind (cg o hc sm.1 hy (hx (na - 1) (by lia)) (by lia) (by lia) (fun i k h1 h2 => sy _ _ (by lia) (by lia)) fun k k1 k2 k3 => ?_)
       dsimp only
       simp only [Nat.zero_add] at k2 k3
       have j3 : JH le (X.toList ++ Y.toList) X Y (O.push (at' Y (nb - 1)) ++ (Y.extract k (nb - 1)).reverse) na k := (j2.sy.blk (by lia) (by lia) fun i l h1 h2 h3 => o.tr _ _ _ (sx l (na - 1) (by lia) (by lia)) (k3 i h1 h2)).sy
       by_cases k0 : nb - 1 - k > 0
       ·rw [if_pos k0]
        by_cases e4 : k = 1
        ·rw [if_pos e4]
         refine wpS_pure (.inl ⟨Y.extract 0 k ++ X.extract 0 na ++ (O.push (at' Y (nb - 1)) ++ (Y.extract k (nb - 1)).reverse).reverse, ?_, j3.first e4 (by lia) (by lia) hf, sm⟩)
         simp [Array.map_reverse]
        rw [if_neg e4]
        by_cases e5 : k = 0
        ·rw [if_pos e5]
         refine wpS_pure (.inl ⟨X.extract 0 na ++ Y.extract 0 k ++ (O.push (at' Y (nb - 1)) ++ (Y.extract k (nb - 1)).reverse).reverse, ?_, j3.done1 e5 (by lia), sm⟩)
         simp [Array.map_reverse]
        rw [if_neg e5]
        refine wpS_bind (aK (by lia) ?_)
        have j4 := j3.one (by lia) (by lia) fun i h1 => k2 i h1
        have eO : ((O.map (kas_item it)).push (kas_item it (at' Y (nb - 1))) ++ ((Y.map (kas_item it)).extract k (nb - 1)).reverse).push (kas_item it (at' X (na - 1))) = ((O.push (at' Y (nb - 1)) ++ (Y.extract k (nb - 1)).reverse).push (at' X (na - 1))).map (kas_item it) := by simp [Array.map_reverse]
        by_cases e6 : na - 1 = 0
        ·rw [if_pos e6]
         refine wpS_pure (.inl ⟨X.extract 0 (na - 1) ++ Y.extract 0 k ++ ((O.push (at' Y (nb - 1)) ++ (Y.extract k (nb - 1)).reverse).push (at' X (na - 1))).reverse, ?_, j4.done2 e6 (by lia), sm⟩)
         simp [Array.map_reverse]
        ·rw [if_neg e6]
         have fin : ∀ m c d, ∃ O' na' nb' m' c' d', ((none, na - 1, k, ((O.map (kas_item it)).push (kas_item it (at' Y (nb - 1))) ++ ((Y.map (kas_item it)).extract k (nb - 1)).reverse).push (kas_item it (at' X (na - 1))), m, c, d) : Option (Array Keyed) × Nat × Nat × Array Keyed × Nat × Nat × Nat) = (none, na', nb', O'.map (kas_item it), m', c', d') /\ 1 <= na' /\ 1 < nb' /\ na' < X.size /\ nb' <= Y.size /\ na' + nb' + aG <= X.size + Y.size /\ JH le (X.toList ++ Y.toList) X Y O' na' nb' := fun m c d => ⟨_, _, _, m, c, d, by rw [eO], by lia, by lia, by lia, by lia, by lia, j4⟩
         refine bH ?_ ?_
         ·exact wpS_pure (.inr ⟨sm, fin _ _ _⟩)
         ·exact wpS_pure ⟨sm, fin _ _ _⟩
       ·rw [if_neg k0]
        have k00 : k = nb - 1 := by lia
        subst k00
        refine wpS_bind (aK (by lia) ?_)
        have j4 := j2.one (by lia) (by lia) fun i h1 => k2 i h1
        have eO : ((O.map (kas_item it)).push (kas_item it (at' Y (nb - 1)))).push (kas_item it (at' X (na - 1))) = ((O.push (at' Y (nb - 1))).push (at' X (na - 1))).map (kas_item it) := by simp
        by_cases e6 : na - 1 = 0
        ·rw [if_pos e6]
         refine wpS_pure (.inl ⟨X.extract 0 (na - 1) ++ Y.extract 0 (nb - 1) ++ ((O.push (at' Y (nb - 1))).push (at' X (na - 1))).reverse, ?_, j4.done2 e6 (by lia), sm⟩)
         simp [Array.map_reverse]
        ·rw [if_neg e6]
         have fin : ∀ m c d, ∃ O' na' nb' m' c' d', ((none, na - 1, nb - 1, ((O.map (kas_item it)).push (kas_item it (at' Y (nb - 1)))).push (kas_item it (at' X (na - 1))), m, c, d) : Option (Array Keyed) × Nat × Nat × Array Keyed × Nat × Nat × Nat) = (none, na', nb', O'.map (kas_item it), m', c', d') /\ 1 <= na' /\ 1 < nb' /\ na' < X.size /\ nb' <= Y.size /\ na' + nb' + aG <= X.size + Y.size /\ JH le (X.toList ++ Y.toList) X Y O' na' nb' := fun m c d => ⟨_, _, _, m, c, d, by rw [eO], by lia, by lia, by lia, by lia, by lia, j4⟩
         refine bH ?_ ?_
         ·exact wpS_pure (.inr ⟨sm, fin _ _ _⟩)
         ·exact wpS_pure ⟨sm, fin _ _ _⟩
    ·rw [if_neg hm]
     refine wpS_bind (wpS_modify ?_)
     replace sm := sm.g (m)
     refine wpS_bind (aK (by lia) ?_)
     refine wpS_bind (cg o hc sm.1 hx (hy (nb - 1) (by lia)) (by lia) (by lia) (fun i k h1 h2 => sx _ _ (by lia) (by lia)) fun k k1 k2 k3 => ?_)
     dsimp only
     simp only [Nat.zero_add] at k2 k3
     by_cases k0 : na - k > 0
     ·rw [if_pos k0]
      replace j := j.blk (m := k) (by lia) (by lia) fun i l h1 h2 h3 => o.tr _ _ _ (sy l (nb - 1) (by lia) (by lia)) (k3 i h1 h2)
      have eO : O.map (kas_item it) ++ ((X.map (kas_item it)).extract k na).reverse = (O ++ (X.extract k na).reverse).map (kas_item it) := by simp [Array.map_reverse]
      rw [eO]
      by_cases e1 : k = 0
      ·rw [if_pos e1]
       refine wpS_pure (.inl ⟨X.extract 0 k ++ Y.extract 0 nb ++ (O ++ (X.extract k na).reverse).reverse, ?_, j.done2 e1 (by lia), sm⟩)
       simp [Array.map_reverse]
      rw [if_neg e1]
      have la2 : 1 <= k := by lia
      have lx2 : k < X.size := by lia
      have ls2 : k + nb + aG <= X.size + Y.size := by lia
      have ky : ∀ i, i < k -> le (at' X i) (at' Y (nb - 1)) := k2
      clear k2 k3 eO e1
      generalize O ++ (X.extract k na).reverse = O at j ⊢
      generalize na - k = kk at k0 ⊢
      clear k0 k1 la lx ls
      have la := la2
      have lx := lx2
      have ls := ls2
      clear la2 lx2 ls2
      obtain ⟨na, hna⟩ : ∃ na, na = k := ⟨k, rfl⟩
      subst hna
      refine wpS_bind (aK (by lia) ?_)
      have j2 : JH le (X.toList ++ Y.toList) X Y (O.push (at' Y (nb - 1))) na (nb - 1) := (j.sy.one (by lia) (by lia) fun i h1 => ky i h1).sy
      by_cases e3 : nb - 1 = 1
      ·rw [if_pos e3]
       refine wpS_pure (.inl ⟨Y.extract 0 (nb - 1) ++ X.extract 0 na ++ (O.push (at' Y (nb - 1))).reverse, ?_, j2.first e3 (by lia) (by lia) hf, sm⟩)
       simp [Array.map_reverse]
      ·rw [if_neg e3]
       refine wpS_bind (aK (by lia) ?_)
       refine wpS_bind (cg o hc sm.1 hy (hx (na - 1) (by lia)) (by lia) (by lia) (fun i k h1 h2 => sy _ _ (by lia) (by lia)) fun k k1 k2 k3 => ?_)
       dsimp only
       simp only [Nat.zero_add] at k2 k3
       have j3 : JH le (X.toList ++ Y.toList) X Y (O.push (at' Y (nb - 1)) ++ (Y.extract k (nb - 1)).reverse) na k := (j2.sy.blk (by lia) (by lia) fun i l h1 h2 h3 => o.tr _ _ _ (sx l (na - 1) (by lia) (by lia)) (k3 i h1 h2)).sy
       by_cases k0 : nb - 1 - k > 0
       ·rw [if_pos k0]
        by_cases e4 : k = 1
        ·rw [if_pos e4]
         refine wpS_pure (.inl ⟨Y.extract 0 k ++ X.extract 0 na ++ (O.push (at' Y (nb - 1)) ++ (Y.extract k (nb - 1)).reverse).reverse, ?_, j3.first e4 (by lia) (by lia) hf, sm⟩)
         simp [Array.map_reverse]
        rw [if_neg e4]
        by_cases e5 : k = 0
        ·rw [if_pos e5]
         refine wpS_pure (.inl ⟨X.extract 0 na ++ Y.extract 0 k ++ (O.push (at' Y (nb - 1)) ++ (Y.extract k (nb - 1)).reverse).reverse, ?_, j3.done1 e5 (by lia), sm⟩)
         simp [Array.map_reverse]
        rw [if_neg e5]
        refine wpS_bind (aK (by lia) ?_)
        have j4 := j3.one (by lia) (by lia) fun i h1 => k2 i h1
        have eO : ((O.map (kas_item it)).push (kas_item it (at' Y (nb - 1))) ++ ((Y.map (kas_item it)).extract k (nb - 1)).reverse).push (kas_item it (at' X (na - 1))) = ((O.push (at' Y (nb - 1)) ++ (Y.extract k (nb - 1)).reverse).push (at' X (na - 1))).map (kas_item it) := by simp [Array.map_reverse]
        by_cases e6 : na - 1 = 0
        ·rw [if_pos e6]
         refine wpS_pure (.inl ⟨X.extract 0 (na - 1) ++ Y.extract 0 k ++ ((O.push (at' Y (nb - 1)) ++ (Y.extract k (nb - 1)).reverse).push (at' X (na - 1))).reverse, ?_, j4.done2 e6 (by lia), sm⟩)
         simp [Array.map_reverse]
        ·rw [if_neg e6]
         have fin : ∀ m c d, ∃ O' na' nb' m' c' d', ((none, na - 1, k, ((O.map (kas_item it)).push (kas_item it (at' Y (nb - 1))) ++ ((Y.map (kas_item it)).extract k (nb - 1)).reverse).push (kas_item it (at' X (na - 1))), m, c, d) : Option (Array Keyed) × Nat × Nat × Array Keyed × Nat × Nat × Nat) = (none, na', nb', O'.map (kas_item it), m', c', d') /\ 1 <= na' /\ 1 < nb' /\ na' < X.size /\ nb' <= Y.size /\ na' + nb' + aG <= X.size + Y.size /\ JH le (X.toList ++ Y.toList) X Y O' na' nb' := fun m c d => ⟨_, _, _, m, c, d, by rw [eO], by lia, by lia, by lia, by lia, by lia, j4⟩
         refine bH ?_ ?_
         ·exact wpS_pure (.inr ⟨sm, fin _ _ _⟩)
         ·exact wpS_pure ⟨sm, fin _ _ _⟩
       ·rw [if_neg k0]
        have k00 : k = nb - 1 := by lia
        subst k00
        refine wpS_bind (aK (by lia) ?_)
        have j4 := j2.one (by lia) (by lia) fun i h1 => k2 i h1
        have eO : ((O.map (kas_item it)).push (kas_item it (at' Y (nb - 1)))).push (kas_item it (at' X (na - 1))) = ((O.push (at' Y (nb - 1))).push (at' X (na - 1))).map (kas_item it) := by simp
        by_cases e6 : na - 1 = 0
        ·rw [if_pos e6]
         refine wpS_pure (.inl ⟨X.extract 0 (na - 1) ++ Y.extract 0 (nb - 1) ++ ((O.push (at' Y (nb - 1))).push (at' X (na - 1))).reverse, ?_, j4.done2 e6 (by lia), sm⟩)
         simp [Array.map_reverse]
        ·rw [if_neg e6]
         have fin : ∀ m c d, ∃ O' na' nb' m' c' d', ((none, na - 1, nb - 1, ((O.map (kas_item it)).push (kas_item it (at' Y (nb - 1)))).push (kas_item it (at' X (na - 1))), m, c, d) : Option (Array Keyed) × Nat × Nat × Array Keyed × Nat × Nat × Nat) = (none, na', nb', O'.map (kas_item it), m', c', d') /\ 1 <= na' /\ 1 < nb' /\ na' < X.size /\ nb' <= Y.size /\ na' + nb' + aG <= X.size + Y.size /\ JH le (X.toList ++ Y.toList) X Y O' na' nb' := fun m c d => ⟨_, _, _, m, c, d, by rw [eO], by lia, by lia, by lia, by lia, by lia, j4⟩
         refine bH ?_ ?_
         ·exact wpS_pure (.inr ⟨sm, fin _ _ _⟩)
         ·exact wpS_pure ⟨sm, fin _ _ _⟩
     ·rw [if_neg k0]
      have k00 : na = k := by lia
      subst k00
      have ky : ∀ i, i < na -> le (at' X i) (at' Y (nb - 1)) := k2
      refine wpS_bind (aK (by lia) ?_)
      have j2 : JH le (X.toList ++ Y.toList) X Y (O.push (at' Y (nb - 1))) na (nb - 1) := (j.sy.one (by lia) (by lia) fun i h1 => ky i h1).sy
      by_cases e3 : nb - 1 = 1
      ·rw [if_pos e3]
       refine wpS_pure (.inl ⟨Y.extract 0 (nb - 1) ++ X.extract 0 na ++ (O.push (at' Y (nb - 1))).reverse, ?_, j2.first e3 (by lia) (by lia) hf, sm⟩)
       simp [Array.map_reverse]
      ·rw [if_neg e3]
       refine wpS_bind (aK (by lia) ?_)
       refine wpS_bind (cg o hc sm.1 hy (hx (na - 1) (by lia)) (by lia) (by lia) (fun i k h1 h2 => sy _ _ (by lia) (by lia)) fun k k1 k2 k3 => ?_)
       dsimp only
       simp only [Nat.zero_add] at k2 k3
       have j3 : JH le (X.toList ++ Y.toList) X Y (O.push (at' Y (nb - 1)) ++ (Y.extract k (nb - 1)).reverse) na k := (j2.sy.blk (by lia) (by lia) fun i l h1 h2 h3 => o.tr _ _ _ (sx l (na - 1) (by lia) (by lia)) (k3 i h1 h2)).sy
       by_cases k0 : nb - 1 - k > 0
       ·rw [if_pos k0]
        by_cases e4 : k = 1
        ·rw [if_pos e4]
         refine wpS_pure (.inl ⟨Y.extract 0 k ++ X.extract 0 na ++ (O.push (at' Y (nb - 1)) ++ (Y.extract k (nb - 1)).reverse).reverse, ?_, j3.first e4 (by lia) (by lia) hf, sm⟩)
         simp [Array.map_reverse]
        rw [if_neg e4]
        by_cases e5 : k = 0
        ·rw [if_pos e5]
         refine wpS_pure (.inl ⟨X.extract 0 na ++ Y.extract 0 k ++ (O.push (at' Y (nb - 1)) ++ (Y.extract k (nb - 1)).reverse).reverse, ?_, j3.done1 e5 (by lia), sm⟩)
         simp [Array.map_reverse]
        rw [if_neg e5]
        refine wpS_bind (aK (by lia) ?_)
        have j4 := j3.one (by lia) (by lia) fun i h1 => k2 i h1
        have eO : ((O.map (kas_item it)).push (kas_item it (at' Y (nb - 1))) ++ ((Y.map (kas_item it)).extract k (nb - 1)).reverse).push (kas_item it (at' X (na - 1))) = ((O.push (at' Y (nb - 1)) ++ (Y.extract k (nb - 1)).reverse).push (at' X (na - 1))).map (kas_item it) := by simp [Array.map_reverse]
        by_cases e6 : na - 1 = 0
        ·rw [if_pos e6]
         refine wpS_pure (.inl ⟨X.extract 0 (na - 1) ++ Y.extract 0 k ++ ((O.push (at' Y (nb - 1)) ++ (Y.extract k (nb - 1)).reverse).push (at' X (na - 1))).reverse, ?_, j4.done2 e6 (by lia), sm⟩)
         simp [Array.map_reverse]
        ·rw [if_neg e6]
         have fin : ∀ m c d, ∃ O' na' nb' m' c' d', ((none, na - 1, k, ((O.map (kas_item it)).push (kas_item it (at' Y (nb - 1))) ++ ((Y.map (kas_item it)).extract k (nb - 1)).reverse).push (kas_item it (at' X (na - 1))), m, c, d) : Option (Array Keyed) × Nat × Nat × Array Keyed × Nat × Nat × Nat) = (none, na', nb', O'.map (kas_item it), m', c', d') /\ 1 <= na' /\ 1 < nb' /\ na' < X.size /\ nb' <= Y.size /\ na' + nb' + aG <= X.size + Y.size /\ JH le (X.toList ++ Y.toList) X Y O' na' nb' := fun m c d => ⟨_, _, _, m, c, d, by rw [eO], by lia, by lia, by lia, by lia, by lia, j4⟩
         refine bH ?_ ?_
         ·exact wpS_pure (.inr ⟨sm, fin _ _ _⟩)
         ·exact wpS_pure ⟨sm, fin _ _ _⟩
       ·rw [if_neg k0]
        have k00 : k = nb - 1 := by lia
        subst k00
        refine wpS_bind (aK (by lia) ?_)
        have j4 := j2.one (by lia) (by lia) fun i h1 => k2 i h1
        have eO : ((O.map (kas_item it)).push (kas_item it (at' Y (nb - 1)))).push (kas_item it (at' X (na - 1))) = ((O.push (at' Y (nb - 1))).push (at' X (na - 1))).map (kas_item it) := by simp
        by_cases e6 : na - 1 = 0
        ·rw [if_pos e6]
         refine wpS_pure (.inl ⟨X.extract 0 (na - 1) ++ Y.extract 0 (nb - 1) ++ ((O.push (at' Y (nb - 1))).push (at' X (na - 1))).reverse, ?_, j4.done2 e6 (by lia), sm⟩)
         simp [Array.map_reverse]
        ·rw [if_neg e6]
         have fin : ∀ m c d, ∃ O' na' nb' m' c' d', ((none, na - 1, nb - 1, ((O.map (kas_item it)).push (kas_item it (at' Y (nb - 1)))).push (kas_item it (at' X (na - 1))), m, c, d) : Option (Array Keyed) × Nat × Nat × Array Keyed × Nat × Nat × Nat) = (none, na', nb', O'.map (kas_item it), m', c', d') /\ 1 <= na' /\ 1 < nb' /\ na' < X.size /\ nb' <= Y.size /\ na' + nb' + aG <= X.size + Y.size /\ JH le (X.toList ++ Y.toList) X Y O' na' nb' := fun m c d => ⟨_, _, _, m, c, d, by rw [eO], by lia, by lia, by lia, by lia, by lia, j4⟩
         refine bH ?_ ?_
         ·exact wpS_pure (.inr ⟨sm, fin _ _ _⟩)
         ·exact wpS_pure ⟨sm, fin _ _ _⟩
end
section
variable {α : Type}
theorem j8 (lo : Nat) : ∀ (R : List α) (p : Array α) (j : Nat), lo + j + R.length <= p.size -> ((R.zipIdx j).foldl (fun a x => a.setIfInBounds (lo + x.2) x.1) p).toList = p.toList.take (lo + j) ++ R ++ p.toList.drop (lo + j + R.length)
 | [], p, j, _ => by simp
 | r :: R, p, j, h => by
  have hl : lo + j < p.toList.length := by simp at h ⊢; lia
  rw [List.zipIdx_cons, List.foldl_cons, j8 lo R _ (j + 1) (by simp at h ⊢; lia)]
  have e1 : (p.setIfInBounds (lo + j) r).toList = p.toList.set (lo + j) r := by simp
  have e2 : (p.toList.set (lo + j) r).take (lo + (j + 1)) = p.toList.take (lo + j) ++ [r] := by
   rw [<- Nat.add_assoc, List.take_succ_eq_append_getElem (by simpa using hl), List.take_set_of_le (Nat.le_refl _)]
   simp
  have e3 : (p.toList.set (lo + j) r).drop (lo + (j + 1) + R.length) = p.toList.drop (lo + j + (r :: R).length) := by
   rw [List.drop_set_of_lt (by lia), List.length_cons]
   congr 1; lia
  rw [e1, e2, e3]
  simp
end
section
variable {prog : Program} {w : World} {A : Around} {E : Value -> Shared -> Prop} {s : Shared} {κ : SortKind} {it : Array Keyed} {n : Nat} {lt : Nat -> Nat -> Bool} {le : Nat -> Nat -> Prop}
def Stt (κ : SortKind) (it : Array Keyed) (st : SortSt) (p : Array Nat) (pend : Array (Nat × Nat × Nat)) : Prop := kindOf st = κ /\ arrOf st = p.map (kas_item it) /\ pendingOf st = pend /\ failedOf st = none
structure Srtd (le : Nat -> Nat -> Prop) (p p' : Array Nat) (lo hi : Nat) : Prop where
 perm : p'.Perm p
 out : ∀ k, k < lo \/ hi <= k -> at' p' k = at' p k
 asc : ∀ i j, lo <= i -> i <= j -> j < hi -> le (at' p' i) (at' p' j)
theorem EN {σ : Type} {M : Model} {x : σ} {Q : PUnit -> σ -> Prop} {st : σ} (h : Q ⟨⟩ x) : wpS M A E s (set x : StateT σ Sem PUnit) Q st := by
 unfold wpS
 rw [StateT.run_set]
 exact wpAny_pure ⟨rfl, h⟩
theorem Jj (l : List Nat) (k : Nat) : at' l.toArray k = (l[k]?).getD 0 := by simp [at']
theorem FD (p : Array Nat) (k : Nat) : at' p k = (p.toList[k]?).getD 0 := by simp [at']
theorem yN {p : Array Nat} {R : List Nat} {lo : Nat} (h : lo + R.length <= p.size) (k : Nat) : at' (p.toList.take lo ++ R ++ p.toList.drop (lo + R.length)).toArray k = if lo <= k /\ k < lo + R.length then (R[k - lo]?).getD 0 else at' p k := by
 rw [Jj, FD]
 have hl : (p.toList.take lo).length = lo := by rw [List.length_take]; simp; lia
 by_cases h1 : k < lo
 ·rw [if_neg (by lia), List.append_assoc, List.getElem?_append_left (by lia), List.getElem?_take, if_pos h1]
 ·by_cases h2 : k < lo + R.length
  ·rw [if_pos ⟨by lia, h2⟩, List.append_assoc, List.getElem?_append_right (by lia), hl, List.getElem?_append_left (by lia)]
  ·rw [if_neg (by lia), List.getElem?_append_right (by rw [List.length_append, hl]; lia), List.length_append, hl, List.getElem?_drop]
   congr 2; lia
theorem DM {p : Array Nat} {R : List Nat} {lo : Nat} (h : R.Perm (p.extract lo (lo + R.length)).toList) : (p.toList.take lo ++ R ++ p.toList.drop (lo + R.length)).toArray.Perm p := by
 rw [Array.perm_iff_toList_perm]
 show (p.toList.take lo ++ R ++ p.toList.drop (lo + R.length)).Perm p.toList
 refine ((h.append_left _).append_right _).trans ?_
 rw [<- jQ (by lia), List.take_append_drop]
theorem Di {p : Array Nat} {i j k : Nat} (h : i + k < j) : at' (p.extract i j) k = at' p (i + k) := by
 rw [FD, FD, Array.toList_extract, List.extract_eq_take_drop, List.getElem?_take, if_pos (by lia), List.getElem?_drop]
theorem wW {p : Array Nat} {i j : Nat} (h : j <= p.size) : (p.extract i j).size = j - i := by simp; lia
theorem Ab (o : Ord lt le) (hc : r9 prog w A s κ it n lt) {i sa na pw sb nb q : Nat} {p : Array Nat} {pend : Array (Nat × Nat × Nat)} {Q : Bool -> SortSt -> Prop} {st : SortSt} (S : Stt κ it st p pend) (h1 : pend[i]? = some (sa, na, pw)) (h2 : pend[i + 1]? = some (sb, nb, q))
  (hsb : sb = sa + na) (na1 : 1 <= na) (nb1 : 1 <= nb) (hz : sb + nb <= p.size) (hp : ∀ i, i < p.size -> at' p i < n) (sA : ∀ i j, i <= j -> j < na -> le (at' p (sa + i)) (at' p (sa + j))) (sB : ∀ i j, i <= j -> j < nb -> le (at' p (sb + i)) (at' p (sb + j)))
  (h : ∀ p' st', Stt κ it st' p' ((pend.setIfInBounds i (sa, na + nb, pw)).eraseIdxIfInBounds (i + 1)) -> Srtd le p p' sa (sa + (na + nb)) -> Q true st') : wpS (model prog w) A E s (mergeAt' i) Q st := by
 obtain ⟨S1, S2, S3, S4⟩ := S
 refine wpS_bind (wpS_get ?_)
 have S3' : (sortPriv% PySem.Builtin.SortState.pending) st = pend := S3
 have S2' : (sortPriv% PySem.Builtin.SortState.a) st = p.map (kas_item it) := S2
 rw [S3', h1, h2]
 refine wpS_bind (EN ?_)
 rw [S2']
 generalize hst : (sortPriv% PySem.Builtin.SortState.mk) _ _ _ _ _ = st2
 have T : Stt κ it st2 p ((pend.setIfInBounds i (sa, na + nb, pw)).eraseIdxIfInBounds (i + 1)) := by subst hst; exact ⟨S1, rfl, rfl, S4⟩
 clear hst S1 S2 S3 S4 S2' S3' h1 h2
 generalize ((pend.setIfInBounds i (sa, na + nb, pw)).eraseIdxIfInBounds (i + 1)) = pend2 at T h
 have sA' : ∀ i j, sa <= i -> i <= j -> j < sb -> le (at' p i) (at' p j) := fun i j a1 a2 a3 => by
  have := sA (i - sa) (j - sa) (by lia) (by lia)
  rwa [show sa + (i - sa) = i by lia, show sa + (j - sa) = j by lia] at this
 have sB' : ∀ i j, sb <= i -> i <= j -> j < sb + nb -> le (at' p i) (at' p j) := fun i j a1 a2 a3 => by
  have := sB (i - sb) (j - sb) (by lia) (by lia)
  rwa [show sb + (i - sb) = i by lia, show sb + (j - sb) = j by lia] at this
 refine wpS_bind (aK (by lia) ?_)
 refine wpS_bind (cg o hc T.1 hp (hp sb (by lia)) (by lia) (by lia) sA fun k k1 k2 k3 => ?_)
 have k2' : ∀ i, sa <= i -> i < sa + k -> le (at' p i) (at' p sb) := fun i a1 a2 => by
  have := k2 (i - sa) (by lia)
  rwa [show sa + (i - sa) = i by lia] at this
 have k3' : ∀ i, sa + k <= i -> i < sb -> le (at' p sb) (at' p i) := fun i a1 a2 => by
  have := k3 (i - sa) (by lia) (by lia)
  rwa [show sa + (i - sa) = i by lia] at this
 clear k2 k3
 dsimp only
 simp only [beq_iff_eq]
 by_cases e1 : na - k = 0
 ·rw [if_pos e1]
  refine wpS_pure (h p st2 T ⟨.refl _, fun _ _ => rfl, fun i j a1 a2 a3 => ?_⟩)
  by_cases b1 : j < sb
  ·exact sA' i j a1 a2 b1
  ·by_cases b2 : sb <= i
   ·exact sB' i j b2 a2 (by lia)
   ·exact o.tr _ _ _ (k2' i a1 (by lia)) (sB' sb j (Nat.le_refl _) (by lia) (by lia))
 rw [if_neg e1]
 refine wpS_bind (aK (by lia) ?_)
 have e2 : sa + k + (na - k) - 1 = sb - 1 := by lia
 rw [e2]
 refine wpS_bind (cg o hc T.1 hp (hp (sb - 1) (by lia)) (by lia) (by lia) sB fun m m1 k2 k3 => ?_)
 have m2' : ∀ i, sb <= i -> i < sb + m -> le (at' p i) (at' p (sb - 1)) := fun i a1 a2 => by
  have := k2 (i - sb) (by lia)
  rwa [show sb + (i - sb) = i by lia] at this
 have m3' : ∀ i, sb + m <= i -> i < sb + nb -> le (at' p (sb - 1)) (at' p i) := fun i a1 a2 => by
  have := k3 (i - sb) (by lia) (by lia)
  rwa [show sb + (i - sb) = i by lia] at this
 clear k2 k3
 dsimp only
 by_cases e3 : m = 0
 ·rw [if_pos e3]
  subst e3
  refine wpS_pure (h p st2 T ⟨.refl _, fun _ _ => rfl, fun i j a1 a2 a3 => ?_⟩)
  by_cases b1 : j < sb
  ·exact sA' i j a1 a2 b1
  ·by_cases b2 : sb <= i
   ·exact sB' i j b2 a2 (by lia)
   ·exact o.tr _ _ _ (sA' i (sb - 1) a1 (by lia) (by lia)) (m3' j (by lia) (by lia))
 rw [if_neg e3]
 generalize hr : na - k = r
 have hr1 : na = k + r := by lia
 have hr0 : 0 < r := by lia
 clear hr e1 e2
 have zx : (p.extract (sa + k) sb).size = r := by rw [wW (by lia)]; lia
 have zy : (p.extract sb (sb + m)).size = m := by rw [wW (by lia)]; lia
 have ax : ∀ i, i < r -> at' (p.extract (sa + k) sb) i = at' p (sa + k + i) := fun i hi => Di (by lia)
 have ay : ∀ i, i < m -> at' (p.extract sb (sb + m)) i = at' p (sb + i) := fun i hi => Di (by lia)
 have exy : (p.extract (sa + k) sb).toList ++ (p.extract sb (sb + m)).toList = (p.extract (sa + k) (sb + m)).toList := by
  have a1 := jQ (X := p) (i := sa + k) (j := sb) (by lia)
  have a2 := jQ (X := p) (i := sb) (j := sb + m) (by lia)
  have a3 := jQ (X := p) (i := sa + k) (j := sb + m) (by lia)
  rw [a1, a3, List.append_assoc] at a2
  exact (List.append_cancel_left a2).symm
 have key : ∀ R : Array Nat, jF le ((p.extract (sa + k) sb).toList ++ (p.extract sb (sb + m)).toList) R -> R.toList.length = r + m /\ Srtd le p (p.toList.take (sa + k) ++ R.toList ++ p.toList.drop (sa + k + R.toList.length)).toArray sa (sa + (na + nb)) := fun R g => by
  have hlen : R.toList.length = r + m := by
   rw [g.2.length_eq, List.length_append, Array.length_toList, Array.length_toList, zx, zy]
  refine ⟨hlen, ?_, fun i hi => ?_, fun i j a1 a2 a3 => ?_⟩
  ·refine DM ?_
   rw [hlen, show sa + k + (r + m) = sb + m by lia, <- exy]
   exact g.2
  ·rw [yN (by lia), if_neg (by lia)]
  ·rw [yN (by lia), yN (by lia), hlen]
   have memR : ∀ i, i < r + m -> ∃ c, (R.toList[i]?).getD 0 = at' p c /\ ((sa + k <= c /\ c < sb) \/ (sb <= c /\ c < sb + m)) := fun i hi => by
    have hi' : i < R.toList.length := by lia
    have hm : R.toList[i] ∈ R.toList := List.getElem_mem hi'
    have e : (R.toList[i]?).getD 0 = R.toList[i] := by rw [List.getElem?_eq_getElem hi']; rfl
    rw [e]
    rcases List.mem_append.mp (g.2.mem_iff.mp hm) with hm | hm
    ·obtain ⟨c, c1, c2, c3, c4⟩ := o6 hm
     exact ⟨c, c4.symm, .inl ⟨c1, c2⟩⟩
    ·obtain ⟨c, c1, c2, c3, c4⟩ := o6 hm
     exact ⟨c, c4.symm, .inr ⟨c1, c2⟩⟩
   by_cases b1 : sa + k <= i /\ i < sa + k + (r + m)
   ·rw [if_pos b1]
    by_cases b2 : sa + k <= j /\ j < sa + k + (r + m)
    ·rw [if_pos b2]
     by_cases b3 : i = j
     ·subst b3; exact o.rf _
     ·have := List.pairwise_iff_getElem.mp g.1 (i - (sa + k)) (j - (sa + k)) (by lia) (by lia) (by lia)
      rw [List.getElem?_eq_getElem (by lia), List.getElem?_eq_getElem (by lia)]
      exact this
    ·rw [if_neg b2]
     obtain ⟨c, c1, c2⟩ := memR (i - (sa + k)) (by lia)
     rw [c1]
     rcases c2 with c2 | c2
     ·exact o.tr _ _ _ (sA' c (sb - 1) (by lia) (by lia) (by lia)) (m3' j (by lia) (by lia))
     ·exact sB' c j (by lia) (by lia) (by lia)
   ·rw [if_neg b1]
    by_cases b2 : sa + k <= j /\ j < sa + k + (r + m)
    ·rw [if_pos b2]
     obtain ⟨c, c1, c2⟩ := memR (j - (sa + k)) (by lia)
     rw [c1]
     rcases c2 with c2 | c2
     ·exact sA' i c (by lia) (by lia) (by lia)
     ·exact o.tr _ _ _ (k2' i (by lia) (by lia)) (sB' sb c (Nat.le_refl _) (by lia) (by lia))
    ·rw [if_neg b2]
     by_cases b3 : j < sb
     ·exact sA' i j a1 a2 b3
     ·by_cases b4 : sb <= i
      ·exact sB' i j b4 a2 (by lia)
      ·exact o.tr _ _ _ (k2' i a1 (by lia)) (sB' sb j (Nat.le_refl _) (by lia) (by lia))
 have fin : ∀ (R : Array Nat) (st3 : SortSt), Same κ st2 st3 -> jF le ((p.extract (sa + k) sb).toList ++ (p.extract sb (sb + m)).toList) R ->
   Q (failedOf st3).isNone (setArr st3 ((R.map (kas_item it)).toList.zipIdx.foldl (fun a x => a.setIfInBounds (sa + k + x.2) x.1) (arrOf st3))) := fun R st3 sm g => by
  obtain ⟨hlen, S⟩ := key R g
  have ea : arrOf st3 = p.map (kas_item it) := sm.2.1.trans T.2.1
  have ef : failedOf st3 = none := sm.2.2.2.trans T.2.2.2
  rw [ef]
  refine h _ _ ⟨sm.1, ?_, sm.2.2.1.trans T.2.2.1, ef⟩ S
  show (R.map (kas_item it)).toList.zipIdx.foldl (fun a x => a.setIfInBounds (sa + k + x.2) x.1) (arrOf st3) = _
  rw [ea]
  apply Array.toList_inj.mp
  rw [j8 (sa + k) _ _ 0 (by simp at hlen ⊢; lia)]
  simp
 have cx : (p.map (kas_item it)).extract (sa + k) sb = (p.extract (sa + k) sb).map (kas_item it) := by simp
 have cy : (p.map (kas_item it)).extract sb (sb + m) = (p.extract sb (sb + m)).map (kas_item it) := by simp
 rw [cx, cy]
 have hx : ∀ i, i < (p.extract (sa + k) sb).size -> at' (p.extract (sa + k) sb) i < n := fun i hi => by rw [ax i (by lia)]; exact hp _ (by lia)
 have hy : ∀ i, i < (p.extract sb (sb + m)).size -> at' (p.extract sb (sb + m)) i < n := fun i hi => by rw [ay i (by lia)]; exact hp _ (by lia)
 have sx : ∀ i j, i <= j -> j < (p.extract (sa + k) sb).size -> le (at' (p.extract (sa + k) sb) i) (at' (p.extract (sa + k) sb) j) := fun i j a1 a2 => by rw [ax i (by lia), ax j (by lia)]; exact sA' _ _ (by lia) (by lia) (by lia)
 have sy : ∀ i j, i <= j -> j < (p.extract sb (sb + m)).size -> le (at' (p.extract sb (sb + m)) i) (at' (p.extract sb (sb + m)) j) := fun i j a1 a2 => by rw [ay i (by lia), ay j (by lia)]; exact sB' _ _ (by lia) (by lia) (by lia)
 have hf : ∀ i, i < (p.extract (sa + k) sb).size -> le (at' (p.extract sb (sb + m)) 0) (at' (p.extract (sa + k) sb) i) := fun i a1 => by rw [ay 0 (by lia), ax i (by lia)]; exact k3' _ (by lia) (by lia)
 have hl : ∀ i, i < (p.extract sb (sb + m)).size -> le (at' (p.extract sb (sb + m)) i) (at' (p.extract (sa + k) sb) ((p.extract (sa + k) sb).size - 1)) := fun i a1 => by
  rw [zx, ay i (by lia), ax _ (by lia), show sa + k + (r - 1) = sb - 1 by lia]
  exact m2' _ (by lia) (by lia)
 by_cases e4 : r <= m
 ·rw [if_pos e4]
  refine wpS_bind (Bi o hc T.1 hx hy (by lia) (by lia) sx sy hf hl fun R st3 sm g => ?_)
  exact wpS_bind (wpS_modify (wpS_bind (wpS_get (wpS_pure (fin R st3 sm g)))))
 ·rw [if_neg e4]
  refine wpS_bind (zT o hc T.1 hx hy (by lia) (by lia) sx sy hf hl fun R st3 sm g => ?_)
  exact wpS_bind (wpS_modify (wpS_bind (wpS_get (wpS_pure (fin R st3 sm g)))))
end
section
variable {le : Nat -> Nat -> Prop} {lt : Nat -> Nat -> Bool} {p p' p2 : Array Nat} {a b c : Nat}
def Up (le : Nat -> Nat -> Prop) (p : Array Nat) (a b : Nat) : Prop := ∀ i j, a <= i -> i <= j -> j < b -> le (at' p i) (at' p j)
def Dn (le : Nat -> Nat -> Prop) (p : Array Nat) (a b : Nat) : Prop := ∀ i j, a <= i -> i <= j -> j < b -> le (at' p j) (at' p i)
def Es (le : Nat -> Nat -> Prop) (p : Array Nat) (a b : Nat) : Prop := ∀ k, a <= k -> k < b -> le (at' p k) (at' p (b - 1)) /\ le (at' p (b - 1)) (at' p k)
def Near (p p' : Array Nat) (lo hi : Nat) : Prop := p'.Perm p /\ ∀ k, k < lo \/ hi <= k -> at' p' k = at' p k
theorem Near.rf : Near p p a b := ⟨.refl _, fun _ _ => rfl⟩
theorem Near.tr (h : Near p p' a b) (h2 : Near p' p2 a b) : Near p p2 a b := ⟨h2.1.trans h.1, fun k hk => (h2.2 k hk).trans (h.2 k hk)⟩
theorem Near.wide {d e : Nat} (h : Near p p' a b) (h1 : d <= a) (h2 : b <= e) : Near p p' d e := ⟨h.1, fun k hk => h.2 k (by lia)⟩
theorem Near.size (h : Near p p' a b) : p'.size = p.size := h.1.size_eq
theorem eH (h : b <= p.size) : Near p (kas_rev p a b) a b := ⟨mirror_perm _ _ _ _, fun k hk => by rw [b9 h, if_neg (by lia)]⟩
theorem xG {d : Nat} (h : b < p.size) (hd : d <= b) : Near p (bubble p b d) (b - d) (b + 1) := ⟨bubble_perm _ _ _, fun k hk => by rw [m8 h hd, if_neg (by lia), if_neg (by lia)]⟩
theorem Up.succ (o : Ord lt le) (h : Up le p a b) (hab : a < b) (hl : le (at' p (b - 1)) (at' p b)) : Up le p a (b + 1) := fun i j h1 h2 h3 => by
 by_cases e : j = b
 ·subst e
  by_cases e2 : i = j
  ·subst e2; exact o.rf _
  ·exact o.tr _ _ _ (h i (j - 1) h1 (by lia) (by lia)) hl
 ·exact h i j h1 h2 (by lia)
theorem Dn.succ (o : Ord lt le) (h : Dn le p a b) (hab : a < b) (hl : le (at' p b) (at' p (b - 1))) : Dn le p a (b + 1) := fun i j h1 h2 h3 => by
 by_cases e : j = b
 ·subst e
  by_cases e2 : i = j
  ·subst e2; exact o.rf _
  ·exact o.tr _ _ _ hl (h i (j - 1) h1 (by lia) (by lia))
 ·exact h i j h1 h2 (by lia)
theorem Gr (o : Ord lt le) : Up le p a (a + 1) := fun i j h1 h2 h3 => by
 have : i = j := by lia
 subst this; exact o.rf _
theorem Up.of (h : Up le p a b) (k : ∀ i, a <= i -> i < b -> at' p' i = at' p i) : Up le p' a b := fun i j h1 h2 h3 => by
 rw [k i h1 (by lia), k j (by lia) h3]; exact h i j h1 h2 h3
theorem Dn.rev (o : Ord lt le) (h : Dn le p a b) (hb : b <= p.size) (hc : a <= c) (he : Es le p c b) : Dn le (kas_rev p c b) a b := by
 have key : ∀ k, a <= k -> k < b -> ∃ k', a <= k' /\ k' < b /\ at' (kas_rev p c b) k = at' p k' /\ le (at' p k') (at' p k) /\ le (at' p k) (at' p k') := fun k hk0 hk => by
  rw [b9 hb]
  split
  ·rename_i h1
   refine ⟨c + b - 1 - k, by lia, by lia, rfl, ?_⟩
   obtain ⟨a1, a2⟩ := he k h1.1 hk
   obtain ⟨b1, b2⟩ := he (c + b - 1 - k) (by lia) (by lia)
   exact ⟨o.tr _ _ _ b1 a2, o.tr _ _ _ a1 b2⟩
  ·exact ⟨k, hk0, hk, rfl, o.rf _, o.rf _⟩
 intro i j h0 hij hj
 obtain ⟨i', _, _, e1, x1, x2⟩ := key i h0 (by lia)
 obtain ⟨j', _, _, e2, y1, y2⟩ := key j (by lia) hj
 rw [e1, e2]
 exact o.tr _ _ _ y1 (o.tr _ _ _ (h i j h0 hij hj) x2)
theorem Dn.turn (h : Dn le p a b) (hb : b <= p.size) : Up le (kas_rev p a b) a b := by
 intro i j h0 hij hj
 rw [b9 hb, b9 hb, if_pos ⟨h0, by lia⟩, if_pos ⟨by lia, hj⟩]
 exact h _ _ (by lia) (by lia) (by lia)
theorem mV (o : Ord lt le) (h : a + 1 = b) : Es le p a b := fun k h1 h2 => by
 have : k = b - 1 := by lia
 subst this
 exact ⟨o.rf _, o.rf _⟩
end
section
variable {prog : Program} {w : World} {A : Around} {E : Value -> Shared -> Prop} {s : Shared} {κ : SortKind} {it : Array Keyed} {n : Nat} {lt : Nat -> Nat -> Bool} {le : Nat -> Nat -> Prop} {p : Array Nat} {pend : Array (Nat × Nat × Nat)} {st : SortSt}
theorem fZ (hc : r9 prog w A s κ it n lt) (S : Stt κ it st p pend) (hp : ∀ i, i < p.size -> at' p i < n) {i j : Nat} {Q : Option Bool -> SortSt -> Prop} (hi : i < p.size) (hj : j < p.size) (h : Q (some (lt (at' p i) (at' p j))) st) : wpS (model prog w) A E s (ltAt' i j) Q st := by
 rw [ltAt'_eq]
 refine wpS_bind (wpS_get ?_)
 dsimp only
 rw [S.2.1]
 exact wpS_bind (aK hi (wpS_bind (aK hj (w_lt hc S.1 (hp _ hi) (hp _ hj) h))))
theorem mJ (S : Stt κ it st p pend) {i j : Nat} {Q : Unit -> SortSt -> Prop} (h : ∀ st', Stt κ it st' (kas_rev p i j) pend -> Q () st') : wpS (model prog w) A E s (reverseSlice' i j) Q st := by
 rw [reverseSlice'_eq]
 refine wpS_modify (h _ ⟨S.1, ?_, S.2.2⟩)
 show mirror (arrOf st) i j ((j - i) / 2) = _
 rw [S.2.1]
 exact kas_swaps_map (kas_item it) (fun k => i + k) (fun k => j - 1 - k) _ p
theorem FZ (S : Stt κ it st p pend) {i j : Nat} {Q : Unit -> SortSt -> Prop} (h : ∀ st', Stt κ it st' (bubble p i (i - j)) pend -> Q () st') : wpS (model prog w) A E s (moveDown' i j) Q st := by
 rw [moveDown'_eq]
 refine wpS_modify (h _ ⟨S.1, ?_, S.2.2⟩)
 show bubble (arrOf st) i (i - j) = _
 rw [S.2.1]
 exact kas_swaps_map (kas_item it) (fun k => i - k) (fun k => i - k - 1) _ p
theorem GN (o : Ord lt le) (hc : r9 prog w A s κ it n lt) (S : Stt κ it st p pend) (hp : ∀ p' : Array Nat, p'.Perm p -> ∀ i, i < p'.size -> at' p' i < n) {lo m ok : Nat} {Q : Bool -> SortSt -> Prop} (hz : lo + m <= p.size) (hok : ok <= m) (ok1 : 1 <= ok) (hs : Up le p lo (lo + ok))
  (h : ∀ p' st', Stt κ it st' p' pend -> Near p p' lo (lo + m) -> Up le p' lo (lo + m) -> Q true st') : wpS (model prog w) A E s (binarySort' lo m ok) Q st := by
 refine wpS_bind (wpS_mono (wpS_forRange (I := fun k c st' => c = (none, ()) /\ ∃ p', Stt κ it st' p' pend /\ Near p p' lo (lo + m) /\ Up le p' lo (lo + min k m))
  (Q := fun c st' => c = (none, ()) /\ ∃ p', Stt κ it st' p' pend /\ Near p p' lo (lo + m) /\ Up le p' lo (lo + m)) ?step ?fin ?init) ?post)
 case post =>
  rintro c st' ⟨rfl, p', S', N, U⟩
  exact wpS_pure (h p' st' S' N U)
 case init => exact ⟨rfl, p, S, .rf, by rw [show min (max ok 1) m = ok by lia]; exact hs⟩
 case fin =>
  rintro c st' ⟨hc', p', S', N, U⟩
  exact ⟨hc', p', S', N, by rwa [show min (max (max ok 1) m) m = m by lia] at U⟩
 case step =>
  rintro k c st' hak hkn ⟨rfl, p', S', N, U⟩
  rw [show min k m = k by lia] at U
  have hsz := N.size
  have hk1 : 1 <= k := by lia
  have hkm : k < m := by lia
  clear hak hkn hok ok1 hs
  refine wpS_bind (wpS_mono (wpS_forRange (I := fun x c st'' => st'' = st' /\ ∃ l r, c = (none, l, r) /\ l <= r /\ r <= k /\ r - l <= k - x /\
    (∀ i, i < l -> le (at' p' (lo + i)) (at' p' (lo + k))) /\ (∀ i, r <= i -> i < k -> le (at' p' (lo + k)) (at' p' (lo + i))))
   (Q := fun c st'' => st'' = st' /\ ∃ l r, c = (none, l, r) /\ l <= k /\
    (∀ i, i < l -> le (at' p' (lo + i)) (at' p' (lo + k))) /\ (∀ i, l <= i -> i < k -> le (at' p' (lo + k)) (at' p' (lo + i)))) ?istep ?ifin ?iinit) ?ipost)
  case iinit => exact ⟨rfl, 0, k, rfl, by lia, by lia, by lia, fun i hi => by lia, fun i h1 h2 => by lia⟩
  case ifin =>
   rintro c st'' ⟨rfl, l, r, rfl, hlr, hrk, hm, hlo, hhi⟩
   have : l = r := by lia
   subst this
   exact ⟨rfl, l, l, rfl, hrk, hlo, hhi⟩
  case istep =>
   rintro x c st'' _ hxk ⟨rfl, l, r, rfl, hlr, hrk, hm, hlo, hhi⟩
   dsimp only
   by_cases hge : l ≥ r
   ·rw [if_pos hge]
    have : l = r := by lia
    subst this
    exact wpS_pure ⟨rfl, l, l, rfl, hrk, hlo, hhi⟩
   ·rw [if_neg hge]
    refine wpS_bind (fZ hc S' (hp _ N.1) (by lia) (by lia) ?_)
    dsimp only
    cases cw : lt (at' p' (lo + k)) (at' p' (lo + (l + r) / 2)) with
    | true =>
     rw [if_pos rfl]
     exact wpS_pure ⟨rfl, l, (l + r) / 2, rfl, by lia, by lia, by lia, hlo, fun i h1 h2 => o.tr _ _ _ (o.yes _ _ cw) (U _ _ (by lia) (by lia) (by lia))⟩
    | false =>
     rw [if_neg (by decide)]
     exact wpS_pure ⟨rfl, (l + r) / 2 + 1, r, rfl, by lia, by lia, by lia, fun i h1 => o.tr _ _ _ (U _ _ (by lia) (by lia) (by lia)) (o.no _ _ cw), hhi⟩
  case ipost =>
   rintro c st'' ⟨rfl, l, r, rfl, hlk, hlo, hhi⟩
   dsimp only
   refine wpS_bind (FZ S' fun st3 S3 => wpS_pure ⟨rfl, _, S3, N.tr ((xG (by lia) (by lia)).wide (by lia) (by lia)), ?_⟩)
   rw [show min (k + 1) m = k + 1 by lia, show lo + k - (lo + l) = k - l by lia]
   intro i j h1 h2 h3
   rw [m8 (by lia) (by lia), m8 (by lia) (by lia)]
   rw [show lo + k - (k - l) = lo + l by lia]
   by_cases i1 : i = lo + l
   ·rw [if_pos i1]
    by_cases j1 : j = lo + l
    ·rw [if_pos j1]; exact o.rf _
    ·rw [if_neg j1]
     rw [if_pos (by lia)]
     have := hhi (j - 1 - lo) (by lia) (by lia)
     rwa [show lo + (j - 1 - lo) = j - 1 by lia] at this
   ·rw [if_neg i1]
    by_cases j1 : j = lo + l
    ·rw [if_pos j1, if_neg (by lia)]
     have := hlo (i - lo) (by lia)
     rwa [show lo + (i - lo) = i by lia] at this
    ·rw [if_neg j1]
     by_cases i2 : lo + l < i /\ i <= lo + k
     ·rw [if_pos i2, if_pos (by lia)]
      exact U _ _ (by lia) (by lia) (by lia)
     ·rw [if_neg i2]
      by_cases j2 : lo + l < j /\ j <= lo + k
      ·rw [if_pos j2]
       exact U _ _ (by lia) (by lia) (by lia)
      ·rw [if_neg j2]
       exact U _ _ (by lia) (by lia) (by lia)
end
section
variable {prog : Program} {w : World} {A : Around} {E : Value -> Shared -> Prop} {s : Shared} {κ : SortKind} {it : Array Keyed} {n : Nat} {lt : Nat -> Nat -> Bool} {le : Nat -> Nat -> Prop} {p : Array Nat} {pend : Array (Nat × Nat × Nat)} {st : SortSt}
theorem Ef (o : Ord lt le) (hc : r9 prog w A s κ it n lt) (S : Stt κ it st p pend) (hp : ∀ p' : Array Nat, p'.Perm p -> ∀ i, i < p'.size -> at' p' i < n) {lo nrem : Nat} {Q : Option Nat -> SortSt -> Prop} (h1 : 1 <= nrem) (hz : lo + nrem <= p.size)
  (h : ∀ m p' st', Stt κ it st' p' pend -> 1 <= m -> m <= nrem -> Near p p' lo (lo + m) -> Up le p' lo (lo + m) -> Q (some m) st') : wpS (model prog w) A E s (countRun' lo nrem) Q st := by
 refine wpS_bind (wpS_mono (wpS_forRange (I := fun x c st' => st' = st /\ c = (none, x) /\ x <= nrem /\ Up le p lo (lo + x))
  (Q := fun c st' => st' = st /\ ∃ m, c = (none, m) /\ 1 <= m /\ m <= nrem /\ Up le p lo (lo + m) /\ (m < nrem -> le (at' p (lo + m)) (at' p (lo + m - 1)))) ?s1 ?f1 ?i1) ?p1)
 case i1 => exact ⟨rfl, rfl, h1, Gr o⟩
 case f1 =>
  rintro c st' ⟨rfl, rfl, k1, k2⟩
  exact ⟨rfl, _, rfl, by lia, k1, k2, fun _ => by lia⟩
 case s1 =>
  rintro x c st' hx0 hx ⟨rfl, rfl, k1, k2⟩
  dsimp only
  refine wpS_bind (fZ hc S (hp p (.refl _)) (by lia) (by lia) ?_)
  dsimp only
  cases cw : lt (at' p (lo + x)) (at' p (lo + x - 1)) with
  | true =>
   rw [if_pos rfl]
   exact wpS_pure ⟨rfl, x, rfl, hx0, k1, k2, fun _ => o.yes _ _ cw⟩
  | false =>
   rw [if_neg (by decide)]
   exact wpS_pure ⟨rfl, rfl, by lia, Up.succ (b := lo + x) o k2 (by lia) (o.no _ _ cw)⟩
 case p1 =>
  rintro c st' ⟨rfl, m, rfl, m1, m2, U, hd⟩
  dsimp only
  simp only [beq_iff_eq]
  by_cases e1 : m = nrem
  ·rw [if_pos e1]
   exact wpS_pure (h m p st' S m1 m2 .rf U)
  rw [if_neg e1]
  have e1' : m < nrem := by lia
  clear e1
  by_cases e2 : m > 1
  ·rw [if_pos e2]
   refine wpS_bind (fZ hc S (hp p (.refl _)) (by lia) (by lia) ?_)
   dsimp only
   cases cw : lt (at' p lo) (at' p (lo + m - 1)) with
   | true =>
    rw [if_pos rfl]
    exact wpS_pure (h m p st' S m1 m2 .rf U)
   | false =>
    rw [if_neg (by decide)]
    have g0 := o.no _ _ cw
    refine wpS_bind (mJ S fun stx Sx => ?_)
    have same : ∀ i j, lo <= i -> i < lo + m -> lo <= j -> j < lo + m -> le (at' p i) (at' p j) := fun i j a1 a2 a3 a4 => o.tr _ _ _ (U i (lo + m - 1) a1 (by lia) (by lia)) (o.tr _ _ _ g0 (U lo j (Nat.le_refl _) a3 a4))
    have d0 : Dn le (kas_rev p lo (lo + m)) lo (lo + m) := fun i j a1 a2 a3 => by
     rw [b9 (by lia), b9 (by lia), if_pos (by lia), if_pos (by lia)]
     exact same _ _ (by lia) (by lia) (by lia) (by lia)
    have Dx : Dn le (kas_rev p lo (lo + m)) lo (lo + (m + 1)) := Dn.succ (b := lo + m) o d0 (by lia) (by
     rw [b9 (by lia), b9 (by lia), if_neg (by lia), if_pos (by lia)]
     exact o.tr _ _ _ (hd (by lia)) (same _ _ (by lia) (by lia) (by lia) (by lia)))
    have Nx : Near p (kas_rev p lo (lo + m)) lo (lo + (m + 1)) := (eH (by lia)).wide (Nat.le_refl _) (by lia)
    generalize kas_rev p lo (lo + m) = px at Sx Dx Nx
    refine wpS_bind (wpS_lift (wpAny_rule ⟨rfl, ?_⟩))
    refine wpS_bind (wpS_mono (wpS_forRange (I := fun x c st' => ∃ q p', c = (none, x, q) /\ Stt κ it st' p' pend /\ Near p p' lo (lo + x) /\ x <= nrem /\ q + 1 <= x /\ Dn le p' lo (lo + x) /\ Es le p' (lo + x - (q + 1)) (lo + x))
     (Q := fun c st' => ∃ x q p', c = (none, x, q) /\ m + 1 <= x /\ Stt κ it st' p' pend /\ Near p p' lo (lo + x) /\ x <= nrem /\ q + 1 <= x /\ Dn le p' lo (lo + x) /\ Es le p' (lo + x - (q + 1)) (lo + x)) ?s2 ?f2 ?i2) ?p2)
    case i2 => exact ⟨0, px, rfl, Sx, Nx, by lia, by lia, Dx, mV o (by lia)⟩
    case f2 =>
     rintro c st' ⟨q, p', rfl, S', N', k1, k2, D', E'⟩
     exact ⟨_, q, p', rfl, by lia, S', N', k1, k2, D', E'⟩
    case s2 =>
     rintro x c st' hx0 hx ⟨q, p', rfl, S', N', k1, k2, D', E'⟩
     dsimp only
     have hs2 := N'.size
     refine wpS_bind (fZ hc S' (hp _ N'.1) (by lia) (by lia) ?_)
     dsimp only
     cases cw : lt (at' p' (lo + x)) (at' p' (lo + x - 1)) with
     | true =>
      rw [if_pos rfl]
      have hl := o.yes _ _ cw
      by_cases q0 : q > 0
      ·rw [if_pos q0]
       refine wpS_bind (mJ S' fun st4 S4 => wpS_pure ?_)
       have d1 := D'.rev o (by lia) (by lia) E'
       have b1 : at' (kas_rev p' (lo + x - (q + 1)) (lo + x)) (lo + x) = at' p' (lo + x) := by rw [b9 (by lia), if_neg (by lia)]
       have b2 : at' (kas_rev p' (lo + x - (q + 1)) (lo + x)) (lo + x - 1) = at' p' (lo + x - (q + 1)) := by
        rw [b9 (by lia), if_pos (by lia)]
        congr 1; lia
       exact ⟨0, _, rfl, S4, (N'.tr ((eH (by lia)).wide (by lia) (by lia))).wide (by lia) (by lia), by lia, by lia, Dn.succ (b := lo + x) o d1 (by lia) (by rw [b1, b2]; exact o.tr _ _ _ hl (E' _ (Nat.le_refl _) (by lia)).2), mV o (by lia)⟩
      ·rw [if_neg q0]
       exact wpS_pure ⟨0, p', rfl, S', N'.wide (by lia) (by lia), by lia, by lia, Dn.succ (b := lo + x) o D' (by lia) hl, mV o (by lia)⟩
     | false =>
      rw [if_neg (by decide)]
      have g1 := o.no _ _ cw
      refine wpS_bind (fZ hc S' (hp _ N'.1) (by lia) (by lia) ?_)
      dsimp only
      cases cw2 : lt (at' p' (lo + x - 1)) (at' p' (lo + x)) with
      | true =>
       rw [if_pos rfl]
       exact wpS_pure ⟨x, q, p', rfl, hx0, S', N', k1, k2, D', E'⟩
      | false =>
       rw [if_neg (by decide)]
       have g2 := o.no _ _ cw2
       refine wpS_pure ⟨q + 1, p', rfl, S', N'.wide (by lia) (by lia), by lia, by lia, Dn.succ (b := lo + x) o D' (by lia) g2, fun k a1 a2 => ?_⟩
       rw [show lo + (x + 1) - 1 = lo + x by lia]
       by_cases hk : k = lo + x
       ·subst hk; exact ⟨o.rf _, o.rf _⟩
       ·obtain ⟨x1, x2⟩ := E' k (by lia) (by lia)
        exact ⟨o.tr _ _ _ x1 g1, o.tr _ _ _ g2 x2⟩
    case p2 =>
     rintro c st' ⟨x, q, p', rfl, x1, S', N', x2, x3, D', E'⟩
     dsimp only
     have hs2 := N'.size
     by_cases q0 : q > 0
     ·rw [if_pos q0]
      refine wpS_bind (mJ S' fun stX SX => ?_)
      have DX := D'.rev o (by lia) (by lia) E'
      have NX := N'.tr ((eH (by lia)).wide (a := lo + x - (q + 1)) (b := lo + x) (d := lo) (e := lo + x) (by lia) (by lia))
      generalize kas_rev p' (lo + x - (q + 1)) (lo + x) = pX at SX DX NX
      refine wpS_bind (mJ SX fun st4 S4 => ?_)
      have hs4 := NX.size
      have N4 := NX.tr (eH (a := lo) (b := lo + x) (by lia))
      have U4 := DX.turn (by lia)
      refine wpS_bind (wpS_mono (wpS_forRange (I := fun y c st' => st' = st4 /\ c = (none, y) /\ y <= nrem /\ Up le (kas_rev pX lo (lo + x)) lo (lo + y))
       (Q := fun c st' => st' = st4 /\ ∃ y, c = (none, y) /\ x <= y /\ y <= nrem /\ Up le (kas_rev pX lo (lo + x)) lo (lo + y)) ?s3 ?f3 ?i3) ?p3)
      case i3 => exact ⟨rfl, rfl, x2, U4⟩
      case f3 =>
       rintro c st' ⟨rfl, rfl, k1, k2⟩
       exact ⟨rfl, _, rfl, by lia, k1, k2⟩
      case s3 =>
       rintro y c st' hy0 hy ⟨rfl, rfl, k1, k2⟩
       dsimp only
       have hs5 := N4.size
       refine wpS_bind (fZ hc S4 (hp _ N4.1) (by lia) (by lia) ?_)
       dsimp only
       cases cw : lt (at' (kas_rev pX lo (lo + x)) (lo + y)) (at' (kas_rev pX lo (lo + x)) (lo + y - 1)) with
       | true =>
        rw [if_pos rfl]
        exact wpS_pure ⟨rfl, y, rfl, hy0, k1, k2⟩
       | false =>
        rw [if_neg (by decide)]
        exact wpS_pure ⟨rfl, rfl, by lia, Up.succ (b := lo + y) o k2 (by lia) (o.no _ _ cw)⟩
      case p3 =>
       rintro c st' ⟨rfl, y, rfl, y1, y2, U⟩
       exact wpS_pure (h y _ st' S4 (by lia) y2 (N4.wide (Nat.le_refl _) (by lia)) U)
     ·rw [if_neg q0]
      have DX := D'
      have NX := N'
      have SX := S'
      generalize p' = pX at SX DX NX
      refine wpS_bind (mJ SX fun st4 S4 => ?_)
      have hs4 := NX.size
      have N4 := NX.tr (eH (a := lo) (b := lo + x) (by lia))
      have U4 := DX.turn (by lia)
      refine wpS_bind (wpS_mono (wpS_forRange (I := fun y c st' => st' = st4 /\ c = (none, y) /\ y <= nrem /\ Up le (kas_rev pX lo (lo + x)) lo (lo + y))
       (Q := fun c st' => st' = st4 /\ ∃ y, c = (none, y) /\ x <= y /\ y <= nrem /\ Up le (kas_rev pX lo (lo + x)) lo (lo + y)) ?s3 ?f3 ?i3) ?p3)
      case i3 => exact ⟨rfl, rfl, x2, U4⟩
      case f3 =>
       rintro c st' ⟨rfl, rfl, k1, k2⟩
       exact ⟨rfl, _, rfl, by lia, k1, k2⟩
      case s3 =>
       rintro y c st' hy0 hy ⟨rfl, rfl, k1, k2⟩
       dsimp only
       have hs5 := N4.size
       refine wpS_bind (fZ hc S4 (hp _ N4.1) (by lia) (by lia) ?_)
       dsimp only
       cases cw : lt (at' (kas_rev pX lo (lo + x)) (lo + y)) (at' (kas_rev pX lo (lo + x)) (lo + y - 1)) with
       | true =>
        rw [if_pos rfl]
        exact wpS_pure ⟨rfl, y, rfl, hy0, k1, k2⟩
       | false =>
        rw [if_neg (by decide)]
        exact wpS_pure ⟨rfl, rfl, by lia, Up.succ (b := lo + y) o k2 (by lia) (o.no _ _ cw)⟩
      case p3 =>
       rintro c st' ⟨rfl, y, rfl, y1, y2, U⟩
       exact wpS_pure (h y _ st' S4 (by lia) y2 (N4.wide (Nat.le_refl _) (by lia)) U)
  ·rw [if_neg e2]
   have m11 : m = 1 := by lia
   have Sx := S
   have Dx : Dn le p lo (lo + (m + 1)) := Dn.succ (b := lo + m) o (fun i j a1 a2 a3 => by
    have : i = j := by lia
    subst this; exact o.rf _) (by lia) (hd (by lia))
   have Nx : Near p p lo (lo + (m + 1)) := .rf
   obtain ⟨px, hpx⟩ : ∃ px, px = p := ⟨p, rfl⟩
   rw [<- hpx] at Sx Dx
   replace Nx : Near p px lo (lo + (m + 1)) := by rw [hpx]; exact .rf
   refine wpS_bind (wpS_lift (wpAny_rule ⟨rfl, ?_⟩))
   refine wpS_bind (wpS_mono (wpS_forRange (I := fun x c st' => ∃ q p', c = (none, x, q) /\ Stt κ it st' p' pend /\ Near p p' lo (lo + x) /\ x <= nrem /\ q + 1 <= x /\ Dn le p' lo (lo + x) /\ Es le p' (lo + x - (q + 1)) (lo + x))
    (Q := fun c st' => ∃ x q p', c = (none, x, q) /\ m + 1 <= x /\ Stt κ it st' p' pend /\ Near p p' lo (lo + x) /\ x <= nrem /\ q + 1 <= x /\ Dn le p' lo (lo + x) /\ Es le p' (lo + x - (q + 1)) (lo + x)) ?s2 ?f2 ?i2) ?p2)
   case i2 => exact ⟨0, px, rfl, Sx, Nx, by lia, by lia, Dx, mV o (by lia)⟩
   case f2 =>
    rintro c st' ⟨q, p', rfl, S', N', k1, k2, D', E'⟩
    exact ⟨_, q, p', rfl, by lia, S', N', k1, k2, D', E'⟩
   case s2 =>
    rintro x c st' hx0 hx ⟨q, p', rfl, S', N', k1, k2, D', E'⟩
    dsimp only
    have hs2 := N'.size
    refine wpS_bind (fZ hc S' (hp _ N'.1) (by lia) (by lia) ?_)
    dsimp only
    cases cw : lt (at' p' (lo + x)) (at' p' (lo + x - 1)) with
    | true =>
     rw [if_pos rfl]
     have hl := o.yes _ _ cw
     by_cases q0 : q > 0
     ·rw [if_pos q0]
      refine wpS_bind (mJ S' fun st4 S4 => wpS_pure ?_)
      have d1 := D'.rev o (by lia) (by lia) E'
      have b1 : at' (kas_rev p' (lo + x - (q + 1)) (lo + x)) (lo + x) = at' p' (lo + x) := by rw [b9 (by lia), if_neg (by lia)]
      have b2 : at' (kas_rev p' (lo + x - (q + 1)) (lo + x)) (lo + x - 1) = at' p' (lo + x - (q + 1)) := by
       rw [b9 (by lia), if_pos (by lia)]
       congr 1; lia
      exact ⟨0, _, rfl, S4, (N'.tr ((eH (by lia)).wide (by lia) (by lia))).wide (by lia) (by lia), by lia, by lia, Dn.succ (b := lo + x) o d1 (by lia) (by rw [b1, b2]; exact o.tr _ _ _ hl (E' _ (Nat.le_refl _) (by lia)).2), mV o (by lia)⟩
     ·rw [if_neg q0]
      exact wpS_pure ⟨0, p', rfl, S', N'.wide (by lia) (by lia), by lia, by lia, Dn.succ (b := lo + x) o D' (by lia) hl, mV o (by lia)⟩
    | false =>
     rw [if_neg (by decide)]
     have g1 := o.no _ _ cw
     refine wpS_bind (fZ hc S' (hp _ N'.1) (by lia) (by lia) ?_)
     dsimp only
     cases cw2 : lt (at' p' (lo + x - 1)) (at' p' (lo + x)) with
     | true =>
      rw [if_pos rfl]
      exact wpS_pure ⟨x, q, p', rfl, hx0, S', N', k1, k2, D', E'⟩
     | false =>
      rw [if_neg (by decide)]
      have g2 := o.no _ _ cw2
      refine wpS_pure ⟨q + 1, p', rfl, S', N'.wide (by lia) (by lia), by lia, by lia, Dn.succ (b := lo + x) o D' (by lia) g2, fun k a1 a2 => ?_⟩
      rw [show lo + (x + 1) - 1 = lo + x by lia]
      by_cases hk : k = lo + x
      ·subst hk; exact ⟨o.rf _, o.rf _⟩
      ·obtain ⟨x1, x2⟩ := E' k (by lia) (by lia)
       exact ⟨o.tr _ _ _ x1 g1, o.tr _ _ _ g2 x2⟩
   case p2 =>
    rintro c st' ⟨x, q, p', rfl, x1, S', N', x2, x3, D', E'⟩
    dsimp only
    have hs2 := N'.size
    by_cases q0 : q > 0
    ·rw [if_pos q0]
     refine wpS_bind (mJ S' fun stX SX => ?_)
     have DX := D'.rev o (by lia) (by lia) E'
     have NX := N'.tr ((eH (by lia)).wide (a := lo + x - (q + 1)) (b := lo + x) (d := lo) (e := lo + x) (by lia) (by lia))
     generalize kas_rev p' (lo + x - (q + 1)) (lo + x) = pX at SX DX NX
     refine wpS_bind (mJ SX fun st4 S4 => ?_)
     have hs4 := NX.size
     have N4 := NX.tr (eH (a := lo) (b := lo + x) (by lia))
     have U4 := DX.turn (by lia)
     refine wpS_bind (wpS_mono (wpS_forRange (I := fun y c st' => st' = st4 /\ c = (none, y) /\ y <= nrem /\ Up le (kas_rev pX lo (lo + x)) lo (lo + y))
      (Q := fun c st' => st' = st4 /\ ∃ y, c = (none, y) /\ x <= y /\ y <= nrem /\ Up le (kas_rev pX lo (lo + x)) lo (lo + y)) ?s3 ?f3 ?i3) ?p3)
     case i3 => exact ⟨rfl, rfl, x2, U4⟩
     case f3 =>
      rintro c st' ⟨rfl, rfl, k1, k2⟩
      exact ⟨rfl, _, rfl, by lia, k1, k2⟩
     case s3 =>
      rintro y c st' hy0 hy ⟨rfl, rfl, k1, k2⟩
      dsimp only
      have hs5 := N4.size
      refine wpS_bind (fZ hc S4 (hp _ N4.1) (by lia) (by lia) ?_)
      dsimp only
      cases cw : lt (at' (kas_rev pX lo (lo + x)) (lo + y)) (at' (kas_rev pX lo (lo + x)) (lo + y - 1)) with
      | true =>
       rw [if_pos rfl]
       exact wpS_pure ⟨rfl, y, rfl, hy0, k1, k2⟩
      | false =>
       rw [if_neg (by decide)]
       exact wpS_pure ⟨rfl, rfl, by lia, Up.succ (b := lo + y) o k2 (by lia) (o.no _ _ cw)⟩
     case p3 =>
      rintro c st' ⟨rfl, y, rfl, y1, y2, U⟩
      exact wpS_pure (h y _ st' S4 (by lia) y2 (N4.wide (Nat.le_refl _) (by lia)) U)
    ·rw [if_neg q0]
     have DX := D'
     have NX := N'
     have SX := S'
     generalize p' = pX at SX DX NX
     refine wpS_bind (mJ SX fun st4 S4 => ?_)
     have hs4 := NX.size
     have N4 := NX.tr (eH (a := lo) (b := lo + x) (by lia))
     have U4 := DX.turn (by lia)
     refine wpS_bind (wpS_mono (wpS_forRange (I := fun y c st' => st' = st4 /\ c = (none, y) /\ y <= nrem /\ Up le (kas_rev pX lo (lo + x)) lo (lo + y))
      (Q := fun c st' => st' = st4 /\ ∃ y, c = (none, y) /\ x <= y /\ y <= nrem /\ Up le (kas_rev pX lo (lo + x)) lo (lo + y)) ?s3 ?f3 ?i3) ?p3)
     case i3 => exact ⟨rfl, rfl, x2, U4⟩
     case f3 =>
      rintro c st' ⟨rfl, rfl, k1, k2⟩
      exact ⟨rfl, _, rfl, by lia, k1, k2⟩
     case s3 =>
      rintro y c st' hy0 hy ⟨rfl, rfl, k1, k2⟩
      dsimp only
      have hs5 := N4.size
      refine wpS_bind (fZ hc S4 (hp _ N4.1) (by lia) (by lia) ?_)
      dsimp only
      cases cw : lt (at' (kas_rev pX lo (lo + x)) (lo + y)) (at' (kas_rev pX lo (lo + x)) (lo + y - 1)) with
      | true =>
       rw [if_pos rfl]
       exact wpS_pure ⟨rfl, y, rfl, hy0, k1, k2⟩
      | false =>
       rw [if_neg (by decide)]
       exact wpS_pure ⟨rfl, rfl, by lia, Up.succ (b := lo + y) o k2 (by lia) (o.no _ _ cw)⟩
     case p3 =>
      rintro c st' ⟨rfl, y, rfl, y1, y2, U⟩
      exact wpS_pure (h y _ st' S4 (by lia) y2 (N4.wide (Nat.le_refl _) (by lia)) U)
end
section
variable {le : Nat -> Nat -> Prop} {p p' : Array Nat} {a b c : Nat}
def Rn (le : Nat -> Nat -> Prop) (p : Array Nat) : Nat -> List (Nat × Nat × Nat) -> Nat -> Prop
 | a, [], b => a = b
 | a, e :: es, b => e.1 = a /\ 1 <= e.2.1 /\ Up le p a (a + e.2.1) /\ Rn le p (a + e.2.1) es b
theorem Rn.len_le : ∀ {l : List (Nat × Nat × Nat)} {a : Nat}, Rn le p a l b -> a + l.length <= b
 | [], a, h => by have : a = b := h; simp [this]
 | e :: es, a, h => by
  have := Rn.len_le h.2.2.2
  have := h.2.1
  simp; lia
theorem Rn.of : ∀ {l : List (Nat × Nat × Nat)} {a : Nat}, Rn le p a l b -> (∀ k, a <= k -> k < b -> at' p' k = at' p k) -> Rn le p' a l b
 | [], a, h, _ => h
 | e :: es, a, h, k => ⟨h.1, h.2.1, h.2.2.1.of fun i h1 h2 => k i h1 (by have := Rn.len_le h.2.2.2; lia), Rn.of h.2.2.2 fun i h1 h2 => k i (by lia) h2⟩
theorem Rn.app : ∀ {l l' : List (Nat × Nat × Nat)} {a : Nat}, Rn le p a (l ++ l') b -> ∃ c, Rn le p a l c /\ Rn le p c l' b
 | [], l', a, h => ⟨a, rfl, h⟩
 | e :: es, l', a, h => by
  obtain ⟨c, h1, h2⟩ := Rn.app h.2.2.2
  exact ⟨c, ⟨h.1, h.2.1, h.2.2.1, h1⟩, h2⟩
theorem Rn.put : ∀ {l l' : List (Nat × Nat × Nat)} {a : Nat}, Rn le p a l c -> Rn le p c l' b -> Rn le p a (l ++ l') b
 | [], l', a, h, h2 => by have : a = c := h; subst this; exact h2
 | e :: es, l', a, h, h2 => ⟨h.1, h.2.1, h.2.2.1, Rn.put h.2.2.2 h2⟩
theorem Rn.same : ∀ {l l' : List (Nat × Nat × Nat)} {a : Nat}, (l.map fun e => (e.1, e.2.1)) = (l'.map fun e => (e.1, e.2.1)) -> Rn le p a l b -> Rn le p a l' b
 | [], [], a, _, h => h
 | [], _ :: _, a, h, _ => by simp at h
 | _ :: _, [], a, h, _ => by simp at h
 | e :: es, e' :: es', a, h, k => by
  simp only [List.map_cons, List.cons.injEq, Prod.mk.injEq] at h
  obtain ⟨⟨h1, h2⟩, h3⟩ := h
  obtain ⟨k1, k2, k3, k4⟩ := k
  rw [h1] at k1
  rw [h2] at k2 k3 k4
  exact ⟨k1, k2, k3, Rn.same h3 k4⟩
theorem EY {c : Prop} [Decidable c] {k m : Nat} (h : k + 1 < m) : (if c then k - 1 else k) + 1 < m := by split <;> lia
theorem FW {α : Type} (x z : α) (r : List α) : ∀ pre : List α, (pre ++ x :: r).set pre.length z = pre ++ z :: r
 | [] => rfl
 | y :: pre => by simp
theorem B7 {α : Type} (z y : α) (r : List α) : ∀ pre : List α, (pre ++ z :: y :: r).eraseIdx (pre.length + 1) = pre ++ z :: r
 | [] => rfl
 | x :: pre => by
  have := B7 z y r pre
  simp only [List.cons_append, List.length_cons, List.eraseIdx_cons_succ, this]
theorem FL {α : Type} {l : List α} {i : Nat} (h : i + 1 < l.length) : ∃ pre x y post, l = pre ++ x :: y :: post /\ pre.length = i := by
 refine ⟨l.take i, l[i], l[i + 1], l.drop (i + 2), ?_, by rw [List.length_take]; lia⟩
 rw [<- List.drop_eq_getElem_cons h, <- List.drop_eq_getElem_cons (by lia), List.take_append_drop]
end
section
variable {prog : Program} {w : World} {A : Around} {E : Value -> Shared -> Prop} {s : Shared} {κ : SortKind} {it : Array Keyed} {n : Nat} {lt : Nat -> Nat -> Bool} {le : Nat -> Nat -> Prop} {p : Array Nat} {pend : Array (Nat × Nat × Nat)} {st : SortSt}
theorem ni (o : Ord lt le) (hc : r9 prog w A s κ it n lt) (S : Stt κ it st p pend) (hp : ∀ i, i < p.size -> at' p i < n) {i b : Nat} {Q : Bool -> SortSt -> Prop} (hi : i + 1 < pend.size) (R : Rn le p 0 pend.toList b) (hb : b <= p.size)
  (h : ∀ p' pend' st', Stt κ it st' p' pend' -> Near p p' 0 b -> Rn le p' 0 pend'.toList b -> pend'.size + 1 = pend.size -> Q true st') : wpS (model prog w) A E s (mergeAt' i) Q st := by
 obtain ⟨pre, ⟨sa, na, pw⟩, ⟨sb, nb, q⟩, post, e, hl⟩ := FL (l := pend.toList) (i := i) (by simpa using hi)
 rw [e] at R
 obtain ⟨c, R1, R2⟩ := R.app
 obtain ⟨r1, r2, r3, r4, r5, r6, r7⟩ := R2
 dsimp only at r1 r2 r3 r4 r5 r6 r7
 subst r1
 have hle := r7.len_le
 have g1 : pend[i]? = some (sa, na, pw) := by rw [<- Array.getElem?_toList, e, List.getElem?_append_right (by lia)]; simp [hl]
 have g2 : pend[i + 1]? = some (sb, nb, q) := by rw [<- Array.getElem?_toList, e, List.getElem?_append_right (by lia)]; simp [hl]
 refine Ab o hc S g1 g2 r4 r2 r5 (by lia) hp (fun i j a1 a2 => r3 _ _ (by lia) (by lia) (by lia)) (fun i j a1 a2 => r6 _ _ (by lia) (by lia) (by lia)) fun p' st' S' so => ?_
 have en : ((pend.setIfInBounds i (sa, na + nb, pw)).eraseIdxIfInBounds (i + 1)).toList = pre ++ (sa, na + nb, pw) :: post := by
  have h2 : i + 1 < (pend.setIfInBounds i (sa, na + nb, pw)).size := by simpa using hi
  rw [Array.eraseIdxIfInBounds, dif_pos h2, Array.toList_eraseIdx, Array.toList_setIfInBounds, e, <- hl]
  rw [FW, B7]
 have hle1 := R1.len_le
 refine h p' _ st' S' ⟨so.perm, fun k hk => so.out k (by lia)⟩ ?_ ?_
 ·rw [en]
  refine Rn.put (R1.of fun k _ h2 => so.out k (by lia)) ⟨rfl, by dsimp only; lia, fun i j a1 a2 a3 => so.asc i j a1 a2 a3, ?_⟩
  dsimp only
  rw [show sa + (na + nb) = sa + na + nb by lia]
  exact r7.of fun k h1 h2 => so.out k (by lia)
 ·have e4 := congrArg List.length en
  have e3 := congrArg List.length e
  rw [Array.length_toList] at e4 e3
  rw [e4, e3]
  simp only [List.length_append, List.length_cons]
  lia
theorem F3 (o : Ord lt le) (hc : r9 prog w A s κ it n lt) (S : Stt κ it st p #[]) (hp : ∀ p' : Array Nat, p'.Perm p -> ∀ i, i < p'.size -> at' p' i < n) {Q : Unit -> SortSt -> Prop}
  (h : ∀ p' pend' st', Stt κ it st' p' pend' -> p'.Perm p -> Up le p' 0 p.size -> Q () st') : wpS (model prog w) A E s sortRuns' Q st := by
 rw [sortRuns'_eq]
 refine wpS_bind (wpS_get ?_)
 dsimp only
 rw [S.2.1, Array.size_map]
 generalize minRun' p.size p.size 0 = minrun
 refine wpS_bind (wpS_mono (wpS_forRange (I := fun x c st' => ∃ lo p' pend', c = (none, lo) /\ Stt κ it st' p' pend' /\ p'.Perm p /\ Rn le p' 0 pend'.toList lo /\ lo <= p.size /\ x <= lo)
  (Q := fun c st' => ∃ p' pend', c.1 = none /\ Stt κ it st' p' pend' /\ p'.Perm p /\ Rn le p' 0 pend'.toList p.size) ?s1 ?f1 ?i1) ?p1)
 case i1 => exact ⟨0, p, #[], rfl, S, .refl _, rfl, by lia, by lia⟩
 case f1 =>
  rintro c st' ⟨lo, p', pend', rfl, S', P', R', l1, l2⟩
  have : lo = p.size := by lia
  subst this
  exact ⟨p', pend', rfl, S', P', R'⟩
 case s1 =>
  rintro x c st' _ hx ⟨lo, p', pend', rfl, S', P', R', l1, l2⟩
  dsimp only
  by_cases e1 : lo ≥ p.size
  ·rw [if_pos e1]
   have : lo = p.size := by lia
   subst this
   exact wpS_pure ⟨p', pend', rfl, S', P', R'⟩
  rw [if_neg e1]
  have hs' := P'.size_eq
  refine wpS_bind (Ef o hc S' (fun q hq => hp q (hq.trans P')) (by lia) (by lia) fun m p2 st2 S2 m1 m2 N2 U2 => ?_)
  have P2 := N2.1.trans P'
  have hs2 := P2.size_eq
  have R2 : Rn le p2 0 pend'.toList lo := R'.of fun k _ h2 => N2.2 k (.inl h2)
  dsimp only
  by_cases e2 : m < minrun
  ·rw [if_pos e2]
   refine wpS_bind (wpS_lift (wpAny_rule ⟨rfl, ?_⟩))
   refine wpS_bind (GN o hc S2 (fun q hq => hp q (hq.trans P2)) (m := min (p.size - lo) minrun) (by lia) (by lia) m1 U2 fun p3 st3 S3 N3 U3 => ?_)
   replace R2 : Rn le p3 0 pend'.toList lo := R2.of fun k _ h2 => N3.2 k (.inl h2)
   replace P2 := N3.1.trans P2
   replace S2 := S3
   replace U2 := U3
   have hnn : 1 <= min (p.size - lo) minrun := by lia
   have hnn2 : lo + min (p.size - lo) minrun <= p.size := by lia
   clear S3 U3 N3 N2 hs2
   generalize min (p.size - lo) minrun = nn at *
   rw [if_neg (by decide)]
   clear st2 p2
   generalize p3 = p2 at *
   generalize st3 = st2 at *
   refine wpS_bind (wpS_get ?_)
   rw [S2.2.2.1]
   cases hbk : pend'.back? with
   | none =>
    dsimp only
    refine wpS_bind (wpS_modify (wpS_pure ⟨lo + nn, p2, pend'.push (lo, nn, 0), rfl, ⟨S2.1, S2.2.1, ?_, S2.2.2.2⟩, P2, ?_, by lia, by lia⟩))
    ·show (pendingOf st2).push _ = _
     rw [S2.2.2.1]
    ·rw [Array.toList_push]
     exact R2.put ⟨rfl, hnn, U2, rfl⟩
   | some e =>
    obtain ⟨s1, n1, z1⟩ := e
    dsimp only
    generalize power' _ _ _ _ = pw
    refine wpS_bind (wpS_mono (wpS_forRange (I := fun y c st3 => c = (none, ()) /\ ∃ p3 pend3, Stt κ it st3 p3 pend3 /\ p3.Perm p /\ Rn le p3 0 pend3.toList lo /\ Up le p3 lo (lo + nn))
     (Q := fun c st3 => c = (none, ()) /\ ∃ p3 pend3, Stt κ it st3 p3 pend3 /\ p3.Perm p /\ Rn le p3 0 pend3.toList lo /\ Up le p3 lo (lo + nn)) ?s2 ?f2 ?i2) ?p2)
    case i2 => exact ⟨rfl, p2, pend', S2, P2, R2, U2⟩
    case f2 => exact fun c st3 h => h
    case s2 =>
     rintro y c st3 _ hy ⟨rfl, p3, pend3, S3, P3, R3, U3⟩
     refine wpS_bind (wpS_get ?_)
     rw [S3.2.2.1]
     by_cases c1 : pend3.size > 1
     ·rw [if_pos c1]
      cases hg : pend3[pend3.size - 2]? with
      | none => exact wpS_pure ⟨rfl, p3, pend3, S3, P3, R3, U3⟩
      | some e =>
       obtain ⟨z2, z3, older⟩ := e
       dsimp only
       by_cases c2 : older <= pw
       ·rw [if_pos c2]
        exact wpS_pure ⟨rfl, p3, pend3, S3, P3, R3, U3⟩
       ·rw [if_neg c2]
        have hs3 := P3.size_eq
        refine wpS_bind (ni o hc S3 (hp _ P3) (i := pend3.size - 2) (by lia) R3 (by lia) fun p4 pend4 st4 S4 N4 R4 _ => ?_)
        exact wpS_pure ⟨rfl, p4, pend4, S4, N4.1.trans P3, R4, U3.of fun i h1 h2 => N4.2 i (.inr h1)⟩
     ·rw [if_neg c1]
      exact wpS_pure ⟨rfl, p3, pend3, S3, P3, R3, U3⟩
    case p2 =>
     rintro c st3 ⟨rfl, p3, pend3, S3, P3, R3, U3⟩
     dsimp only
     refine wpS_bind (wpS_modify (wpS_bind (wpS_modify (wpS_pure ⟨lo + nn, p3, (pend3.modify (pend3.size - 1) fun e => (e.1, e.2.1, pw)).push (lo, nn, 0), rfl, ⟨S3.1, S3.2.1, ?_, S3.2.2.2⟩, P3, ?_, by lia, by lia⟩))))
     ·show ((pendingOf st3).modify ((pendingOf st3).size - 1) _).push _ = _
      rw [S3.2.2.1]
     ·rw [Array.toList_push]
      refine Rn.put (R3.same ?_) ⟨rfl, hnn, U3, rfl⟩
      apply List.ext_getElem?
      intro k
      rw [List.getElem?_map, List.getElem?_map, Array.getElem?_toList, Array.getElem?_toList, Array.getElem?_modify]
      split
      ·cases pend3[k]? <;> rfl
      ·rfl
  ·rw [if_neg e2]
   have hnn := m1
   have hnn2 : lo + m <= p.size := by lia
   refine wpS_bind (wpS_get ?_)
   rw [S2.2.2.1]
   cases hbk : pend'.back? with
   | none =>
    dsimp only
    refine wpS_bind (wpS_modify (wpS_pure ⟨lo + m, p2, pend'.push (lo, m, 0), rfl, ⟨S2.1, S2.2.1, ?_, S2.2.2.2⟩, P2, ?_, by lia, by lia⟩))
    ·show (pendingOf st2).push _ = _
     rw [S2.2.2.1]
    ·rw [Array.toList_push]
     exact R2.put ⟨rfl, hnn, U2, rfl⟩
   | some e =>
    obtain ⟨s1, n1, z1⟩ := e
    dsimp only
    generalize power' _ _ _ _ = pw
    refine wpS_bind (wpS_mono (wpS_forRange (I := fun y c st3 => c = (none, ()) /\ ∃ p3 pend3, Stt κ it st3 p3 pend3 /\ p3.Perm p /\ Rn le p3 0 pend3.toList lo /\ Up le p3 lo (lo + m))
     (Q := fun c st3 => c = (none, ()) /\ ∃ p3 pend3, Stt κ it st3 p3 pend3 /\ p3.Perm p /\ Rn le p3 0 pend3.toList lo /\ Up le p3 lo (lo + m)) ?s2 ?f2 ?i2) ?p2)
    case i2 => exact ⟨rfl, p2, pend', S2, P2, R2, U2⟩
    case f2 => exact fun c st3 h => h
    case s2 =>
     rintro y c st3 _ hy ⟨rfl, p3, pend3, S3, P3, R3, U3⟩
     refine wpS_bind (wpS_get ?_)
     rw [S3.2.2.1]
     by_cases c1 : pend3.size > 1
     ·rw [if_pos c1]
      cases hg : pend3[pend3.size - 2]? with
      | none => exact wpS_pure ⟨rfl, p3, pend3, S3, P3, R3, U3⟩
      | some e =>
       obtain ⟨z2, z3, older⟩ := e
       dsimp only
       by_cases c2 : older <= pw
       ·rw [if_pos c2]
        exact wpS_pure ⟨rfl, p3, pend3, S3, P3, R3, U3⟩
       ·rw [if_neg c2]
        have hs3 := P3.size_eq
        refine wpS_bind (ni o hc S3 (hp _ P3) (i := pend3.size - 2) (by lia) R3 (by lia) fun p4 pend4 st4 S4 N4 R4 _ => ?_)
        exact wpS_pure ⟨rfl, p4, pend4, S4, N4.1.trans P3, R4, U3.of fun i h1 h2 => N4.2 i (.inr h1)⟩
     ·rw [if_neg c1]
      exact wpS_pure ⟨rfl, p3, pend3, S3, P3, R3, U3⟩
    case p2 =>
     rintro c st3 ⟨rfl, p3, pend3, S3, P3, R3, U3⟩
     dsimp only
     refine wpS_bind (wpS_modify (wpS_bind (wpS_modify (wpS_pure ⟨lo + m, p3, (pend3.modify (pend3.size - 1) fun e => (e.1, e.2.1, pw)).push (lo, m, 0), rfl, ⟨S3.1, S3.2.1, ?_, S3.2.2.2⟩, P3, ?_, by lia, by lia⟩))))
     ·show ((pendingOf st3).modify ((pendingOf st3).size - 1) _).push _ = _
      rw [S3.2.2.1]
     ·rw [Array.toList_push]
      refine Rn.put (R3.same ?_) ⟨rfl, hnn, U3, rfl⟩
      apply List.ext_getElem?
      intro k
      rw [List.getElem?_map, List.getElem?_map, Array.getElem?_toList, Array.getElem?_toList, Array.getElem?_modify]
      split
      ·cases pend3[k]? <;> rfl
      ·rfl
 case p1 =>
  rintro ⟨c, c'⟩ st' ⟨p', pend', hc1, S', P', R'⟩
  dsimp only at hc1
  subst hc1
  dsimp only
  refine wpS_bind (wpS_mono (wpS_forRange (I := fun x c st' => ∃ p' pend', c = (none, ()) /\ Stt κ it st' p' pend' /\ p'.Perm p /\ Rn le p' 0 pend'.toList p.size /\ pend'.size + x <= p.size)
   (Q := fun c st' => ∃ p' pend', c = (none, ()) /\ Stt κ it st' p' pend' /\ p'.Perm p /\ Rn le p' 0 pend'.toList p.size /\ pend'.size <= 1) ?s5 ?f5 ?i5) ?p5)
  case i5 => exact ⟨p', pend', rfl, S', P', R', by have := R'.len_le; rw [Array.length_toList] at this; lia⟩
  case f5 =>
   rintro c st' ⟨p', pend', rfl, S', P', R', hl⟩
   exact ⟨p', pend', rfl, S', P', R', by lia⟩
  case s5 =>
   rintro x c st' _ hx ⟨p', pend', rfl, S', P', R', hl⟩
   refine wpS_bind (wpS_get ?_)
   rw [S'.2.2.1]
   by_cases e1 : pend'.size <= 1
   ·rw [if_pos e1]
    exact wpS_pure ⟨p', pend', rfl, S', P', R', e1⟩
   rw [if_neg e1]
   have hs' := P'.size_eq
   refine wpS_bind (ni o hc S' (hp _ P') ?_ R' (by lia) fun p4 pend4 st4 S4 N4 R4 h4 => ?_)
   ·exact EY (by lia)
   ·exact wpS_pure ⟨p4, pend4, rfl, S4, N4.1.trans P', R4, by lia⟩
  case p5 =>
   rintro c st' ⟨p', pend', rfl, S', P', R', hl⟩
   refine wpS_pure (h p' pend' st' S' P' ?_)
   cases hq : pend'.toList with
   | nil =>
    rw [hq] at R'
    have : 0 = p.size := R'
    intro i j _ _ h3
    lia
   | cons e es =>
    cases es with
    | nil =>
     rw [hq] at R'
     obtain ⟨r1, r2, r3, r4⟩ := R'
     have r4' : 0 + e.2.1 = p.size := r4
     rw [<- r4']
     exact r3
    | cons e2 es =>
     have := congrArg List.length hq
     rw [Array.length_toList] at this
     simp at this
     lia
end
section
variable {prog : Program} {w : World} {A : Around} {E : Value -> Shared -> Prop} {s : Shared}
structure Known (prog : Program) (w : World) (s : Shared) (vs : List Value) (κ : SortKind) (lt : Nat -> Nat -> Bool) : Prop where
 kind : ∀ (A : Around) (E : Value -> Shared -> Prop) (h' : Heap) (Q : SortKind -> Shared -> Prop), (∀ b o, s.heap.get? b = some o -> h'.get? b = some o) -> 2 <= vs.length -> Q κ { s with heap := h' } -> wpAny (model prog w) A (keyKind' vs.toArray) Q E { s with heap := h' }
 ask : ∀ (A : Around) (h' : Heap) (i j : Nat) (C : Bool -> Shared -> Prop), (∀ b o, s.heap.get? b = some o -> h'.get? b = some o) -> i < vs.length -> j < vs.length -> C (lt i j) { s with heap := h' } -> kas_ask prog w A κ vs i j C { s with heap := h' }
theorem Known.on {vs : List Value} {κ : SortKind} {lt : Nat -> Nat -> Bool} {h : Heap} (k : Known prog w s vs κ lt) (hk : ∀ b o, s.heap.get? b = some o -> h.get? b = some o) : Known prog w { s with heap := h } vs κ lt :=
 ⟨fun A E h' Q h2 => k.kind A E h' Q fun b o e => h2 b o (hk b o e), fun A h' i j C h2 => k.ask A h' i j C fun b o e => h2 b o (hk b o e)⟩
def jD (vs : List Value) (p : Array Nat) : Array Value := (p.toList.map fun i => vs.getD i Value.none).toArray
theorem yO {vs : List Value} {p : Array Nat} (h : p.size = vs.length) : (jD vs p).size = vs.length := by
 unfold jD; simp [h]
theorem xI {vs : List Value} : jD vs (List.range vs.length).toArray = vs.toArray := by
 unfold jD
 congr 1
 apply List.ext_getElem
 ·simp
 ·intro i h1 h2
  simp at h1
  simp [h1]
theorem En {le : Nat -> Nat -> Prop} (rf : ∀ a, le a a) {n : Nat} (h : n < 2) (p : Array Nat) : Asc le p n := fun i j hij hj => by
 have e : i = j := by lia
 subst e; exact rf _
theorem BI {a : Addr} {vs : List Value} {n : Nat} {κ : SortKind} {lt : Nat -> Nat -> Bool} {le : Nat -> Nat -> Prop} {P : PySem.Fin -> Shared -> Prop} (o : Ord lt le) (ho : s.heap.get? a = some (seqObj "list" vs.toArray n)) (hN : vs.length <= sizeLine)
  (hk : ∀ h', (∀ b o, b ≠ a -> s.heap.get? b = some o -> h'.get? b = some o) -> Known prog w { s with heap := h' } vs κ lt)
  (h : ∀ p : Array Nat, p.Perm (List.range vs.length).toArray -> Asc le p vs.length -> P (.done (.ret .none)) { s with heap := sortedHeap s.heap a vs (jD vs p) }) : wpAny (model prog w) A (Builtin.«list.sort» ⟨[.ref a], []⟩) P E s := by
 have ha : a < s.heap.objs.size := Heap.lt_size ho
 obtain ⟨e1, ho1⟩ : ∃ e1, (s.heap.update a (Obj.mapSeq fun _ => #[])).get? a = some (seqObj "list" #[] e1) := ⟨_, get?_update_seq ho fun _ => #[]⟩
 have ne1 : a ≠ ((s.heap.update a (Obj.mapSeq fun _ => #[])).push (seqObj "tuple" vs.toArray 0)).objs.size := by rw [size_push', Heap.size_update]; exact Nat.ne_of_lt (Nat.lt_succ_of_lt ha)
 have ne2 : a ≠ (s.heap.update a (Obj.mapSeq fun _ => #[])).objs.size := by rw [Heap.size_update]; exact Nat.ne_of_lt ha
 have ho6 : (((s.heap.update a (Obj.mapSeq fun _ => #[])).push (seqObj "tuple" vs.toArray 0)).push (seqObj "list" #[] 0)).get? a = some (seqObj "list" #[] e1) := by rw [Heap.get?_push_ne _ _ _ ne1, Heap.get?_push_ne _ _ _ ne2, ho1]
 have keep : ∀ b q, b ≠ a -> s.heap.get? b = some q -> (((s.heap.update a (Obj.mapSeq fun _ => #[])).push (seqObj "tuple" vs.toArray 0)).push (seqObj "list" #[] 0)).get? b = some q := fun b q hb hq =>
  Heap.get?_push_of_some _ (Heap.get?_push_of_some _ ((Heap.get?_update_ne _ _ _ _ hb).trans hq))
 have K := hk _ keep
 rw [list_sort_plain]; refine wpAny_bind (listItems_at ho rfl (wpAny_bind (listUpdate_at ho rfl (wpAny_bind (seqEpoch_at ho1 rfl (wpAny_bind (wpAny_newTuple (wpAny_bind (wpAny_newList (wpAny_holding ?_))))))))))
 dsimp only
 have hn : vs.toArray.size = vs.length := by simp
 have fin : ∀ (p : Array Nat) (st : SortSt), p.Perm (List.range vs.length).toArray -> Asc le p vs.length -> (arrOf st).map (·.2) = jD vs p -> failedOf st = none ->
   wpAny (model prog w) A (do
    let touched := (← seqEpoch a) != e1
    Builtin.List.listUpdate (.ref a) fun _ => (arrOf st).map (·.2)
    if let some e := failedOf st then rule "list.sort.comparison-raised"; throw e
    if touched then rule "list.sort.modified"; raiseError "ValueError" "list modified during sort"
    ret .none) P E { s with heap := ((s.heap.update a (Obj.mapSeq fun _ => #[])).push (seqObj "tuple" vs.toArray 0)).push (seqObj "list" #[] 0) } := fun p st hp hs ho2 hf => by
  have hz : (jD vs p).size <= sizeLine + 1 := by
   rw [yO (by rw [hp.size_eq]; simp)]; lia
  rw [ho2, hf]
  refine wpAny_bind (seqEpoch_at ho6 rfl (wpAny_bind (listUpdate_at ho6 rfl ?_ (hsz2 := hz))))
  simp only [bne_self_eq_false, Bool.false_eq_true, if_false]
  exact wpAny_pure (h p hp hs)
 by_cases h2 : vs.toArray.size < 2
 ·rw [if_pos h2, if_pos h2]
  refine wpAny_bind (wpAny_pure ?_)
  rw [StateT.run_pure]
  refine wpAny_bind (wpAny_pure (fin (List.range vs.length).toArray _ (Array.Perm.refl _) (En o.rf (by lia) _) ?_ rfl))
  rw [xI]
  show ((vs.toArray.zip vs.toArray).map (·.2)) = vs.toArray
  apply Array.ext
  ·simp
  ·intro i h1 h2; simp
 ·rw [if_neg h2, if_neg h2]
  refine wpAny_bind (K.kind _ _ _ _ (fun _ _ e => e) (by lia) ?_)
  have pos : 0 < vs.length := by lia
  have perm0 : ∀ p' : Array Nat, p'.Perm (List.range vs.length).toArray -> ∀ i, i < p'.size -> at' p' i < vs.length := fun p' h' i _ => Gq pos h' i
  have esz : (vs.toArray.zip vs.toArray).size = vs.length := by simp
  have er := kas_range (vs.toArray.zip vs.toArray)
  rw [esz] at er
  have run := F3 (prog := prog) (w := w) (A := A) (E := E) (κ := κ) (it := vs.toArray.zip vs.toArray) (n := vs.length) (lt := lt) (le := le) (p := (List.range vs.length).toArray) (st := SortSt.mk' κ (vs.toArray.zip vs.toArray) #[] 7 none)
   (s := { s with heap := ((s.heap.update a (Obj.mapSeq fun _ => #[])).push (seqObj "tuple" vs.toArray 0)).push (seqObj "list" #[] 0) })
   (Q := fun _ st => ∃ p : Array Nat, (arrOf st).map (·.2) = jD vs p /\ failedOf st = none /\ p.Perm (List.range vs.length).toArray /\ Asc le p vs.length) o
   (fun i j C hi hj hc => by rw [<- kat_ask_eq (ks := vs) (vs := vs) rfl]; exact K.ask _ _ i j C (fun _ _ e => e) hi hj hc) ⟨rfl, er.symm, rfl, rfl⟩ perm0
   (fun p' pend' st' S' hp hu => ⟨p', kat_snds rfl S'.2.1, S'.2.2.2, hp, fun i j hij hj => hu i j (Nat.zero_le _) hij (by simpa using hj)⟩)
  refine wpAny_bind (wpAny_mono run (fun r s' hr => ?_) fun _ _ e => e)
  ·obtain ⟨rfl, p, e2, hf, hp, hs⟩ := hr
   exact fin p r.2 hp hs e2 hf
theorem ue {l : Addr} {vs : List Value} {κ : SortKind} {lt : Nat -> Nat -> Bool} {le : Nat -> Nat -> Prop} {Q : Value -> Shared -> Prop} (o : Ord lt le) (hl : s.heap.IsList l vs.toArray) (hN : vs.length <= sizeLine) (hk : Known prog w s vs κ lt)
  (h : ∀ p : Array Nat, p.Perm (List.range vs.length).toArray -> Asc le p vs.length -> Q (.ref (s.heap.objs.size + 1)) { s with heap := sortedAll s.heap vs (jD vs p) }) : wpAny (model prog w) A (call (.builtin "sorted") [.ref l]) Q E s := by
 have hz : vs.length <= sizeLine := hN
 have sz : ((s.heap.push (seqObj "list" #[] 0)).update s.heap.objs.size (Obj.mapSeq (· ++ vs.toArray))).objs.size = s.heap.objs.size + 1 := by rw [Heap.size_update, size_push']
 have at1 : (((s.heap.push (seqObj "list" #[] 0)).update s.heap.objs.size (Obj.mapSeq (· ++ vs.toArray))).push (seqObj "list" vs.toArray 0)).get? (s.heap.objs.size + 1) = some (seqObj "list" vs.toArray 0) := by rw [<- sz]; exact Heap.get?_push_size _ rfl
 have old : ∀ b q, s.heap.get? b = some q -> b ≠ s.heap.objs.size + 1 /\ (((s.heap.push (seqObj "list" #[] 0)).update s.heap.objs.size (Obj.mapSeq (· ++ vs.toArray))).push (seqObj "list" vs.toArray 0)).get? b = some q := fun b q e => by
  have hb := Heap.lt_size e
  refine ⟨Nat.ne_of_lt (Nat.lt_succ_of_lt hb), Heap.get?_push_of_some _ ?_⟩
  rw [Heap.get?_update_ne _ _ _ _ (Nat.ne_of_lt hb)]
  exact Heap.get?_push_of_some _ e
 refine Calls.call_function_entry kind_sorted plain_sorted entry_sorted (args_sorted1 (.ref l)) ?_; unfold Builtin.«sorted»
 refine wpAny_bind (m := checkCount "sorted" 1 1 _) (wpAny_pure (wpAny_bind (collect_list hl (wpAny_bind (wpAny_newList ?_ hz)) hz)))
 show wpAny (model prog w) _ _ _ _ { s with heap := ((s.heap.push (seqObj "list" #[] 0)).update s.heap.objs.size (Obj.mapSeq (· ++ vs.toArray))).push (seqObj "list" vs.toArray 0) }
 rw [sz]
 refine wpAny_bind (wpAny_holding (wpAny_call_entry slot_list_sort ⟨_, at1, rfl⟩ entry_list_sort (BI (κ := κ) (le := le) o at1 hN (fun h' kp => ?_) fun p hp hs => ⟨_, rfl, wpAny_pure ⟨_, rfl, h p hp hs⟩⟩) (args_list_sort _)))
 exact hk.on fun b q e => kp b q (old b q e).1 (old b q e).2
end
section
variable {prog : Program} {w : World} {A : Around} {E : Value -> Shared -> Prop} {s : Shared}
def gj : List Int -> List Int -> Bool
 | [], [] => false
 | [], _ :: _ => true
 | _ :: _, [] => false
 | x :: xs, y :: ys => if x = y then gj xs ys else decide (x < y)
theorem nP : ∀ a : List Int, gj a a = false
 | [] => rfl
 | x :: xs => by unfold gj; rw [if_pos rfl]; exact nP xs
theorem pi : ∀ a b : List Int, gj a b = true -> gj b a = false
 | [], [], h => by unfold gj at h; cases h
 | [], _ :: _, _ => by unfold gj; rfl
 | _ :: _, [], h => by unfold gj at h; cases h
 | x :: xs, y :: ys, h => by
  unfold gj at h ⊢
  by_cases e : x = y
  ·rw [if_pos e] at h; rw [if_pos e.symm]; exact pi xs ys h
  ·rw [if_neg e] at h
   rw [if_neg (Ne.symm e)]
   have := of_decide_eq_true h
   exact decide_eq_false (by lia)
theorem pq : ∀ a b c : List Int, gj b a = false -> gj c b = false -> gj c a = false
 | [], _, [], _, _ => rfl
 | [], [], _ :: _, _, h => by unfold gj at h; cases h <;> rfl
 | [], _ :: _, _ :: _, _, _ => by unfold gj; rfl
 | _ :: _, [], _, h, _ => by unfold gj at h; cases h
 | x :: xs, y :: ys, [], _, h => by unfold gj at h; cases h
 | x :: xs, y :: ys, z :: zs, h1, h2 => by
  unfold gj at h1 h2 ⊢
  by_cases e1 : y = x
  ·rw [if_pos e1] at h1
   by_cases e2 : z = y
   ·rw [if_pos e2] at h2
    rw [if_pos (e2.trans e1)]
    exact pq xs ys zs h1 h2
   ·rw [if_neg e2] at h2
    rw [if_neg (by lia)]
    have := of_decide_eq_false h2
    exact decide_eq_false (by lia)
  ·rw [if_neg e1] at h1
   have g1 := of_decide_eq_false h1
   by_cases e2 : z = y
   ·rw [if_neg (by lia)]
    exact decide_eq_false (by lia)
   ·rw [if_neg e2] at h2
    have g2 := of_decide_eq_false h2
    rw [if_neg (by lia)]
    exact decide_eq_false (by lia)
theorem CL (f : Nat -> List Int) : Ord (fun i j => gj (f i) (f j)) (fun i j => gj (f j) (f i) = false) :=
 ⟨fun a b c h1 h2 => pq _ _ _ h1 h2, fun a => nP _, fun a b h => pi _ _ h, fun a b h => h⟩
def Hm (h : Heap) (v : Value) (ns : List Int) : Prop := ∃ a o xs n, v = .ref a /\ h.get? a = some o /\ o.cls = .type "tuple" /\ o.data = .seq xs n /\ IntsAre xs.toList ns
theorem D1 : ∀ (xs ys : List Value) (ns ms : List Int) (i : Nat) (fin : Bool) (Q : Bool -> Shared -> Prop), IntsAre xs ns -> IntsAre ys ms -> (fin = decide (xs.length < ys.length)) -> Q (gj ns ms) s ->
  KatLex prog w A true fin Q (xs.zip ys) i s := by
 intro xs
 induction xs with
 | nil =>
  intro ys ns ms i fin Q hx hy hf hq
  cases hx
  rw [List.zip_nil_left]
  show Q fin s
  rw [hf]
  cases hy with
  | nil => exact hq
  | cons b u ty => exact hq
 | cons x xs ih =>
  intro ys ns ms i fin Q hx hy hf hq
  cases hx with
  | cons a t tx =>
   cases hy with
   | nil =>
    rw [List.zip_nil_right]
    show Q fin s
    rw [hf]
    exact hq
   | @cons c u ys' ms' ty =>
    rw [List.zip_cons_cons]
    refine kat_cons ((SeqAt.EqAt.int_int a t c u) prog w _ _ ?_)
    unfold gj at hq
    by_cases e : a = c
    ·rw [if_pos e] at hq
     have eb : (a == c) = true := by simpa using e
     rw [eb]
     exact kat_yes (ih ys' _ ms' (i + 1) fin Q tx ty (by rw [hf]; simp) hq)
    ·rw [if_neg e] at hq
     have eb : (a == c) = false := by simpa using e
     rw [eb]
     refine kat_no ?_
     cases q : i == 0 with
     | true => exact oneLt_int hq
     | false => exact kat_one _ _ (lt_int hq)
theorem yQ {vs : List Value} {f : Nat -> List Int} (hv : ∀ i, i < vs.length -> Hm s.heap (vs.getD i Value.none) (f i) /\ f i ≠ []) : Known prog w s vs (tuples' true) fun i j => gj (f i) (f j) := by
 refine ⟨fun A E h' Q hk h2 hq => ?_, fun A h' i j C hk hi hj hc => ?_⟩
 ·have hv' : ∀ v ∈ vs, ∃ n t c9 a o xs k, v = .ref a /\ h'.get? a = some o /\ o.cls = .type "tuple" /\ o.data = .seq xs k /\ xs.toList = Value.int n t :: c9 := fun v hm => by
   obtain ⟨i, hi, e⟩ := List.getElem_of_mem hm
   obtain ⟨⟨a, o, xs, k, e1, e2, e3, e4, e5⟩, ne⟩ := hv i hi
   have ev : vs.getD i Value.none = v := by rw [List.getD_eq_getElem?_getD, List.getElem?_eq_getElem hi]; exact e
   rw [ev] at e1
   revert e5 ne
   generalize f i = ns
   generalize ex : xs.toList = L
   intro ne e5
   cases e5 with
   | nil => exact absurd rfl ne
   | @cons n t vs' ns' tl => exact ⟨n, t, vs', a, o, xs, k, e1, hk _ _ e2, e3, e4, ex⟩
  have fs : ∀ L : List Value, (∀ v ∈ L, ∃ n t c9 a o xs k, v = .ref a /\ h'.get? a = some o /\ o.cls = .type "tuple" /\ o.data = .seq xs k /\ xs.toList = Value.int n t :: c9) -> ∃ gs, KatTups h' L gs /\ gs.length = L.length /\ ∀ v ∈ gs, ∃ n t, v = Value.int n t := by
   intro L
   induction L with
   | nil => exact fun _ => ⟨[], .nil, rfl, fun _ h => (by cases h)⟩
   | cons v L ih =>
    intro hL
    obtain ⟨gs, g1, g2, g3⟩ := ih fun u hu => hL u (List.mem_cons_of_mem _ hu)
    obtain ⟨n, t, c9, a, o, xs, k, rfl, e2, e3, e4, e5⟩ := hL v List.mem_cons_self
    refine ⟨.int n t :: gs, .cons e2 e3 e4 (by rw [<- Array.getElem?_toList, e5]; rfl) g1, by rw [List.length_cons, List.length_cons, g2], fun u hu => ?_⟩
    rcases List.mem_cons.mp hu with rfl | hu
    ·exact ⟨n, t, rfl⟩
    ·exact g3 u hu
  obtain ⟨gs, g1, g2, g3⟩ := fs vs hv'
  refine kat_kind (s := { s with heap := h' }) (T := .type "int") g1 (by lia) (fun v hm => ?_) (by decide) hq
  obtain ⟨n, t, rfl⟩ := g3 v hm
  exact Looks.of_pure rfl
 ·obtain ⟨⟨a, o, xs, k, e1, e2, e3, e4, e5⟩, _⟩ := hv i hi
  obtain ⟨⟨a', o', xs', k', e1', e2', e3', e4', e5'⟩, _⟩ := hv j hj
  unfold kas_ask
  rw [e1, e1']
  refine kat_lt (s := { s with heap := h' }) (hk _ _ e2) e4 (hk _ _ e2') e4' ?_
  refine D1 (s := { s with heap := h' }) _ _ _ _ _ _ _ e5 e5' ?_ hc
  simp
theorem o5 : ∀ {vs : List Value} {ns : List Int}, IntsAre vs ns -> ∀ i, i < vs.length -> ∃ t, vs.getD i Value.none = .int (ns.getD i 0) t
 | _, _, .nil, i, h => by simp at h
 | _, _, .cons n t _, 0, _ => ⟨t, rfl⟩
 | _, _, .cons n t tl, i + 1, h => by
  obtain ⟨u, e⟩ := o5 tl i (by simpa using h)
  exact ⟨u, by simpa using e⟩
theorem yD {vs : List Value} {ns : List Int} (hI : IntsAre vs ns) : Known prog w s vs oneType' fun i j => decide (ns.getD i 0 < ns.getD j 0) := by
 refine ⟨fun A E h' Q hk h2 hq => ?_, fun A h' i j C hk hi hj hc => ?_⟩
 ·rw [ksk_kind (keys := vs.toArray) (kz := ns) (by simpa using hI) (by simpa using h2)]
  exact wpAny_pure hq
 ·obtain ⟨t, e1⟩ := o5 hI i hi
  obtain ⟨u, e2⟩ := o5 hI j hj
  unfold kas_ask
  rw [e1, e2, keyLt'_oneType]
  exact oneLt_int hc
theorem BB (f : Nat -> Int) : Ord (fun i j => decide (f i < f j)) (fun i j => f i <= f j) :=
 ⟨fun _ _ _ h k => Int.le_trans h k, fun _ => Int.le_refl _, fun a b h => Int.le_of_lt (of_decide_eq_true h), fun a b h => by have := of_decide_eq_false h; show f b <= f a; lia⟩
theorem fY {vs : List Value} {ns : List Int} (hI : IntsAre vs ns) : ∀ L : List Nat, (∀ i ∈ L, i < vs.length) -> IntsAre (L.map fun i => vs.getD i Value.none) (L.map fun i => ns.getD i 0)
 | [], _ => .nil
 | i :: L, h => by
  obtain ⟨t, e⟩ := o5 hI i (h i List.mem_cons_self)
  rw [List.map_cons, List.map_cons, e]
  exact .cons _ t (fY hI L fun j hj => h j (List.mem_cons_of_mem _ hj))
theorem wG : ∀ {vs : List Value} {ns : List Int}, IntsAre vs ns -> vs.length = ns.length
 | _, _, .nil => rfl
 | _, _, .cons n t tl => by rw [List.length_cons, List.length_cons, wG tl]
theorem uW {l : Addr} {vs : List Value} {ns : List Int} {Q : Value -> Shared -> Prop} (hl : s.heap.IsList l vs.toArray) (hI : IntsAre vs ns) (hN : vs.length <= sizeLine)
  (h : ∀ (out : Array Value) ms, IntsAre out.toList ms -> ms.Perm ns -> ms.Pairwise (· <= ·) -> Q (.ref (s.heap.objs.size + 1)) { s with heap := sortedAll s.heap vs out }) : wpAny (model prog w) A (call (.builtin "sorted") [.ref l]) Q E s := by
 refine ue (BB fun i => ns.getD i 0) hl hN (yD hI) fun p hp ha => ?_
 have e := wG hI
 have hb : ∀ i ∈ p.toList, i < vs.length := fun i hi => by simpa using (Array.perm_iff_toList_perm.mp hp).mem_iff.mp hi
 rw [e] at hp ha
 obtain ⟨p1, p2⟩ := yh (vs := ns) (d := 0) hp ha
 exact h (jD vs p) _ (by simpa [jD] using fY hI p.toList hb) p1 (p2 _ fun i j _ _ h => h)
end
end Srt
namespace L2
open PySem
def FB (K : W.Frag) : List V -> Hp -> VK -> Prop := fun xs H Q => ∃ p ys, xs = [.ref p] /\ ((SqL K H p ys /\ ∀ l, H l = none -> Q (.ref l) (upd H l (.tup ys))) \/ (SqT K H p ys /\ Q (.ref p) H))
def GK : List V -> Hp -> VK -> Prop := fun xs H Q => ∃ i j, xs = [.int i, .int j] /\ Q (.int (if j > i then j else i)) H
def G4 (K : W.Frag) (ta : TE) : TT := fun σ H Q => ta σ H fun x H' => ∃ k, BD K x H' k /\ Q k H'
def xH (K : W.Frag) : List V -> Hp -> VK -> Prop := fun xs H Q => ∃ p, ∃ ns : List Int, xs = [.ref p] /\ SqL K H p (ns.map V.int) /\ ns.length < 30000 /\
 ∀ (ms : List Int) l, ms.Perm ns -> ms.Pairwise (· <= ·) -> H l = none -> Q (.ref l) (upd H l (.lst (ms.map V.int)))
def Fd (K : W.Frag) : List V -> Hp -> VK -> Prop := fun xs H Q => ∃ p, ∃ ns : List Int, xs = [.ref p] /\ SqL K H p (ns.map V.int) /\ Q (.int ns.sum) H
def EO (K : W.Frag) (tl : TE) : TI := fun σ H R => tl σ H fun x H1 => ∃ a, x = .ref a /\ (((∃ xs, SqL K H1 a xs) /\ R (Itl K a) H1) \/ ((∃ xs, SqT K H1 a xs) /\ R (Itt K a) H1))
end L2
namespace M
open PySem L2
inductive D where
 | non | bl (b : Bool) | int (i : Int) | str (x : Str) | ty (n : String) | lst (l : List D) | tup (l : List D) | scr (l : List D) | ins (N : Str) (ns : List Str) (l : List D) | dic (ks : List (List Int)) | dif (ks : List (List Int)) | mtp (l : List D)
 deriving Inhabited
theorem cP {S S' : Hp} (s : Same S S') {a : Addr} {u : HO} (h : Rd S a u) : Rd S' a u := h.elim (fun e => .inl (s _ _ e)) fun ⟨o, e⟩ => .inr ⟨o, s _ _ e⟩
theorem dM {K : W.Frag} {S S' : Hp} (s : Same S S') {a : Addr} {xs : List V} (h : SqL K S a xs) : SqL K S' a xs := h.elim (fun e => .inl (cP s e)) .inr
theorem bf {K : W.Frag} {S S' : Hp} (s : Same S S') {a : Addr} {xs : List V} (h : SqT K S a xs) : SqT K S' a xs := h.elim (fun e => .inl (cP s e)) .inr
def TpA (K : W.Frag) (S : Hp) (a : Addr) (xs : List V) : Prop := S a = some (.tup xs)
theorem TpA.of {K : W.Frag} {S : Hp} {a : Addr} {xs : List V} (h : S a = some (.tup xs)) : TpA K S a xs := h
theorem TpA.sq {K : W.Frag} {S : Hp} {a : Addr} {xs : List V} (h : TpA K S a xs) : SqT K S a xs := SqT.of h
theorem TpA.mono {K : W.Frag} {S S' : Hp} (s : Same S S') {a : Addr} {xs : List V} (h : TpA K S a xs) : TpA K S' a xs := s _ _ h
def bK (ks : List (List Int)) : List (List Key × V) := ks.map fun k => (k.map Sum.inl, V.bl true)
mutual
def Den (K : W.Frag) (S : Hp) : D -> V -> Prop
 | .non, v => v = .non
 | .bl b, v => v = .bl b
 | .int i, v => v = .int i
 | .str x, v => v = .str x
 | .ty x, v => v = .ty x
 | .lst l, v => ∃ p xs, v = .ref p /\ Rd S p (.lst xs) /\ Dens K S l xs
 | .tup l, v => ∃ p xs, v = .ref p /\ TpA K S p xs /\ Dens K S l xs
 | .scr l, v => ∃ p xs, v = .ref p /\ SqL K S p xs /\ Dens K S l xs
 | .mtp l, v => ∃ p xs, v = .ref p /\ SqT K S p xs /\ Dens K S l xs
 | .ins N ns l, v => ∃ p C dx fs, v = .ref p /\ W.nsIn K mainGlobals N = some (some (.ref C)) /\ S p = some (.ins C dx fs) /\ fs.map (·.1) = ns /\ Dens K S l (fs.map (·.2))
 | .dic ks, v => ∃ p, v = .ref p /\ Rd S p (.dT (bK ks))
 | .dif ks, v => ∃ p o, v = .ref p /\ S p = some (.frz o (.dT (bK ks)))
def Dens (K : W.Frag) (S : Hp) : List D -> List V -> Prop
 | [], xs => xs = []
 | d :: ds, xs => ∃ y ys, xs = y :: ys /\ Den K S d y /\ Dens K S ds ys
end
section
variable {K : W.Frag} {S S' H H' : Hp}
theorem Dens.nil : Dens K S [] [] := by unfold Dens; rfl
theorem Dens.cons {d : D} {ds : List D} {y : V} {ys : List V} (h : Den K S d y) (k : Dens K S ds ys) : Dens K S (d :: ds) (y :: ys) := by unfold Dens; exact ⟨y, ys, rfl, h, k⟩
theorem Dens.nil_of {xs : List V} (h : Dens K S [] xs) : xs = [] := by unfold Dens at h; exact h
theorem Dens.cons_of {d : D} {ds : List D} {xs : List V} (h : Dens K S (d :: ds) xs) : ∃ y ys, xs = y :: ys /\ Den K S d y /\ Dens K S ds ys := by unfold Dens at h; exact h
theorem Dens.length : ∀ {ds : List D} {xs : List V}, Dens K S ds xs -> ds.length = xs.length
 | [], _, h => by rw [h.nil_of]; rfl
 | _ :: _, _, h => by
  obtain ⟨y, ys, rfl, _, k⟩ := h.cons_of
  rw [List.length_cons, List.length_cons, k.length]
theorem Dens.append : ∀ {ds es : List D} {xs ys : List V}, Dens K S ds xs -> Dens K S es ys -> Dens K S (ds ++ es) (xs ++ ys)
 | [], _, _, _, h, k => by rw [h.nil_of]; exact k
 | _ :: _, _, _, _, h, k => by
  obtain ⟨y, ys, rfl, a, b⟩ := h.cons_of
  exact .cons a (b.append k)
theorem Dens.get : ∀ {ds : List D} {xs : List V} {i : Nat} {d : D}, Dens K S ds xs -> ds[i]? = some d -> ∃ x, xs[i]? = some x /\ Den K S d x
 | [], _, _, _, _, e => by simp at e
 | _ :: _, _, 0, _, h, e => by
  obtain ⟨y, ys, rfl, a, b⟩ := h.cons_of
  simp at e; subst e
  exact ⟨y, rfl, a⟩
 | _ :: _, _, i + 1, _, h, e => by
  obtain ⟨y, ys, rfl, a, b⟩ := h.cons_of
  obtain ⟨x, e1, h1⟩ := b.get (i := i) (by simpa using e)
  exact ⟨x, by simpa using e1, h1⟩
theorem Dens.set : ∀ {ds : List D} {xs : List V} {d : D} {x : V} (i : Nat), Dens K S ds xs -> Den K S d x -> Dens K S (ds.set i d) (xs.set i x)
 | [], _, _, _, _, h, _ => by rw [h.nil_of]; exact .nil
 | _ :: _, _, _, _, 0, h, k => by
  obtain ⟨y, ys, rfl, a, b⟩ := h.cons_of
  exact .cons k b
 | _ :: _, _, _, _, i + 1, h, k => by
  obtain ⟨y, ys, rfl, a, b⟩ := h.cons_of
  exact .cons a (b.set i k)
mutual
theorem Den.mono (s : Same S S') : ∀ {d : D} {v : V}, Den K S d v -> Den K S' d v
 | .dic _, _, h => by
  unfold Den at *
  obtain ⟨p, e, h1⟩ := h
  exact ⟨p, e, cP s h1⟩
 | .dif _, _, h => by
  unfold Den at *
  obtain ⟨p, o, e, h1⟩ := h
  exact ⟨p, o, e, s _ _ h1⟩
 | .non, _, h => by unfold Den at *; exact h
 | .bl _, _, h => by unfold Den at *; exact h
 | .int _, _, h => by unfold Den at *; exact h
 | .str _, _, h => by unfold Den at *; exact h
 | .ty _, _, h => by unfold Den at *; exact h
 | .lst _, _, h => by
  unfold Den at *
  obtain ⟨p, xs, e, h1, h2⟩ := h
  exact ⟨p, xs, e, cP s h1, Dens.mono s h2⟩
 | .tup _, _, h => by
  unfold Den at *
  obtain ⟨p, xs, e, h1, h2⟩ := h
  exact ⟨p, xs, e, TpA.mono s h1, Dens.mono s h2⟩
 | .scr _, _, h => by
  unfold Den at *
  obtain ⟨p, xs, e, h1, h2⟩ := h
  exact ⟨p, xs, e, dM s h1, Dens.mono s h2⟩
 | .mtp _, _, h => by
  unfold Den at *
  obtain ⟨p, xs, e, h1, h2⟩ := h
  exact ⟨p, xs, e, bf s h1, Dens.mono s h2⟩
 | .ins _ _ _, _, h => by
  unfold Den at *
  obtain ⟨p, C, dx, fs, e, h0, h1, h2, h3⟩ := h
  exact ⟨p, C, dx, fs, e, h0, s _ _ h1, h2, Dens.mono s h3⟩
theorem Dens.mono (s : Same S S') : ∀ {ds : List D} {xs : List V}, Dens K S ds xs -> Dens K S' ds xs
 | [], _, h => by rw [h.nil_of]; exact .nil
 | _ :: _, _, h => by
  obtain ⟨y, ys, rfl, a, b⟩ := h.cons_of
  exact .cons (Den.mono s a) (Dens.mono s b)
end
theorem den_int {i : Int} {v : V} : Den K S (.int i) v ↔ v = .int i := by unfold Den; exact Iff.rfl
theorem den_bl {b : Bool} {v : V} : Den K S (.bl b) v ↔ v = .bl b := by unfold Den; exact Iff.rfl
theorem den_non {v : V} : Den K S .non v ↔ v = .non := by unfold Den; exact Iff.rfl
theorem den_str {x : Str} {v : V} : Den K S (.str x) v ↔ v = .str x := by unfold Den; exact Iff.rfl
theorem IY {x : String} {v : V} : Den K S (.ty x) v ↔ v = .ty x := by unfold Den; exact Iff.rfl
theorem den_tup {l : List D} {v : V} : Den K S (.tup l) v ↔ ∃ p xs, v = .ref p /\ TpA K S p xs /\ Dens K S l xs := by
 constructor
 ·intro h; unfold Den at h; exact h
 ·intro h; unfold Den; exact h
theorem iu {l : List D} {v : V} (h : Den K S (.tup l) v) : ∃ p xs, v = .ref p /\ SqT K S p xs /\ Dens K S l xs := by
 obtain ⟨p, xs, e, h1, h2⟩ := den_tup.mp h
 exact ⟨p, xs, e, h1.sq, h2⟩
theorem den_lst {l : List D} {v : V} : Den K S (.lst l) v ↔ ∃ p xs, v = .ref p /\ Rd S p (.lst xs) /\ Dens K S l xs := by
 constructor
 ·intro h; unfold Den at h; exact h
 ·intro h; unfold Den; exact h
theorem den_scr {l : List D} {v : V} : Den K S (.scr l) v ↔ ∃ p xs, v = .ref p /\ SqL K S p xs /\ Dens K S l xs := by
 constructor
 ·intro h; unfold Den at h; exact h
 ·intro h; unfold Den; exact h
theorem den_mtp {l : List D} {v : V} : Den K S (.mtp l) v ↔ ∃ p xs, v = .ref p /\ SqT K S p xs /\ Dens K S l xs := by
 constructor
 ·intro h; unfold Den at h; exact h
 ·intro h; unfold Den; exact h
theorem den_ins {N : Str} {ns : List Str} {l : List D} {v : V} : Den K S (.ins N ns l) v ↔ ∃ p C dx fs, v = .ref p /\ W.nsIn K mainGlobals N = some (some (.ref C)) /\ S p = some (.ins C dx fs) /\ fs.map (·.1) = ns /\ Dens K S l (fs.map (·.2)) := by
 constructor
 ·intro h; unfold Den at h; exact h
 ·intro h; unfold Den; exact h
def DenP (K : W.Frag) (S H : Hp) (d : D) (v : V) : Prop := Den K S d v \/ ∃ l p xs, d = .lst l /\ v = .ref p /\ H p = some (.lst xs) /\ Dens K S l xs
theorem DenP.lst {l : List D} {v : V} (s : Same S H) (h : DenP K S H (.lst l) v) : ∃ p xs, v = .ref p /\ Rd H p (.lst xs) /\ Dens K S l xs := by
 rcases h with h | ⟨l', p, xs, e, e1, e2, e3⟩
 ·obtain ⟨p, xs, e, e1, e2⟩ := den_lst.mp h
  exact ⟨p, xs, e, cP s e1, e2⟩
 ·cases e
  exact ⟨p, xs, e1, .inl e2, e3⟩
theorem DenP.tup {l : List D} {v : V} (s : Same S H) (h : DenP K S H (.tup l) v) : ∃ p xs, v = .ref p /\ SqT K H p xs /\ Dens K S l xs := by
 rcases h with h | ⟨l', p, xs, e, e1, e2, e3⟩
 ·obtain ⟨p, xs, e, e1, e2⟩ := iu h
  exact ⟨p, xs, e, bf s e1, e2⟩
 ·cases e
theorem DenP.scr {l : List D} {v : V} (s : Same S H) (h : DenP K S H (.scr l) v) : ∃ p xs, v = .ref p /\ SqL K H p xs /\ Dens K S l xs := by
 rcases h with h | ⟨l', p, xs, e, e1, e2, e3⟩
 ·obtain ⟨p, xs, e, e1, e2⟩ := den_scr.mp h
  exact ⟨p, xs, e, dM s e1, e2⟩
 ·cases e
theorem DenP.int {i : Int} {v : V} (h : DenP K S H (.int i) v) : v = .int i := by
 rcases h with h | ⟨l', p, xs, e, _⟩
 ·exact den_int.mp h
 ·cases e
theorem DenP.bl {i : Bool} {v : V} (h : DenP K S H (.bl i) v) : v = .bl i := by
 rcases h with h | ⟨l', p, xs, e, _⟩
 ·exact den_bl.mp h
 ·cases e
theorem DenP.str {i : Str} {v : V} (h : DenP K S H (.str i) v) : v = .str i := by
 rcases h with h | ⟨l', p, xs, e, _⟩
 ·exact den_str.mp h
 ·cases e
theorem DenP.non {v : V} (h : DenP K S H .non v) : v = .non := by
 rcases h with h | ⟨l', p, xs, e, _⟩
 ·exact den_non.mp h
 ·cases e
structure Ext (S H S' H' : Hp) : Prop where
 sh : Same S S'
 sub : Same S' H'
 al : ∀ b o, H b = some o -> S b = none -> H' b = some o /\ S' b = none
theorem Ext.refl (h : Same S H) : Ext S H S H := ⟨Same.refl _, h, fun _ _ h n => ⟨h, n⟩⟩
theorem Ext.trans {S1 H1 S2 H2 : Hp} (a : Ext S H S1 H1) (b : Ext S1 H1 S2 H2) : Ext S H S2 H2 := ⟨a.sh.trans b.sh, b.sub, fun c o h n => b.al c o (a.al c o h n).1 (a.al c o h n).2⟩
theorem Ext.same (a : Ext S H S' H') (s : Same S H) : Same H H' := fun b o h => by
 cases q : S b with
 | none => exact (a.al b o h q).1
 | some u =>
  have := s b u q
  rw [h] at this
  cases this
  exact a.sub b o (a.sh b o q)
theorem Ext.new (s : Same S H) {p : Addr} {o : HO} (h : H p = none) : Ext S H (upd S p o) (upd H p o) where
 sh := fun b u e => by rw [aA (aP e (s.free h))]; exact e
 sub := fun b u e => by
  by_cases hb : b = p
  ·subst hb; rw [aJ] at e ⊢; exact e
  ·rw [aA hb] at e ⊢; exact s b u e
 al := fun b u e n => by
  have hb := aP e h
  rw [aA hb, aA hb]
  exact ⟨e, n⟩
theorem Ext.own (s : Same S H) {p : Addr} {o : HO} (h : H p = none) : Ext S H S (upd H p o) where
 sh := Same.refl _
 sub := fun b u e => by rw [aA (aP (s b u e) h)]; exact s b u e
 al := fun b u e n => by
  have hb := aP e h
  rw [aA hb]
  exact ⟨e, n⟩
theorem DenP.mono {d : D} {v : V} (e : Ext S H S' H') (s : Same S H) (h : DenP K S H d v) : DenP K S' H' d v := by
 rcases h with h | ⟨l, p, xs, h1, h2, h3, h4⟩
 ·exact .inl (h.mono e.sh)
 ·exact .inr ⟨l, p, xs, h1, h2, e.same s _ _ h3, h4.mono e.sh⟩
inductive DensP (K : W.Frag) (S H : Hp) : List D -> List V -> Prop where
 | nil : DensP K S H [] []
 | cons {d ds v vs} : DenP K S H d v -> DensP K S H ds vs -> DensP K S H (d :: ds) (v :: vs)
inductive O where
 | sh (d : D) | lst (l : List O) | tup (l : List O) | dic (ks : List (List Int)) | hd (p : Addr) (ks : List (List Int)) (os : List O)
 deriving Inhabited
mutual
def O.d : O -> D
 | .sh d => d
 | .dic ks => .dic ks
 | .hd _ ks os => (O.ds os).headD (.dic ks)
 | .lst l => .lst (O.ds l)
 | .tup l => .tup (O.ds l)
def O.ds : List O -> List D
 | [] => []
 | o :: l => o.d :: O.ds l
end
mutual
def Own (K : W.Frag) (S H : Hp) : O -> V -> List Addr -> Prop
 | .sh d, v, fp => fp = [] /\ Den K S d v
 | .lst l, v, fp => ∃ a xs f, v = .ref a /\ fp = a :: f /\ H a = some (.lst xs) /\ Owns K S H l xs f
 | .tup l, v, fp => ∃ a xs f, v = .ref a /\ fp = a :: f /\ H a = some (.tup xs) /\ Owns K S H l xs f
 | .dic ks, v, fp => ∃ a, v = .ref a /\ fp = [a] /\ H a = some (.dT (bK ks))
 | .hd p ks os, v, fp => ∃ xs f, v = xs.headD (.ref p) /\ fp = p :: f /\ H p = some (.dT (bK ks)) /\ Owns K S H os xs f
def Owns (K : W.Frag) (S H : Hp) : List O -> List V -> List Addr -> Prop
 | [], xs, fp => xs = [] /\ fp = []
 | o :: l, xs, fp => ∃ y ys f g, xs = y :: ys /\ fp = f ++ g /\ Own K S H o y f /\ Owns K S H l ys g
end
theorem den_dic {ks : List (List Int)} {v : V} : Den K S (.dic ks) v ↔ ∃ p, v = .ref p /\ Rd S p (.dT (bK ks)) := by unfold Den; exact Iff.rfl
theorem own_dic {ks : List (List Int)} {v : V} {fp : List Addr} : Own K S H (.dic ks) v fp ↔ ∃ a, v = .ref a /\ fp = [a] /\ H a = some (.dT (bK ks)) := by unfold Own; exact Iff.rfl
theorem den_dif {ks : List (List Int)} {v : V} : Den K S (.dif ks) v ↔ ∃ p o, v = .ref p /\ S p = some (.frz o (.dT (bK ks))) := by unfold Den; exact Iff.rfl
theorem own_hd {p : Addr} {ks : List (List Int)} {os : List O} {v : V} {fp : List Addr} : Own K S H (.hd p ks os) v fp ↔ ∃ xs f, v = xs.headD (.ref p) /\ fp = p :: f /\ H p = some (.dT (bK ks)) /\ Owns K S H os xs f := by
 constructor
 ·intro h; unfold Own at h; exact h
 ·intro h; unfold Own; exact h
theorem own_sh {d : D} {v : V} {fp : List Addr} : Own K S H (.sh d) v fp ↔ fp = [] /\ Den K S d v := by unfold Own; exact Iff.rfl
theorem own_lst {l : List O} {v : V} {fp : List Addr} : Own K S H (.lst l) v fp ↔ ∃ a xs f, v = .ref a /\ fp = a :: f /\ H a = some (.lst xs) /\ Owns K S H l xs f := by
 constructor
 ·intro h; unfold Own at h; exact h
 ·intro h; unfold Own; exact h
theorem own_tup {l : List O} {v : V} {fp : List Addr} : Own K S H (.tup l) v fp ↔ ∃ a xs f, v = .ref a /\ fp = a :: f /\ H a = some (.tup xs) /\ Owns K S H l xs f := by
 constructor
 ·intro h; unfold Own at h; exact h
 ·intro h; unfold Own; exact h
theorem Owns.nil : Owns K S H [] [] [] := by unfold Owns; exact ⟨rfl, rfl⟩
theorem Owns.cons {o : O} {l : List O} {y : V} {ys : List V} {f g : List Addr} (h : Own K S H o y f) (k : Owns K S H l ys g) : Owns K S H (o :: l) (y :: ys) (f ++ g) := by unfold Owns; exact ⟨y, ys, f, g, rfl, rfl, h, k⟩
theorem Owns.nil_of {xs : List V} {fp : List Addr} (h : Owns K S H [] xs fp) : xs = [] /\ fp = [] := by unfold Owns at h; exact h
theorem Owns.cons_of {o : O} {l : List O} {xs : List V} {fp : List Addr} (h : Owns K S H (o :: l) xs fp) : ∃ y ys f g, xs = y :: ys /\ fp = f ++ g /\ Own K S H o y f /\ Owns K S H l ys g := by unfold Owns at h; exact h
theorem Owns.length : ∀ {l : List O} {xs : List V} {fp : List Addr}, Owns K S H l xs fp -> l.length = xs.length
 | [], _, _, h => by rw [h.nil_of.1]; rfl
 | _ :: _, _, _, h => by
  obtain ⟨y, ys, f, g, rfl, rfl, _, k⟩ := h.cons_of
  rw [List.length_cons, List.length_cons, k.length]
theorem Owns.append : ∀ {l m : List O} {xs ys : List V} {f g : List Addr}, Owns K S H l xs f -> Owns K S H m ys g -> Owns K S H (l ++ m) (xs ++ ys) (f ++ g)
 | [], _, _, _, _, _, h, k => by rw [h.nil_of.1, h.nil_of.2]; exact k
 | _ :: _, _, _, _, _, _, h, k => by
  obtain ⟨y, ys, f, g, rfl, rfl, a, b⟩ := h.cons_of
  rw [List.append_assoc]
  exact .cons a (b.append k)
theorem mE : ∀ {ds : List D} {xs : List V}, Dens K S ds xs -> Owns K S H (ds.map .sh) xs []
 | [], _, h => by rw [h.nil_of]; exact .nil
 | _ :: _, _, h => by
  obtain ⟨y, ys, rfl, a, b⟩ := h.cons_of
  exact .cons (f := []) (own_sh.mpr ⟨rfl, a⟩) (mE b)
theorem iV : ∀ {ds : List D} {xs : List V} {fp : List Addr}, Owns K S H (ds.map .sh) xs fp -> Dens K S ds xs /\ fp = []
 | [], _, _, h => by rw [h.nil_of.1, h.nil_of.2]; exact ⟨.nil, rfl⟩
 | _ :: _, _, _, h => by
  obtain ⟨y, ys, f, g, rfl, rfl, a, b⟩ := h.cons_of
  obtain ⟨e, a⟩ := own_sh.mp a
  obtain ⟨b, e2⟩ := iV b
  exact ⟨.cons a b, by rw [e, e2]; rfl⟩
mutual
theorem Own.mono (s : Same S S') : ∀ {o : O} {v : V} {fp : List Addr}, (∀ b ∈ fp, H' b = H b) -> Own K S H o v fp -> Own K S' H' o v fp
 | .dic _, _, _, k, h => by
  obtain ⟨a, e, rfl, h1⟩ := own_dic.mp h
  exact own_dic.mpr ⟨a, e, rfl, by rw [k a List.mem_cons_self]; exact h1⟩
 | .hd _ _ _, _, _, k, h => by
  obtain ⟨xs, f, e, rfl, h1, h2⟩ := own_hd.mp h
  exact own_hd.mpr ⟨xs, f, e, rfl, by rw [k _ List.mem_cons_self]; exact h1, Owns.mono s (fun b hb => k b (List.mem_cons_of_mem _ hb)) h2⟩
 | .sh _, _, _, k, h => by
  obtain ⟨e, d⟩ := own_sh.mp h
  exact own_sh.mpr ⟨e, d.mono s⟩
 | .lst _, _, _, k, h => by
  obtain ⟨a, xs, f, e, rfl, h1, h2⟩ := own_lst.mp h
  exact own_lst.mpr ⟨a, xs, f, e, rfl, by rw [k a List.mem_cons_self]; exact h1, Owns.mono s (fun b hb => k b (List.mem_cons_of_mem _ hb)) h2⟩
 | .tup _, _, _, k, h => by
  obtain ⟨a, xs, f, e, rfl, h1, h2⟩ := own_tup.mp h
  exact own_tup.mpr ⟨a, xs, f, e, rfl, by rw [k a List.mem_cons_self]; exact h1, Owns.mono s (fun b hb => k b (List.mem_cons_of_mem _ hb)) h2⟩
theorem Owns.mono (s : Same S S') : ∀ {l : List O} {xs : List V} {fp : List Addr}, (∀ b ∈ fp, H' b = H b) -> Owns K S H l xs fp -> Owns K S' H' l xs fp
 | [], _, _, k, h => by rw [h.nil_of.1, h.nil_of.2]; exact .nil
 | _ :: _, _, _, k, h => by
  obtain ⟨y, ys, f, g, rfl, rfl, a, b⟩ := h.cons_of
  exact .cons (Own.mono s (fun b hb => k b (List.mem_append_left _ hb)) a) (Owns.mono s (fun b hb => k b (List.mem_append_right _ hb)) b)
end
mutual
theorem Own.there : ∀ {o : O} {v : V} {fp : List Addr}, Own K S H o v fp -> ∀ b ∈ fp, H b ≠ none
 | .dic _, _, _, h => by
  obtain ⟨a, e, rfl, h1⟩ := own_dic.mp h
  intro b hb
  rw [List.mem_singleton] at hb
  subst hb
  rw [h1]; exact fun z => by cases z
 | .hd _ _ _, _, _, h => by
  obtain ⟨xs, f, e, rfl, h1, h2⟩ := own_hd.mp h
  intro b hb
  rcases List.mem_cons.mp hb with rfl | hb
  ·rw [h1]; exact fun z => by cases z
  ·exact Owns.there h2 b hb
 | .sh _, _, _, h => by
  obtain ⟨e, d⟩ := own_sh.mp h
  rw [e]; intro b hb; cases hb
 | .lst _, _, _, h => by
  obtain ⟨a, xs, f, e, rfl, h1, h2⟩ := own_lst.mp h
  intro b hb
  rcases List.mem_cons.mp hb with rfl | hb
  ·rw [h1]; exact fun z => by cases z
  ·exact Owns.there h2 b hb
 | .tup _, _, _, h => by
  obtain ⟨a, xs, f, e, rfl, h1, h2⟩ := own_tup.mp h
  intro b hb
  rcases List.mem_cons.mp hb with rfl | hb
  ·rw [h1]; exact fun z => by cases z
  ·exact Owns.there h2 b hb
theorem Owns.there : ∀ {l : List O} {xs : List V} {fp : List Addr}, Owns K S H l xs fp -> ∀ b ∈ fp, H b ≠ none
 | [], _, _, h => by rw [h.nil_of.2]; intro b hb; cases hb
 | _ :: _, _, _, h => by
  obtain ⟨y, ys, f, g, rfl, rfl, a, b⟩ := h.cons_of
  intro c hc
  rcases List.mem_append.mp hc with hc | hc
  ·exact Own.there a c hc
  ·exact Owns.there b c hc
end
mutual
theorem Own.den {S2 : Hp} (s : Same S S2) : ∀ {o : O} {v : V} {fp : List Addr}, (∀ b ∈ fp, S2 b = H b) -> Own K S H o v fp -> Den K S2 o.d v
 | .dic _, _, _, k, h => by
  obtain ⟨a, e, rfl, h1⟩ := own_dic.mp h
  rw [O.d]
  exact den_dic.mpr ⟨a, e, .inl (by rw [k a List.mem_cons_self]; exact h1)⟩
 | .hd p ks os, _, _, k, h => by
  obtain ⟨xs, f, e, rfl, h1, h2⟩ := own_hd.mp h
  have ds := Owns.den s (fun b hb => k b (List.mem_cons_of_mem _ hb)) h2
  rw [O.d, e]
  cases q : O.ds os with
  | nil =>
   rw [q] at ds
   rw [ds.nil_of]
   exact den_dic.mpr ⟨p, rfl, .inl (by rw [k p List.mem_cons_self]; exact h1)⟩
  | cons d l =>
   rw [q] at ds
   obtain ⟨y, ys, rfl, a, _⟩ := ds.cons_of
   exact a
 | .sh _, _, _, k, h => by
  obtain ⟨e, d⟩ := own_sh.mp h
  exact d.mono s
 | .lst l, _, _, k, h => by
  obtain ⟨a, xs, f, e, rfl, h1, h2⟩ := own_lst.mp h
  rw [O.d]
  exact den_lst.mpr ⟨a, xs, e, .inl (by rw [k a List.mem_cons_self]; exact h1), Owns.den s (fun b hb => k b (List.mem_cons_of_mem _ hb)) h2⟩
 | .tup l, _, _, k, h => by
  obtain ⟨a, xs, f, e, rfl, h1, h2⟩ := own_tup.mp h
  rw [O.d]
  exact den_tup.mpr ⟨a, xs, e, TpA.of (by rw [k a List.mem_cons_self]; exact h1), Owns.den s (fun b hb => k b (List.mem_cons_of_mem _ hb)) h2⟩
theorem Owns.den {S2 : Hp} (s : Same S S2) : ∀ {l : List O} {xs : List V} {fp : List Addr}, (∀ b ∈ fp, S2 b = H b) -> Owns K S H l xs fp -> Dens K S2 (O.ds l) xs
 | [], _, _, k, h => by rw [h.nil_of.1, O.ds]; exact .nil
 | _ :: _, _, _, k, h => by
  obtain ⟨y, ys, f, g, rfl, rfl, a, b⟩ := h.cons_of
  rw [O.ds]
  exact .cons (Own.den s (fun b hb => k b (List.mem_append_left _ hb)) a) (Owns.den s (fun b hb => k b (List.mem_append_right _ hb)) b)
end
theorem Own.denH {o : O} {v : V} {fp : List Addr} (s : Same S H) (h : Own K S H o v fp) : Den K H o.d v := h.den s fun _ _ => rfl
theorem Ext.keeps {fp : List Addr} (e : Ext S H S' H') (h : ∀ b ∈ fp, S b = none) (t : ∀ b ∈ fp, H b ≠ none) : (∀ b ∈ fp, H' b = H b) /\ ∀ b ∈ fp, S' b = none := by
 have key : ∀ b ∈ fp, H' b = H b /\ S' b = none := fun b hb => by
  cases q : H b with
  | none => exact absurd q (t b hb)
  | some o => exact e.al b o q (h b hb)
 exact ⟨fun b hb => (key b hb).1, fun b hb => (key b hb).2⟩
inductive Sl where
 | un | lo | sh (d : D) | ow (o : O)
 deriving Inhabited
abbrev Env := List Sl
structure RlF (K : W.Frag) (A : Hp) (Λ : Nat -> Option Addr) (Φ : Nat -> List Addr) (ρ : Env) (σ : St) (S H : Hp) : Prop where
 len : σ.length = ρ.length
 sub : Same S H
 sh : ∀ (i : Nat) d, ρ[i]? = some (.sh d) -> ∃ v, σ[i]? = some (some v) /\ Den K S d v
 ow : ∀ (i : Nat) o, ρ[i]? = some (.ow o) -> ∃ v, σ[i]? = some (some v) /\ Own K S H o v (Φ i) /\ (Φ i).Nodup /\ ∀ b ∈ Φ i, S b = none /\ A b = none
 dj : ∀ (i j : Nat) o o', i ≠ j -> ρ[i]? = some (.ow o) -> ρ[j]? = some (.ow o') -> ∀ b ∈ Φ i, b ∉ Φ j
 lo : ∀ (i : Nat), ρ[i]? = some .lo -> ∃ a, Λ i = some a /\ σ[i]? = some (some (.ref a))
 asub : Same A H
 adis : ∀ b, S b = none \/ A b = none
def RlA (K : W.Frag) (A : Hp) (Λ : Nat -> Option Addr) (ρ : Env) (σ : St) (S H : Hp) : Prop := ∃ Φ, RlF K A Λ Φ ρ σ S H
def Rl (K : W.Frag) (ρ : Env) (σ : St) (S H : Hp) : Prop := ∃ A Λ Φ, RlF K A Λ Φ ρ σ S H
theorem RlF.ext {A : Hp} {Λ : Nat -> Option Addr} {Φ : Nat -> List Addr} {ρ : Env} {σ : St} (r : RlF K A Λ Φ ρ σ S H) (e : Ext S H S' H') : RlF K A Λ Φ ρ σ S' H' where
 len := r.len
 sub := e.sub
 sh := fun i d h => by
  obtain ⟨v, h1, h2⟩ := r.sh i d h
  exact ⟨v, h1, h2.mono e.sh⟩
 ow := fun i o h => by
  obtain ⟨v, h1, h2, h3, h4⟩ := r.ow i o h
  obtain ⟨k1, k2⟩ := e.keeps (fun b hb => (h4 b hb).1) h2.there
  exact ⟨v, h1, h2.mono e.sh k1, h3, fun b hb => ⟨k2 b hb, (h4 b hb).2⟩⟩
 dj := r.dj
 lo := r.lo
 asub := fun b o h => e.same r.sub b o (r.asub b o h)
 adis := fun b => by
  rcases r.adis b with h | h
  ·cases q : A b with
   | none => exact .inr rfl
   | some o => exact .inl (e.al b o (r.asub b o q) h).2
  ·exact .inr h
theorem RlA.ext {A : Hp} {Λ : Nat -> Option Addr} {ρ : Env} {σ : St} (r : RlA K A Λ ρ σ S H) (e : Ext S H S' H') : RlA K A Λ ρ σ S' H' := let ⟨Φ, f⟩ := r; ⟨Φ, f.ext e⟩
theorem RlA.toRl {A : Hp} {Λ : Nat -> Option Addr} {ρ : Env} {σ : St} (r : RlA K A Λ ρ σ S H) : Rl K ρ σ S H := let ⟨Φ, f⟩ := r; ⟨A, Λ, Φ, f⟩
theorem RlA.sub {A : Hp} {Λ : Nat -> Option Addr} {ρ : Env} {σ : St} (r : RlA K A Λ ρ σ S H) : Same S H := let ⟨_, f⟩ := r; f.sub
theorem RlA.asub {A : Hp} {Λ : Nat -> Option Addr} {ρ : Env} {σ : St} (r : RlA K A Λ ρ σ S H) : Same A H := let ⟨_, f⟩ := r; f.asub
theorem RlA.adis {A : Hp} {Λ : Nat -> Option Addr} {ρ : Env} {σ : St} (r : RlA K A Λ ρ σ S H) : ∀ b, S b = none \/ A b = none := let ⟨_, f⟩ := r; f.adis
theorem Rl.ext {ρ : Env} {σ : St} (r : Rl K ρ σ S H) (e : Ext S H S' H') : Rl K ρ σ S' H' := let ⟨A, Λ, Φ, f⟩ := r; ⟨A, Λ, Φ, f.ext e⟩
theorem Rl.sub {ρ : Env} {σ : St} (r : Rl K ρ σ S H) : Same S H := let ⟨_, _, _, f⟩ := r; f.sub
theorem Rl.sh {ρ : Env} {σ : St} (r : Rl K ρ σ S H) : ∀ (i : Nat) d, ρ[i]? = some (.sh d) -> ∃ v, σ[i]? = some (some v) /\ Den K S d v := let ⟨_, _, _, f⟩ := r; f.sh
theorem Rl.ow {ρ : Env} {σ : St} (r : Rl K ρ σ S H) : ∀ (i : Nat) o, ρ[i]? = some (.ow o) -> ∃ v fp, σ[i]? = some (some v) /\ Own K S H o v fp /\ fp.Nodup /\ ∀ b ∈ fp, S b = none := fun i o h => by
 obtain ⟨A, Λ, Φ, f⟩ := r
 obtain ⟨v, h1, h2, h3, h4⟩ := f.ow i o h
 exact ⟨v, _, h1, h2, h3, fun b hb => (h4 b hb).1⟩
abbrev XE := Env -> Option D
abbrev XT := Env -> Option Bool
abbrev XA := Env -> Option (List D)
def SE (K : W.Frag) (t : TE) (e : XE) : Prop := ∀ ρ σ S H (Q : VK) d, Rl K ρ σ S H -> e ρ = some d -> (∀ v S' H', Ext S H S' H' -> Den K S' d v -> Q v H') -> t σ H Q
def SPk (K : W.Frag) (t : TE) (e : XE) : Prop := ∀ ρ σ S H (Q : VK) d, Rl K ρ σ S H -> e ρ = some d -> (∀ v S' H', Ext S H S' H' -> DenP K S' H' d v -> Q v H') -> t σ H Q
def SF (K : W.Frag) (t : TE) (e : XA) : Prop := ∀ ρ σ S H (Q : VK) l, Rl K ρ σ S H -> e ρ = some l -> (∀ a xs S' H', Ext S H S' H' -> H a = none -> S' a = none -> H' a = some (.lst xs) -> Dens K S' l xs -> Q (.ref a) H') -> t σ H Q
def ST (K : W.Frag) (t : TT) (c : XT) : Prop := ∀ ρ σ S H (Q : Bool -> Hp -> Prop) b, Rl K ρ σ S H -> c ρ = some b -> (∀ S' H', Ext S H S' H' -> Q b H') -> t σ H Q
def SA (K : W.Frag) (t : TA) (e : XA) : Prop := ∀ ρ σ S H (Q : List V -> Hp -> Prop) ds, Rl K ρ σ S H -> e ρ = some ds -> (∀ vs S' H', Ext S H S' H' -> Dens K S' ds vs -> Q vs H') -> t σ H Q
def SAP (K : W.Frag) (t : TA) (e : XA) : Prop := ∀ ρ σ S H (Q : List V -> Hp -> Prop) ds, Rl K ρ σ S H -> e ρ = some ds -> (∀ vs S' H', Ext S H S' H' -> DensP K S' H' ds vs -> Q vs H') -> t σ H Q
theorem SE.p {t : TE} {e : XE} (h : SE K t e) : SPk K t e := fun ρ σ S H Q d r x k => h ρ σ S H Q d r x fun v S' H' z dv => k v S' H' z (.inl dv)
@[simp] def xL (e : XA) : XE := fun ρ => (e ρ).map D.lst
theorem SF.e {t : TE} {e : XA} (h : SF K t e) : SE K t (xL e) := fun ρ σ S H Q d r x k => by
 unfold xL at x
 cases q : e ρ with
 | none => rw [q] at x; cases x
 | some l =>
  rw [q] at x
  cases x
  refine h ρ σ S H Q l r q fun a xs S' H' z h1 h2 h3 h4 => ?_
  have s2 : Same S' (upd S' a (.lst xs)) := fun b u e => by rw [aA (aP e h2)]; exact e
  refine k _ (upd S' a (.lst xs)) H' ⟨z.sh.trans s2, fun b u e => ?_, fun b o e n => ?_⟩ (den_lst.mpr ⟨a, xs, rfl, .inl aJ, h4.mono s2⟩)
  ·by_cases hb : b = a
   ·subst hb; rw [aJ] at e; cases e; exact h3
   ·rw [aA hb] at e; exact z.sub b u e
  ·obtain ⟨y1, y2⟩ := z.al b o e n
   exact ⟨y1, by rw [aA (aP e h1)]; exact y2⟩
@[simp] def aw (i : Nat) : XE := fun ρ => match ρ[i]? with | some (.sh d) => some d | _ => none
def shs : List O -> Option (List D)
 | [] => some []
 | .sh d :: l => (shs l).map fun r => d :: r
 | _ => none
theorem mI : ∀ l : List D, shs (l.map .sh) = some l
 | [] => rfl
 | d :: l => by rw [List.map_cons, shs, mI l]; rfl
theorem uJ : ∀ {os : List O} {l : List D}, shs os = some l -> os = l.map .sh
 | [], l, h => by cases h; rfl
 | o :: os, l, h => by
  cases o with
  | sh d =>
   have h' : (shs os).map (fun r => d :: r) = some l := h
   cases q : shs os with
   | none => rw [q] at h'; cases h'
   | some m => rw [q] at h'; cases h'; rw [uJ q]; rfl
  | lst _ => cases h
  | tup _ => cases h
  | dic _ => cases h
  | hd _ _ _ => cases h
def Bw : Sl -> Option D
 | .sh d => some d
 | .ow (.sh d) => some d
 | .ow (.lst os) => (shs os).map D.lst
 | _ => none
@[simp] theorem HW (d : D) : Bw (.ow (.sh d)) = some d := rfl
@[simp] theorem Ie (d : D) : Bw (.sh d) = some d := rfl
@[simp] theorem Ib (l : List D) : Bw (.ow (.lst (l.map .sh))) = some (.lst l) := by show (shs _).map D.lst = _; rw [mI]; rfl
@[simp] def am (i : Nat) : XE := fun ρ => (ρ[i]?).bind Bw
theorem aF (i : Nat) : SE K (jG i) (aw i) := fun ρ σ S H Q d r x k => by
 unfold aw at x
 split at x
 ·rename_i d' e
  cases x
  obtain ⟨v, h1, h2⟩ := r.sh i _ e
  exact ⟨v, h1, k v S H (Ext.refl r.sub) h2⟩
 ·cases x
theorem ao (i : Nat) : SPk K (jG i) (am i) := fun ρ σ S H Q d r x k => by
 unfold am at x
 cases q : ρ[i]? with
 | none => rw [q] at x; cases x
 | some s =>
  rw [q] at x
  cases s with
  | un => cases x
  | lo => cases x
  | sh d' =>
   cases x
   obtain ⟨v, h1, h2⟩ := r.sh i _ q
   exact ⟨v, h1, k v S H (Ext.refl r.sub) (.inl h2)⟩
  | ow o =>
   cases o with
   | sh d' =>
    cases x
    obtain ⟨v, fp, h1, h2, h3, h4⟩ := r.ow i _ q
    exact ⟨v, h1, k v S H (Ext.refl r.sub) (.inl (own_sh.mp h2).2)⟩
   | tup l => cases x
   | dic ks => cases x
   | hd _ _ _ => cases x
   | lst os =>
    have x' : (shs os).map D.lst = some d := x
    cases qs : shs os with
    | none => rw [qs] at x'; cases x'
    | some l =>
     rw [qs] at x'
     cases x'
     have e := uJ qs
     subst e
     obtain ⟨v, fp, h1, h2, h3, h4⟩ := r.ow i _ q
     obtain ⟨a, xs, f, rfl, rfl, h5, h6⟩ := own_lst.mp h2
     exact ⟨_, h1, k _ S H (Ext.refl r.sub) (.inr ⟨l, a, xs, rfl, rfl, h5, (iV h6).1⟩)⟩
def SQ (K : W.Frag) (t : TE) (e : XE) : Prop := ∀ ρ σ S H (Q : VK) d, Rl K ρ σ S H -> e ρ = some d -> (∀ v S' H', Ext S H S' H' -> Den K H' d v -> Q v H') -> t σ H Q
theorem pP {d : D} {v : V} (s : Same S H) (h : DenP K S H d v) : Den K H d v := by
 rcases h with h | ⟨l, p, xs, rfl, rfl, h1, h2⟩
 ·exact h.mono s
 ·exact den_lst.mpr ⟨p, xs, rfl, .inl h1, h2.mono s⟩
theorem SPk.q {t : TE} {e : XE} (h : SPk K t e) : SQ K t e := fun ρ σ S H Q d r x k => h ρ σ S H Q d r x fun v S' H' z dv => k v S' H' z (pP z.sub dv)
def BK : Sl -> Option D
 | .sh d => some d
 | .ow o => some o.d
 | _ => none
@[simp] theorem GP (d : D) : BK (.sh d) = some d := rfl
@[simp] theorem Hg (o : O) : BK (.ow o) = some o.d := rfl
@[simp] def zA (i : Nat) : XE := fun ρ => (ρ[i]?).bind BK
theorem CZ (i : Nat) : SQ K (jG i) (zA i) := fun ρ σ S H Q d r x k => by
 unfold zA at x
 cases q : ρ[i]? with
 | none => rw [q] at x; cases x
 | some s =>
  rw [q] at x
  cases s with
  | un => cases x
  | lo => cases x
  | sh d' =>
   cases x
   obtain ⟨v, h1, h2⟩ := r.sh i _ q
   exact ⟨v, h1, k v S H (Ext.refl r.sub) (h2.mono r.sub)⟩
  | ow o =>
   cases x
   obtain ⟨v, fp, h1, h2, h3, h4⟩ := r.ow i _ q
   exact ⟨_, h1, k _ S H (Ext.refl r.sub) (h2.denH r.sub)⟩
@[simp] def xC (d : D) : XE := fun _ => some d
def mw : D -> Option V
 | .non => some .non | .bl b => some (.bl b) | .int i => some (.int i) | .str x => some (.str x) | .ty x => some (.ty x) | _ => none
theorem jY {d : D} {v : V} (h : mw d = some v) : Den K S d v := by
 cases d <;> simp [mw] at h <;> subst h <;> unfold Den <;> rfl
theorem s_c {v : V} {d : D} (h : mw d = some v) : SE K (tC v) (xC d) := fun ρ σ S H Q e r x k => by
 cases x
 exact k v S H (Ext.refl r.sub) (jY h)
@[simp] def xFl (e : XE) : XE := fun ρ => (e ρ).bind fun d => if (mw d).isSome then some d else none
theorem Ev {d : D} {v w : V} (h : mw d = some w) (k : Den K S d v) : v = w := by
 cases d <;> simp [mw] at h <;> subst h <;> unfold Den at k <;> exact k
theorem SQ.fl {t : TE} {e : XE} (h : SQ K t e) : SE K t (xFl e) := fun ρ σ S H Q d r x k => by
 unfold xFl at x
 cases q : e ρ with
 | none => rw [q] at x; cases x
 | some d' =>
  rw [q] at x
  dsimp only [Option.bind] at x
  split at x
  ·rename_i hf
   cases x
   obtain ⟨w, hw⟩ := Option.isSome_iff_exists.mp hf
   refine h ρ σ S H Q d r q fun v S' H' z dv => k v S' H' z ?_
   rw [Ev hw dv]
   exact jY hw
  ·cases x
@[simp] def xOp (f : D -> D -> Option D) (a b : XE) : XE := fun ρ => (a ρ).bind fun x => (b ρ).bind fun y => f x y
def SR2 (K : W.Frag) (r : R2) (f : D -> D -> Option D) : Prop := ∀ S H x y d e g (Q : VK), Same S H -> DenP K S H d x -> DenP K S H e y -> f d e = some g -> (∀ v S' H', Ext S H S' H' -> Den K S' g v -> Q v H') -> r x y H Q
theorem aI {r : R2} {f : D -> D -> Option D} {ta tb : TE} {a b : XE} (hr : SR2 K r f) (ha : SPk K ta a) (hb : SPk K tb b) : SE K (tOp r ta tb) (xOp f a b) := fun ρ σ S H Q d r x k => by
 unfold xOp at x
 cases qa : a ρ with
 | none => rw [qa] at x; cases x
 | some da =>
  rw [qa] at x
  dsimp only [Option.bind] at x
  cases qb : b ρ with
  | none => rw [qb] at x; cases x
  | some db =>
   rw [qb] at x
   refine ha ρ σ S H _ da r qa fun v S1 H1 z1 d1 => ?_
   have r1 := r.ext z1
   refine hb ρ σ S1 H1 _ db r1 qb fun w S2 H2 z2 d2 => ?_
   exact hr S2 H2 v w da db d Q z2.sub (d1.mono z2 r1.sub) d2 x fun u S3 H3 z3 d3 => k u S3 H3 ((z1.trans z2).trans z3) d3
theorem EK {S2 H3 S3 : Hp} (s : Same S H) (z : Ext H H S3 H3) : Ext S H S H3 := ⟨Same.refl _, fun b u e => z.sub b u (z.sh b u (s b u e)), fun b o h n => ⟨z.sub b o (z.sh b o h), n⟩⟩
theorem Fl {r : R2} {f : D -> D -> Option D} {ta tb : TE} {a b : XE} (hr : SR2 K r f) (ha : SQ K ta a) (hb : SQ K tb b) : SQ K (tOp r ta tb) (xOp f a b) := fun ρ σ S H Q d r x k => by
 unfold xOp at x
 cases qa : a ρ with
 | none => rw [qa] at x; cases x
 | some da =>
  rw [qa] at x
  dsimp only [Option.bind] at x
  cases qb : b ρ with
  | none => rw [qb] at x; cases x
  | some db =>
   rw [qb] at x
   refine ha ρ σ S H _ da r qa fun v S1 H1 z1 d1 => ?_
   have r1 := r.ext z1
   refine hb ρ σ S1 H1 _ db r1 qb fun w S2 H2 z2 d2 => ?_
   exact hr H2 H2 v w da db d Q (Same.refl _) (.inl (d1.mono (z2.same r1.sub))) (.inl d2) x fun u S3 H3 z3 d3 => k u S2 H3 ((z1.trans z2).trans (EK (S2 := S2) z2.sub z3)) (d3.mono z3.sub)
@[simp] def xUn (f : D -> Option D) (a : XE) : XE := fun ρ => (a ρ).bind f
def SR1 (K : W.Frag) (r : V -> Hp -> VK -> Prop) (f : D -> Option D) : Prop := ∀ S H x d g (Q : VK), Same S H -> DenP K S H d x -> f d = some g -> (∀ v S' H', Ext S H S' H' -> Den K S' g v -> Q v H') -> r x H Q
theorem yE {r : V -> Hp -> VK -> Prop} {f : D -> Option D} {ta : TE} {a : XE} (hr : SR1 K r f) (ha : SPk K ta a) : SE K (tUn r ta) (xUn f a) := fun ρ σ S H Q d r x k => by
 unfold xUn at x
 cases qa : a ρ with
 | none => rw [qa] at x; cases x
 | some da =>
  rw [qa] at x
  refine ha ρ σ S H _ da r qa fun v S1 H1 z1 d1 => ?_
  exact hr S1 H1 v da d Q z1.sub d1 x fun u S3 H3 z3 d3 => k u S3 H3 (z1.trans z3) d3
@[simp] def au : XA := fun _ => some []
@[simp] def ag (a : XE) (b : XA) : XA := fun ρ => (a ρ).bind fun x => (b ρ).bind fun y => some (x :: y)
theorem ap : SA K kJ au := fun ρ σ S H Q ds r x k => by cases x; exact k [] S H (Ext.refl r.sub) .nil
theorem de : SAP K kJ au := fun ρ σ S H Q ds r x k => by cases x; exact k [] S H (Ext.refl r.sub) .nil
theorem iB {a : XE} {b : XA} {ρ : Env} {ds : List D} (x : ag a b ρ = some ds) : ∃ d r, a ρ = some d /\ b ρ = some r /\ ds = d :: r := by
 unfold ag at x
 cases qa : a ρ with
 | none => rw [qa] at x; cases x
 | some da =>
  rw [qa] at x
  dsimp only [Option.bind] at x
  cases qb : b ρ with
  | none => rw [qb] at x; cases x
  | some db => rw [qb] at x; cases x; exact ⟨_, _, rfl, rfl, rfl⟩
theorem ah {ta : TE} {tr : TA} {a : XE} {b : XA} (ha : SE K ta a) (hb : SA K tr b) : SA K (d9 ta tr) (ag a b) := fun ρ σ S H Q ds r x k => by
 obtain ⟨da, db, qa, qb, rfl⟩ := iB x
 refine ha ρ σ S H _ da r qa fun v S1 H1 z1 d1 => hb ρ σ S1 H1 _ db (r.ext z1) qb fun vs S2 H2 z2 d2 => k _ S2 H2 (z1.trans z2) (.cons (d1.mono z2.sh) d2)
theorem bV {ta : TE} {tr : TA} {a : XE} {b : XA} (ha : SPk K ta a) (hb : SAP K tr b) : SAP K (d9 ta tr) (ag a b) := fun ρ σ S H Q ds r x k => by
 obtain ⟨da, db, qa, qb, rfl⟩ := iB x
 refine ha ρ σ S H _ da r qa fun v S1 H1 z1 d1 => hb ρ σ S1 H1 _ db (r.ext z1) qb fun vs S2 H2 z2 d2 => k _ S2 H2 (z1.trans z2) (.cons (d1.mono z2 (r.ext z1).sub) d2)
@[irreducible] def LIM : Nat := 1000000
theorem fK : LIM < sizeLine := by rw [sizeLine_eq]; unfold LIM; decide
@[simp] def aR (a : XA) : XE := fun ρ => (a ρ).bind fun l => if l.length <= LIM then some (.tup l) else none
theorem a7 {t : TA} {a : XA} (h : SA K t a) : SE K (EH t) (aR a) := fun ρ σ S H Q d r x k => by
 unfold aR at x
 cases q : a ρ with
 | none => rw [q] at x; cases x
 | some l =>
  rw [q] at x
  dsimp only [Option.bind] at x
  split at x
  ·rename_i hl
   cases x
   refine h ρ σ S H _ l r q fun vs S1 H1 z1 d1 => ⟨?_, fun p hp => ?_⟩
   ·rw [<- d1.length]; exact Nat.le_of_lt (Nat.lt_of_le_of_lt hl fK)
   ·have z2 := Ext.new (o := .tup vs) z1.sub hp
    exact k _ _ _ (z1.trans z2) (den_tup.mpr ⟨p, vs, rfl, TpA.of aJ, d1.mono z2.sh⟩)
  ·cases x
@[simp] def kq (a : XA) : XA := fun ρ => (a ρ).bind fun l => if l.length <= LIM then some l else none
theorem gv {t : TA} {a : XA} (h : SA K t a) : SF K (AE t) (kq a) := fun ρ σ S H Q l r x k => by
 unfold kq at x
 cases q : a ρ with
 | none => rw [q] at x; cases x
 | some l =>
  rw [q] at x
  dsimp only [Option.bind] at x
  split at x
  ·rename_i hl
   cases x
   refine h ρ σ S H _ l r q fun vs S1 H1 z1 d1 => ⟨?_, fun p hp => ?_⟩
   ·rw [<- d1.length]; exact Nat.le_of_lt (Nat.lt_of_le_of_lt hl fK)
   ·have hp0 : H p = none := (z1.same r.sub).free hp
    exact k p vs S1 _ (z1.trans (Ext.own z1.sub hp)) hp0 (z1.sub.free hp) aJ d1
  ·cases x
@[simp] def xCB (f : List D -> Option D) (a : XA) : XE := fun ρ => (a ρ).bind f
def SRB (K : W.Frag) (r : List V -> Hp -> VK -> Prop) (f : List D -> Option D) : Prop := ∀ S H vs ds g (Q : VK), Same S H -> DensP K S H ds vs -> f ds = some g -> (∀ v S' H', Ext S H S' H' -> Den K S' g v -> Q v H') -> r vs H Q
theorem ml {r : List V -> Hp -> VK -> Prop} {f : List D -> Option D} {t : TA} {a : XA} (hr : SRB K r f) (h : SAP K t a) : SE K (tCB r t) (xCB f a) := fun ρ σ S H Q d rl x k => by
 unfold xCB at x
 cases q : a ρ with
 | none => rw [q] at x; cases x
 | some ds =>
  rw [q] at x
  refine h ρ σ S H _ ds rl q fun vs S1 H1 z1 d1 => ?_
  exact hr S1 H1 vs ds d Q z1.sub d1 x fun v S2 H2 z2 d2 => k v S2 H2 (z1.trans z2) d2
@[simp] def C4 (f : List D -> Option (List D)) (a : XA) : XA := fun ρ => (a ρ).bind f
def SRF (K : W.Frag) (r : List V -> Hp -> VK -> Prop) (f : List D -> Option (List D)) : Prop := ∀ S H vs ds g (Q : VK), Same S H -> DensP K S H ds vs -> f ds = some g -> (∀ a xs H', Ext S H S H' -> H a = none -> H' a = some (.lst xs) -> Dens K S g xs -> Q (.ref a) H') -> r vs H Q
theorem CI {r : List V -> Hp -> VK -> Prop} {f : List D -> Option (List D)} {t : TA} {a : XA} (hr : SRF K r f) (h : SAP K t a) : SF K (tCB r t) (C4 f a) := fun ρ σ S H Q d rl x k => by
 unfold C4 at x
 cases q : a ρ with
 | none => rw [q] at x; cases x
 | some ds =>
  rw [q] at x
  refine h ρ σ S H _ ds rl q fun vs S1 H1 z1 d1 => ?_
  exact hr S1 H1 vs ds d Q z1.sub d1 x fun b xs H2 z2 h1 h2 d2 => k b xs S1 H2 (z1.trans z2) ((z1.same rl.sub).free h1) (z1.sub.free h1) h2 d2
def STr (K : W.Frag) (t : TE) (e : Env -> Option O) : Prop := ∀ ρ σ S H (Q : VK) o, Rl K ρ σ S H -> e ρ = some o -> (∀ v fp S' H', Ext S H S' H' -> Own K S' H' o v fp -> fp.Nodup -> (∀ b ∈ fp, H b = none /\ S' b = none) -> Q v H') -> t σ H Q
@[simp] def xLT (e : XA) : Env -> Option O := fun ρ => (e ρ).map fun l => .lst (l.map .sh)
theorem SF.t {t : TE} {e : XA} (h : SF K t e) : STr K t (xLT e) := fun ρ σ S H Q o r x k => by
 unfold xLT at x
 cases q : e ρ with
 | none => rw [q] at x; cases x
 | some l =>
  rw [q] at x
  cases x
  refine h ρ σ S H Q l r q fun a xs S' H' z h1 h2 h3 h4 => ?_
  refine k _ [a] S' H' z (own_lst.mpr ⟨a, xs, [], rfl, rfl, h3, mE h4⟩) (by simp) fun b hb => ?_
  rw [List.mem_singleton.mp hb]
  exact ⟨h1, h2⟩
@[simp] def xSh (e : XE) : Env -> Option O := fun ρ => (e ρ).map .sh
theorem SE.t {t : TE} {e : XE} (h : SE K t e) : STr K t (xSh e) := fun ρ σ S H Q o r x k => by
 unfold xSh at x
 cases q : e ρ with
 | none => rw [q] at x; cases x
 | some d =>
  rw [q] at x
  cases x
  exact h ρ σ S H Q d r q fun v S' H' z dv => k v [] S' H' z (own_sh.mpr ⟨rfl, dv⟩) .nil fun b hb => by cases hb
def vF (S H : Hp) (fp : List Addr) : Hp := fun b => if b ∈ fp then H b else S b
theorem o9 {fp : List Addr} {b : Addr} (h : b ∈ fp) : vF S H fp b = H b := by unfold vF; rw [if_pos h]
theorem jT {fp : List Addr} {b : Addr} (h : b ∉ fp) : vF S H fp b = S b := by unfold vF; rw [if_neg h]
theorem kx {fp : List Addr} (n : ∀ b ∈ fp, S b = none) : Same S (vF S H fp) := fun b o e => by
 rw [jT fun hb => by rw [n b hb] at e; cases e]
 exact e
theorem xm {fp : List Addr} (s : Same S H) : Same (vF S H fp) H := fun b o e => by
 by_cases hb : b ∈ fp
 ·rw [o9 hb] at e; exact e
 ·rw [jT hb] at e; exact s b o e
theorem xT {fp : List Addr} (z : Ext S H S' H') (n : ∀ b ∈ fp, H b = none /\ S' b = none) : Ext S H (vF S' H' fp) H' :=
 ⟨z.sh.trans (kx fun b hb => (n b hb).2), xm z.sub, fun b o h hn => ⟨(z.al b o h hn).1, by rw [jT fun hb => by rw [(n b hb).1] at h; cases h]; exact (z.al b o h hn).2⟩⟩
@[simp] def xOD (e : Env -> Option O) : XE := fun ρ => (e ρ).map O.d
theorem STr.e {t : TE} {e : Env -> Option O} (h : STr K t e) : SE K t (xOD e) := fun ρ σ S H Q d r x k => by
 unfold xOD at x
 cases q : e ρ with
 | none => rw [q] at x; cases x
 | some o =>
  rw [q] at x
  cases x
  exact h ρ σ S H Q o r q fun v fp S' H' z ow nd n => k v _ H' (xT z n) (ow.den (kx fun b hb => (n b hb).2) fun b hb => o9 hb)
def ic (K : W.Frag) (n : Nat) (m : List D -> Option O) : Sp := fun vs H Q _ => vs.length = n /\ ∃ S ds o, Same S H /\ Dens K S ds vs /\ m ds = some o /\ ∀ v fp S' H', Ext S H S' H' -> Own K S' H' o v fp -> fp.Nodup -> (∀ b ∈ fp, H b = none /\ S' b = none) -> Q v H'
@[simp] def x0 (m : List D -> Option O) (a : XA) : Env -> Option O := fun ρ => (a ρ).bind m
theorem EV {n : Nat} {m : List D -> Option O} {E : XK} {t : TA} {a : XA} (h : SA K t a) (hn : ∀ ρ ds, a ρ = some ds -> ds.length = n) : STr K (uk (ic K n m) [] E t) (x0 m a) := fun ρ σ S H Q o rl x k => by
 unfold x0 at x
 cases q : a ρ with
 | none => rw [q] at x; cases x
 | some ds =>
  rw [q] at x
  refine h ρ σ S H _ ds rl q fun vs S1 H1 z1 d1 => ?_
  rw [List.append_nil]
  refine ⟨by rw [<- d1.length]; exact hn ρ ds q, S1, ds, o, z1.sub, d1, x, fun v fp S2 H2 z2 ow nd n => k v fp S2 H2 (z1.trans z2) ow nd fun b hb => ⟨(z1.same rl.sub).free (n b hb).1, (n b hb).2⟩⟩
@[simp] def bB (m : List D -> Option D) (a : XA) : XE := fun ρ => (a ρ).bind m
theorem cL {n : Nat} {m : List D -> Option O} {E : XK} {t : TA} {a : XA} (h : SA K t a) (hn : ∀ ρ ds, a ρ = some ds -> ds.length = n) : SE K (uk (ic K n m) [] E t) (bB (fun ds => (m ds).map O.d) a) := by
 have := (EV (m := m) (E := E) h hn).e
 have e : xOD (x0 m a) = bB (fun ds => (m ds).map O.d) a := by
  funext ρ
  show ((a ρ).bind m).map O.d = (a ρ).bind fun ds => (m ds).map O.d
  cases a ρ <;> rfl
 rw [e] at this
 exact this
@[simp] def Im (m : List D -> Option D) (a : XA) : XE := fun ρ => ((a ρ).bind m).bind fun d => if (mw d).isSome then some d else none
def SAT (K : W.Frag) (t : TA) (e : Env -> Option (List O)) : Prop := ∀ ρ σ S H (Q : List V -> Hp -> Prop) os, Rl K ρ σ S H -> e ρ = some os -> (∀ vs fp S' H', Ext S H S' H' -> Owns K S' H' os vs fp -> fp.Nodup -> (∀ b ∈ fp, H b = none /\ S' b = none) -> Q vs H') -> t σ H Q
@[simp] def BR : Env -> Option (List O) := fun _ => some []
@[simp] def u3 (a : Env -> Option O) (b : Env -> Option (List O)) : Env -> Option (List O) := fun ρ => (a ρ).bind fun x => (b ρ).bind fun y => some (x :: y)
theorem Ch : SAT K kJ BR := fun ρ σ S H Q ds r x k => by cases x; exact k [] [] S H (Ext.refl r.sub) .nil .nil fun _ hb => by cases hb
theorem zD {ta : TE} {tr : TA} {a : Env -> Option O} {b : Env -> Option (List O)} (ha : STr K ta a) (hb : SAT K tr b) : SAT K (d9 ta tr) (u3 a b) := fun ρ σ S H Q os r x k => by
 unfold u3 at x
 cases qa : a ρ with
 | none => rw [qa] at x; cases x
 | some oa =>
  rw [qa] at x
  dsimp only [Option.bind] at x
  cases qb : b ρ with
  | none => rw [qb] at x; cases x
  | some ob =>
   rw [qb] at x
   cases x
   refine ha ρ σ S H _ oa r qa fun v fp S1 H1 z1 o1 nd1 n1 => hb ρ σ S1 H1 _ ob (r.ext z1) qb fun vs fq S2 H2 z2 o2 nd2 n2 => ?_
   obtain ⟨k1, k2⟩ := z2.keeps (fun b hb => (n1 b hb).2) o1.there
   refine k _ _ S2 H2 (z1.trans z2) (.cons (o1.mono z2.sh k1) o2) ?_ fun c hc => ?_
   ·refine List.nodup_append.mpr ⟨nd1, nd2, fun c hc d hd e => ?_⟩
    subst e
    exact o1.there c hc (n2 c hd).1
   ·rcases List.mem_append.mp hc with hc | hc
    ·exact ⟨(n1 c hc).1, k2 c hc⟩
    ·exact ⟨(z1.same r.sub).free (n2 c hc).1, (n2 c hc).2⟩
@[simp] def Dw (a : Env -> Option (List O)) : Env -> Option O := fun ρ => (a ρ).bind fun l => if l.length <= LIM then some (.tup l) else none
@[simp] def DE (a : Env -> Option (List O)) : Env -> Option O := fun ρ => (a ρ).bind fun l => if l.length <= LIM then some (.lst l) else none
theorem uq {fp : List Addr} {p : Addr} {o : HO} (h : H p = none) (t : ∀ b ∈ fp, H b ≠ none) : (∀ b ∈ fp, upd H p o b = H b) /\ p ∉ fp := by
 have np : p ∉ fp := fun hp => t p hp h
 exact ⟨fun b hb => aA fun e => np (e ▸ hb), np⟩
theorem Gz {t : TA} {a : Env -> Option (List O)} (h : SAT K t a) : STr K (EH t) (Dw a) := fun ρ σ S H Q o r x k => by
 unfold Dw at x
 cases q : a ρ with
 | none => rw [q] at x; cases x
 | some l =>
  rw [q] at x
  dsimp only [Option.bind] at x
  split at x
  ·rename_i hl
   cases x
   refine h ρ σ S H _ l r q fun vs fp S1 H1 z1 o1 nd1 n1 => ⟨?_, fun p hp => ?_⟩
   ·rw [<- o1.length]; exact Nat.le_of_lt (Nat.lt_of_le_of_lt hl fK)
   ·obtain ⟨k1, k2⟩ := uq (o := .tup vs) hp o1.there
    refine k _ (p :: fp) S1 _ (z1.trans (Ext.own z1.sub hp)) (own_tup.mpr ⟨p, vs, fp, rfl, rfl, aJ, o1.mono (Same.refl _) k1⟩) (List.nodup_cons.mpr ⟨k2, nd1⟩) fun b hb => ?_
    rcases List.mem_cons.mp hb with rfl | hb
    ·exact ⟨(z1.same r.sub).free hp, z1.sub.free hp⟩
    ·exact n1 b hb
  ·cases x
theorem GD {t : TA} {a : Env -> Option (List O)} (h : SAT K t a) : STr K (AE t) (DE a) := fun ρ σ S H Q o r x k => by
 unfold DE at x
 cases q : a ρ with
 | none => rw [q] at x; cases x
 | some l =>
  rw [q] at x
  dsimp only [Option.bind] at x
  split at x
  ·rename_i hl
   cases x
   refine h ρ σ S H _ l r q fun vs fp S1 H1 z1 o1 nd1 n1 => ⟨?_, fun p hp => ?_⟩
   ·rw [<- o1.length]; exact Nat.le_of_lt (Nat.lt_of_le_of_lt hl fK)
   ·obtain ⟨k1, k2⟩ := uq (o := .lst vs) hp o1.there
    refine k _ (p :: fp) S1 _ (z1.trans (Ext.own z1.sub hp)) (own_lst.mpr ⟨p, vs, fp, rfl, rfl, aJ, o1.mono (Same.refl _) k1⟩) (List.nodup_cons.mpr ⟨k2, nd1⟩) fun b hb => ?_
    rcases List.mem_cons.mp hb with rfl | hb
    ·exact ⟨(z1.same r.sub).free hp, z1.sub.free hp⟩
    ·exact n1 b hb
  ·cases x
theorem a9 {ρ : Env} {ds : List D} (h : au ρ = some ds) : ds.length = 0 := by cases h; rfl
theorem aC {a : XE} {b : XA} {n : Nat} (h : ∀ ρ ds, b ρ = some ds -> ds.length = n) (ρ : Env) (ds : List D) (x : ag a b ρ = some ds) : ds.length = n + 1 := by
 obtain ⟨da, db, qa, qb, rfl⟩ := iB x
 rw [List.length_cons, h ρ db qb]
@[simp] def zi (a b : XE) : XE := fun ρ => (a ρ).bind fun x => match x with | .bl true => b ρ | .bl false => some (.bl false) | _ => none
@[simp] def Gi (a b : XE) : XE := fun ρ => (a ρ).bind fun x => match x with | .bl true => some (.bl true) | .bl false => b ρ | _ => none
@[simp] def BN (a : XE) : XE := fun ρ => (a ρ).bind fun x => match x with | .bl c => some (.bl (!c)) | _ => none
theorem CJ {ta tb : TE} {a b : XE} (ha : SPk K ta a) (hb : SE K tb b) : SE K (Fg ta tb) (zi a b) := fun ρ σ S H Q d r x k => by
 unfold zi at x
 cases qa : a ρ with
 | none => rw [qa] at x; cases x
 | some da =>
  rw [qa] at x
  dsimp only [Option.bind] at x
  refine ha ρ σ S H _ da r qa fun v S1 H1 z1 d1 => ?_
  split at x
  ·exact ⟨true, d1.bl, vB (hb ρ σ S1 H1 Q d (r.ext z1) x fun w S2 H2 z2 d2 => k w S2 H2 (z1.trans z2) d2)⟩
  ·cases x
   exact ⟨false, d1.bl, vo (k _ S1 H1 z1 (den_bl.mpr rfl))⟩
  ·cases x
theorem G1 {ta tb : TE} {a b : XE} (ha : SPk K ta a) (hb : SE K tb b) : SE K (GW ta tb) (Gi a b) := fun ρ σ S H Q d r x k => by
 unfold Gi at x
 cases qa : a ρ with
 | none => rw [qa] at x; cases x
 | some da =>
  rw [qa] at x
  dsimp only [Option.bind] at x
  refine ha ρ σ S H _ da r qa fun v S1 H1 z1 d1 => ?_
  split at x
  ·cases x
   exact ⟨true, d1.bl, vB (k _ S1 H1 z1 (den_bl.mpr rfl))⟩
  ·exact ⟨false, d1.bl, vo (hb ρ σ S1 H1 Q d (r.ext z1) x fun w S2 H2 z2 d2 => k w S2 H2 (z1.trans z2) d2)⟩
  ·cases x
theorem F4 {ta : TE} {a : XE} (ha : SPk K ta a) : SE K (Fk ta) (BN a) := fun ρ σ S H Q d r x k => by
 unfold BN at x
 cases qa : a ρ with
 | none => rw [qa] at x; cases x
 | some da =>
  rw [qa] at x
  dsimp only [Option.bind] at x
  refine ha ρ σ S H _ da r qa fun v S1 H1 z1 d1 => ?_
  split at x
  ·cases x
   exact ⟨_, d1.bl, k _ S1 H1 z1 (den_bl.mpr rfl)⟩
  ·cases x
@[simp] def Ku (c : XT) (a b : XE) : XE := fun ρ => (c ρ).bind fun q => if q = true then a ρ else b ρ
@[simp] def xB (a : XE) : XT := fun ρ => (a ρ).bind fun x => match x with | .bl c => some c | _ => none
theorem s_b {ta : TE} {a : XE} (ha : SPk K ta a) : ST K (tB ta) (xB a) := fun ρ σ S H Q b r x k => by
 unfold xB at x
 cases qa : a ρ with
 | none => rw [qa] at x; cases x
 | some da =>
  rw [qa] at x
  dsimp only [Option.bind] at x
  refine ha ρ σ S H _ da r qa fun v S1 H1 z1 d1 => ?_
  split at x
  ·cases x
   exact ⟨_, d1.bl, k S1 H1 z1⟩
  ·cases x
theorem cW {ta : TE} {a : XE} (ha : SPk K ta a) : ST K (Ft ta) (xB a) := s_b ha
def xD : D -> Option Bool
 | .non => some false
 | .bl b => some b
 | .int i => some (i != 0)
 | .str y => if y.length <= LIM then some ((y.length : Int) != 0) else none
 | .lst l => some (!l.isEmpty)
 | .tup l => some (!l.isEmpty)
 | .scr l => some (!l.isEmpty)
 | _ => none
theorem lr {ds : List D} {xs : List V} (h : Dens K S ds xs) : (!ds.isEmpty) = !xs.isEmpty := by
 have := h.length
 cases ds <;> cases xs <;> simp_all
@[simp] def qz (a : XE) : XT := fun ρ => (a ρ).bind xD
theorem Cc {d : D} {v : V} {b : Bool} (s : Same S H) (h : DenP K S H d v) (x : xD d = some b) : BD K v H b := by
 cases d with
 | non => rw [h.non]; cases x; rfl
 | bl c => rw [h.bl]; cases x; rfl
 | int i => rw [h.int]; cases x; rfl
 | str y =>
  rw [h.str]
  have x' : (if y.length <= LIM then some ((y.length : Int) != 0) else none) = some b := x
  split at x'
  ·rename_i hl; cases x'; exact ⟨Nat.le_of_lt (Nat.lt_of_le_of_lt hl fK), rfl⟩
  ·cases x'
 | lst l =>
  obtain ⟨p, xs, rfl, h1, h2⟩ := h.lst s
  cases x
  exact .inl ⟨xs, .inl h1, lr h2⟩
 | tup l =>
  obtain ⟨p, xs, rfl, h1, h2⟩ := h.tup s
  cases x
  exact .inr (.inl ⟨xs, h1, lr h2⟩)
 | scr l =>
  obtain ⟨p, xs, rfl, h1, h2⟩ := h.scr s
  cases x
  exact .inl ⟨xs, h1, lr h2⟩
 | _ => cases x
end
section
variable {K : W.Frag} {S S' H H' : Hp}
theorem HR {ta : TE} {a : XE} (ha : SPk K ta a) : ST K (fun σ H Q => ta σ H fun x H' => ∃ k, BD K x H' k /\ Q k H') (qz a) := fun ρ σ S H Q b r x k => by
 unfold qz at x
 cases qa : a ρ with
 | none => rw [qa] at x; cases x
 | some da =>
  rw [qa] at x
  exact ha ρ σ S H _ da r qa fun v S1 H1 z1 d1 => ⟨b, Cc z1.sub d1 x, k S1 H1 z1⟩
@[simp] def BP (a b : XT) : XT := fun ρ => (a ρ).bind fun x => if x = true then b ρ else some false
@[simp] def xOr (a b : XT) : XT := fun ρ => (a ρ).bind fun x => if x = true then some true else b ρ
@[simp] def CY (a : XT) : XT := fun ρ => (a ρ).map fun x => !x
theorem E8 {ta tb : TT} {a b : XT} (ha : ST K ta a) (hb : ST K tb b) : ST K (G5 ta tb) (BP a b) := fun ρ σ S H Q d r x k => by
 unfold BP at x
 cases qa : a ρ with
 | none => rw [qa] at x; cases x
 | some q =>
  rw [qa] at x
  dsimp only [Option.bind] at x
  refine ha ρ σ S H _ q r qa fun S1 H1 z1 => ?_
  cases q with
  | true => exact vB (hb ρ σ S1 H1 Q d (r.ext z1) (by simpa using x) fun S2 H2 z2 => k S2 H2 (z1.trans z2))
  | false =>
   have : d = false := by simpa using x.symm
   subst this
   exact vo (k S1 H1 z1)
theorem Go {ta tb : TT} {a b : XT} (ha : ST K ta a) (hb : ST K tb b) : ST K (tOr ta tb) (xOr a b) := fun ρ σ S H Q d r x k => by
 unfold xOr at x
 cases qa : a ρ with
 | none => rw [qa] at x; cases x
 | some q =>
  rw [qa] at x
  dsimp only [Option.bind] at x
  refine ha ρ σ S H _ q r qa fun S1 H1 z1 => ?_
  cases q with
  | false => exact vo (hb ρ σ S1 H1 Q d (r.ext z1) (by simpa using x) fun S2 H2 z2 => k S2 H2 (z1.trans z2))
  | true =>
   have : d = true := by simpa using x.symm
   subst this
   exact vB (k S1 H1 z1)
theorem CB {ta : TT} {a : XT} (ha : ST K ta a) : ST K (GL ta) (CY a) := fun ρ σ S H Q d r x k => by
 unfold CY at x
 cases qa : a ρ with
 | none => rw [qa] at x; cases x
 | some q =>
  rw [qa] at x
  cases x
  exact ha ρ σ S H _ q r qa k
inductive Out where
 | nx (ρ : Env) | rt (d : D) | ro (o : O) | bk (ρ : Env) | ct (ρ : Env)
abbrev XS := Env -> Option Out
def Done (K : W.Frag) (A : Hp) (Λ : Nat -> Option Addr) (S : Hp) (E : Ends) : Out -> Prop
 | .nx ρ => ∀ σ' S' H', RlA K A Λ ρ σ' S' H' -> Same S S' -> E.nx σ' H'
 | .bk ρ => ∀ σ' S' H', RlA K A Λ ρ σ' S' H' -> Same S S' -> E.bk σ' H'
 | .ct ρ => ∀ σ' S' H', RlA K A Λ ρ σ' S' H' -> Same S S' -> E.ct σ' H'
 | .rt d => ∀ v S' H', Same S S' -> Same S' H' -> Same A H' -> (∀ b, S' b = none \/ A b = none) -> Den K S' d v -> E.rt v H'
 | .ro o => ∀ v fp S' H', Same S S' -> Same S' H' -> Same A H' -> (∀ b, S' b = none \/ A b = none) -> Own K S' H' o v fp -> fp.Nodup -> (∀ b ∈ fp, S' b = none /\ A b = none) -> E.rt v H'
theorem Done.mono {A : Hp} {Λ : Nat -> Option Addr} {E : Ends} {o : Out} (s : Same S S') (h : Done K A Λ S E o) : Done K A Λ S' E o := by
 cases o with
 | nx ρ => exact fun σ1 S1 H1 r z => h σ1 S1 H1 r (s.trans z)
 | bk ρ => exact fun σ1 S1 H1 r z => h σ1 S1 H1 r (s.trans z)
 | ct ρ => exact fun σ1 S1 H1 r z => h σ1 S1 H1 r (s.trans z)
 | rt d => exact fun v S1 H1 z => h v S1 H1 (s.trans z)
 | ro d => exact fun v fp S1 H1 z => h v fp S1 H1 (s.trans z)
def SS (K : W.Frag) (t : TS) (m : XS) : Prop := ∀ A Λ ρ σ S H (E : Ends) o, RlA K A Λ ρ σ S H -> m ρ = some o -> Done K A Λ S E o -> t E σ H
@[simp] def gU : XS := fun ρ => some (.nx ρ)
theorem gc : SS K zg gU := fun A Λ ρ σ S H E o r x k => by cases x; exact k σ S H r (Same.refl _)
@[simp] def IK : XS := fun ρ => some (.bk ρ)
@[simp] def Jz : XS := fun ρ => some (.ct ρ)
@[simp] def De : XS := fun _ => none
theorem D8 {t : TS} : SS K t De := fun A Λ ρ σ S H E o r x k => by cases x
@[simp] def bE (m n : XS) : XS := fun ρ => match m ρ with | some (.nx ρ') => n ρ' | o => o
theorem a6 {t u : TS} {m n : XS} (ht : SS K t m) (hu : SS K u n) : SS K (F2 t u) (bE m n) := fun A Λ ρ σ S H E o r x k => by
 unfold bE at x
 cases q : m ρ with
 | none => rw [q] at x; cases x
 | some om =>
  rw [q] at x
  refine ht A Λ ρ σ S H _ om r q ?_
  cases om with
  | nx ρ' => exact fun σ' S' H' r' z => hu A Λ ρ' σ' S' H' E o r' x (k.mono z)
  | rt d => cases x; exact k
  | ro d => cases x; exact k
  | bk d => cases x; exact k
  | ct d => cases x; exact k
@[simp] def gE (e : XE) : XS := fun ρ => (e ρ).map .rt
theorem et {te : TE} {e : XE} (h : SE K te e) : SS K (Bm te) (gE e) := fun A Λ ρ σ S H E o r x k => by
 unfold gE at x
 cases q : e ρ with
 | none => rw [q] at x; cases x
 | some d =>
  rw [q] at x
  cases x
  refine h ρ σ S H _ d r.toRl q fun v S1 H1 z1 d1 => ?_
  have r1 := r.ext z1
  exact k v S1 H1 z1.sh z1.sub r1.asub r1.adis d1
@[simp] def C2 (e : Env -> Option O) : XS := fun ρ => (e ρ).map .ro
theorem Gp {te : TE} {e : Env -> Option O} (h : STr K te e) : SS K (Bm te) (C2 e) := fun A Λ ρ σ S H E o r x k => by
 unfold C2 at x
 cases q : e ρ with
 | none => rw [q] at x; cases x
 | some ot =>
  rw [q] at x
  cases x
  refine h ρ σ S H _ ot r.toRl q fun v fp S1 H1 z1 o1 nd n => ?_
  have r1 := r.ext z1
  exact k v fp S1 H1 z1.sh z1.sub r1.asub r1.adis o1 nd fun b hb => ⟨(n b hb).2, r.asub.free (n b hb).1⟩
@[simp] def zN (i : Nat) : XS := fun ρ => match ρ[i]? with | some (.sh d) => some (.rt d) | some (.ow o) => some (.ro o) | _ => none
theorem DD (i : Nat) : SS K (Bm (jG i)) (zN i) := fun A Λ ρ σ S H E o r x k => by
 unfold zN at x
 cases q : ρ[i]? with
 | none => rw [q] at x; cases x
 | some s =>
  rw [q] at x
  obtain ⟨Φ, f⟩ := r
  cases s with
  | un => cases x
  | lo => cases x
  | sh d =>
   cases x
   obtain ⟨v, h1, h2⟩ := f.sh i d q
   exact ⟨v, h1, k v S H (Same.refl _) f.sub f.asub f.adis h2⟩
  | ow ot =>
   cases x
   obtain ⟨v, h1, h2, h3, h4⟩ := f.ow i ot q
   exact ⟨v, h1, k v _ S H (Same.refl _) f.sub f.asub f.adis h2 h3 h4⟩
@[simp] def JP : XS := fun _ => some (.rt .non)
@[simp] def xIf (c : XT) (m n : XS) : XS := fun ρ => (c ρ).bind fun b => if b = true then m ρ else n ρ
theorem oH {tc : TT} {t u : TS} {c : XT} {m n : XS} (hc : ST K tc c) (ht : SS K t m) (hu : SS K u n) : SS K (GF tc t u) (xIf c m n) := fun A Λ ρ σ S H E o r x k => by
 unfold xIf at x
 cases qc : c ρ with
 | none => rw [qc] at x; cases x
 | some q =>
  rw [qc] at x
  dsimp only [Option.bind] at x
  refine hc ρ σ S H _ q r.toRl qc fun S1 H1 z1 => ?_
  cases q with
  | true => exact vB (ht A Λ ρ σ S1 H1 E o (r.ext z1) (by simpa using x) (k.mono z1.sh))
  | false => exact vo (hu A Λ ρ σ S1 H1 E o (r.ext z1) (by simpa using x) (k.mono z1.sh))
theorem bv {α : Type} {l : List α} {i j : Nat} {x y : α} (h : (l.set i x)[j]? = some y) : (i = j /\ y = x /\ i < l.length) \/ (i ≠ j /\ l[j]? = some y) := by
 by_cases hij : i = j
 ·subst hij
  have hl := (List.getElem?_eq_some_iff.mp h).1
  rw [List.length_set] at hl
  rw [List.getElem?_set_self hl] at h
  exact .inl ⟨rfl, (Option.some.inj h).symm, hl⟩
 ·rw [List.getElem?_set_ne hij] at h
  exact .inr ⟨hij, h⟩
theorem RlF.set {A : Hp} {Λ : Nat -> Option Addr} {Φ : Nat -> List Addr} {ρ : Env} {σ : St} {d : D} {v : V} (r : RlF K A Λ Φ ρ σ S H) (i : Nat) (h : Den K S d v) : RlF K A Λ Φ (ρ.set i (.sh d)) (σ.set i (some v)) S H where
 len := by rw [List.length_set, List.length_set]; exact r.len
 sub := r.sub
 sh := fun j e hj => by
  rcases bv hj with ⟨rfl, e, hl⟩ | ⟨hij, hj⟩
  ·cases e
   exact ⟨v, List.getElem?_set_self (by rw [r.len]; exact hl), h⟩
  ·rw [List.getElem?_set_ne hij]
   exact r.sh j e hj
 ow := fun j o hj => by
  rcases bv hj with ⟨rfl, e, hl⟩ | ⟨hij, hj⟩
  ·cases e
  ·rw [List.getElem?_set_ne hij]
   exact r.ow j o hj
 dj := fun j k o o' hjk h1 h2 => by
  rcases bv h1 with ⟨rfl, e, hl⟩ | ⟨hij, h1⟩
  ·cases e
  ·rcases bv h2 with ⟨rfl, e, hl⟩ | ⟨hik, h2⟩
   ·cases e
   ·exact r.dj j k o o' hjk h1 h2
 lo := fun j hj => by
  rcases bv hj with ⟨rfl, e, hl⟩ | ⟨hij, hj⟩
  ·cases e
  ·rw [List.getElem?_set_ne hij]
   exact r.lo j hj
 asub := r.asub
 adis := r.adis
theorem RlA.set {A : Hp} {Λ : Nat -> Option Addr} {ρ : Env} {σ : St} {d : D} {v : V} (r : RlA K A Λ ρ σ S H) (i : Nat) (h : Den K S d v) : RlA K A Λ (ρ.set i (.sh d)) (σ.set i (some v)) S H := let ⟨Φ, f⟩ := r; ⟨Φ, f.set i h⟩
theorem RlF.put {A : Hp} {Λ : Nat -> Option Addr} {Φ : Nat -> List Addr} {ρ : Env} {σ : St} {o : O} {v : V} {fp : List Addr} (r : RlF K A Λ Φ ρ σ S H) (i : Nat) (sub : Same S H') (asub : Same A H') (ow : Own K S H' o v fp) (nd : fp.Nodup) (n : ∀ b ∈ fp, S b = none /\ A b = none)
  (keep : ∀ (j : Nat) o', j ≠ i -> ρ[j]? = some (.ow o') -> ∀ b ∈ Φ j, H' b = H b /\ b ∉ fp) : RlF K A Λ (fun j => if j = i then fp else Φ j) (ρ.set i (.ow o)) (σ.set i (some v)) S H' where
 len := by rw [List.length_set, List.length_set]; exact r.len
 sub := sub
 sh := fun j e hj => by
  rcases bv hj with ⟨rfl, e, hl⟩ | ⟨hij, hj⟩
  ·cases e
  ·rw [List.getElem?_set_ne hij]
   exact r.sh j e hj
 ow := fun j o' hj => by
  rcases bv hj with ⟨rfl, e, hl⟩ | ⟨hij, hj⟩
  ·cases e
   rw [if_pos rfl]
   exact ⟨v, List.getElem?_set_self (by rw [r.len]; exact hl), ow, nd, n⟩
  ·rw [List.getElem?_set_ne hij, if_neg (Ne.symm hij)]
   obtain ⟨w, h1, h2, h3, h4⟩ := r.ow j o' hj
   exact ⟨w, h1, h2.mono (Same.refl _) fun b hb => (keep j o' (Ne.symm hij) hj b hb).1, h3, h4⟩
 dj := fun j k o1 o2 hjk h1 h2 b hb hb2 => by
  rcases bv h1 with ⟨rfl, e, hl⟩ | ⟨hij, h1⟩
  ·rcases bv h2 with ⟨rfl, e, hl⟩ | ⟨hik, h2⟩
   ·exact hjk rfl
   ·rw [if_pos rfl] at hb
    rw [if_neg (Ne.symm hik)] at hb2
    exact (keep k o2 (Ne.symm hik) h2 b hb2).2 hb
  ·rcases bv h2 with ⟨rfl, e, hl⟩ | ⟨hik, h2⟩
   ·rw [if_pos rfl] at hb2
    rw [if_neg (Ne.symm hij)] at hb
    exact (keep j o1 (Ne.symm hij) h1 b hb).2 hb2
   ·rw [if_neg (Ne.symm hij)] at hb
    rw [if_neg (Ne.symm hik)] at hb2
    exact r.dj j k o1 o2 hjk h1 h2 b hb hb2
 lo := fun j hj => by
  rcases bv hj with ⟨rfl, e, hl⟩ | ⟨hij, hj⟩
  ·cases e
  ·rw [List.getElem?_set_ne hij]
   exact r.lo j hj
 asub := asub
 adis := r.adis
theorem vO {α : Type} {l : List α} {i : Nat} {x : α} (h : l[i]? = some x) : l.set i x = l := by
 apply List.ext_getElem?
 intro j
 by_cases e : i = j
 ·subst e
  rw [List.getElem?_set_self (List.getElem?_eq_some_iff.mp h).1, h]
 ·rw [List.getElem?_set_ne e]
def frz (i : Nat) (ρ : Env) : Env := match ρ[i]? with | some (.ow o) => ρ.set i (.sh o.d) | _ => ρ
theorem RlA.frz {A : Hp} {Λ : Nat -> Option Addr} {ρ : Env} {σ : St} (r : RlA K A Λ ρ σ S H) (i : Nat) : ∃ S', Same S S' /\ RlA K A Λ (frz i ρ) σ S' H := by
 unfold M.frz
 cases q : ρ[i]? with
 | none => exact ⟨S, Same.refl _, r⟩
 | some s =>
  cases s with
  | un => exact ⟨S, Same.refl _, r⟩
  | lo => exact ⟨S, Same.refl _, r⟩
  | sh d => exact ⟨S, Same.refl _, r⟩
  | ow o =>
   dsimp only
   obtain ⟨Φ, f⟩ := r
   obtain ⟨v, h1, h2, h3, h4⟩ := f.ow i o q
   have s2 : Same S (vF S H (Φ i)) := kx fun b hb => (h4 b hb).1
   have hd : Den K (vF S H (Φ i)) o.d v := h2.den s2 fun b hb => o9 hb
   refine ⟨_, s2, Φ, ?_⟩
   exact {
    len := by rw [List.length_set]; exact f.len
    sub := xm f.sub
    sh := fun j d hj => by
     rcases bv hj with ⟨rfl, e, hl⟩ | ⟨hij, hj⟩
     ·cases e
      exact ⟨v, h1, hd⟩
     ·obtain ⟨w, k1, k2⟩ := f.sh j d hj
      exact ⟨w, k1, k2.mono s2⟩
    ow := fun j o' hj => by
     rcases bv hj with ⟨rfl, e, hl⟩ | ⟨hij, hj⟩
     ·cases e
     ·obtain ⟨w, k1, k2, k3, k4⟩ := f.ow j o' hj
      exact ⟨w, k1, k2.mono s2 fun _ _ => rfl, k3, fun b hb => ⟨by rw [jT fun hi => f.dj i j o o' hij q hj b hi hb]; exact (k4 b hb).1, (k4 b hb).2⟩⟩
    dj := fun j k o1 o2 hjk g1 g2 => by
     rcases bv g1 with ⟨rfl, e, hl⟩ | ⟨hij, g1⟩
     ·cases e
     ·rcases bv g2 with ⟨rfl, e, hl⟩ | ⟨hik, g2⟩
      ·cases e
      ·exact f.dj j k o1 o2 hjk g1 g2
    lo := fun j hj => by
     rcases bv hj with ⟨rfl, e, hl⟩ | ⟨hij, hj⟩
     ·cases e
     ·exact f.lo j hj
    asub := f.asub
    adis := fun b => by
     by_cases hb : b ∈ Φ i
     ·exact .inr (h4 b hb).2
     ·rw [jT hb]; exact f.adis b }
@[simp] def FI (i : Nat) (m : XS) : XS := fun ρ => m (frz i ρ)
theorem Fh {t : TS} {m : XS} (i : Nat) (h : SS K t m) : SS K t (FI i m) := fun A Λ ρ σ S H E o r x k => by
 obtain ⟨S', s, r'⟩ := r.frz i
 exact h A Λ _ σ S' H E o r' x (k.mono s)
abbrev XG := D -> Env -> Option Env
abbrev XGs := List D -> Env -> Option Env
def SG (K : W.Frag) (g : TG) (x : XG) : Prop := ∀ A Λ ρ σ S H v d (Q : St -> Hp -> Prop) ρ', RlA K A Λ ρ σ S H -> Den K S d v -> x d ρ = some ρ' -> (∀ σ', RlA K A Λ ρ' σ' S H -> Q σ' H) -> g v σ H Q
def SGs (K : W.Frag) (g : TGs) (x : XGs) : Prop := ∀ A Λ ρ σ S H vs ds (Q : St -> Hp -> Prop) ρ', RlA K A Λ ρ σ S H -> Dens K S ds vs -> x ds ρ = some ρ' -> (∀ σ', RlA K A Λ ρ' σ' S H -> Q σ' H) -> g vs σ H Q
@[simp] def aj (i : Nat) : XG := fun d ρ => some (ρ.set i (.sh d))
def bu : XGs := fun ds ρ => match ds with | [] => some ρ | _ => none
def aq (x : XG) (y : XGs) : XGs := fun ds ρ => match ds with | d :: r => (x d ρ).bind (y r) | [] => none
def bq (y : XGs) : XG := fun d ρ => match d with | .tup l => y l ρ | .mtp l => y l ρ | _ => none
theorem aB (i : Nat) : SG K (gB i) (aj i) := fun A Λ ρ σ S H v d Q ρ' r dv x k => by cases x; exact k _ (r.set i dv)
theorem ft : SGs K F9 bu := fun A Λ ρ σ S H vs ds Q ρ' r dv x k => by
 cases ds with
 | nil => cases x; exact ⟨dv.nil_of, k σ r⟩
 | cons _ _ => cases x
theorem aU {g : TG} {gs : TGs} {x : XG} {y : XGs} (h : SG K g x) (hs : SGs K gs y) : SGs K (Dd g gs) (aq x y) := fun A Λ ρ σ S H vs ds Q ρ' r dv e k => by
 cases ds with
 | nil => cases e
 | cons d ds =>
  obtain ⟨v, vs, rfl, h1, h2⟩ := dv.cons_of
  have e' : (x d ρ).bind (y ds) = some ρ' := e
  cases q : x d ρ with
  | none => rw [q] at e'; cases e'
  | some ρ1 =>
   rw [q] at e'
   exact ⟨v, vs, rfl, h A Λ ρ σ S H v d _ ρ1 r h1 q fun σ1 r1 => hs A Λ ρ1 σ1 S H vs ds Q ρ' r1 h2 e' k⟩
def wa (y : XGs) (n : Nat) : Prop := ∀ ds ρ ρ', y ds ρ = some ρ' -> ds.length = n
theorem dt : wa bu 0 := fun ds ρ ρ' e => by cases ds with | nil => rfl | cons _ _ => cases e
theorem aM {x : XG} {y : XGs} {n : Nat} (h : wa y n) : wa (aq x y) (n + 1) := fun ds ρ ρ' e => by
 cases ds with
 | nil => cases e
 | cons d ds =>
  have e' : (x d ρ).bind (y ds) = some ρ' := e
  cases q : x d ρ with
  | none => rw [q] at e'; cases e'
  | some ρ1 => rw [q] at e'; rw [List.length_cons, h ds ρ1 ρ' e']
theorem gF {gs : TGs} {y : XGs} {n : Nat} (hs : SGs K gs y) (hl : wa y n) : SG K (D6 K n gs) (bq y) := fun A Λ ρ σ S H v d Q ρ' r dv e k => by
 cases d with
 | tup l =>
  obtain ⟨p, xs, rfl, h1, h2⟩ := iu dv
  exact ⟨p, xs, rfl, bf r.sub h1, by rw [<- h2.length]; exact hl l ρ ρ' e, hs A Λ ρ σ S H xs l Q ρ' r h2 e k⟩
 | mtp l =>
  obtain ⟨p, xs, rfl, h1, h2⟩ := den_mtp.mp dv
  exact ⟨p, xs, rfl, bf r.sub h1, by rw [<- h2.length]; exact hl l ρ ρ' e, hs A Λ ρ σ S H xs l Q ρ' r h2 e k⟩
 | _ => cases e
@[simp] def gh (e : XE) (g : XG) : XS := fun ρ => (e ρ).bind fun d => (g d ρ).map .nx
theorem eF {te : TE} {g : TG} {e : XE} {x : XG} (h : SE K te e) (hg : SG K g x) : SS K (rH te g) (gh e x) := fun A Λ ρ σ S H E o r y k => by
 unfold gh at y
 cases q : e ρ with
 | none => rw [q] at y; cases y
 | some d =>
  rw [q] at y
  dsimp only [Option.bind] at y
  cases q2 : x d ρ with
  | none => rw [q2] at y; cases y
  | some ρ' =>
   rw [q2] at y
   cases y
   exact h ρ σ S H _ d r.toRl q fun v S1 H1 z1 d1 => hg A Λ ρ σ S1 H1 v d _ ρ' (r.ext z1) d1 q2 fun σ' r' => k σ' S1 H1 r' z1.sh
@[simp] def ub (e : Env -> Option O) (i : Nat) : XS := fun ρ => (e ρ).map fun o => .nx (ρ.set i (.ow o))
theorem yx {te : TE} {e : Env -> Option O} {i : Nat} (h : STr K te e) : SS K (rH te (gB i)) (ub e i) := fun A Λ ρ σ S H E o r y k => by
 unfold ub at y
 cases q : e ρ with
 | none => rw [q] at y; cases y
 | some ot =>
  rw [q] at y
  cases y
  obtain ⟨Φ, f⟩ := r
  refine h ρ σ S H _ ot ⟨A, Λ, Φ, f⟩ q fun v fp S1 H1 z1 o1 nd n => ?_
  have r1 := f.ext z1
  refine k _ S1 H1 ⟨_, r1.put (H' := H1) i r1.sub r1.asub o1 nd (fun b hb => ⟨(n b hb).2, f.asub.free (n b hb).1⟩) fun j o' hj e1 b hb => ⟨rfl, fun hf => ?_⟩⟩ z1.sh
  obtain ⟨w, _, k2, _, _⟩ := f.ow j o' e1
  exact k2.there b hb (n b hf).1
@[simp] def kK (e : XA) (i : Nat) : XS := ub (xLT e) i
theorem jV {te : TE} {e : XA} {i : Nat} (h : SF K te e) : SS K (rH te (gB i)) (kK e i) := yx h.t
def dH : O -> List Int -> Option O
 | o, [] => some o
 | .lst l, k :: r => (atI l k).bind fun o => dH o r
 | .tup l, k :: r => (atI l k).bind fun o => dH o r
 | .sh _, _ :: _ => none
 | .dic _, _ :: _ => none
 | .hd _ _ _, _ :: _ => none
def rG (l : List O) (k : Int) (f : O -> O) : List O := match ixN l.length k with
 | some j => (match l[j]? with | some o => l.set j (f o) | none => l)
 | none => l
def ij : O -> List Int -> O -> O
 | _, [], q => q
 | .lst l, k :: r, q => .lst (rG l k fun o => ij o r q)
 | .tup l, k :: r, q => .tup (rG l k fun o => ij o r q)
 | .sh d, _ :: _, _ => .sh d
 | .dic d, _ :: _, _ => .dic d
 | .hd p d l, _ :: _, _ => .hd p d l
def WalkV (H : Hp) : V -> List Int -> V -> Prop
 | v, [], w => v = w
 | v, k :: r, w => ∃ a xs u, v = .ref a /\ (H a = some (.lst xs) \/ H a = some (.tup xs)) /\ atI xs k = some u /\ WalkV H u r w
theorem WalkV.mono (s : Same H H') : ∀ {p : List Int} {v w : V}, WalkV H v p w -> WalkV H' v p w
 | [], _, _, h => h
 | _ :: _, _, _, ⟨a, xs, u, e, h, k, m⟩ => ⟨a, xs, u, e, h.elim (fun z => .inl (s _ _ z)) (fun z => .inr (s _ _ z)), k, m.mono s⟩
theorem WalkV.uniq : ∀ {p : List Int} {v w w' : V}, WalkV H v p w -> WalkV H v p w' -> w = w'
 | [], _, _, _, h, k => h.symm.trans k
 | _ :: _, _, _, _, hpt0, hpt1 => by
  obtain ⟨a, xs, u, e, h, k, m⟩ := hpt0
  obtain ⟨a', xs', u', e', h', k', m'⟩ := hpt1
  rw [e] at e'
  cases e'
  have : xs = xs' := by
   rcases h with h | h <;> rcases h' with h' | h' <;> rw [h] at h' <;> cases h' <;> rfl
  subst this
  rw [k] at k'
  cases k'
  exact m.uniq m'
theorem WalkV.snoc : ∀ {p : List Int} {v w u : V} {k : Int} {a : Addr} {xs : List V}, WalkV H v p w -> w = .ref a -> (H a = some (.lst xs) \/ H a = some (.tup xs)) -> atI xs k = some u -> WalkV H v (p ++ [k]) u
 | [], _, _, u, k, a, xs, h, e, h1, h2 => ⟨a, xs, u, h.trans e, h1, h2, rfl⟩
 | _ :: _, _, _, _, _, _, _, ⟨b, ys, u', e, h, k, m⟩, e', h1, h2 => ⟨b, ys, u', e, h, k, m.snoc e' h1 h2⟩
theorem mU : ∀ {p : List Int} {o q : O} {k : Int}, dH o (p ++ [k]) = some q -> ∃ q0, dH o p = some q0 /\ dH q0 [k] = some q
 | [], o, q, k, h => ⟨o, by unfold dH; rfl, h⟩
 | j :: p, o, q, k, h => by
  cases o with
  | sh d => cases h
  | dic _ => cases h
  | hd _ _ _ => cases h
  | lst l =>
   have h' : (atI l j).bind (fun o => dH o (p ++ [k])) = some q := h
   cases e : atI l j with
   | none => rw [e] at h'; cases h'
   | some o1 =>
    rw [e] at h'
    obtain ⟨q0, a, b⟩ := mU (p := p) h'
    exact ⟨q0, by show (atI l j).bind (fun o => dH o p) = some q0; rw [e]; exact a, b⟩
  | tup l =>
   have h' : (atI l j).bind (fun o => dH o (p ++ [k])) = some q := h
   cases e : atI l j with
   | none => rw [e] at h'; cases h'
   | some o1 =>
    rw [e] at h'
    obtain ⟨q0, a, b⟩ := mU (p := p) h'
    exact ⟨q0, by show (atI l j).bind (fun o => dH o p) = some q0; rw [e]; exact a, b⟩
theorem Owns.split : ∀ {l : List O} {xs : List V} {f : List Addr} {j : Nat} {o : O}, Owns K S H l xs f -> l[j]? = some o -> ∃ x f1 f2 f3, xs[j]? = some x /\ f = f1 ++ (f2 ++ f3) /\ Own K S H o x f2 /\
  ∀ H' o' f2', Own K S H' o' x f2' -> (∀ b ∈ f1, H' b = H b) -> (∀ b ∈ f3, H' b = H b) -> Owns K S H' (l.set j o') xs (f1 ++ (f2' ++ f3))
 | [], _, _, _, _, _, e => by simp at e
 | o0 :: l, _, _, 0, o, h, e => by
  obtain ⟨y, ys, f, g, rfl, rfl, a, b⟩ := h.cons_of
  simp at e; subst e
  exact ⟨y, [], f, g, rfl, rfl, a, fun H' o' f2' h1 _ h3 => Owns.cons (f := f2') h1 (b.mono (Same.refl _) h3)⟩
 | o0 :: l, _, _, j + 1, o, h, e => by
  obtain ⟨y, ys, f, g, rfl, rfl, a, b⟩ := h.cons_of
  obtain ⟨x, f1, f2, f3, e1, rfl, h1, h2⟩ := b.split (j := j) (by simpa using e)
  refine ⟨x, f ++ f1, f2, f3, by simpa using e1, by rw [List.append_assoc], h1, fun H' o' f2' k1 k2 k3 => ?_⟩
  rw [List.append_assoc]
  exact .cons (a.mono (Same.refl _) fun b hb => k2 b (List.mem_append_left _ hb)) (h2 H' o' f2' k1 (fun b hb => k2 b (List.mem_append_right _ hb)) k3)
theorem yF {α : Type} {l : List α} {k : Int} {x : α} (h : atI l k = some x) : ∃ j, ixN l.length k = some j /\ l[j]? = some x := by
 unfold atI at h
 cases q : ixN l.length k with
 | none => rw [q] at h; cases h
 | some j => rw [q] at h; exact ⟨j, rfl, h⟩
theorem DF : ∀ {p : List Int} {o q : O} {v : V} {fp : List Addr}, Own K S H o v fp -> fp.Nodup -> dH o p = some q -> ∃ w fq, Own K S H q w fq /\ WalkV H v p w /\ (∀ b ∈ fq, b ∈ fp) /\ fq.Nodup /\
  ∀ H' q' fq', Own K S H' q' w fq' -> fq'.Nodup -> (∀ b ∈ fp, b ∉ fq -> H' b = H b) -> (∀ b ∈ fq', b ∈ fp -> b ∈ fq) -> ∃ fp', Own K S H' (ij o p q') v fp' /\ fp'.Nodup /\ ∀ b ∈ fp', b ∈ fp \/ b ∈ fq'
 | [], o, q, v, fp, h, nd, e => by
  have e' : some o = some q := by unfold dH at e; exact e
  cases e'
  exact ⟨v, fp, h, rfl, fun b hb => hb, nd, fun H' q' fq' h1 n1 _ _ => ⟨fq', by unfold ij; exact h1, n1, fun b hb => .inr hb⟩⟩
 | k :: r, o, q, v, fp, h, nd, e => by
  have body : ∀ (l : List O) (a : Addr) (xs : List V) (f : List Addr), v = .ref a -> fp = a :: f -> (H a = some (.lst xs) \/ H a = some (.tup xs)) -> Owns K S H l xs f -> ((atI l k).bind fun o => dH o r) = some q ->
    ∃ w fq, Own K S H q w fq /\ WalkV H v (k :: r) w /\ (∀ b ∈ fq, b ∈ fp) /\ fq.Nodup /\ ∀ H' q' fq', Own K S H' q' w fq' -> fq'.Nodup -> (∀ b ∈ fp, b ∉ fq -> H' b = H b) -> (∀ b ∈ fq', b ∈ fp -> b ∈ fq) ->
     ∃ f', Owns K S H' (rG l k fun o => ij o r q') xs f' /\ H' a = H a /\ (a :: f').Nodup /\ ∀ b ∈ a :: f', b ∈ fp \/ b ∈ fq' := by
   rintro l a xs f rfl rfl ha hl hs
   obtain ⟨na, nf⟩ := List.nodup_cons.mp nd
   cases qa : atI l k with
   | none => rw [qa] at hs; cases hs
   | some o1 =>
    rw [qa] at hs
    obtain ⟨j, ej, el⟩ := yF qa
    obtain ⟨x, f1, f2, f3, ex, rfl, h1, h2⟩ := hl.split el
    obtain ⟨n1, n23, d1⟩ := List.nodup_append.mp nf
    obtain ⟨n2, n3, d2⟩ := List.nodup_append.mp n23
    obtain ⟨w, fq, k1, k2, k3, k4, k5⟩ := DF (p := r) h1 n2 hs
    have ax : atI xs k = some x := by unfold atI; rw [<- hl.length, ej]; exact ex
    refine ⟨w, fq, k1, ⟨a, xs, x, rfl, ha, ax, k2⟩, fun b hb => List.mem_cons_of_mem _ (List.mem_append_right _ (List.mem_append_left _ (k3 b hb))), k4, fun H' q' fq' g1 g2 g3 g4 => ?_⟩
    have in2 : ∀ b ∈ fq, b ∈ f2 := k3
    have a1 : ∀ b ∈ f1, b ∉ fq := fun b hb hq => d1 b hb b (List.mem_append_left _ (in2 b hq)) rfl
    have a3 : ∀ b ∈ f3, b ∉ fq := fun b hb hq => d2 b (in2 b hq) b hb rfl
    have aa : a ∉ fq := fun hq => na (List.mem_append_right _ (List.mem_append_left _ (in2 a hq)))
    obtain ⟨f2', m1, m2, m3⟩ := k5 H' q' fq' g1 g2 (fun b hb hn => g3 b (List.mem_cons_of_mem _ (List.mem_append_right _ (List.mem_append_left _ hb))) hn) fun b hb hp => g4 b hb (List.mem_cons_of_mem _ (List.mem_append_right _ (List.mem_append_left _ hp)))
    have out : ∀ b ∈ f2', b ∉ f1 /\ b ∉ f3 /\ b ≠ a := fun b hb => by
     rcases m3 b hb with hb | hb
     ·exact ⟨fun z => d1 b z b (List.mem_append_left _ hb) rfl, fun z => d2 b hb b z rfl, fun z => na (z ▸ List.mem_append_right _ (List.mem_append_left _ hb))⟩
     ·refine ⟨fun z => a1 b z (g4 b hb (List.mem_cons_of_mem _ (List.mem_append_left _ z))), fun z => a3 b z (g4 b hb (List.mem_cons_of_mem _ (List.mem_append_right _ (List.mem_append_right _ z)))), fun z => ?_⟩
      subst z
      exact aa (g4 b hb List.mem_cons_self)
    refine ⟨f1 ++ (f2' ++ f3), ?_, g3 a List.mem_cons_self aa, ?_, fun b hb => ?_⟩
    ·unfold rG
     rw [ej]
     dsimp only
     rw [el]
     exact h2 H' _ f2' m1 (fun b hb => g3 b (List.mem_cons_of_mem _ (List.mem_append_left _ hb)) (a1 b hb)) fun b hb => g3 b (List.mem_cons_of_mem _ (List.mem_append_right _ (List.mem_append_right _ hb))) (a3 b hb)
    ·refine List.nodup_cons.mpr ⟨fun z => ?_, List.nodup_append.mpr ⟨n1, List.nodup_append.mpr ⟨m2, n3, fun b hb c hc e => (out b hb).2.1 (e ▸ hc)⟩, fun b hb c hc e => ?_⟩⟩
     ·rcases List.mem_append.mp z with z | z
      ·exact na (List.mem_append_left _ z)
      ·rcases List.mem_append.mp z with z | z
       ·exact (out a z).2.2 rfl
       ·exact na (List.mem_append_right _ (List.mem_append_right _ z))
     ·subst e
      rcases List.mem_append.mp hc with hc | hc
      ·exact (out b hc).1 hb
      ·exact d1 b hb b (List.mem_append_right _ hc) rfl
    ·rcases List.mem_cons.mp hb with rfl | hb
     ·exact .inl List.mem_cons_self
     ·rcases List.mem_append.mp hb with hb | hb
      ·exact .inl (List.mem_cons_of_mem _ (List.mem_append_left _ hb))
      ·rcases List.mem_append.mp hb with hb | hb
       ·exact (m3 b hb).imp (fun z => List.mem_cons_of_mem _ (List.mem_append_right _ (List.mem_append_left _ z))) id
       ·exact .inl (List.mem_cons_of_mem _ (List.mem_append_right _ (List.mem_append_right _ hb)))
  cases o with
  | sh d => cases e
  | dic _ => cases e
  | hd _ _ _ => cases e
  | lst l =>
   obtain ⟨a, xs, f, e1, e2, h1, h2⟩ := own_lst.mp h
   obtain ⟨w, fq, k1, k2, k3, k4, k5⟩ := body l a xs f e1 e2 (.inl h1) h2 e
   refine ⟨w, fq, k1, k2, k3, k4, fun H' q' fq' g1 g2 g3 g4 => ?_⟩
   obtain ⟨f', m1, m2, m3, m4⟩ := k5 H' q' fq' g1 g2 g3 g4
   exact ⟨a :: f', by unfold ij; exact own_lst.mpr ⟨a, xs, f', e1, rfl, by rw [m2]; exact h1, m1⟩, m3, m4⟩
  | tup l =>
   obtain ⟨a, xs, f, e1, e2, h1, h2⟩ := own_tup.mp h
   obtain ⟨w, fq, k1, k2, k3, k4, k5⟩ := body l a xs f e1 e2 (.inr h1) h2 e
   refine ⟨w, fq, k1, k2, k3, k4, fun H' q' fq' g1 g2 g3 g4 => ?_⟩
   obtain ⟨f', m1, m2, m3, m4⟩ := k5 H' q' fq' g1 g2 g3 g4
   exact ⟨a :: f', by unfold ij; exact own_tup.mpr ⟨a, xs, f', e1, rfl, by rw [m2]; exact h1, m1⟩, m3, m4⟩
abbrev XP := Env -> Option (List Int)
def AU (K : W.Frag) (to : TE) (i : Nat) (p : XP) : Prop := ∀ ρ σ S H (Q : VK) is o q, Rl K ρ σ S H -> ρ[i]? = some (.ow o) -> p ρ = some is -> dH o is = some q -> (∀ v w S' H', σ[i]? = some (some v) -> Ext S H S' H' -> WalkV H' v is w -> Q w H') -> to σ H Q
@[simp] def xPv : XP := fun _ => some []
theorem nZ (i : Nat) : AU K (jG i) i xPv := fun ρ σ S H Q is o q r h1 h2 h3 k => by
 cases h2
 obtain ⟨v, fp, e, _⟩ := r.ow i o h1
 exact ⟨v, e, k v v S H e (Ext.refl r.sub) rfl⟩
@[simp] def xPi (p : XP) (ix : XE) : XP := fun ρ => (p ρ).bind fun is => (ix ρ).bind fun d => match d with | .int k => some (is ++ [k]) | _ => none
theorem GU {to ti : TE} {i : Nat} {p : XP} {ix : XE} (hp : AU K to i p) (hi : SPk K ti ix) : AU K (tOp (rIx K) to ti) i (xPi p ix) := fun ρ σ S H Q is o q r h1 h2 h3 k => by
 unfold xPi at h2
 cases e1 : p ρ with
 | none => rw [e1] at h2; cases h2
 | some js =>
  rw [e1] at h2
  dsimp only [Option.bind] at h2
  cases e2 : ix ρ with
  | none => rw [e2] at h2; cases h2
  | some d =>
   rw [e2] at h2
   cases d with
   | int kk =>
    cases h2
    obtain ⟨q0, s1, s2⟩ := mU h3
    refine hp ρ σ S H _ js o q0 r h1 e1 s1 fun v w S1 H1 ev z1 wk => ?_
    have r1 := r.ext z1
    refine hi ρ σ S1 H1 _ _ r1 e2 fun u S2 H2 z2 d2 => ?_
    have r2 := r1.ext z2
    obtain ⟨v', fp, ev', ow, nd, _⟩ := r2.ow i o h1
    rw [ev] at ev'
    cases ev'
    obtain ⟨w', fq, k1, k2, _⟩ := DF ow nd s1
    have ew := k2.uniq (wk.mono (z2.same r1.sub))
    subst ew
    rw [d2.int]
    cases q0 with
    | sh _ => cases s2
    | dic _ => cases s2
    | hd _ _ _ => cases s2
    | lst l =>
     have s2' : (atI l kk).bind (fun o => dH o []) = some q := s2
     cases e3 : atI l kk with
     | none => rw [e3] at s2'; cases s2'
     | some o1 =>
      obtain ⟨a, xs, f, rfl, rfl, hx, hl⟩ := own_lst.mp k1
      obtain ⟨j, ej, el⟩ := yF e3
      obtain ⟨x, _, _, _, ex, _⟩ := hl.split el
      have ax : atI xs kk = some x := by unfold atI; rw [<- hl.length, ej]; exact ex
      exact .inl ⟨a, xs, kk, x, rfl, rfl, SqL.of hx, ax, k v x S2 H2 ev (z1.trans z2) (k2.snoc rfl (.inl hx) ax)⟩
    | tup l =>
     have s2' : (atI l kk).bind (fun o => dH o []) = some q := s2
     cases e3 : atI l kk with
     | none => rw [e3] at s2'; cases s2'
     | some o1 =>
      obtain ⟨a, xs, f, rfl, rfl, hx, hl⟩ := own_tup.mp k1
      obtain ⟨j, ej, el⟩ := yF e3
      obtain ⟨x, _, _, _, ex, _⟩ := hl.split el
      have ax : atI xs kk = some x := by unfold atI; rw [<- hl.length, ej]; exact ex
      exact .inr (.inl ⟨a, xs, kk, x, rfl, rfl, SqT.of hx, ax, k v x S2 H2 ev (z1.trans z2) (k2.snoc rfl (.inr hx) ax)⟩)
   | _ => cases h2
theorem RlF.at {A : Hp} {Λ : Nat -> Option Addr} {Φ : Nat -> List Addr} {ρ : Env} {σ : St} {i : Nat} {o : O} {is : List Int} {l : List O} {v w : V} (f : RlF K A Λ Φ ρ σ S H) (h1 : ρ[i]? = some (.ow o)) (h2 : dH o is = some (.lst l)) (ev : σ[i]? = some (some v)) (wk : WalkV H v is w) :
  ∃ a xs f0, w = .ref a /\ H a = some (.lst xs) /\ Owns K S H l xs f0 /\ (a :: f0).Nodup /\ (∀ b ∈ a :: f0, b ∈ Φ i) /\ ∀ l' xs' f', (∀ H', (∀ b, b ≠ a -> H' b = H b) -> Owns K S H' l' xs' f') -> (a :: f').Nodup -> (∀ b ∈ f', b ∈ f0 \/ ((∀ (j : Nat) o', ρ[j]? = some (.ow o') -> b ∉ Φ j) /\ S b = none /\ A b = none)) ->
   RlA K A Λ (ρ.set i (.ow (ij o is (.lst l')))) σ S (upd H a (.lst xs')) := by
 obtain ⟨v', e', ow, nd, n⟩ := f.ow i o h1
 rw [ev] at e'
 cases e'
 obtain ⟨w', fq, k1, k2, k3, k4, k5⟩ := DF ow nd h2
 have ew := k2.uniq wk
 subst ew
 obtain ⟨a, xs, g, rfl, rfl, hx, hl⟩ := own_lst.mp k1
 have ain := k3 a List.mem_cons_self
 refine ⟨a, xs, g, rfl, hx, hl, k4, k3, fun l' xs' f' g1 g2 g3 => ?_⟩
 have ne : ∀ b, b ≠ a -> upd H a (.lst xs') b = H b := fun b hb => aA hb
 obtain ⟨fp', m1, m2, m3⟩ := k5 (upd H a (.lst xs')) (.lst l') (a :: f') (own_lst.mpr ⟨a, xs', f', rfl, rfl, aJ, g1 _ ne⟩) g2 (fun b hb hn => ne b fun z => hn (z ▸ List.mem_cons_self)) fun b hb hp => by
  rcases List.mem_cons.mp hb with rfl | hb
  ·exact List.mem_cons_self
  ·rcases g3 b hb with z | ⟨z, _⟩
   ·exact List.mem_cons_of_mem _ z
   ·exact absurd hp (z i o h1)
 have sub' : Same S (upd H a (.lst xs')) := fun b u e => by rw [ne b fun z => by subst z; rw [(n b ain).1] at e; cases e]; exact f.sub b u e
 have asub' : Same A (upd H a (.lst xs')) := fun b u e => by rw [ne b fun z => by subst z; rw [(n b ain).2] at e; cases e]; exact f.asub b u e
 have fin := f.put (H' := upd H a (.lst xs')) i sub' asub' m1 m2 (fun b hb => by
  rcases m3 b hb with z | z
  ·exact n b z
  ·rcases List.mem_cons.mp z with rfl | z
   ·exact n b ain
   ·rcases g3 b z with z | ⟨_, z⟩
    ·exact n b (k3 b (List.mem_cons_of_mem _ z))
    ·exact z) fun j o' hj e1 b hb => by
   have nb : b ∉ Φ i := fun z => f.dj j i o' o hj e1 h1 b hb z
   refine ⟨ne b fun z => nb (z ▸ ain), fun z => ?_⟩
   rcases m3 b z with z | z
   ·exact nb z
   ·rcases List.mem_cons.mp z with rfl | z
    ·exact nb ain
    ·rcases g3 b z with z | ⟨z, _⟩
     ·exact nb (k3 b (List.mem_cons_of_mem _ z))
     ·exact z j o' e1 hb
 rw [vO ev] at fin
 exact ⟨_, fin⟩
theorem RlF.fresh {A : Hp} {Λ : Nat -> Option Addr} {Φ : Nat -> List Addr} {ρ : Env} {σ : St} {b : Addr} (f : RlF K A Λ Φ ρ σ S H) (h : H b = none) : (∀ (j : Nat) o', ρ[j]? = some (.ow o') -> b ∉ Φ j) /\ S b = none /\ A b = none :=
 ⟨fun j o' e hb => by obtain ⟨_, _, ow, _⟩ := f.ow j o' e; exact ow.there b hb h, f.sub.free h, f.asub.free h⟩
@[simp] def ul (i : Nat) (p : XP) (e : Env -> Option O) : XS := fun ρ => match ρ[i]? with
 | some (.ow o) => (p ρ).bind fun is => (e ρ).bind fun x => match dH o is with
  | some (.lst l) => if l.length < LIM then some (.nx (ρ.set i (.ow (ij o is (.lst (l ++ [x])))))) else none
  | _ => none
 | _ => none
theorem uL {to te : TE} {i : Nat} {p : XP} {e : Env -> Option O} (hp : AU K to i p) (h : STr K te e) : SS K (t7 (tBM K "list" rAppend to (d9 te kJ))) (ul i p e) := fun A Λ ρ σ S H E out r y k => by
 unfold ul at y
 cases q0 : ρ[i]? with
 | none => rw [q0] at y; cases y
 | some s =>
  rw [q0] at y
  cases s with
  | un => cases y
  | lo => cases y
  | sh d => cases y
  | ow o =>
   dsimp only at y
   cases q1 : p ρ with
   | none => rw [q1] at y; cases y
   | some is =>
    rw [q1] at y
    dsimp only [Option.bind] at y
    cases q2 : e ρ with
    | none => rw [q2] at y; cases y
    | some x =>
     rw [q2] at y
     dsimp only at y
     cases q3 : dH o is with
     | none => rw [q3] at y; cases y
     | some qo =>
      rw [q3] at y
      cases qo with
      | sh _ => cases y
      | dic _ => cases y
      | hd _ _ _ => cases y
      | tup _ => cases y
      | lst l =>
       dsimp only at y
       split at y
       ·rename_i hl
        cases y
        obtain ⟨Φ, f⟩ := r
        refine hp ρ σ S H _ is o _ ⟨A, Λ, Φ, f⟩ q0 q1 q3 fun v w S1 H1 ev z1 wk => ?_
        have f1 := f.ext z1
        obtain ⟨a, xs, g0, rfl, hx, hw, nd0, in0, _⟩ := f1.at q0 q3 ev wk
        refine ⟨.inl ⟨rfl, xs, SqL.of hx⟩, h ρ σ S1 H1 _ x ⟨A, Λ, Φ, f1⟩ q2 fun u fu S2 H2 z2 ou nd n => ?_⟩
        have f2 := f1.ext z2
        obtain ⟨a', xs', g1, e1, hx', hw', nd1, in1, up⟩ := f2.at q0 q3 ev (wk.mono (z2.same f1.sub))
        cases e1
        have fr : ∀ b ∈ fu, (∀ (j : Nat) o', ρ[j]? = some (.ow o') -> b ∉ Φ j) /\ S2 b = none /\ A b = none := fun b hb => ⟨(f1.fresh (n b hb).1).1, (n b hb).2, (f1.fresh (n b hb).1).2.2⟩
        have fa : ∀ b ∈ fu, b ∉ a :: g1 := fun b hb z => (fr b hb).1 i o q0 (in1 b z)
        obtain ⟨na, ng⟩ := List.nodup_cons.mp nd1
        refine ⟨a, xs', u, rfl, rfl, hx', ?_, ?_⟩
        ·rw [<- hw'.length]; exact Nat.lt_trans hl fK
        ·refine k σ S2 _ (up (l ++ [x]) (xs' ++ [u]) (g1 ++ fu) (fun H' ne => ?_) ?_ fun b hb => ?_) (z1.sh.trans z2.sh)
         ·have := (hw'.mono (H' := H') (Same.refl _) fun b hb => ne b fun z => na (z ▸ hb)).append (.cons (ou.mono (H' := H') (Same.refl _) fun b hb => ne b fun z => fa b hb (z ▸ List.mem_cons_self)) .nil)
          rw [List.append_nil] at this
          exact this
         ·refine List.nodup_cons.mpr ⟨fun z => ?_, List.nodup_append.mpr ⟨ng, nd, fun b hb c hc e => fa c hc (e ▸ List.mem_cons_of_mem _ hb)⟩⟩
          rcases List.mem_append.mp z with z | z
          ·exact na z
          ·exact fa a z List.mem_cons_self
         ·rcases List.mem_append.mp hb with hb | hb
          ·exact .inl hb
          ·exact .inr (fr b hb)
       ·cases y
@[simp] def Jw (i : Nat) (p : XP) (j : Nat) : XS := fun ρ => match ρ[i]? with
 | some (.ow o) => (p ρ).bind fun is => match dH o is with
  | some (.lst l) => (match l.getLast? with
   | some (.sh d) => some (.nx ((ρ.set i (.ow (ij o is (.lst l.dropLast)))).set j (.sh d)))
   | _ => none)
  | _ => none
 | _ => none
@[simp] def Jx (i : Nat) (p : XP) : XS := fun ρ => match ρ[i]? with
 | some (.ow o) => (p ρ).bind fun is => match dH o is with
  | some (.lst l) => (match shs l with | some ds => some (.nx (ρ.set i (.ow (ij o is (.lst (ds.reverse.map .sh)))))) | none => none)
  | _ => none
 | _ => none
def rExtM : V -> List V -> Hp -> VK -> Prop := fun x vs H Q => ∃ l b xs zs, x = .ref l /\ vs = [.ref b] /\ H l = some (.lst xs) /\ Rd H b (.lst zs) /\ xs.length + zs.length <= sizeLine /\ Q .non (upd H l (.lst (xs ++ zs)))
@[simp] def zh (i : Nat) (p : XP) (e : XE) : XS := fun ρ => match ρ[i]? with
 | some (.ow o) => (p ρ).bind fun is => (e ρ).bind fun d => match dH o is, d with
  | some (.lst l), .lst ds => if l.length + ds.length <= LIM then some (.nx (ρ.set i (.ow (ij o is (.lst (l ++ ds.map .sh)))))) else none
  | _, _ => none
 | _ => none
theorem BM {to te : TE} {i : Nat} {p : XP} {e : XE} (hp : AU K to i p) (h : SE K te e) : SS K (t7 (tBM K "list" rExtM to (d9 te kJ))) (zh i p e) := fun A Λ ρ σ S H E out r y k => by
 unfold zh at y
 cases q0 : ρ[i]? with
 | none => rw [q0] at y; cases y
 | some s =>
  rw [q0] at y
  cases s with
  | un => cases y
  | lo => cases y
  | sh d => cases y
  | ow o =>
   dsimp only at y
   cases q1 : p ρ with
   | none => rw [q1] at y; cases y
   | some is =>
    rw [q1] at y
    dsimp only [Option.bind] at y
    cases q2 : e ρ with
    | none => rw [q2] at y; cases y
    | some dd =>
     rw [q2] at y
     dsimp only at y
     cases q3 : dH o is with
     | none => rw [q3] at y; cases y
     | some qo =>
      rw [q3] at y
      cases qo with
      | sh _ => cases y
      | dic _ => cases y
      | hd _ _ _ => cases y
      | tup _ => cases y
      | lst l =>
       cases dd with
       | lst ds =>
        dsimp only at y
        split at y
        ·rename_i hl
         cases y
         obtain ⟨Φ, f⟩ := r
         refine hp ρ σ S H _ is o _ ⟨A, Λ, Φ, f⟩ q0 q1 q3 fun v w S1 H1 ev z1 wk => ?_
         have f1 := f.ext z1
         obtain ⟨a, xs, g0, rfl, hx, hw, nd0, in0, _⟩ := f1.at q0 q3 ev wk
         refine ⟨.inl ⟨rfl, xs, SqL.of hx⟩, h ρ σ S1 H1 _ _ ⟨A, Λ, Φ, f1⟩ q2 fun u S2 H2 z2 d2 => ?_⟩
         have f2 := f1.ext z2
         obtain ⟨a', xs', g1, e1, hx', hw', nd1, in1, up⟩ := f2.at q0 q3 ev (wk.mono (z2.same f1.sub))
         cases e1
         obtain ⟨b, zs, rfl, hb, dz⟩ := den_lst.mp d2
         obtain ⟨na, ng⟩ := List.nodup_cons.mp nd1
         refine ⟨a, b, xs', zs, rfl, rfl, hx', cP z2.sub hb, ?_, ?_⟩
         ·rw [<- hw'.length, <- dz.length]; exact Nat.le_of_lt (Nat.lt_of_le_of_lt hl fK)
         ·refine k σ S2 _ (up (l ++ ds.map .sh) (xs' ++ zs) g1 (fun H' ne => ?_) nd1 fun b hb => .inl hb) (z1.sh.trans z2.sh)
          have := (hw'.mono (H' := H') (Same.refl _) fun b hb => ne b fun z => na (z ▸ hb)).append (mE (H := H') dz)
          rw [List.append_nil] at this
          exact this
        ·cases y
       | _ => cases y
@[simp] def xM (i : Nat) (p : XP) (ix e : XE) : XS := fun ρ => (e ρ).bind fun d => match ρ[i]? with
 | some (.ow o) => (p ρ).bind fun is => (ix ρ).bind fun k => match dH o is, k with
  | some (.lst l), .int k => (match shs l with | some ds => (ixN ds.length k).map fun j => .nx (ρ.set i (.ow (ij o is (.lst ((ds.set j d).map .sh))))) | none => none)
  | _, _ => none
 | _ => none
theorem Dl {to te ti : TE} {i : Nat} {p : XP} {e ix : XE} (h : SE K te e) (hp : AU K to i p) (hi : SPk K ti ix) : SS K (rH te (HP to ti Fp)) (xM i p ix e) := fun A Λ ρ σ S H E out r y k => by
 unfold xM at y
 cases q : e ρ with
 | none => rw [q] at y; cases y
 | some d =>
  rw [q] at y
  dsimp only [Option.bind] at y
  cases q0 : ρ[i]? with
  | none => rw [q0] at y; cases y
  | some s =>
   rw [q0] at y
   cases s with
   | un => cases y
   | lo => cases y
   | sh d => cases y
   | ow o =>
    dsimp only at y
    cases q1 : p ρ with
    | none => rw [q1] at y; cases y
    | some is =>
     rw [q1] at y
     dsimp only at y
     cases q2 : ix ρ with
     | none => rw [q2] at y; cases y
     | some dk =>
      rw [q2] at y
      dsimp only at y
      cases q3 : dH o is with
      | none => rw [q3] at y; cases y
      | some qo =>
       rw [q3] at y
       cases qo with
       | sh _ => cases y
       | dic _ => cases y
       | hd _ _ _ => cases y
       | tup _ => cases y
       | lst l =>
        cases dk with
        | int kk =>
         dsimp only at y
         cases q4 : shs l with
         | none => rw [q4] at y; cases y
         | some ds =>
          rw [q4] at y
          dsimp only at y
          cases q5 : ixN ds.length kk with
          | none => rw [q5] at y; cases y
          | some j =>
           rw [q5] at y
           cases y
           have ed := uJ q4
           subst ed
           obtain ⟨Φ, f⟩ := r
           refine h ρ σ S H _ d ⟨A, Λ, Φ, f⟩ q fun u S0 H0 z0 d0 => ?_
           have f0 := f.ext z0
           refine hp ρ σ S0 H0 _ is o _ ⟨A, Λ, Φ, f0⟩ q0 q1 q3 fun v w S1 H1 ev z1 wk => ?_
           have f1 := f0.ext z1
           refine hi ρ σ S1 H1 _ _ ⟨A, Λ, Φ, f1⟩ q2 fun w2 S2 H2 z2 d2 => ?_
           have f2 := f1.ext z2
           obtain ⟨a', xs', g1, rfl, hx', hw', nd1, in1, up⟩ := f2.at q0 q3 ev (wk.mono (z2.same f1.sub))
           obtain ⟨hd, rfl⟩ := iV hw'
           refine ⟨a', xs', kk, j, rfl, d2.int, hx', by rw [<- hd.length]; exact q5, ?_⟩
           exact k σ S2 _ (up ((ds.set j d).map .sh) (xs'.set j u) [] (fun H' ne => mE (hd.set j ((d0.mono z1.sh).mono z2.sh))) nd1 fun b hb => by cases hb) ((z0.sh.trans z1.sh).trans z2.sh)
        | _ => cases y
@[simp] def Ky (i : Nat) (e : XE) (f : D -> D -> Option D) : XS := fun ρ => match ρ[i]? with
 | some (.sh x) => (e ρ).bind fun y => (f x y).map fun z => .nx (ρ.set i (.sh z))
 | _ => none
@[simp] def Ju (e : XE) : XS := fun ρ => (e ρ).map fun _ => .nx ρ
end
section
variable {K : W.Frag} {S S' H H' : Hp}
def Walks (K : W.Frag) (J : It) (S : Hp) (l : List D) : Prop := ∀ S' H', Same S S' -> Same S' H' ->
 (∀ i d, l[i]? = some d -> J.go i H' /\ ∀ x H'', J.yld i H' x H'' -> H'' = H' /\ Den K S' d x) /\ J.stop l.length H'
def SI (K : W.Frag) (wi : TI) (e : XA) : Prop := ∀ ρ σ S H (R : It -> Hp -> Prop) l, Rl K ρ σ S H -> e ρ = some l -> (∀ J S' H', Ext S H S' H' -> Walks K J S' l -> R J H') -> wi σ H R
def AY : D -> Option (List D)
 | .lst l => some l | .tup l => some l | .scr l => some l | .mtp l => some l | _ => none
def F5 (K : W.Frag) (J : It) (S H : Hp) (l : List D) : Prop := ∀ S' H', Ext S H S' H' ->
 (∀ i d, l[i]? = some d -> J.go i H' /\ ∀ x H'', J.yld i H' x H'' -> H'' = H' /\ Den K S' d x) /\ J.stop l.length H'
def SIP (K : W.Frag) (wi : TI) (e : XA) : Prop := ∀ ρ σ S H (R : It -> Hp -> Prop) l, Rl K ρ σ S H -> e ρ = some l -> (∀ J S' H', Ext S H S' H' -> F5 K J S' H' l -> R J H') -> wi σ H R
theorem SI.p {wi : TI} {e : XA} (h : SI K wi e) : SIP K wi e := fun ρ σ S H R l r x k => h ρ σ S H R l r x fun J S' H' z w => k J S' H' z fun S2 H2 z2 => w S2 H2 z2.sh z2.sub
@[simp] def xIt (e : XE) : XA := fun ρ => (e ρ).bind AY
theorem nS {tl : TE} {e : XE} (h : SE K tl e) : SI K (EO K tl) (xIt e) := fun ρ σ S H R l r x k => by
 unfold xIt at x
 cases q : e ρ with
 | none => rw [q] at x; cases x
 | some d =>
  rw [q] at x
  dsimp only [Option.bind] at x
  refine h ρ σ S H _ d r q fun v S1 H1 z1 d1 => ?_
  cases d with
  | lst l' =>
   cases x
   obtain ⟨p, xs, rfl, h1, h2⟩ := den_lst.mp d1
   refine ⟨p, rfl, .inl ⟨⟨xs, .inl (cP z1.sub h1)⟩, k _ S1 H1 z1 fun S' H' s1 s2 => ⟨fun i d hd => ?_, xs, .inl (cP (s1.trans s2) h1), Nat.le_of_eq h2.length.symm⟩⟩⟩
   obtain ⟨y, e1, e2⟩ := h2.get hd
   refine ⟨⟨xs, y, .inl (cP (s1.trans s2) h1), e1⟩, fun x H'' hy => ⟨hy.1, ?_⟩⟩
   have := hy.2 xs (.inl (cP (s1.trans s2) h1))
   rw [e1] at this
   cases this
   exact e2.mono s1
  | tup l' =>
   cases x
   obtain ⟨p, xs, rfl, h1, h2⟩ := iu d1
   refine ⟨p, rfl, .inr ⟨⟨xs, bf z1.sub h1⟩, k _ S1 H1 z1 fun S' H' s1 s2 => ⟨fun i d hd => ?_, xs, bf (s1.trans s2) h1, Nat.le_of_eq h2.length.symm⟩⟩⟩
   obtain ⟨y, e1, e2⟩ := h2.get hd
   refine ⟨⟨xs, y, bf (s1.trans s2) h1, e1⟩, fun x H'' hy => ⟨hy.1, ?_⟩⟩
   have := hy.2 xs (bf (s1.trans s2) h1)
   rw [e1] at this
   cases this
   exact e2.mono s1
  | mtp l' =>
   cases x
   obtain ⟨p, xs, rfl, h1, h2⟩ := den_mtp.mp d1
   refine ⟨p, rfl, .inr ⟨⟨xs, bf z1.sub h1⟩, k _ S1 H1 z1 fun S' H' s1 s2 => ⟨fun i d hd => ?_, xs, bf (s1.trans s2) h1, Nat.le_of_eq h2.length.symm⟩⟩⟩
   obtain ⟨y, e1, e2⟩ := h2.get hd
   refine ⟨⟨xs, y, bf (s1.trans s2) h1, e1⟩, fun x H'' hy => ⟨hy.1, ?_⟩⟩
   have := hy.2 xs (bf (s1.trans s2) h1)
   rw [e1] at this
   cases this
   exact e2.mono s1
  | scr l' =>
   cases x
   obtain ⟨p, xs, rfl, h1, h2⟩ := den_scr.mp d1
   refine ⟨p, rfl, .inl ⟨⟨xs, dM z1.sub h1⟩, k _ S1 H1 z1 fun S' H' s1 s2 => ⟨fun i d hd => ?_, xs, dM (s1.trans s2) h1, Nat.le_of_eq h2.length.symm⟩⟩⟩
   obtain ⟨y, e1, e2⟩ := h2.get hd
   refine ⟨⟨xs, y, dM (s1.trans s2) h1, e1⟩, fun x H'' hy => ⟨hy.1, ?_⟩⟩
   have := hy.2 xs (dM (s1.trans s2) h1)
   rw [e1] at this
   cases this
   exact e2.mono s1
  | _ => cases x
def ifC {α : Type} (p : Prop) (a b : α) : α := @ite α p (Classical.propDecidable p) a b
theorem jk {α : Type} {p : Prop} {a b : α} (h : p) : ifC p a b = a := by unfold ifC; exact if_pos h
theorem iy {α : Type} {p : Prop} {a x : α} (h : ifC p (some a) none = some x) : p /\ a = x := by
 unfold ifC at h
 by_cases c : p
 ·rw [if_pos c] at h; exact ⟨c, Option.some.inj h⟩
 ·rw [if_neg c] at h; cases h
theorem gz {tl : TE} {e : XE} (h : SPk K tl e) : SIP K (EO K tl) (xIt e) := fun ρ σ S H R l r x k => by
 unfold xIt at x
 cases q : e ρ with
 | none => rw [q] at x; cases x
 | some d =>
  rw [q] at x
  dsimp only [Option.bind] at x
  refine h ρ σ S H _ d r q fun v S1 H1 z1 d1 => ?_
  rcases d1 with d1 | ⟨l', p, xs, rfl, rfl, hx, dx⟩
  ·cases d with
   | lst l' =>
    cases x
    obtain ⟨p, xs, rfl, h1, h2⟩ := den_lst.mp d1
    refine ⟨p, rfl, .inl ⟨⟨xs, .inl (cP z1.sub h1)⟩, k _ S1 H1 z1 fun S' H' z2 => ⟨fun i d hd => ?_, xs, .inl (cP (z2.sh.trans z2.sub) h1), Nat.le_of_eq h2.length.symm⟩⟩⟩
    obtain ⟨y, e1, e2⟩ := h2.get hd
    refine ⟨⟨xs, y, .inl (cP (z2.sh.trans z2.sub) h1), e1⟩, fun x H'' hy => ⟨hy.1, ?_⟩⟩
    have := hy.2 xs (.inl (cP (z2.sh.trans z2.sub) h1))
    rw [e1] at this
    cases this
    exact e2.mono z2.sh
   | tup l' =>
    cases x
    obtain ⟨p, xs, rfl, h1, h2⟩ := iu d1
    refine ⟨p, rfl, .inr ⟨⟨xs, bf z1.sub h1⟩, k _ S1 H1 z1 fun S' H' z2 => ⟨fun i d hd => ?_, xs, bf (z2.sh.trans z2.sub) h1, Nat.le_of_eq h2.length.symm⟩⟩⟩
    obtain ⟨y, e1, e2⟩ := h2.get hd
    refine ⟨⟨xs, y, bf (z2.sh.trans z2.sub) h1, e1⟩, fun x H'' hy => ⟨hy.1, ?_⟩⟩
    have := hy.2 xs (bf (z2.sh.trans z2.sub) h1)
    rw [e1] at this
    cases this
    exact e2.mono z2.sh
   | mtp l' =>
    cases x
    obtain ⟨p, xs, rfl, h1, h2⟩ := den_mtp.mp d1
    refine ⟨p, rfl, .inr ⟨⟨xs, bf z1.sub h1⟩, k _ S1 H1 z1 fun S' H' z2 => ⟨fun i d hd => ?_, xs, bf (z2.sh.trans z2.sub) h1, Nat.le_of_eq h2.length.symm⟩⟩⟩
    obtain ⟨y, e1, e2⟩ := h2.get hd
    refine ⟨⟨xs, y, bf (z2.sh.trans z2.sub) h1, e1⟩, fun x H'' hy => ⟨hy.1, ?_⟩⟩
    have := hy.2 xs (bf (z2.sh.trans z2.sub) h1)
    rw [e1] at this
    cases this
    exact e2.mono z2.sh
   | scr l' =>
    cases x
    obtain ⟨p, xs, rfl, h1, h2⟩ := den_scr.mp d1
    refine ⟨p, rfl, .inl ⟨⟨xs, dM z1.sub h1⟩, k _ S1 H1 z1 fun S' H' z2 => ⟨fun i d hd => ?_, xs, dM (z2.sh.trans z2.sub) h1, Nat.le_of_eq h2.length.symm⟩⟩⟩
    obtain ⟨y, e1, e2⟩ := h2.get hd
    refine ⟨⟨xs, y, dM (z2.sh.trans z2.sub) h1, e1⟩, fun x H'' hy => ⟨hy.1, ?_⟩⟩
    have := hy.2 xs (dM (z2.sh.trans z2.sub) h1)
    rw [e1] at this
    cases this
    exact e2.mono z2.sh
   | _ => cases x
  ·cases x
   refine ⟨p, rfl, .inl ⟨⟨xs, SqL.of hx⟩, k _ S1 H1 z1 fun S' H' z2 => ?_⟩⟩
   have hx2 : H' p = some (.lst xs) := z2.same z1.sub _ _ hx
   refine ⟨fun i d hd => ?_, xs, SqL.of hx2, Nat.le_of_eq dx.length.symm⟩
   obtain ⟨y, e1, e2⟩ := dx.get hd
   refine ⟨⟨xs, y, SqL.of hx2, e1⟩, fun x H'' hy => ⟨hy.1, ?_⟩⟩
   have := hy.2 xs (SqL.of hx2)
   rw [e1] at this
   cases this
   exact e2.mono z2.sh
def gy (lo : Int) : Nat -> List D
 | 0 => []
 | n + 1 => .int lo :: gy (lo + 1) n
theorem tH : ∀ (n : Nat) (lo : Int) (i : Nat) (d : D), (gy lo n)[i]? = some d -> i < n /\ d = .int (lo + i)
 | 0, _, _, _, h => by simp [gy] at h
 | n + 1, lo, 0, d, h => by simp [gy] at h; exact ⟨Nat.succ_pos _, by rw [<- h]; simp⟩
 | n + 1, lo, i + 1, d, h => by
  obtain ⟨h1, h2⟩ := tH n (lo + 1) i d (by simpa [gy] using h)
  exact ⟨Nat.succ_lt_succ h1, by rw [h2]; congr 1; lia⟩
theorem ud : ∀ (n : Nat) (lo : Int), (gy lo n).length = n
 | 0, _ => rfl
 | n + 1, lo => by rw [gy, List.length_cons, ud n]
theorem t9 (lo : Int) (n : Nat) : Walks K (Itr lo n) S (gy lo n) := fun S' H' _ _ => ⟨fun i d h => by
 obtain ⟨h1, rfl⟩ := tH n lo i d h
 exact ⟨h1, fun x H'' y => ⟨y.1, den_int.mpr y.2⟩⟩, by rw [ud]; exact Nat.le_refl _⟩
def Hi : List D -> Option (List D)
 | [.int j] => ifC (j < 1000000 /\ -1000000 < j) (some (gy 0 j.toNat)) none
 | [.int i, .int j] => ifC (j < 4000000000000000000 /\ -4000000000000000000 < i /\ i < 4000000000000000000 /\ -4000000000000000000 < j) (some (gy i (j - i).toNat)) none
 | _ => none
@[simp] def EL (a : XA) : XA := fun ρ => (a ρ).bind Hi
theorem F6 {ta : TE} {a : XE} (h : SPk K ta a) : SI K (Fo (d9 ta kJ)) (EL (ag a au)) := fun ρ σ S H R l r x k => by
 unfold EL at x
 cases q : ag a au ρ with
 | none => rw [q] at x; cases x
 | some ds =>
  rw [q] at x
  obtain ⟨d, e, qa, qb, rfl⟩ := iB q
  cases qb
  cases d with
  | int j =>
   have x' : ifC (j < 1000000 /\ -1000000 < j) (some (gy 0 j.toNat)) none = some l := x
   obtain ⟨hj, rfl⟩ := iy x'
   refine h ρ σ S H _ _ r qa fun v S1 H1 z1 d1 => ?_
   refine ⟨j, by rw [d1.int], ?_, ?_, k _ S1 H1 z1 (t9 0 _)⟩
   ·have : (2 : Int) ^ 62 = 4611686018427387904 := by decide
    lia
   ·have : (2 : Int) ^ 62 = 4611686018427387904 := by decide
    lia
  | _ => cases x
def Dc : Nat -> Nat -> List D
 | _, 0 => []
 | k, n + 1 => .int (2 * k) :: Dc (k + 1) n
def GQ : List D -> Option (List D)
 | [.int a, .int j, .int b] => ifC (a = 0 /\ b = 2 /\ 0 <= j /\ j < 1000000) (some (Dc 0 ((j + 1) / 2).toNat)) none
 | _ => none
@[simp] def JE (a : XA) : XA := fun ρ => (a ρ).bind GQ
def fL (g : XG) (m : XS) : List D -> Env -> Option Out
 | [], ρ => some (.nx ρ)
 | d :: l, ρ => (g d ρ).bind fun ρ1 => match m ρ1 with
  | some (.nx ρ2) => fL g m l ρ2
  | some (.ct ρ2) => fL g m l ρ2
  | some (.bk ρ2) => some (.nx ρ2)
  | some (.rt d) => some (.rt d)
  | some (.ro d) => some (.ro d)
  | none => none
@[simp] def rL (e : XA) (g : XG) (m : XS) : XS := fun ρ => (e ρ).bind fun l => fL g m l ρ
theorem rD {l : List D} {i : Nat} {d : D} (h : l[i]? = some d) : l.drop i = d :: l.drop (i + 1) := by
 obtain ⟨h1, rfl⟩ := List.getElem?_eq_some_iff.mp h
 exact List.drop_eq_getElem_cons h1
theorem nK {wi : TI} {g : TG} {tb : TS} {e : XA} {x : XG} {m : XS} (hi : SI K wi e) (hg : SG K g x) (hb : SS K tb m) : SS K (HL wi g tb) (rL e x m) := fun A Λ ρ σ S H E o r y k => by
 unfold rL at y
 cases q : e ρ with
 | none => rw [q] at y; cases y
 | some l =>
  rw [q] at y
  dsimp only [Option.bind] at y
  refine hi ρ σ S H _ l r.toRl q fun J S1 H1 z1 wk => ?_
  have r1 := r.ext z1
  refine ⟨fun i n σ' H' => n = l.length - i /\ i <= l.length /\ ∃ ρ' S', RlA K A Λ ρ' σ' S' H' /\ Same S1 S' /\ fL x m (l.drop i) ρ' = some o, ⟨_, rfl, Nat.zero_le _, ρ, S1, r1, Same.refl _, y⟩, ?_⟩
  rintro i n σ2 H2 ⟨rfl, hil, ρ2, S2, r2, s2, y2⟩
  obtain ⟨w1, w2⟩ := wk S2 H2 s2 r2.sub
  cases qd : l[i]? with
  | none =>
   have : l.length = i := by have := List.getElem?_eq_none_iff.mp qd; lia
   subst this
   rw [List.drop_of_length_le (Nat.le_refl _)] at y2
   cases y2
   exact .inl ⟨w2, k σ2 S2 H2 r2 (z1.sh.trans s2)⟩
  | some d =>
   obtain ⟨g1, g2⟩ := w1 i d qd
   have hlt := (List.getElem?_eq_some_iff.mp qd).1
   rw [rD qd] at y2
   unfold fL at y2
   cases qx : x d ρ2 with
   | none => rw [qx] at y2; cases y2
   | some ρ3 =>
    rw [qx] at y2
    dsimp only [Option.bind] at y2
    refine .inr ⟨g1, fun σ' H' => ∃ ρ' S', RlA K A Λ ρ' σ' S' H' /\ Same S1 S' /\ fL x m (l.drop (i + 1)) ρ' = some o, fun σ' H' ⟨ρ', S', a1, a2, a3⟩ => ⟨_, by lia, rfl, hlt, ρ', S', a1, a2, a3⟩, fun xv H3 hy => ?_⟩
    obtain ⟨rfl, dx⟩ := g2 xv H3 hy
    refine hg A Λ ρ2 σ2 S2 H3 xv d _ ρ3 r2 dx qx fun σ3 r3 => ?_
    cases qm : m ρ3 with
    | none => rw [qm] at y2; cases y2
    | some om =>
     rw [qm] at y2
     refine hb A Λ ρ3 σ3 S2 H3 _ om r3 qm ?_
     cases om with
     | nx ρ4 => exact fun σ4 S4 H4 r4 s4 => ⟨ρ4, S4, r4, s2.trans s4, y2⟩
     | ct ρ4 => exact fun σ4 S4 H4 r4 s4 => ⟨ρ4, S4, r4, s2.trans s4, y2⟩
     | bk ρ4 => cases y2; exact fun σ4 S4 H4 r4 s4 => k σ4 S4 H4 r4 ((z1.sh.trans s2).trans s4)
     | rt d4 => cases y2; exact fun v S4 H4 s4 => k v S4 H4 ((z1.sh.trans s2).trans s4)
     | ro d4 => cases y2; exact fun v fp S4 H4 s4 => k v fp S4 H4 ((z1.sh.trans s2).trans s4)
def cv (c : XT) (m : XS) : Nat -> Env -> Option Out
 | 0, _ => none
 | n + 1, ρ => (c ρ).bind fun b => if b = true then (match m ρ with
  | some (.nx ρ2) => cv c m n ρ2
  | some (.ct ρ2) => cv c m n ρ2
  | some (.bk ρ2) => some (.nx ρ2)
  | some (.rt d) => some (.rt d)
  | some (.ro d) => some (.ro d)
  | none => none) else some (.nx ρ)
theorem kb (c : XT) (m : XS) : ∀ (n : Nat) (ρ : Env) (o : Out), cv c m n ρ = some o -> cv c m (n + 1) ρ = some o
 | 0, _, _, h => by cases h
 | n + 1, ρ, o, h => by
  unfold cv at h ⊢
  cases qc : c ρ with
  | none => rw [qc] at h; cases h
  | some b =>
   rw [qc] at h
   dsimp only [Option.bind] at h ⊢
   cases b with
   | false => exact h
   | true =>
    rw [if_pos rfl] at h ⊢
    cases qm : m ρ with
    | none => rw [qm] at h; cases h
    | some om =>
     rw [qm] at h
     cases om with
     | nx ρ2 => exact kb c m n ρ2 o h
     | ct ρ2 => exact kb c m n ρ2 o h
     | bk ρ2 => exact h
     | rt d => exact h
     | ro d => exact h
theorem lU (c : XT) (m : XS) (n : Nat) (ρ : Env) (o : Out) (h : cv c m n ρ = some o) : ∀ k, cv c m (n + k) ρ = some o
 | 0 => h
 | k + 1 => kb c m (n + k) ρ o (lU c m n ρ o h k)
def me (c : XT) (m : XS) : XS := fun ρ => by
 classical
 exact if h : ∃ o n, cv c m n ρ = some o then some h.choose else none
def fW (c : XT) (m : XS) : XS := fun ρ => (cv c m 64 ρ).or (me c m ρ)
theorem pr {c : XT} {m : XS} {ρ : Env} {o o' : Out} {n k : Nat} (h : cv c m n ρ = some o) (h' : cv c m k ρ = some o') : o' = o := by
 have h3 := lU c m n ρ o h k
 have h4 := lU c m k ρ _ h' n
 rw [Nat.add_comm k n, h3] at h4
 exact (Option.some.inj h4).symm
theorem sX {c : XT} {m : XS} {n : Nat} {ρ : Env} {o : Out} (h : cv c m n ρ = some o) : fW c m ρ = some o := by
 unfold fW
 cases q : cv c m 64 ρ with
 | some o' => exact congrArg some (pr h q)
 | none =>
  have hx : ∃ o n, cv c m n ρ = some o := ⟨o, n, h⟩
  show me c m ρ = some o
  unfold me
  rw [dif_pos hx]
  obtain ⟨n2, h2⟩ := hx.choose_spec
  exact congrArg some (pr h h2)
theorem tU {c : XT} {m : XS} {ρ : Env} {o : Out} (h : fW c m ρ = some o) : ∃ n, cv c m n ρ = some o := by
 unfold fW at h
 cases q : cv c m 64 ρ with
 | some o' => rw [q] at h; exact ⟨64, q.trans h⟩
 | none =>
  rw [q] at h
  have h : me c m ρ = some o := h
  unfold me at h
  split at h
  ·rename_i hx
   cases h
   exact hx.choose_spec
  ·cases h
theorem yU {c : XT} {m : XS} {ρ : Env} (h : c ρ = some false) : fW c m ρ = some (.nx ρ) := sX (n := 1) (by unfold cv; rw [h]; rfl)
theorem nR {c : XT} {m : XS} {ρ ρ2 : Env} {o : Out} (h : c ρ = some true) (hm : m ρ = some (.nx ρ2)) (k : fW c m ρ2 = some o) : fW c m ρ = some o := by
 obtain ⟨n, hn⟩ := tU k
 exact sX (n := n + 1) (by unfold cv; rw [h, hm]; exact hn)
theorem E4 {tc : TT} {tb : TS} {c : XT} {m : XS} (hc : ST K tc c) (hb : SS K tb m) : SS K (B9 tc tb) (fW c m) := fun A Λ ρ σ S H E o r y k => by
 obtain ⟨n, hn⟩ := tU y
 refine ⟨fun n σ' H' => ∃ ρ' S', RlA K A Λ ρ' σ' S' H' /\ Same S S' /\ cv c m n ρ' = some o, ⟨n, ρ, S, r, Same.refl _, hn⟩, ?_⟩
 rintro n σ1 H1 ⟨ρ1, S1, r1, s1, h1⟩
 cases n with
 | zero => cases h1
 | succ n =>
  unfold cv at h1
  cases qc : c ρ1 with
  | none => rw [qc] at h1; cases h1
  | some b =>
   rw [qc] at h1
   dsimp only [Option.bind] at h1
   refine hc ρ1 σ1 S1 H1 _ b r1.toRl qc fun S2 H2 z2 => ?_
   have r2 := r1.ext z2
   cases b with
   | false =>
    rw [if_neg (by decide)] at h1
    cases h1
    exact vo (k σ1 S2 H2 r2 (s1.trans z2.sh))
   | true =>
    rw [if_pos rfl] at h1
    refine vB ⟨fun σ' H' => ∃ ρ' S', RlA K A Λ ρ' σ' S' H' /\ Same S S' /\ cv c m n ρ' = some o, fun σ' H' a => ⟨n, Nat.lt_succ_self _, a⟩, ?_⟩
    cases qm : m ρ1 with
    | none => rw [qm] at h1; cases h1
    | some om =>
     rw [qm] at h1
     refine hb A Λ ρ1 σ1 S2 H2 _ om r2 qm ?_
     cases om with
     | nx ρ4 => exact fun σ4 S4 H4 r4 s4 => ⟨ρ4, S4, r4, (s1.trans z2.sh).trans s4, h1⟩
     | ct ρ4 => exact fun σ4 S4 H4 r4 s4 => ⟨ρ4, S4, r4, (s1.trans z2.sh).trans s4, h1⟩
     | bk ρ4 => cases h1; exact fun σ4 S4 H4 r4 s4 => k σ4 S4 H4 r4 ((s1.trans z2.sh).trans s4)
     | rt d4 => cases h1; exact fun v S4 H4 s4 => k v S4 H4 ((s1.trans z2.sh).trans s4)
     | ro d4 => cases h1; exact fun v fp S4 H4 s4 => k v fp S4 H4 ((s1.trans z2.sh).trans s4)
@[simp] def oG (js : List (Option Nat)) (ρ : Env) : Env := js.map fun o => match o with | none => .un | some j => match ρ[j]? with | some (.sh d) => .sh d | _ => .un
def cE (g : XG) (c : XT) (e : XE) (ρ0 : Env) : List D -> Option (List D)
 | [] => some []
 | d :: l => (g d ρ0).bind fun ρ1 => (c ρ1).bind fun b => if b = true then (e ρ1).bind fun y => (cE g c e ρ0 l).map fun r => y :: r else cE g c e ρ0 l
@[simp] def bZ (js : List (Option Nat)) (w : XA) (g : XG) (c : XT) (e : XE) : XA := fun ρ => (w ρ).bind fun l => if l.length <= LIM then cE g c e (oG js ρ) l else none
@[simp] def d6 : XT := fun _ => some true
theorem kg : ST K DG d6 := fun ρ σ S H Q b r x k => by cases x; exact k S H (Ext.refl r.sub)
theorem mt {js : List (Option Nat)} {ρ : Env} {i : Nat} {s : Sl} (h : (oG js ρ)[i]? = some s) : s = .un \/ ∃ d j, s = .sh d /\ js[i]? = some (some j) /\ ρ[j]? = some (.sh d) := by
 unfold oG at h
 rw [List.getElem?_map] at h
 cases q : js[i]? with
 | none => rw [q] at h; cases h
 | some o =>
  rw [q] at h
  cases o with
  | none => cases h; exact .inl rfl
  | some j =>
   simp only [Option.map_some] at h
   cases q2 : ρ[j]? with
   | none => rw [q2] at h; cases h; exact .inl rfl
   | some s2 =>
    rw [q2] at h
    cases s2 with
    | un => cases h; exact .inl rfl
    | lo => cases h; exact .inl rfl
    | ow l => cases h; exact .inl rfl
    | sh d => cases h; exact .inr ⟨d, j, rfl, rfl, q2⟩
def gP (S H : Hp) : Hp := fun b => match S b with | none => H b | some _ => none
theorem ny {S H : Hp} : Same (gP S H) H := fun b o h => by
 unfold gP at h
 cases q : S b with
 | none => rw [q] at h; exact h
 | some _ => rw [q] at h; cases h
theorem nc {S H : Hp} (b : Addr) : S b = none \/ gP S H b = none := by
 unfold gP
 cases q : S b with
 | none => exact .inl rfl
 | some _ => exact .inr rfl
theorem mo {S H : Hp} {b : Addr} {o : HO} (h : H b = some o) (n : S b = none) : gP S H b = some o := by
 unfold gP
 rw [n]
 exact h
theorem Cm {ρ : Env} {σ : St} (r : Rl K ρ σ S H) (js : List (Option Nat)) : RlA K (gP S H) (fun _ => none) (oG js ρ) (inn js σ) S H := by
 refine ⟨fun _ => [], ?_⟩
 exact {
  len := by unfold oG inn; rw [List.length_map, List.length_map]
  sub := r.sub
  sh := fun i d h => by
   rcases mt h with e | ⟨d', j, e, h1, h2⟩
   ·cases e
   ·cases e
    obtain ⟨v, k1, k2⟩ := r.sh j d h2
    refine ⟨v, ?_, k2⟩
    unfold inn
    rw [List.getElem?_map, h1]
    show some ((σ[j]?).join) = some (some v)
    rw [k1]
    rfl
  ow := fun i o h => by
   rcases mt h with e | ⟨d', j, e, h1, h2⟩
   ·cases e
   ·cases e
  dj := fun i j o o' _ h => by
   rcases mt h with e | ⟨d', j, e, h1, h2⟩
   ·cases e
   ·cases e
  lo := fun i h => by
   rcases mt h with e | ⟨d', j, e, h1, h2⟩
   ·cases e
   ·cases e
  asub := ny
  adis := nc }
theorem dU {js : List (Option Nat)} {wi : TI} {g : TG} {tt : TIf} {te : TE} {w : XA} {x : XG} {c : XT} {e : XE} (hi : SIP K wi w) (hg : SG K g x) (hc : ST K tt c) (he : SE K te e) : SF K (wo js wi g tt te) (bZ js w x c e) := fun ρ σ S H Q l r y k => by
 unfold bZ at y
 cases q : w ρ with
 | none => rw [q] at y; cases y
 | some ds =>
  rw [q] at y
  dsimp only [Option.bind] at y
  split at y
  ·rename_i hlim
   refine hi ρ σ S H _ ds r q fun J S1 H1 z1 wk D hD => ?_
   have r1 := r.ext z1
   have hD0 : H D = none := (z1.same r.sub).free hD
   -- the word: what is told so far, what is still to be told
   refine ⟨fun i n H' => n = ds.length - i /\ i <= ds.length /\ ∃ S' done ys c9, Ext S1 H1 S' H' /\ Same S1 S' /\ H' D = some (.lst ys) /\ S' D = none /\ Dens K S' done ys /\ done.length <= i /\ cE x c e (oG js ρ) (ds.drop i) = some c9 /\ l = done ++ c9,
    ⟨_, rfl, Nat.zero_le _, S1, [], [], l, Ext.own z1.sub hD, Same.refl _, aJ, z1.sub.free hD, .nil, Nat.zero_le _, y, rfl⟩, ?_⟩
   rintro i n H2 ⟨rfl, hil, S2, done, ys, c9, z2, s2, hy, hSD, dy, hdl, y2, rfl⟩
   obtain ⟨w1, w2⟩ := wk S2 H2 z2
   cases qd : ds[i]? with
   | none =>
    have : ds.length = i := by have := List.getElem?_eq_none_iff.mp qd; lia
    subst this
    rw [List.drop_of_length_le (Nat.le_refl _)] at y2
    cases y2
    rw [List.append_nil] at k
    exact .inl ⟨w2, k D ys S2 H2 (z1.trans z2) hD0 hSD hy dy⟩
   | some d =>
    obtain ⟨g1, g2⟩ := w1 i d qd
    have hlt := (List.getElem?_eq_some_iff.mp qd).1
    rw [rD qd] at y2
    unfold cE at y2
    cases qx : x d (oG js ρ) with
    | none => rw [qx] at y2; cases y2
    | some ρ3 =>
     rw [qx] at y2
     dsimp only [Option.bind] at y2
     refine .inr ⟨g1, fun xv H3 hyl => ?_⟩
     obtain ⟨rfl, dx⟩ := g2 xv H3 hyl
     have ri := Cm (r1.ext z2) js
     refine hg _ _ _ _ S2 H3 xv d _ ρ3 ri dx qx fun σ3 r3 => ?_
     cases qc : c ρ3 with
     | none => rw [qc] at y2; cases y2
     | some b =>
      rw [qc] at y2
      dsimp only at y2
      refine hc ρ3 σ3 S2 H3 _ b r3.toRl qc fun S4 H4 z4 => ?_
      obtain ⟨al1, al2⟩ := z4.al D _ hy hSD
      cases b with
      | false =>
       rw [if_neg (by decide)] at y2
       exact vo ⟨_, by lia, rfl, hlt, S4, done, ys, c9, z2.trans z4, s2.trans z4.sh, al1, al2, dy.mono z4.sh, by lia, y2, rfl⟩
      | true =>
       rw [if_pos rfl] at y2
       cases qe : e ρ3 with
       | none => rw [qe] at y2; cases y2
       | some dv =>
        rw [qe] at y2
        dsimp only at y2
        cases qr : cE x c e (oG js ρ) (ds.drop (i + 1)) with
        | none => rw [qr] at y2; cases y2
        | some rest2 =>
         rw [qr] at y2
         cases y2
         refine vB (he ρ3 σ3 S4 H4 _ dv (r3.toRl.ext z4) qe fun v S5 H5 z5 d5 => ?_)
         obtain ⟨b1, b2⟩ := z5.al D _ al1 al2
         refine ⟨ys, b1, ?_, _, by lia, rfl, hlt, S5, done ++ [dv], ys ++ [v], rest2, ?_, (s2.trans z4.sh).trans z5.sh, aJ, b2, ((dy.mono z4.sh).mono z5.sh).append (.cons d5 .nil), by rw [List.length_append, List.length_singleton]; lia, qr, by rw [List.append_assoc]; rfl⟩
         ·rw [<- dy.length]
          exact Nat.lt_of_lt_of_le (Nat.lt_of_le_of_lt hdl hlt) (Nat.le_trans hlim (Nat.le_of_lt fK))
         ·have z6 := (z2.trans z4).trans z5
          exact ⟨z6.sh, fun b u hb => by rw [aA fun z => by subst z; rw [b2] at hb; cases hb]; exact z6.sub b u hb, fun b o hb hn => by
           obtain ⟨c1, c2⟩ := z6.al b o hb hn
           exact ⟨by rw [aA fun z => by subst z; rw [hD] at hb; cases hb]; exact c1, c2⟩⟩
  ·cases y
@[simp] def JF (i : Nat) (g : XG) (m : XS) : XS := fun ρ => match ρ[i]? with
 | some (.ow (.lst os)) => (match shs os with
  | some l => (match fL g m l (ρ.set i .lo) with
   | some (.nx ρ') => (match ρ'[i]? with | some .lo => some (.nx (ρ'.set i (.ow (.lst os)))) | _ => none)
   | some (.rt d) => some (.rt d)
   | _ => none)
  | none => none)
 | _ => none
def fnO (n : Nat) (x : XS) (ds : List D) : Option O := match x (ds.map .sh ++ List.replicate (n - ds.length) .un) with
 | some (.rt d) => some (.sh d)
 | some (.ro o) => some o
 | some (.nx _) => some (.sh .non)
 | _ => none
theorem w9 {N : List Str} {ds : List D} {vs : List V} (s : Same S H) (h : Dens K S ds vs) : RlA K (gP S H) (fun _ => none) (ds.map .sh ++ List.replicate (N.length - ds.length) .un) (L2.aG N vs) S H := by
 have hl := h.length
 have key : ∀ (i : Nat) t, (ds.map Sl.sh ++ List.replicate (N.length - ds.length) .un)[i]? = some t -> t = .un \/ ∃ d v, t = .sh d /\ (L2.aG N vs)[i]? = some (some v) /\ Den K S d v := fun i t ht => by
  by_cases hi : i < ds.length
  ·rw [List.getElem?_append_left (by rw [List.length_map]; exact hi), List.getElem?_map] at ht
   cases q : ds[i]? with
   | none => rw [q] at ht; cases ht
   | some d =>
    rw [q] at ht
    cases ht
    obtain ⟨v, e1, e2⟩ := h.get q
    refine .inr ⟨d, v, rfl, ?_, e2⟩
    unfold L2.aG
    rw [List.getElem?_append_left (by rw [List.length_map]; lia), List.getElem?_map, e1]
    rfl
  ·rw [List.getElem?_append_right (by rw [List.length_map]; lia), List.getElem?_replicate] at ht
   split at ht
   ·cases ht; exact .inl rfl
   ·cases ht
 refine ⟨fun _ => [], ?_⟩
 exact {
  len := by unfold L2.aG; rw [List.length_append, List.length_append, List.length_map, List.length_map, List.length_replicate, List.length_replicate, hl]
  sub := s
  sh := fun i d hi => by
   rcases key i _ hi with e | ⟨d', v, e, h1, h2⟩
   ·cases e
   ·cases e; exact ⟨v, h1, h2⟩
  ow := fun i o hi => by
   rcases key i _ hi with e | ⟨d', v, e, h1, h2⟩
   ·cases e
   ·cases e
  dj := fun i j o o' _ hi => by
   rcases key i _ hi with e | ⟨d', v, e, h1, h2⟩
   ·cases e
   ·cases e
  lo := fun i hi => by
   rcases key i _ hi with e | ⟨d', v, e, h1, h2⟩
   ·cases e
   ·cases e
  asub := ny
  adis := nc }
theorem eo {t : TS} {x : XS} {N : List Str} {n k : Nat} {vs : List V} {H : Hp} {Q : VK} {E : XK} (hs : SS K t x) (hN : N.length = n) (h : ic K k (fnO n x) vs H Q E) :
  t { nx := fun _ H' => Q .non H', rt := Q } (L2.aG N vs) H := by
 obtain ⟨_, S, ds, d, s, dd, y, q⟩ := h
 subst hN
 unfold fnO at y
 have r := w9 (N := N) s dd
 have ex : ∀ {S' H' : Hp}, Same S S' -> Same S' H' -> Same (gP S H) H' -> (∀ b, S' b = none \/ gP S H b = none) -> Ext S H S' H' := fun s1 s2 s3 s4 => ⟨s1, s2, fun b o hb hn => by
  have ha := mo hb hn
  refine ⟨s3 b o ha, ?_⟩
  rcases s4 b with z | z
  ·exact z
  ·rw [ha] at z; cases z⟩
 cases qx : x (ds.map .sh ++ List.replicate (N.length - ds.length) .un) with
 | none => rw [qx] at y; cases y
 | some o =>
  rw [qx] at y
  refine hs _ _ _ _ S H _ o r qx ?_
  cases o with
  | rt d' =>
   cases y
   exact fun v S' H' s1 s2 s3 s4 dv => q v [] S' H' (ex s1 s2 s3 s4) (own_sh.mpr ⟨rfl, dv⟩) .nil fun b hb => by cases hb
  | ro o' =>
   cases y
   refine fun v fp S' H' s1 s2 s3 s4 ow nd n => q v fp S' H' (ex s1 s2 s3 s4) ow nd fun b hb => ⟨?_, (n b hb).1⟩
   cases qb : H b with
   | none => rfl
   | some u =>
    have := mo qb (s1.free (n b hb).1)
    rw [(n b hb).2] at this; cases this
  | nx ρ' =>
   cases y
   exact fun σ' S' H' r' s1 => q .non [] S' H' (ex s1 r'.sub r'.asub r'.adis) (own_sh.mpr ⟨rfl, den_non.mpr rfl⟩) .nil fun b hb => by cases hb
  | bk ρ' => cases y
  | ct ρ' => cases y
end
def dI (f : Int -> Int -> Option D) : D -> D -> Option D
 | .int i, .int j => f i j
 | _, _ => none
def pu : D -> D -> Option D := dI fun i j => ifC ((-18446744073709551616 < i /\ i < 18446744073709551616) \/ (-18446744073709551616 < j /\ j < 18446744073709551616)) (some (.int (i * j))) none
def yd : D -> D -> Option D := dI fun i j => ifC (0 < j /\ j < 1073741824) (some (.int (i / j))) none
def hJ : D -> D -> Option D := dI fun i j => ifC (0 < j) (some (.int (i % j))) none
def wp : D -> D -> Option D := dI fun i j => ifC (0 <= j /\ j <= 1000000 /\ i.natAbs < 18446744073709551616) (some (.int (i ^ j.toNat))) none
def q9 : D -> D -> Option D := dI fun i j => some (.int (i - j))
def dLt : D -> D -> Option D := dI fun i j => some (.bl (decide (i < j)))
def dLe : D -> D -> Option D := dI fun i j => some (.bl (decide (i <= j)))
def dGt : D -> D -> Option D := dI fun i j => some (.bl (decide (j < i)))
def dGe : D -> D -> Option D := dI fun i j => some (.bl (decide (j <= i)))
def uP : D -> Option D
 | .int i => some (.int (-i))
 | _ => none
section
variable {K : W.Frag}
theorem r_i {C : Int -> Int -> Prop} {g : Int -> Int -> V} {f : Int -> Int -> Option D} (h : ∀ i j d, f i j = some d -> C i j /\ mw d = some (g i j)) : SR2 K (rI C g) (dI f) := fun S H x y d e z Q s dx dy q k => by
 cases d <;> cases e <;> try cases q
 rename_i i j
 obtain ⟨h1, h2⟩ := h i j z q
 exact ⟨i, j, dx.int, dy.int, h1, k _ S H (Ext.refl s) (jY h2)⟩
theorem Ah {g : Int -> Int -> V} {f : Int -> Int -> Option D} (h : ∀ i j d, f i j = some d -> mw d = some (g i j)) : SR2 K (rI0 g) (dI f) := fun S H x y d e z Q s dx dy q k => by
 cases d <;> cases e <;> try cases q
 rename_i i j
 exact ⟨i, j, dx.int, dy.int, k _ S H (Ext.refl s) (jY (h i j z q))⟩
theorem Cl : SR2 K (rI CMul fun i j => .int (i * j)) pu := r_i fun i j d h => by
 obtain ⟨c, rfl⟩ := iy h
 refine ⟨?_, rfl⟩
 unfold CMul
 have : (2 : Int) ^ 64 = 18446744073709551616 := by decide
 rw [this]
 exact c
theorem Db : SR2 K (rI Hn fun i j => .int (i / j)) yd := r_i fun i j d h => by
 obtain ⟨c, rfl⟩ := iy h
 exact ⟨c, rfl⟩
theorem gM : SR2 K (rI (fun _ j => 0 < j) fun i j => .int (i % j)) hJ := r_i fun i j d h => by
 obtain ⟨c, rfl⟩ := iy h
 exact ⟨c, rfl⟩
theorem Cr : SR2 K (rI Fy fun i j => .int (i ^ j.toNat)) wp := r_i fun i j d h => by
 obtain ⟨c, rfl⟩ := iy h
 refine ⟨?_, rfl⟩
 unfold Fy
 have : (2 : Nat) ^ 64 = 18446744073709551616 := by decide
 rw [this]
 exact c
theorem ui : SR2 K (rI0 fun i j => .int (i - j)) q9 := Ah fun i j d h => by cases h; rfl
theorem Jq : SR2 K (rI0 fun i j => .bl (decide (i < j))) dLt := Ah fun i j d h => by cases h; rfl
theorem Gy : SR2 K (rI0 fun i j => .bl (decide (i <= j))) dLe := Ah fun i j d h => by cases h; rfl
theorem FO : SR2 K (rI0 fun i j => .bl (decide (j < i))) dGt := Ah fun i j d h => by cases h; rfl
theorem Ip : SR2 K (rI0 fun i j => .bl (decide (j <= i))) dGe := Ah fun i j d h => by cases h; rfl
theorem qV : SR1 K (rU fun i => .int (-i)) uP := fun S H x d g Q s dx q k => by
 cases d <;> try cases q
 rename_i i
 exact ⟨i, dx.int, k _ S H (Ext.refl s) (den_int.mpr rfl)⟩
end
def E9 : R2 := fun x y H Q => ∃ l b xs zs, x = .ref l /\ y = .ref b /\ Rd H l (.lst xs) /\ Rd H b (.lst zs) /\ xs.length + zs.length <= sizeLine /\ ∀ p, H p = none -> Q (.ref p) (upd H p (.lst (xs ++ zs)))
def Fn (K : W.Frag) : R2 := fun x y H Q => ∃ a b xs ys, x = .ref a /\ y = .ref b /\ SqT K H a xs /\ SqT K H b ys /\ xs.length + ys.length <= sizeLine /\
 (ys = [] -> Q (.ref a) H) /\ (xs = [] -> Q (.ref b) H) /\ ∀ p, H p = none -> Q (.ref p) (upd H p (.tup (xs ++ ys)))
def Fc : R2 := fun x y H Q => ∃ i j, x = .str i /\ y = .str j /\ i.length + j.length <= sizeLine /\ Q (.str (i ++ j)) H
def Fe (K : W.Frag) : R2 := fun x y H Q => (∃ i j, x = .int i /\ y = .int j /\ Q (.int (i + j)) H) \/ E9 x y H Q \/ Fn K x y H Q \/ Fc x y H Q
def bz : D -> D -> Option D
 | .int i, .int j => some (.int (i + j))
 | .lst a, .lst b => if a.length + b.length <= LIM then some (.lst (a ++ b)) else none
 | .tup a, .tup b => if a.length + b.length <= LIM then some (.tup (a ++ b)) else none
 | .str a, .str b => if a.length + b.length <= LIM then some (.str (a ++ b)) else none
 | _, _ => none
section
variable {K : W.Frag}
theorem Dens.nil_iff {S : Hp} {ds : List D} {xs : List V} (h : Dens K S ds xs) : xs = [] ↔ ds = [] := by
 have := h.length
 cases ds <;> cases xs <;> simp_all
theorem pE {n : Nat} (h : n <= LIM) : n <= sizeLine := Nat.le_of_lt (Nat.lt_of_le_of_lt h fK)
theorem bX : SR2 K (Fe K) bz := fun S H x y d e z Q s dx dy q k => by
 cases d <;> cases e <;> try (cases q; done)
 ·rename_i i j
  cases q
  exact .inl ⟨i, j, dx.int, dy.int, k _ S H (Ext.refl s) (den_int.mpr rfl)⟩
 ·rename_i i j
  have q' : (if i.length + j.length <= LIM then some (D.str (i ++ j)) else none) = some z := q
  split at q'
  ·rename_i hl
   cases q'
   exact .inr (.inr (.inr ⟨i, j, dx.str, dy.str, pE hl, k _ S H (Ext.refl s) (den_str.mpr rfl)⟩))
  ·cases q'
 ·rename_i a b
  have q' : (if a.length + b.length <= LIM then some (D.lst (a ++ b)) else none) = some z := q
  split at q'
  ·rename_i hl
   cases q'
   obtain ⟨p, xs, rfl, h1, h2⟩ := dx.lst s
   obtain ⟨p', ys, rfl, h3, h4⟩ := dy.lst s
   refine .inr (.inl ⟨p, p', xs, ys, rfl, rfl, h1, h3, by rw [<- h2.length, <- h4.length]; exact pE hl, fun q hq => ?_⟩)
   have z := Ext.new (o := .lst (xs ++ ys)) s hq
   exact k _ _ _ z (den_lst.mpr ⟨q, _, rfl, .inl aJ, (h2.append h4).mono z.sh⟩)
  ·cases q'
 ·rename_i a b
  have q' : (if a.length + b.length <= LIM then some (D.tup (a ++ b)) else none) = some z := q
  split at q'
  ·rename_i hl
   cases q'
   obtain ⟨p, xs, e1, h1, h2⟩ := dx.tup s
   obtain ⟨p', ys, e2, h3, h4⟩ := dy.tup s
   have dx' : Den K S (.tup a) x := dx.elim id fun ⟨_, _, _, e, _⟩ => by cases e
   have dy' : Den K S (.tup b) y := dy.elim id fun ⟨_, _, _, e, _⟩ => by cases e
   subst e1 e2
   refine .inr (.inr (.inl ⟨p, p', xs, ys, rfl, rfl, h1, h3, by rw [<- h2.length, <- h4.length]; exact pE hl, fun e => ?_, fun e => ?_, fun q hq => ?_⟩))
   ·have := h4.nil_iff.mp e
    subst this
    exact k _ S H (Ext.refl s) (by rw [List.append_nil]; exact dx')
   ·have := h2.nil_iff.mp e
    subst this
    exact k _ S H (Ext.refl s) (by rw [List.nil_append]; exact dy')
   ·have z := Ext.new (o := .tup (xs ++ ys)) s hq
    exact k _ _ _ z (den_tup.mpr ⟨q, _, rfl, TpA.of aJ, (h2.append h4).mono z.sh⟩)
  ·cases q'
end
mutual
def eqD : D -> D -> Bool
 | .non, .non => true
 | .bl a, .bl b => a == b
 | .bl a, .int j => (if a then 1 else 0) == j
 | .int i, .bl b => i == (if b then 1 else 0)
 | .int i, .int j => i == j
 | .str x, .str y => x == y
 | .lst a, .lst b => eqDs a b
 | .tup a, .tup b => eqDs a b
 | _, _ => false
def eqDs : List D -> List D -> Bool
 | [], [] => true
 | x :: xs, y :: ys => eqD x y && eqDs xs ys
 | _, _ => false
end
mutual
def okD : Nat -> D -> Bool
 | _, .non => true
 | _, .bl _ => true
 | _, .int _ => true
 | _, .str x => PyData.strOk x
 | n + 1, .lst l => okDs n l
 | n + 1, .tup l => okDs n l
 | _, _ => false
def okDs : Nat -> List D -> Bool
 | _, [] => true
 | n, d :: l => okD n d && okDs n l
end
def FN (K : W.Frag) (neg : Bool) : R2 := fun x y H Q => ∃ S d e, Same S H /\ DenP K S H d x /\ DenP K S H e y /\ okD 50 d = true /\ okD 50 e = true /\ Q (.bl (if neg then !eqD d e else eqD d e)) H
def dEq (neg : Bool) (d e : D) : Option D := if okD 50 d = true /\ okD 50 e = true then some (.bl (if neg then !eqD d e else eqD d e)) else none
section
variable {K : W.Frag}
theorem kH (neg : Bool) : SR2 K (FN K neg) (dEq neg) := fun S H x y d e z Q s dx dy q k => by
 unfold dEq at q
 split at q
 ·rename_i c
  cases q
  exact ⟨S, d, e, s, dx, dy, c.1, c.2, k _ S H (Ext.refl s) (den_bl.mpr rfl)⟩
 ·cases q
end
def p8 : D -> Bool
 | .non => true | _ => false
def Jf (neg : Bool) (d e : D) : Option D := match e with | .non => some (.bl (if neg then !p8 d else p8 d)) | _ => none
section
variable {K : W.Frag}
end
def dIx : D -> D -> Option D
 | .lst l, .int i => atI l i
 | .tup l, .int i => atI l i
 | .scr l, .int i => atI l i
 | .str x, .int i => if x.length <= LIM then (atI x.cps.toList i).map fun c => .str ⟨#[c]⟩ else none
 | _, _ => none
section
variable {K : W.Frag}
theorem p7 {S : Hp} {ds : List D} {xs : List V} {i : Int} {d : D} (h : Dens K S ds xs) (e : atI ds i = some d) : ∃ v, atI xs i = some v /\ Den K S d v := by
 unfold atI at e ⊢
 rw [<- h.length]
 cases q : ixN ds.length i with
 | none => rw [q] at e; cases e
 | some j =>
  rw [q] at e
  exact h.get e
theorem gK : SR2 K (rIx K) dIx := fun S H x y d e z Q s dx dy q k => by
 cases d <;> cases e <;> try (cases q; done)
 ·rename_i x' i
  have q' : (if x'.length <= LIM then (atI x'.cps.toList i).map fun c => D.str ⟨#[c]⟩ else none) = some z := q
  split at q'
  ·rename_i hl
   cases qc : atI x'.cps.toList i with
   | none => rw [qc] at q'; cases q'
   | some c =>
    rw [qc] at q'
    cases q'
    exact .inr (.inr ⟨x', i, c, dx.str, dy.int, pE hl, qc, k _ S H (Ext.refl s) (den_str.mpr rfl)⟩)
  ·cases q'
 ·rename_i l i
  obtain ⟨p, xs, rfl, h1, h2⟩ := dx.lst s
  obtain ⟨v, h3, h4⟩ := p7 h2 q
  exact .inl ⟨p, xs, i, v, rfl, dy.int, .inl h1, h3, k v S H (Ext.refl s) h4⟩
 ·rename_i l i
  obtain ⟨p, xs, rfl, h1, h2⟩ := dx.tup s
  obtain ⟨v, h3, h4⟩ := p7 h2 q
  exact .inr (.inl ⟨p, xs, i, v, rfl, dy.int, h1, h3, k v S H (Ext.refl s) h4⟩)
 ·rename_i l i
  obtain ⟨p, xs, rfl, h1, h2⟩ := dx.scr s
  obtain ⟨v, h3, h4⟩ := p7 h2 q
  exact .inl ⟨p, xs, i, v, rfl, dy.int, h1, h3, k v S H (Ext.refl s) h4⟩
end
def As {α : Type} (xs : List α) (lo hi : Option Int) : List α := (xs.drop (HT.sIx xs.length 0 lo)).take (HT.sIx xs.length xs.length hi - HT.sIx xs.length 0 lo)
abbrev XO := Env -> Option (Option Int)
@[simp] def HU : XO := fun _ => some none
@[simp] def JI (a : XE) : XO := fun ρ => (a ρ).bind fun d => match d with | .int i => some (some i) | _ => none
section
variable {K : W.Frag}
def dSl (d : D) (lo hi : Option Int) : Option D := match d with
 | .lst l => some (.lst (As l lo hi))
 | .tup l => some (.tup (As l lo hi))
 | .scr l => some (.lst (As l lo hi))
 | _ => none
@[simp] def xSl (a : XE) (lo hi : XO) : XE := fun ρ => (a ρ).bind fun d => (lo ρ).bind fun l => (hi ρ).bind fun h => dSl d l h
def Fi (K : W.Frag) : List V -> Hp -> VK -> Prop := fun xs H Q => ∃ x n, xs = [x] /\ HA K x H n /\ Q (.int n) H
def pU : List D -> Option D
 | [.lst l] => some (.int l.length)
 | [.tup l] => some (.int l.length)
 | [.scr l] => some (.int l.length)
 | [.str x] => if x.length <= LIM then some (.int x.length) else none
 | _ => none
theorem ja {S H : Hp} {d : D} {vs : List V} (h : DensP K S H [d] vs) : ∃ v, vs = [v] /\ DenP K S H d v := by
 cases h with
 | cons a b => cases b; exact ⟨_, rfl, a⟩
theorem Gw {S H : Hp} {d e : D} {vs : List V} (h : DensP K S H [d, e] vs) : ∃ v w, vs = [v, w] /\ DenP K S H d v /\ DenP K S H e w := by
 cases h with
 | cons a b => cases b with
  | cons c b => cases b; exact ⟨_, _, rfl, a, c⟩
theorem tD : SRB K (Fi K) pU := fun S H vs ds g Q s d q k => by
 unfold pU at q
 split at q
 ·rename_i l
  cases q
  obtain ⟨v, rfl, d1⟩ := ja d
  obtain ⟨p, xs, rfl, h1, h2⟩ := d1.lst s
  exact ⟨_, xs.length, rfl, .inl ⟨xs, .inl h1, rfl⟩, k _ S H (Ext.refl s) (den_int.mpr (by rw [h2.length]))⟩
 ·rename_i l
  cases q
  obtain ⟨v, rfl, d1⟩ := ja d
  obtain ⟨p, xs, rfl, h1, h2⟩ := d1.tup s
  exact ⟨_, xs.length, rfl, .inr ⟨xs, h1, rfl⟩, k _ S H (Ext.refl s) (den_int.mpr (by rw [h2.length]))⟩
 ·rename_i l
  cases q
  obtain ⟨v, rfl, d1⟩ := ja d
  obtain ⟨p, xs, rfl, h1, h2⟩ := d1.scr s
  exact ⟨_, xs.length, rfl, .inl ⟨xs, h1, rfl⟩, k _ S H (Ext.refl s) (den_int.mpr (by rw [h2.length]))⟩
 ·rename_i x
  split at q
  ·rename_i hl
   cases q
   obtain ⟨v, rfl, d1⟩ := ja d
   exact ⟨_, x.length, rfl, by rw [d1.str]; exact ⟨pE hl, rfl⟩, k _ S H (Ext.refl s) (den_int.mpr rfl)⟩
  ·cases q
 ·cases q
def jb : List D -> Option D
 | [.lst l] => some (.tup l)
 | [.tup l] => some (.tup l)
 | [.scr l] => some (.tup l)
 | _ => none
theorem o4 : SRB K (FB K) jb := fun S H vs ds g Q s d q k => by
 unfold jb at q
 split at q
 ·rename_i l
  cases q
  obtain ⟨v, rfl, d1⟩ := ja d
  obtain ⟨p, xs, rfl, h1, h2⟩ := d1.lst s
  refine ⟨p, xs, rfl, .inl ⟨.inl h1, fun q hq => ?_⟩⟩
  have z := Ext.new (o := .tup xs) s hq
  exact k _ _ _ z (den_tup.mpr ⟨q, _, rfl, TpA.of aJ, h2.mono z.sh⟩)
 ·rename_i l
  cases q
  obtain ⟨v, rfl, d1⟩ := ja d
  have d' : Den K S (.tup l) v := d1.elim id fun ⟨_, _, _, e, _⟩ => by cases e
  obtain ⟨p, xs, rfl, h1, h2⟩ := d1.tup s
  exact ⟨p, xs, rfl, .inr ⟨h1, k _ S H (Ext.refl s) d'⟩⟩
 ·rename_i l
  cases q
  obtain ⟨v, rfl, d1⟩ := ja d
  obtain ⟨p, xs, rfl, h1, h2⟩ := d1.scr s
  refine ⟨p, xs, rfl, .inl ⟨h1, fun q hq => ?_⟩⟩
  have z := Ext.new (o := .tup xs) s hq
  exact k _ _ _ z (den_tup.mpr ⟨q, _, rfl, TpA.of aJ, h2.mono z.sh⟩)
 ·cases q
def Cv : List D -> Option (List D)
 | [.lst l] => some l
 | [.tup l] => some l
 | [.scr l] => some l
 | _ => none
def y8 : List D -> Option D
 | [.int i, .int j] => some (.int (if j > i then j else i))
 | _ => none
def HJ : List D -> Option D
 | [.int i, .int j] => some (.int (if j < i then j else i))
 | _ => none
theorem Gv : SRB K GK y8 := fun S H vs ds g Q s d q k => by
 unfold y8 at q
 split at q
 ·rename_i i j
  cases q
  obtain ⟨v, w, rfl, d1, d2⟩ := Gw d
  exact ⟨i, j, by rw [d1.int, d2.int], k _ S H (Ext.refl s) (den_int.mpr rfl)⟩
 ·cases q
def bD : List D -> Option (List Int)
 | [] => some []
 | .int i :: l => (bD l).map fun r => i :: r
 | _ => none
theorem kB {S : Hp} : ∀ {ds : List D} {xs : List V} {ns : List Int}, Dens K S ds xs -> bD ds = some ns -> xs = ns.map V.int /\ ds = ns.map D.int
 | [], xs, ns, h, e => by cases e; exact ⟨h.nil_of, rfl⟩
 | d :: ds, xs, ns, h, e => by
  obtain ⟨y, ys, rfl, h1, h2⟩ := h.cons_of
  cases d <;> try (cases e; done)
  rename_i i
  have e' : (bD ds).map (fun r => i :: r) = some ns := e
  cases q : bD ds with
  | none => rw [q] at e'; cases e'
  | some ms =>
   rw [q] at e'
   cases e'
   obtain ⟨k1, k2⟩ := kB h2 q
   rw [den_int.mp h1, k1]
   exact ⟨rfl, congrArg (D.int i :: ·) k2⟩
theorem fY : ∀ ns : List Int, bD (ns.map D.int) = some ns
 | [] => rfl
 | n :: ns => by rw [List.map_cons, bD, fY ns]; rfl
def wL : List D -> Option D
 | [.lst l] => (bD l).map fun ns => .int ns.sum
 | _ => none
theorem BE : SRB K (Fd K) wL := fun S H vs ds g Q s d q k => by
 unfold wL at q
 split at q
 ·rename_i l
  cases qi : bD l with
  | none => rw [qi] at q; cases q
  | some ns =>
   rw [qi] at q
   cases q
   obtain ⟨v, rfl, d1⟩ := ja d
   obtain ⟨p, xs, rfl, h1, h2⟩ := d1.lst s
   obtain ⟨e, _⟩ := kB h2 qi
   subst e
   exact ⟨p, ns, rfl, .inl h1, k _ S H (Ext.refl s) (den_int.mpr rfl)⟩
 ·cases q
def Hr : List D -> Option D
 | [.int i] => some (.int i)
 | [.bl b] => some (.int (if b then 1 else 0))
 | _ => none
@[simp] def Kh (a : XE) : XA := fun ρ => (a ρ).bind fun d => match d with | .lst l => some l.reverse | _ => none
def tyD : D -> Option String
 | .non => some "NoneType" | .bl _ => some "bool" | .int _ => some "int" | .str _ => some "str" | .lst _ => some "list" | .tup _ => some "tuple" | _ => none
def Jh (t T : String) : Bool := t == T || (t == "bool" && T == "int")
def IT : List String := ["bool", "int", "str", "list", "tuple"]
def Cn : List D -> Option D
 | [d, .ty T] => if T ∈ IT then (tyD d).map fun t => .bl (Jh t T) else none
 | _ => none
end
def sK (k : List Int) : D := .tup (k.map D.int)
def EG : D -> Option (List Int)
 | .tup l => if l.isEmpty then none else bD l
 | _ => none
def keys : List D -> Option (List (List Int))
 | [] => some []
 | d :: l => (EG d).bind fun k => (keys l).map fun r => k :: r
theorem vR : ∀ a b : List Int, HT.cD a b = true -> HT.cD b a = false
 | [], [], h => by cases h
 | [], _ :: _, _ => rfl
 | _ :: _, [], h => by cases h
 | x :: a, y :: b, h => by
  have h' : (if x = y then HT.cD a b else decide (x < y)) = true := h
  show (if y = x then HT.cD b a else decide (y < x)) = false
  by_cases e : x = y
  ·rw [if_pos e] at h'; rw [if_pos e.symm]; exact vR a b h'
  ·rw [if_neg e] at h'; rw [if_neg (fun z => e z.symm)]
   have := of_decide_eq_true h'
   exact decide_eq_false (by lia)
theorem tX : ∀ a b : List Int, HT.cD a b = false -> HT.cD b a = false -> a = b
 | [], [], _, _ => rfl
 | [], _ :: _, h, _ => by cases h
 | _ :: _, [], _, h => by cases h
 | x :: a, y :: b, h, k => by
  have h' : (if x = y then HT.cD a b else decide (x < y)) = false := h
  have k' : (if y = x then HT.cD b a else decide (y < x)) = false := k
  by_cases e : x = y
  ·rw [if_pos e] at h'; rw [if_pos e.symm] at k'
   rw [e, tX a b h' k']
  ·rw [if_neg e] at h'; rw [if_neg (fun z => e z.symm)] at k'
   have := of_decide_eq_false h'
   have := of_decide_eq_false k'
   lia
theorem uh : ∀ a b c : List Int, HT.cD a b = false -> HT.cD b c = false -> HT.cD a c = false
 | [], [], _, _, k => k
 | [], _ :: _, _, h, _ => by cases h
 | _ :: _, _, [], _, _ => rfl
 | _ :: _, [], _ :: _, _, k => by cases k
 | x :: a, y :: b, z :: c, h, k => by
  have h' : (if x = y then HT.cD a b else decide (x < y)) = false := h
  have k' : (if y = z then HT.cD b c else decide (y < z)) = false := k
  show (if x = z then HT.cD a c else decide (x < z)) = false
  by_cases e1 : x = y
  ·rw [if_pos e1] at h'
   subst e1
   by_cases e2 : x = z
   ·rw [if_pos e2] at k' ⊢; exact uh a b c h' k'
   ·rw [if_neg e2] at k' ⊢; exact k'
  ·rw [if_neg e1] at h'
   have g1 := of_decide_eq_false h'
   by_cases e2 : y = z
   ·subst e2
    rw [if_neg e1]; exact h'
   ·rw [if_neg e2] at k'
    have g2 := of_decide_eq_false k'
    rw [if_neg (by lia)]
    exact decide_eq_false (by lia)
def Ax (x : List Int) : List (List Int) -> List (List Int)
 | [] => [x]
 | y :: l => if HT.cD y x = true then y :: Ax x l else x :: y :: l
def gm (ks : List (List Int)) : List (List Int) := ks.foldr Ax []
theorem sS (x : List Int) (l : List (List Int)) : (Ax x l).Perm (x :: l) := by
 induction l with
 | nil => exact .refl _
 | cons y l ih =>
  unfold Ax
  split
  ·exact (ih.cons y).trans (.swap x y l)
  ·exact .refl _
def nH (ns : List Int) : List Int := ns.mergeSort fun a b => decide (a <= b)
theorem gJ (ks : List (List Int)) : (gm ks).Perm ks := by
 induction ks with
 | nil => exact .refl _
 | cons x l ih => exact (sS x (gm l)).trans (ih.cons x)
theorem lH (ns : List Int) : (nH ns).Perm ns := List.mergeSort_perm _ _
theorem EZ (x : List Int) (l : List (List Int)) (h : l.Pairwise fun a b => HT.cD b a = false) : (Ax x l).Pairwise fun a b => HT.cD b a = false := by
 induction l with
 | nil => exact .cons (fun _ z => by cases z) .nil
 | cons y l ih =>
  have hy : ∀ z, z ∈ l -> HT.cD z y = false := fun z hz => List.rel_of_pairwise_cons h hz
  unfold Ax
  cases q : HT.cD y x with
  | true =>
   refine .cons (fun z hz => ?_) (ih (List.Pairwise.of_cons h))
   rcases List.mem_cons.mp ((sS x l).mem_iff.mp hz) with rfl | hz
   ·exact vR y _ q
   ·exact hy z hz
  | false =>
   refine .cons (fun z hz => ?_) h
   rcases List.mem_cons.mp hz with rfl | hz
   ·exact q
   ·exact uh z y x (hy z hz) q
theorem qh (ks : List (List Int)) : (gm ks).Pairwise fun a b => HT.cD b a = false := by
 induction ks with
 | nil => exact .nil
 | cons x l ih => exact EZ x (gm l) ih
theorem CU (ns : List Int) : (nH ns).Pairwise (· <= ·) := by
 have h := List.pairwise_mergeSort (le := fun a b : Int => decide (a <= b)) (fun a b c h k => by
  have := of_decide_eq_true h; have := of_decide_eq_true k; exact decide_eq_true (by lia)) (fun a b => by
  by_cases h : a <= b
  ·simp [h]
  ·simp [show b <= a by lia]) ns
 exact h.imp fun {a b} e => of_decide_eq_true e
theorem x4 {ks js : List (List Int)} (hp : js.Perm ks) (hw : js.Pairwise fun a b => HT.cD b a = false) : js = gm ks :=
 List.Perm.eq_of_pairwise (fun a b _ _ h k => tX a b k h) hw (qh ks) (hp.trans (gJ ks).symm)
theorem yC {ns ms : List Int} (hp : ms.Perm ns) (hw : ms.Pairwise (· <= ·)) : ms = nH ns :=
 List.Perm.eq_of_pairwise (fun a b _ _ h k => by lia) hw (CU ns) (hp.trans (lH ns).symm)
def B2 (K : W.Frag) : List V -> Hp -> VK -> Prop := fun xs H Q => ∃ p, ∃ yks : List (V × List Int), xs = [.ref p] /\ SqL K H p (yks.map (·.1)) /\ yks.length < 30000 /\ (∀ yk ∈ yks, ∃ q, yk.1 = .ref q /\ SqT K H q (yk.2.map V.int) /\ yk.2 ≠ []) /\
 ∀ (zks : List (V × List Int)) l, zks.Perm yks -> zks.Pairwise (fun a b => HT.cD b.2 a.2 = false) -> H l = none -> Q (.ref l) (upd H l (.lst (zks.map (·.1))))
def vJ (K : W.Frag) : List V -> Hp -> VK -> Prop := fun xs H Q => xH K xs H Q \/ B2 K xs H Q
def fP : List D -> Option (List D)
 | [.lst l] => if l.length < 30000 then (match bD l with
  | some ns => some ((nH ns).map D.int)
  | none => (keys l).map fun ks => (gm ks).map sK) else none
 | _ => none
section
variable {K : W.Frag}
theorem E6 {d : D} {k : List Int} (h : EG d = some k) : d = sK k /\ k ≠ [] := by
 cases d <;> try (cases h; done)
 rename_i l
 have h' : (if l.isEmpty then none else bD l) = some k := h
 split at h'
 ·cases h'
 ·rename_i hne
  have key : ∀ (l : List D) (k : List Int), bD l = some k -> l = k.map D.int := by
   intro l
   induction l with
   | nil => intro k e; cases e; rfl
   | cons d l ih =>
    intro k e
    cases d <;> try (cases e; done)
    rename_i i
    have e' : (bD l).map (fun r => i :: r) = some k := e
    cases q : bD l with
    | none => rw [q] at e'; cases e'
    | some m => rw [q] at e'; cases e'; rw [ih m q]; rfl
  have e := key l k h'
  subst e
  exact ⟨rfl, fun z => by subst z; exact hne rfl⟩
theorem zn : ∀ {l : List D} {ks : List (List Int)}, keys l = some ks -> l = ks.map sK /\ ∀ k ∈ ks, k ≠ []
 | [], ks, h => by cases h; exact ⟨rfl, fun _ h => by cases h⟩
 | d :: l, ks, h => by
  have h' : ((EG d).bind fun k => (keys l).map fun r => k :: r) = some ks := h
  cases q : EG d with
  | none => rw [q] at h'; cases h'
  | some k =>
   rw [q] at h'
   dsimp only [Option.bind] at h'
   cases q2 : keys l with
   | none => rw [q2] at h'; cases h'
   | some r =>
    rw [q2] at h'
    cases h'
    obtain ⟨a, b⟩ := zn q2
    obtain ⟨c, d⟩ := E6 q
    refine ⟨by rw [List.map_cons, <- a, <- c], fun k hk => ?_⟩
    rcases List.mem_cons.mp hk with rfl | hk
    ·exact d
    ·exact b k hk
theorem rq : ∀ {S : Hp} {k : List Int} {xs : List V}, Dens K S (k.map D.int) xs -> xs = k.map V.int
 | S, [], xs, h => h.nil_of
 | S, i :: k, xs, h => by
  obtain ⟨y, ys, rfl, h1, h2⟩ := h.cons_of
  rw [den_int.mp h1, rq h2]
  rfl
theorem xk {S : Hp} : ∀ {ks : List (List Int)} {xs : List V}, Dens K S (ks.map sK) xs -> (xs.zip ks).map (·.1) = xs /\ (xs.zip ks).map (·.2) = ks /\ (xs.zip ks).length = ks.length /\ ∀ yk ∈ xs.zip ks, Den K S (sK yk.2) yk.1
 | [], xs, h => by rw [h.nil_of]; exact ⟨rfl, rfl, rfl, fun _ h => by cases h⟩
 | k :: ks, xs, h => by
  obtain ⟨y, ys, rfl, h1, h2⟩ := h.cons_of
  obtain ⟨a, b, c, d⟩ := xk h2
  refine ⟨by rw [List.zip_cons_cons, List.map_cons, a], by rw [List.zip_cons_cons, List.map_cons, b], by rw [List.zip_cons_cons, List.length_cons, c, List.length_cons], fun yk hm => ?_⟩
  rw [List.zip_cons_cons] at hm
  rcases List.mem_cons.mp hm with rfl | hm
  ·exact h1
  ·exact d yk hm
theorem kQ {S : Hp} : ∀ {zks : List (V × List Int)}, (∀ yk ∈ zks, Den K S (sK yk.2) yk.1) -> Dens K S ((zks.map (·.2)).map sK) (zks.map (·.1))
 | [], _ => .nil
 | yk :: zks, h => .cons (h yk List.mem_cons_self) (kQ fun z hz => h z (List.mem_cons_of_mem _ hz))
theorem rp : SRF K (vJ K) fP := fun S H vs ds g Q s d q k => by
 unfold fP at q
 split at q
 ·rename_i l
  split at q
  ·rename_i hl
   obtain ⟨v, rfl, d1⟩ := ja d
   obtain ⟨p, xs, rfl, h1, h2⟩ := d1.lst s
   cases qi : bD l with
   | some ns =>
    rw [qi] at q
    cases q
    obtain ⟨e1, e2⟩ := kB h2 qi
    subst e1 e2
    refine .inl ⟨p, ns, rfl, .inl h1, by rw [List.length_map] at hl; exact hl, fun ms a pm pw ha => ?_⟩
    rw [yC pm pw]
    refine k a _ _ (Ext.own s ha) ha aJ ?_
    have key : ∀ ns : List Int, Dens K S (ns.map D.int) (ns.map V.int) := by
     intro ns
     induction ns with
     | nil => exact .nil
     | cons n ns ih => exact .cons (den_int.mpr rfl) ih
    exact key _
   | none =>
    rw [qi] at q
    dsimp only at q
    cases qk : keys l with
    | none => rw [qk] at q; cases q
    | some ks =>
     rw [qk] at q
     cases q
     obtain ⟨e1, e2⟩ := zn qk
     subst e1
     obtain ⟨a, b, c, dd⟩ := xk h2
     refine .inr ⟨p, xs.zip ks, rfl, by rw [a]; exact .inl h1, by rw [c]; rw [List.length_map] at hl; exact hl, fun yk hm => ?_, fun zks l pm pw hl => ?_⟩
     ·obtain ⟨q, ys, e, g1, g2⟩ := iu (dd yk hm)
      have := rq g2
      subst this
      refine ⟨q, e, bf s g1, e2 _ ?_⟩
      rw [<- b]
      exact List.mem_map.mpr ⟨yk, hm, rfl⟩
     ·have e : zks.map (·.2) = gm ks := by
       refine x4 ?_ ?_
       ·rw [<- b]; exact pm.map _
       ·rw [List.pairwise_map]; exact pw
      have dz : Dens K S ((zks.map (·.2)).map sK) (zks.map (·.1)) := kQ fun yk hm => dd yk (pm.mem_iff.mp hm)
      rw [e] at dz
      exact k l _ _ (Ext.own s hl) hl aJ dz
  ·cases q
 ·cases q
theorem vA {ta : TE} {a : XE} (ha : SPk K ta a) : ST K (G4 K ta) (qz a) := HR ha
end
def HN : D -> D -> Option D := dI fun i j => some (.int (i + j))
section
variable {K : W.Frag}
end
theorem FU {K : W.Frag} {ta : TE} {a : XE} (ha : SQ K ta a) : ST K (G4 K ta) (qz a) := fun ρ σ S H Q b r x k => by
 unfold qz at x
 cases qa : a ρ with
 | none => rw [qa] at x; cases x
 | some da =>
  rw [qa] at x
  exact ha ρ σ S H _ da r qa fun v S1 H1 z1 d1 => ⟨b, Cc (Same.refl H1) (.inl d1) x, k S1 H1 z1⟩
theorem A1 (g : XG) (m : XS) (ρ : Env) : fL g m [] ρ = some (.nx ρ) := rfl
theorem qW (g : XG) (m : XS) (d : D) (l : List D) (ρ : Env) : fL g m (d :: l) ρ = (g d ρ).bind fun ρ1 => match m ρ1 with
  | some (.nx ρ2) => fL g m l ρ2
  | some (.ct ρ2) => fL g m l ρ2
  | some (.bk ρ2) => some (.nx ρ2)
  | some (.rt d) => some (.rt d)
  | some (.ro d) => some (.ro d)
  | none => none := rfl
theorem Ac {α : Type} {g : XG} {m : XS} (enc : α -> D) (P : List α -> Env -> Prop) (R : D -> Prop) (B : Env -> Prop) (l : List α) (ρ0 : Env) (h0 : P [] ρ0)
  (step : ∀ pre a post ρ, l = pre ++ a :: post -> P pre ρ -> ∃ ρ1 o, g (enc a) ρ = some ρ1 /\ m ρ1 = some o /\ (match o with | .nx ρ2 => P (pre ++ [a]) ρ2 | .ct ρ2 => P (pre ++ [a]) ρ2 | .bk ρ2 => B ρ2 | .rt d => R d | .ro _ => False)) :
  ∃ o, fL g m (l.map enc) ρ0 = some o /\ (match o with | .nx ρ' => P l ρ' \/ B ρ' | .rt d => R d | _ => False) := by
 have key : ∀ (post pre : List α) (ρ : Env), l = pre ++ post -> P pre ρ -> ∃ o, fL g m (post.map enc) ρ = some o /\ (match o with | .nx ρ' => P l ρ' \/ B ρ' | .rt d => R d | _ => False) := by
  intro post
  induction post with
  | nil =>
   intro pre ρ e p
   rw [List.append_nil] at e
   subst e
   exact ⟨_, rfl, .inl p⟩
  | cons a post ih =>
   intro pre ρ e p
   obtain ⟨ρ1, o, h1, h2, h3⟩ := step pre a post ρ e p
   rw [List.map_cons, qW, h1]
   dsimp only [Option.bind]
   rw [h2]
   cases o with
   | nx ρ2 => exact ih (pre ++ [a]) ρ2 (by rw [e, List.append_assoc]; rfl) h3
   | ct ρ2 => exact ih (pre ++ [a]) ρ2 (by rw [e, List.append_assoc]; rfl) h3
   | bk ρ2 => exact ⟨_, rfl, .inr h3⟩
   | rt d => exact ⟨_, rfl, h3⟩
   | ro d => exact h3.elim
 exact key l [] ρ0 rfl h0
theorem fT {α : Type} {g : XG} {m : XS} (enc : α -> D) (P : List α -> Env -> Prop) (l : List α) (ρ0 : Env) (h0 : P [] ρ0)
  (step : ∀ pre a post ρ, l = pre ++ a :: post -> P pre ρ -> ∃ ρ1 ρ2, g (enc a) ρ = some ρ1 /\ (m ρ1 = some (.nx ρ2) \/ m ρ1 = some (.ct ρ2)) /\ P (pre ++ [a]) ρ2) :
  ∃ ρ', fL g m (l.map enc) ρ0 = some (.nx ρ') /\ P l ρ' := by
 obtain ⟨o, h1, h2⟩ := Ac (g := g) (m := m) enc P (fun _ => False) (fun _ => False) l ρ0 h0 fun pre a post ρ e p => by
  obtain ⟨ρ1, ρ2, k1, k2, k3⟩ := step pre a post ρ e p
  rcases k2 with k2 | k2
  ·exact ⟨ρ1, _, k1, k2, k3⟩
  ·exact ⟨ρ1, _, k1, k2, k3⟩
 cases o with
 | nx ρ' => exact ⟨ρ', h1, h2.elim id False.elim⟩
 | rt d => exact h2.elim
 | ro d => exact h2.elim
 | bk ρ' => exact h2.elim
 | ct ρ' => exact h2.elim
def iz (g : XG) (c : XT) (e : XE) (ρ0 : Env) (d : D) : Option (Option D) := (g d ρ0).bind fun ρ1 => (c ρ1).bind fun b => if b = true then (e ρ1).map some else some none
theorem fE {α : Type} {g : XG} {c : XT} {e : XE} {ρ0 : Env} (enc : α -> D) (f : α -> Option D) : ∀ (l : List α), (∀ a ∈ l, iz g c e ρ0 (enc a) = some (f a)) -> cE g c e ρ0 (l.map enc) = some (l.filterMap f)
 | [], _ => rfl
 | a :: l, h => by
  have ih := fE (g := g) (c := c) (e := e) (ρ0 := ρ0) enc f l fun b hb => h b (List.mem_cons_of_mem _ hb)
  have h1 := h a List.mem_cons_self
  unfold iz at h1
  rw [List.map_cons, cE]
  cases q1 : g (enc a) ρ0 with
  | none => rw [q1] at h1; cases h1
  | some ρ1 =>
   rw [q1] at h1
   dsimp only [Option.bind] at h1 ⊢
   cases q2 : c ρ1 with
   | none => rw [q2] at h1; cases h1
   | some b =>
    rw [q2] at h1
    dsimp only at h1 ⊢
    cases b with
    | false =>
     rw [if_neg (by decide)] at h1 ⊢
     rw [ih, List.filterMap_cons]
     have : f a = none := (Option.some.inj h1).symm
     rw [this]
    | true =>
     rw [if_pos rfl] at h1 ⊢
     cases q3 : e ρ1 with
     | none => rw [q3] at h1; cases h1
     | some y =>
      rw [q3] at h1
      have : f a = some y := (Option.some.inj h1).symm
      rw [ih, List.filterMap_cons, this]
      rfl
theorem dw {α : Type} {g : XG} {e : XE} {ρ0 : Env} (enc : α -> D) (f : α -> D) (l : List α) (h : ∀ a ∈ l, iz g d6 e ρ0 (enc a) = some (some (f a))) : cE g d6 e ρ0 (l.map enc) = some (l.map f) := by
 rw [fE enc (fun a => some (f a)) l h]
 exact congrArg some (congrFun List.filterMap_eq_map' l)
abbrev prD (p : Int × Int) : D := .tup [.int p.1, .int p.2]
abbrev zX (r : List (Int × Int)) : D := .tup (r.map prD)
abbrev AH (r : List (Int × Int)) : D := .lst (r.map prD)
@[simp] theorem qS {α : Type} (l : List α) (x : α) : atI (l ++ [x]) (-1) = some x := by
 unfold atI ixN
 rw [if_neg (by decide), List.length_append, List.length_singleton, if_pos (by lia)]
 have : ((-1 : Int) + ((l.length + 1 : Nat) : Int)).toNat = l.length := by lia
 dsimp only [Option.bind]
 rw [this]
 simp
theorem Gh {α : Type} {l : List α} {j : Nat} {x : α} (h : l[j]? = some x) : atI l (j : Int) = some x := by
 have := (List.getElem?_eq_some_iff.mp h).1
 unfold atI ixN
 rw [if_pos (by lia), if_pos (by lia)]
 dsimp only [Option.bind]
 rw [Int.toNat_natCast]
 exact h
@[simp] theorem sW (l : List O) (x : O) (f : O -> O) : rG (l ++ [x]) (-1) f = l ++ [f x] := by
 unfold rG ixN
 rw [if_neg (by decide), List.length_append, List.length_singleton, if_pos (by lia)]
 have : ((-1 : Int) + ((l.length + 1 : Nat) : Int)).toNat = l.length := by lia
 dsimp only
 rw [this]
 simp
@[simp] theorem GH {α : Type} (l : List α) (a b : α) : atI (l ++ [a, b]) (-1) = some b := by
 have := qS (l ++ [a]) b
 rw [List.append_assoc] at this
 exact this
@[simp] theorem Ig {α : Type} (a : α) : atI [a] (-1) = some a := qS [] a
@[simp] theorem FC (l : List O) (a b : O) (f : O -> O) : rG (l ++ [a, b]) (-1) f = l ++ [a, f b] := by
 have := sW (l ++ [a]) b f
 rw [List.append_assoc, List.append_assoc] at this
 exact this
@[simp] theorem Hk (a : O) (f : O -> O) : rG [a] (-1) f = [f a] := sW [] a f
@[simp] theorem Hx (i : Int) : mw (.int i) = some (.int i) := rfl
@[simp] theorem Ia (i : Bool) : mw (.bl i) = some (.bl i) := rfl
@[simp] theorem G8 (i : Str) : mw (.str i) = some (.str i) := rfl
@[simp] theorem HB : mw .non = some .non := rfl
@[simp] theorem H9 (a b : O) (f : O -> O) : rG [a, b] 1 f = [a, f b] := rfl
theorem Cd {n : Nat} : ixN (n + 1) (-1) = some n := by
 unfold ixN
 rw [if_neg (by decide), if_pos (by lia)]
 congr 1
 lia
section
variable (i j : Int) (a b : List D) (neg : Bool) (ρ : Env)
@[simp] theorem Kb : q9 (.int i) (.int j) = some (.int (i - j)) := rfl
@[simp] theorem JO : bz (.int i) (.int j) = some (.int (i + j)) := rfl
@[simp] theorem IU : HN (.int i) (.int j) = some (.int (i + j)) := rfl
@[simp] theorem Kr : dLt (.int i) (.int j) = some (.bl (decide (i < j))) := rfl
@[simp] theorem KJ : dLe (.int i) (.int j) = some (.bl (decide (i <= j))) := rfl
@[simp] theorem Ko : dGt (.int i) (.int j) = some (.bl (decide (j < i))) := rfl
@[simp] theorem KE : dGe (.int i) (.int j) = some (.bl (decide (j <= i))) := rfl
@[simp] theorem Ke : uP (.int i) = some (.int (-i)) := rfl
@[simp] theorem Jd {i j : Int} (h : -18446744073709551616 < j /\ j < 18446744073709551616) : pu (.int i) (.int j) = some (.int (i * j)) := jk (.inr h)
@[simp] theorem yS {i j : Int} (h : -18446744073709551616 < i /\ i < 18446744073709551616) : pu (.int i) (.int j) = some (.int (i * j)) := jk (.inl h)
@[simp] theorem JV {i j : Int} (h : 0 < j /\ j < 1073741824) : yd (.int i) (.int j) = some (.int (i / j)) := jk h
@[simp] theorem Jr {i j : Int} (h : 0 < j) : hJ (.int i) (.int j) = some (.int (i % j)) := jk h
@[simp] theorem DN {i j : Int} (h : 0 <= j /\ j <= 1000000 /\ i.natAbs < 18446744073709551616) : wp (.int i) (.int j) = some (.int (i ^ j.toNat)) := jk h
theorem GB : bz (.lst a) (.lst b) = if a.length + b.length <= LIM then some (.lst (a ++ b)) else none := rfl
theorem FM : bz (.tup a) (.tup b) = if a.length + b.length <= LIM then some (.tup (a ++ b)) else none := rfl
@[simp] theorem JN (d : D) : Jf neg d .non = some (.bl (if neg then !p8 d else p8 d)) := rfl
@[simp] theorem Hq : p8 .non = true := rfl
@[simp] theorem HC : p8 (.int i) = false := rfl
@[simp] theorem Ht : p8 (.tup a) = false := rfl
@[simp] theorem JU : dIx (.lst a) (.int i) = atI a i := rfl
@[simp] theorem JM : dIx (.tup a) (.int i) = atI a i := rfl
@[simp] theorem JK : dIx (.scr a) (.int i) = atI a i := rfl
@[simp] theorem IH : xD (.lst a) = some (!a.isEmpty) := rfl
@[simp] theorem Il : xD (.tup a) = some (!a.isEmpty) := rfl
@[simp] theorem Jn : xD (.scr a) = some (!a.isEmpty) := rfl
@[simp] theorem Ir (x : Bool) : xD (.bl x) = some x := rfl
@[simp] theorem IM : xD (.int i) = some (i != 0) := rfl
@[simp] theorem Jb : xD .non = some false := rfl
@[simp] theorem Je : pU [.lst a] = some (.int a.length) := rfl
@[simp] theorem Ja : pU [.tup a] = some (.int a.length) := rfl
@[simp] theorem Iw : pU [.scr a] = some (.int a.length) := rfl
@[simp] theorem Ji : jb [.lst a] = some (.tup a) := rfl
@[simp] theorem Ik : jb [.tup a] = some (.tup a) := rfl
@[simp] theorem Iz : Cv [.lst a] = some a := rfl
@[simp] theorem IR : Cv [.tup a] = some a := rfl
@[simp] theorem Iy : Cv [.scr a] = some a := rfl
@[simp] theorem JX : y8 [.int i, .int j] = some (.int (if j > i then j else i)) := rfl
@[simp] theorem Jv : HJ [.int i, .int j] = some (.int (if j < i then j else i)) := rfl
@[simp] theorem JQ : Hr [.int i] = some (.int i) := rfl
@[simp] theorem I0 (x : Bool) : Hr [.bl x] = some (.int (if x then 1 else 0)) := rfl
@[simp] theorem IG : AY (.lst a) = some a := rfl
@[simp] theorem IP : AY (.tup a) = some a := rfl
@[simp] theorem IZ : AY (.scr a) = some a := rfl
@[simp] theorem JW (lo hi : Option Int) : dSl (.lst a) lo hi = some (.lst (As a lo hi)) := rfl
@[simp] theorem Ki (lo hi : Option Int) : dSl (.tup a) lo hi = some (.tup (As a lo hi)) := rfl
@[simp] theorem J2 (lo hi : Option Int) : dSl (.scr a) lo hi = some (.lst (As a lo hi)) := rfl
@[simp] theorem KB (y : XGs) : bq y (.tup a) ρ = y a ρ := rfl
@[simp] theorem Kv (x : XG) (y : XGs) (d : D) : aq x y (d :: a) ρ = (x d ρ).bind (y a) := rfl
@[simp] theorem Km : bu [] ρ = some ρ := rfl
@[simp] theorem Jl : Cn [.int i, .ty "int"] = some (.bl true) := rfl
@[simp] theorem Iu : Cn [.int i, .ty "bool"] = some (.bl false) := rfl
@[simp] theorem IV : Cn [.tup a, .ty "tuple"] = some (.bl true) := rfl
@[simp] theorem Jg : Cn [.lst a, .ty "list"] = some (.bl true) := rfl
@[simp] theorem HV (x : Bool) : Cn [.bl x, .ty "bool"] = some (.bl true) := rfl
end
abbrev owl (l : List D) : Sl := .ow (.lst (l.map O.sh))
@[simp] theorem G6 (os : List O) : Bw (.ow (.lst os)) = (shs os).map D.lst := rfl
@[simp] theorem Ih : shs [] = some [] := rfl
@[simp] theorem wb (d : D) (l : List O) : shs (.sh d :: l) = (shs l).map fun r => d :: r := rfl
@[simp] theorem GR (l : List D) : shs (l.map O.sh) = some l := mI l
@[simp] theorem B5 {α : Type} (f : α -> D) (l : List α) : shs (l.map (O.sh ∘ f)) = some (l.map f) := by rw [<- List.map_map]; exact mI _
@[simp] theorem Hj {α : Type} (f : α -> D) (l : List α) : shs (l.map fun a => O.sh (f a)) = some (l.map f) := B5 f l
@[simp] theorem Eg : ∀ (a b : List O), shs (a ++ b) = (shs a).bind fun x => (shs b).map fun y => x ++ y
 | [], b => by cases h : shs b <;> simp [h]
 | .sh d :: a, b => by
  rw [List.cons_append, wb, wb, Eg a b]
  cases shs a with
  | none => rfl
  | some x => cases shs b <;> rfl
 | .dic _ :: _, _ => rfl
 | .hd _ _ _ :: _, _ => rfl
 | .lst _ :: a, b => rfl
 | .tup _ :: a, b => rfl
@[simp] theorem Hs (o : O) : dH o [] = some o := by unfold dH; rfl
@[simp] theorem HI (l : List O) (k : Int) (r : List Int) : dH (.lst l) (k :: r) = (atI l k).bind fun o => dH o r := rfl
@[simp] theorem GV (l : List O) (k : Int) (r : List Int) : dH (.tup l) (k :: r) = (atI l k).bind fun o => dH o r := rfl
@[simp] theorem GM (o q : O) : ij o [] q = q := by unfold ij; rfl
@[simp] theorem G9 (l : List O) (k : Int) (r : List Int) (q : O) : ij (.lst l) (k :: r) q = .lst (rG l k fun o => ij o r q) := rfl
@[simp] theorem Hh (l : List O) (k : Int) (r : List Int) (q : O) : ij (.tup l) (k :: r) q = .tup (rG l k fun o => ij o r q) := rfl
@[simp] theorem IB (d : D) : O.d (.sh d) = d := by unfold O.d; rfl
@[simp] theorem HX (l : List O) : O.d (.lst l) = .lst (O.ds l) := by rw [O.d]
@[simp] theorem HZ (l : List O) : O.d (.tup l) = .tup (O.ds l) := by rw [O.d]
@[simp] theorem GY : O.ds [] = [] := by rw [O.ds]
@[simp] theorem Ba (o : O) (l : List O) : O.ds (o :: l) = o.d :: O.ds l := by rw [O.ds]
@[simp] theorem Bo : ∀ (a b : List O), O.ds (a ++ b) = O.ds a ++ O.ds b
 | [], b => by simp
 | o :: a, b => by simp [Bo a b]
@[simp] theorem xq : ∀ l : List D, O.ds (l.map O.sh) = l
 | [] => by simp
 | d :: l => by simp [xq l]
@[simp] theorem GI {α : Type} (f : α -> D) (l : List α) : O.ds (l.map (O.sh ∘ f)) = l.map f := by rw [<- List.map_map]; exact xq _
@[simp] theorem JG {α : Type} (a b : α) : atI [a, b] 0 = some a := rfl
@[simp] theorem JJ {α : Type} (a b : α) : atI [a, b] 1 = some b := rfl
@[simp] theorem JS {α : Type} (a b c : α) : atI [a, b, c] 0 = some a := rfl
@[simp] theorem Jt {α : Type} (a b c : α) : atI [a, b, c] 1 = some b := rfl
@[simp] theorem JC {α : Type} (a b c : α) : atI [a, b, c] 2 = some c := rfl
theorem eV : LIM = 1000000 := by unfold LIM; rfl
@[simp] theorem Kn : (0 : Nat) <= LIM := Nat.zero_le _
@[simp] theorem Kj : (1 : Nat) <= LIM := by rw [eV]; decide
@[simp] theorem Kz : (2 : Nat) <= LIM := by rw [eV]; decide
@[simp] theorem KI : (3 : Nat) <= LIM := by rw [eV]; decide
@[simp] theorem Kt : (4 : Nat) <= LIM := by rw [eV]; decide
@[simp] theorem KC : (5 : Nat) <= LIM := by rw [eV]; decide
@[simp] theorem Kw : (6 : Nat) <= LIM := by rw [eV]; decide
@[simp] theorem Kx : (7 : Nat) <= LIM := by rw [eV]; decide
@[simp] theorem KH : (8 : Nat) <= LIM := by rw [eV]; decide
@[simp] theorem Kq : (9 : Nat) <= LIM := by rw [eV]; decide
@[simp] theorem JA : (10 : Nat) <= LIM := by rw [eV]; decide
@[simp] theorem Jy : (0 : Nat) < LIM := by rw [eV]; decide
@[simp] theorem Ii (neg : Bool) (i j : Int) : dEq neg (.int i) (.int j) = some (.bl (if neg then !decide (i = j) else decide (i = j))) := by
 unfold dEq
 rw [if_pos ⟨by simp [okD], by simp [okD]⟩]
 have : eqD (.int i) (.int j) = decide (i = j) := by simp [eqD]; by_cases h : i = j <;> simp [h]
 rw [this]
@[simp] theorem IE (neg : Bool) (i j : Bool) : dEq neg (.bl i) (.bl j) = some (.bl (if neg then !decide (i = j) else decide (i = j))) := by
 unfold dEq
 rw [if_pos ⟨by simp [okD], by simp [okD]⟩]
 have : eqD (.bl i) (.bl j) = decide (i = j) := by simp [eqD]; by_cases h : i = j <;> simp [h]
 rw [this]
theorem nu {K : W.Frag} {S : Hp} : ∀ ns : List Int, Dens K S (ns.map D.int) (ns.map V.int)
 | [] => .nil
 | n :: ns => .cons (den_int.mpr rfl) (nu ns)
theorem zW {K : W.Frag} {H : Hp} {a : Addr} {ns : List Int} {m : List D -> Option O} {E : XK} (hS : SqL K H a (ns.map V.int)) (h : (m [.scr (ns.map D.int)]).map O.d = some (.bl true)) : ic K 1 m [.ref a] H (fun v _ => v = .bl true) E := by
 cases q : m [.scr (ns.map D.int)] with
 | none => rw [q] at h; cases h
 | some o =>
  rw [q] at h
  have e : o.d = .bl true := Option.some.inj h
  exact ⟨rfl, H, [.scr (ns.map D.int)], o, Same.refl _, .cons (den_scr.mpr ⟨a, _, rfl, hS, nu ns⟩) .nil, q, fun v fp S' H' z ow _ _ => by
   have dv := ow.denH z.sub
   rw [e] at dv
   exact den_bl.mp dv⟩
end M
namespace L2
open PySem PySem.Spec PyProof.Rows
theorem m5 : bootBuiltins "len" = some (.builtin "len") := by decide +kernel
theorem nG : bootBuiltins "sorted" = some (.builtin "sorted") := by decide +kernel
theorem Fx : bootBuiltins "max" = some (.builtin "max") := by decide +kernel
theorem yj : bootBuiltins "sum" = some (.builtin "sum") := by decide +kernel
theorem lg : bootBuiltins "isinstance" = some (.builtin "isinstance") := by decide +kernel
theorem mM : bootBuiltins "tuple" = some (.type "tuple") := by decide +kernel
section
variable {X : Cx}
theorem wT : ∀ a b : List Int, Srt.gj a b = HT.cD a b
 | [], [] => rfl
 | [], _ :: _ => rfl
 | _ :: _, [] => rfl
 | x :: xs, y :: ys => by
  rw [HT.yM, <- wT xs ys]
  rfl
end
end L2
namespace Rev
open PySem
section
variable {prog : Program} {w : World} {A : Around} {s : Shared} {R : Result -> Shared -> Prop} {I : Addr} {fp wr : List Addr} {G : Array GenState -> Array GenState -> Prop} {n : Nat} {P : Nat -> Value -> Prop} {St : Nat -> Shared -> Prop}
end
section
variable {prog : Program} {w : World} {A : Around} {E : Value -> Shared -> Prop} {s : Shared} {I : Addr} {fp wr : List Addr} {G : Array GenState -> Array GenState -> Prop} {n : Nat} {P : Nat -> Value -> Prop} {St : Nat -> Shared -> Prop}
end
end Rev
namespace L2
open PySem PySem.Spec PyProof.Rows
section
variable {X : Cx} {tg : Expr}
theorem cH {l : Expr} {tl : TE} (hl : PE X l tl) : PI X tg l (EO X.K tl) := by
 intro pins s σ H R I h
 refine thn (hl pins s σ H _ I h) fun v s1 h1 => ?_
 obtain ⟨x, H1, I1, r1, a, e, q⟩ := h1
 subst e
 cases r1
 rcases q with ⟨⟨xs, hq⟩, q⟩ | ⟨⟨xs, hq⟩, q⟩
 ·obtain ⟨its, rv, p, hz⟩ := I1.list hq
  refine wpAny_pyIter_list p.isList ⟨s1.heap.objs.size, [s1.heap.objs.size], _, _, H1, rfl, I1.kept (t' := s1.toks) fun b o e => Heap.get?_push_of_some _ e, AD a _, ⟨_, Heap.get?_push_size _ rfl, rfl, rfl⟩, fun b hb => ?_, q⟩
  rw [List.mem_singleton.mp hb]
  exact I1.fpOk (Nat.le_refl _) I1.fresh
 ·obtain ⟨its, rv, p, hz⟩ := I1.tuple hq
  refine wpAny_pyIter_tuple (show s1.heap.IsTuple a its.toArray from p) ⟨s1.heap.objs.size, [s1.heap.objs.size], _, _, H1, rfl, I1.kept (t' := s1.toks) fun b o e => Heap.get?_push_of_some _ e, yX a _, ⟨_, Heap.get?_push_size _ rfl, rfl, rfl⟩, fun b hb => ?_, q⟩
  rw [List.mem_singleton.mp hb]
  exact I1.fpOk (Nat.le_refl _) I1.fresh
end
section
variable {X : Cx} {tg : Expr}
theorem tO : ∀ {vs : List Value} {ns : List Int}, IntsAre vs ns -> Vals (ns.map V.int) vs
 | _, _, .nil => .nil
 | _, _, .cons n t h => .cons ⟨t, rfl⟩ (tO h)
theorem call_sortedI : CallR X (.builtin "sorted") (xH X.K) := by
 intro pins s σ H xs us Q I r h
 obtain ⟨p, ns, rfl, hS, h64, k⟩ := h
 obtain ⟨u, rfl, ru⟩ := r.one
 cases ru
 obtain ⟨its, rv, pl, hz⟩ := I.list hS
 have hI : IntsAre its ns := lN rv
 have hl : its.length = ns.length := by have := rv.length; rw [List.length_map] at this; exact this.symm
 refine Srt.uW pl.isList hI (by rw [sizeLine_eq]; lia) fun out ms ho perm pw => ?_
 obtain ⟨e, at1⟩ := sortedAll_at s.heap its out
 have fresh : s.heap.objs.size <= s.heap.objs.size + 1 := Nat.le_succ _
 refine ⟨.ref (s.heap.objs.size + 1), upd H (s.heap.objs.size + 1) (.lst (ms.map V.int)), I.laid (t' := s.toks) (fun b o hb => sortedAll_old hb) fresh ?_, rfl, k ms _ perm pw (I.hok.fresh fresh)⟩
 exact ⟨by rw [List.length_map, perm.length_eq, sizeLine_eq]; lia, out.toList, e, tO ho, by simpa using at1⟩
theorem mR (hc : X.calm = true) : CallR X (.builtin "sum") (Fd X.K) := by
 intro pins s σ H xs us Q I r h
 obtain ⟨p, ns, rfl, hS, q⟩ := h
 obtain ⟨u, rfl, ru⟩ := r.one
 cases ru
 obtain ⟨its, rv, pl, hz⟩ := I.list hS
 have hI : IntsAre its ns := lN rv
 obtain ⟨ys, e⟩ := hI.allInts.items
 have hl := pl.isList
 have en : ns = ys.toList.map (·.1) := by
  rw [<- nums_intItems, <- e]
  simpa using hI.numsOf.symm
 rw [e] at hl
 refine sum_intListG (I.ok.hd hc) hl fun h' tk t' hk => ⟨.int ns.sum, H, I.kept hk, ⟨t', ?_⟩, q⟩
 rw [preSum_eq, List.take_of_length_le (by simp), en]
end
end L2
namespace HT
open PySem PySem.Spec PyProof.Rows
section
variable {prog : Program} {w : World} {A : Around} {E : Value -> Shared -> Prop} {s : Shared}
end
end HT
namespace L2
open PySem PySem.Spec PyProof.Rows M
theorem Inv.rdl {X : Cx} {pins : List (Addr × Obj)} {σ : St} {H : Hp} {s : Shared} {l : Addr} {xs : List V} (I : Inv X pins σ H s) (h : Rd H l (.lst xs)) : xs.length <= sizeLine /\ ∃ (its : List Value) (n : Nat), Vals xs its /\ xs.length = its.length /\ s.heap.get? l = some { cls := .type "list", data := .seq its.toArray n } := by
 obtain ⟨h1, its, n, r, e⟩ := (show ObjOk X.prog X.w H s.heap l (.lst xs) from h.ok I.hok)
 exact ⟨h1, its, n, r, r.length, e⟩
section
variable {X : Cx}
theorem op_catM : OpR X (binaryOp .Add) E9 := by
 intro pins s σ H x y v u Q I rx ry h
 obtain ⟨l, b, xs, zs, rfl, rfl, hH, hB, hz, q⟩ := h
 cases rx
 cases ry
 obtain ⟨z, its, n, r, hl, e⟩ := I.rdl hH
 obtain ⟨z2, its2, n2, r2, hl2, e2⟩ := I.rdl hB
 refine PySem.P.add_list e e2 ?_ (by rw [List.size_toArray, List.size_toArray]; lia)
 have ea : its.toArray ++ its2.toArray = (its ++ its2).toArray := by simp
 rw [ea]
 exact ⟨.ref _, _, I.lnew (t' := s.toks) (r.append r2) (by rw [List.length_append]; lia), rfl, q _ I.fresh⟩
theorem op_tupM : OpR X (binaryOp .Add) (Fn X.K) := by
 intro pins s σ H x y v u Q I rx ry h
 obtain ⟨a, b, xs, ys, rfl, rfl, ha, hb, hz, q1, q2, q⟩ := h
 cases rx
 cases ry
 obtain ⟨its, r1, p1, _⟩ := I.tuple ha
 obtain ⟨its2, r2, p2, _⟩ := I.tuple hb
 have hz2 : its.length + its2.length <= sizeLine := by rw [<- r1.length, <- r2.length]; exact hz
 by_cases hv : its = []
 ·have hx : xs = [] := r1.nil_iff.mp hv
  obtain ⟨⟨cls, dd, data, sl⟩, ho, hc, n, hd⟩ := id p1
  obtain ⟨⟨cls2, dd2, data2, sl2⟩, ho2, hc2, n2, hd2⟩ := id p2
  simp only at hc hd hc2 hd2; subst hc hd hc2 hd2
  exact concat_meets ⟨_, ho, rfl⟩ ⟨_, ho2, rfl⟩ noFill_tuple_add seq_tuple_add PySem.F.slot_tuple_add PySem.F.entry_tuple_add (PySem.F.args_tuple_add_2 (.ref a) (.ref b)) (tuple_addW0 a b its.toArray its2.toArray n n2 dd dd2 sl sl2 (by simp [hv])) ⟨ho, ho2, ⟨.ref b, H, I, rfl, q2 hx⟩⟩
 ·refine HT.EX p1 p2 hv (fun z => ⟨.ref a, H, I, rfl, q1 (r2.nil_iff.mp z)⟩) (fun z => ?_) hz2
  refine ⟨.ref s.heap.objs.size, _, I.laid (t' := s.toks) (o := .tup (xs ++ ys)) (fun b ob e => Heap.get?_push_of_some _ e) (Nat.le_refl _) ?_, rfl, q _ (I.hok.fresh (Nat.le_refl _))⟩
  exact ⟨by rw [List.length_append]; exact hz, _, r1.append r2, IsTup.new _ _⟩
theorem EW : OpR X (binaryOp .Add) Fc := yb
theorem aX : OpR X (binaryOp .Add) (Fe X.K) := op_add.or (op_catM.or (op_tupM.or EW))
mutual
def pyD : D -> PyData
 | .non => .none
 | .bl b => .bool b
 | .int i => .int i
 | .str x => .str x
 | .lst l => .list (pyDs l)
 | .tup l => .tuple (pyDs l)
 | _ => .none
def pyDs : List D -> List PyData
 | [] => []
 | d :: l => pyD d :: pyDs l
end
mutual
theorem pN : ∀ (n : Nat) (d : D), okD n d = true -> (pyD d).canLay0 = true /\ (pyD d).depth <= n
 | _, .non, _ => by simp [pyD, PyData.canLay0, PyData.depth]
 | _, .bl _, _ => by simp [pyD, PyData.canLay0, PyData.depth]
 | _, .int _, _ => by simp [pyD, PyData.canLay0, PyData.depth]
 | n, .str x, h => by
  have h' : PyData.strOk x = true := by cases n <;> simpa [okD] using h
  simp [pyD, PyData.canLay0, PyData.depth, h']
 | 0, .lst l, h => by simp [okD] at h
 | n + 1, .lst l, h => by
  obtain ⟨a, b⟩ := vz n l (by simpa [okD] using h)
  simp only [pyD, PyData.canLay0, PyData.depth]
  exact ⟨a, by lia⟩
 | 0, .tup l, h => by simp [okD] at h
 | n + 1, .tup l, h => by
  obtain ⟨a, b⟩ := vz n l (by simpa [okD] using h)
  simp only [pyD, PyData.canLay0, PyData.depth]
  exact ⟨a, by lia⟩
 | n, .ty _, h => by cases n <;> simp [okD] at h
 | n, .scr _, h => by cases n <;> simp [okD] at h
 | n, .ins _ _ _, h => by cases n <;> simp [okD] at h
theorem vz : ∀ (n : Nat) (l : List D), okDs n l = true -> PyData.canLayAll0 (pyDs l) = true /\ PyData.depthAll (pyDs l) <= n
 | _, [], _ => by simp [pyDs, PyData.canLayAll0, PyData.depthAll]
 | n, d :: l, h => by
  rw [okDs, Bool.and_eq_true] at h
  obtain ⟨a, b⟩ := pN n d h.1
  obtain ⟨c, e⟩ := vz n l h.2
  simp only [pyDs, PyData.canLayAll0, PyData.depthAll, a, c]
  exact ⟨rfl, by lia⟩
end
mutual
theorem x6 : ∀ (n m : Nat) (d e : D), okD n d = true -> okD m e = true -> PyData.eqv (pyD d) (pyD e) = eqD d e
 | n, m, .non, e, _, he => by cases e <;> first | (simp [pyD, PyData.eqv, eqD]; done) | (cases m <;> simp [okD] at he)
 | n, m, .bl _, e, _, he => by cases e <;> first | (simp [pyD, PyData.eqv, eqD]; done) | (cases m <;> simp [okD] at he)
 | n, m, .int _, e, _, he => by cases e <;> first | (simp [pyD, PyData.eqv, eqD]; done) | (cases m <;> simp [okD] at he)
 | n, m, .str _, e, _, he => by cases e <;> first | (simp [pyD, PyData.eqv, eqD]; done) | (cases m <;> simp [okD] at he)
 | 0, m, .lst _, e, hd, he => by simp [okD] at hd
 | n + 1, m, .lst l, e, hd, he => by
  cases e with
  | lst l' =>
   cases m with
   | zero => simp [okD] at he
   | succ m =>
    simp only [pyD, PyData.eqv, eqD]
    exact eqvs_is n m l l' (by simpa [okD] using hd) (by simpa [okD] using he)
  | _ => first | (simp [pyD, PyData.eqv, eqD]; done) | (cases m <;> simp [okD] at he)
 | 0, m, .tup _, e, hd, he => by simp [okD] at hd
 | n + 1, m, .tup l, e, hd, he => by
  cases e with
  | tup l' =>
   cases m with
   | zero => simp [okD] at he
   | succ m =>
    simp only [pyD, PyData.eqv, eqD]
    exact eqvs_is n m l l' (by simpa [okD] using hd) (by simpa [okD] using he)
  | _ => first | (simp [pyD, PyData.eqv, eqD]; done) | (cases m <;> simp [okD] at he)
 | n, _, .ty _, _, h, _ => by cases n <;> simp [okD] at h
 | n, _, .scr _, _, h, _ => by cases n <;> simp [okD] at h
 | n, _, .ins _ _ _, _, h, _ => by cases n <;> simp [okD] at h
theorem eqvs_is : ∀ (n m : Nat) (l l' : List D), okDs n l = true -> okDs m l' = true -> PyData.eqvAll (pyDs l) (pyDs l') = eqDs l l'
 | _, _, [], [], _, _ => by simp [pyDs, PyData.eqvAll, eqDs]
 | _, _, [], _ :: _, _, _ => by simp [pyDs, PyData.eqvAll, eqDs]
 | _, _, _ :: _, [], _, _ => by simp [pyDs, PyData.eqvAll, eqDs]
 | n, m, d :: l, e :: l', hd, he => by
  rw [okDs, Bool.and_eq_true] at hd he
  rw [pyDs, pyDs, PyData.eqvAll, eqDs, x6 n m d e hd.1 he.1, eqvs_is n m l l' hd.2 he.2]
end
mutual
theorem ii {pins : List (Addr × Obj)} {σ : St} {H : Hp} {s : Shared} (I : Inv X pins σ H s) : ∀ (n : Nat) {d : D} {x : V} {v : Value}, okD n d = true -> Den X.K H d x -> RelV x v -> ∃ as, Reads s.heap v (pyD d) as
 | _, .non, x, v, _, dx, r => by rw [den_non.mp dx] at r; cases r; exact ⟨_, .none⟩
 | _, .bl b, x, v, _, dx, r => by rw [den_bl.mp dx] at r; cases r; exact ⟨_, .bool b⟩
 | _, .int i, x, v, _, dx, r => by rw [den_int.mp dx] at r; obtain ⟨t, rfl⟩ := r; exact ⟨_, .int i t⟩
 | _, .str y, x, v, _, dx, r => by rw [den_str.mp dx] at r; obtain ⟨t, rfl⟩ := r; exact ⟨_, .str y t⟩
 | 0, .lst _, x, v, h, dx, r => by simp [okD] at h
 | n + 1, .lst l, x, v, h, dx, r => by
  obtain ⟨p, xs, rfl, hp, ds⟩ := den_lst.mp dx
  cases r
  obtain ⟨_, its, k, rv, _, e⟩ := I.rdl hp
  obtain ⟨as, ra⟩ := dens_reads I n (by simpa [okD] using h) ds rv
  exact ⟨_, .list e rfl rfl (by simpa using ra)⟩
 | 0, .tup _, x, v, h, dx, r => by simp [okD] at h
 | n + 1, .tup l, x, v, h, dx, r => by
  obtain ⟨p, xs, rfl, hp, ds⟩ := iu dx
  cases r
  obtain ⟨its, rv, ⟨o, e, c, k, d⟩, _⟩ := I.tuple hp
  obtain ⟨as, ra⟩ := dens_reads I n (by simpa [okD] using h) ds rv
  exact ⟨_, .tuple e c d (by simpa using ra)⟩
 | n, .ty _, _, _, h, _, _ => by cases n <;> simp [okD] at h
 | n, .scr _, _, _, h, _, _ => by cases n <;> simp [okD] at h
 | n, .ins _ _ _, _, _, h, _, _ => by cases n <;> simp [okD] at h
theorem dens_reads {pins : List (Addr × Obj)} {σ : St} {H : Hp} {s : Shared} (I : Inv X pins σ H s) : ∀ (n : Nat) {ds : List D} {xs : List V} {vs : List Value}, okDs n ds = true -> Dens X.K H ds xs -> Vals xs vs -> ∃ as, ReadsAll s.heap vs (pyDs ds) as
 | _, [], xs, vs, _, d, r => by
  rw [d.nil_of] at r
  cases r
  exact ⟨_, .nil⟩
 | n, d :: ds, xs, vs, h, dd, r => by
  rw [okDs, Bool.and_eq_true] at h
  obtain ⟨y, ys, rfl, a, b⟩ := dd.cons_of
  cases r with
  | cons r rr =>
   obtain ⟨as, ra⟩ := ii I n h.1 a r
   obtain ⟨bs, rb⟩ := dens_reads I n h.2 b rr
   exact ⟨_, .cons ra rb⟩
end
theorem jj (hu : X.A.units + 64 < cLine) : OpR X (compareOp .Eq) (FN X.K false) := by
 intro pins s σ H x y v u Q I rx ry h
 obtain ⟨S, d, e, sm, dx, dy, cd, ce, q⟩ := h
 obtain ⟨as, ra⟩ := ii I 50 cd (pP sm dx) rx
 obtain ⟨bs, rb⟩ := ii I 50 ce (pP sm dy) ry
 obtain ⟨a1, a2⟩ := pN 50 d cd
 obtain ⟨b1, b2⟩ := pN 50 e ce
 have hm := Nat.min_le_left (pyD d).depth (pyD e).depth
 refine SeqAt.compareEq_reads ra rb a1 b1 (by lia) ⟨.bl _, H, I, rfl, ?_⟩
 rw [x6 50 50 d e cd ce]
 exact q
theorem lG (hu : X.A.units + 64 < cLine) : OpR X (compareOp .NotEq) (FN X.K true) := by
 intro pins s σ H x y v u Q I rx ry h
 obtain ⟨S, d, e, sm, dx, dy, cd, ce, q⟩ := h
 obtain ⟨as, ra⟩ := ii I 50 cd (pP sm dx) rx
 obtain ⟨bs, rb⟩ := ii I 50 ce (pP sm dy) ry
 obtain ⟨a1, a2⟩ := pN 50 d cd
 obtain ⟨b1, b2⟩ := pN 50 e ce
 have hm := Nat.min_le_left (pyD d).depth (pyD e).depth
 refine SeqAt.compareNe_reads ra rb a1 b1 (by lia) ⟨.bl _, H, I, rfl, ?_⟩
 rw [x6 50 50 d e cd ce]
 exact q
theorem fS : CallR X (.builtin "len") (Fi X.K) := DC
theorem oZ : MtM X "list.extend" rExtM := by
 intro pins s σ H x vs v us Q I rx rv h
 obtain ⟨l, b, xs, zs, rfl, rfl, hH, hB, hz, q⟩ := h
 cases rx
 obtain ⟨u, rfl, ru⟩ := rv.one
 cases ru
 obtain ⟨z, its, n, r, hl, e⟩ := I.lstM hH
 obtain ⟨z2, its2, n2, r2, hl2, e2⟩ := I.rdl hB
 have hsz : its.toArray.size + its2.toArray.size <= sizeLine := by rw [List.size_toArray, List.size_toArray]; lia
 have hlong : ¬ (!its.toArray.isEmpty && Builtin.List.listTooLong (its.toArray.size + its2.toArray.size)) = true := by
  rw [Dp hsz, Bool.and_false]
  exact Bool.false_ne_true
 refine call_meets F.slot_list_extend ⟨_, e, rfl⟩ F.entry_list_extend (F.args_list_extend_2 _ _)
  (AutoSeq1.list_extend_list_list_0 l its.toArray n b its2.toArray n2 hlong (by rw [List.size_toArray]; lia) (by lia)) ⟨e, e2, ?_⟩
 refine ⟨.non, _, I.lset (its' := its ++ its2) hH e (by simp) (r.append r2) ?_, rfl, q⟩
 rw [List.length_append]
 lia
theorem yV : CallR X (.builtin "sorted") (B2 X.K) := by
 intro pins s σ H xs us Q I r h
 obtain ⟨p, yks, rfl, hS, h64, hk, k⟩ := h
 obtain ⟨u, rfl, ru⟩ := r.one
 cases ru
 obtain ⟨its, rv, pl, hz⟩ := I.list hS
 have hl : yks.length = its.length := by rw [<- rv.length, List.length_map]
 have atI : ∀ i, i < its.length -> ∃ yk, yks[i]? = some yk /\ yks.getD i (.non, []) = yk /\ RelV yk.1 (its.getD i Value.none) := fun i hi => by
  have ey : yks[i]? = some yks[i] := List.getElem?_eq_getElem (by lia)
  have ex : (yks.map (·.1))[i]? = some yks[i].1 := by rw [List.getElem?_map, ey]; rfl
  obtain ⟨v, ev, rl⟩ := rv.get ex
  exact ⟨_, ey, by rw [List.getD_eq_getElem?_getD, ey]; rfl, by rw [List.getD_eq_getElem?_getD, ev]; exact rl⟩
 have tup : ∀ i, i < its.length -> Srt.Hm s.heap (its.getD i Value.none) (yks.getD i (.non, [])).2 /\ (yks.getD i (.non, [])).2 ≠ [] := fun i hi => by
  obtain ⟨yk, e1, e2, rl⟩ := atI i hi
  obtain ⟨q, e3, e4, e5⟩ := hk _ (List.mem_of_getElem? e1)
  rw [e2]
  refine ⟨?_, e5⟩
  rw [e3] at rl
  have rl' : its.getD i Value.none = Value.ref q := rl
  obtain ⟨js, rj, ⟨o, ho, hc, n, hd⟩, _⟩ := I.tuple e4
  refine ⟨q, o, js.toArray, n, rl', ho, hc, hd, ?_⟩
  simpa using lN rj
 refine Srt.ue (Srt.CL fun i => (yks.getD i (.non, [])).2) pl.isList (by rw [sizeLine_eq]; lia) (Srt.yQ tup) fun q hq ha => ?_
 obtain ⟨pv, pw⟩ := Srt.yh (vs := its) (d := Value.none) hq ha
 rw [<- hl] at hq ha
 obtain ⟨py, wy⟩ := Srt.yh (vs := yks) (d := ((V.non, []) : V × List Int)) hq ha
 obtain ⟨e, at1⟩ := sortedAll_at s.heap its (Srt.jD its q)
 have hv : Vals ((q.toList.map fun i => yks.getD i (.non, [])).map (·.1)) (q.toList.map fun i => its.getD i Value.none) := by
  have hb : ∀ i ∈ q.toList, i < its.length := fun i hi => by
   have : i < yks.length := by simpa using (Array.perm_iff_toList_perm.mp hq).mem_iff.mp hi
   lia
  revert hb
  generalize q.toList = L
  induction L with
  | nil => exact fun _ => .nil
  | cons i L ih =>
   intro hb
   refine .cons ?_ (ih fun j hj => hb j (List.mem_cons_of_mem _ hj))
   obtain ⟨yk, _, e2, rl⟩ := atI i (hb i List.mem_cons_self)
   dsimp only
   rw [e2]
   exact rl
 have fresh : s.heap.objs.size <= s.heap.objs.size + 1 := Nat.le_succ _
 refine ⟨.ref (s.heap.objs.size + 1), upd H (s.heap.objs.size + 1) (.lst ((q.toList.map fun i => yks.getD i (.non, [])).map (·.1))), I.laid (t' := s.toks) (fun b o hb => sortedAll_old hb) fresh ?_, rfl, ?_⟩
 ·refine ⟨by rw [List.length_map, py.length_eq, sizeLine_eq]; lia, _, e, hv, at1⟩
 ·refine k _ _ py (wy _ fun i j _ _ h => ?_) (I.hok.fresh fresh)
  rw [<- wT]
  exact h
theorem i9 : CallR X (.builtin "sorted") (vJ X.K) := call_sortedI.or yV
end
end L2
namespace M
def HG (a : List Int) (k : Int) : List Int := if a.any (· == k) then a else a ++ [k]
def IL (ns : List Int) : List Int := ns.foldl HG []
end M
namespace L2
open PySem
section
variable {X : Cx}
end
end L2
namespace M
open PySem L2
section
variable {K : W.Frag}
def tG (K : W.Frag) (d : D) : TE := fun _ H Q => ∀ v, (∀ S, Den K S d v) -> Q v H
theorem s_g {d : D} : SE K (tG K d) (xC d) := fun ρ σ S H Q e r x k v hv => by
 cases x
 exact k v S H (Ext.refl r.sub) (hv S)
end
end M
namespace L2
open PySem M
theorem mO {X : _} {x : Str} {v : V} {u : Value} {pos : Pos} {K : W.Frag} {d : D} (hg : Gl X x) (hm : X.mg x = some u) (r : RelV v u) (hD : ∀ S, Den K S d v) (hd : (x == ("__debug__" : Str)) = false := by decide) : PE X (.Name x pos) (tG K d) :=
 fun a b c H Q I h => o3 hg hm r hd a b c H Q I (h v hD)
end L2
namespace M
open PySem L2
@[simp] def Ic (a : XE) : XE := fun ρ => (a ρ).bind fun d => match d with | .lst l => (bD l).bind fun ns => if ns.length < 4000 then some (.int ((IL ns).length : Nat)) else none | _ => none
end M
namespace L2
open PySem
section
variable {X : Cx} {o e : Expr} {es : List Expr} {f m : Str} {pos apos p : Pos} {ta : TE} {t : TA} {Ns : List Str} {k : Nat} {g C : Addr} {fd : FuncData} {ps : List Str} {sp : Sp}
end
end L2
namespace M
open PySem L2
section
variable {K : W.Frag} {S S' H H' : Hp}
def Ho : List Str -> List D -> Str -> Option D
 | n :: ns, d :: l, f => if f = n then some d else Ho ns l f
 | _, _, _ => none
@[simp] def KA (Ns : List Str) (f : Str) (e : XE) : XE := fun ρ => (e ρ).bind fun d => match d with | .ins N ns l => if Ns.contains N then Ho ns l f else none | _ => none
@[simp] def JZ (Ns : List Str) (m : Str) (g : List D -> Option D) (e : XE) (a : XA) : XE := fun ρ => (e ρ).bind fun d => match d with | .ins N ns l => if Ns.contains N && !ns.contains m then (a ρ).bind fun ds => g (.ins N ns l :: ds) else none | _ => none
@[simp] def Kc (N f : Str) (mi : List D -> Option D) (a : XA) : XE := fun ρ => ((a ρ).bind mi).map fun d => .ins N [f] [d]
end
end M
namespace M
end M
namespace L2
open PySem PySem.Spec PyProof.Rows
section
variable {prog : Program} {w : World} {A : Around} {E : Value -> Shared -> Prop} {s : Shared}
end
section
variable {X : Cx}
end
end L2
namespace M
open PySem L2
section
variable {K : W.Frag}
end
end M
namespace L2
open PySem
theorem eK {XN : List Str} {sc scope : Scope} {N : List Str} {js : List (Option Nat)} (h1 : scope.kind = .function := by rfl) (h2 : ∀ y ∈ scope.names, y.2 ≠ .cell := by decide +kernel) (h3 : ∀ y ∈ scope.names, y.2 = .free -> sc.names.lookup y.1 = some .cell \/ sc.names.lookup y.1 = some .free := by decide +kernel)
  (h4 : ∀ y ∈ scope.names, y.2 = .local -> scope.names.lookup y.1 = some .local := by decide +kernel) (h5 : js.length = N.length := by rfl) (h6 : ((N.zip js).all fun p => match p.2 with | none => true | some j => decide (XN[j]? = some p.1) && decide (scope.names.lookup p.1 = some .free)) = true := by decide +kernel) : CmpOk XN sc scope N js := ⟨h1, h2, h3, h4, h5, h6⟩
end L2
namespace M
open PySem L2
def wD : D -> D -> Option D := dI fun i j => ifC (0 <= i /\ 0 <= j) (some (.int ((i.toNat &&& j.toNat : Nat) : Int))) none
@[simp] def uQ (m : List D -> Option D) (e : D) (a : XA) : XE := fun ρ => (a ρ).bind fun ds => m (ds ++ [e])
section
variable {K : W.Frag}
theorem Cp : SR2 K (rI0 fun i j => .int (Builtin.bitAnd i j)) wD := Ah fun i j d h => by
 obtain ⟨c, rfl⟩ := iy h
 show some (V.int _) = some (V.int _)
 have e1 : decide (0 <= i) = true := decide_eq_true c.1
 have e2 : decide (0 <= j) = true := decide_eq_true c.2
 unfold Builtin.bitAnd
 rw [e1, e2]
theorem zz {n : Nat} {m : List D -> Option O} {E : XK} {t : TA} {a : XA} {e : D} {v : V} (hv : mw e = some v) (h : SA K t a) (hn : ∀ ρ ds, a ρ = some ds -> ds.length = n) : SE K (uk (ic K (n + 1) m) [v] E t) (uQ (fun ds => (m ds).map O.d) e a) := fun ρ σ S H Q d r x k => by
 unfold uQ at x
 cases q : a ρ with
 | none => rw [q] at x; cases x
 | some ds =>
  rw [q] at x
  dsimp only [Option.bind] at x
  cases qg : m (ds ++ [e]) with
  | none => rw [qg] at x; cases x
  | some o =>
   rw [qg] at x
   cases x
   refine h ρ σ S H _ ds r q fun vs S1 H1 z1 d1 => ?_
   refine ⟨by rw [List.length_append, <- d1.length, hn ρ ds q]; rfl, S1, ds ++ [e], o, z1.sub, d1.append (.cons (jY hv) .nil), qg, fun v fp S3 H3 z3 ow nd fr => ?_⟩
   exact k v _ H3 (z1.trans (xT z3 fr)) (ow.den (kx fun b hb => (fr b hb).2) fun b hb => o9 hb)
end
end M
namespace L2
open PySem
structure FunD (K : W.Frag) (x qual : Str) (st : Stmt) (T : Addr) (f : Addr) (fd : FuncData) : Prop where
 ex : ∃ (oc : Value) (od : Option Addr) (kV doc pm : Value) (an : Option Addr) (cdv ct : Value) (osl : Array (Option Value)), fd = W.fnOf x qual (ba st) (aW st) (ak st) (.ref T) kV doc pm an cdv ct /\ K.lookup f = some ⟨oc, od, .func fd, osl⟩ /\ W.codeIn K cdv qual = true
section
variable {P : Program} {w : World} {K : W.Frag} {mg : Str -> Option Value} {base : Heap}
theorem FunD.ok {x qual : Str} {st : Stmt} {T f : Addr} {fd : FuncData} {N ps : List Str} {k : Nat} {sp : Sp} (F : FunD K x qual st T f fd) (S : FnScope N ps (ak st)) (len : ∀ vs H Q E, sp vs H Q E -> vs.length = ps.length)
  (hb : ∀ (cdv : Value) (A : Around) (outer : List Env) (s : Shared) (H : Hp) (vs : List V) (Q : VK) (E : XK), Room k (A.deeper (PyProof.Rows.envOfC qual (ak st) s.heap.objs.size f cdv)) -> sp vs H Q E -> ∃ t, PSs (kF CX0 P w K mg base N qual (ak st) f cdv A outer s H E).nox (aW st) t /\ t { nx := fun _ H' => Q .non H', rt := Q } (aG N vs) H) : FnOk P w K mg base CX0 (k + 1) f fd ps sp := by
 obtain ⟨oc, od, kV, doc, pm, an, cdv, ct, osl, rfl, lk, hcd⟩ := F.ex
 exact ze lk hcd S len fun A outer s H vs Q E hr hsp => by obtain ⟨t, h, q⟩ := hb cdv A outer s H vs Q E hr hsp; exact ⟨t, h.nox, q⟩
end
end L2
namespace L2
open PySem PySem.Spec PyProof.Rows
section
variable {X : Cx} {pins : List (Addr × Obj)} {σ : St} {H : Hp} {s : Shared} {XN N : List Str} {sc scope : Scope} {js : List (Option Nat)}
variable {tg iter elt : Expr} {ifs : List Expr} {pos : Pos} {wi : TI} {g : TG} {tt : TIf} {te : TE}
end
end L2
namespace RevT
open PySem PySem.Calls PyProof.Rows
section
variable {prog : Program} {w : World} {A : Around} {E : Value -> Shared -> Prop} {s : Shared}
end
end RevT
namespace L2
open PySem PySem.Spec PyProof.Rows
section
variable {X : Cx} {tg : Expr}
end
end L2
namespace M
open PySem L2
section
variable {K : W.Frag} {S S' H H' : Hp}
def II : List D -> Option (List D)
 | [.tup l] => some l.reverse | _ => none
@[simp] def JD (a : XA) : XA := fun ρ => (a ρ).bind II
end
end M
namespace L2
open PySem
section
variable {X : Cx} {e : Expr} {pos p p' : Pos} {ta : TE} {T : Addr} {N : Str} {ans : List (Str × Bool)}
end
end L2
namespace M
open PySem L2
section
variable {K : W.Frag} {S S' H H' : Hp}
@[simp] def JR (ans : List (Str × Bool)) (e : XE) : XE := fun ρ => (e ρ).bind fun d => match d with | .ins N _ _ => (ans.lookup N).map .bl | _ => none
end
end M
namespace L2
open PySem PySem.Spec PyProof.Rows Builtin Builtin.ObjectAttr Builtin.Getset_descriptor
def XAt (C a : Addr) (h : Heap) : Prop := ∃ o vs, h.get? a = some o /\ o.cls = .ref C /\ o.data = .fields vs
abbrev wB (C a : Addr) : HO := .ext (XAt C a)
structure XCls (K : W.Frag) (C : Addr) : Prop where
 cl : W.hasDictIn K C = true
 ga : W.findIn K (.ref C) "__getattribute__" = some (some (.builtin "BaseException.__getattribute__"))
 gx : W.findIn K (.ref C) "__getattr__" = some none
 ca : W.findIn K (.ref C) "__class__" = some (some (.builtin "object.__class__"))
 hn : W.specialIn K (.builtin "object.__class__") "__get__" = some (some (.builtin "getset_descriptor.__get__"))
 tk : W.takesIn K (.builtin "object.__class__") = some true
 ob : W.mroIn K C (.type "object") = some true
 be : W.mroIn K C (.type "BaseException") = some true
section
variable {prog : Program} {w : World} {A : Around} {E : Value -> Shared -> Prop} {s : Shared} {K : W.Frag} {C a : Addr}
theorem XAt.type {M : Model} {h : Heap} (x : XAt C a h) : W.Looks M h (typeOf (.ref a)) (.ref C) := by
 obtain ⟨o, vs, e, c, d⟩ := x
 exact c ▸ (W.Looks.ld e).andThen .now
theorem C9 {M : Model} {h : Heap} (X : K.In h) (c : XCls K C) : W.Looks M h (find (.ref a) (.ref C) "__class__") (.bind (.builtin "getset_descriptor.__get__") (.builtin "object.__class__")) := by
 refine (W.looks_findIn (M := M) X c.ca).andThen ((show W.Looks M h (getOf (some (.builtin "object.__class__"))) (some (.builtin "getset_descriptor.__get__")) from W.looks_specialIn X c.hn).andThen ?_)
 exact (show W.Looks M h (dataDescriptor? (some (.builtin "object.__class__")) (some (.builtin "getset_descriptor.__get__"))) (some (.builtin "getset_descriptor.__get__", .builtin "object.__class__")) from (W.looks_takesIn (M := M) X c.tk).andThen .now).andThen (W.Looks.tag .now)
theorem sr {tp : Value} {R : Result -> Shared -> Prop} (X : K.In s.heap) (c : XCls K C) (x : XAt C a s.heap) (h : R (.ok (.ret (.ref C))) s) :
  codeAny (model prog w) A (.call (.builtin "getset_descriptor.__get__") ⟨[.builtin "object.__class__", .ref a, tp], []⟩) R s := by
 obtain ⟨hp, gn, dr, tt, oss⟩ := s
 have T0 := x.type (M := model prog w)
 have T1 := W.looks_mroIn (M := model prog w) X c.ob
 refine codeAny_call_builtin W.KF.slot_gs.plain W.KF.entry_gs (W.KF.slot_gs.check _ _ _ _ _ _ _ _ W.KF.type_class (W.KF.args_gs _ _ _) ?_)
 unfold Builtin.«getset_descriptor.__get__» descrGet
 rw [W.dga_obj]
 refine wpAny_bind (wpAny_pure ?_)
 unfold descrGetter descrCheckInstance descrNameAndClass isInstance
 simp only [W.KF.owner_class]
 repeat lk
 refine ⟨Code.quiet_builtin _ (by decide +kernel), codeAny_builtin W.KF.entry_class ?_⟩
 unfold Builtin.«object.__class__» shownTypeOf
 repeat lk
 exact h
theorem vm {nv : Value} {Q : Unit -> Shared -> Prop} {M : Model} (X : K.In s.heap) (c : XCls K C) (x : XAt C a s.heap) (h : Q () s) : wpAny M A (checkBuiltinCall "BaseException.__getattribute__" ⟨[.ref a, nv], []⟩) Q E s := by
 obtain ⟨hp, gn, dr, tt, oss⟩ := s
 have T0 := x.type (M := M)
 have T1 := W.looks_mroIn (M := M) X c.be
 have kk : builtinKind "BaseException.__getattribute__" = some .slot := by decide +kernel
 have sp : splitId "BaseException.__getattribute__" = some ("BaseException", "__getattribute__") := by decide +kernel
 have ar := F.args_bexc_ga (.ref a) nv
 simp only [checkBuiltinCall, kk, sp]
 refine wpAny_bind ?_
 unfold isInstance
 repeat (first | lk | wp_step)
 exact h
theorem zS {Q : Option Value -> Shared -> Prop} (X : K.In s.heap) (c : XCls K C) (x : XAt C a s.heap) (h : Q (some (.ref C)) { s with toks := s.toks + 1 }) : wpAny (model prog w) A (getAttr? (.ref a) "__class__") Q E s := by
 obtain ⟨hp, gn, dr, tt, oss⟩ := s
 have T0 := x.type (M := model prog w)
 have T1 := W.looks_findIn (M := model prog w) X c.ga
 have T2 := W.looks_findIn (M := model prog w) X c.gx
 have T3 := C9 (M := model prog w) (a := a) X c
 unfold getAttr? getAttrBy? getAttrBy
 refine wpAny_bind (wpAny_mkText (wpAny_bind (wpAny_attempt (wpAny_holding (wpAny_bind (T0.at (wpAny_bind (T1.at ?_))))))))
 show wpAny _ _ (getAttrByItsOwn _ _ _ _ _ _) _ _ _
 unfold getAttrByItsOwn hookBefore
 refine wpAny_bind (T2.at ?_)
 refine wpAny_bind (wpAny_attempt (wpAny_holding ?_))
 show wpAny _ _ (boundAndCalled _ _ _) _ _ _
 have hbd := PySem.F.attr_ValueError.ga.bind (.ref a)
 unfold boundAndCalled
 rw [hbd]
 refine wpAny_bind (wpAny_pure ?_)
 refine wpAny_call (codeAny_call_builtin PySem.F.attr_ValueError.ga.plain F.entry_bexc_ga (vm X c x ?_))
 unfold Builtin.«object.__getattribute__»
 repeat (first | with_reducible refine wpAny_call ?_ | lk | wp_step)
 refine sr (s := ⟨hp, gn, dr, tt + 1, oss⟩) X c x ?_
 refine wpAny_pure (wpAny_pure ?_)
 exact wpAny_pure h
theorem CN (c : XCls K C) : W.KitX K (.ref a) (.ref C) (XAt C a) where
 ty := fun _ _ _ x => x.type
 it := fun M h X _ => by
  obtain ⟨cd, hc, _⟩ := W.any_some c.cl
  unfold W.clsIn at hc
  split at hc
  ·rename_i ho
   intro A' Q' E' s' k q
   unfold isType loadHead
   exact wpAny_bind (wpAny_loadPart (k _ _ (X _ _ ho)) (wpAny_pure q))
  ·cases hc
 ne := fun h tp dd its n sl X htp => by
  obtain ⟨cd, hc, _⟩ := W.any_some c.cl
  refine Bool.eq_false_iff.mpr fun q => ?_
  obtain rfl : C = tp := Value.ref.inj (beq_iff_eq.mp q)
  unfold W.clsIn at hc
  split at hc
  ·rename_i ho
   have z := (X _ _ ho).symm.trans htp
   cases z
  ·cases hc
 ca := fun X x k => zS X c x k
end
end L2
namespace L2
open PySem PySem.Spec PyProof.Rows
theorem ObjOk.at_ {P : Program} {w : World} {H : Hp} {h : Heap} {a : Addr} {o : HO} (x : ObjOk P w H h a o) : ∃ u, h.get? a = some u := by
 cases o with
 | lst xs => obtain ⟨_, _, _, _, e⟩ := x; exact ⟨_, e⟩
 | tup xs => obtain ⟨_, _, _, _, e, _⟩ := x; exact ⟨_, e⟩
 | dK kvs => obtain ⟨_, _, _, _, o, _, _, e, _⟩ := x; exact ⟨_, e⟩
 | dT kvs => obtain ⟨_, _, _, _, o, _, _, e, _⟩ := x; exact ⟨_, e⟩
 | set S n => obtain ⟨o, _, _, _, e, _⟩ := x; exact ⟨_, e⟩
 | ins C dx fs => obtain ⟨_, _, _, e, _⟩ := x; exact ⟨_, e⟩
 | own y => exact x
 | xd fs => obtain ⟨_, ⟨_, _, _, e, _⟩, _⟩ := x; exact ⟨_, e⟩
 | rng lo hi => obtain ⟨_, _, _, e⟩ := x; exact ⟨_, e⟩
 | frz ob u => exact ⟨_, x.1⟩
 | tbl ps => exact ⟨_, (show h.get? a = some _ from x)⟩
 | met f y => exact ⟨_, (show h.get? a = some _ from x)⟩
 | ext φ => exact x.2.1
def CXe (P : Program) (w : World) : CXT := fun outer H s E v s' => ∃ (e : Addr) (cls a0 : Value) (H' : Hp) (B : Heap), v = .ref e /\ s'.os = s.os /\ AllBare s'.gens /\ Un (frs outer) [] H H' s.heap s'.heap /\ HOk P w H' s'.heap /\ E cls none H' /\
 Heap.FlyingW B outer e cls a0 s'.heap /\ (∀ b u, H' b = some u -> ∃ o, B.get? b = some o) /\ ∀ b o, s.heap.get? b = some o -> b ∉ frs outer -> ∃ o', B.get? b = some o'
section
variable {H H' : Hp} {B h0 h h' : Heap} {fs : List Addr}
theorem vu {P : Program} {w : World} (x : HOk P w H h) (hB : B.StaysIn h) (hB' : B.StaysIn h') (k : ∀ b u, H b = some u -> ∃ o, B.get? b = some o) : HOk P w H h' := fun a o ha =>
 (x a o ha).stay (fun b u hb q => by
  obtain ⟨v, hv⟩ : ∃ v, H b = some v := by
   rcases hb with rfl | hb
   ·exact ⟨o, ha⟩
   ·exact ⟨_, hb⟩
  obtain ⟨ob, q1⟩ := k b v hv
  have q2 := hB b ob q1
  rw [q] at q2
  cases q2
  exact hB' b _ q1) (fun _ q => q) fun _ _ q => q
theorem yB (un : Un fs [] H H' h0 h) (k2 : ∀ b o, h0.get? b = some o -> b ∉ fs -> ∃ o', B.get? b = some o') (nf : ∀ b ∈ fs, ∀ o, h0.get? b = some o -> ∀ vs, o.data ≠ .fields vs) (fr : ∀ b ∈ fs, H b = none)
  (hB : B.StaysIn h) (hB' : B.StaysIn h') (sm : h.UpToSlots h') : Un fs [] H H' h0 h' := by
 have no : ∀ b : Addr, b ∉ ([] : List Addr) := fun b z => by cases z
 have both : ∀ b o, h0.get? b = some o -> b ∉ fs -> ∃ o', h.get? b = some o' /\ h'.get? b = some o' := fun b o q z => by
  obtain ⟨o', q'⟩ := k2 b o q z
  exact ⟨o', hB b o' q', hB' b o' q'⟩
 have slots : ∀ b o, h0.get? b = some o -> b ∈ fs -> ∃ sl, h'.get? b = some { o with slots := sl } := fun b o q z => by
  obtain ⟨sl, q2⟩ := un.slot b o q (fr b z) z (no b)
  obtain ⟨sl', q3⟩ := sm b _ q2 (nf b z o q)
  exact ⟨sl', q3⟩
 refine ⟨fun b o q n z _ => ?_, fun b o q _ z _ => slots b o q z, un.free, fun b o q _ => ?_, un.tups, un.frzs, un.tbls⟩
 ·obtain ⟨o', q1, q2⟩ := both b o q z
  have q3 := un.keep b o q n z (no b)
  rw [q3] at q1
  cases q1
  exact q2
 ·by_cases z : b ∈ fs
  ·obtain ⟨sl, q1⟩ := slots b o q z
   exact ⟨_, q1⟩
  ·obtain ⟨o', _, q2⟩ := both b o q z
   exact ⟨o', q2⟩
end
section
variable {X : Cx} {pins : List (Addr × Obj)} {σ : St} {H : Hp} {s : Shared} {E : XK} {B : Heap} {e : Addr} {cls a0 : Value}
theorem Inv.nf (I : Inv X pins σ H s) : ∀ b ∈ X.fs, ∀ o, X.s₀.heap.get? b = some o -> ∀ vs, o.data ≠ .fields vs := fun b z o q => by
 obtain ⟨_, o1, q1, nf⟩ := I.ok.funs.mem z
 rw [q] at q1
 cases q1
 exact nf
theorem Inv.nfS (I : Inv X pins σ H s) : ∀ b ∈ frs X.stack, ∀ o, s.heap.get? b = some o -> ∀ vs, o.data ≠ .fields vs := fun b z o q => by
 obtain ⟨_, o1, q1, nf⟩ := I.stack.mem z
 rw [q] at q1
 cases q1
 exact nf
theorem zu {h' : Heap} (I : Inv X pins σ H s) (hex : X.ex = []) (hE : E cls none H) (hB : B.StaysIn s.heap) (k1 : ∀ b u, H b = some u -> ∃ o, B.get? b = some o)
  (k2 : ∀ b o, X.s₀.heap.get? b = some o -> b ∉ X.fs -> ∃ o', B.get? b = some o') (fl : Heap.FlyingW B X.outer e cls a0 h') (sm : s.heap.UpToSlots h') : CXe X.prog X.w X.outer X.H₀ X.s₀ E (.ref e) { s with heap := h' } :=
 ⟨e, cls, a0, H, B, rfl, I.os, I.bare, yB (by have := I.base; rw [hex] at this; exact this) k2 I.nf I.ok.frf hB fl.1 sm, vu I.hok hB fl.1 k1, hE, fl, k1, k2⟩
theorem Inv.notStk (I : Inv X pins σ H s) {b : Addr} {o : Obj} (q : X.s₀.heap.get? b = some o) (z : b ∉ X.fs) : b ∉ frs X.stack := fun hb => by
 rcases List.mem_cons.mp (I.stkSub b hb) with r | r
 ·exact absurd (Heap.lt_size q) (by rw [r]; exact Nat.not_lt.mpr I.ok.above)
 ·exact z r
end
section
variable {P : Program} {w : World} {K : W.Frag} {mg : Str -> Option Value} {base : Heap} {N : List Str} {qual : Str} {scope : Scope} {f : Addr} {cdv : Value} {A : Around} {outer : List Env} {s : Shared} {H : Hp} {E : XK}
theorem Gc : pW (CXe P w) (kF (CXe P w) P w K mg base N qual scope f cdv A outer s H E) E := by
 intro pins σ H1 s1 v s' I hx
 obtain ⟨e, cls, a0, H', B, rfl, ho, hg, un, hok, hE, fl, k1, k2⟩ := hx
 have I2 := I.call' ho un hok hg (fun b z => by cases z)
 refine wpAny_leaves_onW I.ok.frames rfl fl fun h' fl' sm => zu (X := kF (CXe P w) P w K mg base N qual scope f cdv A outer s H E) I2 rfl hE fl.1 k1 (fun b o q z => ?_) fl' sm
 obtain ⟨o1, q1⟩ := I.base.there b o q (by intro y; cases y)
 exact k2 b o1 q1 (I.notStk q z)
def DJ (X : Cx) (E : XK) : Prop := ∀ (pins : List (Addr × Obj)) (σ : St) (H : Hp) (s : Shared) (h' : Heap) (e C : Addr) (vs : List Value), Inv X pins σ H s -> Heap.MadeExcOf s.heap h' e (.ref C) vs -> E (.ref C) none H -> X.xe (.ref e) { s with heap := h' }
theorem Ej : DJ (kF (CXe P w) P w K mg base N qual scope f cdv A outer s H E) E := by
 intro pins σ H1 s1 h' e C vs I hx hE
 have hin : ∀ env ∈ (kF (CXe P w) P w K mg base N qual scope f cdv A outer s H E).stack, ∀ b, env.frame = some b -> b ∈ frs (kF (CXe P w) P w K mg base N qual scope f cdv A outer s H E).stack := fun env he b hb => List.mem_filterMap.mpr ⟨env, he, hb⟩
 have I2 := I.kept (t' := s1.toks) hx.keeps
 refine wpAny_leaves_madeW (base := W.hideAll s1.heap (frs (kF (CXe P w) P w K mg base N qual scope f cdv A outer s H E).stack)) I.ok.frames rfl (fun b o q => W.of_hideAll _ q) (W.funFrames_hide I.stack hin) hx fun h2 t fl _ _ sm => ?_
 refine zu (X := kF (CXe P w) P w K mg base N qual scope f cdv A outer s H E) (s := { s1 with heap := h' }) I2 rfl hE (fun b o q => hx.keeps b o (W.of_hideAll _ q)) (fun b u q => ?_) (fun b o q z => ?_) fl sm
 ·obtain ⟨o, q1⟩ := (I.hok b u q).at_
  exact ⟨o, W.hideAll_get _ q1 fun hb => by rw [I.stkFree b hb] at q; cases q⟩
 ·obtain ⟨o1, q1⟩ := I.base.there b o q (by intro y; cases y)
  exact ⟨o1, W.hideAll_get _ q1 (I.notStk q z)⟩
end
theorem Ee {K : W.Frag} {h : Heap} {C : Addr} {bmB : List Value} {newId : String} (X : K.In h) (q : W.excIn K C bmB newId = true) : ∃ bm N nm qn bs hdct sn sub ab col dd k0 k1 k2 k3 k5 mN,
  h.get? C = some (excClassObj nm qn C N bs bm hdct sn sub ab col dd k0 k1 k2 k3 k5 newId) /\ h.Ns N mN /\ mN "__init__" = none /\ OwnTail h bmB bm := by
 unfold W.excIn at q
 split at q <;> try (cases q; done)
 rename_i dd cd sl ho
 split at q <;> try (cases q; done)
 rename_i C' bm k0 k1 k2 k3 n k5 hm hs
 simp only [Bool.and_eq_true, beq_iff_eq, Bool.not_eq_true'] at q
 obtain ⟨⟨⟨⟨⟨rfl, rfl⟩, qd⟩, qt⟩, qo⟩, qi⟩ := q
 obtain ⟨nm, bs, mro, ns, qn, hd, sn, sub, ab, col, del⟩ := cd
 obtain ⟨l⟩ := sl
 dsimp only at hm hs qd qo qi
 subst hm hs qd
 exact ⟨bm, ns, nm, qn, bs, hd, sn, sub, ab, col, dd, k0, k1, k2, k3, k5, _, X _ _ ho, .of_isNs (W.isNs_of_in X qo), W.nsMap_none_of_in X qo qi, W.tail_of_in X qt⟩
abbrev bmV : List Value := [.type "ValueError", .type "Exception", .type "BaseException", .type "object"]
def Ct (K : W.Frag) (N : Str) (te : TE) (E : XK) : TS := fun _ σ H => ∀ C, W.nsIn K mainGlobals N = some (some (.ref C)) -> d9 te kJ σ H fun vs H1 => vs.length = 1 /\ E (.ref C) none H1
section
variable {X : Cx} {E : XK} {x : Str} {e : Expr} {te : TE} {np cpos pos : Pos}
theorem B0 (hz : DJ X E) (hE : ∃ C : Addr, W.nsIn X.K mainGlobals x = some (some (.ref C)) /\ W.excIn X.K C bmV "ValueError.__new__" = true /\ X.mg x = some (.ref C)) (hh : X.A.handled = none) (hg : Gl X x) (he : PE X e te)
  (hdb : (x == ("__debug__" : Str)) = false := by decide) (h1 : starEach [e] X.env = (false, eval e X.env) :: starEach [] X.env := by rfl) (h2 : (backTo cpos (starEach [] X.env)).any (·.1) = false := by rfl) :
  PS X (.Raise (some (.Call (.Name x np) [e] [] cpos)) none pos) (Ct X.K x te E) := by
 intro pins s σ H D I h
 obtain ⟨C, hN, hq, hm⟩ := hE
 have h := h C hN
 obtain ⟨tl, N, nm, q, bs, hdct, sn, sub, ab, col, dd, k0, k1, k2, k3, k5, mN, hC, hNs, hni, T⟩ := Ee I.ok.mod.kin hq
 refine wpAny_Raise_call_subT (C := C) (nm := nm) (q := q) (N := N) (bs := bs) (bm := tl) (hdct := hdct) (sn := sn) (sub := sub) (ab := ab) (col := col) (dd := dd) (k0 := k0) (k1 := k1) (k2 := k2) (k3 := k3) (k5 := k5)
  PySem.F.excBase_ValueError (mN := mN) (T.hasType PySem.F.excBase_ValueError.hasBase) hh (by rw [h1]; show (false || (backTo cpos (starEach [] X.env)).any (·.1)) = false; rw [h2]; rfl) hni (o8 I hg hm ⟨rfl, ?_⟩ hdb)
 have hp := af (X := X) he ai h1 cpos pins s σ H (fun vs H1 => vs.length = 1 /\ E (.ref C) none H1) I h
 rw [h1] at hp ⊢
 exact Calls.evalArgs_plain (thn hp fun us s2 ⟨vs, H2, I2, r, ql, q2⟩ => ⟨rfl, by rw [<- r.length, ql]; exact Nat.le_trans (show 1 <= 1000 by decide) (by rw [sizeLine_eq]; decide), I2.bk _ _ hC, hNs.keeps I2.bk, T.keeps I2.bk, fun h' e' hx => hz pins σ H2 s2 h' e' C us I2 hx q2⟩)
end
abbrev Cx.hold (X : Cx) (e : Addr) : Cx := { X with A := X.A.mark (some (.ref e)), calm := false, xe := fun _ _ => False }
abbrev Cx.pin (X : Cx) (ps : List (Addr × Obj)) : Cx := { X with pn := X.pn ++ ps }
section
variable {X : Cx} {pins : List (Addr × Obj)} {σ : St} {H H' : Hp} {s s' : Shared} {e : Addr}
theorem Cx.Ok.hold (ok : X.Ok) (e : Addr) : (X.hold e).Ok :=
 ⟨ok.mod, ok.kind, ok.glob, ok.blt, ok.above, ok.inj, ok.has, ok.cab, (fun z => by cases z), ok.frames, ok.stk, ok.exf, ok.bs, ok.bsz, ok.noex, ok.exfs, ok.funs, ok.frf⟩
theorem Inv.hold (I : Inv X pins σ H s) (e : Addr) : Inv (X.hold e) pins σ H s := ⟨I.ok.hold e, I.os, I.bare, I.base, I.loc, I.cell, I.free, I.freeC, I.pin, I.hok, I.len⟩
theorem Inv.unhold (ok : X.Ok) (I : Inv (X.hold e) pins σ H s) : Inv X pins σ H s := ⟨ok, I.os, I.bare, I.base, I.loc, I.cell, I.free, I.freeC, I.pin, I.hok, I.len⟩
theorem Inv.toPin (I : Inv X pins σ H s) : Inv (X.pin pins) [] σ H s :=
 ⟨⟨I.ok.mod, I.ok.kind, I.ok.glob, I.ok.blt, I.ok.above, I.ok.inj, I.ok.has, I.ok.cab, I.ok.hd, I.ok.frames, I.ok.stk, I.ok.exf, I.ok.bs, I.ok.bsz, I.ok.noex, I.ok.exfs, I.ok.funs, I.ok.frf⟩, I.os, I.bare, I.base, I.loc, I.cell, I.free, I.freeC, fun p hp => I.pin p (by rw [List.append_nil] at hp; exact hp), I.hok, I.len⟩
theorem Inv.ofPin {ps : List (Addr × Obj)} (ok : X.Ok) (I : Inv (X.pin pins) ps σ H s) : Inv X pins σ H s :=
 ⟨ok, I.os, I.bare, I.base, I.loc, I.cell, I.free, I.freeC, fun p hp => I.pin p (List.mem_append_left _ hp), I.hok, I.len⟩
theorem EC {M : Model} {A : Around} {E : Value -> Shared -> Prop} {i : Nat} {n : Str} {pos : Pos} {Q : Unit -> Shared -> Prop} (I : Inv X pins σ H s) (hN : X.N.Nodup) (hi : X.N[i]? = some n) (hk : X.env.kindOf n = some .local)
  (h : ∀ s', Inv X pins (σ.set i none) H s' -> Q () s') : wpAny M A (do bindName X.env n .none; unbindBehindTheSuite X.env n pos) Q E s := by
 have hcls : (X.env.scope.kind == .class || (X.env.scope.kind == .module && X.env.locals != X.env.globals)) = false := by rw [I.ok.kind]; rfl
 obtain ⟨m, hn, hl⟩ := id I.loc
 refine wpAny_bind (wpAny_bindName (wpAny_storeName_local hk hn (fun h1 hn1 hs1 => ?_) hcls))
 unfold unbindBehindTheSuite
 refine wpAny_onRaise ?_
 unfold unbindName
 refine wpAny_bind (wpAny_point (wpAny_bind ?_))
 unfold deleteName
 simp only [hk, hcls]
 rw [if_neg (by decide)]
 refine wpAny_bind (wpAny_nsDel_keeps hn1 fun h2 v hn2 hs2 => ?_)
 simp only [if_true, Option.isSome_some, Bool.not_true, Bool.false_eq_true, if_false]
 have hs := hs1.trans hs2
 have cne := I.cne
 obtain ⟨oL, _, _, hoL, _⟩ := id hn
 refine wpAny_pure (wpAny_point (h _ ⟨I.ok, I.os, I.bare, ⟨fun b o q z hb hx => ?_, fun b o q z hb hx => ?_, I.base.free, fun b o q hx => ?_, I.base.tups, I.base.frzs, I.base.tbls⟩, ⟨_, hn2, fun j y v' e1 e2 e3 => ?_⟩, fun y c q => ?_, I.free, I.freeC, fun p hp => ?_, fun b ob q => ?_, by rw [List.length_set]; exact I.len⟩))
 ·exact (hs.2 b (Nat.ne_of_lt (Nat.lt_of_lt_of_le (Heap.lt_size q) I.ok.above))).trans (I.base.keep b o q z hb hx)
 ·obtain ⟨sl, q1⟩ := I.base.slot b o q z hb hx
  exact ⟨sl, (hs.2 b (Nat.ne_of_lt (Nat.lt_of_lt_of_le (Heap.lt_size q) I.ok.above))).trans q1⟩
 ·obtain ⟨o', q1⟩ := I.base.there b o q hx
  exact ⟨o', (hs.2 b (Nat.ne_of_lt (Nat.lt_of_lt_of_le (Heap.lt_size q) I.ok.above))).trans q1⟩
 ·have hj : j ≠ i := fun z => by
   subst z
   by_cases hlt : j < σ.length
   ·rw [List.getElem?_set_self hlt] at e2; cases e2
   ·rw [List.getElem?_eq_none (by rw [List.length_set]; lia)] at e2; cases e2
  rw [List.getElem?_set_ne (Ne.symm hj)] at e2
  have hy : y ≠ n := fun z => hj (pM hN e1 (z ▸ hi))
  obtain ⟨u', r', q⟩ := hl j y v' e1 e2 e3
  refine ⟨u', r', ?_⟩
  rcases q with ⟨k, q⟩ | ⟨k, c, q, z⟩
  ·exact .inl ⟨k, by simp [hy, q]⟩
  ·exact .inr ⟨k, c, q, z.sameBut hs (cne y c q)⟩
 ·obtain ⟨w', z⟩ := I.cell y c q
  exact ⟨w', z.sameBut hs (cne y c q)⟩
 ·obtain ⟨q, z, ne, nf, d⟩ := I.pin p hp
  exact ⟨(hs.2 p.1 ne).trans q, z, ne, nf, d⟩
 ·refine (I.hok b ob q).stay (fun c w' hc z => (hs.2 c ?_).trans z) (fun _ z => z) fun _ _ z => z
  rintro rfl
  rcases hc with rfl | hc
  ·rw [I.free] at q; cases q
  ·rw [I.free] at hc; cases hc
end
def Hy (K : W.Frag) (L : List Str) (i : Nat) (tb : XK -> TS) (ts : TS) : TS := fun D σ H =>
 tb (fun cls _ H' => ∃ N C, N ∈ L /\ cls = .ref C /\ W.nsIn K mainGlobals N = some (some (.ref C)) /\ ∀ e, H' e = none ->
  ts { nx := fun σ' H2 => D.nx (σ'.set i none) H2, rt := fun _ _ => False } ((List.replicate σ.length none).set i (some (.ref e))) (upd H' e (wB C e))) D σ H
section
variable {X : Cx} {body suite : List Stmt} {b0 : Stmt} {x n : Str} {i : Nat} {L : List Str} {tb : XK -> TS} {ts : TS} {np hp pos : Pos}
theorem FK (hst : X.stack = X.env :: X.outer) (hfr : X.env.frame = some X.env.locals) (hN : X.N.Nodup) (hi : X.N[i]? = some n) (hl : X.env.kindOf n = some .local) (hm : ∃ T : Addr, X.mg x = some (.ref T) /\ ∀ N ∈ L, ∀ C : Addr, PySem.W.nsIn X.K mainGlobals N = some (some (.ref C)) -> PySem.W.exmOne X.K (.ref C) (.ref T) = some true) (hg : Gl X x)
  (hb : ∀ (ps : List (Addr × Obj)) (W : Value -> Shared -> Prop) (E : XK), pW (CXe X.prog X.w) ((X.pin ps).wish W) E -> PSs ((X.pin ps).wish W) body (tb E)) (hs : ∀ e, PSs (X.hold e) (b0 :: suite) ts) (hdb : (x == ("__debug__" : Str)) = false := by decide)
  (hf : X.fn n = true \/ X.env.scope.names.lookup n = some .local := by first | exact .inl rfl | exact .inr rfl | assumption) :
  PS X (.Try body [.ExceptHandler (some (.Name x np)) (some n) (b0 :: suite) hp] [] [] pos) (Hy X.K L i tb ts) := by
 intro pins s σ H D I h
 have hlen : σ.length = X.N.length := I.len
 refine wpAny_Try_except ?_
 refine wpAny_mono (hb pins (fun v s1 => wpAny (model X.prog X.w) X.A (noteFrame v X.env) (fun _ s2 => wpAny (model X.prog X.w) X.A (setFlight v none) (fun _ s3 => wpAny (model X.prog X.w) X.A (handleBy v X.env [.ExceptHandler (some (.Name x np)) (some n) (b0 :: suite) hp]) (SP X pins D) X.xe s3) X.xe s2) X.xe s1) _ ?_ [] s σ H D (I.toPin.wish _) h) (fun f s1 q => ?_) fun _ _ z => z
 ·intro ps σ1 H1 s1 v s' J hx
  obtain ⟨e, cls, a0, H', B, rfl, ho, hgn, un, hok, hE, fl, k1, k2⟩ := hx
  obtain ⟨M, C, hM, rfl, hC, hh⟩ := hE
  obtain ⟨T, hm, hmt⟩ := hm
  have hmt := hmt M hM C hC
  have J1 : Inv X pins σ1 H1 s1 := Inv.ofPin I.ok J.unwish
  have J1 : Inv X pins (List.replicate X.N.length none) H1 s1 := J1.weak (by rw [List.length_replicate, J1.len]) fun j v' q => by
   rw [List.getElem?_replicate] at q
   split at q <;> cases q
  have fl : Heap.FlyingW B (X.env :: X.outer) e (.ref C) a0 s'.heap := hst ▸ fl
  have hfrm : X.A.frames = some (X.env :: X.outer) := by rw [I.ok.frames, hst]
  refine wpAny_looks_onW hfrm hfr fl fun h4 held sm4 => ?_
  refine wpAny_landsW held fun h5 fl5 sm5 => ?_
  have sm5 := sm4.trans sm5
  -- the state ahead of the clause
  have J5 : Inv X pins (List.replicate X.N.length none) H' { s' with heap := h5 } := J1.call' ho (yB un k2 J1.nfS J1.stkFree fl.1 fl5.1 sm5) (vu hok fl.1 fl5.1 k1) hgn (fun b z => by cases z)
  obtain ⟨oe, vs, he, hc, hd, _⟩ := fl5.first
  refine wpAny_handleBy_cons (codeAny_handlers_test (o8 (X := X.hold e) (J5.hold e) hg hm ?_ hdb)) (by intro z; cases z)
  have LT : PySem.W.Looks (model X.prog X.w) h5 (typeOf (.ref e)) (.ref C) := hc ▸ (PySem.W.Looks.ld he).andThen .now
  refine (PySem.W.exm_one (J5.kIn) LT hmt).here ?_
  refine codeAny_handlers_suite_as ?_
  refine lands_againW fl5 fun h6 fl6 sm6 => ?_
  have sm6 := sm5.trans sm6
  obtain ⟨oe, vs, he, hc, hd, _⟩ := fl6.first
  have heB : H' e = none := by
   cases q : H' e with
   | none => rfl
   | some u =>
    obtain ⟨o, q1⟩ := k1 e u q
    rw [fl6.2.1] at q1
    cases q1
  have un6 := yB un k2 J1.nfS J1.stkFree fl.1 fl6.1 sm6
  have hnew : ∀ b o, s1.heap.get? b = some o -> b ≠ e := fun b o q z => by
   subst z
   by_cases hz : b ∈ frs X.stack
   ·obtain ⟨sl, q2⟩ := un6.slot b o q (J1.stkFree b hz) hz (by intro y; cases y)
    rw [he] at q2
    cases q2
    exact J1.nfS b hz o q _ hd
   ·obtain ⟨o', q1⟩ := k2 b o q hz
    rw [fl6.2.1] at q1
    cases q1
  have J6 : Inv X pins (List.replicate X.N.length none) (upd H' e (wB C e)) { s' with heap := h6 } := by
   refine J1.call' ho (ch := []) ⟨un6.keep, un6.slot, fun b o q z y => ?_, un6.there, fun b xs q => ?_, fun b o u q => ?_, fun b ps' q => ?_⟩ (fun b u q => ?_) hgn (fun b z => by cases z)
   ·rw [aA (hnew b o q)]; exact un6.free b o q z y
   ·have := un6.tups b xs q; rw [aA (aP this heB)]; exact this
   ·have := un6.frzs b o u q; rw [aA (aP this heB)]; exact this
   ·obtain ⟨mr, this⟩ := un6.tbls b ps' q; exact ⟨mr, by rw [aA (aP this heB)]; exact this⟩
   ·have hok6 := vu hok fl.1 fl6.1 k1
    by_cases hbe : b = e
    ·subst hbe
     rw [aJ] at q
     cases q
     refine ⟨⟨oe, vs, he, hc, hd⟩, ⟨oe, he⟩, fun h1 h2 ⟨o1, v1, z1, z2, z3⟩ kk => ⟨o1, v1, kk _ z1, z2, z3⟩⟩
    ·rw [aA hbe] at q
     exact (hok6 b u q).stay (fun _ _ _ z => z) (fun c z => by rw [aA (aP z heB)]; exact z) fun c xs z => by rw [aA (aP z heB)]; exact z
  refine pQ (X := X.hold e) (J6.hold e) hN hi (.inl hl) (v := .ref e) rfl (fun s7 J7 => ?_) hf
  refine wpAny_mono (hs e pins s7 _ _ _ J7 (by rw [hlen] at hh; exact hh e heB)) (fun f s8 q => ?_) fun _ _ z => z.elim
  cases f with
  | next =>
   obtain ⟨σ8, H8, J8, q8⟩ := q
   exact EC (Inv.unhold I.ok J8) hN hi hl fun s9 J9 => ⟨_, H8, J9, q8⟩
  | brk => obtain ⟨_, _, _, z⟩ := q; exact z.elim
  | cont => obtain ⟨_, _, _, z⟩ := q; exact z.elim
  | ret u => obtain ⟨_, _, _, _, _, z⟩ := q; exact z.elim
 ·have q : SP X pins D f s1 := by
   have q := q.unwish
   cases f with
   | next => obtain ⟨σ', H', J, z⟩ := q; exact ⟨σ', H', Inv.ofPin I.ok J, z⟩
   | brk => obtain ⟨σ', H', J, z⟩ := q; exact ⟨σ', H', Inv.ofPin I.ok J, z⟩
   | cont => obtain ⟨σ', H', J, z⟩ := q; exact ⟨σ', H', Inv.ofPin I.ok J, z⟩
   | ret u => obtain ⟨v, σ', H', J, r, z⟩ := q; exact ⟨v, σ', H', Inv.ofPin I.ok J, r, z⟩
  cases f with
  | next => exact wpAny_execs_nil q
  | brk => exact q
  | cont => exact q
  | ret u => exact q
end
def gL (K : W.Frag) (ans : List (Str × Bool)) (u : Value) : Prop := ∀ N b, ans.lookup N = some b -> ∀ C : Addr, W.nsIn K mainGlobals N = some (some (.ref C)) -> XCls K C /\ W.kitOne K (.ref C) u = some b
theorem fI {K : W.Frag} {u : Value} : gL K [] u := fun N b h => by cases h
theorem d7 {K : W.Frag} {u : Value} {N : Str} {b0 : Bool} {ans : List (Str × Bool)} (h0 : ∀ C : Addr, W.nsIn K mainGlobals N = some (some (.ref C)) -> XCls K C /\ W.kitOne K (.ref C) u = some b0) (h : gL K ans u) : gL K ((N, b0) :: ans) u := fun M b hl C hC => by
 rw [List.lookup] at hl
 split at hl
 ·rename_i hb
  have e : M = N := by simpa using hb
  subst e
  cases hl
  exact h0 C hC
 ·exact h M b hl C hC
def G7 (K : W.Frag) (ans : List (Str × Bool)) (vv : V) : List V -> Hp -> VK -> Prop := fun xs H Q => ∃ e C N b, xs = [.ref e, vv] /\ H e = some (wB C e) /\ W.nsIn K mainGlobals N = some (some (.ref C)) /\ ans.lookup N = some b /\ Q (.bl b) H
def Eh (K : W.Frag) (i : Nat) (ans : List (Str × Bool)) : TE := fun σ H Q => ∃ e C N b, σ[i]? = some (some (.ref e)) /\ H e = some (wB C e) /\ W.nsIn K mainGlobals N = some (some (.ref C)) /\ ans.lookup N = some b /\ Q (.bl b) H
def wC (K : W.Frag) (i : Nat) : List (List (Str × Bool)) -> TA
 | [] => kJ
 | a :: l => d9 (Eh K i a) (wC K i l)
section
variable {X : Cx} {e : Expr} {pos p p' : Pos} {i : Nat} {N : Str} {ans : List (Str × Bool)} {vv : V} {u : Value}
theorem v9 (hv : ∀ v, RelV vv v -> v = u) (hc : gL X.K ans u) : CallR X (.builtin "isinstance") (G7 X.K ans vv) := by
 intro pins s σ H xs us Q I r h
 obtain ⟨a, C, N, b, rfl, ea, hC, hb, q⟩ := h
 obtain ⟨u1, v, rfl, r1, r2⟩ := Vals.two r
 have eu : u1 = Value.ref a := r1
 subst eu
 have ev := hv v r2
 subst ev
 obtain ⟨c, hk⟩ := hc N b hb C hC
 exact W.kia_one (CN c) I.kIn (I.hok a _ ea).1 hk (fun z => nomatch z) fun tk => ⟨.bl b, H, I.tok _, rfl, q⟩
theorem Bv {K : W.Frag} {σ : St} {H : Hp} {Q : VK} (h : Eh K i ans σ H Q) : tCB (G7 K ans vv) (d9 (jG i) (d9 (tC vv) kJ)) σ H Q := by
 obtain ⟨a, C, N, b, h1, ea, hC, hb, q⟩ := h
 exact ⟨.ref a, h1, a, C, N, b, rfl, ea, hC, hb, q⟩
theorem lK (h : ∃ T : Addr, X.mg N = some (.ref T) /\ gL X.K ans (.ref T)) (hg : Gl X "isinstance") (hm : X.mg "isinstance" = none) (gT : Gl X N) (he : PE X e (jG i)) (hdb : (N == ("__debug__" : Str)) = false := by decide)
  (h1 : starEach [e, .Name N p'] X.env = (false, eval e X.env) :: starEach [.Name N p'] X.env := by rfl) (h2 : starEach [.Name N p'] X.env = (false, eval (.Name N p') X.env) :: starEach [] X.env := by rfl) (hpl : (backTo pos (starEach [.Name N p'] X.env)).any (·.1) = false := by rfl) :
  PE X (.Call (.Name "isinstance" p) [e, .Name N p'] [] pos) (Eh X.K i ans) := by
 obtain ⟨T, k2, k3⟩ := h
 exact fun a b c d q I h => bQ (v9 (vv := .ref T) (fun v r => r) k3) hg hm lg (af he (af (o3 (v := .ref T) gT k2 rfl hdb) ai h2) h1) (by decide) (by decide) h1 hpl a b c d q I (Bv h)
theorem E5 {M : String} (k2 : X.mg N = none) (hv : bootBuiltins N = some (.type M)) (k3 : gL X.K ans (.type M)) (hg : Gl X "isinstance") (hm : X.mg "isinstance" = none) (gT : Gl X N) (he : PE X e (jG i)) (hn : N ≠ "__name__" := by decide) (hdb : (N == ("__debug__" : Str)) = false := by decide)
  (h1 : starEach [e, .Name N p'] X.env = (false, eval e X.env) :: starEach [.Name N p'] X.env := by rfl) (h2 : starEach [.Name N p'] X.env = (false, eval (.Name N p') X.env) :: starEach [] X.env := by rfl) (hpl : (backTo pos (starEach [.Name N p'] X.env)).any (·.1) = false := by rfl) :
  PE X (.Call (.Name "isinstance" p) [e, .Name N p'] [] pos) (Eh X.K i ans) :=
 fun a b c d q I h => bQ (v9 (vv := .ty M) (fun v r => r) k3) hg hm lg (af he (af (Eo (v := .ty M) gT k2 hv rfl hn hdb) ai h2) h1) (by decide) (by decide) h1 hpl a b c d q I (Bv h)
theorem wK {st : Stmt} {c9 : List Stmt} {t : TS} (h : PS X st t) : PSs X (st :: c9) (fun D => t { D with nx := fun _ _ => False }) := by
 intro pins s σ H D I q
 refine wpAny_execs_cons (thn (h pins s σ H _ I q) fun f s1 z => ?_)
 cases f with
 | next => obtain ⟨_, _, _, y⟩ := z; exact y.elim
 | brk => exact z
 | cont => exact z
 | ret u => exact z
theorem Fun.okX {P : Program} {w : World} {K : W.Frag} {mg : Str -> Option Value} {base : Heap} {x qual : Str} {st : Stmt} {f : Addr} {fd : FuncData} {N ps : List Str} {k : Nat} {sp : Sp} (F : Fun K x qual st f fd) (S : FnScope N ps (ak st)) (len : ∀ vs H Q E, sp vs H Q E -> vs.length = ps.length)
  (hbody : ∀ (cdv : Value) (A : Around) (outer : List Env) (s : Shared) (H : Hp) (vs : List V) (Q : VK) (E : XK), Room k (A.deeper (envOfC qual (ak st) s.heap.objs.size f cdv)) -> sp vs H Q E ->
   ∃ t, PSs (kF (CXe P w) P w K mg base N qual (ak st) f cdv A outer s H E) (aW st) t /\ t { nx := fun _ H' => Q .non H', rt := Q } (aG N vs) H) : FnOk P w K mg base (CXe P w) (k + 1) f fd ps sp := by
 obtain ⟨oc, od, kV, doc, pm, an, cdv, ct, osl, rfl, lk, hcd⟩ := F.ex
 exact ze lk hcd S len fun A outer s H vs Q E hr hsp => hbody cdv A outer s H vs Q E hr hsp
end
end L2
namespace M
open PySem L2
section
variable {K : W.Frag} {S S' H H' : Hp}
def KD : List D -> Option D
 | [.int i] => some (.int (if i < 0 then -i else i))
 | _ => none
inductive RO where
 | rz (N : Str) | nx (ρ : Env)
abbrev XR := Env -> Option RO
def XDone (K : W.Frag) (A S : Hp) (E : XK) (N : Str) : Prop := ∀ C S' H', Same S S' -> Same S' H' -> Same A H' -> (∀ b, S' b = none \/ A b = none) -> W.nsIn K mainGlobals N = some (some (.ref C)) -> E (.ref C) none H'
theorem XDone.mono {A : Hp} {E : XK} {N : Str} (s : Same S S') (h : XDone K A S E N) : XDone K A S' E N := fun C S1 H1 z => h C S1 H1 (s.trans z)
def DoneX (K : W.Frag) (A : Hp) (Λ : Nat -> Option Addr) (S : Hp) (E : XK) (D : Ends) : RO -> Prop
 | .rz N => XDone K A S E N
 | .nx ρ => ∀ σ' S' H', RlA K A Λ ρ σ' S' H' -> Same S S' -> D.nx σ' H'
theorem DoneX.mono {A : Hp} {Λ : Nat -> Option Addr} {E : XK} {D : Ends} {o : RO} (s : Same S S') (h : DoneX K A Λ S E D o) : DoneX K A Λ S' E D o := by
 cases o with
 | rz N => exact XDone.mono s h
 | nx ρ => exact fun σ1 S1 H1 r z => h σ1 S1 H1 r (s.trans z)
def SX (K : W.Frag) (E : XK) (t : TS) (m : XR) : Prop := ∀ A Λ ρ σ S H (D : Ends) o, RlA K A Λ ρ σ S H -> m ρ = some o -> DoneX K A Λ S E D o -> t D σ H
def SXE (K : W.Frag) (E : XK) (t : TE) (m : Env -> Option Str) : Prop := ∀ A Λ ρ σ S H (Q : VK) N, RlA K A Λ ρ σ S H -> m ρ = some N -> XDone K A S E N -> t σ H Q
variable {E : XK}
@[simp] def Cz : XR := fun ρ => some (.nx ρ)
theorem D3 : SX K E zg Cz := fun A Λ ρ σ S H D o r x k => by cases x; exact k σ S H r (Same.refl _)
@[simp] def zd (N : Str) : XR := fun _ => some (.rz N)
theorem C8 {N : Str} {v : V} : SX K E (Ct K N (tC v) E) (zd N) := fun A Λ ρ σ S H D o r x k => by
 cases x
 exact fun C hC => ⟨rfl, k C S H (Same.refl _) r.sub r.asub r.adis hC⟩
@[simp] def F7 (c : XT) (m n : XR) : XR := fun ρ => (c ρ).bind fun b => if b = true then m ρ else n ρ
theorem Hz {tc : TT} {t u : TS} {c : XT} {m n : XR} (hc : ST K tc c) (ht : SX K E t m) (hu : SX K E u n) : SX K E (GF tc t u) (F7 c m n) := fun A Λ ρ σ S H D o r x k => by
 unfold F7 at x
 cases qc : c ρ with
 | none => rw [qc] at x; cases x
 | some q =>
  rw [qc] at x
  dsimp only [Option.bind] at x
  refine hc ρ σ S H _ q r.toRl qc fun S1 H1 z1 => ?_
  cases q with
  | true => exact vB (ht A Λ ρ σ S1 H1 D o (r.ext z1) (by simpa using x) (k.mono z1.sh))
  | false => exact vo (hu A Λ ρ σ S1 H1 D o (r.ext z1) (by simpa using x) (k.mono z1.sh))
@[simp] def Kf (m n : XR) : XR := fun ρ => (m ρ).bind fun o => match o with | .nx ρ' => n ρ' | .rz N => some (.rz N)
@[simp] def vC (m : XR) : XR := fun ρ => (m ρ).bind fun o => match o with | .nx _ => none | .rz N => some (.rz N)
theorem zO {t : TS} {m : XR} (ht : SX K E t m) : SX K E (fun D => t { D with nx := fun _ _ => False }) (vC m) := fun A Λ ρ σ S H D o r x k => by
 unfold vC at x
 cases q : m ρ with
 | none => rw [q] at x; cases x
 | some om =>
  rw [q] at x
  dsimp only [Option.bind] at x
  cases om with
  | nx ρ' => cases x
  | rz N => cases x; exact ht A Λ ρ σ S H _ _ r q k
@[simp] def xrE (m : Env -> Option Str) : XR := fun ρ => (m ρ).map .rz
theorem EA {t : TE} {m : Env -> Option Str} (h : SXE K E t m) : SX K E (t7 t) (xrE m) := fun A Λ ρ σ S H D o r x k => by
 unfold xrE at x
 cases q : m ρ with
 | none => rw [q] at x; cases x
 | some N => rw [q] at x; cases x; exact h A Λ ρ σ S H _ N r q k
def spX (K : W.Frag) (n : Nat) (m : List D -> Option Str) : Sp := fun vs H _ E => vs.length = n /\ ∃ S ds N, Same S H /\ Dens K S ds vs /\ m ds = some N /\ ∀ C S' H', Ext S H S' H' -> W.nsIn K mainGlobals N = some (some (.ref C)) -> E (.ref C) none H'
theorem GA {A S H S1 H1 : Hp} {Λ : Nat -> Option Addr} {ρ : Env} {σ : St} (r : RlA K A Λ ρ σ S H) (z : Ext S H S1 H1) : Same S S1 /\ Same S1 H1 /\ Same A H1 /\ ∀ b, S1 b = none \/ A b = none := ⟨z.sh, z.sub, (r.ext z).asub, (r.ext z).adis⟩
@[simp] def nq (m : List D -> Option Str) (a : XA) : Env -> Option Str := fun ρ => (a ρ).bind m
theorem vK {n : Nat} {m : List D -> Option Str} {t : TA} {a : XA} (h : SA K t a) (hn : ∀ ρ ds, a ρ = some ds -> ds.length = n) : SXE K E (uk (spX K n m) [] E t) (nq m a) := fun A Λ ρ σ S H Q N r x k => by
 unfold nq at x
 cases q : a ρ with
 | none => rw [q] at x; cases x
 | some ds =>
  rw [q] at x
  refine h ρ σ S H _ ds r.toRl q fun vs S1 H1 z1 d1 => ?_
  rw [List.append_nil]
  refine ⟨by rw [<- d1.length]; exact hn ρ ds q, S1, ds, N, z1.sub, d1, x, fun C S2 H2 z2 hC => ?_⟩
  obtain ⟨e1, e2, e3, e4⟩ := GA r (z1.trans z2)
  exact k C S2 H2 e1 e2 e3 e4 hC
theorem Dq {js : List (Option Nat)} {t : TE} {g : TG} {tt : TIf} {te : TE} {m : Env -> Option Str} (h : SXE K E t m) : SXE K E (wo js (EO K t) g tt te) m := fun A Λ ρ σ S H Q N r x k => h A Λ ρ σ S H _ N r x k
def fnX (n : Nat) (m : XR) (ds : List D) : Option Str := match m (ds.map .sh ++ List.replicate (n - ds.length) .un) with
 | some (.rz N) => some N
 | _ => none
theorem FT {S1 H1 : Hp} (s1 : Same S S1) (s2 : Same S1 H1) (s3 : Same (gP S H) H1) (s4 : ∀ b, S1 b = none \/ gP S H b = none) : Ext S H S1 H1 := ⟨s1, s2, fun b o hb hn => by
 have ha := mo hb hn
 refine ⟨s3 b o ha, ?_⟩
 rcases s4 b with z | z
 ·exact z
 ·rw [ha] at z; cases z⟩
theorem CS {t : TS} {m : XR} {N : List Str} {n k : Nat} {vs : List V} {H : Hp} {Q : VK} (hs : SX K E t m) (hN : N.length = n) (h : spX K k (fnX n m) vs H Q E) : t { nx := fun _ H' => Q .non H', rt := Q } (L2.aG N vs) H := by
 obtain ⟨_, S, ds, M, s, dd, y, q⟩ := h
 subst hN
 unfold fnX at y
 have r := w9 (N := N) s dd
 split at y <;> cases y
 rename_i qx
 exact hs _ _ _ _ S H _ _ r qx fun C S' H' s1 s2 s3 s4 hC => q C S' H' (FT s1 s2 s3 s4) hC
theorem zL : ∀ bs : List Bool, Dens K S (bs.map D.bl) (bs.map V.bl)
 | [] => .nil
 | b :: bs => .cons (den_bl.mpr rfl) (zL bs)
def kS (N : Str) : List (List (Str × Bool)) -> Option (List Bool)
 | [] => some []
 | a :: l => (a.lookup N).bind fun b => (kS N l).map fun bs => b :: bs
theorem CF {i : Nat} {N : Str} : ∀ {l : List (List (Str × Bool))} {bs : List Bool}, kS N l = some bs -> ∀ σ H (Q : List V -> Hp -> Prop) e C, σ[i]? = some (some (.ref e)) -> H e = some (wB C e) -> W.nsIn K mainGlobals N = some (some (.ref C)) -> Q (bs.map V.bl) H -> wC K i l σ H Q
 | [], bs, h, σ, H, Q, e, C, _, _, _, q => by cases h; exact q
 | a :: l, bs, h, σ, H, Q, e, C, h1, h2, h3, q => by
  unfold kS at h
  cases qa : a.lookup N with
  | none => rw [qa] at h; cases h
  | some b =>
   rw [qa] at h
   cases ql : kS N l with
   | none => rw [ql] at h; cases h
   | some bs' =>
    rw [ql] at h
    cases h
    exact ⟨e, C, N, b, h1, h2, h3, qa, CF ql σ H _ e C h1 h2 h3 q⟩
def zI (K : W.Frag) (i : Nat) : List (Nat × List (List (Str × Bool))) -> TS
 | [] => zg
 | [p] => rH (AE (wC K i p.2)) (gB p.1)
 | p :: l => F2 (rH (AE (wC K i p.2)) (gB p.1)) (zI K i l)
def g6 (i : Nat) (N : Str) : List (Nat × List (List (Str × Bool))) -> Env -> Option Env
 | [], ρ => some ρ
 | p :: l, ρ => if p.1 = i then none else (kS N p.2).bind fun bs => if bs.length <= 1000 then g6 i N l (ρ.set p.1 (.sh (.lst (bs.map .bl)))) else none
def SU (K : W.Frag) (i : Nat) (N : Str) (t : TS) (f : Env -> Option Env) : Prop := ∀ A Λ ρ σ S H (D : Ends) e C ρ', RlA K A Λ ρ σ S H -> f ρ = some ρ' -> σ[i]? = some (some (.ref e)) -> H e = some (wB C e) -> W.nsIn K mainGlobals N = some (some (.ref C)) ->
 (∀ σ' S' H', RlA K A Λ ρ' σ' S' H' -> Same S S' -> σ'[i]? = some (some (.ref e)) -> H' e = some (wB C e) -> D.nx σ' H') -> t D σ H
theorem DV {i : Nat} {N : Str} (p : Nat × List (List (Str × Bool))) : SU K i N (rH (AE (wC K i p.2)) (gB p.1)) (g6 i N [p]) := fun A Λ ρ σ S H D e C ρ' r hf h1 h2 h3 k => by
 unfold g6 at hf
 split at hf
 ·cases hf
 ·rename_i hij
  cases ql : kS N p.2 with
  | none => rw [ql] at hf; cases hf
  | some bs =>
   rw [ql] at hf
   dsimp only [Option.bind] at hf
   split at hf
   ·rename_i hl
    cases hf
    refine CF ql σ H _ e C h1 h2 h3 ⟨by rw [List.length_map]; exact Nat.le_trans hl (by rw [sizeLine_eq]; decide), fun a ha => ?_⟩
    have z : Ext S H (upd S a (.lst (bs.map V.bl))) (upd H a (.lst (bs.map V.bl))) := Ext.new r.sub ha
    refine k _ (upd S a (.lst (bs.map V.bl))) _ ((r.ext z).set p.1 (den_lst.mpr ⟨a, bs.map V.bl, rfl, .inl aJ, zL bs⟩)) z.sh ?_ ?_
    ·rw [List.getElem?_set_ne hij]; exact h1
    ·rw [aA (aP h2 ha)]; exact h2
   ·cases hf
theorem yL {i : Nat} {N : Str} {p : Nat × List (List (Str × Bool))} {l : List (Nat × List (List (Str × Bool)))} {ρ ρ' : Env} (h : g6 i N (p :: l) ρ = some ρ') : ∃ ρ1, g6 i N [p] ρ = some ρ1 /\ g6 i N l ρ1 = some ρ' := by
 rw [g6] at h
 split at h
 ·cases h
 ·rename_i hij
  cases ql : kS N p.2 with
  | none => rw [ql] at h; cases h
  | some bs =>
   rw [ql] at h
   dsimp only [Option.bind] at h
   split at h
   ·rename_i hl
    refine ⟨ρ.set p.1 (.sh (.lst (bs.map .bl))), ?_, h⟩
    rw [g6, if_neg hij, ql]
    show (if bs.length <= 1000 then _ else none) = _
    rw [if_pos hl]
    rfl
   ·cases h
theorem zF {i : Nat} {N : Str} : ∀ l : List (Nat × List (List (Str × Bool))), SU K i N (zI K i l) (g6 i N l)
 | [] => fun A Λ ρ σ S H D e C ρ' r hf h1 h2 h3 k => by cases hf; exact k σ S H r (Same.refl _) h1 h2
 | [p] => DV p
 | p :: q :: l => fun A Λ ρ σ S H D e C ρ' r hf h1 h2 h3 k => by
  obtain ⟨ρ1, f1, f2⟩ := yL hf
  refine DV p A Λ ρ σ S H _ e C ρ1 r f1 h1 h2 h3 fun σ' S' H' r' z a b => ?_
  exact zF (q :: l) A Λ ρ1 σ' S' H' D e C ρ' r' f2 a b h3 fun σ2 S2 H2 r2 z2 a2 b2 => k σ2 S2 H2 r2 (z.trans z2) a2 b2
theorem RlA.drop {A : Hp} {Λ : Nat -> Option Addr} {ρ : Env} {σ : St} (r : RlA K A Λ ρ σ S H) (i : Nat) : RlA K A Λ (ρ.set i .un) (σ.set i none) S H := by
 obtain ⟨Φ, f⟩ := r
 have ge : ∀ (j : Nat) t, (ρ.set i .un)[j]? = some t -> t ≠ .un -> j ≠ i /\ ρ[j]? = some t := fun j t h n => by
  rcases bv h with ⟨_, e, _⟩ | ⟨hij, h⟩
  ·exact absurd e n
  ·exact ⟨Ne.symm hij, h⟩
 exact ⟨Φ, {
  len := by rw [List.length_set, List.length_set]; exact f.len
  sub := f.sub
  sh := fun j d h => by
   obtain ⟨hj, h⟩ := ge j _ h (by intro z; cases z)
   rw [List.getElem?_set_ne (Ne.symm hj)]
   exact f.sh j d h
  ow := fun j o h => by
   obtain ⟨hj, h⟩ := ge j _ h (by intro z; cases z)
   rw [List.getElem?_set_ne (Ne.symm hj)]
   exact f.ow j o h
  dj := fun j k o o' hjk h1 h2 => f.dj j k o o' hjk (ge j _ h1 (by intro z; cases z)).2 (ge k _ h2 (by intro z; cases z)).2
  lo := fun j h => by
   obtain ⟨hj, h⟩ := ge j _ h (by intro z; cases z)
   rw [List.getElem?_set_ne (Ne.symm hj)]
   exact f.lo j h
  asub := f.asub
  adis := f.adis }⟩
@[simp] def BJ (L : List Str) (i : Nat) (m : XR) (l : List (Nat × List (List (Str × Bool)))) : XS := fun ρ => if i < ρ.length then (m ρ).bind fun o => match o with
 | .rz N => if L.contains N then (g6 i N l (ρ.map fun _ => .un)).map fun ρ' => .nx (ρ'.set i .un) else none
 | .nx ρ' => some (.nx ρ') else none
theorem GZ {L : List Str} {i : Nat} {tb : XK -> TS} {m : XR} {l : List (Nat × List (List (Str × Bool)))} (hb : ∀ E, SX K E (tb E) m) : SS K (Hy K L i tb (zI K i l)) (BJ L i m l) := fun A Λ ρ σ S H D o r q k => by
 unfold BJ at q
 split at q <;> try (cases q; done)
 rename_i hi
 cases qm : m ρ with
 | none => rw [qm] at q; cases q
 | some om =>
  rw [qm] at q
  dsimp only [Option.bind] at q
  have hlen : σ.length = ρ.length := by obtain ⟨_, f⟩ := r; exact f.len
  refine hb _ A Λ ρ σ S H D om r qm ?_
  cases om with
  | nx ρ' => cases q; exact k
  | rz N =>
   dsimp only at q
   split at q <;> try (cases q; done)
   rename_i hN
   cases qf : g6 i N l (ρ.map fun _ => .un) with
   | none => rw [qf] at q; cases q
   | some ρ' =>
    rw [qf] at q
    cases q
    intro C S1 H1 s1 s2 s3 s4 hC
    refine ⟨N, C, by simpa using hN, rfl, hC, fun e he => ?_⟩
    have r0 : RlA K A Λ (ρ.map fun _ => Sl.un) ((List.replicate σ.length none).set i (some (.ref e))) S1 (upd H1 e (wB C e)) := by
     have no : ∀ (j : Nat) t, (ρ.map fun _ => Sl.un)[j]? = some t -> t = .un := fun j t h => by
      rw [List.getElem?_map] at h
      cases qj : ρ[j]? with
      | none => rw [qj] at h; cases h
      | some _ => rw [qj] at h; cases h; rfl
     exact ⟨fun _ => [], {
      len := by rw [List.length_set, List.length_replicate, List.length_map]; exact hlen
      sub := fun b o h => by rw [aA (aP (s2 b o h) he)]; exact s2 b o h
      sh := fun j d h => by cases no j _ h
      ow := fun j d h => by cases no j _ h
      dj := fun j _ d _ _ h => by cases no j _ h
      lo := fun j h => by cases no j _ h
      asub := fun b o h => by rw [aA (aP (s3 b o h) he)]; exact s3 b o h
      adis := s4 }⟩
    refine zF l A Λ _ _ S1 _ _ e C ρ' r0 qf (List.getElem?_set_self (by rw [List.length_replicate, hlen]; exact hi)) aJ hC fun σ' S' H' r' z _ _ => ?_
    exact k _ S' H' (r'.drop i) (s1.trans z)
end
end M
namespace L2
open PySem PySem.Spec PyProof.Rows
theorem AB {P : Program} {w : World} {K : W.Frag} {tg : Expr} (it : Addr) (lo : Int) (n : Nat) : Turn P w K tg (Itr lo n) [it] it (fun i h => IsLongIter h it (lo + (i : Nat) * 1) ((n : Int) - (i : Nat)) 1) where
 mem := by simp
 obj := fun i h st b hb => by
  obtain rfl : b = it := by simpa using hb
  refine ⟨_, st, fun v z => ?_⟩
  have y : Data.fields _ = Data.cell v := z
  cases y
 keep := fun i h h' st k => k it (by simp) _ st
 item := by
  intro X hP hw hK hc i pins s σ H E I hf st hg
  subst hP hw hK
  have ⟨g0, g1, g2, g3, g4, g5⟩ := hf it (by simp)
  refine (Walks.longrange (prog := X.prog) (w := X.w) (I.ok.hd hc) it lo 1 n).item i s _ _ hg st fun v h' tk hv st' kk => ?_
  obtain ⟨t, rfl⟩ := hv
  have J : Inv X pins σ H { s with heap := h', toks := tk } := I.turned (fun b o hb q => kk b o (by simpa using hb) q) g0 g1 g3 g4 g5
  exact ⟨_, rfl, eJ (s := { s with heap := h', toks := tk }) (n := "longrange_iterator") st' rfl rfl (by decide) ⟨.int (lo + i), H, J, ⟨t, by rw [Int.mul_one]⟩, ⟨rfl, rfl⟩, st', fun b hb => (hf b hb).1⟩⟩
 done := by
  intro X hP hw hK hc i pins s σ H E I hf st hg
  subst hP hw hK
  have ⟨g0, g1, g2, g3, g4, g5⟩ := hf it (by simp)
  exact wpAny_pyNext_long_end (I.ok.hd hc) st (by have : n <= i := hg; lia) fun h' eb => ⟨rfl, I.turned (t' := s.toks) (fun b o hb q => eb b o hb q) g0 g1 g3 g4 g5⟩
 self := fun _ _ _ _ _ st h => wpAny_pyIter_longiter st h
section
variable {X : Cx} {tg : Expr}
theorem zU {pins : List (Addr × Obj)} {σ : St} {H : Hp} {s : Shared} {R : It -> Hp -> Prop} {E : Value -> Shared -> Prop} {lo hi : Int} {t u v : Tok} {tk : Nat} (I : Inv X pins σ H s) (q : R (Itr lo (hi - lo).toNat) H) :
  wpAny (model X.prog X.w) X.A (pyIter (.ref s.heap.objs.size)) (PIE X pins σ tg R) E { s with heap := s.heap.push { cls := .type "range", data := .fields #[.int lo t, .int hi u, .int 1 v] }, toks := tk } := by
 have J : Inv X pins σ H { s with heap := s.heap.push { cls := .type "range", data := .fields #[.int lo t, .int hi u, .int 1 v] }, toks := tk } := I.kept fun b o z => Heap.get?_push_of_some _ z
 have hs : (((hi - lo).toNat : Nat) : Int) - ((0 : Nat) : Int) = Builtin.Range.rangeSize lo hi 1 := by rw [rangeSize_one]; split <;> lia
 have h0 : lo + ((0 : Nat) : Int) * 1 = lo := by simp
 cases hb : Builtin.Range.small lo hi 1 with
 | true =>
  refine wpAny_pyIter_range (IsRange.new ..) hb ?_
  refine ⟨_, [(s.heap.push { cls := .type "range", data := .fields #[.int lo t, .int hi u, .int 1 v] }).objs.size], _, _, H, rfl, J.kept (t' := tk) fun b o z => Heap.get?_push_of_some _ z, pf _ lo (hi - lo).toNat, ?_, fun b hb => ?_, q⟩
  ·show IsRangeIter _ _ (lo + ((0 : Nat) : Int) * 1) ((((hi - lo).toNat : Nat) : Int) - ((0 : Nat) : Int)) 1
   rw [h0, hs]
   exact Heap.get?_push_size _ rfl
  ·have z : b = (s.heap.push { cls := .type "range", data := .fields #[.int lo t, .int hi u, .int 1 v] }).objs.size := by simpa using hb
   subst z
   exact J.fpOk (Nat.le_refl _) (J.hok.fresh (Nat.le_refl _))
 | false =>
  refine wpAny_pyIter_longrange (IsRange.new ..) hb ?_
  refine ⟨_, [(s.heap.push { cls := .type "range", data := .fields #[.int lo t, .int hi u, .int 1 v] }).objs.size], _, _, H, rfl, J.kept (t' := tk) fun b o z => Heap.get?_push_of_some _ z, AB _ lo (hi - lo).toNat, ?_, fun b hb => ?_, q⟩
  ·show IsLongIter _ _ (lo + ((0 : Nat) : Int) * 1) ((((hi - lo).toNat : Nat) : Int) - ((0 : Nat) : Int)) 1
   rw [h0, hs]
   exact Heap.get?_push_size _ rfl
  ·have z : b = (s.heap.push { cls := .type "range", data := .fields #[.int lo t, .int hi u, .int 1 v] }).objs.size := by simpa using hb
   subst z
   exact J.fpOk (Nat.le_refl _) (J.hok.fresh (Nat.le_refl _))
def Fb (ta : TA) : TI := fun σ H R => ta σ H fun vs H1 => ∃ i j : Int, vs = [.int i, .int j] /\ R (Itr i (j - i).toNat) H1
theorem mW {a b : Expr} {ta : TA} {p pos : Pos} (hg : Gl X "range") (hm : X.mg "range" = none) (ha : PA X [a, b] ta) (hs : starEach [a, b] X.env = [(false, eval a X.env), (false, eval b X.env)] := by rfl) (hs2 : starEach [b] X.env = [(false, eval b X.env)] := by rfl) :
  PI X tg (.Call (.Name "range" p) [a, b] [] pos) (Fb ta) := by
 intro pins s σ H R I h
 refine Call_ (pe I hg hm boot_range (PyProof.Rows.callWith_type1 (thn (ha pos pins s σ H _ I h) fun us s1 hpt9 => ?_) (by rw [hs, hs2]) (by rw [hs2]; rfl)))
 obtain ⟨vs, H1, I1, r1, q1⟩ := hpt9
 obtain ⟨i, j, rfl, q⟩ := q1
 obtain ⟨u1, u2, rfl, r, r'⟩ := Vals.two r1
 obtain ⟨t, rfl⟩ := r
 obtain ⟨t', rfl⟩ := r'
 exact call_range_2 (zU I1 q)
end
end L2
namespace M
open PySem L2
section
variable {K : W.Frag} {S S' H H' : Hp}
def BO : List D -> Option (List D)
 | [.int i, .int j] => some (gy i (j - i).toNat)
 | _ => none
@[simp] def um (a : XA) : XA := fun ρ => (a ρ).bind BO
theorem ya {ta tb : TE} {a b : XE} (h : SPk K ta a) (hb : SPk K tb b) : SI K (Fb (d9 ta (d9 tb kJ))) (um (ag a (ag b au))) := fun ρ σ S H R l r x k => by
 unfold um at x
 cases q : ag a (ag b au) ρ with
 | none => rw [q] at x; cases x
 | some ds =>
  rw [q] at x
  obtain ⟨d, e, qa, qb, rfl⟩ := iB q
  obtain ⟨d2, e2, qa2, qb2, rfl⟩ := iB qb
  cases qb2
  cases d <;> try (cases x; done)
  cases d2 <;> try (cases x; done)
  cases x
  refine h ρ σ S H _ _ r qa fun v S1 H1 z1 d1 => hb ρ σ S1 H1 _ _ (r.ext z1) qa2 fun w S2 H2 z2 d2 => ?_
  exact ⟨_, _, by rw [d1.int, d2.int], k _ S2 H2 (z1.trans z2) (t9 _ _)⟩
end
end M
namespace L2
open PySem PySem.Spec PyProof.Rows
section
variable {X : Cx} {tg : Expr}
end
end L2
namespace M
open PySem L2
section
variable {K : W.Frag} {S S' H H' : Hp}
def Gm (x : Str) : List D := x.cps.toList.map fun c => D.str ⟨#[c]⟩
def sgD : D -> Option (List D)
 | .str x => some (Gm x)
 | _ => none
@[simp] def Kk (e : XE) : XA := fun ρ => (e ρ).bind sgD
def I9 (d : D) (lo hi : Option Int) : Option D := match d with
 | .str x => if x.length <= LIM then some (.str (Txt.slice x lo hi)) else none
 | _ => none
@[simp] def Kp (a : XE) (lo hi : XO) : XE := fun ρ => (a ρ).bind fun d => (lo ρ).bind fun l => (hi ρ).bind fun h => I9 d l h
end
end M
namespace L2
open PySem
end L2
namespace L2
open PySem PySem.Spec PyProof.Rows
section
variable {X : Cx}
inductive PJ (X : Cx) : List Expr -> List TE -> Prop
 | nil : PJ X [] []
 | cons {e : Expr} {t : TE} {es : List Expr} {ts : List TE} : PE X e t -> PJ X es ts -> PJ X (e :: es) (t :: ts)
end
end L2
namespace M
open PySem L2
section
variable {K : W.Frag} {S S' H H' : Hp}
def fvD : D -> Option D
 | .int i => if i.natAbs.log2 < 1920 then some (.str (toString i)) else none
 | .str y => if y.length <= LIM then some (.str y) else none
 | _ => none
@[simp] def xFv (e : XE) : XE := fun ρ => (e ρ).bind fvD
inductive SJ (K : W.Frag) : List TE -> List XE -> Prop
 | nil : SJ K [] []
 | cons {t : TE} {a : XE} {ts : List TE} {as : List XE} : SPk K t a -> SJ K ts as -> SJ K (t :: ts) (a :: as)
end
end M
namespace L2
open PySem PySem.Spec PyProof.Rows
section
variable {M : Model} {A : Around} {Ex : Value -> Shared -> Prop} {s : Shared}
end
section
variable {P : Program} {w : World} {K : W.Frag} {mg : Str -> Option Value} {base : Heap} {N : List Str} {qual : Str} {scope : Scope} {f : Addr} {cdv : Value} {A : Around} {outer : List Env} {s : Shared} {H : Hp} {E : XK}
end
section
variable {X : Cx} {pins : List (Addr × Obj)} {σ : St} {H : Hp} {s : Shared} {XN N : List Str} {sc scope : Scope} {js : List (Option Nat)}
variable {tg iter elt : Expr} {ifs : List Expr} {pos : Pos} {wi : TI} {g : TG} {tt : TIf} {te : TE} {E : XK}
end
def GJ (t u : TS) : TS := fun D σ H => t D σ H \/ u D σ H
section
variable {X : Cx}
theorem GX {st : Stmt} {t u : TS} (h : PS X st t) (k : PS X st u) : PS X st (GJ t u) := fun pins s σ H D I q => q.elim (h pins s σ H D I) (k pins s σ H D I)
end
end L2
namespace M
open PySem L2
section
variable {K : W.Frag} {S S' H H' : Hp} {E : XK}
@[simp] def GT (m : XS) : XR := fun ρ => match m ρ with | some (.nx ρ') => some (.nx ρ') | _ => none
theorem HK {t : TS} {m : XS} (h : SS K t m) : SX K E t (GT m) := fun A Λ ρ σ S H D o r x k => by
 unfold GT at x
 split at x <;> cases x
 rename_i q
 exact h A Λ ρ σ S H D _ r q k
@[simp] def FQ (n : Env -> Option Str) (m : XS) : XR := fun ρ => match n ρ with | some N => some (.rz N) | none => (match m ρ with | some (.nx ρ') => some (.nx ρ') | _ => none)
theorem Hf {t u : TS} {n : Env -> Option Str} {m : XS} (ht : SX K E t (xrE n)) (hu : SS K u m) : SX K E (GJ t u) (FQ n m) := fun A Λ ρ σ S H D o r x k => by
 unfold FQ at x
 cases q : n ρ with
 | some N =>
  rw [q] at x
  cases x
  exact .inl (ht A Λ ρ σ S H D _ r (by unfold xrE; rw [q]; rfl) k)
 | none =>
  rw [q] at x
  exact .inr (HK (E := E) hu A Λ ρ σ S H D o r x k)
theorem Fw {t : TE} {g : TG} {m : Env -> Option Str} (h : SXE K E t m) : SX K E (rH t g) (xrE m) := fun A Λ ρ σ S H D o r x k => by
 unfold xrE at x
 cases q : m ρ with
 | none => rw [q] at x; cases x
 | some N => rw [q] at x; cases x; exact h A Λ ρ σ S H _ N r q k
@[simp] def Ij (m : Env -> Option Str) : Env -> Option Str := m
@[simp] def IQ (e : XE) (m : Env -> Option Str) : Env -> Option Str := fun ρ => (e ρ).bind fun _ => m ρ
@[simp] def KG (n : Env -> Option Str) (e : XE) (m : Env -> Option Str) : Env -> Option Str := fun ρ => match n ρ with | some N => some N | none => (e ρ).bind fun _ => m ρ
@[simp] def J4 (i : Nat) (m : Env -> Option Str) : Env -> Option Str := fun ρ => match ρ[i]? with | some (.ow (.lst _)) => m ρ | _ => none
def Da (g : XG) (c : XT) (e : XE) (n : Env -> Option Str) (ρ0 : Env) : List D -> Option Str
 | [] => none
 | d :: l => (g d ρ0).bind fun ρ1 => (c ρ1).bind fun b => if b = true then (match n ρ1 with | some N => some N | none => (e ρ1).bind fun _ => Da g c e n ρ0 l) else Da g c e n ρ0 l
@[simp] def Ix (js : List (Option Nat)) (w : XA) (g : XG) (c : XT) (e : XE) (n : Env -> Option Str) : Env -> Option Str := fun ρ => (w ρ).bind fun l => if l.length <= LIM then Da g c e n (oG js ρ) l else none
def Fa (g : XG) (m : XR) : List D -> Env -> Option RO
 | [], ρ => some (.nx ρ)
 | d :: l, ρ => (g d ρ).bind fun ρ1 => (m ρ1).bind fun o => match o with | .nx ρ2 => Fa g m l ρ2 | .rz N => some (.rz N)
@[simp] def Ka (e : XA) (g : XG) (m : XR) : XR := fun ρ => (e ρ).bind fun l => Fa g m l ρ
end
end M
namespace L2
open PySem
end L2
namespace L2
open PySem PySem.Spec PyProof.Rows
section
variable {κ : Type} [DecidableEq κ]
def iW (kvs : List (κ × V)) (k : κ) : Option V := (kvs.find? fun kv => decide (kv.1 = k)).map (·.2)
def lQ (kvs : List (κ × V)) (k : κ) (v : V) : List (κ × V) :=
 if (kvs.any fun kv => decide (kv.1 = k)) = true then kvs.map (fun kv => if kv.1 = k then (kv.1, v) else kv) else kvs ++ [(k, v)]
def sQ (kvs : List (κ × V)) (k : κ) : List (κ × V) := kvs.filter fun kv => decide (kv.1 ≠ k)
theorem j6 {p : κ × V} {r : List (κ × V)} {k : κ} (e : p.1 = k) : iW (p :: r) k = some p.2 := by simp [iW, List.find?_cons, e]
theorem j5 {p : κ × V} {r : List (κ × V)} {k : κ} (e : ¬ p.1 = k) : iW (p :: r) k = iW r k := by simp [iW, List.find?_cons, e]
theorem mh (k : κ) : ∀ kvs : List (κ × V), (kvs.any fun kv => decide (kv.1 = k)) = (iW kvs k).isSome
 | [] => rfl
 | p :: r => by
  rw [List.any_cons]
  by_cases e : p.1 = k
  ·simp only [j6 e, decide_eq_true e, Bool.true_or, Option.isSome_some]
  ·rw [j5 e, decide_eq_false e, Bool.false_or]; exact mh k r
theorem nJ (kvs : List (κ × V)) (k : κ) (v : V) : (lQ kvs k v).length <= kvs.length + 1 := by
 unfold lQ
 split
 ·rw [List.length_map]; lia
 ·rw [List.length_append, List.length_cons, List.length_nil]; lia
theorem C6 {kvs : List (κ × V)} {k : κ} (v : V) (h : iW kvs k = none) : lQ kvs k v = kvs ++ [(k, v)] := by
 unfold lQ
 rw [mh, h]
 exact if_neg (by decide)
theorem RelO.isSome_eq {o : Option V} {u : Option Value} (r : RelO o u) : o.isSome = u.isSome := by
 cases o with
 | none => cases u with
  | none => rfl
  | some _ => exact (show False from r).elim
 | some _ => cases u with
  | none => exact (show False from r).elim
  | some _ => rfl
theorem KV.val {kvs : List (κ × V)} {vs : List (κ × Value)} (r : KV kvs vs) (k : κ) : RelO (iW kvs k) (valueAt vs k) := by
 unfold KV at r
 induction r with
 | nil => exact True.intro
 | @cons p q ps qs h t ih =>
  obtain ⟨h1, h2⟩ := h
  by_cases e : p.1 = k
  ·have e' : q.1 = k := h1.symm.trans e
   have b : valueAt (q :: qs) k = some q.2 := by simp [valueAt, List.find?_cons, e']
   rw [j6 e, b]; exact h2
  ·have e' : ¬ q.1 = k := fun z => e (h1.trans z)
   have b : valueAt (q :: qs) k = valueAt qs k := by simp [valueAt, List.find?_cons, e']
   rw [j5 e, b]; exact ih
theorem KV.length {kvs : List (κ × V)} {vs : List (κ × Value)} (r : KV kvs vs) : kvs.length = vs.length := Paired.length r
theorem CA (kvs : List (κ × V)) (k : κ) : (sQ kvs k).length <= kvs.length := List.length_filter_le _ _
end
theorem Dh {P : Program} {w : World} {k : Key} {u : Value} (r : RelV (kV k) u) : (bG P w).is k u = true := by
 cases k with
 | inl i => obtain ⟨t, e⟩ := (show ∃ t, u = Value.int i t from r); subst e; exact wR P w i t
 | inr x => obtain ⟨t, e⟩ := (show ∃ t, u = Value.str x t from r); subst e; exact wj P w x t
theorem tV {P : Program} {w : World} : ∀ {ks : List Key} {us : List Value}, Vals (ks.map kV) us -> ItemsAre (bG P w) ks us
 | [], _, r => by rw [List.map_nil] at r; cases r; exact .nil
 | k :: ks, _, r => by
  rw [List.map_cons] at r
  cases r with
  | cons h t => exact .cons (Dh h) (tV t)
abbrev KT (H : Hp) : List (List Key × V) -> List (List Key × Addr × Value) -> Prop := Paired fun p q => p.1 = q.1 /\ H q.2.1 = some (.tup (p.1.map kV)) /\ RelV p.2 q.2.2
theorem KT.val {H : Hp} {kvs : List (List Key × V)} {xs : List (List Key × Addr × Value)} (r : KT H kvs xs) (k : List Key) : RelO (iW kvs k) ((atKey xs k).map (·.2)) := by
 induction r with
 | nil => exact True.intro
 | @cons p q ps qs h t ih =>
  obtain ⟨h1, _, h2⟩ := h
  by_cases e : p.1 = k
  ·have e' : q.1 = k := h1.symm.trans e
   have b : atKey (q :: qs) k = some q.2 := by simp [atKey, List.find?_cons, e']
   rw [j6 e, b]; exact h2
  ·have e' : ¬ q.1 = k := fun z => e (h1.trans z)
   have b : atKey (q :: qs) k = atKey qs k := by simp [atKey, List.find?_cons, e']
   rw [j5 e, b]; exact ih
theorem KT.repl {H : Hp} {kvs : List (List Key × V)} {xs : List (List Key × Addr × Value)} (r : KT H kvs xs) (k : List Key) {y : V} {u : Value} (ry : RelV y u) :
  KT H (kvs.map fun kv => if kv.1 = k then (kv.1, y) else kv) (xs.map (putAt k u)) := by
 induction r with
 | nil => exact .nil
 | @cons p q ps qs h t ih =>
  rw [List.map_cons, List.map_cons]
  refine .cons ?_ ih
  obtain ⟨h1, h2, h3⟩ := h
  unfold putAt
  by_cases e : p.1 = k
  ·rw [if_pos e, if_pos (h1.symm.trans e)]; exact ⟨h1, h2, ry⟩
  ·rw [if_neg e, if_neg (fun z => e (h1.trans z))]; exact ⟨h1, h2, h3⟩
theorem KT.put {H : Hp} {kvs : List (List Key × V)} {xs : List (List Key × Addr × Value)} (r : KT H kvs xs) (k : List Key) {b : Addr} {y : V} {u : Value} (hb : H b = some (.tup (k.map kV))) (ry : RelV y u) :
  KT H (lQ kvs k y) (storedH xs k b u) := by
 have e : (kvs.any fun kv => decide (kv.1 = k)) = (atKey xs k).isSome := by
  rw [mh, (r.val k).isSome_eq, Option.isSome_map]
 unfold lQ storedH
 rw [e]
 by_cases q : (atKey xs k).isSome = true
 ·rw [if_pos q, if_pos q]; exact r.repl k ry
 ·rw [if_neg q, if_neg q]; exact Paired.snoc r ⟨rfl, hb, ry⟩
theorem KT.keeps {H H' : Hp} {kvs : List (List Key × V)} {xs : List (List Key × Addr × Value)} (r : KT H kvs xs) (ht : ∀ b ys, H b = some (.tup ys) -> H' b = some (.tup ys)) : KT H' kvs xs :=
 Paired.mapP r fun _ _ z => ⟨z.1, ht _ _ z.2.1, z.2.2⟩
section
variable {P : Program} {w : World} {H : Hp} {h : Heap} {a : Addr}
theorem eo {u : HO} (ok : HOk P w H h) (e : Rd H a u) : ObjOk P w H h a u := e.ok ok
theorem Fq {kvs : List (Key × V)} (ok : HOk P w H h) (e : Rd H a (.dK kvs)) : kvs.length <= sizeLine /\ (a == sysModules) = false /\ ∃ vs, KV kvs vs /\ h.DictOf (bG P w) a vs :=
 show ObjOk P w H h a (.dK kvs) from eo ok e
theorem pS {ks : List Key} (ok : HOk P w H h) (e : H a = some (.tup (ks.map kV))) : (tupleKind (bG P w)).is h ks a := by
 obtain ⟨_, its, r, o, h1, h2, n, h3⟩ := (show ObjOk P w H h a (.tup (ks.map kV)) from ok a _ e)
 exact ⟨o, its.toArray, n, h1, h2, h3, by simpa using tV r⟩
theorem Ck {kvs : List (List Key × V)} (ok : HOk P w H h) (e : Rd H a (.dT kvs)) : kvs.length <= sizeLine /\ (a == sysModules) = false /\
  ∃ xs, KT H kvs xs /\ h.DictOfH (tupleKind (bG P w)) a xs := by
 obtain ⟨z, y, xs, r, o, es, ep, h1, h2, h3, h4, h5⟩ := (show ObjOk P w H h a (.dT kvs) from eo ok e)
 refine ⟨z, y, xs, r, o, es, ep, h1, h2, h3, h4, fun x hx => ?_, h5⟩
 have all : ∀ {l : List (List Key × V)} {m : List (List Key × Addr × Value)}, KT H l m -> ∀ x ∈ m, (tupleKind (bG P w)).is h x.1 x.2.1 := by
  intro l m q
  induction q with
  | nil => intro x hx; exact nomatch hx
  | @cons p q ps qs hq t ih =>
   intro x hx
   rcases List.mem_cons.mp hx with e | hx
   ·subst e
    exact pS ok (by rw [<- hq.1]; exact hq.2.1)
   ·exact ih x hx
 exact all r x hx
theorem Ff {kvs : List (List Key × V)} (ok : HOk P w H h) (e : H a = some (.dT kvs)) : kvs.length <= sizeLine /\ (a == sysModules) = false /\
  ∃ xs, KT H kvs xs /\ h.DictOfH (tupleKind (bG P w)) a xs := Ck ok (.inl e)
end
def EB (H : Hp) (a : Addr) (y : V) (r : Option V) : Prop :=
 (∃ kvs k, Rd H a (.dK kvs) /\ y = kV k /\ r = iW kvs k) \/ ∃ kvs k b, Rd H a (.dT kvs) /\ y = .ref b /\ H b = some (.tup (k.map kV)) /\ r = iW kvs k
section
variable {X : Cx} {pins : List (Addr × Obj)} {σ : St} {H : Hp} {s : Shared} {a : Addr} {y v : V} {u r : Value} {o : Option V} {A : Around} {E : Value -> Shared -> Prop}
theorem Inv.big (I : Inv X pins σ H s) : sysModules < s.heap.objs.size := by
 have h : mainGlobals < s.heap.objs.size := (I.mod.glob.keeps I.bk).lt
 exact Nat.lt_trans (by decide) h
theorem Iv {Q : Value -> Shared -> Prop} (hu : A.units + 1 < cLine) (I : Inv X pins σ H s) (g : EB H a y o) (ry : RelV y u) (h : ∀ s', Inv X pins σ H s' -> Q (.bool o.isSome) s') :
  wpAny (model X.prog X.w) A (compareOp .In u (.ref a)) Q E s := by
 rcases g with ⟨kvs, k, e, ey, l⟩ | ⟨kvs, k, b, e, ey, eb, l⟩
 ·subst ey
  obtain ⟨z, hd, vs, rel, dd⟩ := Fq I.hok e
  refine wpAny_in_of (Dh ry) hd dd.mapOf ?_
  rw [<- (rel.val k).isSome_eq, <- l]
  exact h _ (I.tok _)
 ·subst ey
  cases (show u = Value.ref b from ry)
  obtain ⟨z, hd, xs, rel, dd⟩ := Ck I.hok e
  refine wpAny_in_heap (tupleKind_room_in1 hu) (pS I.hok eb) hd dd ?_
  have q := (rel.val k).isSome_eq
  rw [Option.isSome_map] at q
  rw [<- q, <- l]
  exact h _ (I.tok _)
theorem ER {Q : Value -> Shared -> Prop} (hu : A.units + 1 < cLine) (I : Inv X pins σ H s) (g : EB H a y o) (ry : RelV y u) (h : ∀ s', Inv X pins σ H s' -> Q (.bool (!o.isSome)) s') :
  wpAny (model X.prog X.w) A (compareOp .NotIn u (.ref a)) Q E s := by
 rcases g with ⟨kvs, k, e, ey, l⟩ | ⟨kvs, k, b, e, ey, eb, l⟩
 ·subst ey
  obtain ⟨z, hd, vs, rel, dd⟩ := Fq I.hok e
  refine wpAny_notIn_of (Dh ry) hd dd.mapOf ?_
  rw [<- (rel.val k).isSome_eq, <- l]
  exact h _ (I.tok _)
 ·subst ey
  cases (show u = Value.ref b from ry)
  obtain ⟨z, hd, xs, rel, dd⟩ := Ck I.hok e
  refine wpAny_notIn_heap (tupleKind_room_in1 hu) (pS I.hok eb) hd dd ?_
  have q := (rel.val k).isSome_eq
  rw [Option.isSome_map] at q
  rw [<- q, <- l]
  exact h _ (I.tok _)
theorem uI {h' : Heap} {t' : Nat} {ob : HO} (I : Inv X pins σ H s) (mu : Mut (H a)) (hs : Heap.SameBut a s.heap h') (he : ∃ q, h'.get? a = some q) (new : ObjOk X.prog X.w (upd H a ob) h' a ob) :
  Inv X pins σ (upd H a ob) { s with heap := h', toks := t' } :=
 I.write (x := a) (e := a) mu (.inl rfl) (fun b q hb z => (hs.2 b hb).trans z) he new
end
section
variable {X : Cx} {pins : List (Addr × Obj)} {σ : St} {H : Hp} {s : Shared} {a : Addr} {kvs : List (Key × V)} {k : Key} {u : Value} {A : Around} {E : Value -> Shared -> Prop}
end
def GO (ty td : TE) : TE := fun σ H Q => ty σ H fun y H1 => td σ H1 fun x H2 => ∃ a o, x = .ref a /\ EB H2 a y o /\ Q (.bl o.isSome) H2
def zH (ty td : TE) : TE := fun σ H Q => ty σ H fun y H1 => td σ H1 fun x H2 => ∃ a o, x = .ref a /\ EB H2 a y o /\ Q (.bl (!o.isSome)) H2
section
variable {X : Cx} {o i e value : Expr} {pos pos' tpos : Pos} {td ty tv : TE}
theorem FJ (hu : X.A.units + 1 < cLine) (hi : PE X i ty) (ho : PE X o td) : PC X .In i o (GO ty td) := by
 intro pins s σ H Q I h
 refine thn (hi pins s σ H _ I h) fun iv s1 ⟨y, H1, I1, ry, q1⟩ => thn (ho pins s1 σ H1 _ I1 q1) fun u s2 hpt9 => ?_
 obtain ⟨x, H2, I2, rx, a, ov, ex, g, q2⟩ := hpt9
 subst ex
 obtain rfl : u = Value.ref a := rx
 exact Iv hu I2 g ry fun s3 I3 => ⟨.bl ov.isSome, H2, I3, rfl, q2⟩
theorem AG (hu : X.A.units + 1 < cLine) (hi : PE X i ty) (ho : PE X o td) : PC X .NotIn i o (zH ty td) := by
 intro pins s σ H Q I h
 refine thn (hi pins s σ H _ I h) fun iv s1 ⟨y, H1, I1, ry, q1⟩ => thn (ho pins s1 σ H1 _ I1 q1) fun u s2 hpt9 => ?_
 obtain ⟨x, H2, I2, rx, a, ov, ex, g, q2⟩ := hpt9
 subst ex
 obtain rfl : u = Value.ref a := rx
 exact ER hu I2 g ry fun s3 I3 => ⟨.bl (!ov.isSome), H2, I3, rfl, q2⟩
end
theorem DK {P : Program} {w : World} {H : Hp} (h : Heap) (hb : sysModules < h.objs.size) : ObjOk P w H (h.push { cls := .type "dict", data := .dict #[] }) h.objs.size (.dT []) :=
 ⟨Nat.zero_le _, beq_eq_false_iff_ne.mpr (Ne.symm (Nat.ne_of_lt hb)), [], .nil, _, #[], 0, Heap.get?_push_size _ rfl, ⟨rfl, rfl, rfl⟩, rfl, rfl, List.nodup_nil⟩
section
variable {X : Cx} {pos : Pos}
end
section
variable {X : Cx} {pins : List (Addr × Obj)} {σ : St} {H : Hp} {s : Shared} {a : Addr} {y d : V} {u r : Value} {o : Option V} {A : Around} {E : Value -> Shared -> Prop}
end
section
variable {X : Cx} {o e f : Expr} {apos cpos : Pos} {td ty tx : TE}
end
end L2
namespace PySem
namespace DX
theorem vk : typeLookup (.type "list") "keys" = pure none := by rw [typeLookup_type, builtinLookup_eq_fast]; kernel_rfl
theorem yK : typeLookup (.type "list") "__getattr__" = pure none := by rw [typeLookup_type, builtinLookup_eq_fast]; kernel_rfl
theorem kR : isSubtype (.type "AttributeError") (.type "AttributeError") = pure true := by rw [isSubtype_type]; kernel_rfl
theorem x8 : ((Manifest.find? "AttributeError").elim false fun t => t.mro.contains "StopIteration" || t.mro.contains "SystemExit") = false := by first | rfl | kernel_rfl | decide +kernel
section
variable {prog : Program} {w : World} {A : Around} {E : Value -> Shared -> Prop} {s : Shared} {a : Addr} {its : Array Value} {n : Nat} {α : Type}
theorem Ae {msg nm : Str} {Q : α -> Shared -> Prop} (hh : A.handled = none) (hm : msg.length <= sizeLine) (hq : ∀ h' tk' e oe, (∀ b o, s.heap.get? b = some o -> h'.get? b = some o) -> h'.get? e = some oe -> oe.cls = .type "AttributeError" -> E (.ref e) { s with heap := h', toks := tk' }) :
  wpAny (model prog w) A (raiseAttrError (.ref a) nm msg : Sem α) Q E s := by
 unfold raiseAttrError
 refine wpAny_bind (wpAny_mkStr (wpAny_bind ?_) hm)
 unfold newExc newTuple
 refine wpAny_bind (wpAny_newObj_type ?_ (by size_fits))
 refine wpAny_bind (m := firstArgMember _ _) (wpAny_of_eq (a := Value.none) (by simp only [firstArgMember, x8]; rfl) ?_)
 refine wpAny_newObj_type ?_ (by size_fits)
 refine wpAny_bind (wpAny_mkText ?_)
 refine wpAny_bind ?_
 have f1 := kR
 unfold noteAttr lacksNameAndObj
 have ho := Heap.get?_push_size (s.heap.push { cls := .type "tuple", data := .seq [Value.str msg s.toks].toArray }) (o := { cls := .type "AttributeError", data := .fields (#[.ref s.heap.objs.size, .none, .none, .none, .bool false, .none] ++ ownMembersOf (.type "AttributeError") [Value.str msg s.toks]) }) rfl
 have hT : ({ s with heap := (s.heap.push { cls := .type "tuple", data := .seq [Value.str msg s.toks].toArray }).push { cls := .type "AttributeError", data := .fields (#[.ref s.heap.objs.size, .none, .none, .none, .bool false, .none] ++ ownMembersOf (.type "AttributeError") [Value.str msg s.toks]) } } : Shared).TypeIs (.ref (s.heap.push { cls := .type "tuple", data := .seq [Value.str msg s.toks].toArray }).objs.size) "AttributeError" := ⟨_, ho, rfl⟩
 repeat (any_goals (first | assumption | wp_step))
 unfold raiseNew
 refine wpAny_bind (wpAny_handled ?_)
 rw [hh]
 first
  | refine wpAny_throw ?_
  | refine wpAny_bind (wpAny_pure (wpAny_throw ?_))
 have hu := Heap.get?_update_self (Obj.mapFields fun vs => vs.extract 0 6 ++ #[Value.str nm s.toks, .ref a]) ho (Obj.isFreed_of_fields (Obj.data_mapFields rfl _))
 refine hq _ _ _ _ (fun b o hb => ?_) (Heap.get?_update_self _ ho (Obj.isFreed_of_fields (Obj.data_mapFields rfl _))) (Obj.cls_mapFields _ _)
 rw [Heap.get?_update_other _ _ (Nat.ne_of_gt (Nat.lt_of_lt_of_le (Heap.lt_size hb) (by simp)))]
 exact Heap.get?_push_of_some _ (Heap.get?_push_of_some _ hb)
theorem oq {tk : Tok} {Q : Fin -> Shared -> Prop} (hh : A.handled = none) (hx : s.heap.get? a = some { cls := .type "list", data := .seq its n }) (hq : ∀ h' tk' e oe, (∀ b o, s.heap.get? b = some o -> h'.get? b = some o) -> h'.get? e = some oe -> oe.cls = .type "AttributeError" -> E (.ref e) { s with heap := h', toks := tk' }) :
  wpAny (model prog w) A (Builtin.«object.__getattribute__» ⟨[.ref a, .str "keys" tk], []⟩) Q E s := by
 obtain ⟨h, g, d, t, os⟩ := s
 have hT : (⟨h, g, d, t, os⟩ : Shared).TypeIs (.ref a) "list" := ⟨_, hx, rfl⟩
 have f4 := vk
 repeat (any_goals (first | assumption | wp_step))
 all_goals (try dsimp only)
 repeat (any_goals (first | assumption | wp_step))
 exact Ae hh (by rw [sizeLine_eq]; decide +kernel) hq
theorem AO {Q : Option Value -> Shared -> Prop} (hh : A.handled = none) (hx : s.heap.get? a = some { cls := .type "list", data := .seq its n }) (hq : ∀ h' tk', (∀ b o, s.heap.get? b = some o -> h'.get? b = some o) -> Q none { s with heap := h', toks := tk' }) :
  wpAny (model prog w) A (getAttr? (.ref a) "keys") Q E s := by
 obtain ⟨h, g, d, t, os⟩ := s
 have hT : (⟨h, g, d, t, os⟩ : Shared).TypeIs (.ref a) "list" := ⟨_, hx, rfl⟩
 have f2 := F.slot_list_getattribute.lookup
 have f3 := F.slot_list_getattribute.bind (.ref a)
 have f5 := yK
 have f6 := kR
 unfold getAttr? getAttrBy? getAttrBy getAttrByItsOwn callGetattribute boundAndCalled
 repeat (any_goals (first | assumption | wp_step))
 refine codeAny_call_builtin F.slot_list_getattribute.plain F.entry_list_ga (F.slot_list_getattribute.check _ _ _ _ _ _ _ _ hT (F.args_list_getattribute_2 _ _) (oq (by exact hh) hx fun h' tk' e oe hk he hc => ?_))
 have hTe : (⟨h', g, d, tk', os⟩ : Shared).TypeIs (.ref e) "AttributeError" := ⟨oe, he, hc⟩
 dsimp only
 unfold getattributeRaised
 refine wpAny_bind (wpAny_isInstance (T := "AttributeError") (b := true) hTe f6 ?_)
 rw [if_pos rfl]
 refine wpAny_bind ?_
 unfold hookBehind
 rw [if_neg (by decide)]
 refine wpAny_of_eq f5 ?_
 unfold hookOrError
 dsimp only
 unfold attributeErrorLeaves
 simp only [Bool.not_false, if_true]
 first
  | refine wpAny_throw ?_
  | refine wpAny_bind (wpAny_throw ?_)
 refine wpAny_bind (wpAny_isInstance (T := "AttributeError") (b := true) hTe f6 ?_)
 rw [if_pos rfl]
 exact wpAny_pure (hq h' tk' hk)
end
theorem qR : entryFor table "dict.update.loop" = some Builtin.«dict.update.loop» := entryFor_of_tree (by kernel_rfl)
theorem jc : plainId "dict.update.loop" = true := by decide +kernel
end DX
end PySem
namespace L2
open PySem PySem.Spec PyProof.Rows
section
variable {X : Cx} {pins : List (Addr × Obj)} {σ : St} {H : Hp} {s : Shared} {a b : Addr} {kvs : List (List Key × V)} {k : List Key} {v : V} {r : Value} {A : Around} {E : Value -> Shared -> Prop}
theorem Et {Q : Unit -> Shared -> Prop} (hu : (tupleKind (bG X.prog X.w)).room A) (I : Inv X pins σ H s) (e : H a = some (.dT kvs)) (eb : H b = some (.tup (k.map kV))) (l : kvs.length < sizeLine) (rv : RelV v r)
  (h : ∀ s', Inv X pins σ (upd H a (.dT (lQ kvs k v))) s' -> Q () s') : wpAny (model X.prog X.w) A (dictSet a (.ref b) r) Q E s := by
 obtain ⟨z, hd, xs, rel, dd⟩ := Ff I.hok e
 have hz : xs.length <= sizeLine := by rw [<- Paired.length rel]; exact z
 have hl : (lQ kvs k v).length <= sizeLine := by have := nJ kvs k v; lia
 refine wpAny_dictSet_heap (hsz := hz) hu (pS I.hok eb) dd fun h' dd' hs => h _ ?_
 obtain ⟨q, es, ep, hq, h2, h3, h4, _, h5⟩ := dd'
 refine uI I (by rw [e]; exact True.intro) hs ⟨q, hq⟩ ⟨hl, hd, _, (rel.put k eb rv).keeps fun c ys ec => ?_, q, es, ep, hq, h2, h3, h4, h5⟩
 rw [aA (xV ec e (fun z => nomatch z))]
 exact ec
end
def j8 (kvs : List (List Key × V)) (es : List (List Key × V)) : List (List Key × V) := es.foldl (fun acc kv => lQ acc kv.1 kv.2) kvs
section
variable {X : Cx} {pins : List (Addr × Obj)} {σ : St} {A : Around} {a l it : Addr} {xs : List V}
theorem wE {R : Result -> Shared -> Prop} (hu : (tupleKind (bG X.prog X.w)).room A.in1) (hh : A.in1.handled = none) : ∀ (es : List (Addr × Addr × List Key × V)) (i : Nat) (kvs : List (List Key × V)) (H : Hp) (s : Shared), Inv X pins σ H s -> H a = some (.dT kvs) ->
  qu X pins H it -> s.heap.IsListIter it l i -> H l = some (.lst xs) -> xs.drop i = es.map (fun e => V.ref e.1) -> (∀ e ∈ es, H e.1 = some (.tup [.ref e.2.1, e.2.2.2]) /\ H e.2.1 = some (.tup (e.2.2.1.map kV))) -> kvs.length + es.length < sizeLine ->
  (∀ s', Inv X pins σ (upd H a (.dT (j8 kvs (es.map fun e => (e.2.2.1, e.2.2.2))))) s' -> R (.ok (.ret .none)) s') ->
  codeAny (model X.prog X.w) A (.builtin "dict.update.loop" ⟨[.ref a, .ref it, rawInt i, .none], []⟩) R s
 | [], i, kvs, H, s, I, ea, fo, hit, el, hd, _, _, hR => by
  obtain ⟨its, rl, pl, _⟩ := I.list (.inl (.inl el))
  have hx : its.toArray[i]? = none := by
   have h1 : xs.length <= i := by
    have := congrArg List.length hd
    rw [List.length_drop] at this
    simpa [Nat.sub_eq_zero_iff_le] using this
   have := rl.length
   simp
   lia
  refine codeAny_builtin DX.qR ?_
  rw [Around.under_plainId DX.jc _]
  show wpAny _ A.in1 (pyNext (.ref it) >>= _) _ _ s
  refine wpAny_bind (wpAny_pyNext_list_end hh hit pl.isList hx fun h' he => ?_)
  show wpAny _ A.in1 (Builtin.Dict.addKeywords a [] >>= _) _ _ _
  refine wpAny_bind (wpAny_pure (wpAny_pure (hR _ ?_)))
  have e0 : upd H a (.dT (j8 kvs (([] : List (Addr × Addr × List Key × V)).map fun e => (e.2.2.1, e.2.2.2)))) = H := by
   funext c
   unfold upd
   split
   ·rename_i z; rw [z, ea]; rfl
   ·rfl
  rw [e0]
  exact I.turned (t' := s.toks) (it := it) (fun b o hb e => he b o hb e) fo.1 fo.2.1 fo.2.2.2.1 fo.2.2.2.2.1 fo.2.2.2.2.2
 | e :: es, i, kvs, H, s, I, ea, fo, hit, el, hd, he, hl, hR => by
  obtain ⟨its, rl, pl, _⟩ := I.list (.inl (.inl el))
  obtain ⟨e1, e2⟩ := he e List.mem_cons_self
  have hxi : xs[i]? = some (V.ref e.1) := by
   have := congrArg (fun l : List V => l[0]?) hd
   simpa [List.getElem?_drop] using this
  obtain ⟨u, hui, ru⟩ := rl.get hxi
  cases (show u = Value.ref e.1 from ru)
  refine codeAny_builtin DX.qR ?_
  rw [Around.under_plainId DX.jc _]
  show wpAny _ A.in1 (pyNext (.ref it) >>= _) _ _ s
  refine wpAny_bind (wpAny_pyNext_list_item hit pl.isList (x := .ref e.1) (by simpa using hui) fun h' hit' hs => ?_)
  have I1 : Inv X pins σ H { s with heap := h' } := I.turned (t' := s.toks) (it := it) (fun b o hb e => hs.extBut b o hb e) fo.1 fo.2.1 fo.2.2.2.1 fo.2.2.2.2.1 fo.2.2.2.2.2
  have P1 := I1.pinned (fp := [it]) (fun b hb => by rw [List.mem_singleton.mp hb]; exact fo) (fun b hb => by
   rw [List.mem_singleton.mp hb]
   obtain ⟨o, ho, _, hd⟩ := hit'
   exact ⟨o, ho, fun v z => by rw [hd] at z; cases z⟩)
  obtain ⟨its2, rl2, pl2, _⟩ := I1.tuple (.inl (.inl e1))
  obtain ⟨u1, u2, e3, r1, r2⟩ := Vals.two rl2
  subst e3
  cases (show u1 = Value.ref e.2.1 from r1)
  have body : wpAny (model X.prog X.w) A.in1 (dictSet a (.ref e.2.1) u2) (fun _ s' => Inv X (pins ++ m7 [it] h') σ (upd H a (.dT (lQ kvs e.2.2.1 e.2.2.2))) s') (fun e s' => R (.error e) s') { s with heap := h' } :=
   Et hu P1 ea e2 (by rw [List.length_cons] at hl; lia) r2 fun s' I' => I'
  refine wpAny_bind (wpAny_holding (wpAny_bind ?_))
  refine wpAny_tryCatch (m := Builtin.Dict.pairItems (.ref e.1)) ?_
  obtain ⟨ot, hot, hct, nt, hdt⟩ := pl2
  unfold Builtin.Dict.pairItems
  refine wpAny_bind (wpAny_typeOf (T := "tuple") ⟨ot, hot, hct⟩ ?_)
  rw [if_pos (by decide)]
  refine wpAny_bind (wpAny_seqItems hot hdt (wpAny_pure ?_))
  show wpAny _ A.in1 (holding [.ref e.2.1, u2] (dictSet a (.ref e.2.1) u2)) _ _ _
  refine wpAny_holding (wpAny_mono body (fun _ s' I' => ?_) fun _ _ z => z)
  have na : it ≠ a := fun z => by have f0 := fo.1; rw [z, ea] at f0; cases f0
  have nl : l ≠ a := xV el ea (fun z => nomatch z)
  refine wpAny_pure ⟨plainId_quiet DX.jc _, ?_⟩
  show codeAny (model X.prog X.w) A (.builtin "dict.update.loop" ⟨[.ref a, .ref it, rawInt ((i + 1 : Nat) : Int), .none], []⟩) R s'
  have tn : ∀ c ys, H c = some (.tup ys) -> upd H a (.dT (lQ kvs e.2.2.1 e.2.2.2)) c = some (.tup ys) := fun c ys z => by rw [aA (xV z ea (fun z => nomatch z))]; exact z
  refine wE hu hh es (i + 1) (lQ kvs e.2.2.1 e.2.2.2) _ s' I'.unpinned aJ ⟨by rw [aA na]; exact fo.1, fo.2⟩ ?_ (by rw [aA nl]; exact el) ?_ (fun e' h' => ?_) ?_ fun s2 I2 => hR s2 ?_
  ·obtain ⟨o, ho, hc2, hd2⟩ := hit'
   exact ⟨o, (I'.pin (it, o) (List.mem_append_right _ (List.mem_append_right _ (gA (List.mem_singleton.mpr rfl) ho)))).1, hc2, hd2⟩
  ·have := congrArg List.tail hd
   rw [List.tail_drop] at this
   exact this
  ·obtain ⟨z1, z2⟩ := he e' (List.mem_cons_of_mem _ h')
   exact ⟨tn _ _ z1, tn _ _ z2⟩
  ·have := nJ kvs e.2.2.1 e.2.2.2
   rw [List.length_cons] at hl
   lia
  ·rw [zo] at I2
   exact I2
end
theorem un1 {A : Around} (h : A.units + 64 < cLine) : A.units + 1 < cLine := Nat.lt_of_le_of_lt (Nat.add_le_add_left (by decide) _) h
theorem Er {P : Program} {w : World} {A : Around} (h : A.units + 64 < cLine) : (tupleKind (bG P w)).room A.in1 := tupleKind_room_in1 (un1 h)
end L2
namespace M
open PySem L2
section
variable {K : W.Frag} {S S' H H' : Hp}
theorem C7 {l : List D} {v : V} (h : Den K S (.tup l) v) : ∃ p xs, v = .ref p /\ S p = some (.tup xs) /\ Dens K S l xs := by
 obtain ⟨p, xs, e, h1, h2⟩ := den_tup.mp h
 exact ⟨p, xs, e, h1, h2⟩
def kyD : D -> Option (List Int)
 | .tup l => bD l
 | _ => none
abbrev kI (k : List Int) : List Key := k.map Sum.inl
theorem HF (k : List Int) : (kI k).map kV = k.map V.int := by rw [List.map_map]; rfl
theorem yP {a b : List Int} (h : kI a = kI b) : a = b := by
 induction a generalizing b with
 | nil => cases b with
  | nil => rfl
  | cons _ _ => cases h
 | cons x a ih => cases b with
  | nil => cases h
  | cons y b =>
   injection h with h1 h2
   injection h1 with h1
   rw [h1, ih h2]
theorem vx {d : D} {k : List Int} {v : V} (h : Den K S d v) (e : kyD d = some k) : ∃ p, v = .ref p /\ S p = some (.tup ((kI k).map kV)) := by
 cases d <;> try (cases e; done)
 obtain ⟨p, xs, rfl, h1, h2⟩ := C7 h
 obtain ⟨rfl, _⟩ := kB h2 e
 exact ⟨p, rfl, by rw [HF]; exact h1⟩
theorem md (q : List Int) : ∀ ks : List (List Int), (iW (bK ks) (kI q)).isSome = ks.contains q
 | [] => rfl
 | k :: ks => by
  have ih := md q ks
  by_cases h : k = q
  ·subst h
   show (iW ((kI k, V.bl true) :: bK ks) (kI k)).isSome = _
   rw [j6 rfl]
   simp
  ·show (iW ((kI k, V.bl true) :: bK ks) (kI q)).isSome = _
   rw [j5 (fun z => h (yP z)), ih]
   rw [List.contains_cons]
   have : (q == k) = false := by simpa using fun z => h z.symm
   rw [this, Bool.false_or]
def si (ks : List (List Int)) (q : List Int) : List (List Int) := if ks.contains q then ks else ks ++ [q]
theorem Co (a b : List (List Int)) : bK (a ++ b) = bK a ++ bK b := by unfold bK; rw [List.map_append]
theorem Ep (ks : List (List Int)) (q : List Int) : lQ (bK ks) (kI q) (.bl true) = bK (si ks q) := by
 unfold si
 cases h : ks.contains q with
 | false =>
  have hv : iW (bK ks) (kI q) = none := by
   have := md q ks
   rw [h] at this
   cases z : iW (bK ks) (kI q) with
   | none => rfl
   | some _ => rw [z] at this; cases this
  rw [C6 _ hv, if_neg (by decide), Co]
  rfl
 | true =>
  rw [if_pos rfl]
  have ha : ((bK ks).any fun kv => decide (kv.1 = kI q)) = true := by rw [mh, md, h]
  unfold lQ
  rw [if_pos ha]
  unfold bK
  rw [List.map_map]
  refine List.map_congr_left fun k _ => ?_
  show (if kI k = kI q then (kI k, V.bl true) else (kI k, V.bl true)) = _
  split <;> rfl
theorem pT : ∀ (qs ks : List (List Int)), j8 (bK ks) (qs.map fun q => (kI q, V.bl true)) = bK (qs.foldl si ks)
 | [], ks => rfl
 | q :: qs, ks => by
  show j8 (lQ (bK ks) (kI q) (.bl true)) (qs.map fun q => (kI q, V.bl true)) = _
  rw [Ep, pT qs]
  rfl
theorem CM (ks : List (List Int)) : (bK ks).length = ks.length := List.length_map _
@[simp] def JL (k : XE) : Env -> Option O := fun ρ => (k ρ).bind fun d => (kyD d).map fun q => .dic [q]
@[simp] def Kg : Env -> Option O := fun _ => some (.dic [])
def kW (ρ : Env) (i : Nat) : Option (List (List Int)) := match ρ[i]? with
 | some (.ow (.dic ks)) => some ks
 | some (.sh (.dic ks)) => some ks
 | some (.sh (.dif ks)) => some ks
 | some (.ow (.hd _ ks [])) => some ks
 | _ => none
theorem CG {ρ : Env} {σ : St} {i : Nat} {ks : List (List Int)} (r : Rl K ρ σ S H) (h : kW ρ i = some ks) : ∃ a, σ[i]? = some (some (.ref a)) /\ Rd H a (.dT (bK ks)) := by
 unfold kW at h
 split at h
 ·rename_i ks' q
  cases h
  obtain ⟨v, fp, e, ow, _⟩ := r.ow i _ q
  obtain ⟨a, rfl, _, ha⟩ := own_dic.mp ow
  exact ⟨a, e, .inl ha⟩
 ·rename_i ks' q
  cases h
  obtain ⟨v, e, dv⟩ := r.sh i _ q
  obtain ⟨a, rfl, ha⟩ := den_dic.mp dv
  exact ⟨a, e, cP r.sub ha⟩
 ·rename_i ks' q
  cases h
  obtain ⟨v, e, dv⟩ := r.sh i _ q
  obtain ⟨a, o, rfl, ha⟩ := den_dif.mp dv
  exact ⟨a, e, .inr ⟨o, r.sub _ _ ha⟩⟩
 ·rename_i p ks' q
  cases h
  obtain ⟨v, fp, e, ow, _⟩ := r.ow i _ q
  obtain ⟨xs, f, rfl, _, ha, ho⟩ := own_hd.mp ow
  rw [ho.nil_of.1] at e
  exact ⟨p, e, .inl ha⟩
 ·cases h
@[simp] def xW (neg : Bool) (k : XE) (i : Nat) : XE := fun ρ => (k ρ).bind fun d => (kyD d).bind fun q => (kW ρ i).map fun ks => .bl (if neg then !(ks.contains q) else ks.contains q)
theorem BW {tk : TE} {k : XE} {i : Nat} (h : SE K tk k) : SE K (zH tk (jG i)) (xW true k i) := fun ρ σ S H Q g r x c => by
 unfold xW at x
 cases qk : k ρ with
 | none => rw [qk] at x; cases x
 | some d =>
  rw [qk] at x
  dsimp only [Option.bind] at x
  cases qd : kyD d with
  | none => rw [qd] at x; cases x
  | some q =>
   rw [qd] at x
   dsimp only at x
   cases qi : kW ρ i with
   | none => rw [qi] at x; cases x
   | some ks =>
    rw [qi] at x
    cases x
    refine h ρ σ S H _ d r qk fun v S1 H1 z1 d1 => ?_
    obtain ⟨b, rfl, hb⟩ := vx d1 qd
    obtain ⟨a, e1, ha⟩ := CG (r.ext z1) qi
    refine ⟨.ref a, e1, a, _, rfl, .inr ⟨_, kI q, b, ha, rfl, z1.sub b _ hb, rfl⟩, c _ S1 H1 z1 ?_⟩
    rw [md]
    exact den_bl.mpr rfl
theorem GS {tk : TE} {k : XE} {i : Nat} (h : SE K tk k) : SE K (GO tk (jG i)) (xW false k i) := fun ρ σ S H Q g r x c => by
 unfold xW at x
 cases qk : k ρ with
 | none => rw [qk] at x; cases x
 | some d =>
  rw [qk] at x
  dsimp only [Option.bind] at x
  cases qd : kyD d with
  | none => rw [qd] at x; cases x
  | some q =>
   rw [qd] at x
   dsimp only at x
   cases qi : kW ρ i with
   | none => rw [qi] at x; cases x
   | some ks =>
    rw [qi] at x
    cases x
    refine h ρ σ S H _ d r qk fun v S1 H1 z1 d1 => ?_
    obtain ⟨b, rfl, hb⟩ := vx d1 qd
    obtain ⟨a, e1, ha⟩ := CG (r.ext z1) qi
    refine ⟨.ref a, e1, a, _, rfl, .inr ⟨_, kI q, b, ha, rfl, z1.sub b _ hb, rfl⟩, c _ S1 H1 z1 ?_⟩
    rw [md]
    exact den_bl.mpr rfl
@[simp] def JT (i : Nat) (k : XE) : XS := fun ρ => match ρ[i]? with
 | some (.ow (.dic ks)) => (k ρ).bind fun d => (kyD d).bind fun q => if ks.length < LIM then some (.nx (ρ.set i (.ow (.dic (si ks q))))) else none
 | _ => none
def jH : List D -> Option (List (List Int))
 | [] => some []
 | .tup [d, .bl true] :: l => (kyD d).bind fun q => (jH l).map fun qs => q :: qs
 | _ => none
theorem vI {S H : Hp} (s : Same S H) : ∀ {l : List D} {xs : List V} {qs : List (List Int)}, Dens K S l xs -> jH l = some qs ->
  ∃ es : List (Addr × Addr × List Key × V), xs = es.map (fun e => V.ref e.1) /\ (∀ e ∈ es, H e.1 = some (.tup [.ref e.2.1, e.2.2.2]) /\ H e.2.1 = some (.tup (e.2.2.1.map kV))) /\ es.map (fun e => (e.2.2.1, e.2.2.2)) = qs.map fun q => (kI q, V.bl true)
 | [], xs, qs, h, e => by
  cases e
  exact ⟨[], h.nil_of, (fun e he => by cases he), rfl⟩
 | d :: l, xs, qs, h, e => by
  obtain ⟨y, ys, rfl, h1, h2⟩ := h.cons_of
  unfold jH at e
  split at e <;> try (cases e; done)
  ·rename_i hh; cases hh
  ·rename_i d0 l0 hh
   injection hh with hh1 hh2
   subst hh1 hh2
   cases qd : kyD d0 with
   | none => rw [qd] at e; cases e
   | some q =>
    rw [qd] at e
    dsimp only [Option.bind] at e
    cases ql : jH l with
    | none => rw [ql] at e; cases e
    | some qs' =>
     rw [ql] at e
     cases e
     obtain ⟨es, e1, e2, e3⟩ := vI s h2 ql
     obtain ⟨t, zs, rfl, ht, hz⟩ := C7 h1
     obtain ⟨y1, r1, rfl, k1, hz⟩ := hz.cons_of
     obtain ⟨y2, r2, rfl, k2, hz⟩ := hz.cons_of
     have := hz.nil_of
     subst this
     obtain ⟨b, rfl, hb⟩ := vx k1 qd
     have := den_bl.mp k2
     subst this
     refine ⟨(t, b, kI q, .bl true) :: es, by rw [e1]; rfl, fun e he => ?_, by rw [List.map_cons, e3]; rfl⟩
     rcases List.mem_cons.mp he with rfl | he
     ·exact ⟨s t _ ht, s b _ hb⟩
     ·exact e2 e he
@[simp] def JY (i : Nat) (e : XA) : XS := fun ρ => match ρ[i]? with
 | some (.ow (.dic ks)) => (e ρ).bind fun l => (jH l).bind fun qs => if ks.length + l.length < LIM then some (.nx (ρ.set i (.ow (.dic (qs.foldl si ks))))) else none
 | _ => none
theorem G2 {t : TE} {e : XE} (h : SE K t e) : ST K (tB t) (xB e) := fun ρ σ S H Q b r x c => by
 unfold xB at x
 cases q : e ρ with
 | none => rw [q] at x; cases x
 | some d =>
  rw [q] at x
  cases d <;> try (cases x; done)
  cases x
  refine h ρ σ S H _ _ r q fun v S1 H1 z1 d1 => ?_
  exact ⟨_, den_bl.mp d1, c S1 H1 z1⟩
end
end M
namespace L2
open PySem PySem.Spec PyProof.Rows M
section
variable {X : Cx}
end
end L2
namespace M
open PySem L2
section
variable {K : W.Frag}
end
end M
namespace L2
open PySem PySem.Spec PyProof.Rows
section
variable {X : Cx} {tg : Expr}
end
end L2
namespace M
open PySem L2
section
variable {K : W.Frag} {S H : Hp}
def Fz (a c : Int) (n : Nat) : List D := (List.range n).map fun i : Nat => D.int (a + (i : Int) * c)
def Hv : List D -> Option (List D)
 | [.int a, .int j, .int c] => ifC (c ≠ 0 /\ (-1000000 < c /\ c < 1000000) /\ Builtin.Range.small a j c = true) (some (Fz a c (Builtin.Range.rangeSize a j c).toNat)) none
 | _ => none
@[simp] def JB (a : XA) : XA := fun ρ => (a ρ).bind Hv
end
end M
namespace L2
open PySem PySem.Spec PyProof.Rows
section
variable {X : Cx}
end
end L2
namespace M
open PySem L2
section
variable {K : W.Frag}
def Hc : D -> Option (List D)
 | .int j => ifC (0 <= j /\ j < 1000000) (some ((List.range j.toNat).map fun i : Nat => D.int (i : Int))) none
 | _ => none
@[simp] def Jk (a : XE) : XA := fun ρ => (a ρ).bind Hc
end
end M
namespace L2
open PySem PySem.Spec PyProof.Rows
section
variable {X : Cx} {pins : List (Addr × Obj)} {σ : List (Option V)} {H H' : Hp} {s : Shared} {h' : Heap}
end
section
variable {X : Cx}
end
end L2
namespace M
open PySem L2
section
variable {K : W.Frag} {S S' H H' : Hp}
def enL (k : Nat) : List D -> List D
 | [] => []
 | d :: l => .tup [.int (k : Int), d] :: enL (k + 1) l
@[simp] def Kl (a : XE) : XA := fun ρ => (a ρ).bind fun d => match d with | .lst l => some (enL 0 l) | _ => none
end
end M
namespace L2
open PySem PySem.Spec PyProof.Rows M
section
variable {X : Cx}
end
end L2
namespace M
open PySem L2
section
variable {K : W.Frag}
end
section
variable {K : W.Frag} {S S' H H' : Hp}
@[simp] def Ks (i : Nat) (p : XP) : XA := fun ρ => match ρ[i]? with
 | some (.ow o) => (p ρ).bind fun is => match dH o is with | some (.lst l) => shs l | _ => none
 | _ => none
end
end M
namespace TL
open PySem PyProof.Rows
section
variable {prog : Program} {w : World} {A : Around} {E : Value -> Shared -> Prop} {s : Shared}
end
end TL
namespace L2
open PySem PySem.Spec PyProof.Rows
section
variable {X : Cx}
end
end L2
namespace M
open PySem L2
section
variable {K : W.Frag}
end
end M
namespace L2
open PySem PySem.Spec PyProof.Rows
section
variable {X : Cx}
end
end L2
namespace M
open PySem L2
section
variable {K : W.Frag}
end
end M
namespace TL
open PySem PyProof.Rows
section
variable {prog : Program} {w : World} {A : Around} {R : Result -> Shared -> Prop} {I : Addr} {fp wr : List Addr} {n : Nat} {P : Nat -> Value -> Prop} {St : Nat -> Heap -> Prop} {h0 : Heap}
end
section
variable {prog : Program} {w : World} {A : Around} {E : Value -> Shared -> Prop} {s : Shared}
end
end TL
namespace L2
open PySem PySem.Spec PyProof.Rows
section
variable {X : Cx}
end
end L2
namespace M
open PySem L2
section
variable {K : W.Frag}
end
section
variable {K : W.Frag} {S S' H H' : Hp}
end
section
variable {K : W.Frag}
@[simp] def IW (f g : D -> D -> Option D) (a b c : XE) : XE := fun ρ => (a ρ).bind fun x => (b ρ).bind fun y => (f x y).bind fun z => match z with
 | .bl true => (c ρ).bind fun w => g y w
 | .bl false => some (.bl false)
 | _ => none
end
end M
namespace L2
open PySem
section
variable {X : Cx}
end
end L2
namespace M
open PySem L2
section
variable {K : W.Frag}
end
end M
namespace DL
open PySem
section
variable {prog : Program} {w : World} {A : Around} {E : Value -> Shared -> Prop} {s : Shared}
end
end DL
namespace L2
open PySem
section
variable {X : Cx}
end
end L2
namespace M
open PySem L2
section
variable {K : W.Frag}
@[simp] def Kd (i : Nat) : XE := fun ρ => (kW ρ i).map fun ks => .int (ks.length : Nat)
end
end M
namespace DY
open PySem
section
variable {prog : Program} {w : World} {K : Type} [DecidableEq K] {knd : HeapKind prog w K} {A : Around} {E : Value -> Shared -> Prop} {s : Shared}
theorem v6 {β : Type} (f : K × Addr × Value -> β) (k : K) : ∀ {xs : List (K × Addr × Value)} {j : Nat} {p : Addr × Value}, (xs.map (·.1)).Nodup -> xs[j]? = some (k, p) -> (xs.map f).eraseIdx j = (xs.filter fun x => decide (x.1 ≠ k)).map f
 | [], j, p, _, hj => by simp at hj
 | x :: l, 0, p, hn, hj => by
  simp at hj
  subst hj
  rw [List.map_cons, List.nodup_cons] at hn
  have : l.filter (fun x => decide (x.1 ≠ k)) = l := List.filter_eq_self.mpr fun y hy => by
   simp only [ne_eq, decide_eq_true_eq]
   exact fun e => hn.1 (List.mem_map.mpr ⟨y, hy, e⟩)
  rw [List.filter_cons_of_neg (by simp), this]
  rfl
 | x :: l, j + 1, p, hn, hj => by
  rw [List.getElem?_cons_succ] at hj
  rw [List.map_cons, List.nodup_cons] at hn
  have hne : x.1 ≠ k := fun e => hn.1 (by rw [e]; exact List.mem_map.mpr ⟨(k, p), List.mem_of_getElem? hj, rfl⟩)
  rw [List.filter_cons_of_pos (by simpa using hne), List.map_cons, List.map_cons, List.eraseIdx_cons_succ, v6 f k hn.2 hj]
theorem uZ {d a : Addr} {xs : List (K × Addr × Value)} {k : K} {p : Addr × Value} {Q : Option DictEntry -> Shared -> Prop} (hu : knd.room A) (hkey : knd.is s.heap k a) (hm : s.heap.DictOfH knd d xs) (hp : atKey xs k = some p) (hsz : xs.length <= sizeLine)
  (hQ : ∀ h', h'.DictOfH knd d (xs.filter fun x => decide (x.1 ≠ k)) -> Heap.SameBut d s.heap h' -> Q (some (entryOfKey knd (k, p))) { s with heap := h', toks := s.toks + knd.draws k }) : wpAny (model prog w) A (Builtin.Dict.takeOut d (.ref a)) Q E s := by
 obtain ⟨o, es, ep, ho, hc, hd, he, his, hn⟩ := hm
 unfold Builtin.Dict.takeOut; refine wpAny_holding (wpAny_bind (knd.pyHash hu hkey (wpAny_bind (wpAny_dictFind_heap (s := { s with toks := s.toks + knd.draws k }) hu hkey ho hd he his hn (fun hno => ?_) fun j q hj => ?_))))
 ·rw [atKey_none_of_get hno] at hp; cases hp
 ·rw [atKey_of_get hn hj] at hp
  cases hp
  refine wpAny_bind (wpAny_dictEntries (s := { s with toks := s.toks + knd.draws k }) ho hd ?_)
  rw [entry_at he j, hj]
  have hz : es.size <= sizeLine := by rw [size_of_entries he]; exact hsz
  refine wpAny_bind (wpAny_updateDictKeys (hz := hz) (s := { s with toks := s.toks + knd.draws k }) ho hd (wpAny_pure (hQ _ ⟨_, _, ep + 1, Heap.get?_update_self _ ho (Obj.isFreed_of_dict (Obj.data_mapDictKeys hd _)), hc.mapDictKeys _, Obj.data_mapDictKeys hd _, ?_, fun x hx => ?_, ?_⟩ (Heap.SameBut.update ..))))
  ·rw [<- v6 (entryOfKey knd) k hn hj, <- he]
   obtain ⟨l⟩ := es
   simp
  ·exact knd.keeps (his x (List.mem_filter.mp hx).1) ho hd (Heap.SameBut.update ..)
  ·exact hn.sublist ((List.filter_sublist).map _)
theorem Dr {d a : Addr} {xs : List (K × Addr × Value)} {k : K} {p : Addr × Value} {Q : Value -> Shared -> Prop} (hu : knd.room A.in1) (hkey : knd.is s.heap k a) (hm : s.heap.DictOfH knd d xs) (hp : atKey xs k = some p) (hsz : xs.length <= sizeLine)
  (hQ : ∀ h', h'.DictOfH knd d (xs.filter fun x => decide (x.1 ≠ k)) -> Heap.SameBut d s.heap h' -> Q p.2 { s with heap := h', toks := s.toks + knd.draws k }) : wpAny (model prog w) A (call (.builtin "dict.pop") [.ref d, .ref a]) Q E s := by
 have hT := hm.typeIs
 obtain ⟨o, es, ep, ho, hc, hd, he, his, hn⟩ := id hm
 refine wpAny_call (codeAny_call_builtin F.slot_dict_pop.plain F.entry_dict_pop (F.slot_dict_pop.check _ _ _ _ _ _ _ _ hT (F.args_dict_pop_2 _ _) ?_))
 unfold Builtin.«dict.pop»; refine wpAny_bind ?_
 unfold Builtin.Dict.keyAndDefault; refine wpAny_bind (wpAny_notOrdered_dict hT ?_)
 show wpAny _ _ (pure (d, Value.ref a, none)) _ _ s; refine wpAny_pure ?_
 have hne : es.isEmpty = false := by
  cases q : es.isEmpty with
  | false => rfl
  | true =>
   have e0 : es.toList = [] := by simpa [Array.isEmpty_iff] using q
   rw [e0] at he
   cases xs with
   | nil => cases hp
   | cons _ _ => cases he
 refine wpAny_bind (wpAny_dictEntries ho hd (wpAny_bind (wpAny_pure ?_)))
 rw [hne]
 refine wpAny_bind (uZ hu hkey hm hp hsz fun h' hm' hs' => ?_)
 exact wpAny_bind (wpAny_letGo (wpAny_pure (hQ h' hm' hs')))
def DAt (s : Heap) (d : Addr) (es : Array DictEntry) (ep : Nat) : Prop := ∃ o, s.get? d = some o /\ o.ExactDict /\ o.data = .dict es ep
theorem AS {d : Addr} {es : Array DictEntry} {ep : Nat} {Q : Value -> Shared -> Prop} (hd : (d == sysModules) = false) (hm : DAt s.heap d es ep)
  (hQ : Q (.ref s.heap.objs.size) { s with heap := s.heap.push { cls := .type "dict_keyiterator", data := .fields #[.ref d, .int 0 0, .int es.size 0, .int ep 0] } }) : wpAny (model prog w) A (pyIter (.ref d)) Q E s := by
 obtain ⟨o, ho, hc, hdat⟩ := hm
 have hT : s.TypeIs (.ref d) "dict" := ⟨o, ho, hc.1⟩
 refine wpAny_pyIter_slot hT F.slot_dict_iter (wpAny_call_entry F.slot_dict_iter hT F.entry_dict_iter ?_ (F.args_dict_iter_1 _)); unfold Builtin.«dict.__iter__»; refine wpAny_bind ?_
 unfold Builtin.Dict.dictSlotNone; refine wpAny_bind (wpAny_notOrdered_dict hT ?_); show wpAny _ _ (pure (Value.ref d)) _ _ s
 refine wpAny_pure ?_; show wpAny _ _ (Builtin.Dict.showsAll d >>= _) _ _ s
 unfold Builtin.Dict.showsAll; rw [if_neg (by rw [hd]; exact Bool.false_ne_true)]
 refine wpAny_bind (wpAny_pure (wpAny_bind (wpAny_dictEntries ho hdat (wpAny_bind (wpAny_dictEpoch ho hdat (wpAny_bind (wpAny_newObj_type (wpAny_pure ⟨_, rfl, "dict_keyiterator", _, ⟨_, Heap.get?_push_size _ rfl, rfl⟩, F.slot_dict_keyiterator_next.lookup, ?_⟩))))))))
 simpa [rawInt] using hQ
theorem Dk {it d : Addr} {i ep : Nat} {es : Array DictEntry} {Q : Option Value -> Shared -> Prop} (hit : s.heap.IsKeyIter it d i es.size ep) (hm : DAt s.heap d es ep) (hlt : i < es.size)
  (hQ : ∀ h', h'.IsKeyIter it d (i + 1) es.size ep -> Heap.SameBut it s.heap h' -> Q (some es[i].key) { s with heap := h' }) : wpAny (model prog w) A (pyNext (.ref it)) Q E s := by
 obtain ⟨o, ho, hc, hd⟩ := id hit
 obtain ⟨od, hod, hcd, hdd⟩ := hm
 unfold pyNext; refine wpAny_bind (wpAny_attempt (wpAny_callSpecial?_slot (name := Str.ofString "__next__") hit.typeIs F.slot_dict_keyiterator_next (wpAny_call_entry F.slot_dict_keyiterator_next hit.typeIs F.entry_dict_keyiterator_next ?_ (F.args_dict_keyiterator_next_1 _))))
 refine wpAny_bind (wpAny_pure (wpAny_bind (wpAny_bind ?_)))
 first | refine wpAny_bind (wpAny_typeNameOfWhole_keyiter hit.typeIs (wpAny_pure (wpAny_bind (wpAny_fieldsOf ho hd ?_)))) | refine wpAny_bind (wpAny_typeNameOf_keyiter hit.typeIs (wpAny_pure (wpAny_bind (wpAny_fieldsOf ho hd ?_))))
 simp only [show Builtin.Dict_items.ownsTuple "dict_keyiterator" = false from by decide, Bool.false_eq_true, if_false]
 show wpAny _ _ (if (Value.ref d == Value.none) = true then _ else _) _ _ s; rw [if_neg (show ¬ ((Value.ref d == Value.none) = true) from Bool.false_ne_true)]
 refine wpAny_bind (wpAny_pure (wpAny_bind (wpAny_dictEntries hod hdd ?_))); rw [if_neg (by simp)]
 refine wpAny_bind (wpAny_pure (wpAny_bind (wpAny_dictEpoch hod hdd ?_))); rw [if_neg (by simp)]; refine wpAny_pure ?_
 simp only [show ¬ ((i : Int) < 0) from by lia, if_false, Int.toNat_natCast, Array.getElem?_eq_getElem hlt]; refine wpAny_bind ?_
 first | refine wpAny_bind (wpAny_typeNameOfWhole_keyiter hit.typeIs (wpAny_pure (wpAny_bind (wpAny_isOneOf_keyiter hit.typeIs ?_)))) | refine wpAny_bind (wpAny_typeNameOf_keyiter hit.typeIs (wpAny_pure (wpAny_bind (wpAny_isOneOf_keyiter hit.typeIs ?_))))
 show wpAny _ _ (setField (.ref it) 1 (rawInt ((i : Int) + 1)) >>= _) _ _ s; refine wpAny_bind (wpAny_setField ho hd (by simp) ?_)
 have hit' : (s.heap.update it (Obj.mapFields (·.setIfInBounds 1 (rawInt ((i : Int) + 1))))).IsKeyIter it d (i + 1) es.size ep := ⟨_, Heap.get?_update_self _ ho (Obj.isFreed_of_fields (Obj.data_mapFields hd _)), (Obj.cls_mapFields ..).trans hc, by rw [Obj.data_mapFields hd]; simp [rawInt]⟩
 refine wpAny_bind (wpAny_holding (wpAny_bind (wpAny_isOneOf_keyiter (s := { s with heap := s.heap.update it (Obj.mapFields (·.setIfInBounds 1 (rawInt ((i : Int) + 1)))) }) hit'.typeIs ?_)))
 show wpAny _ _ (pure es[i].key) _ _ _; exact wpAny_pure (wpAny_pure ⟨_, rfl, wpAny_pure (hQ _ hit' (Heap.SameBut.update ..))⟩)
theorem CQ {it d : Addr} {i ep : Nat} {es : Array DictEntry} {Q : Option Value -> Shared -> Prop} (hh : A.handled = none) (hit : s.heap.IsKeyIter it d i es.size ep) (hm : DAt s.heap d es ep) (hge : es.size <= i)
  (hQ : ∀ h', Heap.ExtBut it s.heap h' -> Q none { s with heap := h' }) : wpAny (model prog w) A (pyNext (.ref it)) Q E s := by
 obtain ⟨o, ho, hc, hd⟩ := id hit
 obtain ⟨od, hod, hcd, hdd⟩ := hm
 unfold pyNext; refine wpAny_bind (wpAny_attempt (wpAny_callSpecial?_slot (name := Str.ofString "__next__") hit.typeIs F.slot_dict_keyiterator_next (wpAny_call_entry F.slot_dict_keyiterator_next hit.typeIs F.entry_dict_keyiterator_next ?_ (F.args_dict_keyiterator_next_1 _))))
 refine wpAny_bind (wpAny_pure (wpAny_bind (wpAny_bind ?_)))
 first | refine wpAny_bind (wpAny_typeNameOfWhole_keyiter hit.typeIs (wpAny_pure (wpAny_bind (wpAny_fieldsOf ho hd ?_)))) | refine wpAny_bind (wpAny_typeNameOf_keyiter hit.typeIs (wpAny_pure (wpAny_bind (wpAny_fieldsOf ho hd ?_))))
 simp only [show Builtin.Dict_items.ownsTuple "dict_keyiterator" = false from by decide, Bool.false_eq_true, if_false]
 show wpAny _ _ (if (Value.ref d == Value.none) = true then _ else _) _ _ s; rw [if_neg (show ¬ ((Value.ref d == Value.none) = true) from Bool.false_ne_true)]
 refine wpAny_bind (wpAny_pure (wpAny_bind (wpAny_dictEntries hod hdd ?_))); rw [if_neg (by simp)]
 refine wpAny_bind (wpAny_pure (wpAny_bind (wpAny_dictEpoch hod hdd ?_))); rw [if_neg (by simp)]; refine wpAny_pure ?_
 simp only [show ¬ ((i : Int) < 0) from by lia, if_false, Int.toNat_natCast, Array.getElem?_eq_none hge]; refine wpAny_bind ?_
 first | refine wpAny_bind (wpAny_typeNameOfWhole_keyiter hit.typeIs (wpAny_pure ?_)) | refine wpAny_bind (wpAny_typeNameOf_keyiter hit.typeIs (wpAny_pure ?_)) ; skip
 show wpAny _ _ (setField (.ref it) 0 .none >>= _) _ _ s; refine wpAny_bind (wpAny_setField ho hd (by simp) ?_)
 show wpAny _ _ (newExc (.type "StopIteration") [] >>= _) _ _ _; refine wpAny_bind ?_
 simp only [newExc, newTuple]; refine wpAny_bind (wpAny_newObj_type ?_ (by size_fits))
 refine wpAny_bind (m := firstArgMember _ _) (wpAny_of_eq (a := Value.none) (by first | rfl | (simp only [firstArgMember]; rfl)) (wpAny_newObj_type ?_ (by size_fits)))
 simp only [raiseNew]; refine wpAny_bind (wpAny_handled ?_); rw [show A.in1.handled = none from hh]
 refine wpAny_bind (wpAny_pure (wpAny_throw ?_)); refine wpAny_bind (wpAny_isInstance (T := "StopIteration") (b := true) ⟨_, Heap.get?_push_size _ rfl, rfl⟩ isSubtype_stop ?_)
 exact wpAny_pure (hQ _ (((Heap.SameBut.update ..).extBut.push _).push _))
end
end DY
namespace L2
open PySem PySem.Spec PyProof.Rows
section
variable {X : Cx} {pins : List (Addr × Obj)} {σ : St} {H : Hp} {s : Shared} {a b : Addr} {kvs : List (List Key × V)} {k : List Key} {v : V} {A : Around} {E : Value -> Shared -> Prop}
theorem KT.less {H : Hp} {kvs : List (List Key × V)} {xs : List (List Key × Addr × Value)} (r : KT H kvs xs) (k : List Key) : KT H (sQ kvs k) (xs.filter fun x => decide (x.1 ≠ k)) := by
 unfold KT at *
 induction r with
 | nil => exact .nil
 | @cons p q l l' h t ih =>
  unfold sQ at *
  by_cases e : p.1 = k
  ·rw [List.filter_cons_of_neg (by simpa using e), List.filter_cons_of_neg (by rw [<- h.1]; simpa using e)]
   exact ih
  ·rw [List.filter_cons_of_pos (by simpa using e), List.filter_cons_of_pos (by rw [<- h.1]; simpa using e)]
   exact .cons h ih
def rPopT : V -> List V -> Hp -> VK -> Prop := fun x vs H Q => ∃ a b kvs k v, x = .ref a /\ vs = [.ref b] /\ H a = some (.dT kvs) /\ H b = some (.tup (k.map kV)) /\ iW kvs k = some v /\ Q v (upd H a (.dT (sQ kvs k)))
theorem D2 (hu : (tupleKind (bG X.prog X.w)).room X.A.in1) : MtR X "dict.pop" rPopT := by
 intro pins s σ H x vs v us Q I rx rv h
 obtain ⟨a, b, kvs, k, y, rfl, rfl, ea, eb, hv, q⟩ := h
 cases (show v = Value.ref a from rx)
 obtain ⟨u, rfl, ru⟩ := rv.one
 cases (show u = Value.ref b from ru)
 obtain ⟨z, hd, xs, rel, dd⟩ := Ff I.hok ea
 have hz : xs.length <= sizeLine := by rw [<- Paired.length rel]; exact z
 have rk := rel.val k
 rw [hv] at rk
 cases hp : atKey xs k with
 | none => rw [hp] at rk; exact rk.elim
 | some p =>
  rw [hp] at rk
  refine DY.Dr hu (pS I.hok eb) dd hp hz fun h' dd' hs => ⟨y, _, ?_, rk, q⟩
  obtain ⟨o, es, ep, ho, h2, h3, h4, _, h5⟩ := dd'
  refine uI I (by rw [ea]; exact True.intro) hs ⟨o, ho⟩ ⟨Nat.le_trans (CA _ _) z, hd, _, ((show KT H kvs xs from rel).less k).keeps fun c ys ec => ?_, o, es, ep, ho, h2, h3, h4, h5⟩
  rw [aA (xV ec ea (fun z => nomatch z))]
  exact ec
end
section
variable {X : Cx} {pins : List (Addr × Obj)} {σ : St} {H : Hp} {s : Shared} {a : Addr} {o : Obj} {kvs : List (List Key × V)}
theorem Ga (I : Inv X pins σ H s) (e : H a = some (.dT kvs)) : ∃ o, s.heap.get? a = some o /\ Inv X pins σ (upd H a (.frz o (.dT kvs))) s := by
 obtain ⟨z, hd, xs, rel, o, es, ep, ho, h2, h3, h4, h5⟩ := (show ObjOk X.prog X.w H s.heap a (.dT kvs) from I.hok a _ e)
 refine ⟨o, ho, ?_⟩
 have := uI (t' := s.toks) (h' := s.heap) (ob := .frz o (.dT kvs)) I (by rw [e]; exact True.intro) ⟨rfl, fun _ _ => rfl⟩ ⟨o, ho⟩ ⟨ho, z, hd, xs, Paired.mapP rel fun p q y => ⟨y.1, by rw [aA (xV y.2.1 e (fun z => nomatch z))]; exact y.2.1, y.2.2⟩, o, es, ep, ho, h2, h3, h4, h5⟩
 exact this
theorem Inv.thaw {u : HO} (I : Inv X pins σ H s) (e : H a = some (.frz o u)) (hn : ∀ o' u', X.H₀ a ≠ some (.frz o' u')) (hu : (∀ x, u ≠ .own x) /\ (∀ xs, u ≠ .tup xs)) : Inv X pins σ (upd H a u) s := by
 have ne : ∀ b x, H b = x -> (∀ o' u', x ≠ some (.frz o' u')) -> b ≠ a := fun b x hb hx z => by subst z; rw [e] at hb; exact hx _ _ hb.symm
 have n0 : ∀ b, H b = none -> upd H a u b = none := fun b hb => by rw [aA (ne b _ hb fun _ _ z => by cases z)]; exact hb
 exact {
  ok := I.ok
  os := I.os
  bare := I.bare
  base := ⟨I.base.keep, I.base.slot, fun b ob q n hx => n0 b (I.base.free b ob q n hx), I.base.there, fun b xs q => by rw [aA (ne b _ (I.base.tups b xs q) fun _ _ z => by cases z)]; exact I.base.tups b xs q,
   fun b o' u' q => by rw [aA fun z => hn o' u' (by rw [<- z]; exact q)]; exact I.base.frzs b o' u' q, fun b ps q => by
    obtain ⟨m, em⟩ := I.base.tbls b ps q
    exact ⟨m, by rw [aA (ne b _ em fun _ _ z => by cases z)]; exact em⟩⟩
  loc := I.loc
  cell := I.cell
  free := n0 _ I.free
  freeC := fun x c q => n0 _ (I.freeC x c q)
  pin := fun p hp => by
   obtain ⟨q1, q2, q3⟩ := I.pin p hp
   exact ⟨q1, n0 _ q2, q3⟩
  hok := fun b w hb => by
   have st : ∀ w', ObjOk X.prog X.w H s.heap b w' -> ObjOk X.prog X.w (upd H a u) s.heap b w' := fun w' ok => ok.stay (fun _ _ _ z => z) (fun c hc => by rw [aA (ne c _ hc fun _ _ z => by cases z)]; exact hc) fun c xs hc => by rw [aA (ne c _ hc fun _ _ z => by cases z)]; exact hc
   by_cases hba : b = a
   ·subst hba
    rw [aJ] at hb
    cases hb
    exact st _ (I.hok b _ e).2
   ·rw [aA hba] at hb
    exact st w (I.hok b w hb)
  len := I.len }
end
theorem tz {α β : Type} {F : α -> β -> Prop} : ∀ {l : List α} {m : List β} {i : Nat} {y : β}, Paired F l m -> m[i]? = some y -> ∃ p, l[i]? = some p /\ F p y
 | _, _, _, _, .nil, h => by simp at h
 | _, _, 0, _, .cons r _, h => by simp at h; subst h; exact ⟨_, rfl, r⟩
 | _, _, i + 1, _, .cons _ t, h => by simpa using tz t (by simpa using h)
def DB (i : Nat) (t : TE) : TE := fun σ H Q => ∃ a kvs, σ[i]? = some (some (.ref a)) /\ H a = some (.dT kvs) /\ ∀ o, t σ (upd H a (.frz o (.dT kvs))) fun v H2 => H2 a = some (.frz o (.dT kvs)) /\ Q v (upd H2 a (.dT kvs))
theorem ve {X : Cx} {e : Expr} {t : TE} (i : Nat) (h : PE X e t) : PE X e (DB i t) := by
 intro pins s σ H Q I q
 obtain ⟨a, kvs, _, ea, q⟩ := q
 obtain ⟨o, ho, I1⟩ := Ga I ea
 refine thn (h pins s σ _ _ I1 (q o)) fun v s1 h1 => ?_
 obtain ⟨x, H2, I2, r2, e2, q2⟩ := h1
 refine ⟨x, _, I2.thaw e2 (fun o' u' z => ?_) ⟨fun _ z => (nomatch z), fun _ z => (nomatch z)⟩, r2, q2⟩
 have := I.base.frzs a o' u' z
 rw [ea] at this
 cases this
def Itd (a : Addr) (o : Obj) (kvs : List (List Key × V)) : It :=
 ⟨fun i H => H a = some (.frz o (.dT kvs)) /\ i < kvs.length, fun i H x H' => H' = H /\ ∃ b k v, kvs[i]? = some (k, v) /\ x = .ref b /\ H b = some (.tup (k.map kV)), fun i H => H a = some (.frz o (.dT kvs)) /\ kvs.length <= i⟩
def Hw (te : TE) : TI := fun σ H R => te σ H fun x H1 => ∃ a o kvs, x = .ref a /\ H1 a = some (.frz o (.dT kvs)) /\ R (Itd a o kvs) H1
theorem CH {P : Program} {w : World} {K : W.Frag} {tg : Expr} {es : Array DictEntry} {ep : Nat} {o : Obj} {kvs : List (List Key × V)} (a it : Addr) (ho : o.data = .dict es ep) (hx : o.ExactDict) (hl : es.size = kvs.length) : Turn P w K tg (Itd a o kvs) [it] it (fun i h => h.IsKeyIter it a i es.size ep) where
 mem := by simp
 obj := fun i h st b hb => by
  obtain ⟨q, e, c, d⟩ := st
  rw [List.mem_singleton.mp hb]
  exact ⟨q, e, fun v z => by rw [d] at z; cases z⟩
 keep := fun i h h' st k => st.at fun o e => k it (by simp) o e
 item := by
  intro X hP hw hK hc i pins s σ H E I hf st hg
  subst hP hw hK
  obtain ⟨ea, hi⟩ := hg
  obtain ⟨g1, z, hd, xs, rel, o', es', ep', h1, h2, h3, h4, h5⟩ := (show ObjOk X.prog X.w H s.heap a (.frz o (.dT kvs)) from I.hok a _ ea)
  rw [g1] at h1
  cases h1
  rw [ho] at h3
  cases h3
  obtain ⟨f0, f1, f2, f3, f4, f5⟩ := hf it (by simp)
  have hlt : i < es.size := by rw [hl]; exact hi
  refine DY.Dk st ⟨o, g1, hx, ho⟩ hlt fun h' st' sb => ?_
  have I1 : Inv X pins σ H { s with heap := h' } := I.turned (t' := s.toks) (fun b o hb e => (sb.2 b hb).trans e) f0 f1 f3 f4 f5
  obtain ⟨q, e, c, d⟩ := id st'
  have hxi : es[i]? = (xs[i]?).map (entryOfKey (tupleKind (bG X.prog X.w))) := entry_at h4 i
  rw [Array.getElem?_eq_getElem hlt] at hxi
  cases qx : xs[i]? with
  | none => rw [qx] at hxi; cases hxi
  | some y =>
   rw [qx] at hxi
   have ek : es[i] = entryOfKey (tupleKind (bG X.prog X.w)) y := Option.some.inj hxi
   obtain ⟨p, qp, r1, r2, r3⟩ := tz rel qx
   refine ⟨_, rfl, eJ (s := { s with heap := h' }) e c d (by decide) ⟨.ref y.2.1, H, I1, ?_, ⟨rfl, y.2.1, p.1, p.2, qp, rfl, r2⟩, st', fun b hb => (hf b hb).1⟩⟩
   rw [ek]
   rfl
 done := by
  intro X hP hw hK hc i pins s σ H E I hf st hg
  subst hP hw hK
  obtain ⟨ea, hi⟩ := hg
  obtain ⟨g1, _⟩ := (show ObjOk X.prog X.w H s.heap a (.frz o (.dT kvs)) from I.hok a _ ea)
  obtain ⟨f0, f1, f2, f3, f4, f5⟩ := hf it (by simp)
  exact DY.CQ (I.ok.hd hc) st ⟨o, g1, hx, ho⟩ (by rw [hl]; exact hi) fun h' eb => ⟨rfl, I.turned (t' := s.toks) (fun b o hb e => eb b o hb e) f0 f1 f3 f4 f5⟩
 self := fun _ _ _ _ _ st h => wpAny_pyIter_keyiter st h
theorem CV {X : Cx} {tg l : Expr} {tl : TE} (hl : PE X l tl) : PI X tg l (Hw tl) := by
 intro pins s σ H R I h
 refine thn (hl pins s σ H _ I h) fun v s1 h1 => ?_
 obtain ⟨x, H1, I1, r1, a, o, kvs, e, ea, q⟩ := h1
 subst e
 cases r1
 obtain ⟨g1, z, hd, xs, rel, o', es, ep, h1, h2, h3, h4, h5⟩ := (show ObjOk X.prog X.w H1 s1.heap a (.frz o (.dT kvs)) from I1.hok a _ ea)
 rw [g1] at h1
 cases h1
 have hsz : es.size = kvs.length := by rw [size_of_entries h4, Paired.length rel]
 refine DY.AS hd ⟨o, g1, h2, h3⟩ ⟨s1.heap.objs.size, [s1.heap.objs.size], _, _, H1, rfl, I1.kept (t' := s1.toks) fun b o e => Heap.get?_push_of_some _ e, CH a _ h3 h2 hsz, ⟨_, Heap.get?_push_size _ rfl, rfl, rfl⟩, fun b hb => ?_, q⟩
 rw [List.mem_singleton.mp hb]
 exact I1.fpOk (Nat.le_refl _) I1.fresh
def Dt : List V -> Hp -> VK -> Prop := fun vs H Q => ∃ l, ∃ es : List (Addr × Addr × List Key × V), vs = [.ref l] /\ H l = some (.lst (es.map fun e => .ref e.1)) /\ (∀ e ∈ es, H e.1 = some (.tup [.ref e.2.1, e.2.2.2]) /\ H e.2.1 = some (.tup (e.2.2.1.map kV))) /\
 es.length < sizeLine /\ ∀ p, H p = none -> Q (.ref p) (upd H p (.dT (j8 [] (es.map fun e => (e.2.2.1, e.2.2.2)))))
theorem uT {P : Program} {w : World} {A : Around} (h : A.units + 64 < cLine) : (tupleKind (bG P w)).room A.in1.in1 := tupleKind_room_in1 (show A.units + 1 + 1 < cLine from Nat.lt_of_le_of_lt (by lia) h)
theorem lY {X : Cx} (hu : (tupleKind (bG X.prog X.w)).room X.A.in1.in1) (hc : X.calm = true) : CallR X (.type "dict") Dt := by
 intro pins s σ H xs us Q I r h
 obtain ⟨l, es, rfl, el, he, hl, q⟩ := h
 obtain ⟨u, rfl, ru⟩ := r.one
 cases (show u = Value.ref l from ru)
 have hn := I.hok.fresh (Nat.le_refl s.heap.objs.size)
 have I1 := I.laid (a := s.heap.objs.size) (o := .dT []) (h' := s.heap.push { cls := .type "dict", data := .dict #[] }) (t' := s.toks) (fun _ _ q => Heap.get?_push_of_some _ q) (Nat.le_refl _) (DK s.heap I.big)
 have nl : l ≠ s.heap.objs.size := aP el hn
 have ek : ∀ {b u}, H b = some u -> upd H s.heap.objs.size (.dT []) b = some u := fun {b u} z => by rw [aA (aP z hn)]; exact z
 obtain ⟨hll, its, n, rl, hol⟩ := (show ObjOk X.prog X.w (upd H s.heap.objs.size (.dT [])) (s.heap.push { cls := .type "dict", data := .dict #[] }) l (.lst (es.map fun e => V.ref e.1)) from I1.hok l _ (ek el))
 refine callType_codes (Q₁ := fun obj s₁ => obj = .ref s.heap.objs.size /\ s₁ = { s with heap := s.heap.push { cls := .type "dict", data := .dict #[] } }) F.kt_called_dict (F.kt_typeCall_dict_1 _) F.entry_dict_init (kt_code_dict_new _ ⟨rfl, rfl⟩) ?_
 rintro obj s₁ ⟨rfl, rfl⟩
 have hTa : ({ s with heap := s.heap.push { cls := .type "dict", data := .dict #[] } } : Shared).TypeIs (.ref s.heap.objs.size) "dict" := ⟨_, Heap.get?_push_size _ rfl, rfl⟩
 have hTl : ({ s with heap := s.heap.push { cls := .type "dict", data := .dict #[] } } : Shared).TypeIs (.ref l) "list" := ⟨_, hol, rfl⟩
 have hh : X.A.in1.handled = none := I.ok.hd hc
 refine ⟨hTa, F.args_dict_init_2 _ _, ?_⟩
 unfold Builtin.«dict.__init__»; refine wpAny_bind ?_
 unfold Builtin.Dict.selfAndRest; refine wpAny_bind (wpAny_notOrdered_dict hTa ?_)
 show wpAny _ _ (pure (s.heap.objs.size, [Value.ref l])) _ _ _; refine wpAny_pure ?_
 show wpAny _ _ (Builtin.Dict.updateFrom "dict.__init__" s.heap.objs.size (.ref l) [] .none) _ _ _
 unfold Builtin.Dict.updateFrom; refine wpAny_bind (wpAny_typeOf hTl ?_); rw [if_pos (by decide)]
 refine wpAny_bind (DX.AO hh hol fun h' tk' hk => ?_)
 rw [if_pos (show (none : Option Value).isNone = true from rfl)]; refine wpAny_bind (wpAny_rule ?_)
 have I2 : Inv X pins σ (upd H s.heap.objs.size (.dT [])) { s with heap := h', toks := tk' } := I1.kept (t' := tk') hk
 obtain ⟨its1, rl1, pl1, _⟩ := I2.list (.inl (.inl (ek el)))
 refine wpAny_bind (wpAny_pyIter_list pl1.isList ?_)
 have I3 : Inv X pins σ (upd H s.heap.objs.size (.dT [])) { s with heap := h'.push { cls := .type "list_iterator", data := .fields #[.ref l, .int 0 0] }, toks := tk' } := I2.kept (t' := tk') fun b o e => Heap.get?_push_of_some _ e
 refine wpAny_pure ⟨plainId_quiet DX.jc _, ?_⟩
 refine wE (A := X.A.in1) (xs := es.map fun e => V.ref e.1) (pins := pins) (σ := σ) hu hh es 0 [] _ _ I3 aJ (I2.fpOk (Nat.le_refl _) (I2.hok.fresh (Nat.le_refl _))) ⟨_, Heap.get?_push_size _ rfl, rfl, rfl⟩ (ek el) (by rw [List.drop_zero]) (fun e h' => ?_) (by simpa using hl) fun s' I' => ?_
 ·obtain ⟨z1, z2⟩ := he e h'
  exact ⟨ek z1, ek z2⟩
 ·rw [zo] at I'
  exact ⟨rfl, .ref s.heap.objs.size, _, I', rfl, q _ hn⟩
end L2
namespace M
open PySem L2
section
variable {K : W.Frag} {S S' H H' : Hp}
mutual
def gd : D -> Bool
 | .dic _ => false
 | .dif _ => false
 | .lst l => noDics l
 | .tup l => noDics l
 | .scr l => noDics l
 | .mtp l => noDics l
 | .ins _ _ l => noDics l
 | _ => true
def noDics : List D -> Bool
 | [] => true
 | d :: l => gd d && noDics l
end
mutual
theorem Den.less {a : Addr} {o : Obj} {kvs : List (List Key × V)} (hs : ∀ b, b ≠ a -> S' b = S b) (ha : S a = some (.frz o (.dT kvs))) : ∀ {d : D} {v : V}, gd d = true -> Den K S d v -> Den K S' d v
 | .dic _, _, n, _ => by unfold gd at n; cases n
 | .dif _, _, n, _ => by unfold gd at n; cases n
 | .non, _, _, h => by unfold Den at *; exact h
 | .bl _, _, _, h => by unfold Den at *; exact h
 | .int _, _, _, h => by unfold Den at *; exact h
 | .str _, _, _, h => by unfold Den at *; exact h
 | .ty _, _, _, h => by unfold Den at *; exact h
 | .lst l, _, n, h => by
  unfold gd at n
  obtain ⟨p, xs, e, h1, h2⟩ := den_lst.mp h
  refine den_lst.mpr ⟨p, xs, e, ?_, Dens.less hs ha n h2⟩
  rcases h1 with h1 | ⟨q, h1⟩
  ·exact .inl (by rw [hs p fun z => by subst z; rw [ha] at h1; cases h1]; exact h1)
  ·exact .inr ⟨q, by rw [hs p fun z => by subst z; rw [ha] at h1; cases h1]; exact h1⟩
 | .tup l, _, n, h => by
  unfold gd at n
  obtain ⟨p, xs, e, h1, h2⟩ := den_tup.mp h
  exact den_tup.mpr ⟨p, xs, e, (show S' p = some (.tup xs) by rw [hs p fun z => by subst z; rw [show S p = some (.tup xs) from h1] at ha; cases ha]; exact h1), Dens.less hs ha n h2⟩
 | .scr l, _, n, h => by
  unfold gd at n
  obtain ⟨p, xs, e, h1, h2⟩ := den_scr.mp h
  refine den_scr.mpr ⟨p, xs, e, ?_, Dens.less hs ha n h2⟩
  rcases h1 with (h1 | ⟨q, h1⟩) | h1
  ·exact .inl (.inl (by rw [hs p fun z => by subst z; rw [ha] at h1; cases h1]; exact h1))
  ·exact .inl (.inr ⟨q, by rw [hs p fun z => by subst z; rw [ha] at h1; cases h1]; exact h1⟩)
  ·exact .inr h1
 | .mtp l, _, n, h => by
  unfold gd at n
  obtain ⟨p, xs, e, h1, h2⟩ := den_mtp.mp h
  refine den_mtp.mpr ⟨p, xs, e, ?_, Dens.less hs ha n h2⟩
  rcases h1 with (h1 | ⟨q, h1⟩) | h1
  ·exact .inl (.inl (by rw [hs p fun z => by subst z; rw [ha] at h1; cases h1]; exact h1))
  ·exact .inl (.inr ⟨q, by rw [hs p fun z => by subst z; rw [ha] at h1; cases h1]; exact h1⟩)
  ·exact .inr h1
 | .ins _ _ l, _, n, h => by
  unfold gd at n
  obtain ⟨p, C, dx, fs, e, h0, h1, h2, h3⟩ := den_ins.mp h
  exact den_ins.mpr ⟨p, C, dx, fs, e, h0, by rw [hs p fun z => by subst z; rw [ha] at h1; cases h1]; exact h1, h2, Dens.less hs ha n h3⟩
theorem Dens.less {a : Addr} {o : Obj} {kvs : List (List Key × V)} (hs : ∀ b, b ≠ a -> S' b = S b) (ha : S a = some (.frz o (.dT kvs))) : ∀ {ds : List D} {xs : List V}, noDics ds = true -> Dens K S ds xs -> Dens K S' ds xs
 | [], _, _, h => by rw [h.nil_of]; exact .nil
 | _ :: _, _, n, h => by
  unfold noDics at n
  obtain ⟨n1, n2⟩ := Bool.and_eq_true_iff.mp n
  obtain ⟨y, ys, rfl, a, b⟩ := h.cons_of
  exact .cons (Den.less hs ha n1 a) (Dens.less hs ha n2 b)
end
def ksO : Sl -> Option (List (List Int))
 | .ow (.dic ks) => some ks
 | .ow (.hd _ ks []) => some ks
 | _ => none
def reD (ks : List (List Int)) : Sl -> Sl
 | .ow (.dic _) => .ow (.dic ks)
 | .ow (.hd p _ []) => .ow (.hd p ks [])
 | s => s
@[simp] theorem zk (ks : List (List Int)) : ksO (.ow (.dic ks)) = some ks := rfl
@[simp] theorem C3 (p : Addr) (ks : List (List Int)) : ksO (.ow (.hd p ks [])) = some ks := rfl
@[simp] theorem HY (ks ks' : List (List Int)) : reD ks (.ow (.dic ks')) = .ow (.dic ks) := rfl
@[simp] theorem IC (p : Addr) (ks ks' : List (List Int)) : reD ks (.ow (.hd p ks' [])) = .ow (.hd p ks []) := rfl
theorem DW {s : Sl} {ks : List (List Int)} (h : ksO s = some ks) : ∃ o, s = .ow o /\ (∀ S H v fp, Own K S H o v fp -> ∃ a, v = .ref a /\ fp = [a] /\ H a = some (.dT (bK ks))) /\ (∀ S H v fp, Own K S H o v fp -> ∀ a, v = .ref a -> ∀ (S' H' : Hp) ks', H' a = some (.dT (bK ks')) -> ∃ o', reD ks' s = .ow o' /\ Own K S' H' o' (.ref a) [a]) := by
 unfold ksO at h
 split at h
 ·cases h
  refine ⟨_, rfl, fun S H v fp ow => own_dic.mp ow, fun S H v fp ow a e S' H' ks' hh => ⟨_, rfl, own_dic.mpr ⟨a, rfl, rfl, hh⟩⟩⟩
 ·cases h
  refine ⟨_, rfl, fun S H v fp ow => ?_, fun S H v fp ow a e S' H' ks' hh => ⟨_, rfl, ?_⟩⟩
  ·obtain ⟨xs, f, e, e2, h1, h2⟩ := own_hd.mp ow
   obtain ⟨rfl, rfl⟩ := h2.nil_of
   exact ⟨_, e, e2, h1⟩
  ·obtain ⟨xs, f, e1, e2, h1, h2⟩ := own_hd.mp ow
   obtain ⟨rfl, rfl⟩ := h2.nil_of
   rw [e] at e1
   cases e1
   exact own_hd.mpr ⟨[], [], rfl, rfl, hh, .nil⟩
 ·cases h
section
variable {A : Hp} {Λ : Nat -> Option Addr} {Φ : Nat -> List Addr} {ρ : Env} {σ : St} {i : Nat} {s : Sl} {ks : List (List Int)}
theorem RlF.dicO (f : RlF K A Λ Φ ρ σ S H) (h : ρ[i]? = some s) (hk : ksO s = some ks) : ∃ a, σ[i]? = some (some (.ref a)) /\ H a = some (.dT (bK ks)) /\ S a = none /\ A a = none /\ (∀ (j : Nat) o', j ≠ i -> ρ[j]? = some (.ow o') -> a ∉ Φ j) /\
  ∀ ks', RlF K A Λ Φ (ρ.set i (reD ks' s)) σ S (upd H a (.dT (bK ks'))) := by
 obtain ⟨o, rfl, w1, w2⟩ := DW (K := K) hk
 obtain ⟨v, ev, ow, nd, n⟩ := f.ow i _ h
 obtain ⟨a, rfl, hfp, ha⟩ := w1 _ _ _ _ ow
 have ain : a ∈ Φ i := by rw [hfp]; exact List.mem_cons_self
 have oth : ∀ (j : Nat) o', j ≠ i -> ρ[j]? = some (.ow o') -> a ∉ Φ j := fun j o' hj e1 z => f.dj j i o' _ hj e1 h a z ain
 refine ⟨a, ev, ha, (n a ain).1, (n a ain).2, oth, fun ks' => ?_⟩
 obtain ⟨o2, e2, ow2⟩ := w2 _ _ _ _ ow a rfl S (upd H a (.dT (bK ks'))) ks' aJ
 rw [e2]
 have ne : ∀ b, b ≠ a -> upd H a (.dT (bK ks')) b = H b := fun b hb => aA hb
 have fin := f.put (H' := upd H a (.dT (bK ks'))) i (fun b u e => by rw [ne b fun z => by subst z; rw [(n b ain).1] at e; cases e]; exact f.sub b u e) (fun b u e => by rw [ne b fun z => by subst z; rw [(n b ain).2] at e; cases e]; exact f.asub b u e) ow2 (by simp) (fun b hb => by rw [List.mem_singleton.mp hb]; exact n a ain) fun j o' hj e1 b hb => by
  have nb : b ≠ a := fun z => oth j o' hj e1 (by rw [<- z]; exact hb)
  exact ⟨ne b nb, fun z => nb (List.mem_singleton.mp z)⟩
 rw [vO ev] at fin
 have hΦ : (fun j => if j = i then [a] else Φ j) = Φ := by
  funext j
  by_cases hj : j = i
  ·rw [if_pos hj, hj, hfp]
  ·rw [if_neg hj]
 rw [hΦ] at fin
 exact fin
theorem RlF.melt (f : RlF K A Λ Φ ρ σ S H) (h : ρ[i]? = some s) (hk : ksO s = some ks) : ∃ a, σ[i]? = some (some (.ref a)) /\ H a = some (.dT (bK ks)) /\ S a = none /\
  ∀ o, RlF K A Λ Φ (ρ.set i (.sh (.dif ks))) σ (upd S a (.frz o (.dT (bK ks)))) (upd H a (.frz o (.dT (bK ks)))) := by
 obtain ⟨a, ev, ha, sa, aa, oth, _⟩ := f.dicO h hk
 refine ⟨a, ev, ha, sa, fun o => ?_⟩
 have s1 : Same S (upd S a (.frz o (.dT (bK ks)))) := fun b u e => by rw [aA (aP e sa)]; exact e
 exact {
  len := by rw [List.length_set]; exact f.len
  sub := fun b u e => by
   by_cases hb : b = a
   ·subst hb; rw [aJ] at e ⊢; exact e
   ·rw [aA hb] at e ⊢; exact f.sub b u e
  sh := fun j d hj => by
   rcases bv hj with ⟨rfl, e, _⟩ | ⟨hij, hj⟩
   ·cases e
    exact ⟨_, ev, den_dif.mpr ⟨a, o, rfl, aJ⟩⟩
   ·obtain ⟨v, e1, e2⟩ := f.sh j d hj
    exact ⟨v, e1, e2.mono s1⟩
  ow := fun j o' hj => by
   rcases bv hj with ⟨rfl, e, _⟩ | ⟨hij, hj⟩
   ·cases e
   ·obtain ⟨v, e1, e2, e3, e4⟩ := f.ow j o' hj
    have nb : ∀ b ∈ Φ j, b ≠ a := fun b hb z => oth j o' (Ne.symm hij) hj (by rw [<- z]; exact hb)
    exact ⟨v, e1, e2.mono s1 fun b hb => aA (nb b hb), e3, fun b hb => ⟨by rw [aA (nb b hb)]; exact (e4 b hb).1, (e4 b hb).2⟩⟩
  dj := fun j k o1 o2 hjk g1 g2 => by
   rcases bv g1 with ⟨rfl, e, _⟩ | ⟨_, g1⟩
   ·cases e
   ·rcases bv g2 with ⟨rfl, e, _⟩ | ⟨_, g2⟩
    ·cases e
    ·exact f.dj j k o1 o2 hjk g1 g2
  lo := fun j hj => by
   rcases bv hj with ⟨rfl, e, _⟩ | ⟨_, hj⟩
   ·cases e
   ·exact f.lo j hj
  asub := fun b u e => by rw [aA fun z => by subst z; rw [aa] at e; cases e]; exact f.asub b u e
  adis := fun b => by
   by_cases hb : b = a
   ·subst hb; exact .inr aa
   ·rw [aA hb]; exact f.adis b }
end
theorem t8 {a : Addr} {o : Obj} {kvs : List (List Key × V)} (s : Same S H) (sa : S a = none) (ha : H a = some (.dT kvs)) (z : Ext (upd S a (.frz o (.dT kvs))) (upd H a (.frz o (.dT kvs))) S' H') :
  S' a = some (.frz o (.dT kvs)) /\ H' a = some (.frz o (.dT kvs)) /\ Ext S H (fun b => if b = a then none else S' b) (upd H' a (.dT kvs)) := by
 have e1 := z.sh a _ aJ
 refine ⟨e1, z.sub a _ e1, fun b u e => ?_, fun b u e => ?_, fun b u e n => ?_⟩
 ·have hb := aP e sa
  rw [if_neg hb]
  exact z.sh b u (by rw [aA hb]; exact e)
 ·by_cases hb : b = a
  ·rw [if_pos hb] at e; cases e
  ·rw [if_neg hb] at e
   rw [aA hb]
   exact z.sub b u e
 ·by_cases hb : b = a
  ·subst hb
   rw [aJ, if_pos rfl, <- ha]
   exact ⟨e, rfl⟩
  ·rw [aA hb, if_neg hb]
   exact z.al b u (by rw [aA hb]; exact e) (by rw [aA hb]; exact n)
@[simp] def n5 (i : Nat) (e : XE) : XE := fun ρ => ((ρ[i]?).bind ksO).bind fun ks => (e (ρ.set i (.sh (.dif ks)))).bind fun d => if gd d = true then some d else none
theorem bind_some {α β : Type} {x : Option α} {f : α -> Option β} {b : β} (h : x.bind f = some b) : ∃ a, x = some a /\ f a = some b := Option.bind_eq_some_iff.mp h
theorem B1 {t : TE} {e : XE} (i : Nat) (h : SE K t e) : SE K (DB i t) (n5 i e) := fun ρ σ S H Q d r x k => by
 obtain ⟨ks, x1, x⟩ := bind_some x
 obtain ⟨s, qs, hk⟩ := bind_some x1
 obtain ⟨d', qe, x⟩ := bind_some x
 split at x
 ·rename_i hn
  cases x
  obtain ⟨A, Λ, Φ, f⟩ := r
  obtain ⟨a, ev, ha, sa, up⟩ := f.melt qs hk
  refine ⟨a, _, ev, ha, fun o => h _ σ _ _ _ d ⟨A, Λ, Φ, up o⟩ qe fun v S1 H1 z1 d1 => ?_⟩
  obtain ⟨e1, e2, z⟩ := t8 f.sub sa ha z1
  exact ⟨e2, k v _ _ z (d1.less (fun b hb => if_neg hb) e1 hn)⟩
 ·cases x
@[simp] def mY (i : Nat) (e : XA) : XA := fun ρ => ((ρ[i]?).bind ksO).bind fun ks => (e (ρ.set i (.sh (.dif ks)))).bind fun l => if noDics l = true then some l else none
theorem Ew {t : TE} {e : XA} (i : Nat) (h : SF K t e) : SF K (DB i t) (mY i e) := fun ρ σ S H Q l r x k => by
 obtain ⟨ks, x1, x⟩ := bind_some x
 obtain ⟨s, qs, hk⟩ := bind_some x1
 obtain ⟨d', qe, x⟩ := bind_some x
 split at x
 ·rename_i hn
  cases x
  obtain ⟨A, Λ, Φ, f⟩ := r
  obtain ⟨a, ev, ha, sa, up⟩ := f.melt qs hk
  refine ⟨a, _, ev, ha, fun o => h _ σ _ _ _ l ⟨A, Λ, Φ, up o⟩ qe fun b xs S1 H1 z1 h1 h2 h3 d1 => ?_⟩
  obtain ⟨e1, e2, z⟩ := t8 f.sub sa ha z1
  have hb : b ≠ a := fun z => by subst z; rw [aJ] at h1; cases h1
  exact ⟨e2, k b xs _ _ z (by rw [aA hb] at h1; exact h1) (by show (if b = a then none else S1 b) = none; rw [if_neg hb]; exact h2) (by rw [aA hb]; exact h3) (d1.less (fun b hb => if_neg hb) e1 hn)⟩
 ·cases x
def Bk (ks : List (List Int)) (q : List Int) : List (List Int) := ks.filter fun k => decide (k ≠ q)
theorem w8 (q : List Int) : ∀ ks : List (List Int), sQ (bK ks) (kI q) = bK (Bk ks q)
 | [] => rfl
 | k :: ks => by
  have ih := w8 q ks
  unfold sQ Bk bK at *
  rw [List.map_cons]
  by_cases h : k = q
  ·subst h
   rw [List.filter_cons_of_neg (by simp), List.filter_cons_of_neg (by simp)]
   exact ih
  ·rw [List.filter_cons_of_pos (by simpa using fun z => h (yP z)), List.filter_cons_of_pos (by simpa using h), List.map_cons, ih]
theorem wP (q : List Int) : ∀ ks : List (List Int), ks.contains q = true -> iW (bK ks) (kI q) = some (.bl true)
 | [], h => by cases h
 | k :: ks, h => by
  by_cases e : k = q
  ·subst e
   exact j6 rfl
  ·show iW ((kI k, V.bl true) :: bK ks) (kI q) = _
   rw [j5 (fun z => e (yP z))]
   refine wP q ks ?_
   rw [List.contains_cons] at h
   have : (q == k) = false := by simpa using fun z => e z.symm
   rw [this, Bool.false_or] at h
   exact h
@[simp] def zm (i : Nat) (k : XE) : XS := fun ρ => (ρ[i]?).bind fun s => (ksO s).bind fun ks => (k ρ).bind fun d => (kyD d).bind fun q => if ks.contains q = true then some (.nx (ρ.set i (reD (Bk ks q) s))) else none
theorem FE {tk : TE} {k : XE} {i : Nat} (h : SE K tk k) : SS K (t7 (tBM K "dict" rPopT (jG i) (d9 tk kJ))) (zm i k) := fun A Λ ρ σ S H E o r x c => by
 obtain ⟨s, qs, x⟩ := bind_some x
 obtain ⟨ks, hk, x⟩ := bind_some x
 obtain ⟨d, qk, x⟩ := bind_some x
 obtain ⟨q, qd, x⟩ := bind_some x
 split at x
 ·rename_i hc
  cases x
  obtain ⟨Φ, f⟩ := r
  obtain ⟨a, ev, ha, _⟩ := f.dicO qs hk
  refine ⟨.ref a, ev, .inr (.inr (.inl ⟨rfl, .inr ⟨_, ha⟩⟩)), h ρ σ S H _ d ⟨A, Λ, Φ, f⟩ qk fun v S1 H1 z1 d1 => ?_⟩
  obtain ⟨b, rfl, hb⟩ := vx d1 qd
  obtain ⟨a', ev', ha', _, _, _, up⟩ := (f.ext z1).dicO qs hk
  rw [ev] at ev'
  cases ev'
  refine ⟨a, b, _, kI q, .bl true, rfl, rfl, ha', z1.sub b _ hb, wP q ks hc, ?_⟩
  rw [w8]
  exact c σ S1 _ ⟨Φ, up _⟩ z1.sh
 ·cases x
@[simp] def rd (e : XA) : Env -> Option O := fun ρ => (e ρ).bind fun l => (jH l).bind fun qs => if l.length < LIM then some (.dic (qs.foldl si [])) else none
theorem zv {te : TE} {e : XA} (h : SF K te e) : STr K (tCB Dt (d9 te kJ)) (rd e) := fun ρ σ S H Q o r x c => by
 obtain ⟨l, qe, x⟩ := bind_some x
 obtain ⟨qs, qp, x⟩ := bind_some x
 split at x
 ·rename_i hl
  cases x
  refine h ρ σ S H _ l r qe fun p xs S1 H1 z1 hp hs1 hp1 d1 => ?_
  obtain ⟨es, e1, e2, e3⟩ := vI z1.sub d1 qp
  refine ⟨p, es, rfl, by rw [<- e1]; exact hp1, e2, ?_, fun a ha => ?_⟩
  ·have := d1.length
   have e4 : es.length = xs.length := by rw [e1, List.length_map]
   exact Nat.lt_trans (by lia) fK
  ·rw [e3, show ([] : List (List Key × V)) = bK [] from rfl, pT]
   have h0 : H a = none := (z1.same r.sub).free ha
   have z2 : Ext S1 H1 S1 (upd H1 a (.dT (bK (qs.foldl si [])))) := Ext.own z1.sub ha
   exact c (.ref a) [a] S1 _ (z1.trans z2) (own_dic.mpr ⟨a, rfl, rfl, aJ⟩) (by simp) fun b hb => by rw [List.mem_singleton.mp hb]; exact ⟨h0, z1.sub.free ha⟩
 ·cases x
end
section
variable {K : W.Frag} {S S' H H' : Hp}
def Gu (J : It) (S H : Hp) (l : List D) : Prop := ∀ S' H', Ext S H S' H' ->
 (∀ i d, l[i]? = some d -> J.go i H' /\ ∀ x H'', J.yld i H' x H'' -> H'' = H' /\ ∃ b, ∃ k : List Int, d = .tup (k.map .int) /\ x = .ref b /\ H' b = some (.tup (k.map V.int))) /\ J.stop l.length H'
def SIT (K : W.Frag) (wi : TI) (e : XA) : Prop := ∀ ρ σ S H (R : It -> Hp -> Prop) l, Rl K ρ σ S H -> e ρ = some l -> (∀ J S' H', Ext S H S' H' -> Gu J S' H' l -> R J H') -> wi σ H R
def SGT (K : W.Frag) (g : TG) (x : XG) : Prop := ∀ A Λ ρ σ S H b (k : List Int) (Q : St -> Hp -> Prop) ρ', RlA K A Λ ρ σ S H -> H b = some (.tup (k.map V.int)) -> x (.tup (k.map .int)) ρ = some ρ' -> (∀ σ', RlA K A Λ ρ' σ' S H -> Q σ' H) -> g (.ref b) σ H Q
theorem CW {gs : TGs} {y : XGs} {n : Nat} (hs : SGs K gs y) (hl : wa y n) : SGT K (D6 K n gs) (bq y) := fun A Λ ρ σ S H b k Q ρ' r hb e c =>
 ⟨b, k.map V.int, rfl, SqT.of hb, by rw [List.length_map, <- hl (k.map D.int) ρ ρ' e, List.length_map], hs A Λ ρ σ S H _ (k.map D.int) Q ρ' r (nu k) e c⟩
@[simp] def uN (i : Nat) : XA := fun ρ => match ρ[i]? with | some (.sh (.dif ks)) => some (ks.map fun k => .tup (k.map .int)) | _ => none
theorem Fm (i : Nat) : SIT K (Hw (jG i)) (uN i) := fun ρ σ S H R l r x c => by
 unfold uN at x
 split at x
 ·rename_i ks q
  cases x
  obtain ⟨v, ev, dv⟩ := r.sh i _ q
  obtain ⟨a, o, rfl, ha⟩ := den_dif.mp dv
  refine ⟨.ref a, ev, a, o, _, rfl, r.sub _ _ ha, c _ S H (Ext.refl r.sub) fun S' H' z => ?_⟩
  have ha' := z.sub a _ (z.sh a _ ha)
  have hl : (bK ks).length = ks.length := CM ks
  refine ⟨fun j d hd => ⟨⟨ha', ?_⟩, fun x H'' hy => ?_⟩, ha', by rw [hl, List.length_map]; exact Nat.le_refl _⟩
  ·have := (List.getElem?_eq_some_iff.mp hd).1
   rw [List.length_map] at this
   rw [hl]; exact this
  ·obtain ⟨e, b, k, v, hk, rfl, hb⟩ := hy
   refine ⟨e, b, ?_⟩
   rw [List.getElem?_map] at hd
   unfold bK at hk
   rw [List.getElem?_map] at hk
   cases qj : ks[j]? with
   | none => rw [qj] at hd; cases hd
   | some k0 =>
    rw [qj] at hd hk
    cases hd
    cases hk
    exact ⟨k0, rfl, rfl, by rw [HF] at hb; exact hb⟩
 ·cases x
theorem zP {js : List (Option Nat)} {wi : TI} {g : TG} {tt : TIf} {te : TE} {w : XA} {x : XG} {c : XT} {e : XE} (hi : SIT K wi w) (hg : SGT K g x) (hc : ST K tt c) (he : SE K te e) : SF K (wo js wi g tt te) (bZ js w x c e) := fun ρ σ S H Q l r y k => by
 unfold bZ at y
 cases q : w ρ with
 | none => rw [q] at y; cases y
 | some ds =>
  rw [q] at y
  dsimp only [Option.bind] at y
  split at y
  ·rename_i hlim
   refine hi ρ σ S H _ ds r q fun J S1 H1 z1 wk D hD => ?_
   have r1 := r.ext z1
   have hD0 : H D = none := (z1.same r.sub).free hD
   refine ⟨fun i n H' => n = ds.length - i /\ i <= ds.length /\ ∃ S' done ys c9, Ext S1 H1 S' H' /\ Same S1 S' /\ H' D = some (.lst ys) /\ S' D = none /\ Dens K S' done ys /\ done.length <= i /\ cE x c e (oG js ρ) (ds.drop i) = some c9 /\ l = done ++ c9,
    ⟨_, rfl, Nat.zero_le _, S1, [], [], l, Ext.own z1.sub hD, Same.refl _, aJ, z1.sub.free hD, .nil, Nat.zero_le _, y, rfl⟩, ?_⟩
   rintro i n H2 ⟨rfl, hil, S2, done, ys, c9, z2, s2, hy, hSD, dy, hdl, y2, rfl⟩
   obtain ⟨w1, w2⟩ := wk S2 H2 z2
   cases qd : ds[i]? with
   | none =>
    have : ds.length = i := by have := List.getElem?_eq_none_iff.mp qd; lia
    subst this
    rw [List.drop_of_length_le (Nat.le_refl _)] at y2
    cases y2
    rw [List.append_nil] at k
    exact .inl ⟨w2, k D ys S2 H2 (z1.trans z2) hD0 hSD hy dy⟩
   | some d =>
    obtain ⟨g1, g2⟩ := w1 i d qd
    have hlt := (List.getElem?_eq_some_iff.mp qd).1
    rw [rD qd] at y2
    unfold cE at y2
    cases qx : x d (oG js ρ) with
    | none => rw [qx] at y2; cases y2
    | some ρ3 =>
     rw [qx] at y2
     dsimp only [Option.bind] at y2
     refine .inr ⟨g1, fun xv H3 hyl => ?_⟩
     obtain ⟨rfl, b0, k0, rfl, rfl, hb0⟩ := g2 xv H3 hyl
     have ri := Cm (r1.ext z2) js
     refine hg _ _ _ _ S2 _ b0 k0 _ ρ3 ri hb0 qx fun σ3 r3 => ?_
     cases qc : c ρ3 with
     | none => rw [qc] at y2; cases y2
     | some b =>
      rw [qc] at y2
      dsimp only at y2
      refine hc ρ3 σ3 S2 _ _ b r3.toRl qc fun S4 H4 z4 => ?_
      obtain ⟨al1, al2⟩ := z4.al D _ hy hSD
      cases b with
      | false =>
       rw [if_neg (by decide)] at y2
       exact vo ⟨_, by lia, rfl, hlt, S4, done, ys, c9, z2.trans z4, s2.trans z4.sh, al1, al2, dy.mono z4.sh, by lia, y2, rfl⟩
      | true =>
       rw [if_pos rfl] at y2
       cases qe : e ρ3 with
       | none => rw [qe] at y2; cases y2
       | some dv =>
        rw [qe] at y2
        dsimp only at y2
        cases qr : cE x c e (oG js ρ) (ds.drop (i + 1)) with
        | none => rw [qr] at y2; cases y2
        | some rest2 =>
         rw [qr] at y2
         cases y2
         refine vB (he ρ3 σ3 S4 H4 _ dv (r3.toRl.ext z4) qe fun v S5 H5 z5 d5 => ?_)
         obtain ⟨b1, b2⟩ := z5.al D _ al1 al2
         refine ⟨ys, b1, ?_, _, by lia, rfl, hlt, S5, done ++ [dv], ys ++ [v], rest2, ?_, (s2.trans z4.sh).trans z5.sh, aJ, b2, ((dy.mono z4.sh).mono z5.sh).append (.cons d5 .nil), by rw [List.length_append, List.length_singleton]; lia, qr, by rw [List.append_assoc]; rfl⟩
         ·rw [<- dy.length]
          exact Nat.lt_of_lt_of_le (Nat.lt_of_le_of_lt hdl hlt) (Nat.le_trans hlim (Nat.le_of_lt fK))
         ·have z6 := (z2.trans z4).trans z5
          exact ⟨z6.sh, fun b u hb => by rw [aA fun z => by subst z; rw [b2] at hb; cases hb]; exact z6.sub b u hb, fun b o hb hn => by
           obtain ⟨c1, c2⟩ := z6.al b o hb hn
           exact ⟨by rw [aA fun z => by subst z; rw [hD] at hb; cases hb]; exact c1, c2⟩⟩
  ·cases y
abbrev HM := Addr -> List (List Int) -> List D -> Option (O × List (List Int))
def fnH (n : Nat) (x : XS) : HM := fun p ks ds => match x (.ow (.hd p ks []) :: (ds.map .sh ++ List.replicate (n - 1 - ds.length) .un)) with
 | some (.ro (.hd p' ks' [o])) => if p' = p then some (o, ks') else none
 | _ => none
def spH (K : W.Frag) (n : Nat) (m : HM) : Sp := fun vs H Q _ => vs.length = n /\ ∃ S p ks ds us o ks', vs = .ref p :: us /\ Same S H /\ H p = some (.dT (bK ks)) /\ S p = none /\ Dens K S ds us /\ m p ks ds = some (o, ks') /\
 ∀ v fp S' H', Ext S (upd H p (.dT (bK ks'))) S' H' -> Own K S' H' o v fp -> fp.Nodup -> (∀ b ∈ fp, H b = none /\ S' b = none) -> Q v H'
def EJ (S H : Hp) (p : Addr) : Hp := fun b => if b = p then none else gP S H b
theorem x5 {p : Addr} : EJ S H p p = none := if_pos rfl
theorem vH {p b : Addr} (h : b ≠ p) : EJ S H p b = gP S H b := if_neg h
theorem z8 {N : List Str} {ds : List D} {us : List V} {p : Addr} {ks : List (List Int)} (s : Same S H) (hp : H p = some (.dT (bK ks))) (sp : S p = none) (h : Dens K S ds us) :
  RlA K (EJ S H p) (fun _ => none) (.ow (.hd p ks []) :: (ds.map .sh ++ List.replicate (N.length - 1 - ds.length) .un)) (L2.aG N (.ref p :: us)) S H := by
 have hl := h.length
 have key : ∀ (i : Nat) t, (Sl.ow (.hd p ks []) :: (ds.map Sl.sh ++ List.replicate (N.length - 1 - ds.length) .un))[i]? = some t -> t = .un \/ (∃ d v, t = .sh d /\ (L2.aG N (.ref p :: us))[i]? = some (some v) /\ Den K S d v) \/ (i = 0 /\ t = .ow (.hd p ks [])) := fun i t ht => by
  cases i with
  | zero => rw [List.getElem?_cons_zero] at ht; cases ht; exact .inr (.inr ⟨rfl, rfl⟩)
  | succ i =>
   rw [List.getElem?_cons_succ] at ht
   by_cases hi : i < ds.length
   ·rw [List.getElem?_append_left (by rw [List.length_map]; exact hi), List.getElem?_map] at ht
    cases q : ds[i]? with
    | none => rw [q] at ht; cases ht
    | some d =>
     rw [q] at ht
     cases ht
     obtain ⟨v, e1, e2⟩ := h.get q
     refine .inr (.inl ⟨d, v, rfl, ?_, e2⟩)
     unfold L2.aG
     rw [List.getElem?_append_left (by rw [List.length_map, List.length_cons]; lia), List.getElem?_map, List.getElem?_cons_succ, e1]
     rfl
   ·rw [List.getElem?_append_right (by rw [List.length_map]; lia), List.getElem?_replicate] at ht
    split at ht
    ·cases ht; exact .inl rfl
    ·cases ht
 have e0 : (L2.aG N (.ref p :: us))[0]? = some (some (.ref p)) := by unfold L2.aG; rfl
 refine ⟨fun i => if i = 0 then [p] else [], ?_⟩
 exact {
  len := by
   unfold L2.aG
   simp only [List.length_append, List.length_cons, List.length_map, List.length_replicate, hl]
   lia
  sub := s
  sh := fun i d hi => by
   rcases key i _ hi with e | ⟨d', v, e, h1, h2⟩ | ⟨_, e⟩
   ·cases e
   ·cases e; exact ⟨v, h1, h2⟩
   ·cases e
  ow := fun i o hi => by
   rcases key i _ hi with e | ⟨d', v, e, h1, h2⟩ | ⟨rfl, e⟩
   ·cases e
   ·cases e
   ·cases e
    exact ⟨.ref p, e0, own_hd.mpr ⟨[], [], rfl, rfl, hp, .nil⟩, by simp, fun b hb => by
     rw [if_pos rfl] at hb
     rw [List.mem_singleton.mp hb]
     exact ⟨sp, x5⟩⟩
  dj := fun i j o o' hij hi hj => by
   rcases key i _ hi with e | ⟨d', v, e, h1, h2⟩ | ⟨rfl, e⟩
   ·cases e
   ·cases e
   ·rcases key j _ hj with e' | ⟨d', v, e', h1, h2⟩ | ⟨rfl, e'⟩
    ·cases e'
    ·cases e'
    ·exact absurd rfl hij
  lo := fun i hi => by
   rcases key i _ hi with e | ⟨d', v, e, h1, h2⟩ | ⟨_, e⟩
   ·cases e
   ·cases e
   ·cases e
  asub := fun b u e => by
   by_cases hb : b = p
   ·subst hb; rw [x5] at e; cases e
   ·rw [vH hb] at e; exact ny b u e
  adis := fun b => by
   by_cases hb : b = p
   ·subst hb; exact .inr x5
   ·rw [vH hb]; exact nc b }
theorem DP {t : TS} {x : XS} {N : List Str} {n k : Nat} {vs : List V} {H : Hp} {Q : VK} {E : XK} (hs : SS K t x) (hN : N.length = n) (h : spH K k (fnH n x) vs H Q E) :
  t { nx := fun _ H' => Q .non H', rt := Q } (L2.aG N vs) H := by
 obtain ⟨_, S, p, ks, ds, us, o, ks', rfl, s, hp, sp, dd, y, q⟩ := h
 subst hN
 unfold fnH at y
 have r := z8 (N := N) s hp sp dd
 split at y
 ·rename_i p' ks2 o' qx
  split at y
  ·rename_i e
   subst e
   cases y
   refine hs _ _ _ _ S H _ _ r qx fun v fp S' H' s1 s2 s3 s4 ow nd n => ?_
   obtain ⟨xs, f, rfl, rfl, h1, h2⟩ := own_hd.mp ow
   obtain ⟨z, zs, f1, f2, rfl, rfl, ho, h3⟩ := h2.cons_of
   obtain ⟨rfl, rfl⟩ := h3.nil_of
   rw [List.append_nil] at nd n
   obtain ⟨n1, n2⟩ := List.nodup_cons.mp nd
   have inA : ∀ b u, b ≠ p' -> H b = some u -> S b = none -> EJ S H p' b = some u := fun b u hb hu hn => by rw [vH hb]; exact mo hu hn
   refine q z f1 S' H' ⟨s1, s2, fun b u hb hn => ?_⟩ ho n2 fun b hb => ⟨?_, (n b (List.mem_cons_of_mem _ hb)).1⟩
   ·by_cases e : b = p'
    ·subst e
     rw [aJ] at hb
     cases hb
     exact ⟨h1, (n b List.mem_cons_self).1⟩
    ·rw [aA e] at hb
     have ha := inA b u e hb hn
     refine ⟨s3 b u ha, ?_⟩
     rcases s4 b with z | z
     ·exact z
     ·rw [ha] at z; cases z
   ·cases qb : H b with
    | none => rfl
    | some u =>
     have nb := n b (List.mem_cons_of_mem _ hb)
     have := inA b u (fun e => n1 (by rw [<- e]; exact hb)) qb (s1.free nb.1)
     rw [nb.2] at this
     cases this
  ·cases y
 ·cases y
@[simp] def zB (j : Nat) : XS := fun ρ => match ρ[j]?, (ρ[0]? : Option Sl) with
 | some (.ow o), some (.ow (.hd p ks [])) => if j = 0 then none else some (.ro (.hd p ks [o]))
 | _, _ => none
theorem CP (j : Nat) : SS K (Bm (jG j)) (zB j) := fun A Λ ρ σ S H E out r x k => by
 unfold zB at x
 split at x
 ·rename_i o p ks q1 q2
  split at x
  ·cases x
  ·rename_i hj
   cases x
   obtain ⟨Φ, f⟩ := r
   obtain ⟨v, e1, o1, nd1, n1⟩ := f.ow j _ q1
   obtain ⟨v0, e0, o0, nd0, n0⟩ := f.ow 0 _ q2
   obtain ⟨xs, f0, rfl, hf, h1, h2⟩ := own_hd.mp o0
   obtain ⟨rfl, rfl⟩ := h2.nil_of
   have np : p ∉ Φ j := fun z => f.dj j 0 _ _ hj q1 q2 p z (by rw [hf]; exact List.mem_cons_self)
   refine ⟨v, e1, k v (p :: (Φ j ++ [])) S H (Same.refl _) f.sub f.asub f.adis (own_hd.mpr ⟨[v], _, rfl, rfl, h1, .cons o1 .nil⟩) (by rw [List.append_nil]; exact List.nodup_cons.mpr ⟨np, nd1⟩) fun b hb => ?_⟩
   rw [List.append_nil] at hb
   rcases List.mem_cons.mp hb with rfl | hb
   ·exact n0 b (by rw [hf]; exact List.mem_cons_self)
   ·exact n1 b hb
 ·cases x
def BX (m : HM) (ks : List (List Int)) (ds : List D) : Option (O × List (List Int)) := by
 classical exact if h : ∃ r, ∀ p, m p ks ds = some r then some h.choose else none
theorem y6 {m : HM} {ks : List (List Int)} {ds : List D} {r : O × List (List Int)} (h : ∀ p, m p ks ds = some r) : BX m ks ds = some r := by
 unfold BX
 have he : ∃ r, ∀ p, m p ks ds = some r := ⟨r, h⟩
 rw [dif_pos he]
 have := he.choose_spec 0
 rw [h 0] at this
 rw [Option.some.inj this]
theorem E3 {m : HM} {ks : List (List Int)} {ds : List D} {r : O × List (List Int)} (h : BX m ks ds = some r) (p : Addr) : m p ks ds = some r := by
 unfold BX at h
 split at h
 ·rename_i he
  cases h
  exact he.choose_spec p
 ·cases h
@[simp] def pJ (j i : Nat) (m : HM) (a : XA) : XS := fun ρ => match ρ[j]? with
 | some (.ow (.lst l)) => (ρ[i]?).bind fun s => (ksO s).bind fun ks => (a ρ).bind fun ds => (BX m ks ds).bind fun r => match r with
  | (.lst l', ks') => (shs l').bind fun ds' => if l.length + l'.length <= LIM then some (.nx ((ρ.set i (reD ks' s)).set j (.ow (.lst (l ++ ds'.map .sh))))) else none
  | _ => none
 | _ => none
theorem Cu {n : Nat} {m : HM} {E0 : XK} {ta : TA} {a : XA} {i j : Nat} (h : SA K ta a) (hn : ∀ ρ ds, a ρ = some ds -> ds.length = n) : SS K (t7 (tBM K "list" rExtM (jG j) (d9 (uk (spH K (n + 1) m) [] E0 (d9 (jG i) ta)) kJ))) (pJ j i m a) := fun A Λ ρ σ S H E out r y k => by
 unfold pJ at y
 split at y
 ·rename_i l q0
  obtain ⟨s, qs, y⟩ := bind_some y
  obtain ⟨ks, hk, y⟩ := bind_some y
  obtain ⟨ds, qa, y⟩ := bind_some y
  obtain ⟨⟨o, ks'⟩, qm, y⟩ := bind_some y
  split at y
  ·rename_i l' ks2 e1
   cases e1
   obtain ⟨ds', qd, y⟩ := bind_some y
   split at y
   ·rename_i hl
    cases y
    have e := uJ qd
    subst e
    have hji : j ≠ i := fun z => by
     subst z
     rw [q0] at qs
     cases qs
     cases hk
    obtain ⟨Φ, f⟩ := r
    obtain ⟨p, ep, hp, sp, _, _, _⟩ := f.dicO qs hk
    obtain ⟨v0, ev0, ow0, _⟩ := f.ow j _ q0
    obtain ⟨a0, xs, f0, rfl, _, hx, _⟩ := own_lst.mp ow0
    refine ⟨.ref a0, ev0, .inl ⟨rfl, xs, SqL.of hx⟩, .ref p, ep, h ρ σ S H _ ds ⟨A, Λ, Φ, f⟩ qa fun us S1 H1 z1 d1 => ?_⟩
    obtain ⟨p', ep', hp1, sp1, _, _, up1⟩ := (f.ext z1).dicO qs hk
    rw [ep] at ep'
    cases ep'
    rw [List.append_nil]
    refine ⟨by rw [List.length_cons, <- d1.length, hn ρ ds qa], S1, p, ks, ds, us, _, _, rfl, z1.sub, hp1, sp1, d1, E3 qm p, fun v fp S2 H2 z2 ow nd n => ?_⟩
    have f2 := (up1 ks').ext z2
    have q0' : (ρ.set i (reD ks' s))[j]? = some (.ow (.lst l)) := by rw [List.getElem?_set_ne (Ne.symm hji)]; exact q0
    obtain ⟨a1, xs1, g1, e1, hx1, hw1, nd1, in1, up⟩ := f2.at (is := []) q0' (by unfold dH; rfl) ev0 rfl
    cases e1
    obtain ⟨b, zs, f3, rfl, rfl, hb, hz⟩ := own_lst.mp ow
    obtain ⟨dz, rfl⟩ := iV hz
    obtain ⟨na, ng⟩ := List.nodup_cons.mp nd1
    refine ⟨a0, b, xs1, zs, rfl, rfl, hx1, .inl hb, ?_, ?_⟩
    ·rw [<- hw1.length, <- dz.length]
     rw [List.length_map] at hl
     exact Nat.le_of_lt (Nat.lt_of_le_of_lt hl fK)
    ·have fin := up (l ++ ds'.map .sh) (xs1 ++ zs) g1 (fun H' ne => by
      have := (hw1.mono (H' := H') (Same.refl _) fun b hb => ne b fun z => na (z ▸ hb)).append (mE (H := H') dz)
      rw [List.append_nil] at this
      exact this) nd1 fun b hb => .inl hb
     exact k σ S2 _ (by unfold ij at fin; exact fin) (z1.sh.trans z2.sh)
   ·cases y
  ·cases y
 ·cases y
end
end M
namespace L2
open PySem
theorem uX : bootBuiltins "dict" = some (.type "dict") := by decide +kernel
theorem FunD.okX {P : Program} {w : World} {K : W.Frag} {mg : Str -> Option Value} {base : Heap} {x qual : Str} {st : Stmt} {T f : Addr} {fd : FuncData} {N ps : List Str} {k : Nat} {sp : Sp} (F : FunD K x qual st T f fd) (S : FnScope N ps (ak st)) (len : ∀ vs H Q E, sp vs H Q E -> vs.length = ps.length)
  (hb : ∀ (cdv : Value) (A : Around) (outer : List Env) (s : Shared) (H : Hp) (vs : List V) (Q : VK) (E : XK), Room k (A.deeper (PyProof.Rows.envOfC qual (ak st) s.heap.objs.size f cdv)) -> sp vs H Q E -> ∃ t, PSs (kF (CXe P w) P w K mg base N qual (ak st) f cdv A outer s H E) (aW st) t /\ t { nx := fun _ H' => Q .non H', rt := Q } (aG N vs) H) : FnOk P w K mg base (CXe P w) (k + 1) f fd ps sp := by
 obtain ⟨oc, od, kV, doc, pm, an, cdv, ct, osl, rfl, lk, hcd⟩ := F.ex
 exact ze lk hcd S len fun A outer s H vs Q E hr hsp => hb cdv A outer s H vs Q E hr hsp
end L2
namespace M
open PySem L2
theorem Fv {K : W.Frag} {E : XK} {r : List V -> Hp -> VK -> Prop} {t : TE} {tr : TA} {m : Env -> Option Str} (h : SXE K E t m) : SXE K E (tCB r (d9 t tr)) m := fun A Λ ρ σ S H Q N rl x k => h A Λ ρ σ S H _ N rl x k
theorem bS {K : W.Frag} {a : Addr} {o : Obj} {its : Array Value} {n : Nat} {xs : List V} {l : List D} (h : K.lookup a = some o) (hc : o.cls = .type "tuple") (hd : o.data = .seq its n) (hs : its.size <= sizeLine) (hv : Vals xs its.toList) (hD : ∀ S, Dens K S l xs) (S : Hp) : Den K S (.mtp l) (.ref a) :=
 den_mtp.mpr ⟨a, xs, rfl, (show SqT K S a xs from .inr ⟨o, its, n, h, hc, hd, hs, hv⟩), hD S⟩
end M
namespace Rw
abbrev R := List (Int × Int)
def Mem (r : R) (x : Int) : Prop := ∃ p ∈ r, p.1 <= x /\ x <= p.2
def Ok (r : R) : Prop := ∀ p ∈ r, p.1 <= p.2
def eL (r : R) : Prop := Ok r /\ r.Pairwise fun p q => p.2 + 2 <= q.1
theorem eA (x : Int) : ¬ Mem [] x := by rintro ⟨p, h, _⟩; cases h
theorem mem_cons (p : Int × Int) (r : R) (x : Int) : Mem (p :: r) x ↔ (p.1 <= x /\ x <= p.2) \/ Mem r x := by
 constructor
 ·rintro ⟨q, h, e⟩
  rcases List.mem_cons.mp h with rfl | h
  ·exact .inl e
  ·exact .inr ⟨q, h, e⟩
 ·rintro (e | ⟨q, h, e⟩)
  ·exact ⟨p, List.mem_cons_self, e⟩
  ·exact ⟨q, List.mem_cons_of_mem _ h, e⟩
theorem mem_append (r t : R) (x : Int) : Mem (r ++ t) x ↔ Mem r x \/ Mem t x := by
 constructor
 ·rintro ⟨q, h, e⟩
  rcases List.mem_append.mp h with h | h
  ·exact .inl ⟨q, h, e⟩
  ·exact .inr ⟨q, h, e⟩
 ·rintro (⟨q, h, e⟩ | ⟨q, h, e⟩)
  ·exact ⟨q, List.mem_append_left _ h, e⟩
  ·exact ⟨q, List.mem_append_right _ h, e⟩
theorem DQ {r t : R} (h : r.Perm t) (x : Int) : Mem r x ↔ Mem t x :=
 ⟨fun ⟨q, m, e⟩ => ⟨q, h.mem_iff.mp m, e⟩, fun ⟨q, m, e⟩ => ⟨q, h.mem_iff.mpr m, e⟩⟩
theorem mem_filter (r : R) (x : Int) : Mem (r.filter fun p => decide (p.1 <= p.2)) x ↔ Mem r x := by
 constructor
 ·rintro ⟨q, m, e⟩
  exact ⟨q, (List.mem_filter.mp m).1, e⟩
 ·rintro ⟨q, m, e⟩
  exact ⟨q, List.mem_filter.mpr ⟨m, by simp; lia⟩, e⟩
theorem nr : eL [] := ⟨fun _ h => (by cases h), .nil⟩
theorem canon_cons {p : Int × Int} {r : R} : eL (p :: r) ↔ p.1 <= p.2 /\ (∀ q ∈ r, p.2 + 2 <= q.1) /\ eL r := by
 constructor
 ·rintro ⟨h1, h2⟩
  have h3 := List.pairwise_cons.mp h2
  exact ⟨h1 p List.mem_cons_self, h3.1, fun q hq => h1 q (List.mem_cons_of_mem _ hq), h3.2⟩
 ·rintro ⟨h1, h2, h3, h4⟩
  refine ⟨fun q hq => ?_, List.pairwise_cons.mpr ⟨h2, h4⟩⟩
  rcases List.mem_cons.mp hq with rfl | hq
  ·exact h1
  ·exact h3 q hq
theorem fy {p : Int × Int} {r : R} (c : eL (p :: r)) {x : Int} (h : Mem r x) : p.2 + 2 <= x := by
 obtain ⟨q, m, e, _⟩ := h
 have := (canon_cons.mp c).2.1 q m
 lia
theorem tw {p : Int × Int} {r : R} (c : eL (p :: r)) {x : Int} (h : Mem (p :: r) x) : p.1 <= x := by
 rcases (mem_cons p r x).mp h with h | h
 ·exact h.1
 ·have := fy c h
  have := (canon_cons.mp c).1
  lia
theorem Dz : ∀ {r t : R}, eL r -> eL t -> (∀ x, Mem r x ↔ Mem t x) -> r = t
 | [], [], _, _, _ => rfl
 | [], q :: t, _, ct, h => by
  have := (h q.1).mpr ((mem_cons ..).mpr (.inl ⟨Int.le_refl _, (canon_cons.mp ct).1⟩))
  exact (eA _ this).elim
 | p :: r, [], cr, _, h => by
  have := (h p.1).mp ((mem_cons ..).mpr (.inl ⟨Int.le_refl _, (canon_cons.mp cr).1⟩))
  exact (eA _ this).elim
 | p :: r, q :: t, cr, ct, h => by
  have hp := (canon_cons.mp cr).1
  have hq := (canon_cons.mp ct).1
  have a1 : q.1 <= p.1 := tw ct ((h p.1).mp ((mem_cons ..).mpr (.inl ⟨Int.le_refl _, hp⟩)))
  have a2 : p.1 <= q.1 := tw cr ((h q.1).mpr ((mem_cons ..).mpr (.inl ⟨Int.le_refl _, hq⟩)))
  have e1 : p.1 = q.1 := by lia
  have n1 : ¬ Mem (p :: r) (p.2 + 1) := fun m => by
   rcases (mem_cons ..).mp m with m | m
   ·lia
   ·have := fy cr m; lia
  have n2 : ¬ Mem (q :: t) (q.2 + 1) := fun m => by
   rcases (mem_cons ..).mp m with m | m
   ·lia
   ·have := fy ct m; lia
  have e2 : p.2 = q.2 := by
   by_cases l1 : p.2 < q.2
   ·exact (n1 ((h _).mpr ((mem_cons ..).mpr (.inl ⟨by lia, by lia⟩)))).elim
   ·by_cases l2 : q.2 < p.2
    ·exact (n2 ((h _).mp ((mem_cons ..).mpr (.inl ⟨by lia, by lia⟩)))).elim
    ·lia
  have e : p = q := by
   obtain ⟨a, b⟩ := p
   obtain ⟨c, d⟩ := q
   simp only at e1 e2
   rw [e1, e2]
  subst e
  have ih : r = t := Dz (canon_cons.mp cr).2.2 (canon_cons.mp ct).2.2 fun x => by
   constructor
   ·intro m
    rcases (mem_cons ..).mp ((h x).mp ((mem_cons ..).mpr (.inr m))) with k | k
    ·have := fy cr m; lia
    ·exact k
   ·intro m
    rcases (mem_cons ..).mp ((h x).mpr ((mem_cons ..).mpr (.inr m))) with k | k
    ·have := fy ct m; lia
    ·exact k
  rw [ih]
def step (acc : R) (p : Int × Int) : R :=
 match acc.getLast? with
 | none => [p]
 | some q => if p.1 <= q.2 + 1 then acc.dropLast ++ [(q.1, if p.2 > q.2 then p.2 else q.2)] else acc ++ [p]
def l9 (l : R) : R := l.foldl step []
theorem Cw (p : Int × Int) : step [] p = [p] := rfl
theorem m6 (t : R) (q p : Int × Int) : step (t ++ [q]) p = if p.1 <= q.2 + 1 then t ++ [(q.1, if p.2 > q.2 then p.2 else q.2)] else t ++ [q] ++ [p] := by
 unfold step
 simp
theorem canon_snoc {t : R} {q : Int × Int} : eL (t ++ [q]) ↔ eL t /\ q.1 <= q.2 /\ ∀ p ∈ t, p.2 + 2 <= q.1 := by
 constructor
 ·rintro ⟨h1, h2⟩
  have h3 := List.pairwise_append.mp h2
  exact ⟨⟨fun p hp => h1 p (List.mem_append_left _ hp), h3.1⟩, h1 q (List.mem_append_right _ List.mem_cons_self), fun p hp => h3.2.2 p hp q List.mem_cons_self⟩
 ·rintro ⟨⟨h1, h2⟩, h3, h4⟩
  refine ⟨fun p hp => ?_, List.pairwise_append.mpr ⟨h2, .cons (fun _ h => (by cases h)) .nil, fun p hp x hx => ?_⟩⟩
  ·rcases List.mem_append.mp hp with hp | hp
   ·exact h1 p hp
   ·rw [List.mem_singleton.mp hp]; exact h3
  ·rw [List.mem_singleton.mp hx]; exact h4 p hp
theorem D9 {acc : R} {p : Int × Int} (c : eL acc) (hp : p.1 <= p.2) (lo : ∀ q ∈ acc, q.1 <= p.1) :
  eL (step acc p) /\ (∀ x, Mem (step acc p) x ↔ Mem acc x \/ (p.1 <= x /\ x <= p.2)) /\ (∀ q ∈ step acc p, q.1 <= p.1) := by
 rcases List.eq_nil_or_concat acc with rfl | ⟨t, q, rfl⟩
 ·rw [Cw]
  refine ⟨canon_cons.mpr ⟨hp, fun _ h => (by cases h), nr⟩, fun x => ?_, fun q hq => ?_⟩
  ·rw [mem_cons]
   constructor
   ·rintro (h | h)
    ·exact .inr h
    ·exact .inl h
   ·rintro (h | h)
    ·exact .inr h
    ·exact .inl h
  ·rw [List.mem_singleton.mp hq]; exact Int.le_refl _
 ·rw [List.concat_eq_append] at *
  obtain ⟨ct, hq, ht⟩ := canon_snoc.mp c
  have lq : q.1 <= p.1 := lo q (List.mem_append_right _ List.mem_cons_self)
  rw [m6]
  by_cases h : p.1 <= q.2 + 1
  ·rw [if_pos h]
   have m : ∀ z, (if p.2 > q.2 then p.2 else q.2) = z -> q.2 <= z /\ p.2 <= z /\ (z = p.2 \/ z = q.2) := fun z e => by
    split at e <;> lia
   obtain ⟨m1, m2, m3⟩ := m _ rfl
   generalize (if p.2 > q.2 then p.2 else q.2) = z at *
   refine ⟨canon_snoc.mpr ⟨ct, by dsimp only; lia, ht⟩, fun x => ?_, fun s hs => ?_⟩
   ·rw [mem_append, mem_append, mem_cons, mem_cons]
    dsimp only
    constructor
    ·rintro (k | k | k)
     ·exact .inl (.inl k)
     ·by_cases hx : x <= q.2
      ·exact .inl (.inr (.inl ⟨k.1, hx⟩))
      ·right; lia
     ·exact (eA _ k).elim
    ·rintro ((k | k | k) | k)
     ·exact .inl k
     ·right; left; lia
     ·exact (eA _ k).elim
     ·right; left; lia
   ·rcases List.mem_append.mp hs with hs | hs
    ·exact lo s (List.mem_append_left _ hs)
    ·rw [List.mem_singleton.mp hs]; exact lq
  ·rw [if_neg h]
   refine ⟨canon_snoc.mpr ⟨c, hp, fun s hs => ?_⟩, fun x => ?_, fun s hs => ?_⟩
   ·rcases List.mem_append.mp hs with hs | hs
    ·have := ht s hs; lia
    ·rw [List.mem_singleton.mp hs]; lia
   ·rw [mem_append, mem_cons]
    constructor
    ·rintro (k | k | k)
     ·exact .inl k
     ·exact .inr k
     ·exact (eA _ k).elim
    ·rintro (k | k)
     ·exact .inl k
     ·exact .inr (.inl k)
   ·rcases List.mem_append.mp hs with hs | hs
    ·exact lo s hs
    ·rw [List.mem_singleton.mp hs]; exact Int.le_refl _
theorem zC : ∀ (l : R) (acc : R), eL acc -> Ok l -> l.Pairwise (fun p q => p.1 <= q.1) -> (∀ q ∈ acc, ∀ p ∈ l, q.1 <= p.1) ->
  eL (l.foldl step acc) /\ ∀ x, Mem (l.foldl step acc) x ↔ Mem acc x \/ Mem l x
 | [], acc, c, _, _, _ => ⟨c, fun x => ⟨fun h => .inl h, fun h => h.elim id fun k => (eA _ k).elim⟩⟩
 | p :: l, acc, c, o, w, lo => by
  obtain ⟨w1, w2⟩ := List.pairwise_cons.mp w
  obtain ⟨c1, m1, l1⟩ := D9 c (o p List.mem_cons_self) fun q hq => lo q hq p List.mem_cons_self
  obtain ⟨c2, m2⟩ := zC l (step acc p) c1 (fun q hq => o q (List.mem_cons_of_mem _ hq)) w2 fun q hq s hs => by
   have := l1 q hq
   have := w1 s hs
   lia
  refine ⟨c2, fun x => ?_⟩
  show Mem (l.foldl step (step acc p)) x ↔ _
  rw [m2, m1, mem_cons, or_assoc]
def Fs (ps r : R) : Prop := eL r /\ ∀ x, Mem r x ↔ Mem ps x
theorem Bx {l ps : R} (o : Ok l) (w : l.Pairwise fun p q => p.1 <= q.1) (h : ∀ x, Mem l x ↔ Mem ps x) : Fs ps (l9 l) := by
 obtain ⟨c, m⟩ := zC l [] nr o w fun _ h => (by cases h)
 exact ⟨c, fun x => by
  show Mem (l.foldl step []) x ↔ _
  rw [m x, <- h x]
  exact ⟨fun k => k.elim (fun z => (eA _ z).elim) id, .inr⟩⟩
end Rw
namespace Rw
def Ge : List Int -> R
 | a :: b :: t => (a, b - 1) :: Ge t
 | _ => []
def gD (r : R) : Int := (r.map fun p => p.2 - p.1 + 1).sum
def Jo (P : Int -> Prop) (L : Int) : Nat -> Int
 | 0 => 0
 | n + 1 => Jo P L n + (by classical exact if P (L + n) then 1 else 0)
end Rw
namespace P
open PySem L2 M
abbrev xNs : List Str := ["TooGreat"]
abbrev eY : List (Str × Bool) := [("TooGreat", false)]
abbrev eU : List (Str × Bool) := [("TooGreat", false)]
abbrev eR : List (Str × Bool) := [("TooGreat", false)]
abbrev gb : List (Str × Bool) := [("TooGreat", false)]
abbrev eS : List (Str × Bool) := [("TooGreat", false)]
abbrev dh : List (Str × Bool) := [("TooGreat", true)]
abbrev dW : List (Str × Bool) := [("TooGreat", false)]
abbrev cz : List (Str × Bool) := [("TooGreat", true)]
def jf : XS := bE (xIf (xB (xOp dLt (am 1) (xCB pU (ag (am 0) au)))) (gE (xOp dIx (am 0) (am 1))) gU) (gE (xC (.int 0)))
def gR : List D -> Option O := fnO 2 jf
def bJ : List D -> Option D := fun ds => (gR ds).map O.d
def qX : XS := gh (xOp bz (xOp q9 (xOp bz (am 1) (am 5)) (am 4)) (xC (.int 1))) (aj 1)
def pd : XS := rL (xIt (aw 3)) (bq (aq (aj 4) (aq (aj 5) bu))) (qX)
def pG : XS := bE (gh (xC (.int 0)) (aj 1)) (bE (rL (xIt (aw 0)) (bq (aq (aj 2) (aq (aj 3) bu))) (pd)) (gE (aw 1)))
def nB : List D -> Option O := fnO 6 pG
def fF : List D -> Option D := fun ds => (nB ds).map O.d
def mQ : XS := bE (kK (bZ [none, some 1] (um (ag (xOp q9 (am 2) (am 0)) (ag (xOp bz (xOp bz (am 2) (am 0)) (xC (.int 1))) au))) (aj 0) d6 (aR (ag (aw 0) (ag (aR (ag (aR (ag (aw 1) (ag (aw 1) au))) au)) au)))) 3) (bE (xM 3 xPv (am 0) (aR (ag (aw 2) (ag (aR (ag (aR (ag (xOp q9 (am 1) (am 0)) (ag (xOp bz (am 1) (am 0)) au))) au)) au)))) (gE (xCB jb (ag (am 3) au))))
def tP : List D -> Option O := fnO 4 mQ
def im : List D -> Option D := fun ds => (tP ds).map O.d
def gC : XS := gE (xCB pU (ag (xL (bZ [none, none, none, some 0] (xIt (xC (.mtp [.mtp [.int (0), .int (-1), .int (1)], .mtp [.int (-1), .int (-1), .int (2)], .mtp [.int (-1), .int (0), .int (4)], .mtp [.int (-1), .int (1), .int (8)], .mtp [.int (0), .int (1), .int (16)], .mtp [.int (1), .int (1), .int (32)], .mtp [.int (1), .int (0), .int (64)], .mtp [.int (1), .int (-1), .int (128)]]))) (bq (aq (aj 0) (aq (aj 1) (aq (aj 2) bu)))) (xB (xOp (dEq true) (xOp (wD) (am 3) (am 2)) (xC (.int 0)))) (aw 2))) au))
def fJ : List D -> Option O := fnO 1 gC
def bP : List D -> Option D := fun ds => (fJ ds).map O.d
def ji : XS := C2 (xLT (bZ [none, none, some 0, some 1, some 2] (uN 0) (bq (aq (aj 0) (aq (aj 1) bu))) (xB (xW true (aR (ag (xOp bz (am 0) (am 3)) (ag (xOp bz (am 1) (am 4)) au))) 2)) (aR (ag (aw 0) (ag (aw 1) au)))))
def hZ : List D -> Option O := fnO 3 ji
def br : List D -> Option D := fun ds => (hZ ds).map O.d
def jP : XS := gE (xCB wL (ag (xL (bZ [none, none] (xIt (am 0)) (bq (aq (aj 0) (aq (aj 1) bu))) d6 (xOp bz (xOp q9 (am 1) (am 0)) (xC (.int 1))))) au))
def iE : List D -> Option O := fnO 1 jP
def cN : List D -> Option D := fun ds => (iE ds).map O.d
def eP : XS := xIf (BP (qz (am 1)) (xB (xOp dLe (am 2) (xOp bz (xOp dIx (xOp dIx (am 1) (xUn uP (xC (.int 1)))) (xC (.int 1))) (xC (.int 1)))))) (xM 1 xPv (xUn uP (xC (.int 1))) (aR (ag (xOp dIx (xOp dIx (am 1) (xUn uP (xC (.int 1)))) (xC (.int 0))) (ag (xCB y8 (ag (xOp dIx (xOp dIx (am 1) (xUn uP (xC (.int 1)))) (xC (.int 1))) (ag (am 3) au))) au)))) (ul 1 xPv (xSh (aR (ag (aw 2) (ag (aw 3) au)))))
def qB : XS := bE (kK (kq au) 1) (bE (rL (xIt (xL (C4 fP (ag (xL (bZ [none, none] (xIt (am 0)) (bq (aq (aj 0) (aq (aj 1) bu))) (xB (xOp dLe (am 0) (am 1))) (aR (ag (aw 0) (ag (aw 1) au))))) au)))) (bq (aq (aj 2) (aq (aj 3) bu))) (eP)) (gE (xCB jb (ag (am 1) au))))
def nw : List D -> Option O := fnO 4 qB
def fH : List D -> Option D := fun ds => (nw ds).map O.d
def e8 : XS := zh 1 xPv (xL (bZ [none, none, some 2] (xIt (am 3)) (bq (aq (aj 0) (aq (aj 1) bu))) d6 (aR (ag (aw 2) (ag (aw 0) (ag (aw 1) au))))))
def gw : XS := bE (kK (kq au) 1) (bE (rL (xIt (aw 0)) (bq (aq (aj 2) (aq (aj 3) bu))) (e8)) (zN 1))
def dN : List D -> Option O := fnO 4 gw
def bU : List D -> Option D := fun ds => (dN ds).map O.d
def vp : XS := bE (gh (xOp bz (am 0) (xOp pu (xC (.int 256)) (am 0))) (aj 1)) (gE (xCB pU (ag (xL (bZ [none, some 0, some 1] (xIt (xC (.mtp [.int (1), .int (4), .int (16), .int (64)]))) (aj 0) (BP (xB (xOp (dEq false) (xOp (wD) (am 1) (am 0)) (xC (.int 0)))) (xB (xOp (dEq true) (xOp (wD) (am 2) (xOp bz (xOp pu (xC (.int 2)) (am 0)) (xOp pu (xC (.int 4)) (am 0)))) (xC (.int 0))))) (aw 0))) au)))
def qJ : List D -> Option O := fnO 2 vp
def iU : List D -> Option D := fun ds => (qJ ds).map O.d
def hW : XS := gE (xCB wL (ag (xL (bZ [none, none] (xIt (am 0)) (bq (aq (aj 0) (aq (aj 1) bu))) d6 (bB cN (ag (aw 1) au)))) au))
def f7 : List D -> Option O := fnO 1 hW
def bd : List D -> Option D := fun ds => (f7 ds).map O.d
def u9 : XS := bE (gh (xCB wL (ag (xL (bZ [none, none, none, some 0, some 1, some 2] (xIt (xC (.mtp [.mtp [.int (0), .int (-1), .int (1)], .mtp [.int (-1), .int (-1), .int (2)], .mtp [.int (-1), .int (0), .int (4)], .mtp [.int (-1), .int (1), .int (8)], .mtp [.int (0), .int (1), .int (16)], .mtp [.int (1), .int (1), .int (32)], .mtp [.int (1), .int (0), .int (64)], .mtp [.int (1), .int (-1), .int (128)]]))) (bq (aq (aj 0) (aq (aj 1) (aq (aj 2) bu)))) (xB (xW false (aR (ag (xOp bz (am 4) (am 0)) (ag (xOp bz (am 5) (am 1)) au))) 3)) (aw 2))) au)) (aj 4)) (gE (zi (xOp (dEq false) (bB iU (ag (aw 4) au)) (xC (.int 1))) (Gi (BN (am 3)) (xOp dGe (bB bP (ag (aw 4) au)) (xC (.int 2))))))
def oY : List D -> Option O := fnO 5 u9
def jh : List D -> Option D := fun ds => (oY ds).map O.d
def cF : XS := bE (xIf (xOr (CY (qz (zA 1))) (xB (xOp (dEq true) (xFl (xOp dIx (xOp dIx (zA 1) (xUn uP (xC (.int 1)))) (xC (.int 0)))) (am 2)))) (ul 1 xPv (Dw (u3 (xSh (aw 2)) (u3 (DE BR) BR)))) gU) (ul 1 (xPi (xPi xPv (xUn uP (xC (.int 1)))) (xC (.int 1))) (xSh (aR (ag (aw 3) (ag (aw 4) au)))))
def jg : XS := bE (kK (kq au) 1) (bE (rL (xIt (xL (C4 fP (ag (xL (bZ [none, none, none] (xIt (am 0)) (bq (aq (aj 0) (aq (aj 1) (aq (aj 2) bu)))) (xB (xOp dLe (am 1) (am 2))) (aR (ag (aw 0) (ag (aw 1) (ag (aw 2) au)))))) au)))) (bq (aq (aj 2) (aq (aj 3) (aq (aj 4) bu)))) (cF)) (FI 1 (gE (xCB jb (ag (xL (bZ [none, none] (xIt (aw 1)) (bq (aq (aj 0) (aq (aj 1) bu))) d6 (aR (ag (aw 0) (ag (bB fH (ag (aw 1) au)) au))))) au)))))
def hG : List D -> Option O := fnO 5 jg
def bN : List D -> Option D := fun ds => (hG ds).map O.d
def lw : XR := vC (F7 (xB (xOp dGt (bB bd (ag (aw 0) au)) (xC (.int (1000))))) (zd "TooGreat") (Cz))
def g7 : List D -> Option Str := fnX 5 lw
def jd : XS := zh 1 xPv (xL (bZ [none, some 2] (um (ag (am 3) (ag (xOp bz (am 4) (xC (.int 1))) au))) (aj 0) d6 (aR (ag (aw 0) (ag (aw 1) au)))))
def lv : XS := bE (xIf (xB (xOp dGt (bB bd (ag (aw 0) au)) (xC (.int (1000))))) (De) gU) (bE (kK (kq au) 1) (bE (rL (xIt (bB bU (ag (aw 0) au))) (bq (aq (aj 2) (aq (aj 3) (aq (aj 4) bu)))) (jd)) (zN 1)))
def gN : List D -> Option O := fnO 5 lv
def bi : List D -> Option D := fun ds => (gN ds).map O.d
def ie : XS := xIf (qz (n5 0 (bB jh (ag (aw 0) (ag (xOp dIx (am 4) (xC (.int 0))) (ag (xOp dIx (am 4) (xC (.int 1))) (ag (aw 2) au))))))) (bE (zm 0 (aw 4)) (ul 3 xPv (xSh (aw 4)))) gU
def kj : XS := bE (kK (kq au) 3) (bE (rL (xIt (aw 1)) (aj 4) (ie)) (zB 3))
def eE : HM := fnH 5 kj
def nz : XR := vC (FQ (nq g7 (ag (aw 0) au)) (ub (rd (bZ [none] (xIt (bB bi (ag (aw 0) au))) (aj 0) d6 (aR (ag (aw 0) (ag (xC (.bl true)) au))))) 2))
def fb : List D -> Option Str := fnX 5 nz
def ki : XS := pJ 2 0 eE (ag (n5 0 (bB br (ag (aw 0) (ag (aw 3) (ag (aw 4) au))))) (ag (aw 1) au))
def iH : XS := bE (kK (kq au) 2) (bE (rL (xIt (xC (.mtp [.mtp [.int (0), .int (-1)], .mtp [.int (-1), .int (0)], .mtp [.int (0), .int (1)], .mtp [.int (1), .int (0)]]))) (bq (aq (aj 3) (aq (aj 4) bu))) (ki)) (zB 2))
def fe : HM := fnH 5 iH
def jl : XS := bE (gh (xL (kq au)) (aj 2)) (bE (gh (xL (kq au)) (aj 3)) (bE (BJ xNs 4 (xrE (nq fb (ag (aw 0) (ag (aw 1) au)))) [(2, [dh, cz, dW, eS]), (3, [eU, eR, gb, eY])]) (gE (zi (xOp (dEq false) (am 2) (xL (kq (ag (xC (.bl true)) (ag (xC (.bl true)) (ag (xC (.bl false)) (ag (xC (.bl false)) au))))))) (xOp (dEq false) (am 3) (xL (kq (ag (xC (.bl false)) (ag (xC (.bl false)) (ag (xC (.bl false)) (ag (xC (.bl false)) au)))))))))))
def nX : List D -> Option O := fnO 5 jl
def dl : List D -> Option D := fun ds => (nX ds).map O.d
def dc : XT := xB (xOp dGt (xCB pU (ag (am 3) au)) (am 4))
def fG : XS := bE (gh (xCB pU (ag (am 3) au)) (aj 4)) (pJ 3 2 fe (ag (aw 1) au))
def ku : XS := bE (ub (rd (bZ [none] (xIt (bB bi (ag (aw 0) au))) (aj 0) d6 (aR (ag (aw 0) (ag (xC (.bl true)) au))))) 2) (bE (kK (kq au) 3) (bE (gh (xUn uP (xC (.int 1))) (aj 4)) (bE (fW (dc) (fG)) (FI 3 (gE (aR (ag (bB bN (ag (xL (mY 2 (bZ [none, none] (uN 2) (bq (aq (aj 0) (aq (aj 1) bu))) d6 (aR (ag (aw 1) (ag (aw 0) (ag (aw 0) au))))))) au)) (ag (aw 3) au))))))))
def lL : List D -> Option O := fnO 5 ku
def aS : List D -> Option D := fun ds => (lL ds).map O.d
def y9 : XS := bE (gh (bB bJ (ag (aw 0) (ag (xC (.int 0)) au))) (aj 1)) (bE (gh (bB bJ (ag (aw 0) (ag (xC (.int 1)) au))) (aj 2)) (bE (gh (xOp q9 (xOp hJ (am 2) (xOp wp (xC (.int 10)) (xC (.int 20)))) (xOp wp (xC (.int 10)) (xC (.int 19)))) (aj 3)) (bE (gh (aR (ag (aR (ag (xOp hJ (am 1) (xC (.int 9))) (ag (aR (ag (aR (ag (aw 3) (ag (xOp bz (xOp bz (am 3) (xC (.int 1000))) (xOp hJ (am 1) (xOp wp (xC (.int 10)) (xC (.int 58))))) au))) au)) au))) au)) (aj 4)) (bE (xIf (xB (xOp (dEq false) (xOp hJ (xOp yd (am 1) (xC (.int 9))) (xC (.int 3))) (xC (.int 1)))) (gh (xOp bz (am 4) (aR (ag (aR (ag (xOp bz (xOp hJ (am 1) (xC (.int 9))) (xC (.int 1))) (ag (aR (ag (aR (ag (xOp bz (am 3) (xC (.int 3))) (ag (xOp bz (am 3) (xC (.int 4))) au))) (ag (aR (ag (xOp bz (am 3) (xC (.int 9))) (ag (xOp bz (am 3) (xC (.int 9))) au))) au))) au))) au))) (aj 4)) gU) (bE (xIf (xB (xOp (dEq false) (xOp hJ (xOp yd (am 1) (xC (.int 9))) (xC (.int 3))) (xC (.int 2)))) (gh (xCB jb (ag (xL (bZ [none, some 3, some 2] (EL (ag (xC (.int 4)) au)) (aj 0) d6 (aR (ag (aw 0) (ag (aR (ag (aR (ag (aw 1) (ag (xOp bz (xOp bz (am 1) (xC (.int 300))) (xOp hJ (am 2) (xC (.int 50)))) au))) au)) au))))) au)) (aj 4)) gU) (bE (xIf (xOr (CY (qz (bB dl (ag (aw 4) (ag (xC (.bl true)) au))))) (CY (qz (bB dl (ag (aw 4) (ag (xC (.bl false)) au)))))) (gE (xC (.bl false))) gU) (bE (gh (bB im (ag (xOp bz (xC (.int 2)) (xOp hJ (am 1) (xC (.int 5)))) (ag (aw 3) (ag (xOp hJ (am 2) (xC (.int 7))) au)))) (aj 5)) (bE (xIf (xB (xOp (dEq true) (uQ aS (.bl true) (ag (aw 5) au)) (aR (ag (aw 5) (ag (xL (kq au)) au))))) (gE (xC (.bl false))) gU) (bE (xIf (xB (xOp (dEq false) (xOp hJ (xOp yd (am 1) (xC (.int 27))) (xC (.int 8))) (xC (.int 1)))) (bE (gh (aR (ag (aR (ag (xOp hJ (am 1) (xC (.int 5))) (ag (aR (ag (aR (ag (aw 3) (ag (xOp bz (am 3) (xC (.int 999))) au))) au)) au))) au)) (aj 6)) (gE (xOp (dEq false) (uQ aS (.bl true) (ag (aw 6) au)) (aR (ag (aw 6) (ag (xL (kq au)) au)))))) gU) (bE (gh (xOp bz (xOp bz (am 3) (xC (.int 2))) (xOp hJ (am 2) (xC (.int 10)))) (aj 7)) (bE (gh (aR (ag (aR (ag (xOp hJ (am 1) (xC (.int 5))) (ag (aR (ag (aR (ag (aw 3) (ag (aw 7) au))) au)) au))) au)) (aj 8)) (bE (xIf (xB (xOp (dEq true) (bB aS (ag (aw 8) (ag (xC (.bl true)) au))) (aR (ag (aw 8) (ag (xL (kq au)) au))))) (gE (xC (.bl false))) gU) (bE (gh (bB aS (ag (aw 8) (ag (xC (.bl false)) au))) (aj 9)) (bE (xIf (xOr (xB (xOp (dEq true) (xCB pU (ag (xOp dIx (am 9) (xC (.int 1))) au)) (xOp q9 (am 7) (am 3)))) (xB (xOp (dEq true) (bB fF (ag (xOp dIx (am 9) (xC (.int 0))) au)) (xC (.int 1))))) (gE (xC (.bl false))) gU) (gE (xOp (dEq false) (xL (C4 fP (ag (xOp bz (xOp dIx (am 9) (xC (.int 1))) (xL (kq (ag (aR (ag (xOp dIx (xOp dIx (xOp dIx (xOp dIx (xOp dIx (am 9) (xC (.int 0))) (xC (.int 0))) (xC (.int 1))) (xC (.int 0))) (xC (.int 0))) (ag (xOp dIx (xOp dIx (xOp dIx (am 9) (xC (.int 0))) (xC (.int 0))) (xC (.int 0))) au))) au)))) au))) (xL (bZ [none, some 1] (um (ag (am 3) (ag (xOp bz (am 7) (xC (.int 1))) au))) (aj 0) d6 (aR (ag (aw 0) (ag (xOp hJ (am 1) (xC (.int 5))) au)))))))))))))))))))))
def Bl : List D -> Option O := fnO 10 y9
def Hu : List D -> Option D := fun ds => (Bl ds).map O.d
abbrev gQ (K : W.Frag) : Sp := ic K 2 gR
def nQ (K : W.Frag) : { t : TS // SS K t jf } := ⟨_, a6 (oH (cW (SE.p (aI Jq (ao 1) ((ml tD (bV (ao 0) de)).p)))) (et (aI gK (ao 0) (ao 1))) gc) (et (s_c rfl))⟩
theorem xx {K : W.Frag} {vs : List V} {H : Hp} {Q : VK} {E : XK} (h : gQ K vs H Q E) : (nQ K).1 { nx := fun _ H' => Q .non H', rt := Q } (aG ["_law_script", "_law_k"] vs) H := eo (nQ K).2 rfl h
abbrev kt (K : W.Frag) : Sp := ic K 1 nB
def tT (K : W.Frag) : { t : TS // SS K t pG } := ⟨_, a6 (eF (s_c rfl) (aB 1)) (a6 (nK (nS (aF 0)) (gF (aU (aB 2) (aU (aB 3) ft)) (aM (aM dt))) (nK (nS (aF 3)) (gF (aU (aB 4) (aU (aB 5) ft)) (aM (aM dt))) (eF (aI bX ((aI ui ((aI bX (ao 1) (ao 5)).p) (ao 4)).p) ((s_c rfl).p)) (aB 1)))) (et (aF 1)))⟩
theorem A7 {K : W.Frag} {vs : List V} {H : Hp} {Q : VK} {E : XK} (h : kt K vs H Q E) : (tT K).1 { nx := fun _ H' => Q .non H', rt := Q } (aG ["_law_picture", "_law_total", "_law_y", "_law_row", "_law_low", "_law_high"] vs) H := eo (tT K).2 rfl h
abbrev kD (K : W.Frag) : Sp := ic K 3 tP
def uo (K : W.Frag) : { t : TS // SS K t mQ } := ⟨_, a6 (jV (dU (SI.p (ya ((aI ui (ao 2) (ao 0)).p) ((aI bX ((aI bX (ao 2) (ao 0)).p) ((s_c rfl).p)).p))) (aB 0) kg (a7 (ah (aF 0) (ah (a7 (ah (a7 (ah (aF 1) (ah (aF 1) ap))) ap)) ap))))) (a6 (Dl (a7 (ah (aF 2) (ah (a7 (ah (a7 (ah (aI ui (ao 1) (ao 0)) (ah (aI bX (ao 1) (ao 0)) ap))) ap)) ap))) (nZ 3) (ao 0)) (et (ml o4 (bV (ao 3) de))))⟩
theorem Bd {K : W.Frag} {vs : List V} {H : Hp} {Q : VK} {E : XK} (h : kD K vs H Q E) : (uo K).1 { nx := fun _ H' => Q .non H', rt := Q } (aG ["_law_arm", "_law_x", "_law_y", "_law_rows"] vs) H := eo (uo K).2 rfl h
abbrev dP (K : W.Frag) : Sp := ic K 1 fJ
def jE (K : W.Frag) : { t : TS // SS K t gC } := ⟨_, et (ml tD (bV (((dU (gz ((s_g).p)) (gF (aU (aB 0) (aU (aB 1) (aU (aB 2) ft))) (aM (aM (aM dt)))) (cW (SE.p (aI (kH true) ((aI Cp (ao 3) (ao 2)).p) ((s_c rfl).p)))) (aF 2)).e).p) de))⟩
theorem oW {K : W.Frag} {vs : List V} {H : Hp} {Q : VK} {E : XK} (h : dP K vs H Q E) : (jE K).1 { nx := fun _ H' => Q .non H', rt := Q } (aG ["number"] vs) H := eo (jE K).2 rfl h
abbrev fh (K : W.Frag) : Sp := ic K 3 hZ
def lf (K : W.Frag) : { t : TS // SS K t ji } := ⟨_, Gp (SF.t (zP (Fm 0) (CW (aU (aB 0) (aU (aB 1) ft)) (aM (aM dt))) (G2 (BW (i := 2) (a7 (ah (aI bX (ao 0) (ao 3)) (ah (aI bX (ao 1) (ao 4)) ap))))) (a7 (ah (aF 0) (ah (aF 1) ap)))))⟩
theorem rO {K : W.Frag} {vs : List V} {H : Hp} {Q : VK} {E : XK} (h : fh K vs H Q E) : (lf K).1 { nx := fun _ H' => Q .non H', rt := Q } (aG ["kept", "dx", "dy"] vs) H := eo (lf K).2 rfl h
abbrev fN (K : W.Frag) : Sp := ic K 1 iE
def mH (K : W.Frag) : { t : TS // SS K t jP } := ⟨_, et (ml BE (bV (((dU (gz (ao 0)) (gF (aU (aB 0) (aU (aB 1) ft)) (aM (aM dt))) kg (aI bX ((aI ui (ao 1) (ao 0)).p) ((s_c rfl).p))).e).p) de))⟩
theorem vl {K : W.Frag} {vs : List V} {H : Hp} {Q : VK} {E : XK} (h : fN K vs H Q E) : (mH K).1 { nx := fun _ H' => Q .non H', rt := Q } (aG ["row"] vs) H := eo (mH K).2 rfl h
abbrev kr (K : W.Frag) : Sp := ic K 1 nw
def tf (K : W.Frag) : { t : TS // SS K t qB } := ⟨_, a6 (jV (gv ap)) (a6 (nK (nS ((CI rp (bV (((dU (gz (ao 0)) (gF (aU (aB 0) (aU (aB 1) ft)) (aM (aM dt))) (cW (SE.p (aI Gy (ao 0) (ao 1)))) (a7 (ah (aF 0) (ah (aF 1) ap)))).e).p) de)).e)) (gF (aU (aB 2) (aU (aB 3) ft)) (aM (aM dt))) (oH (E8 (vA (ao 1)) (cW (SE.p (aI Gy (ao 2) ((aI bX ((aI gK ((aI gK (ao 1) ((yE qV ((s_c rfl).p)).p)).p) ((s_c rfl).p)).p) ((s_c rfl).p)).p))))) (Dl (a7 (ah (aI gK ((aI gK (ao 1) ((yE qV ((s_c rfl).p)).p)).p) ((s_c rfl).p)) (ah (ml Gv (bV ((aI gK ((aI gK (ao 1) ((yE qV ((s_c rfl).p)).p)).p) ((s_c rfl).p)).p) (bV (ao 3) de))) ap))) (nZ 1) ((yE qV ((s_c rfl).p)).p)) (uL (nZ 1) ((a7 (ah (aF 2) (ah (aF 3) ap))).t)))) (et (ml o4 (bV (ao 1) de))))⟩
theorem Aw {K : W.Frag} {vs : List V} {H : Hp} {Q : VK} {E : XK} (h : kr K vs H Q E) : (tf K).1 { nx := fun _ H' => Q .non H', rt := Q } (aG ["pairs", "stretches", "a", "b"] vs) H := eo (tf K).2 rfl h
abbrev dQ (K : W.Frag) : Sp := ic K 1 dN
def jw (K : W.Frag) : { t : TS // SS K t gw } := ⟨_, a6 (jV (gv ap)) (a6 (nK (nS (aF 0)) (gF (aU (aB 2) (aU (aB 3) ft)) (aM (aM dt))) (BM (nZ 1) ((dU (gz (ao 3)) (gF (aU (aB 0) (aU (aB 1) ft)) (aM (aM dt))) kg (a7 (ah (aF 2) (ah (aF 0) (ah (aF 1) ap))))).e))) (DD 1))⟩
theorem oD {K : W.Frag} {vs : List V} {H : Hp} {Q : VK} {E : XK} (h : dQ K vs H Q E) : (jw K).1 { nx := fun _ H' => Q .non H', rt := Q } (aG ["picture", "stretches", "y", "row"] vs) H := eo (jw K).2 rfl h
abbrev mx (K : W.Frag) : Sp := ic K 1 qJ
def xK (K : W.Frag) : { t : TS // SS K t vp } := ⟨_, a6 (eF (aI bX (ao 0) ((aI Cl ((s_c rfl).p) (ao 0)).p)) (aB 1)) (et (ml tD (bV (((dU (gz ((s_g).p)) (aB 0) (E8 (cW (SE.p (aI (kH false) ((aI Cp (ao 1) (ao 0)).p) ((s_c rfl).p)))) (cW (SE.p (aI (kH true) ((aI Cp (ao 2) ((aI bX ((aI Cl ((s_c rfl).p) (ao 0)).p) ((aI Cl ((s_c rfl).p) (ao 0)).p)).p)).p) ((s_c rfl).p))))) (aF 0)).e).p) de)))⟩
theorem Bs {K : W.Frag} {vs : List V} {H : Hp} {Q : VK} {E : XK} (h : mx K vs H Q E) : (xK K).1 { nx := fun _ H' => Q .non H', rt := Q } (aG ["number", "twice"] vs) H := eo (xK K).2 rfl h
abbrev df (K : W.Frag) : Sp := ic K 1 f7
def j9 (K : W.Frag) : { t : TS // SS K t hW } := ⟨_, et (ml BE (bV (((dU (gz (ao 0)) (gF (aU (aB 0) (aU (aB 1) ft)) (aM (aM dt))) kg (cL (E := E0) (ah (aF 1) ap) (aC (fun _ _ h => a9 h)))).e).p) de))⟩
theorem p9 {K : W.Frag} {vs : List V} {H : Hp} {Q : VK} {E : XK} (h : df K vs H Q E) : (j9 K).1 { nx := fun _ H' => Q .non H', rt := Q } (aG ["picture"] vs) H := eo (j9 K).2 rfl h
abbrev o7 (K : W.Frag) : Sp := ic K 4 oY
def zR (K : W.Frag) : { t : TS // SS K t u9 } := ⟨_, a6 (eF (ml BE (bV (((dU (gz ((s_g).p)) (gF (aU (aB 0) (aU (aB 1) (aU (aB 2) ft))) (aM (aM (aM dt)))) (G2 (GS (i := 3) (a7 (ah (aI bX (ao 4) (ao 0)) (ah (aI bX (ao 5) (ao 1)) ap))))) (aF 2)).e).p) de)) (aB 4)) (et (CJ ((aI (kH false) ((cL (E := E0) (ah (aF 4) ap) (aC (fun _ _ h => a9 h))).p) ((s_c rfl).p)).p) (G1 ((F4 (ao 3)).p) (aI Ip ((cL (E := E0) (ah (aF 4) ap) (aC (fun _ _ h => a9 h))).p) ((s_c rfl).p)))))⟩
theorem EM {K : W.Frag} {vs : List V} {H : Hp} {Q : VK} {E : XK} (h : o7 K vs H Q E) : (zR K).1 { nx := fun _ H' => Q .non H', rt := Q } (aG ["kept", "x", "y", "ends", "number"] vs) H := eo (zR K).2 rfl h
abbrev fk (K : W.Frag) : Sp := ic K 1 hG
def kT (K : W.Frag) : { t : TS // SS K t jg } := ⟨_, a6 (jV (gv ap)) (a6 (nK (nS ((CI rp (bV (((dU (gz (ao 0)) (gF (aU (aB 0) (aU (aB 1) (aU (aB 2) ft))) (aM (aM (aM dt)))) (cW (SE.p (aI Gy (ao 1) (ao 2)))) (a7 (ah (aF 0) (ah (aF 1) (ah (aF 2) ap))))).e).p) de)).e)) (gF (aU (aB 2) (aU (aB 3) (aU (aB 4) ft))) (aM (aM (aM dt)))) (a6 (oH (Go (CB (FU (CZ 1))) (cW (SE.p (aI (kH true) ((SQ.fl (Fl gK (Fl gK (CZ 1) (((yE qV ((s_c rfl).p)).p).q)) (((s_c rfl).p).q))).p) (ao 2))))) (uL (nZ 1) (Gz (zD ((aF 2).t) (zD (GD Ch) Ch)))) gc) (uL (GU (GU (nZ 1) ((yE qV ((s_c rfl).p)).p)) ((s_c rfl).p)) ((a7 (ah (aF 3) (ah (aF 4) ap))).t)))) (Fh 1 (et (ml o4 (bV (((dU (gz ((aF 1).p)) (gF (aU (aB 0) (aU (aB 1) ft)) (aM (aM dt))) kg (a7 (ah (aF 0) (ah (cL (E := E0) (ah (aF 1) ap) (aC (fun _ _ h => a9 h))) ap)))).e).p) de)))))⟩
theorem se {K : W.Frag} {vs : List V} {H : Hp} {Q : VK} {E : XK} (h : fk K vs H Q E) : (kT K).1 { nx := fun _ H' => Q .non H', rt := Q } (aG ["stretches", "pairs_by_row", "y", "a", "b"] vs) H := eo (kT K).2 rfl h
abbrev fO (K : W.Frag) : Sp := spX K 1 g7
def l8 (K : W.Frag) (E : XK) : { t : TS // SX K E t lw } := ⟨_, zO (Hz (cW (SE.p (aI FO ((cL (E := E0) (ah (aF 0) ap) (aC (fun _ _ h => a9 h))).p) ((s_c rfl).p)))) (C8 (v := (.str (Str.ofString "a picture of more than a thousand cells is not told cell by cell")))) (D3))⟩
theorem uG {K : W.Frag} {vs : List V} {H : Hp} {Q : VK} {E : XK} (h : fO K vs H Q E) : (l8 K E).1 { nx := fun _ H' => Q .non H', rt := Q } (aG ["picture", "cells", "y", "a", "b"] vs) H := CS (l8 K E).2 rfl h
abbrev fv (K : W.Frag) : Sp := ic K 1 gN
def nM (K : W.Frag) : { t : TS // SS K t lv } := ⟨_, a6 (oH (cW (SE.p (aI FO ((cL (E := E0) (ah (aF 0) ap) (aC (fun _ _ h => a9 h))).p) ((s_c rfl).p)))) (D8 (t := Dv)) gc) (a6 (jV (gv ap)) (a6 (nK (nS (cL (E := E0) (ah (aF 0) ap) (aC (fun _ _ h => a9 h)))) (gF (aU (aB 2) (aU (aB 3) (aU (aB 4) ft))) (aM (aM (aM dt)))) (BM (nZ 1) ((dU (SI.p (ya (ao 3) ((aI bX (ao 4) ((s_c rfl).p)).p))) (aB 0) kg (a7 (ah (aF 0) (ah (aF 1) ap)))).e))) (DD 1)))⟩
theorem vL {K : W.Frag} {vs : List V} {H : Hp} {Q : VK} {E : XK} (h : fv K vs H Q E) : (nM K).1 { nx := fun _ H' => Q .non H', rt := Q } (aG ["picture", "cells", "y", "a", "b"] vs) H := eo (nM K).2 rfl h
abbrev fQ (K : W.Frag) : Sp := spH K 3 eE
def l5 (K : W.Frag) : { t : TS // SS K t kj } := ⟨_, a6 (jV (gv ap)) (a6 (nK (nS (aF 1)) (aB 4) (oH (vA ((B1 0 (cL (E := E0) (ah (aF 0) (ah (aI gK (ao 4) ((s_c rfl).p)) (ah (aI gK (ao 4) ((s_c rfl).p)) (ah (aF 2) ap)))) (aC (aC (aC (aC (fun _ _ h => a9 h))))))).p)) (a6 (FE (i := 0) (aF 4)) (uL (nZ 3) ((aF 4).t))) gc)) (CP 3))⟩
theorem vG {K : W.Frag} {vs : List V} {H : Hp} {Q : VK} {E : XK} (h : fQ K vs H Q E) : (l5 K).1 { nx := fun _ H' => Q .non H', rt := Q } (aG ["kept", "free", "ends", "taken", "cell"] vs) H := DP (l5 K).2 rfl h
abbrev g8 (K : W.Frag) : Sp := spX K 2 fb
def nN (K : W.Frag) (E : XK) : { t : TS // SX K E t nz } := ⟨_, zO (Hf (Fw (g := gB 2) (Fv (r := Dt) (tr := kJ) (Dq (js := [none]) (g := gB 0) (tt := DG) (te := EH (d9 (jG 0) (d9 (tC (.bl true)) (kJ)))) (vK (ah (aF 0) ap) (aC (fun _ _ h => a9 h)))))) (yx (zv (dU (gz ((cL (E := E0) (ah (aF 0) ap) (aC (fun _ _ h => a9 h))).p)) (aB 0) kg (a7 (ah (aF 0) (ah (s_c rfl) ap)))))))⟩
theorem wS {K : W.Frag} {vs : List V} {H : Hp} {Q : VK} {E : XK} (h : g8 K vs H Q E) : (nN K E).1 { nx := fun _ H' => Q .non H', rt := Q } (aG ["picture", "ends", "kept", "taken", "taken_before"] vs) H := CS (nN K E).2 rfl h
abbrev fm (K : W.Frag) : Sp := spH K 2 fe
def lh (K : W.Frag) : { t : TS // SS K t iH } := ⟨_, a6 (jV (gv ap)) (a6 (nK (nS (s_g)) (gF (aU (aB 3) (aU (aB 4) ft)) (aM (aM dt))) (Cu (E0 := E0) (i := 0) (j := 2) (ah (B1 0 (cL (E := E0) (ah (aF 0) (ah (aF 3) (ah (aF 4) ap))) (aC (aC (aC (fun _ _ h => a9 h)))))) (ah (aF 1) ap)) (aC (aC (fun _ _ h => a9 h))))) (CP 2))⟩
theorem su {K : W.Frag} {vs : List V} {H : Hp} {Q : VK} {E : XK} (h : fm K vs H Q E) : (lh K).1 { nx := fun _ H' => Q .non H', rt := Q } (aG ["kept", "ends", "taken", "dx", "dy"] vs) H := DP (lh K).2 rfl h
abbrev gW (K : W.Frag) : Sp := ic K 2 nX
def nU (K : W.Frag) : { t : TS // SS K t jl } := ⟨_, a6 (eF ((gv ap).e) (aB 2)) (a6 (eF ((gv ap).e) (aB 3)) (a6 (GZ (L := xNs) (i := 4) (l := [(2, [dh, cz, dW, eS]), (3, [eU, eR, gb, eY])]) (fun E => EA (vK (ah (aF 0) (ah (aF 1) ap)) (aC (aC (fun _ _ h => a9 h)))))) (et (CJ ((aI (kH false) (ao 2) (((gv (ah (s_c rfl) (ah (s_c rfl) (ah (s_c rfl) (ah (s_c rfl) ap))))).e).p)).p) (aI (kH false) (ao 3) (((gv (ah (s_c rfl) (ah (s_c rfl) (ah (s_c rfl) (ah (s_c rfl) ap))))).e).p))))))⟩
theorem xf {K : W.Frag} {vs : List V} {H : Hp} {Q : VK} {E : XK} (h : gW K vs H Q E) : (nU K).1 { nx := fun _ H' => Q .non H', rt := Q } (aG ["_law_picture", "_law_ends", "_law_named", "_law_others", "e"] vs) H := eo (nU K).2 rfl h
abbrev iQ (K : W.Frag) : Sp := ic K 2 lL
def qE (K : W.Frag) : { t : TS // SS K t ku } := ⟨_, a6 (yx (zv (dU (gz ((cL (E := E0) (ah (aF 0) ap) (aC (fun _ _ h => a9 h))).p)) (aB 0) kg (a7 (ah (aF 0) (ah (s_c rfl) ap)))))) (a6 (jV (gv ap)) (a6 (eF (yE qV ((s_c rfl).p)) (aB 4)) (a6 (E4 (cW (SE.p (aI FO ((ml tD (bV (ao 3) de)).p) (ao 4)))) (a6 (eF (ml tD (bV (ao 3) de)) (aB 4)) (Cu (E0 := E0) (i := 2) (j := 3) (ah (aF 1) ap) (aC (fun _ _ h => a9 h))))) (Fh 3 (et (a7 (ah (cL (E := E0) (ah ((Ew 2 (zP (Fm 2) (CW (aU (aB 0) (aU (aB 1) ft)) (aM (aM dt))) kg (a7 (ah (aF 1) (ah (aF 0) (ah (aF 0) ap)))))).e) ap) (aC (fun _ _ h => a9 h))) (ah (aF 3) ap))))))))⟩
theorem yW {K : W.Frag} {vs : List V} {H : Hp} {Q : VK} {E : XK} (h : iQ K vs H Q E) : (qE K).1 { nx := fun _ H' => Q .non H', rt := Q } (aG ["picture", "ends", "kept", "taken", "taken_before"] vs) H := eo (qE K).2 rfl h
abbrev pD (K : W.Frag) : Sp := ic K 1 Bl
def B6 (K : W.Frag) : { t : TS // SS K t y9 } := ⟨_, a6 (eF (cL (E := E0) (ah (aF 0) (ah (s_c rfl) ap)) (aC (aC (fun _ _ h => a9 h)))) (aB 1)) (a6 (eF (cL (E := E0) (ah (aF 0) (ah (s_c rfl) ap)) (aC (aC (fun _ _ h => a9 h)))) (aB 2)) (a6 (eF (aI ui ((aI gM (ao 2) ((aI Cr ((s_c rfl).p) ((s_c rfl).p)).p)).p) ((aI Cr ((s_c rfl).p) ((s_c rfl).p)).p)) (aB 3)) (a6 (eF (a7 (ah (a7 (ah (aI gM (ao 1) ((s_c rfl).p)) (ah (a7 (ah (a7 (ah (aF 3) (ah (aI bX ((aI bX (ao 3) ((s_c rfl).p)).p) ((aI gM (ao 1) ((aI Cr ((s_c rfl).p) ((s_c rfl).p)).p)).p)) ap))) ap)) ap))) ap)) (aB 4)) (a6 (oH (cW (SE.p (aI (kH false) ((aI gM ((aI Db (ao 1) ((s_c rfl).p)).p) ((s_c rfl).p)).p) ((s_c rfl).p)))) (eF (aI bX (ao 4) ((a7 (ah (a7 (ah (aI bX ((aI gM (ao 1) ((s_c rfl).p)).p) ((s_c rfl).p)) (ah (a7 (ah (a7 (ah (aI bX (ao 3) ((s_c rfl).p)) (ah (aI bX (ao 3) ((s_c rfl).p)) ap))) (ah (a7 (ah (aI bX (ao 3) ((s_c rfl).p)) (ah (aI bX (ao 3) ((s_c rfl).p)) ap))) ap))) ap))) ap)).p)) (aB 4)) gc) (a6 (oH (cW (SE.p (aI (kH false) ((aI gM ((aI Db (ao 1) ((s_c rfl).p)).p) ((s_c rfl).p)).p) ((s_c rfl).p)))) (eF (ml o4 (bV (((dU (SI.p (F6 ((s_c rfl).p))) (aB 0) kg (a7 (ah (aF 0) (ah (a7 (ah (a7 (ah (aF 1) (ah (aI bX ((aI bX (ao 1) ((s_c rfl).p)).p) ((aI gM (ao 2) ((s_c rfl).p)).p)) ap))) ap)) ap)))).e).p) de)) (aB 4)) gc) (a6 (oH (Go (CB (vA ((cL (E := E0) (ah (aF 4) (ah (s_c rfl) ap)) (aC (aC (fun _ _ h => a9 h)))).p))) (CB (vA ((cL (E := E0) (ah (aF 4) (ah (s_c rfl) ap)) (aC (aC (fun _ _ h => a9 h)))).p)))) (et (s_c rfl)) gc) (a6 (eF (cL (E := E0) (ah (aI bX ((s_c rfl).p) ((aI gM (ao 1) ((s_c rfl).p)).p)) (ah (aF 3) (ah (aI gM (ao 2) ((s_c rfl).p)) ap))) (aC (aC (aC (fun _ _ h => a9 h))))) (aB 5)) (a6 (oH (cW (SE.p (aI (kH true) ((zz (E := E0) (v := .bl true) rfl (ah (aF 5) ap) (aC (fun _ _ h => a9 h))).p) ((a7 (ah (aF 5) (ah ((gv ap).e) ap))).p)))) (et (s_c rfl)) gc) (a6 (oH (cW (SE.p (aI (kH false) ((aI gM ((aI Db (ao 1) ((s_c rfl).p)).p) ((s_c rfl).p)).p) ((s_c rfl).p)))) (a6 (eF (a7 (ah (a7 (ah (aI gM (ao 1) ((s_c rfl).p)) (ah (a7 (ah (a7 (ah (aF 3) (ah (aI bX (ao 3) ((s_c rfl).p)) ap))) ap)) ap))) ap)) (aB 6)) (et (aI (kH false) ((zz (E := E0) (v := .bl true) rfl (ah (aF 6) ap) (aC (fun _ _ h => a9 h))).p) ((a7 (ah (aF 6) (ah ((gv ap).e) ap))).p)))) gc) (a6 (eF (aI bX ((aI bX (ao 3) ((s_c rfl).p)).p) ((aI gM (ao 2) ((s_c rfl).p)).p)) (aB 7)) (a6 (eF (a7 (ah (a7 (ah (aI gM (ao 1) ((s_c rfl).p)) (ah (a7 (ah (a7 (ah (aF 3) (ah (aF 7) ap))) ap)) ap))) ap)) (aB 8)) (a6 (oH (cW (SE.p (aI (kH true) ((cL (E := E0) (ah (aF 8) (ah (s_c rfl) ap)) (aC (aC (fun _ _ h => a9 h)))).p) ((a7 (ah (aF 8) (ah ((gv ap).e) ap))).p)))) (et (s_c rfl)) gc) (a6 (eF (cL (E := E0) (ah (aF 8) (ah (s_c rfl) ap)) (aC (aC (fun _ _ h => a9 h)))) (aB 9)) (a6 (oH (Go (cW (SE.p (aI (kH true) ((ml tD (bV ((aI gK (ao 9) ((s_c rfl).p)).p) de)).p) ((aI ui (ao 7) (ao 3)).p)))) (cW (SE.p (aI (kH true) ((cL (E := E0) (ah (aI gK (ao 9) ((s_c rfl).p)) ap) (aC (fun _ _ h => a9 h))).p) ((s_c rfl).p))))) (et (s_c rfl)) gc) (et (aI (kH false) (((CI rp (bV ((aI bX ((aI gK (ao 9) ((s_c rfl).p)).p) (((gv (ah (a7 (ah (aI gK ((aI gK ((aI gK ((aI gK ((aI gK (ao 9) ((s_c rfl).p)).p) ((s_c rfl).p)).p) ((s_c rfl).p)).p) ((s_c rfl).p)).p) ((s_c rfl).p)) (ah (aI gK ((aI gK ((aI gK (ao 9) ((s_c rfl).p)).p) ((s_c rfl).p)).p) ((s_c rfl).p)) ap))) ap)).e).p)).p) de)).e).p) (((dU (SI.p (ya (ao 3) ((aI bX (ao 7) ((s_c rfl).p)).p))) (aB 0) kg (a7 (ah (aF 0) (ah (aI gM (ao 1) ((s_c rfl).p)) ap)))).e).p)))))))))))))))))⟩
theorem Gs {K : W.Frag} {vs : List V} {H : Hp} {Q : VK} {E : XK} (h : pD K vs H Q E) : (B6 K).1 { nx := fun _ H' => Q .non H', rt := Q } (aG ["_law_script", "_law_first", "_law_second", "_law_low", "_law_great", "_law_cross_here", "_law_just", "_law_high", "_law_line", "_law_found"] vs) H := eo (B6 K).2 rfl h
end P
namespace P
open PySem L2 M Rw
def sj (p : Int × Int) : List Int := [p.1, p.2]
theorem wu : ∀ r : R, keys (r.map prD) = some (r.map sj)
 | [] => rfl
 | p :: r => by
  rw [List.map_cons, keys, wu r]
  rfl
theorem BC : ∀ {r : R}, r ≠ [] -> bD (r.map prD) = none
 | [], h => absurd rfl h
 | p :: r, _ => rfl
def zE : List Int -> Int × Int
 | [a, b] => (a, b)
 | _ => (0, 0)
def kN (ps : R) : R := (gm (ps.map sj)).map zE
theorem pA (ps : R) : (kN ps).map sj = gm (ps.map sj) := by
 unfold kN
 rw [List.map_map]
 have h : ∀ k ∈ gm (ps.map sj), (sj ∘ zE) k = k := fun k hk => by
  have := (gJ _).mem_iff.mp hk
  obtain ⟨p, _, rfl⟩ := List.mem_map.mp this
  rfl
 rw [List.map_congr_left h, List.map_id']
theorem eT (ps : R) : (kN ps).Perm ps := by
 have h := (gJ (ps.map sj)).map zE
 rw [List.map_map] at h
 have e : (zE ∘ sj) = id := rfl
 rw [e, List.map_id] at h
 exact h
theorem xh (ps : R) : (kN ps).Pairwise fun p q => p.1 <= q.1 := by
 have h := qh (ps.map sj)
 rw [<- pA, List.pairwise_map] at h
 refine h.imp fun {p q} e => ?_
 have e' : (if q.1 = p.1 then HT.cD [q.2] [p.2] else decide (q.1 < p.1)) = false := e
 by_cases hq : q.1 = p.1
 ·lia
 ·rw [if_neg hq] at e'
  have := of_decide_eq_false e'
  lia
theorem n6 (ps : R) (h : ps.length < 30000) : fP [AH ps] = some ((kN ps).map prD) := by
 show (if (ps.map prD).length < 30000 then _ else _) = _
 rw [if_pos (by rw [List.length_map]; exact h)]
 by_cases e : ps = []
 ·subst e
  have e0 : kN [] = [] := List.length_eq_zero_iff.mp (by rw [(eT []).length_eq]; rfl)
  have e1 : nH [] = [] := List.length_eq_zero_iff.mp (by rw [(lH []).length_eq]; rfl)
  show some ((nH []).map D.int) = _
  rw [e0, e1]
  rfl
 ·rw [BC e]
  dsimp only
  rw [wu]
  have : (kN ps).map prD = (gm (ps.map sj)).map sK := by
   rw [<- pA, List.map_map]
   rfl
  rw [this]
  rfl
def sC (p : Int × Int) : Bool := decide (p.1 <= p.2)
def ua (ps : R) : R := l9 (kN (ps.filter sC))
theorem gY (ps : R) : Fs ps (ua ps) := by
 refine Bx ?_ (xh _) fun x => ?_
 ·intro p hp
  have := (eT _).mem_iff.mp hp
  simpa [sC] using (List.mem_filter.mp this).2
 ·rw [DQ (eT _)]
  exact mem_filter ps x
theorem Cs (acc : R) (p : Int × Int) : (step acc p).length <= acc.length + 1 := by
 rcases List.eq_nil_or_concat acc with rfl | ⟨t, q, rfl⟩
 ·simp [Rw.step]
 ·rw [List.concat_eq_append, m6]
  split <;> simp
theorem sR : ∀ (l acc : R), (l.foldl step acc).length <= acc.length + l.length
 | [], acc => by simp
 | p :: l, acc => by
  have h1 := sR l (step acc p)
  have h2 := Cs acc p
  rw [List.foldl_cons, List.length_cons]
  lia
theorem bn {n : Nat} (h : n <= 100000) : n <= LIM := Nat.le_trans h (by rw [eV]; decide)
theorem uO {n : Nat} (h : n <= 100000) : n < LIM := Nat.lt_of_le_of_lt h (by rw [eV]; decide)
theorem Cj (a b : Int) : D.tup [.int a, .int b] = prD (a, b) := rfl
theorem t0 : ∀ ps : R, ps.filterMap (fun p => if p.1 <= p.2 then some (prD p) else none) = (ps.filter sC).map prD
 | [] => rfl
 | p :: t => by
  rw [List.filterMap_cons, List.filter_cons, t0 t]
  by_cases h : p.1 <= p.2
  ·simp [sC, h]
  ·simp [sC, h]
theorem AA (ps : R) : cE (bq (aq (aj 0) (aq (aj 1) bu))) (xB (xOp dLe (am 0) (am 1))) (aR (ag (aw 0) (ag (aw 1) au))) [.un, .un] (ps.map prD) = some ((ps.filter sC).map prD) := by
 rw [fE prD (fun p => if p.1 <= p.2 then some (prD p) else none) ps, t0]
 intro p _
 by_cases h : p.1 <= p.2 <;> simp [iz, h]
theorem yg (pre : R) (p : Int × Int) : l9 (pre ++ [p]) = step (l9 pre) p := by
 unfold l9
 rw [List.foldl_append]
 rfl
theorem BQ (pre : R) : (l9 pre).length <= pre.length := by
 have := sR pre []
 unfold l9
 simpa using this
theorem bp {m n : XS} {ρ ρ' : M.Env} (h : m ρ = some (.nx ρ')) : bE m n ρ = n ρ' := by unfold bE; rw [h]
theorem BA {n : Nat} {x : XS} {ds : List D} {d : D} (h : x (ds.map .sh ++ List.replicate (n - ds.length) .un) = some (.rt d)) : (fnO n x ds).map O.d = some d := by unfold fnO; rw [h]; simp
theorem wt (s0 : Sl) (acc : R) (a b : Int) (h : acc.length <= 30000) : eP [s0, owl (acc.map prD), .sh (.int a), .sh (.int b)] = some (.nx [s0, owl ((step acc (a, b)).map prD), .sh (.int a), .sh (.int b)]) := by
 rcases List.eq_nil_or_concat acc with rfl | ⟨t, q, rfl⟩
 ·simp [eP, Rw.step, prD]
 ·rw [List.concat_eq_append] at *
  rw [m6]
  have hl : t.length + 1 <= 30000 := by simpa using h
  have hlim : t.length + 1 < LIM := uO (by lia)
  have at1 : atI (t.map prD ++ [prD q]) (-1) = some (prD q) := qS _ _
  by_cases hc : a <= q.2 + 1
  ·simp [eP, at1, hc, Cd, Cj]
  ·simp [eP, at1, hc, hlim, Cj]
theorem xn (ps : R) (h : ps.length < 30000) : fH [AH ps] = some (zX (ua ps)) := by
 have hf := List.length_filter_le sC ps
 have hs := (eT (ps.filter sC)).length_eq
 have key : ∃ ρ', fL (bq (aq (aj 2) (aq (aj 3) bu))) eP ((kN (ps.filter sC)).map prD) [.sh (AH ps), .ow (.lst []), .un, .un] = some (.nx ρ') /\ ∃ va vb, ρ' = [.sh (AH ps), owl ((ua ps).map prD), va, vb] := by
  refine fT prD (fun pre ρ => ∃ va vb, ρ = [.sh (AH ps), owl ((l9 pre).map prD), va, vb]) _ _ ⟨_, _, rfl⟩ ?_
  rintro pre p post _ e ⟨va, vb, rfl⟩
  have hp : pre.length <= 30000 := by
   have := congrArg List.length e
   rw [List.length_append] at this
   lia
  refine ⟨_, _, rfl, .inl (wt _ (l9 pre) p.1 p.2 (by have := BQ pre; lia)), .sh (.int p.1), .sh (.int p.2), by rw [yg]⟩
 obtain ⟨ρ', k1, va, vb, rfl⟩ := key
 have hc := AA ps
 have hb := n6 (ps.filter sC) (by lia)
 have hl : ps.length <= LIM := bn (by lia)
 simp [fH, nw, fnO, qB, hl, hc, hb, k1]
abbrev Tri := Int × Int × Int
abbrev ei (t : Tri) : D := .tup [.int t.1, .int t.2.1, .int t.2.2]
abbrev Pic := List (Int × R)
abbrev pyD (q : Int × R) : D := .tup [.int q.1, zX q.2]
abbrev aY (p : Pic) : D := .tup (p.map pyD)
def kG (ts : List Tri) (x y : Int) : Prop := ∃ t ∈ ts, t.1 = y /\ t.2.1 <= x /\ x <= t.2.2
def mB (p : Pic) (x y : Int) : Prop := ∃ q ∈ p, q.1 = y /\ Mem q.2 x
def cV (p : Pic) : Prop := (∀ q ∈ p, eL q.2 /\ q.2 ≠ []) /\ p.Pairwise fun a b => a.1 < b.1
theorem il (x y : Int) : ¬ mB [] x y := by rintro ⟨_, h, _⟩; cases h
theorem bF (q : Int × R) (p : Pic) (x y : Int) : mB (q :: p) x y ↔ (q.1 = y /\ Mem q.2 x) \/ mB p x y := by
 constructor
 ·rintro ⟨s, h, e⟩
  rcases List.mem_cons.mp h with rfl | h
  ·exact .inl e
  ·exact .inr ⟨s, h, e⟩
 ·rintro (e | ⟨s, h, e⟩)
  ·exact ⟨q, List.mem_cons_self, e⟩
  ·exact ⟨s, List.mem_cons_of_mem _ h, e⟩
theorem jS (p q : Pic) (x y : Int) : mB (p ++ q) x y ↔ mB p x y \/ mB q x y := by
 constructor
 ·rintro ⟨s, h, e⟩
  rcases List.mem_append.mp h with h | h
  ·exact .inl ⟨s, h, e⟩
  ·exact .inr ⟨s, h, e⟩
 ·rintro (⟨s, h, e⟩ | ⟨s, h, e⟩)
  ·exact ⟨s, List.mem_append_left _ h, e⟩
  ·exact ⟨s, List.mem_append_right _ h, e⟩
theorem AJ (t : Tri) (ts : List Tri) (x y : Int) : kG (t :: ts) x y ↔ (t.1 = y /\ t.2.1 <= x /\ x <= t.2.2) \/ kG ts x y := by
 constructor
 ·rintro ⟨s, h, e⟩
  rcases List.mem_cons.mp h with rfl | h
  ·exact .inl e
  ·exact .inr ⟨s, h, e⟩
 ·rintro (e | ⟨s, h, e⟩)
  ·exact ⟨t, List.mem_cons_self, e⟩
  ·exact ⟨s, List.mem_cons_of_mem _ h, e⟩
theorem wq (a b : List Tri) (x y : Int) : kG (a ++ b) x y ↔ kG a x y \/ kG b x y := by
 constructor
 ·rintro ⟨s, h, e⟩
  rcases List.mem_append.mp h with h | h
  ·exact .inl ⟨s, h, e⟩
  ·exact .inr ⟨s, h, e⟩
 ·rintro (⟨s, h, e⟩ | ⟨s, h, e⟩)
  ·exact ⟨s, List.mem_append_left _ h, e⟩
  ·exact ⟨s, List.mem_append_right _ h, e⟩
theorem AW {a b : List Tri} (h : a.Perm b) (x y : Int) : kG a x y ↔ kG b x y :=
 ⟨fun ⟨q, m, e⟩ => ⟨q, h.mem_iff.mp m, e⟩, fun ⟨q, m, e⟩ => ⟨q, h.mem_iff.mpr m, e⟩⟩
theorem qT : cV [] := ⟨fun _ h => (by cases h), .nil⟩
theorem pcanon_cons {q : Int × R} {p : Pic} : cV (q :: p) ↔ (eL q.2 /\ q.2 ≠ []) /\ (∀ s ∈ p, q.1 < s.1) /\ cV p := by
 constructor
 ·rintro ⟨h1, h2⟩
  have h3 := List.pairwise_cons.mp h2
  exact ⟨h1 q List.mem_cons_self, h3.1, fun s hs => h1 s (List.mem_cons_of_mem _ hs), h3.2⟩
 ·rintro ⟨h1, h2, h3, h4⟩
  refine ⟨fun s hs => ?_, List.pairwise_cons.mpr ⟨h2, h4⟩⟩
  rcases List.mem_cons.mp hs with rfl | hs
  ·exact h1
  ·exact h3 s hs
theorem gS {r : R} (c : eL r) (h : r ≠ []) : ∃ x, Mem r x := by
 cases r with
 | nil => exact absurd rfl h
 | cons p r => exact ⟨p.1, (mem_cons ..).mpr (.inl ⟨Int.le_refl _, (canon_cons.mp c).1⟩)⟩
theorem zj : ∀ {p q : Pic}, cV p -> cV q -> (∀ x y, mB p x y ↔ mB q x y) -> p = q
 | [], [], _, _, _ => rfl
 | [], b :: q, _, cq, h => by
  obtain ⟨⟨c1, c2⟩, _⟩ := pcanon_cons.mp cq
  obtain ⟨x, hx⟩ := gS c1 c2
  exact (il _ _ ((h x b.1).mpr ((bF ..).mpr (.inl ⟨rfl, hx⟩)))).elim
 | a :: p, [], cp, _, h => by
  obtain ⟨⟨c1, c2⟩, _⟩ := pcanon_cons.mp cp
  obtain ⟨x, hx⟩ := gS c1 c2
  exact (il _ _ ((h x a.1).mp ((bF ..).mpr (.inl ⟨rfl, hx⟩)))).elim
 | a :: p, b :: q, cp, cq, h => by
  obtain ⟨⟨ca, na⟩, la, cp'⟩ := pcanon_cons.mp cp
  obtain ⟨⟨cb, nb⟩, lb, cq'⟩ := pcanon_cons.mp cq
  obtain ⟨xa, ha⟩ := gS ca na
  obtain ⟨xb, hb⟩ := gS cb nb
  have ey : a.1 = b.1 := by
   have h1 : b.1 <= a.1 := by
    rcases (bF ..).mp ((h xa a.1).mp ((bF ..).mpr (.inl ⟨rfl, ha⟩))) with ⟨e, _⟩ | ⟨s, hs, e, _⟩
    ·lia
    ·have := lb s hs; lia
   have h2 : a.1 <= b.1 := by
    rcases (bF ..).mp ((h xb b.1).mpr ((bF ..).mpr (.inl ⟨rfl, hb⟩))) with ⟨e, _⟩ | ⟨s, hs, e, _⟩
    ·lia
    ·have := la s hs; lia
   lia
  have er : a.2 = b.2 := Dz ca cb fun x => by
   have hx := h x a.1
   rw [bF, bF] at hx
   have n1 : ¬ mB p x a.1 := by rintro ⟨s, hs, e, _⟩; have := la s hs; lia
   have n2 : ¬ mB q x a.1 := by rintro ⟨s, hs, e, _⟩; have := lb s hs; lia
   constructor
   ·intro hm
    rcases hx.mp (.inl ⟨rfl, hm⟩) with z | z
    ·exact z.2
    ·exact absurd z n2
   ·intro hm
    rcases hx.mpr (.inl ⟨ey.symm, hm⟩) with z | z
    ·exact z.2
    ·exact absurd z n1
  have eab : a = b := by
   obtain ⟨a1, a2⟩ := a
   obtain ⟨b1, b2⟩ := b
   simp only at ey er
   rw [ey, er]
  subst eab
  have ih : p = q := zj cp' cq' fun x y => by
   have hx := h x y
   rw [bF, bF] at hx
   constructor
   ·intro hm
    rcases hx.mp (.inr hm) with z | z
    ·obtain ⟨s, hs, e, _⟩ := hm; have := la s hs; lia
    ·exact z
   ·intro hm
    rcases hx.mpr (.inr hm) with z | z
    ·obtain ⟨s, hs, e, _⟩ := hm; have := lb s hs; lia
    ·exact z
  rw [ih]
def sI (t : Tri) : List Int := [t.1, t.2.1, t.2.2]
def uK : List Int -> Tri
 | [a, b, c] => (a, b, c)
 | _ => (0, 0, 0)
theorem sY : ∀ r : List Tri, keys (r.map ei) = some (r.map sI)
 | [] => rfl
 | p :: r => by rw [List.map_cons, keys, sY r]; rfl
theorem AI : ∀ {r : List Tri}, r ≠ [] -> bD (r.map ei) = none
 | [], h => absurd rfl h
 | _ :: _, _ => rfl
def fA (ts : List Tri) : List Tri := (gm (ts.map sI)).map uK
theorem qM (ts : List Tri) : (fA ts).map sI = gm (ts.map sI) := by
 unfold fA
 rw [List.map_map]
 have h : ∀ k ∈ gm (ts.map sI), (sI ∘ uK) k = k := fun k hk => by
  have := (gJ _).mem_iff.mp hk
  obtain ⟨p, _, rfl⟩ := List.mem_map.mp this
  rfl
 rw [List.map_congr_left h, List.map_id']
theorem gt (ts : List Tri) : (fA ts).Perm ts := by
 have h := (gJ (ts.map sI)).map uK
 rw [List.map_map] at h
 have e : (uK ∘ sI) = id := rfl
 rw [e, List.map_id] at h
 exact h
theorem vX (ts : List Tri) : (fA ts).Pairwise fun p q => p.1 <= q.1 := by
 have h := qh (ts.map sI)
 rw [<- qM, List.pairwise_map] at h
 refine h.imp fun {p q} e => ?_
 have e' : (if q.1 = p.1 then HT.cD [q.2.1, q.2.2] [p.2.1, p.2.2] else decide (q.1 < p.1)) = false := e
 by_cases hq : q.1 = p.1
 ·lia
 ·rw [if_neg hq] at e'
  have := of_decide_eq_false e'
  lia
theorem uH (ts : List Tri) (h : ts.length < 30000) : fP [.lst (ts.map ei)] = some ((fA ts).map ei) := by
 show (if (ts.map ei).length < 30000 then _ else _) = _
 rw [if_pos (by rw [List.length_map]; exact h)]
 by_cases e : ts = []
 ·subst e
  have e0 : fA [] = [] := List.length_eq_zero_iff.mp (by rw [(gt []).length_eq]; rfl)
  have e1 : nH [] = [] := List.length_eq_zero_iff.mp (by rw [(lH []).length_eq]; rfl)
  show some ((nH []).map D.int) = _
  rw [e0, e1]
  rfl
 ·rw [AI e]
  dsimp only
  rw [sY]
  have : (fA ts).map ei = (gm (ts.map sI)).map sK := by
   rw [<- qM, List.map_map]
   rfl
  rw [this]
  rfl
def dG (t : Tri) : Bool := decide (t.2.1 <= t.2.2)
theorem wZ (ts : List Tri) (x y : Int) : kG (ts.filter dG) x y ↔ kG ts x y := by
 constructor
 ·rintro ⟨q, m, e⟩
  exact ⟨q, (List.mem_filter.mp m).1, e⟩
 ·rintro ⟨q, m, e⟩
  exact ⟨q, List.mem_filter.mpr ⟨m, by simp [dG]; lia⟩, e⟩
theorem pV : ∀ ps : List Tri, ps.filterMap (fun p => if p.2.1 <= p.2.2 then some (ei p) else none) = (ps.filter dG).map ei
 | [] => rfl
 | p :: t => by
  rw [List.filterMap_cons, List.filter_cons, pV t]
  by_cases h : p.2.1 <= p.2.2
  ·simp [dG, h]
  ·simp [dG, h]
theorem yu (ps : List Tri) : cE (bq (aq (aj 0) (aq (aj 1) (aq (aj 2) bu)))) (xB (xOp dLe (am 1) (am 2))) (aR (ag (aw 0) (ag (aw 1) (ag (aw 2) au)))) [.un, .un, .un] (ps.map ei) = some ((ps.filter dG).map ei) := by
 rw [fE ei (fun p => if p.2.1 <= p.2.2 then some (ei p) else none) ps, pV]
 intro p _
 by_cases h : p.2.1 <= p.2.2 <;> simp [iz, h]
def jC (gs : Pic) (t : Tri) : Pic := match gs.getLast? with
 | none => [(t.1, [t.2])]
 | some g => if g.1 = t.1 then gs.dropLast ++ [(g.1, g.2 ++ [t.2])] else gs ++ [(t.1, [t.2])]
theorem AZ (t : Tri) : jC [] t = [(t.1, [t.2])] := rfl
theorem lW (gs : Pic) (g : Int × R) (t : Tri) : jC (gs ++ [g]) t = if g.1 = t.1 then gs ++ [(g.1, g.2 ++ [t.2])] else gs ++ [g] ++ [(t.1, [t.2])] := by
 unfold jC
 simp
def eB (ts : List Tri) : Pic := ts.foldl jC []
theorem rC (pre : List Tri) (t : Tri) : eB (pre ++ [t]) = jC (eB pre) t := by
 unfold eB
 rw [List.foldl_append]
 rfl
structure GOk (gs : Pic) (ts : List Tri) : Prop where
 ne : ∀ g ∈ gs, g.2 ≠ [] /\ Ok g.2
 up : gs.Pairwise fun a b => a.1 < b.1
 mem : ∀ x y, mB gs x y ↔ kG ts x y
 le : ∀ g ∈ gs, ∃ t ∈ ts, g.1 = t.1
 len : (gs.map fun g => g.2.length).sum = ts.length
theorem BZ {gs : Pic} {ts : List Tri} {t : Tri} (o : GOk gs ts) (ht : t.2.1 <= t.2.2) (hb : ∀ s ∈ ts, s.1 <= t.1) : GOk (jC gs t) (ts ++ [t]) := by
 have tm : ∀ x y, kG (ts ++ [t]) x y ↔ kG ts x y \/ (t.1 = y /\ t.2.1 <= x /\ x <= t.2.2) := fun x y => by
  rw [wq, AJ]
  constructor
  ·rintro (h | h | ⟨_, h, _⟩)
   ·exact .inl h
   ·exact .inr h
   ·cases h
  ·rintro (h | h)
   ·exact .inl h
   ·exact .inr (.inl h)
 have okt : Ok [t.2] := fun p hp => by rw [List.mem_singleton.mp hp]; exact ht
 rcases List.eq_nil_or_concat gs with rfl | ⟨gs0, g, rfl⟩
 ·rw [AZ]
  have e0 : ts = [] := List.length_eq_zero_iff.mp (by have := o.len; simpa using this.symm)
  subst e0
  refine ⟨fun g hg => ?_, List.pairwise_singleton _ _, fun x y => ?_, fun g hg => ⟨t, by simp, by rw [List.mem_singleton.mp hg]⟩, by simp⟩
  ·rw [List.mem_singleton.mp hg]; exact ⟨by simp, okt⟩
  ·rw [tm, bF, mem_cons]
   constructor
   ·rintro (⟨h1, h2 | h2⟩ | h)
    ·exact .inr ⟨h1, h2⟩
    ·exact (eA _ h2).elim
    ·exact (il _ _ h).elim
   ·rintro (⟨_, h, _⟩ | h)
    ·cases h
    ·exact .inl ⟨h.1, .inl h.2⟩
 ·rw [List.concat_eq_append] at *
  have up := List.pairwise_append.mp o.up
  rw [lW]
  have glast : g.1 <= t.1 := by
   obtain ⟨s, hs, e⟩ := o.le g (by simp)
   have := hb s hs
   lia
  by_cases h : g.1 = t.1
  ·rw [if_pos h]
   refine ⟨fun q hq => ?_, ?_, fun x y => ?_, fun q hq => ?_, ?_⟩
   ·rcases List.mem_append.mp hq with hq | hq
    ·exact o.ne q (List.mem_append_left _ hq)
    ·rw [List.mem_singleton.mp hq]
     refine ⟨by simp, fun p hp => ?_⟩
     rcases List.mem_append.mp hp with hp | hp
     ·exact (o.ne g (by simp)).2 p hp
     ·exact okt p hp
   ·refine List.pairwise_append.mpr ⟨up.1, List.pairwise_singleton _ _, fun a ha b hb => ?_⟩
    rw [List.mem_singleton.mp hb]
    exact up.2.2 a ha g (by simp)
   ·rw [tm, <- o.mem, jS, jS, bF, bF]
    dsimp only
    rw [mem_append, mem_cons]
    have n0 := il x y
    have n1 := eA x
    constructor
    ·rintro (k | ⟨k1, k2 | k2 | k2⟩ | k)
     ·exact .inl (.inl k)
     ·exact .inl (.inr (.inl ⟨k1, k2⟩))
     ·exact .inr ⟨by lia, k2⟩
     ·exact absurd k2 n1
     ·exact absurd k n0
    ·rintro ((k | ⟨k1, k2⟩ | k) | ⟨k1, k2⟩)
     ·exact .inl k
     ·exact .inr (.inl ⟨k1, .inl k2⟩)
     ·exact absurd k n0
     ·exact .inr (.inl ⟨by lia, .inr (.inl k2)⟩)
   ·rcases List.mem_append.mp hq with hq | hq
    ·obtain ⟨s, hs, e⟩ := o.le q (List.mem_append_left _ hq)
     exact ⟨s, List.mem_append_left _ hs, e⟩
    ·rw [List.mem_singleton.mp hq]
     exact ⟨t, by simp, h⟩
   ·have := o.len
    simp only [List.map_append, List.sum_append, List.map_cons, List.map_nil, List.sum_cons, List.sum_nil, List.length_append, List.length_cons, List.length_nil] at this ⊢
    lia
  ·rw [if_neg h]
   refine ⟨fun q hq => ?_, ?_, fun x y => ?_, fun q hq => ?_, ?_⟩
   ·rcases List.mem_append.mp hq with hq | hq
    ·exact o.ne q hq
    ·rw [List.mem_singleton.mp hq]; exact ⟨by simp, okt⟩
   ·refine List.pairwise_append.mpr ⟨o.up, List.pairwise_singleton _ _, fun a ha b hb' => ?_⟩
    rw [List.mem_singleton.mp hb']
    rcases List.mem_append.mp ha with ha | ha
    ·have := up.2.2 a ha g (by simp)
     dsimp only
     lia
    ·rw [List.mem_singleton.mp ha]; dsimp only; lia
   ·rw [tm, <- o.mem, jS, bF]
    dsimp only
    rw [mem_cons]
    have n0 := il x y
    have n1 := eA x
    constructor
    ·rintro (k | ⟨k1, k2 | k2⟩ | k)
     ·exact .inl k
     ·exact .inr ⟨k1, k2⟩
     ·exact absurd k2 n1
     ·exact absurd k n0
    ·rintro (k | ⟨k1, k2⟩)
     ·exact .inl k
     ·exact .inr (.inl ⟨k1, .inl k2⟩)
   ·rcases List.mem_append.mp hq with hq | hq
    ·obtain ⟨s, hs, e⟩ := o.le q hq
     exact ⟨s, List.mem_append_left _ hs, e⟩
    ·rw [List.mem_singleton.mp hq]
     exact ⟨t, by simp, rfl⟩
   ·have := o.len
    simp only [List.map_append, List.sum_append, List.map_cons, List.map_nil, List.sum_cons, List.sum_nil, List.length_append, List.length_cons, List.length_nil] at this ⊢
    lia
theorem xr : ∀ (post pre : List Tri), (∀ t ∈ pre ++ post, t.2.1 <= t.2.2) -> (pre ++ post).Pairwise (fun p q => p.1 <= q.1) -> GOk (eB pre) pre -> GOk (eB (pre ++ post)) (pre ++ post)
 | [], pre, _, _, o => by rw [List.append_nil]; exact o
 | t :: post, pre, h1, h2, o => by
  have e : pre ++ t :: post = (pre ++ [t]) ++ post := by simp
  rw [e] at h1 h2 ⊢
  refine xr post (pre ++ [t]) h1 h2 ?_
  rw [rC]
  have h3 := List.pairwise_append.mp h2
  have h4 := List.pairwise_append.mp h3.1
  exact BZ o (h1 t (by simp)) fun s hs => h4.2.2 s hs t (by simp)
theorem tW {ts : List Tri} (h1 : ∀ t ∈ ts, t.2.1 <= t.2.2) (h2 : ts.Pairwise fun p q => p.1 <= q.1) : GOk (eB ts) ts :=
 xr ts [] h1 h2 ⟨fun _ h => (by cases h), .nil, fun x y => ⟨fun h => (il _ _ h).elim, fun ⟨_, h, _⟩ => by cases h⟩, fun _ h => (by cases h), rfl⟩
def fM (ts : List Tri) : Pic := (eB (fA (ts.filter dG))).map fun g => (g.1, ua g.2)
theorem n9 (ts : List Tri) : GOk (eB (fA (ts.filter dG))) (fA (ts.filter dG)) := tW (fun t ht => by
 have := (gt _).mem_iff.mp ht
 simpa [dG] using (List.mem_filter.mp this).2) (vX _)
theorem Bz {ps : R} (h : ps ≠ []) (o : Ok ps) : ua ps ≠ [] := fun e => by
 cases ps with
 | nil => exact h rfl
 | cons p ps =>
  have := ((gY (p :: ps)).2 p.1).mpr ((mem_cons ..).mpr (.inl ⟨Int.le_refl _, o p List.mem_cons_self⟩))
  rw [e] at this
  exact eA _ this
theorem wA (ts : List Tri) : cV (fM ts) /\ ∀ x y, mB (fM ts) x y ↔ kG ts x y := by
 have o := n9 ts
 refine ⟨⟨fun q hq => ?_, ?_⟩, fun x y => ?_⟩
 ·obtain ⟨g, hg, rfl⟩ := List.mem_map.mp hq
  obtain ⟨h1, h2⟩ := o.ne g hg
  exact ⟨(gY g.2).1, Bz h1 h2⟩
 ·unfold fM
  rw [List.pairwise_map]
  exact o.up
 ·rw [<- wZ ts, <- AW (gt _), <- o.mem]
  constructor
  ·rintro ⟨q, hq, e, hm⟩
   obtain ⟨g, hg, rfl⟩ := List.mem_map.mp hq
   exact ⟨g, hg, e, ((gY g.2).2 x).mp hm⟩
  ·rintro ⟨g, hg, e, hm⟩
   exact ⟨_, List.mem_map.mpr ⟨g, hg, rfl⟩, e, ((gY g.2).2 x).mpr hm⟩
def a8 (p : Pic) : List Tri := p.flatMap fun q => q.2.map fun s => (q.1, s)
theorem gu (q : Int × R) (p : Pic) : a8 (q :: p) = (q.2.map fun s => (q.1, s)) ++ a8 p := rfl
theorem pL (p : Pic) (x y : Int) : kG (a8 p) x y ↔ mB p x y := by
 constructor
 ·rintro ⟨t, ht, e, h⟩
  obtain ⟨q, hq, hs⟩ := List.mem_flatMap.mp ht
  obtain ⟨s, hs2, rfl⟩ := List.mem_map.mp hs
  exact ⟨q, hq, e, s, hs2, h⟩
 ·rintro ⟨q, hq, e, s, hs, h⟩
  exact ⟨(q.1, s), List.mem_flatMap.mpr ⟨q, hq, List.mem_map.mpr ⟨s, hs, rfl⟩⟩, e, h⟩
theorem ph {ts : List Tri} {p : Pic} (c : cV p) (h : ∀ x y, kG ts x y ↔ mB p x y) : fM ts = p :=
 zj (wA ts).1 c fun x y => ((wA ts).2 x y).trans (h x y)
theorem AL {p : Pic} (c : cV p) : fM (a8 p) = p := ph c (pL p)
mutual
theorem wf : ∀ (n : Nat) (d : D), okD n d = true -> eqD d d = true
 | _, .non, _ => by simp [eqD]
 | _, .bl _, _ => by simp [eqD]
 | _, .int _, _ => by simp [eqD]
 | _, .str _, _ => by simp [eqD]
 | 0, .lst _, h => by simp [okD] at h
 | n + 1, .lst l, h => by rw [eqD]; exact eqDs_refl n l (by simpa [okD] using h)
 | 0, .tup _, h => by simp [okD] at h
 | n + 1, .tup l, h => by rw [eqD]; exact eqDs_refl n l (by simpa [okD] using h)
 | n, .ty _, h => by cases n <;> simp [okD] at h
 | n, .scr _, h => by cases n <;> simp [okD] at h
 | n, .ins _ _ _, h => by cases n <;> simp [okD] at h
 | n, .dic _, h => by cases n <;> simp [okD] at h
theorem eqDs_refl : ∀ (n : Nat) (l : List D), okDs n l = true -> eqDs l l = true
 | _, [], _ => by simp [eqDs]
 | n, d :: l, h => by
  rw [okDs, Bool.and_eq_true] at h
  rw [eqDs, wf n d h.1, eqDs_refl n l h.2]
  rfl
end
theorem j7 {α : Type} {n : Nat} {f : α -> D} : ∀ (l : List α), (∀ a ∈ l, okD n (f a) = true) -> okDs n (l.map f) = true
 | [], _ => by simp [okDs]
 | a :: l, h => by rw [List.map_cons, okDs, h a List.mem_cons_self, j7 l fun b hb => h b (List.mem_cons_of_mem _ hb)]; rfl
theorem jZ {d : D} (neg : Bool) (h : okD 50 d = true) : dEq neg d d = some (.bl (!neg)) := by
 unfold dEq
 rw [if_pos ⟨h, h⟩, wf 50 d h]
 cases neg <;> rfl
def grO (g : Int × R) : O := .tup [.sh (.int g.1), .lst (g.2.map (O.sh ∘ prD))]
def grD (g : Int × R) : D := .tup [.int g.1, AH g.2]
theorem HS (g : Int × R) : (grO g).d = grD g := by simp [grO, grD]
theorem Fj : ∀ gs : Pic, O.ds (gs.map grO) = gs.map grD
 | [] => by simp
 | g :: gs => by rw [List.map_cons, Ba, HS, Fj gs]; rfl
theorem Ay (gs : Pic) (t : Tri) : (jC gs t).length <= gs.length + 1 := by
 rcases List.eq_nil_or_concat gs with rfl | ⟨gs0, g, rfl⟩
 ·simp [jC]
 ·rw [List.concat_eq_append, lW]
  split <;> simp
theorem tQ : ∀ ts : List Tri, (eB ts).length <= ts.length := by
 intro ts
 have key : ∀ (l : List Tri) (gs : Pic), (l.foldl jC gs).length <= gs.length + l.length := by
  intro l
  induction l with
  | nil => intro gs; simp
  | cons t l ih =>
   intro gs
   have h1 := ih (jC gs t)
   have h2 := Ay gs t
   rw [List.foldl_cons, List.length_cons]
   lia
 have := key ts []
 unfold eB
 simpa using this
theorem vD (s0 : Sl) (gs : Pic) (t : Tri) (h : gs.length <= 30000) (hg : ∀ g ∈ gs, g.2.length <= 30000) : cF [s0, .ow (.lst (gs.map grO)), .sh (.int t.1), .sh (.int t.2.1), .sh (.int t.2.2)] = some (.nx [s0, .ow (.lst ((jC gs t).map grO)), .sh (.int t.1), .sh (.int t.2.1), .sh (.int t.2.2)]) := by
 rcases List.eq_nil_or_concat gs with rfl | ⟨gs0, g, rfl⟩
 ·simp [cF, jC, grO]
 ·rw [List.concat_eq_append] at *
  rw [lW]
  have hl : gs0.length + 1 <= 30000 := by simpa using h
  have hlim : gs0.length + 1 < LIM := uO (by lia)
  have hg2 : g.2.length < LIM := uO (by have := hg g (by simp); lia)
  by_cases hc : g.1 = t.1
  ·simp [cF, hc, hg2, grO]
  ·simp [cF, hc, hlim, grO]
theorem lZ : ∀ {l : List Nat} {n : Nat}, n ∈ l -> n <= l.sum
 | [], _, h => by cases h
 | m :: l, n, h => by
  rw [List.sum_cons]
  rcases List.mem_cons.mp h with rfl | h
  ·lia
  ·have := lZ h; lia
theorem oI (ts : List Tri) (h : ts.length < 30000) : bN [.lst (ts.map ei)] = some (aY (fM ts)) := by
 have hf := List.length_filter_le dG ts
 have hs := (gt (ts.filter dG)).length_eq
 have og := n9 ts
 have key : ∃ ρ', fL (bq (aq (aj 2) (aq (aj 3) (aq (aj 4) bu)))) cF ((fA (ts.filter dG)).map ei) [.sh (.lst (ts.map ei)), .ow (.lst []), .un, .un, .un] = some (.nx ρ') /\ ∃ va vb vc, ρ' = [.sh (.lst (ts.map ei)), .ow (.lst ((eB (fA (ts.filter dG))).map grO)), va, vb, vc] := by
  refine fT ei (fun pre ρ => ∃ va vb vc, ρ = [.sh (.lst (ts.map ei)), .ow (.lst ((eB pre).map grO)), va, vb, vc]) _ _ ⟨_, _, _, rfl⟩ ?_
  rintro pre t post _ e ⟨va, vb, vc, rfl⟩
  have hp : pre.length <= 30000 := by
   have := congrArg List.length e
   rw [List.length_append] at this
   lia
  have gl := tQ pre
  have gp : GOk (eB pre) pre := by
   refine tW (fun s hs => ?_) ?_
   ·have := (gt _).mem_iff.mp (show s ∈ fA (ts.filter dG) by rw [e]; simp [hs])
    simpa [dG] using (List.mem_filter.mp this).2
   ·have := vX (ts.filter dG)
    rw [e] at this
    exact (List.pairwise_append.mp this).1
  have gg : ∀ g ∈ eB pre, g.2.length <= 30000 := fun g hg => by
   have h1 := gp.len
   have h2 : g.2.length <= ((eB pre).map fun g => g.2.length).sum := lZ (List.mem_map.mpr ⟨g, hg, rfl⟩)
   lia
  refine ⟨_, _, rfl, .inl (vD _ (eB pre) t (by lia) gg), .sh (.int t.1), .sh (.int t.2.1), .sh (.int t.2.2), by rw [rC]⟩
 obtain ⟨ρ', k1, va, vb, vc, rfl⟩ := key
 have hc := yu ts
 have hb := uH (ts.filter dG) (by lia)
 have hl : ts.length <= LIM := bn (by lia)
 have gl := tQ (fA (ts.filter dG))
 have hl2 : (eB (fA (ts.filter dG))).length <= LIM := bn (by lia)
 have c2 : cE (bq (aq (aj 0) (aq (aj 1) bu))) d6 (aR (ag (aw 0) (ag (bB fH (ag (aw 1) au)) au))) [.un, .un] ((eB (fA (ts.filter dG))).map grD) = some ((fM ts).map pyD) := by
  rw [dw grD (fun g => pyD (g.1, ua g.2))]
  ·unfold fM
   rw [List.map_map]
   rfl
  ·intro g hg
   have h1 : g.2.length < 30000 := by
    have h2 : g.2.length <= ((eB (fA (ts.filter dG))).map fun g => g.2.length).sum := lZ (List.mem_map.mpr ⟨g, hg, rfl⟩)
    have := og.len
    lia
   have h3 := xn g.2 h1
   simp [iz, grD, h3]
 simp [bN, hG, fnO, jg, hl, hc, hb, k1, frz, Fj, hl2, c2]
theorem mF (p q : Pic) : a8 (p ++ q) = a8 p ++ a8 q := by unfold a8; rw [List.flatMap_append]
theorem lm (p : Pic) (h : (a8 p).length <= 100000) : dN [aY p] = some (.lst ((a8 p).map (O.sh ∘ ei))) := by
 obtain ⟨ρ', k1, v2, v3, rfl⟩ := fT (g := bq (aq (aj 2) (aq (aj 3) bu))) (m := e8) pyD (fun pre ρ => ∃ v2 v3, ρ = [.sh (aY p), .ow (.lst ((a8 pre).map (O.sh ∘ ei))), v2, v3]) p [.sh (aY p), .ow (.lst []), .un, .un] ⟨_, _, rfl⟩ (by
  rintro pre q post _ e ⟨v2, v3, rfl⟩
  have hlen : (a8 pre).length + q.2.length <= 100000 := by
   rw [e, mF, gu, List.length_append, List.length_append, List.length_map] at h
   lia
  have hl : (a8 pre).length + q.2.length <= LIM := bn hlen
  have hl2 : q.2.length <= LIM := bn (by lia)
  have hc : cE (bq (aq (aj 0) (aq (aj 1) bu))) d6 (aR (ag (aw 2) (ag (aw 0) (ag (aw 1) au)))) [.un, .un, .sh (.int q.1)] (q.2.map prD) = some (q.2.map fun s => ei (q.1, s)) := dw prD _ q.2 fun s _ => by simp [iz]
  refine ⟨_, [.sh (aY p), .ow (.lst ((a8 (pre ++ [q])).map (O.sh ∘ ei))), .sh (.int q.1), .sh (zX q.2)], rfl, .inl ?_, _, _, rfl⟩
  have es : a8 (pre ++ [q]) = a8 pre ++ q.2.map fun s => (q.1, s) := by rw [mF, gu]; simp [a8]
  rw [es]
  simp [e8, hl, hl2, hc])
 simp [dN, fnO, gw, k1]
theorem mK (p : Pic) (h : (a8 p).length <= 100000) : bU [aY p] = some (.lst ((a8 p).map ei)) := by
 unfold bU
 rw [lm p h]
 simp
theorem qP (r : R) (h : r.length <= 30000) : cN [zX r] = some (.int (gD r)) := by
 have hl : r.length <= LIM := bn (by lia)
 have hc : cE (bq (aq (aj 0) (aq (aj 1) bu))) d6 (xOp bz (xOp q9 (am 1) (am 0)) (xC (.int 1))) [.un, .un] (r.map prD) = some (r.map fun p => .int (p.2 - p.1 + 1)) := dw prD _ r fun p _ => by simp [iz]
 have hi : wL [.lst (r.map fun p => .int (p.2 - p.1 + 1))] = some (.int (gD r)) := by
  have e : (r.map fun p => D.int (p.2 - p.1 + 1)) = (r.map fun p => p.2 - p.1 + 1).map D.int := by rw [List.map_map]; rfl
  rw [e]
  show (bD _).map _ = _
  rw [fY]
  rfl
 simp [cN, iE, fnO, jP, hl, hc, hi]
def cnt (p : Pic) : Int := (p.map fun q => gD q.2).sum
def sH (ts : List Tri) : Int := (ts.map fun t => t.2.2 - t.2.1 + 1).sum
theorem ig (p : Pic) (h : p.length <= 30000) (hr : ∀ q ∈ p, q.2.length <= 30000) : bd [aY p] = some (.int (cnt p)) := by
 have hl : p.length <= LIM := bn (by lia)
 have hc : cE (bq (aq (aj 0) (aq (aj 1) bu))) d6 (bB cN (ag (aw 1) au)) [.un, .un] (p.map pyD) = some (p.map fun q => .int (gD q.2)) := dw pyD _ p fun q hq => by
  have := qP q.2 (hr q hq)
  simp [iz, this]
 have hi : wL [.lst (p.map fun q => .int (gD q.2))] = some (.int (cnt p)) := by
  have e : (p.map fun q => D.int (gD q.2)) = (p.map fun q => gD q.2).map D.int := by rw [List.map_map]; rfl
  rw [e]
  show (bD _).map _ = _
  rw [fY]
  rfl
 simp [bd, f7, fnO, hW, hl, hc, hi]
theorem xy (a b : List Tri) : sH (a ++ b) = sH a + sH b := by unfold sH; rw [List.map_append, List.sum_append]
theorem AM (t : Tri) (b : List Tri) : sH (t :: b) = t.2.2 - t.2.1 + 1 + sH b := by unfold sH; rw [List.map_cons, List.sum_cons]
theorem uU : ∀ p : Pic, cnt p = sH (a8 p)
 | [] => rfl
 | q :: p => by
  rw [gu, xy, <- uU p]
  unfold cnt
  rw [List.map_cons, List.sum_cons]
  congr 1
  unfold sH gD
  rw [List.map_map]
  rfl
def zs (lo : Int) : Nat -> List Int
 | 0 => []
 | n + 1 => lo :: zs (lo + 1) n
theorem mq : ∀ (n : Nat) (lo : Int), gy lo n = (zs lo n).map D.int
 | 0, _ => rfl
 | n + 1, lo => by rw [gy, zs, List.map_cons, mq n]
theorem dg : ∀ (n : Nat) (lo : Int), (zs lo n).length = n
 | 0, _ => rfl
 | n + 1, lo => by rw [zs, List.length_cons, dg n]
theorem eZ : ∀ (n : Nat) (lo x : Int), x ∈ zs lo n ↔ lo <= x /\ x < lo + n
 | 0, lo, x => by simp [zs]
 | n + 1, lo, x => by
  rw [zs, List.mem_cons, eZ n]
  lia
def dJ (t : Tri) : R := (zs t.2.1 (t.2.2 + 1 - t.2.1).toNat).map fun x => (x, t.1)
def bj (ts : List Tri) : R := ts.flatMap dJ
theorem kL (a b : List Tri) : bj (a ++ b) = bj a ++ bj b := by unfold bj; rw [List.flatMap_append]
theorem gZ (t : Tri) (b : List Tri) : bj (t :: b) = dJ t ++ bj b := rfl
theorem pb (t : Tri) : (dJ t).length = (t.2.2 + 1 - t.2.1).toNat := by unfold dJ; rw [List.length_map, dg]
theorem lV : ∀ ts : List Tri, (∀ t ∈ ts, t.2.1 <= t.2.2) -> ((bj ts).length : Int) = sH ts
 | [], _ => rfl
 | t :: ts, h => by
  rw [gZ, List.length_append, AM, pb]
  have h1 := lV ts fun s hs => h s (List.mem_cons_of_mem _ hs)
  have h2 := h t List.mem_cons_self
  lia
theorem pO (ts : List Tri) (x y : Int) : (x, y) ∈ bj ts ↔ kG ts x y := by
 unfold bj
 rw [List.mem_flatMap]
 constructor
 ·rintro ⟨t, ht, h⟩
  obtain ⟨z, hz, e⟩ := List.mem_map.mp h
  cases e
  have := (eZ _ _ _).mp hz
  exact ⟨t, ht, rfl, by lia, by lia⟩
 ·rintro ⟨t, ht, h1, h2, h3⟩
  exact ⟨t, ht, List.mem_map.mpr ⟨x, (eZ _ _ _).mpr ⟨h2, by lia⟩, by rw [h1]⟩⟩
theorem wJ {p : Pic} (c : cV p) : ∀ t ∈ a8 p, t.2.1 <= t.2.2 := fun t ht => by
 obtain ⟨q, hq, h⟩ := List.mem_flatMap.mp ht
 obtain ⟨s, hs, rfl⟩ := List.mem_map.mp h
 exact (c.1 q hq).1.1 s hs
theorem qD (p : Pic) (c : cV p) (hc : cnt p <= 1000) (h : (a8 p).length <= 30000) (h1 : p.length <= 30000) (hr : ∀ q ∈ p, q.2.length <= 30000) : gN [aY p] = some (.lst ((bj (a8 p)).map (O.sh ∘ prD))) := by
 have a1 := ig p h1 hr
 have a2 := mK p (by lia)
 have hg := wJ c
 have tl : ((bj (a8 p)).length : Int) <= 1000 := by rw [lV _ hg, <- uU]; exact hc
 have n1 : ¬ (1000 < cnt p) := by lia
 obtain ⟨ρ', k1, v2, v3, v4, rfl⟩ := fT (g := bq (aq (aj 2) (aq (aj 3) (aq (aj 4) bu)))) (m := jd) ei (fun pre ρ => ∃ v2 v3 v4, ρ = [.sh (aY p), .ow (.lst ((bj pre).map (O.sh ∘ prD))), v2, v3, v4]) (a8 p) [.sh (aY p), .ow (.lst []), .un, .un, .un] ⟨_, _, _, rfl⟩ (by
  rintro pre t post _ e ⟨v2, v3, v4, rfl⟩
  have hlen : (bj pre).length + (dJ t).length <= 1000 := by
   rw [e, kL, gZ, List.length_append, List.length_append] at tl
   lia
  have hl : (bj pre).length + (dJ t).length <= LIM := bn (by lia)
  have hl2 : (dJ t).length <= LIM := bn (by lia)
  have hr : BO [.int t.2.1, .int (t.2.2 + 1)] = some ((zs t.2.1 (t.2.2 + 1 - t.2.1).toNat).map D.int) := by rw [BO, mq]
  have hz : (zs t.2.1 (t.2.2 + 1 - t.2.1).toNat).length <= LIM := by rw [dg, <- pb]; exact hl2
  have hcm : cE (aj 0) d6 (aR (ag (aw 0) (ag (aw 1) au))) [.un, .sh (.int t.1)] ((zs t.2.1 (t.2.2 + 1 - t.2.1).toNat).map D.int) = some ((dJ t).map prD) := by
   rw [dw D.int (fun x => prD (x, t.1))]
   ·unfold dJ
    rw [List.map_map]
    rfl
   ·intro x _
    simp [iz]
  refine ⟨_, [.sh (aY p), .ow (.lst ((bj (pre ++ [t])).map (O.sh ∘ prD))), .sh (.int t.1), .sh (.int t.2.1), .sh (.int t.2.2)], rfl, .inl ?_, _, _, _, rfl⟩
  have es : bj (pre ++ [t]) = bj pre ++ dJ t := by rw [kL, gZ]; simp [bj]
  rw [es]
  simp [jd, hl, hl2, hr, hz, hcm])
 simp [gN, fnO, lv, a1, a2, n1, k1]
theorem ss (p : Pic) (c : cV p) (hc : cnt p <= 1000) (h : (a8 p).length <= 30000) (h1 : p.length <= 30000) (hr : ∀ q ∈ p, q.2.length <= 30000) : bi [aY p] = some (.lst ((bj (a8 p)).map prD)) := by
 unfold bi
 rw [qD p c hc h h1 hr]
 simp
theorem xS (p : Pic) (hc : 1000 < cnt p) (h1 : p.length <= 30000) (hr : ∀ q ∈ p, q.2.length <= 30000) : g7 [aY p] = some (("TooGreat" : Str)) := by
 have a1 := ig p h1 hr
 simp [g7, fnX, lw, a1, hc]
def Sep (s t : Tri) : Prop := s.1 < t.1 \/ (s.1 = t.1 /\ s.2.2 + 2 <= t.2.1)
theorem C1 : ∀ {p : Pic}, cV p -> (a8 p).Pairwise Sep
 | [], _ => .nil
 | q :: p, c => by
  obtain ⟨⟨h1, _⟩, h2, h3⟩ := pcanon_cons.mp c
  rw [gu]
  refine List.pairwise_append.mpr ⟨?_, C1 h3, fun s hs t ht => ?_⟩
  ·rw [List.pairwise_map]
   exact h1.2.imp fun h => .inr ⟨rfl, h⟩
  ·obtain ⟨a, _, rfl⟩ := List.mem_map.mp hs
   obtain ⟨g, hg, hb⟩ := List.mem_flatMap.mp ht
   obtain ⟨b, _, rfl⟩ := List.mem_map.mp hb
   exact .inl (h2 g hg)
theorem xj : ∀ (n : Nat) (lo : Int), (zs lo n).Nodup
 | 0, _ => .nil
 | n + 1, lo => by
  rw [zs]
  refine List.nodup_cons.mpr ⟨fun z => ?_, xj n _⟩
  have := (eZ n (lo + 1) lo).mp z
  lia
theorem u7 (t : Tri) : (dJ t).Nodup := by
 unfold dJ
 exact List.Pairwise.map _ (fun a b h e => h (by injection e)) (xj _ _)
theorem re (t : Tri) (c : Int × Int) : c ∈ dJ t ↔ c.2 = t.1 /\ t.2.1 <= c.1 /\ c.1 <= t.2.2 := by
 unfold dJ
 rw [List.mem_map]
 constructor
 ·rintro ⟨x, hx, rfl⟩
  have := (eZ _ _ _).mp hx
  refine ⟨rfl, ?_⟩
  dsimp only
  lia
 ·rintro ⟨h1, h2, h3⟩
  exact ⟨c.1, (eZ _ _ _).mpr (by lia), by rw [<- h1]⟩
theorem nT : ∀ ts : List Tri, ts.Pairwise Sep -> (bj ts).Nodup
 | [], _ => .nil
 | t :: ts, h => by
  obtain ⟨h1, h2⟩ := List.pairwise_cons.mp h
  rw [gZ]
  refine List.nodup_append.mpr ⟨u7 t, nT ts h2, fun a ha b hb e => ?_⟩
  subst e
  have a1 := (re t a).mp ha
  obtain ⟨s, hs, hb⟩ := List.mem_flatMap.mp hb
  have a2 := (re s a).mp hb
  rcases h1 s hs with z | z <;> lia
theorem vg {p : Pic} (c : cV p) : (bj (a8 p)).Nodup := nT _ (C1 c)
theorem wc {p : Pic} (c : cV p) : fM ((bj (a8 p)).map fun c => (c.2, c.1, c.1)) = p := ph c fun x y => by
 rw [<- pL p x y, <- pO (a8 p)]
 constructor
 ·rintro ⟨t, ht, e1, e2, e3⟩
  obtain ⟨d, hd, rfl⟩ := List.mem_map.mp ht
  dsimp only at e1 e2 e3
  have : d = (x, y) := by
   obtain ⟨a, b⟩ := d
   dsimp only at e1 e2 e3
   rw [e1, show a = x by lia]
  rw [<- this]
  exact hd
 ·intro h
  exact ⟨(y, x, x), List.mem_map.mpr ⟨(x, y), h, rfl⟩, rfl, Int.le_refl _, Int.le_refl _⟩
@[simp] theorem Jc (l : List D) : AY (.mtp l) = some l := rfl
@[simp] theorem Js (y : XGs) (l : List D) (ρ : M.Env) : bq y (.mtp l) ρ = y l ρ := rfl
abbrev Ek (t : Tri) : D := .mtp [.int t.1, .int t.2.1, .int t.2.2]
def roundL : List Tri := [(0, -1, 1), (-1, -1, 2), (-1, 0, 4), (-1, 1, 8), (0, 1, 16), (1, 1, 32), (1, 0, 64), (1, -1, 128)]
def Bg (b : Int -> Int -> Bool) (l : List Tri) : Int := (l.map fun t => if b t.1 t.2.1 then t.2.2 else 0).sum
theorem zp (b : Int -> Int -> Bool) : ∀ l : List Tri, ((l.filter fun t => b t.1 t.2.1).map fun t => t.2.2).sum = Bg b l
 | [] => rfl
 | t :: l => by
  have ih := zp b l
  unfold Bg at ih ⊢
  rw [List.filter_cons]
  cases h : b t.1 t.2.1 <;> simp [h, ih]
theorem Bq (b : Int -> Int -> Bool) : ∀ l : List Tri, l.filterMap (fun t => if b t.1 t.2.1 then some (D.int t.2.2) else none) = ((l.filter fun t => b t.1 t.2.1).map fun t => t.2.2).map D.int
 | [] => rfl
 | t :: l => by
  rw [List.filterMap_cons, List.filter_cons, Bq b l]
  cases h : b t.1 t.2.1 <;> simp
def strL : List Nat := [1, 4, 16, 64]
def zb (n w : Nat) : Bool := (n &&& w == 0) && !((n + 256 * n) &&& (2 * w + 4 * w) == 0)
def qQ (n : Nat) : Nat := (strL.filter (zb n)).length
def rndL : List Nat := [1, 2, 4, 8, 16, 32, 64, 128]
def nF (n : Nat) : Nat := (rndL.filter fun w => !(n &&& w == 0)).length
theorem BU (i j : Nat) : wD (.int (i : Int)) (.int (j : Int)) = some (.int ((i &&& j : Nat) : Int)) := by
 show ifC _ _ _ = _
 rw [jk (by lia)]
 simp
theorem tE (b : Nat -> Bool) (f : Nat -> D) : ∀ l : List Nat, l.filterMap (fun w => if b w then some (f w) else none) = (l.filter b).map f
 | [] => rfl
 | w :: l => by
  rw [List.filterMap_cons, List.filter_cons, tE b f l]
  cases h : b w <;> simp
theorem yH (n : Nat) : iU [.int (n : Int)] = some (.int (qQ n : Nat)) := by
 have hm : pu (.int 256) (.int (n : Int)) = some (.int (256 * (n : Int))) := yS (by lia)
 have hc : cE (aj 0) (BP (xB (xOp (dEq false) (xOp wD (am 1) (am 0)) (xC (.int 0)))) (xB (xOp (dEq true) (xOp wD (am 2) (xOp bz (xOp pu (xC (.int 2)) (am 0)) (xOp pu (xC (.int 4)) (am 0)))) (xC (.int 0))))) (aw 0) [.un, .sh (.int (n : Int)), .sh (.int ((n : Int) + 256 * n))] (strL.map fun w : Nat => D.int (w : Int)) = some ((strL.filter (zb n)).map fun w : Nat => D.int (w : Int)) := by
  rw [<- tE]
  refine fE (fun w : Nat => D.int (w : Int)) _ strL fun w hw => ?_
  have h1 := BU n w
  have h2 := BU (n + 256 * n) (2 * w + 4 * w)
  have e1 : (((n + 256 * n : Nat)) : Int) = (n : Int) + 256 * n := by lia
  have e2 : (((2 * w + 4 * w : Nat)) : Int) = 2 * (w : Int) + 4 * w := by lia
  rw [e1, e2] at h2
  have h3 : pu (.int 2) (.int (w : Int)) = some (.int (2 * (w : Int))) := yS (by lia)
  have h4 : pu (.int 4) (.int (w : Int)) = some (.int (4 * (w : Int))) := yS (by lia)
  unfold zb
  by_cases c1 : n &&& w = 0 <;> by_cases c2 : (n + 256 * n) &&& (2 * w + 4 * w) = 0 <;> simp [iz, h1, h2, h3, h4, c1, c2] <;> lia
 have hl : 4 <= LIM := bn (by lia)
 have hs : [D.int 1, D.int 4, D.int 16, D.int 64] = strL.map fun w : Nat => D.int (w : Int) := rfl
 generalize hz : (strL.filter (zb n)).map (fun w : Nat => D.int (w : Int)) = zs at hc
 have hzl : (zs.length : Int) = (qQ n : Nat) := by rw [<- hz, List.length_map]; rfl
 simp [strL] at hc
 simp [iU, qJ, fnO, vp, hm, hc, hl, hzl]
theorem l7 (n : Nat) : bP [.int (n : Int)] = some (.int (nF n : Nat)) := by
 have hc : cE (bq (aq (aj 0) (aq (aj 1) (aq (aj 2) bu)))) (xB (xOp (dEq true) (xOp wD (am 3) (am 2)) (xC (.int 0)))) (aw 2) [.un, .un, .un, .sh (.int (n : Int))] (roundL.map Ek) = some ((roundL.filter fun t => !(n &&& t.2.2.toNat == 0)).map fun t => D.int t.2.2) := by
  have : (roundL.filter fun t => !(n &&& t.2.2.toNat == 0)).map (fun t => D.int t.2.2) = roundL.filterMap fun t => if n &&& t.2.2.toNat = 0 then none else some (D.int t.2.2) := by
   generalize roundL = l
   induction l with
   | nil => rfl
   | cons t l ih =>
    rw [List.filterMap_cons, List.filter_cons, <- ih]
    by_cases h : n &&& t.2.2.toNat = 0 <;> simp [h]
  rw [this]
  refine fE Ek _ roundL fun t ht => ?_
  have hp : 0 <= t.2.2 := by
   simp only [roundL, List.mem_cons, List.not_mem_nil, or_false] at ht
   rcases ht with rfl | rfl | rfl | rfl | rfl | rfl | rfl | rfl <;> decide
  have h1 := BU n t.2.2.toNat
  rw [Int.toNat_of_nonneg hp] at h1
  by_cases c : n &&& t.2.2.toNat = 0 <;> simp [iz, h1, c] <;> lia
 have hl : 8 <= LIM := bn (by lia)
 have hz : ((roundL.filter fun t => !(n &&& t.2.2.toNat == 0)).map fun t => D.int t.2.2).length = nF n := by
  rw [List.length_map]
  have : rndL = roundL.map fun t => t.2.2.toNat := rfl
  unfold nF
  rw [this, List.filter_map, List.length_map]
  rfl
 generalize ((roundL.filter fun t => !(n &&& t.2.2.toNat == 0)).map fun t => D.int t.2.2) = zs at hc hz
 have hz2 : (zs.length : Int) = (nF n : Nat) := by rw [hz]
 simp [roundL] at hc
 simp [bP, fJ, fnO, gC, hc, hl, hz2]
def goB (n : Nat) (ends : Bool) : Bool := (qQ n == 1) && (!ends || decide (2 <= nF n))
abbrev kyC (c : Int × Int) : List Int := [c.1, c.2]
theorem zc {c d : Int × Int} (h : kyC c = kyC d) : c = d := by
 obtain ⟨a, b⟩ := c
 obtain ⟨e, f⟩ := d
 simp at h
 obtain ⟨rfl, rfl⟩ := h
 rfl
theorem uy (ks : R) (c : Int × Int) : (ks.map kyC).contains (kyC c) = decide (c ∈ ks) := by
 by_cases h : c ∈ ks
 ·rw [decide_eq_true h, List.contains_iff_mem]
  exact List.mem_map.mpr ⟨c, h, rfl⟩
 ·rw [decide_eq_false h]
  cases q : (ks.map kyC).contains (kyC c) with
  | false => rfl
  | true =>
   obtain ⟨u, hu, e⟩ := List.mem_map.mp (List.contains_iff_mem.mp q)
   rw [zc e] at hu
   exact absurd hu h
theorem xY (ks : R) (x y : Int) : (ks.map kyC).contains [x, y] = decide ((x, y) ∈ ks) := uy ks (x, y)
theorem EI (ks : R) (c : Int × Int) : Bk (ks.map kyC) (kyC c) = (ks.filter fun d => decide (d ≠ c)).map kyC := by
 unfold Bk
 induction ks with
 | nil => rfl
 | cons d l ih =>
  by_cases h : d = c
  ·subst h
   rw [List.map_cons, List.filter_cons_of_neg (by simp), List.filter_cons_of_neg (by simp)]
   exact ih
  ·have hk : kyC d ≠ kyC c := fun z => h (zc z)
   rw [List.map_cons, List.filter_cons, List.filter_cons, if_pos (decide_eq_true hk), if_pos (decide_eq_true h), List.map_cons, ih]
def Eb (ks : R) (x y : Int) : Int := Bg (fun dx dy => decide ((x + dx, y + dy) ∈ ks)) roundL
theorem zl (b : Int -> Int -> Bool) : ∀ l : List Tri, (∀ t ∈ l, 0 <= t.2.2) -> 0 <= Bg b l
 | [], _ => Int.le_refl _
 | t :: l, h => by
  have ih := zl b l fun s hs => h s (List.mem_cons_of_mem _ hs)
  have h1 := h t List.mem_cons_self
  unfold Bg at *
  rw [List.map_cons, List.sum_cons]
  split <;> lia
def ye (ks : R) (x y : Int) : Nat := (Eb ks x y).toNat
theorem FX (ks : R) (x y : Int) : ((ye ks x y : Nat) : Int) = Eb ks x y := Int.toNat_of_nonneg (zl _ _ (by decide))
def goF (ks : R) (e : Bool) (c : Int × Int) : Bool := goB (ye ks c.1 c.2) e
theorem Aj (ks : R) (x y : Int) (e : Bool) : jh [.dif (ks.map kyC), .int x, .int y, .bl e] = some (.bl (goF ks e (x, y))) := by
 have hc : cE (bq (aq (aj 0) (aq (aj 1) (aq (aj 2) bu)))) (xB (xW false (aR (ag (xOp bz (am 4) (am 0)) (ag (xOp bz (am 5) (am 1)) au))) 3)) (aw 2) [.un, .un, .un, .sh (.dif (ks.map kyC)), .sh (.int x), .sh (.int y)] (roundL.map Ek) = some (((roundL.filter fun t => decide ((x + t.1, y + t.2.1) ∈ ks)).map fun t => t.2.2).map D.int) := by
  rw [<- Bq (fun dx dy => decide ((x + dx, y + dy) ∈ ks)) roundL]
  refine fE Ek _ roundL fun t _ => ?_
  have a := xY ks (x + t.1) (y + t.2.1)
  have hl : 2 <= LIM := bn (by lia)
  by_cases hb : (x + t.1, y + t.2.1) ∈ ks
  ·rw [decide_eq_true hb] at a
   generalize ks.map kyC = kk at a ⊢
   simp at a
   simp [iz, hl, kW, kyD, bD, a, hb]
  ·rw [decide_eq_false hb] at a
   generalize ks.map kyC = kk at a ⊢
   simp at a
   simp [iz, hl, kW, kyD, bD, a, hb]
 have hi : wL [.lst (((roundL.filter fun t => decide ((x + t.1, y + t.2.1) ∈ ks)).map fun t => t.2.2).map D.int)] = some (.int (ye ks x y : Nat)) := by
  show (bD _).map _ = _
  rw [fY, FX]
  show some (D.int _) = _
  rw [zp (fun dx dy => decide ((x + dx, y + dy) ∈ ks)) roundL]
  rfl
 have hl : 8 <= LIM := bn (by lia)
 generalize ((roundL.filter fun t => decide ((x + t.1, y + t.2.1) ∈ ks)).map fun t => t.2.2).map D.int = zs at hc hi
 simp only [roundL, List.map_cons, List.map_nil] at hc
 have h1 := yH (ye ks x y)
 have h2 := l7 (ye ks x y)
 unfold goF goB
 generalize ye ks x y = n at *
 by_cases c1 : qQ n = 1
 ·by_cases c2 : 2 <= nF n <;> cases e <;> simp [jh, oY, fnO, u9, hc, hi, hl, h1, h2, c1, c2] <;> lia
 ·have c1' : ¬ ((qQ n : Nat) : Int) = 1 := by lia
  cases e <;> simp [jh, oY, fnO, u9, hc, hi, hl, h1, h2, c1, c1']
def cJ (ks : R) (dx dy : Int) : R := ks.filter fun c => !decide ((c.1 + dx, c.2 + dy) ∈ ks)
theorem wQ (b : Int × Int -> Bool) : ∀ l : R, l.filterMap (fun c => if b c then some (prD c) else none) = (l.filter b).map prD
 | [] => rfl
 | c :: l => by
  rw [List.filterMap_cons, List.filter_cons, wQ b l]
  cases b c <;> rfl
theorem oy (ks : R) (dx dy : Int) (h : ks.length <= 100000) : br [.dif (ks.map kyC), .int dx, .int dy] = some (.lst ((cJ ks dx dy).map prD)) := by
 have hc : cE (bq (aq (aj 0) (aq (aj 1) bu))) (xB (xW true (aR (ag (xOp bz (am 0) (am 3)) (ag (xOp bz (am 1) (am 4)) au))) 2)) (aR (ag (aw 0) (ag (aw 1) au))) [.un, .un, .sh (.dif (ks.map kyC)), .sh (.int dx), .sh (.int dy)] (ks.map prD) = some ((cJ ks dx dy).map prD) := by
  unfold cJ
  rw [<- wQ]
  refine fE prD _ ks fun c _ => ?_
  have a := xY ks (c.1 + dx) (c.2 + dy)
  have hl : 2 <= LIM := bn (by lia)
  by_cases hb : (c.1 + dx, c.2 + dy) ∈ ks
  ·rw [decide_eq_true hb] at a
   generalize ks.map kyC = kk at a ⊢
   simp at a
   simp [iz, hl, kW, kyD, bD, a, hb]
  ·rw [decide_eq_false hb] at a
   generalize ks.map kyC = kk at a ⊢
   simp at a
   simp [iz, hl, kW, kyD, bD, a, hb]
 have hl : ks.length <= LIM := bn h
 have e : (ks.map kyC).map (fun k => D.tup (k.map D.int)) = ks.map prD := by rw [List.map_map]; rfl
 simp [br, hZ, fnO, ji, e, hl, hc, O.d]
def bg (e : Bool) (s : R × R) (c : Int × Int) : R × R := if goF s.2 e c then (s.1 ++ [c], s.2.filter fun d => decide (d ≠ c)) else s
def cX (e : Bool) (free ks : R) : R × R := free.foldl (bg e) ([], ks)
theorem tq (e : Bool) (s : R × R) (c d : Int × Int) (h : d ≠ c) : d ∈ (bg e s c).2 ↔ d ∈ s.2 := by
 unfold bg
 split
 ·rw [List.mem_filter]
  simp [h]
 ·exact Iff.rfl
theorem vU (e : Bool) (d : Int × Int) : ∀ (pre : R) (s : R × R), d ∉ pre -> (d ∈ (pre.foldl (bg e) s).2 ↔ d ∈ s.2)
 | [], _, _ => Iff.rfl
 | c :: pre, s, h => by
  rw [List.foldl_cons, vU e d pre _ fun z => h (List.mem_cons_of_mem _ z), tq e s c d fun z => h (by rw [z]; exact List.mem_cons_self)]
theorem tj (e : Bool) (s : R × R) (c : Int × Int) : (bg e s c).2.Sublist s.2 := by
 unfold bg
 split
 ·exact List.filter_sublist
 ·exact List.Sublist.refl _
theorem ww (e : Bool) : ∀ (pre : R) (s : R × R), (pre.foldl (bg e) s).2.Sublist s.2
 | [], _ => List.Sublist.refl _
 | c :: pre, s => by rw [List.foldl_cons]; exact (ww e pre _).trans (tj e s c)
theorem kX (c : Int × Int) : ∀ l : R, l.Nodup -> c ∈ l -> (l.filter fun d => decide (d ≠ c)).length + 1 = l.length
 | [], _, h => by cases h
 | d :: l, nd, h => by
  obtain ⟨n1, n2⟩ := List.nodup_cons.mp nd
  by_cases e : d = c
  ·subst e
   rw [List.filter_cons_of_neg (by simp), List.length_cons]
   have : l.filter (fun x => decide (x ≠ d)) = l := List.filter_eq_self.mpr fun y hy => by
    simp only [ne_eq, decide_eq_true_eq]
    exact fun z => n1 (by rw [<- z]; exact hy)
   rw [this]
  ·rw [List.filter_cons_of_pos (by simpa using e), List.length_cons, List.length_cons, kX c l n2 ((List.mem_cons.mp h).resolve_left fun z => e z.symm)]
theorem we (e : Bool) : ∀ (pre : R) (s : R × R), pre.Nodup -> s.2.Nodup -> (∀ c ∈ pre, c ∈ s.2) -> (pre.foldl (bg e) s).1.length + (pre.foldl (bg e) s).2.length = s.1.length + s.2.length
 | [], _, _, _, _ => rfl
 | c :: pre, s, nd, ns, h => by
  obtain ⟨n1, n2⟩ := List.nodup_cons.mp nd
  rw [List.foldl_cons, we e pre _ n2 ((tj e s c).nodup ns) fun d hd => (tq e s c d fun z => n1 (by rw [<- z]; exact hd)).mpr (h d (List.mem_cons_of_mem _ hd))]
  unfold bg
  split
  ·have := kX c s.2 ns (h c List.mem_cons_self)
   show (s.1 ++ [c]).length + (s.2.filter fun d => decide (d ≠ c)).length = _
   rw [List.length_append, List.length_singleton]
   lia
  ·rfl
theorem wz (e : Bool) : ∀ (pre : R) (s : R × R), (pre.foldl (bg e) s).1.length <= s.1.length + pre.length
 | [], _ => by simp
 | c :: pre, s => by
  rw [List.foldl_cons]
  have := wz e pre (bg e s c)
  have h2 : (bg e s c).1.length <= s.1.length + 1 := by unfold bg; split <;> simp
  rw [List.length_cons]
  lia
theorem oz (p : Addr) (ks free : R) (e : Bool) (nf : free.Nodup) (hs : ∀ c ∈ free, c ∈ ks) (hl : free.length <= 50000) : eE p (ks.map kyC) [.lst (free.map prD), .bl e] = some (.lst ((cX e free ks).1.map (O.sh ∘ prD)), (cX e free ks).2.map kyC) := by
 obtain ⟨ρ', k1, v4, rfl⟩ := fT (g := aj 4) (m := ie) prD (fun pre ρ => ∃ v4 : Sl, ρ = [.ow (.hd p ((pre.foldl (bg e) ([], ks)).2.map kyC) []), .sh (.lst (free.map prD)), .sh (.bl e), owl ((pre.foldl (bg e) ([], ks)).1.map prD), v4]) free [.ow (.hd p (ks.map kyC) []), .sh (.lst (free.map prD)), .sh (.bl e), .ow (.lst []), .un] ⟨.un, rfl⟩ fun pre c post ρ ef hpt0 => by
  obtain ⟨v4, hρ⟩ := hpt0
  subst hρ
  have hf := wz e pre ([], ks)
  have hcp : c ∉ pre := fun z => by
   rw [ef] at nf
   exact (List.nodup_append.mp nf).2.2 c z c List.mem_cons_self rfl
  have hck : c ∈ (pre.foldl (bg e) ([], ks)).2 := (vU e c pre _ hcp).mpr (hs c (by rw [ef]; exact List.mem_append_right _ List.mem_cons_self))
  have hpl : pre.length < free.length := by rw [ef, List.length_append, List.length_cons]; lia
  rw [List.foldl_append]
  show ∃ ρ1 ρ2, _ /\ _ /\ ∃ v4 : Sl, ρ2 = [.ow (.hd p ((bg e (pre.foldl (bg e) ([], ks)) c).2.map kyC) []), _, _, owl ((bg e (pre.foldl (bg e) ([], ks)) c).1.map prD), v4]
  generalize pre.foldl (bg e) ([], ks) = s at *
  obtain ⟨t, kk⟩ := s
  dsimp only at hf hck ⊢
  have hg := Aj kk c.1 c.2 e
  have hk := uy kk c
  rw [decide_eq_true hck] at hk
  have hd := EI kk c
  have ht : t.length < LIM := Nat.lt_of_lt_of_le (show t.length < 100000 by simp at hf; lia) (bn (Nat.le_refl _))
  unfold bg
  cases q : goF kk e c with
  | false =>
   refine ⟨_, _, rfl, .inl ?_, .sh (prD c), rfl⟩
   have q' : goF kk e (c.1, c.2) = false := q
   rw [q'] at hg
   simp [ie, hg, gd]
  | true =>
   refine ⟨_, _, rfl, .inl ?_, .sh (prD c), rfl⟩
   have q' : goF kk e (c.1, c.2) = true := q
   rw [q'] at hg
   have hpop : zm 0 (aw 4) [.ow (.hd p (kk.map kyC) []), .sh (.lst (free.map prD)), .sh (.bl e), owl (t.map prD), .sh (prD c)] = some (.nx [.ow (.hd p ((kk.filter fun d => decide (d ≠ c)).map kyC) []), .sh (.lst (free.map prD)), .sh (.bl e), owl (t.map prD), .sh (prD c)]) := by
    have hy : kyD (prD c) = some (kyC c) := rfl
    unfold zm aw
    show (some (Sl.ow (.hd p (kk.map kyC) []))).bind _ = _
    dsimp only [Option.bind, List.getElem?_cons_succ, List.getElem?_cons_zero]
    rw [C3]
    dsimp only
    rw [hy]
    dsimp only
    rw [hk, if_pos rfl, hd]
    rfl
   have hif : qz (n5 0 (bB jh (ag (aw 0) (ag (xOp dIx (am 4) (xC (.int 0))) (ag (xOp dIx (am 4) (xC (.int 1))) (ag (aw 2) au)))))) [.ow (.hd p (kk.map kyC) []), .sh (.lst (free.map prD)), .sh (.bl e), owl (t.map prD), .sh (prD c)] = some true := by simp [hg, gd]
   show xIf _ _ _ [.ow (.hd p (kk.map kyC) []), .sh (.lst (free.map prD)), .sh (.bl e), owl (t.map prD), .sh (prD c)] = _
   unfold xIf
   rw [hif]
   dsimp only [Option.bind]
   rw [if_pos rfl, bp hpop]
   simp [ht]
 have hpf : cX e free ks = free.foldl (bg e) ([], ks) := rfl
 rw [hpf]
 generalize free.foldl (bg e) ([], ks) = s at *
 have hl0 : (0 : Nat) <= LIM := Nat.zero_le _
 simp [eE, fnH, kj, k1]
def sideL : R := [(0, -1), (-1, 0), (0, 1), (1, 0)]
def eI (e : Bool) (s : R × R) (d : Int × Int) : R × R := let r := cX e (cJ s.2 d.1 d.2) s.2; (s.1 ++ r.1, r.2)
def e7 (e : Bool) (ks : R) : R × R := sideL.foldl (eI e) ([], ks)
theorem zr {ks : R} (n : ks.Nodup) (dx dy : Int) : (cJ ks dx dy).Nodup := List.filter_sublist.nodup n
theorem ma {ks : R} {dx dy : Int} {c : Int × Int} (h : c ∈ cJ ks dx dy) : c ∈ ks := (List.mem_filter.mp h).1
theorem Dg (ks : R) (dx dy : Int) : (cJ ks dx dy).length <= ks.length := List.length_filter_le _ _
theorem vS (e : Bool) {free ks : R} (nf : free.Nodup) (nk : ks.Nodup) (hs : ∀ c ∈ free, c ∈ ks) : (cX e free ks).2.Nodup /\ (cX e free ks).1.length + (cX e free ks).2.length = ks.length :=
 ⟨(ww e free _).nodup nk, by have := we e free ([], ks) nf nk hs; unfold cX; simpa using this⟩
theorem ED (e : Bool) (s : R × R) (d : Int × Int) (n : s.2.Nodup) : (eI e s d).2.Nodup /\ (eI e s d).1.length + (eI e s d).2.length = s.1.length + s.2.length := by
 have h := vS e (zr n d.1 d.2) n fun c hc => ma hc
 refine ⟨h.1, ?_⟩
 show (s.1 ++ (cX e (cJ s.2 d.1 d.2) s.2).1).length + (cX e (cJ s.2 d.1 d.2) s.2).2.length = _
 rw [List.length_append]
 lia
theorem vt (e : Bool) : ∀ (l : R) (s : R × R), s.2.Nodup -> (l.foldl (eI e) s).2.Nodup /\ (l.foldl (eI e) s).1.length + (l.foldl (eI e) s).2.length = s.1.length + s.2.length
 | [], _, n => ⟨n, rfl⟩
 | d :: l, s, n => by
  rw [List.foldl_cons]
  have h := ED e s d n
  have ih := vt e l (eI e s d) h.1
  exact ⟨ih.1, by rw [ih.2, h.2]⟩
theorem zf (e : Bool) {ks : R} (n : ks.Nodup) : (e7 e ks).2.Nodup /\ (e7 e ks).1.length + (e7 e ks).2.length = ks.length := by
 have h := vt e sideL ([], ks) n
 exact ⟨h.1, by have := h.2; simpa [e7] using this⟩
abbrev prM (p : Int × Int) : D := .mtp [.int p.1, .int p.2]
theorem sV : ∀ l : R, noDics (l.map prD) = true
 | [] => by simp [noDics]
 | c :: l => by rw [List.map_cons, noDics, sV l]; simp [gd, noDics]
theorem mS (p : Addr) (ks : R) (e : Bool) (n : ks.Nodup) (hl : ks.length <= 50000) : fe p (ks.map kyC) [.bl e] = some (.lst ((e7 e ks).1.map (O.sh ∘ prD)), (e7 e ks).2.map kyC) := by
 obtain ⟨ρ', k1, v3, v4, rfl⟩ := fT (g := bq (aq (aj 3) (aq (aj 4) bu))) (m := ki) prM (fun pre ρ => ∃ v3 v4 : Sl, ρ = [.ow (.hd p ((pre.foldl (eI e) ([], ks)).2.map kyC) []), .sh (.bl e), owl ((pre.foldl (eI e) ([], ks)).1.map prD), v3, v4]) sideL [.ow (.hd p (ks.map kyC) []), .sh (.bl e), .ow (.lst []), .un, .un] ⟨.un, .un, rfl⟩ fun pre d post ρ ef hpt0 => by
  obtain ⟨v3, v4, hρ⟩ := hpt0
  subst hρ
  have hok := vt e pre ([], ks) n
  rw [List.foldl_append]
  show ∃ ρ1 ρ2, _ /\ _ /\ ∃ v3 v4 : Sl, ρ2 = [.ow (.hd p ((eI e (pre.foldl (eI e) ([], ks)) d).2.map kyC) []), _, owl ((eI e (pre.foldl (eI e) ([], ks)) d).1.map prD), v3, v4]
  generalize pre.foldl (eI e) ([], ks) = s at *
  obtain ⟨t, kk⟩ := s
  obtain ⟨nk, hlen⟩ := hok
  simp at hlen
  dsimp only at nk
  have hf := oy kk d.1 d.2 (by lia)
  have nf := zr nk d.1 d.2
  have fl := Dg kk d.1 d.2
  have hp := fun q => oz q kk (cJ kk d.1 d.2) e nf (fun c hc => ma hc) (by lia)
  have hA := y6 hp
  have pok := vS e nf nk fun c hc => ma hc
  refine ⟨_, [.ow (.hd p ((cX e (cJ kk d.1 d.2) kk).2.map kyC) []), .sh (.bl e), owl ((t ++ (cX e (cJ kk d.1 d.2) kk).1).map prD), .sh (.int d.1), .sh (.int d.2)], rfl, .inl ?_, _, _, rfl⟩
  have hL : t.length + (cX e (cJ kk d.1 d.2) kk).1.length <= LIM := bn (by lia)
  have hnd := sV (cJ kk d.1 d.2)
  have hm : n5 0 (bB br (ag (aw 0) (ag (aw 3) (ag (aw 4) au)))) [.ow (.hd p (kk.map kyC) []), .sh (.bl e), owl (t.map prD), .sh (.int d.1), .sh (.int d.2)] = some (.lst ((cJ kk d.1 d.2).map prD)) := by
   simp [hf, gd, hnd]
  generalize cX e (cJ kk d.1 d.2) kk = r at *
  show pJ 2 0 eE (ag (n5 0 (bB br (ag (aw 0) (ag (aw 3) (ag (aw 4) au))))) (ag (aw 1) au)) [.ow (.hd p (kk.map kyC) []), .sh (.bl e), owl (t.map prD), .sh (.int d.1), .sh (.int d.2)] = _
  have ha : ag (n5 0 (bB br (ag (aw 0) (ag (aw 3) (ag (aw 4) au))))) (ag (aw 1) au) [.ow (.hd p (kk.map kyC) []), .sh (.bl e), owl (t.map prD), .sh (.int d.1), .sh (.int d.2)] = some [.lst ((cJ kk d.1 d.2).map prD), .bl e] := by
   show Option.bind (n5 0 (bB br (ag (aw 0) (ag (aw 3) (ag (aw 4) au)))) [.ow (.hd p (kk.map kyC) []), .sh (.bl e), owl (t.map prD), .sh (.int d.1), .sh (.int d.2)]) _ = _
   rw [hm]
   rfl
  unfold pJ
  simp only [List.getElem?_cons_succ, List.getElem?_cons_zero, Option.bind_some, C3, ha, hA]
  simp [hL]
 have hrf : e7 e ks = sideL.foldl (eI e) ([], ks) := rfl
 rw [hrf]
 generalize sideL.foldl (eI e) ([], ks) = s at *
 simp only [sideL, List.map_cons, List.map_nil] at k1
 simp [fe, fnH, iH, k1]
theorem za {a : XE} {b : XA} {ρ : M.Env} {x : D} {y : List D} (h : a ρ = some x) (k : b ρ = some y) : ag a b ρ = some (x :: y) := by
 show Option.bind (a ρ) _ = _
 rw [h]
 show Option.bind (b ρ) _ = _
 rw [k]
 rfl
theorem Iq {e : XA} {ρ : M.Env} {l : List D} (h : e ρ = some l) : xL e ρ = some (.lst l) := by unfold xL; rw [h]; rfl
theorem E7 {m : List D -> Option D} {a : XA} {ρ : M.Env} {ds : List D} {d : D} (h : a ρ = some ds) (k : m ds = some d) : bB m a ρ = some d := by unfold bB; rw [h]; exact k
theorem EU {a : XA} {ρ : M.Env} {l : List D} (h : a ρ = some l) (k : l.length <= LIM) : aR a ρ = some (.tup l) := by
 unfold aR
 rw [h]
 show (if l.length <= LIM then _ else _) = _
 rw [if_pos k]
def dL (e : Bool) : Nat -> R -> R -> R × R
 | 0, t, ks => (t, ks)
 | n + 1, t, ks => if (e7 e ks).1 = [] then (t, ks) else dL e n (t ++ (e7 e ks).1) (e7 e ks).2
theorem ug (e : Bool) : ∀ (free : R) (s : R × R), (free.foldl (bg e) s).1 = s.1 -> (free.foldl (bg e) s).2 = s.2
 | [], _, _ => rfl
 | c :: l, s, h => by
  rw [List.foldl_cons] at h ⊢
  have hl : ∀ (l : R) (s : R × R), s.1.length <= (l.foldl (bg e) s).1.length := fun l => by
   induction l with
   | nil => intro s; exact Nat.le_refl _
   | cons c l ih =>
    intro s
    rw [List.foldl_cons]
    refine Nat.le_trans ?_ (ih _)
    unfold bg
    split
    ·show s.1.length <= (s.1 ++ [c]).length; simp
    ·exact Nat.le_refl _
  cases q : goF s.2 e c with
  | false =>
   have e1 : bg e s c = s := by unfold bg; rw [q]; rfl
   rw [e1] at h ⊢
   exact ug e l s h
  | true =>
   have e1 : bg e s c = (s.1 ++ [c], s.2.filter fun d => decide (d ≠ c)) := by unfold bg; rw [q]; rfl
   have := hl l (bg e s c)
   rw [h, e1] at this
   simp at this
   lia
theorem vP (e : Bool) : ∀ (l : R) (s : R × R), (l.foldl (eI e) s).1 = s.1 -> (l.foldl (eI e) s).2 = s.2
 | [], _, _ => rfl
 | d :: l, s, h => by
  rw [List.foldl_cons] at h ⊢
  have hl : ∀ (l : R) (s : R × R), ∃ z, (l.foldl (eI e) s).1 = s.1 ++ z := fun l => by
   induction l with
   | nil => intro s; exact ⟨[], by simp⟩
   | cons c l ih =>
    intro s
    rw [List.foldl_cons]
    obtain ⟨z, hz⟩ := ih (eI e s c)
    exact ⟨(cX e (cJ s.2 c.1 c.2) s.2).1 ++ z, by rw [hz]; show s.1 ++ _ ++ z = _; rw [List.append_assoc]⟩
  obtain ⟨z, hz⟩ := hl l (eI e s d)
  have e1 : (eI e s d).1 = s.1 ++ (cX e (cJ s.2 d.1 d.2) s.2).1 := rfl
  rw [h, e1, List.append_assoc] at hz
  have e2 : (cX e (cJ s.2 d.1 d.2) s.2).1 = [] := by
   have := List.self_eq_append_right.mp hz
   exact (List.append_eq_nil_iff.mp this).1
  have e3 : (eI e s d).2 = s.2 := by
   show (cX e (cJ s.2 d.1 d.2) s.2).2 = s.2
   exact ug e _ ([], s.2) e2
  rw [vP e l (eI e s d) (by rw [h, e1, e2, List.append_nil]), e3]
theorem DU {e : Bool} {ks : R} (h : (e7 e ks).1 = []) : (e7 e ks).2 = ks := vP e sideL ([], ks) h
theorem qK (d0 : D) (e : Bool) : ∀ (n : Nat) (t ks : R) (tb : Int), ks.Nodup -> ks.length < n -> t.length + ks.length <= 50000 -> tb < t.length ->
  ∃ tb' : Int, fW dc fG [.sh d0, .sh (.bl e), .ow (.dic (ks.map kyC)), owl (t.map prD), .sh (.int tb)] = some (.nx [.sh d0, .sh (.bl e), .ow (.dic ((dL e n t ks).2.map kyC)), owl ((dL e n t ks).1.map prD), .sh (.int tb')])
 | 0, _, _, _, _, h, _, _ => by lia
 | n + 1, t, ks, tb, nk, hn, hl, htb => by
  have hr := y6 fun q => mS q ks e nk (by lia)
  have ok := zf e nk
  have hL : t.length + (e7 e ks).1.length <= LIM := bn (by lia)
  have hC : dc [.sh d0, .sh (.bl e), .ow (.dic (ks.map kyC)), owl (t.map prD), .sh (.int tb)] = some true := by
   simp [dc]
   lia
  have hB : fG [.sh d0, .sh (.bl e), .ow (.dic (ks.map kyC)), owl (t.map prD), .sh (.int tb)] = some (.nx [.sh d0, .sh (.bl e), .ow (.dic ((e7 e ks).2.map kyC)), owl ((t ++ (e7 e ks).1).map prD), .sh (.int (t.length : Nat))]) := by
   unfold fG
   rw [bp (ρ' := [.sh d0, .sh (.bl e), .ow (.dic (ks.map kyC)), owl (t.map prD), .sh (.int (t.length : Nat))]) (by simp)]
   generalize e7 e ks = r at *
   have ha : ag (aw 1) au [.sh d0, .sh (.bl e), .ow (.dic (ks.map kyC)), owl (t.map prD), .sh (.int (t.length : Nat))] = some [.bl e] := rfl
   unfold pJ
   simp only [List.getElem?_cons_succ, List.getElem?_cons_zero, Option.bind_some, zk, ha, hr]
   simp [hL]
  by_cases h0 : (e7 e ks).1 = []
  ·have h2 := DU h0
   rw [h0, h2, List.append_nil] at hB
   have hE : dc [.sh d0, .sh (.bl e), .ow (.dic (ks.map kyC)), owl (t.map prD), .sh (.int (t.length : Nat))] = some false := by
    simp [dc]
   refine ⟨(t.length : Nat), ?_⟩
   have e1 : dL e (n + 1) t ks = (t, ks) := by rw [dL, if_pos h0]
   rw [e1]
   exact nR hC hB (yU hE)
  ·have e1 : dL e (n + 1) t ks = dL e n (t ++ (e7 e ks).1) (e7 e ks).2 := by rw [dL, if_neg h0]
   rw [e1]
   have hp : 0 < (e7 e ks).1.length := List.length_pos_iff.mpr h0
   obtain ⟨tb', k⟩ := qK d0 e n (t ++ (e7 e ks).1) (e7 e ks).2 (t.length : Nat) ok.1 (by lia) (by rw [List.length_append]; lia) (by rw [List.length_append]; lia)
   exact ⟨tb', nR hC hB k⟩
theorem xi (e : Bool) : ∀ (n : Nat) (t ks : R), ks.Nodup -> (dL e n t ks).2.Nodup /\ (dL e n t ks).1.length + (dL e n t ks).2.length = t.length + ks.length
 | 0, _, _, n => ⟨n, rfl⟩
 | n + 1, t, ks, nk => by
  rw [dL]
  split
  ·exact ⟨nk, rfl⟩
  ·have ok := zf e nk
   have ih := xi e n (t ++ (e7 e ks).1) (e7 e ks).2 ok.1
   rw [List.length_append] at ih
   exact ⟨ih.1, by lia⟩
abbrev cT (c : Int × Int) : Tri := (c.2, c.1, c.1)
theorem v5 : ∀ (l acc : R), (acc ++ l).Nodup -> (l.map kyC).foldl si (acc.map kyC) = (acc ++ l).map kyC
 | [], acc, _ => by simp
 | c :: l, acc, n => by
  have hc : c ∉ acc := fun z => (List.nodup_append.mp n).2.2 c z c List.mem_cons_self rfl
  rw [List.map_cons, List.foldl_cons]
  have e1 : si (acc.map kyC) (kyC c) = (acc ++ [c]).map kyC := by
   unfold si
   rw [uy, decide_eq_false hc, if_neg (by decide), List.map_append]
   rfl
  rw [e1, v5 l (acc ++ [c]) (by simpa using n)]
  simp
theorem xP : ∀ l : R, jH (l.map fun c => D.tup [prD c, .bl true]) = some (l.map kyC)
 | [] => rfl
 | c :: l => by
  rw [List.map_cons, jH, xP l]
  rfl
theorem pz : ∀ l : List Tri, noDics (l.map ei) = true
 | [] => by simp [noDics]
 | c :: l => by rw [List.map_cons, noDics, pz l]; simp [gd, noDics]
theorem uA (d0 : D) (cs : R) (e : Bool) (hc : bi [d0] = some (.lst (cs.map prD))) (n : cs.Nodup) (hl : cs.length <= 20000) :
  aS [d0, .bl e] = some (.tup [aY (fM ((dL e (cs.length + 1) [] cs).2.map cT)), .lst ((dL e (cs.length + 1) [] cs).1.map prD)]) := by
 have hL : cs.length <= LIM := bn (by lia)
 have hL' : cs.length < LIM := Nat.lt_of_lt_of_le (show cs.length < 100000 by lia) (bn (Nat.le_refl _))
 have h2 : 2 <= LIM := bn (by lia)
 have c1 : cE (aj 0) d6 (aR (ag (aw 0) (ag (xC (.bl true)) au))) [.un] (cs.map prD) = some (cs.map fun c => D.tup [prD c, .bl true]) := dw prD _ cs fun c _ => by simp [iz, h2]
 have hd : rd (bZ [none] (xIt (bB bi (ag (aw 0) au))) (aj 0) d6 (aR (ag (aw 0) (ag (xC (.bl true)) au)))) [.sh d0, .sh (.bl e), .un, .un, .un] = some (.dic (cs.map kyC)) := by
  have hp := xP cs
  have hf := v5 cs [] (by simpa using n)
  simp only [List.map_nil, List.nil_append] at hf
  have hx : bZ [none] (xIt (bB bi (ag (aw 0) au))) (aj 0) d6 (aR (ag (aw 0) (ag (xC (.bl true)) au))) [.sh d0, .sh (.bl e), .un, .un, .un] = some (cs.map fun c => D.tup [prD c, .bl true]) := by
   simp [hc, hL, c1]
  unfold rd
  rw [hx]
  dsimp only [Option.bind]
  rw [hp]
  dsimp only
  rw [List.length_map, if_pos hL', hf]
 obtain ⟨tb', hw⟩ := qK d0 e (cs.length + 1) [] cs (-1) n (Nat.lt_succ_self _) (by simp; lia) (by simp)
 have ok := xi e (cs.length + 1) [] cs n
 generalize dL e (cs.length + 1) [] cs = r at *
 have hr2 : r.2.length <= cs.length := by have := ok.2; simp at this; lia
 have hlr : r.2.length <= LIM := bn (by lia)
 have h3 : 3 <= LIM := bn (by lia)
 have ep := oI (r.2.map cT) (by rw [List.length_map]; lia)
 have ek : (r.2.map kyC).map (fun k => D.tup (k.map D.int)) = r.2.map prD := by rw [List.map_map]; rfl
 have c2 : cE (bq (aq (aj 0) (aq (aj 1) bu))) d6 (aR (ag (aw 1) (ag (aw 0) (ag (aw 0) au)))) [.un, .un] (r.2.map prD) = some (r.2.map fun c => ei (cT c)) := dw prD _ r.2 fun c _ => by simp [iz, h3]
 have e2 : (r.2.map cT).map ei = r.2.map fun c => ei (cT c) := by rw [List.map_map]; rfl
 have hn2 := pz (r.2.map cT)
 rw [e2] at ep hn2
 have hm : mY 2 (bZ [none, none] (uN 2) (bq (aq (aj 0) (aq (aj 1) bu))) d6 (aR (ag (aw 1) (ag (aw 0) (ag (aw 0) au))))) [.sh d0, .sh (.bl e), .ow (.dic (r.2.map kyC)), .sh (.lst (r.1.map prD)), .sh (.int tb')] = some (r.2.map fun c => ei (cT c)) := by
  unfold mY
  simp only [List.getElem?_cons_succ, List.getElem?_cons_zero, Option.bind_some, zk, List.set_cons_succ, List.set_cons_zero]
  have hx : bZ [none, none] (uN 2) (bq (aq (aj 0) (aq (aj 1) bu))) d6 (aR (ag (aw 1) (ag (aw 0) (ag (aw 0) au)))) [.sh d0, .sh (.bl e), .sh (.dif (r.2.map kyC)), .sh (.lst (r.1.map prD)), .sh (.int tb')] = some (r.2.map fun c => ei (cT c)) := by
   unfold bZ uN
   simp only [List.getElem?_cons_succ, List.getElem?_cons_zero, ek, Option.bind_some, List.length_map]
   rw [if_pos hlr]
   exact c2
  rw [hx]
  simp only [Option.bind_some]
  rw [if_pos hn2]
 have hw' : fW dc fG [.sh d0, .sh (.bl e), .ow (.dic (cs.map kyC)), .ow (.lst []), .sh (.int (-1))] = _ := hw
 have hrun : ku [.sh d0, .sh (.bl e), .un, .un, .un] = some (.rt (.tup [aY (fM (r.2.map cT)), .lst (r.1.map prD)])) := by
  unfold ku
  rw [bp (ρ' := [.sh d0, .sh (.bl e), .ow (.dic (cs.map kyC)), .un, .un]) (by unfold ub; rw [hd]; rfl), bp (ρ' := [.sh d0, .sh (.bl e), .ow (.dic (cs.map kyC)), .ow (.lst []), .un]) (by simp), bp (ρ' := [.sh d0, .sh (.bl e), .ow (.dic (cs.map kyC)), .ow (.lst []), .sh (.int (-1))]) (by simp), bp hw']
  have hfz : frz 3 [.sh d0, .sh (.bl e), .ow (.dic (r.2.map kyC)), owl (r.1.map prD), .sh (.int tb')] = [.sh d0, .sh (.bl e), .ow (.dic (r.2.map kyC)), .sh (.lst (r.1.map prD)), .sh (.int tb')] := by simp [frz]
  show gE (aR (ag (bB bN (ag (xL (mY 2 (bZ [none, none] (uN 2) (bq (aq (aj 0) (aq (aj 1) bu))) d6 (aR (ag (aw 1) (ag (aw 0) (ag (aw 0) au))))))) au)) (ag (aw 3) au))) (frz 3 _) = _
  rw [hfz]
  have hcall : bB bN (ag (xL (mY 2 (bZ [none, none] (uN 2) (bq (aq (aj 0) (aq (aj 1) bu))) d6 (aR (ag (aw 1) (ag (aw 0) (ag (aw 0) au))))))) au) [.sh d0, .sh (.bl e), .ow (.dic (r.2.map kyC)), .sh (.lst (r.1.map prD)), .sh (.int tb')] = some (aY (fM (r.2.map cT))) := by
   exact E7 (za (Iq hm) rfl) ep
  have ht := EU (za hcall (rfl : ag (aw 3) au [.sh d0, .sh (.bl e), .ow (.dic (r.2.map kyC)), .sh (.lst (r.1.map prD)), .sh (.int tb')] = some [.lst (r.1.map prD)])) h2
  unfold gE
  rw [ht]
  rfl
 simp [aS, lL, fnO, hrun, O.d]
theorem rh {e : Bool} {ks : R} (h : ∀ c ∈ ks, goF ks e c = false) : ∀ free : R, (∀ c ∈ free, c ∈ ks) -> ∀ t, free.foldl (bg e) (t, ks) = (t, ks)
 | [], _, _ => rfl
 | c :: l, hs, t => by
  rw [List.foldl_cons]
  have e1 : bg e (t, ks) c = (t, ks) := by
   unfold bg
   rw [show goF (t, ks).2 e c = false from h c (hs c List.mem_cons_self)]
   rfl
  rw [e1]
  exact rh h l (fun d hd => hs d (List.mem_cons_of_mem _ hd)) t
theorem nA {e : Bool} {ks : R} (h : ∀ c ∈ ks, goF ks e c = false) : ∀ (l : R) (t : R), l.foldl (eI e) (t, ks) = (t, ks)
 | [], _ => rfl
 | d :: l, t => by
  rw [List.foldl_cons]
  have e1 : eI e (t, ks) d = (t, ks) := by
   show (t ++ (cX e (cJ ks d.1 d.2) ks).1, (cX e (cJ ks d.1 d.2) ks).2) = _
   have : cX e (cJ ks d.1 d.2) ks = ([], ks) := rh h _ (fun c hc => ma hc) []
   rw [this]
   simp
  rw [e1]
  exact nA h l t
theorem pj {e : Bool} {ks : R} (h : ∀ c ∈ ks, goF ks e c = false) (n : Nat) (t : R) : dL e n t ks = (t, ks) := by
 cases n with
 | zero => rfl
 | succ n =>
  have : e7 e ks = ([], ks) := nA h sideL []
  rw [dL, if_pos (by rw [this])]
def Ec (b1 b2 b3 b4 b5 b6 b7 b8 : Bool) : Int := (if b1 then 1 else 0) + ((if b2 then 2 else 0) + ((if b3 then 4 else 0) + ((if b4 then 8 else 0) + ((if b5 then 16 else 0) + ((if b6 then 32 else 0) + ((if b7 then 64 else 0) + ((if b8 then 128 else 0) + 0)))))))
theorem eJ {ks : R} {e : Bool} {x y : Int} {b1 b2 b3 b4 b5 b6 b7 b8 : Bool} (h1 : decide ((x, y - 1) ∈ ks) = b1) (h2 : decide ((x - 1, y - 1) ∈ ks) = b2) (h3 : decide ((x - 1, y) ∈ ks) = b3) (h4 : decide ((x - 1, y + 1) ∈ ks) = b4) (h5 : decide ((x, y + 1) ∈ ks) = b5) (h6 : decide ((x + 1, y + 1) ∈ ks) = b6) (h7 : decide ((x + 1, y) ∈ ks) = b7) (h8 : decide ((x + 1, y - 1) ∈ ks) = b8) :
  goF ks e (x, y) = goB (Ec b1 b2 b3 b4 b5 b6 b7 b8).toNat e := by
 have : Eb ks x y = Ec b1 b2 b3 b4 b5 b6 b7 b8 := by
  subst h1 h2 h3 h4 h5 h6 h7 h8
  unfold Eb Bg roundL Ec
  simp only [List.map_cons, List.map_nil, List.sum_cons, List.sum_nil, Int.add_zero, Int.add_neg_one]
 unfold goF ye
 rw [this]
def aL (y lo : Int) (n : Nat) : R := (zs lo n).map fun x => (x, y)
theorem fx (y lo : Int) (n : Nat) (u v : Int) : (u, v) ∈ aL y lo n ↔ v = y /\ lo <= u /\ u < lo + n := by
 unfold aL
 rw [List.mem_map]
 constructor
 ·rintro ⟨x, hx, e⟩
  injection e with e1 e2
  subst e1 e2
  exact ⟨rfl, (eZ _ _ _).mp hx⟩
 ·rintro ⟨rfl, h⟩
  exact ⟨u, (eZ _ _ _).mpr h, rfl⟩
theorem l6 (y lo : Int) (n : Nat) (e : Bool) (x : Int) : goF (aL y lo n) e (x, y) = goB (Ec false false (decide (lo <= x - 1 /\ x - 1 < lo + n)) false false false (decide (lo <= x + 1 /\ x + 1 < lo + n)) false).toNat e := by
 refine eJ (decide_eq_false ?_) (decide_eq_false ?_) ?_ (decide_eq_false ?_) (decide_eq_false ?_) (decide_eq_false ?_) ?_ (decide_eq_false ?_)
 all_goals first | (rw [fx]; lia) | (congr 1; rw [fx]; simp)
theorem yY (y lo : Int) (n : Nat) : ∀ c ∈ aL y lo n, goF (aL y lo n) true c = false := fun c hc => by
 obtain ⟨x, v⟩ := c
 obtain ⟨rfl, _⟩ := (fx y lo n x v).mp hc
 rw [l6]
 cases decide (lo <= x - 1 /\ x - 1 < lo + n) <;> cases decide (lo <= x + 1 /\ x + 1 < lo + n) <;> decide +kernel
theorem tY (y lo : Int) (n : Nat) : aL y lo (n + 1) = (lo, y) :: aL y (lo + 1) n := rfl
theorem Aa (y lo : Int) (n : Nat) : (aL y lo (n + 1)).filter (fun d => decide (d ≠ (lo, y))) = aL y (lo + 1) n := by
 rw [tY, List.filter_cons_of_neg (by simp)]
 refine List.filter_eq_self.mpr fun c hc => decide_eq_true fun z => ?_
 rw [z] at hc
 have := (fx y (lo + 1) n lo y).mp hc
 lia
theorem tM (y : Int) : ∀ (n : Nat) (lo : Int) (t : R), (aL y lo (n + 1)).foldl (bg false) (t, aL y lo (n + 1)) = (t ++ aL y lo n, [(lo + n, y)])
 | 0, lo, t => by
  have h0 : aL y lo 1 = [(lo, y)] := rfl
  have hg : goF (aL y lo 1) false (lo, y) = false := by
   rw [l6, decide_eq_false (by lia), decide_eq_false (by lia)]
   decide +kernel
  rw [h0] at hg ⊢
  show bg false (t, [(lo, y)]) (lo, y) = _
  unfold bg
  rw [hg]
  simp [aL, zs]
 | n + 1, lo, t => by
  have hg : goF (aL y lo (n + 1 + 1)) false (lo, y) = true := by
   rw [l6, decide_eq_false (by lia), decide_eq_true (by lia)]
   decide +kernel
  have e1 : bg false (t, aL y lo (n + 1 + 1)) (lo, y) = (t ++ [(lo, y)], aL y (lo + 1) (n + 1)) := by
   unfold bg
   rw [hg, if_pos rfl, Aa]
  have h2 : aL y lo (n + 1 + 1) = (lo, y) :: aL y (lo + 1) (n + 1) := rfl
  conv => lhs; arg 3; rw [h2]
  rw [List.foldl_cons, e1, tM y n (lo + 1) (t ++ [(lo, y)])]
  rw [tY y lo n, List.append_assoc, show lo + 1 + (n : Int) = lo + ((n + 1 : Nat) : Int) by lia]
  rfl
theorem yp (y lo : Int) (n : Nat) : e7 false (aL y lo (n + 1)) = (aL y lo n, [(lo + n, y)]) := by
 have h1 : goF [(lo + (n : Int), y)] false (lo + n, y) = false := by
  have h : goF (aL y (lo + n) 1) false (lo + n, y) = false := by
   rw [l6, decide_eq_false (by lia), decide_eq_false (by lia)]
   decide +kernel
  exact h
 have hf : cJ (aL y lo (n + 1)) 0 (-1) = aL y lo (n + 1) := by
  refine List.filter_eq_self.mpr fun c hc => ?_
  obtain ⟨u, v⟩ := c
  obtain ⟨rfl, _⟩ := (fx y lo (n + 1) u v).mp hc
  have : (u + 0, v + -1) ∉ aL v lo (n + 1) := fun z => by
   have := (fx v lo (n + 1) _ _).mp z
   lia
  simp only [decide_eq_false this, Bool.not_false]
 have e1 : eI false ([], aL y lo (n + 1)) (0, -1) = (aL y lo n, [(lo + n, y)]) := by
  show ([] ++ (cX false (cJ (aL y lo (n + 1)) 0 (-1)) (aL y lo (n + 1))).1, (cX false (cJ (aL y lo (n + 1)) 0 (-1)) (aL y lo (n + 1))).2) = _
  rw [hf]
  have : cX false (aL y lo (n + 1)) (aL y lo (n + 1)) = ([] ++ aL y lo n, [(lo + n, y)]) := tM y n lo []
  rw [this]
  rfl
 unfold e7 sideL
 rw [List.foldl_cons, e1]
 exact nA (fun c hc => by rw [List.mem_singleton.mp hc]; exact h1) _ _
theorem Be (y lo : Int) (n k : Nat) (hn : n ≠ 0) : dL false (k + 1) [] (aL y lo (n + 1)) = (aL y lo n, [(lo + n, y)]) := by
 have h1 : goF [(lo + (n : Int), y)] false (lo + n, y) = false := by
  have h : goF (aL y (lo + n) 1) false (lo + n, y) = false := by
   rw [l6, decide_eq_false (by lia), decide_eq_false (by lia)]
   decide +kernel
  exact h
 rw [dL, yp, if_neg (by
  intro z
  have := congrArg List.length z
  simp [aL, dg] at this
  exact hn this)]
 exact pj (fun c hc => by rw [List.mem_singleton.mp hc]; exact h1) _ _
theorem vQ {a x y : Int} {ks : R} (ha : 2 <= a) (hm : ∀ u v, (u, v) ∈ ks ↔ (u = x /\ y - a <= v /\ v <= y + a) \/ (v = y /\ x - a <= u /\ u <= x + a)) : ∀ c ∈ ks, goF ks true c = false := fun c hc => by
 obtain ⟨u, v⟩ := c
 have T : ∀ {u v : Int}, ((u = x /\ y - a <= v /\ v <= y + a) \/ (v = y /\ x - a <= u /\ u <= x + a)) -> decide ((u, v) ∈ ks) = true := fun h => decide_eq_true ((hm _ _).mpr h)
 have F : ∀ {u v : Int}, ¬ ((u = x /\ y - a <= v /\ v <= y + a) \/ (v = y /\ x - a <= u /\ u <= x + a)) -> decide ((u, v) ∈ ks) = false := fun h => decide_eq_false fun z => h ((hm _ _).mp z)
 by_cases c0 : u = x /\ v = y
 ·rw [eJ (T (by lia)) (F (by lia)) (T (by lia)) (F (by lia)) (T (by lia)) (F (by lia)) (T (by lia)) (F (by lia))]
  decide +kernel
 rcases (hm u v).mp hc with ⟨e, h1, h2⟩ | ⟨e, h1, h2⟩
 ·by_cases c1 : v = y + 1
  ·rw [eJ (T (by lia)) (T (by lia)) (F (by lia)) (F (by lia)) (T (by lia)) (F (by lia)) (F (by lia)) (T (by lia))]
   decide +kernel
  by_cases c2 : v = y - 1
  ·rw [eJ (T (by lia)) (F (by lia)) (F (by lia)) (T (by lia)) (T (by lia)) (T (by lia)) (F (by lia)) (F (by lia))]
   decide +kernel
  by_cases c3 : v = y + a
  ·rw [eJ (T (by lia)) (F (by lia)) (F (by lia)) (F (by lia)) (F (by lia)) (F (by lia)) (F (by lia)) (F (by lia))]
   decide +kernel
  by_cases c4 : v = y - a
  ·rw [eJ (F (by lia)) (F (by lia)) (F (by lia)) (F (by lia)) (T (by lia)) (F (by lia)) (F (by lia)) (F (by lia))]
   decide +kernel
  ·rw [eJ (T (by lia)) (F (by lia)) (F (by lia)) (F (by lia)) (T (by lia)) (F (by lia)) (F (by lia)) (F (by lia))]
   decide +kernel
 ·by_cases c1 : u = x + 1
  ·rw [eJ (F (by lia)) (T (by lia)) (T (by lia)) (T (by lia)) (F (by lia)) (F (by lia)) (T (by lia)) (F (by lia))]
   decide +kernel
  by_cases c2 : u = x - 1
  ·rw [eJ (F (by lia)) (F (by lia)) (T (by lia)) (F (by lia)) (F (by lia)) (T (by lia)) (T (by lia)) (T (by lia))]
   decide +kernel
  by_cases c3 : u = x + a
  ·rw [eJ (F (by lia)) (F (by lia)) (T (by lia)) (F (by lia)) (F (by lia)) (F (by lia)) (F (by lia)) (F (by lia))]
   decide +kernel
  by_cases c4 : u = x - a
  ·rw [eJ (F (by lia)) (F (by lia)) (F (by lia)) (F (by lia)) (F (by lia)) (F (by lia)) (T (by lia)) (F (by lia))]
   decide +kernel
  ·rw [eJ (F (by lia)) (F (by lia)) (T (by lia)) (F (by lia)) (F (by lia)) (F (by lia)) (T (by lia)) (F (by lia))]
   decide +kernel
def bC (a : Nat) (x y : Int) : Pic := ((zs (y - a) a).map fun v => (v, [(x, x)])) ++ (y, [(x - a, x + a)]) :: ((zs (y + 1) a).map fun v => (v, [(x, x)]))
theorem nh : ∀ (m n : Nat) (lo : Int), zs lo (m + n) = zs lo m ++ zs (lo + m) n
 | 0, n, lo => by simp [zs]
 | m + 1, n, lo => by
  rw [show m + 1 + n = (m + n) + 1 by lia, zs, zs, nh m n (lo + 1), List.cons_append, show lo + 1 + (m : Int) = lo + ((m + 1 : Nat) : Int) by lia]
theorem BV : ∀ (n : Nat) (lo : Int), (zs lo n).Pairwise (· < ·)
 | 0, _ => .nil
 | n + 1, lo => by
  rw [zs]
  refine List.pairwise_cons.mpr ⟨fun x hx => ?_, BV n _⟩
  have := (eZ n (lo + 1) x).mp hx
  lia
theorem iC {p : Int × Int} (h : p.1 <= p.2) : eL [p] := canon_cons.mpr ⟨h, fun _ h => (by cases h), nr⟩
theorem vW (a : Nat) (x y : Int) : cV (bC a x y) := by
 refine ⟨fun q hq => ?_, ?_⟩
 ·unfold bC at hq
  rcases List.mem_append.mp hq with h | h
  ·obtain ⟨v, _, rfl⟩ := List.mem_map.mp h
   exact ⟨iC (Int.le_refl _), fun z => by cases z⟩
  ·rcases List.mem_cons.mp h with rfl | h
   ·exact ⟨iC (by dsimp only; lia), fun z => by cases z⟩
   ·obtain ⟨v, _, rfl⟩ := List.mem_map.mp h
    exact ⟨iC (Int.le_refl _), fun z => by cases z⟩
 ·have h := BV (a + (1 + a)) (y - a)
  rw [nh, nh, show y - (a : Int) + a = y by lia] at h
  have e : (bC a x y).map (·.1) = zs (y - a) a ++ (zs y 1 ++ zs (y + (1 : Nat)) a) := by
   unfold bC
   rw [List.map_append, List.map_cons, List.map_map, List.map_map]
   have f : ((fun q : Int × R => q.1) ∘ fun v : Int => (v, [(x, x)])) = id := rfl
   rw [f, List.map_id, List.map_id]
   rfl
  rw [<- e, List.pairwise_map] at h
  exact h
theorem Ag (a : Nat) (x y u v : Int) : (u, v) ∈ bj (a8 (bC a x y)) ↔ (u = x /\ y - a <= v /\ v <= y + a) \/ (v = y /\ x - a <= u /\ u <= x + a) := by
 rw [pO, pL]
 have one : ∀ (p : Int × Int) (u : Int), Mem [p] u ↔ p.1 <= u /\ u <= p.2 := fun p u => by
  constructor
  ·rintro ⟨q, hq, h⟩
   rw [List.mem_singleton.mp hq] at h
   exact h
  ·exact fun h => ⟨p, List.mem_singleton.mpr rfl, h⟩
 constructor
 ·rintro ⟨q, hq, e, h⟩
  unfold bC at hq
  rcases List.mem_append.mp hq with hq | hq
  ·obtain ⟨w, hw, rfl⟩ := List.mem_map.mp hq
   have h1 := (eZ _ _ _).mp hw
   have h2 := (one _ _).mp h
   dsimp only at e h2
   lia
  ·rcases List.mem_cons.mp hq with rfl | hq
   ·have h2 := (one _ _).mp h
    dsimp only at e h2
    lia
   ·obtain ⟨w, hw, rfl⟩ := List.mem_map.mp hq
    have h1 := (eZ _ _ _).mp hw
    have h2 := (one _ _).mp h
    dsimp only at e h2
    lia
 ·intro h
  unfold bC
  by_cases e : v = y
  ·exact ⟨(y, [(x - a, x + a)]), List.mem_append_right _ List.mem_cons_self, e.symm, (one _ _).mpr (by dsimp only; lia)⟩
  ·by_cases e2 : v < y
   ·exact ⟨(v, [(x, x)]), List.mem_append_left _ (List.mem_map.mpr ⟨v, (eZ _ _ _).mpr (by lia), rfl⟩), rfl, (one _ _).mpr (by dsimp only; lia)⟩
   ·exact ⟨(v, [(x, x)]), List.mem_append_right _ (List.mem_cons_of_mem _ (List.mem_map.mpr ⟨v, (eZ _ _ _).mpr (by lia), rfl⟩)), rfl, (one _ _).mpr (by dsimp only; lia)⟩
theorem wY (a : Nat) (x y : Int) (h : a <= 1000) : im [.int (a : Int), .int x, .int y] = some (aY (bC a x y)) := by
 have h1 : 1 <= LIM := bn (by lia)
 have h2 : 2 <= LIM := bn (by lia)
 have hn : (y + a + 1 - (y - a)).toNat = a + (1 + a) := by lia
 have hr : BO [D.int (y - a), D.int (y + a + 1)] = some ((zs (y - a) (a + (1 + a))).map D.int) := by
  rw [<- mq, <- hn]
  rfl
 have hl : (zs (y - a) (a + (1 + a))).length <= LIM := bn (by rw [dg]; lia)
 have hc : cE (aj 0) d6 (aR (ag (aw 0) (ag (aR (ag (aR (ag (aw 1) (ag (aw 1) au))) au)) au))) [.un, .sh (.int x)] ((zs (y - a) (a + (1 + a))).map D.int) = some ((zs (y - a) (a + (1 + a))).map fun v => pyD (v, [(x, x)])) := dw D.int _ _ fun v _ => by simp [iz, h1, h2]
 have el : ((zs (y - a) (a + (1 + a))).map fun v => pyD (v, [(x, x)])) = ((zs (y - a) a).map fun v => pyD (v, [(x, x)])) ++ pyD (y, [(x, x)]) :: ((zs (y + 1) a).map fun v => pyD (v, [(x, x)])) := by
  rw [nh, nh, show y - (a : Int) + a = y by lia, List.map_append, List.map_append]
  rfl
 have ep : (bC a x y).map pyD = ((zs (y - a) a).map fun v => pyD (v, [(x, x)])) ++ pyD (y, [(x - a, x + a)]) :: ((zs (y + 1) a).map fun v => pyD (v, [(x, x)])) := by
  unfold bC
  rw [List.map_append, List.map_cons, List.map_map, List.map_map]
  rfl
 have hU : ((zs (y - a) a).map fun v => pyD (v, [(x, x)])).length = a := by rw [List.length_map, dg]
 have hlc : (bC a x y).length <= LIM := bn (by unfold bC; simp [dg]; lia)
 have hA : kK (bZ [none, some 1] (um (ag (xOp q9 (am 2) (am 0)) (ag (xOp bz (xOp bz (am 2) (am 0)) (xC (.int 1))) au))) (aj 0) d6 (aR (ag (aw 0) (ag (aR (ag (aR (ag (aw 1) (ag (aw 1) au))) au)) au)))) 3 [.sh (.int (a : Int)), .sh (.int x), .sh (.int y), .un] = some (.nx [.sh (.int (a : Int)), .sh (.int x), .sh (.int y), owl ((zs (y - a) (a + (1 + a))).map fun v => pyD (v, [(x, x)]))]) := by
  rw [List.length_map] at *
  simp [hr, dg] at hl ⊢
  simp [hl, hc]
 rw [el] at hA
 generalize ((zs (y - a) a).map fun v => pyD (v, [(x, x)])) = U at *
 generalize ((zs (y + 1) a).map fun v => pyD (v, [(x, x)])) = V at *
 have hset : (U ++ pyD (y, [(x, x)]) :: V).set a (pyD (y, [(x - a, x + a)])) = U ++ pyD (y, [(x - a, x + a)]) :: V := by
  rw [List.set_append_right _ _ (by lia), hU, Nat.sub_self]
  rfl
 have hix : ixN (U ++ pyD (y, [(x, x)]) :: V).length (a : Int) = some a := by
  unfold ixN
  rw [List.length_append, List.length_cons, hU]
  simp
  try lia
 have hsh : shs ((U ++ pyD (y, [(x, x)]) :: V).map O.sh) = some (U ++ pyD (y, [(x, x)]) :: V) := mI _
 have hS : xM 3 xPv (am 0) (aR (ag (aw 2) (ag (aR (ag (aR (ag (xOp q9 (am 1) (am 0)) (ag (xOp bz (am 1) (am 0)) au))) au)) au))) [.sh (.int (a : Int)), .sh (.int x), .sh (.int y), owl (U ++ pyD (y, [(x, x)]) :: V)] = some (.nx [.sh (.int (a : Int)), .sh (.int x), .sh (.int y), owl (U ++ pyD (y, [(x - a, x + a)]) :: V)]) := by
  rw [<- hset]
  generalize U ++ pyD (y, [(x, x)]) :: V = W at *
  simp [h1, h2, hix]
  rfl
 have hrun : mQ [.sh (.int (a : Int)), .sh (.int x), .sh (.int y), .un] = some (.rt (aY (bC a x y))) := by
  unfold mQ
  rw [bp hA, bp hS]
  show _ = some (Out.rt (.tup ((bC a x y).map pyD)))
  rw [ep]
  generalize U ++ pyD (y, [(x - a, x + a)]) :: V = W
  simp
 exact BA (n := 4) (ds := [.int (a : Int), .int x, .int y]) hrun
theorem zq (a b : List Bool) : dEq false (.lst (a.map D.bl)) (.lst (b.map D.bl)) = some (.bl (decide (a = b))) := by
 have h : ∀ l : List Bool, okD 50 (.lst (l.map D.bl)) = true := fun l => by
  rw [okD]
  exact j7 l fun b _ => by simp [okD]
 have e : ∀ a b : List Bool, eqDs (a.map D.bl) (b.map D.bl) = decide (a = b) := by
  intro a
  induction a with
  | nil => intro b; cases b <;> simp [eqDs]
  | cons x a ih =>
   intro b
   cases b with
   | nil => simp [eqDs]
   | cons y b =>
    rw [List.map_cons, List.map_cons, eqDs, ih]
    cases x <;> cases y <;> simp [eqD]
 unfold dEq
 rw [if_pos ⟨h a, h b⟩]
 simp only [eqD, e]
 rfl
theorem wm (l : List (List (Str × Bool))) (bs : List Bool) (h : kS "TooGreat" l = some bs) (n : Nat) (hb : bs.length <= 1000) (hn : n ≠ 4) (r : List (Nat × List (List (Str × Bool)))) (ρ : M.Env) : g6 4 "TooGreat" ((n, l) :: r) ρ = g6 4 "TooGreat" r (ρ.set n (.sh (.lst (bs.map .bl)))) := by
 rw [g6, if_neg hn, h]
 show (if bs.length <= 1000 then _ else none) = _
 rw [if_pos hb]
theorem sk (p : Pic) (e : Bool) (hc : 1000 < cnt p) (h1 : p.length <= 30000) (hr : ∀ q ∈ p, q.2.length <= 30000) : fb [aY p, .bl e] = some (("TooGreat" : Str)) := by
 have ra := xS p hc h1 hr
 simp [fb, fnX, nz, ra]
theorem kY (p : Pic) (e : Bool) (hc : 1000 < cnt p) (h1 : p.length <= 30000) (hr : ∀ q ∈ p, q.2.length <= 30000) : dl [aY p, .bl e] = some (.bl true) := by
 have l1 : kS "TooGreat" [dh, cz, dW, eS] = some [true, true, false, false] := by first | rfl | decide +kernel
 have l2 : kS "TooGreat" [eU, eR, gb, eY] = some [false, false, false, false] := by first | rfl | decide +kernel
 have d1 := zq [true, true, false, false] [true, true, false, false]
 have d2 := zq [false, false, false, false] [false, false, false, false]
 have hcn : xNs.contains "TooGreat" = true := by first | rfl | decide +kernel
 have ra := sk p e hc h1 hr
 have ht : BJ xNs 4 (xrE (nq fb (ag (aw 0) (ag (aw 1) au)))) [(2, [dh, cz, dW, eS]), (3, [eU, eR, gb, eY])] [.sh (aY p), .sh (.bl e), .sh (.lst []), .sh (.lst []), .un] = some (.nx [.un, .un, .sh (.lst ([true, true, false, false].map .bl)), .sh (.lst ([false, false, false, false].map .bl)), .un]) := by
  have hm : xrE (nq fb (ag (aw 0) (ag (aw 1) au))) [.sh (aY p), .sh (.bl e), .sh (.lst []), .sh (.lst []), .un] = some (.rz "TooGreat") := by
   simp [ra]
  unfold BJ
  rw [if_pos (by simp), hm]
  show (if xNs.contains "TooGreat" then _ else none) = _
  rw [if_pos hcn, wm _ _ l1 2 (by decide) (by decide), wm _ _ l2 3 (by decide) (by decide)]
  rfl
 have e0 : jl [.sh (aY p), .sh (.bl e), .un, .un, .un] = some (.rt (.bl true)) := by
  unfold jl
  refine (bp (ρ' := [.sh (aY p), .sh (.bl e), .sh (.lst []), .un, .un]) (by simp)).trans ?_
  refine (bp (ρ' := [.sh (aY p), .sh (.bl e), .sh (.lst []), .sh (.lst []), .un]) (by simp)).trans ?_
  refine (bp ht).trans ?_
  simp at d1 d2
  simp [d1, d2]
 exact BA (n := 5) (ds := [aY p, .bl e]) e0
theorem tR (ns : List Int) (k : Nat) : ∃ v : Int, bJ [.scr (ns.map D.int), .int (k : Int)] = some (.int v) := by
 by_cases h : k < ns.length
 ·have h' : (k : Int) < ns.length := by lia
  have ac : atI (ns.map D.int) (k : Int) = some (.int ns[k]) := Gh (by rw [List.getElem?_map, List.getElem?_eq_getElem h]; rfl)
  exact ⟨ns[k], by simp [bJ, gR, fnO, jf, h', ac]⟩
 ·have h' : ¬ (k : Int) < ns.length := by lia
  exact ⟨0, by simp [bJ, gR, fnO, jf, h']⟩
theorem xo {p : Pic} (c : cV p) (hc : cnt p <= 1000) (h : (a8 p).length <= 30000) (h1 : p.length <= 30000) (hr : ∀ q ∈ p, q.2.length <= 30000) (e : Bool) :
  aS [aY p, .bl e] = some (.tup [aY (fM ((dL e ((bj (a8 p)).length + 1) [] (bj (a8 p))).2.map cT)), .lst ((dL e ((bj (a8 p)).length + 1) [] (bj (a8 p))).1.map prD)]) := by
 have hl := lV (a8 p) (wJ c)
 rw [<- uU] at hl
 exact uA (aY p) _ e (ss p c hc h h1 hr) (vg c) (by lia)
theorem tu {p : Pic} (c : cV p) (hc : cnt p <= 1000) (h : (a8 p).length <= 30000) (h1 : p.length <= 30000) (hr : ∀ q ∈ p, q.2.length <= 30000) (e : Bool) (st : ∀ d ∈ bj (a8 p), goF (bj (a8 p)) e d = false) :
  aS [aY p, .bl e] = some (.tup [aY p, .lst []]) := by
 rw [xo c hc h h1 hr e, pj st]
 show some (D.tup [aY (fM ((bj (a8 p)).map fun c => (c.2, c.1, c.1))), .lst []]) = _
 rw [wc c]
theorem rn (p : Pic) : okD 50 (.tup [aY p, .lst []]) = true := by
 have h : okD 49 (aY p) = true := by
  rw [okD]
  refine j7 p fun q _ => ?_
  simp only [okD, okDs, Bool.and_true, Bool.true_and]
  exact j7 q.2 fun r _ => by simp [okD, okDs]
 have h2 : okD 49 (.lst []) = true := by simp [okD, okDs]
 rw [okD, okDs, okDs, okDs, h, h2]
 rfl
theorem qC (y lo : Int) (n : Nat) : bj (a8 [(y, [(lo, lo + n)])]) = aL y lo (n + 1) := by
 show dJ (y, lo, lo + n) ++ [] = _
 rw [List.append_nil]
 unfold dJ aL
 rw [show (lo + (n : Int) + 1 - lo).toNat = n + 1 by lia]
theorem qY (y lo : Int) (n : Nat) : cV [(y, [(lo, lo + n)])] := pcanon_cons.mpr ⟨⟨iC (by dsimp only; lia), fun z => by cases z⟩, fun _ h => (by cases h), qT⟩
theorem wF (y lo hi : Int) : cnt [(y, [(lo, hi)])] = hi - lo + 1 := by simp [cnt, gD]
theorem tS (y lo : Int) (n : Nat) (hn : n < 1000) : aS [aY [(y, [(lo, lo + n)])], .bl true] = some (.tup [aY [(y, [(lo, lo + n)])], .lst []]) :=
 tu (qY y lo n) (by rw [wF]; lia) (by show 1 <= 30000; decide) (by show 1 <= 30000; decide) (fun q hq => by rw [List.mem_singleton.mp hq]; show 1 <= 30000; decide) true (by rw [qC]; exact yY y lo (n + 1))
theorem ut (y lo : Int) (n : Nat) (h0 : n ≠ 0) (hn : n < 1000) : aS [aY [(y, [(lo, lo + n)])], .bl false] = some (.tup [aY [(y, [(lo + n, lo + n)])], .lst ((aL y lo n).map prD)]) := by
 rw [xo (qY y lo n) (by rw [wF]; lia) (by show 1 <= 30000; decide) (by show 1 <= 30000; decide) (fun q hq => by rw [List.mem_singleton.mp hq]; show 1 <= 30000; decide) false, qC, Be y lo n _ h0]
 have hp : fM [cT (lo + (n : Int), y)] = [(y, [(lo + (n : Int), lo + n)])] := AL (p := [(y, [(lo + (n : Int), lo + n)])]) (pcanon_cons.mpr ⟨⟨iC (Int.le_refl _), fun z => by cases z⟩, fun _ h => (by cases h), qT⟩)
 show some (D.tup [aY (fM [cT (lo + (n : Int), y)]), _]) = _
 rw [hp]
theorem yc (a : Nat) (x y : Int) (h2 : 2 <= a) (h6 : a <= 6) : aS [aY (bC a x y), .bl true] = some (.tup [aY (bC a x y), .lst []]) := by
 have hlen : (bC a x y).length = 2 * a + 1 := by unfold bC; simp [dg]; lia
 have hrow : ∀ q ∈ bC a x y, q.2.length = 1 := fun q hq => by
  unfold bC at hq
  rcases List.mem_append.mp hq with h | h
  ·obtain ⟨v, _, rfl⟩ := List.mem_map.mp h; rfl
  ·rcases List.mem_cons.mp h with rfl | h
   ·rfl
   ·obtain ⟨v, _, rfl⟩ := List.mem_map.mp h; rfl
 have hstr : (a8 (bC a x y)).length = (bC a x y).length := by
  have : ∀ p : Pic, (∀ q ∈ p, q.2.length = 1) -> (a8 p).length = p.length := fun p => by
   induction p with
   | nil => intro _; rfl
   | cons q p ih =>
    intro h
    rw [gu, List.length_append, List.length_map, h q List.mem_cons_self, ih fun r hr => h r (List.mem_cons_of_mem _ hr), List.length_cons]
    lia
  exact this _ hrow
 have hc : cnt (bC a x y) <= 1000 := by
  have e1 : ∀ l : List Int, cnt (l.map fun v => (v, [(x, x)])) = l.length := fun l => by
   induction l with
   | nil => rfl
   | cons v l ih =>
    unfold cnt at ih ⊢
    rw [List.map_cons, List.map_cons, List.sum_cons, ih]
    simp [gD]
    lia
  have e2 : ∀ p q : Pic, cnt (p ++ q) = cnt p + cnt q := fun p q => by unfold cnt; rw [List.map_append, List.sum_append]
  have e3 : ∀ (q : Int × R) (p : Pic), cnt (q :: p) = gD q.2 + cnt p := fun q p => by unfold cnt; rw [List.map_cons, List.sum_cons]
  unfold bC
  rw [e2, e3, e1, e1, dg, dg]
  simp [gD]
  lia
 exact tu (vW a x y) hc (by lia) (by lia) (fun q hq => by rw [hrow q hq]; decide) true (vQ (a := a) (x := x) (y := y) (by lia) (Ag a x y))
theorem A2 (y lo : Int) (n : Nat) (hn : n < 1000) : fP [.lst ((aL y lo n).map prD ++ [prD (lo + n, y)])] = some ((aL y lo (n + 1)).map prD) := by
 have e : aL y lo n ++ [(lo + (n : Int), y)] = aL y lo (n + 1) := by
  unfold aL
  rw [nh n 1, List.map_append]
  rfl
 have e2 : (aL y lo n).map prD ++ [prD (lo + n, y)] = (aL y lo (n + 1)).map prD := by rw [<- e, List.map_append]; rfl
 have hl : (aL y lo (n + 1)).length = n + 1 := by unfold aL; rw [List.length_map, dg]
 have hb := n6 (aL y lo (n + 1)) (by lia)
 have hpw : (aL y lo (n + 1)).Pairwise fun p q => p.1 < q.1 := by
  unfold aL
  rw [List.pairwise_map]
  exact BV _ _
 have hs : kN (aL y lo (n + 1)) = aL y lo (n + 1) := by
  refine List.Perm.eq_of_pairwise (le := fun p q => p.1 <= q.1) (fun a b ha hb h k => ?_) (xh _) (hpw.imp fun h => Int.le_of_lt h) (eT _)
  have h1 := (eT _).mem_iff.mp ha
  obtain ⟨a1, a2⟩ := a
  obtain ⟨b1, b2⟩ := b
  have m1 := (fx y lo (n + 1) a1 a2).mp h1
  have m2 := (fx y lo (n + 1) b1 b2).mp hb
  dsimp only at h k
  rw [m1.1, m2.1, show a1 = b1 by lia]
 rw [e2]
 rw [hs] at hb
 exact hb
theorem uB (y x : Int) : fF [aY [(y, [(x, x)])]] = some (.int 1) := by
 have : x - x + 1 = 1 := by lia
 simp [fF, nB, fnO, pG, pd, qX, qW, A1, AY]
theorem Ca (ns : List Int) (h : ns.length <= 63) : Hu [.scr (ns.map D.int)] = some (.bl true) := by
 obtain ⟨P20, hP20⟩ : ∃ P : Int, (10 : Int) ^ (20 : Int).toNat = P := ⟨_, rfl⟩
 have p20 : wp (.int 10) (.int 20) = some (.int P20) := by rw [<- hP20]; exact DN (by decide)
 have h20 : 0 < P20 := by rw [<- hP20]; decide
 obtain ⟨P19, hP19⟩ : ∃ P : Int, (10 : Int) ^ (19 : Int).toNat = P := ⟨_, rfl⟩
 have p19 : wp (.int 10) (.int 19) = some (.int P19) := by rw [<- hP19]; exact DN (by decide)
 obtain ⟨P58, hP58⟩ : ∃ P : Int, (10 : Int) ^ (58 : Int).toNat = P := ⟨_, rfl⟩
 have p58 : wp (.int 10) (.int 58) = some (.int P58) := by rw [<- hP58]; exact DN (by decide)
 have h58 : 0 < P58 := by rw [<- hP58]; decide
 obtain ⟨f, hf⟩ := tR ns 0
 obtain ⟨g, hg⟩ := tR ns 1
 have hf' : bJ [.scr (ns.map D.int), .int 0] = some (.int f) := hf
 have hg' : bJ [.scr (ns.map D.int), .int 1] = some (.int g) := hg
 obtain ⟨lo, hlo⟩ : ∃ lo : Int, g % P20 - P19 = lo := ⟨_, rfl⟩
 generalize hS : D.scr (ns.map D.int) = S at *
 have l1 : 1 <= LIM := bn (by lia)
 have l2 : 2 <= LIM := bn (by lia)
 have l4 : 4 <= LIM := bn (by lia)
 have z58 := Int.emod_nonneg f (show P58 ≠ 0 by lia)
 have ad : ∀ a b : D, bz (.tup [a]) (.tup [b]) = some (.tup [a, b]) := fun a b => by rw [FM, if_pos (show [a].length + [b].length <= LIM from l2)]; rfl
 have key : ∃ G : Pic, 1000 < cnt G /\ G.length <= 30000 /\ (∀ q ∈ G, q.2.length <= 30000) /\ ∀ c9 : XS, bE (xIf (xB (xOp (dEq false) (xOp hJ (xOp yd (am 1) (xC (.int 9))) (xC (.int 3))) (xC (.int 1)))) (gh (xOp bz (am 4) (aR (ag (aR (ag (xOp bz (xOp hJ (am 1) (xC (.int 9))) (xC (.int 1))) (ag (aR (ag (aR (ag (xOp bz (am 3) (xC (.int 3))) (ag (xOp bz (am 3) (xC (.int 4))) au))) (ag (aR (ag (xOp bz (am 3) (xC (.int 9))) (ag (xOp bz (am 3) (xC (.int 9))) au))) au))) au))) au))) (aj 4)) gU) (bE (xIf (xB (xOp (dEq false) (xOp hJ (xOp yd (am 1) (xC (.int 9))) (xC (.int 3))) (xC (.int 2)))) (gh (xCB jb (ag (xL (bZ [none, some 3, some 2] (EL (ag (xC (.int 4)) au)) (aj 0) d6 (aR (ag (aw 0) (ag (aR (ag (aR (ag (aw 1) (ag (xOp bz (xOp bz (am 1) (xC (.int 300))) (xOp hJ (am 2) (xC (.int 50)))) au))) au)) au))))) au)) (aj 4)) gU) c9)
   [.sh S, .sh (.int f), .sh (.int g), .sh (.int lo), .sh (aY [(f % 9, [(lo, lo + 1000 + f % P58)])]), .un, .un, .un, .un, .un] = c9 [.sh S, .sh (.int f), .sh (.int g), .sh (.int lo), .sh (aY G), .un, .un, .un, .un, .un] := by
  by_cases c1 : f / 9 % 3 = 1
  ·refine ⟨[(f % 9, [(lo, lo + 1000 + f % P58)]), (f % 9 + 1, [(lo + 3, lo + 4), (lo + 9, lo + 9)])], ?_, by show 2 <= 30000; decide, fun q hq => ?_, fun c9 => ?_⟩
   ·simp [cnt, gD]; lia
   ·simp at hq
    rcases hq with rfl | rfl <;> simp
   ·simp [aY, pyD, zX, prD, c1, l1, l2, ad]
  ·by_cases c2 : f / 9 % 3 = 2
   ·have hr : Hi [D.int 4] = some [.int 0, .int 1, .int 2, .int 3] := by
     show ifC _ _ _ = _
     rw [jk (by lia)]
     rfl
    refine ⟨[(0, [(lo, lo + 300 + g % 50)]), (1, [(lo, lo + 300 + g % 50)]), (2, [(lo, lo + 300 + g % 50)]), (3, [(lo, lo + 300 + g % 50)])], ?_, by show 4 <= 30000; decide, fun q hq => ?_, fun c9 => ?_⟩
    ·simp [cnt, gD]; lia
    ·simp at hq
     rcases hq with rfl | rfl | rfl | rfl <;> simp
    ·simp [aY, pyD, zX, prD, c2, l1, l2, l4, hr, cE]
   ·refine ⟨[(f % 9, [(lo, lo + 1000 + f % P58)])], ?_, by show 1 <= 30000; decide, fun q hq => ?_, fun c9 => ?_⟩
    ·simp [cnt, gD]; lia
    ·simp at hq
     rw [hq]
     simp
    ·simp [c1, c2]
 obtain ⟨G, g1, g2, g3, hk⟩ := key
 have r1 := kY G true g1 g2 g3
 have r2 := kY G false g1 g2 g3
 obtain ⟨a, ha⟩ : ∃ a : Nat, (a : Int) = 2 + f % 5 := ⟨(2 + f % 5).toNat, by lia⟩
 have hC := wY a lo (g % 7) (by lia)
 have hT := yc a lo (g % 7) (by lia) (by lia)
 have dC := jZ true (rn (bC a lo (g % 7)))
 rw [ha] at hC
 generalize bC a lo (g % 7) = C at *
 have hrun : y9 [.sh S, .un, .un, .un, .un, .un, .un, .un, .un, .un] = some (.rt (.bl true)) := by
  unfold y9
  rw [bp (ρ' := [.sh S, .sh (.int f), .un, .un, .un, .un, .un, .un, .un, .un]) (by simp [hf']), bp (ρ' := [.sh S, .sh (.int f), .sh (.int g), .un, .un, .un, .un, .un, .un, .un]) (by simp [hg']), bp (ρ' := [.sh S, .sh (.int f), .sh (.int g), .sh (.int lo), .un, .un, .un, .un, .un, .un]) (by simp [p20, p19, h20, hlo]),
   bp (ρ' := [.sh S, .sh (.int f), .sh (.int g), .sh (.int lo), .sh (aY [(f % 9, [(lo, lo + 1000 + f % P58)])]), .un, .un, .un, .un, .un]) (by simp [p58, h58, l1, l2]), hk,
   bp (ρ' := [.sh S, .sh (.int f), .sh (.int g), .sh (.int lo), .sh (aY G), .un, .un, .un, .un, .un]) (by generalize aY G = GG at *; simp [r1, r2])]
  rw [bp (ρ' := [.sh S, .sh (.int f), .sh (.int g), .sh (.int lo), .sh (aY G), .sh (aY C), .un, .un, .un, .un]) (by generalize aY C = CC at *; simp [hC])]
  rw [bp (ρ' := [.sh S, .sh (.int f), .sh (.int g), .sh (.int lo), .sh (aY G), .sh (aY C), .un, .un, .un, .un]) (by generalize aY C = CC at *; simp [hT, dC, l2])]
  by_cases c8 : f / 27 % 8 = 1
  ·have j1 := tS (f % 5) lo 999 (by decide)
   have j2 := jZ false (rn [(f % 5, [(lo, lo + ((999 : Nat) : Int))])])
   have j1' : aS [.tup [.tup [.int (f % 5), .tup [.tup [.int lo, .int (lo + 999)]]]], .bl true] = some (.tup [.tup [.tup [.int (f % 5), .tup [.tup [.int lo, .int (lo + 999)]]]], .lst []]) := j1
   have j2' : dEq false (.tup [.tup [.tup [.int (f % 5), .tup [.tup [.int lo, .int (lo + 999)]]]], .lst []]) (.tup [.tup [.tup [.int (f % 5), .tup [.tup [.int lo, .int (lo + 999)]]]], .lst []]) = some (.bl true) := j2
   simp [c8, l1, l2, j1', j2']
  ·obtain ⟨n, hn⟩ : ∃ n : Nat, (n : Int) = 2 + g % 10 := ⟨(2 + g % 10).toNat, by lia⟩
   have hhi : lo + 2 + g % 10 = lo + n := by lia
   rw [bp (ρ' := [.sh S, .sh (.int f), .sh (.int g), .sh (.int lo), .sh (aY G), .sh (aY C), .un, .un, .un, .un]) (by simp [c8]), bp (ρ' := [.sh S, .sh (.int f), .sh (.int g), .sh (.int lo), .sh (aY G), .sh (aY C), .un, .sh (.int (lo + n)), .un, .un]) (by simp [hhi]),
    bp (ρ' := [.sh S, .sh (.int f), .sh (.int g), .sh (.int lo), .sh (aY G), .sh (aY C), .un, .sh (.int (lo + n)), .sh (aY [(f % 5, [(lo, lo + n)])]), .un]) (by simp [l1, l2])]
   have t1 := tS (f % 5) lo n (by lia)
   have t2 := jZ true (rn [(f % 5, [(lo, lo + (n : Int))])])
   have t3 := ut (f % 5) lo n (by lia) (by lia)
   have t4 := uB (f % 5) (lo + n)
   have t5 := A2 (f % 5) lo n (by lia)
   have hll : ((aL (f % 5) lo n).length : Int) = n := by unfold aL; rw [List.length_map, dg]
   rw [bp (ρ' := [.sh S, .sh (.int f), .sh (.int g), .sh (.int lo), .sh (aY G), .sh (aY C), .un, .sh (.int (lo + n)), .sh (aY [(f % 5, [(lo, lo + n)])]), .un]) (by generalize aY [(f % 5, [(lo, lo + (n : Int))])] = LL at *; simp [t1, t2, l2])]
   rw [bp (ρ' := [.sh S, .sh (.int f), .sh (.int g), .sh (.int lo), .sh (aY G), .sh (aY C), .un, .sh (.int (lo + n)), .sh (aY [(f % 5, [(lo, lo + n)])]), .sh (.tup [aY [(f % 5, [(lo + n, lo + n)])], .lst ((aL (f % 5) lo n).map prD)])]) (by generalize aY [(f % 5, [(lo, lo + (n : Int))])] = LL at *; simp [t3])]
   have t4' : fF [.tup [.tup [.int (f % 5), .tup [.tup [.int (lo + n), .int (lo + n)]]]]] = some (.int 1) := t4
   have hL : n + 1 <= LIM := bn (by lia)
   have hln : (aL (f % 5) lo n).length = n := by unfold aL; rw [List.length_map, dg]
   have t5' : fP [.lst ((aL (f % 5) lo n).map prD ++ [.tup [.int (lo + n), .int (f % 5)]])] = some ((aL (f % 5) lo (n + 1)).map prD) := t5
   have hr : BO [D.int lo, D.int (lo + n + 1)] = some ((zs lo (n + 1)).map D.int) := by
    rw [<- mq]
    show some (gy lo (lo + n + 1 - lo).toNat) = _
    rw [show (lo + (n : Int) + 1 - lo).toNat = n + 1 by lia]
   have hc : cE (aj 0) d6 (aR (ag (aw 0) (ag (xOp hJ (am 1) (xC (.int 5))) au))) [.un, .sh (.int f)] ((zs lo (n + 1)).map D.int) = some ((aL (f % 5) lo (n + 1)).map prD) := by
    unfold aL
    rw [List.map_map]
    exact dw D.int _ _ fun v _ => by simp [iz, l2]
   have hz : (zs lo (n + 1)).length <= LIM := by rw [dg]; exact hL
   have ok : okD 50 (.lst ((aL (f % 5) lo (n + 1)).map prD)) = true := by
    rw [okD]
    exact j7 _ fun r _ => by simp [okD, okDs]
   have dE := jZ false ok
   have ez : aY [(f % 5, [(lo + (n : Int), lo + n)])] = .tup [.tup [.int (f % 5), .tup [.tup [.int (lo + n), .int (lo + n)]]]] := rfl
   rw [ez]
   generalize (aL (f % 5) lo (n + 1)).map prD = L1 at *
   generalize hL0 : (aL (f % 5) lo n).map prD = L0 at *
   have hl0 : L0.length = n := by rw [<- hL0, List.length_map, hln]
   have hl0' : (L0.length : Int) = n := by lia
   have dn : ∀ i : Int, dEq true (.int i) (.int i) = some (.bl false) := fun i => jZ true (by simp [okD])
   have sb : lo + (n : Int) - lo = n := by lia
   rw [bp (ρ' := [.sh S, .sh (.int f), .sh (.int g), .sh (.int lo), .sh (aY G), .sh (aY C), .un, .sh (.int (lo + n)), .sh (aY [(f % 5, [(lo, lo + n)])]), .sh (.tup [.tup [.tup [.int (f % 5), .tup [.tup [.int (lo + n), .int (lo + n)]]]], .lst L0])]) (by simp [t4', hl0', sb, dn])]
   have a1 : ∀ x : D, atI [x] 0 = some x := fun _ => rfl
   have a2 : ∀ x y : D, atI [x, y] 0 = some x := fun _ _ => rfl
   have a3 : ∀ x y : D, atI [x, y] 1 = some y := fun _ _ => rfl
   have va : ∀ b : D, bz (.lst L0) (.lst [b]) = some (.lst (L0 ++ [b])) := fun b => by rw [GB, if_pos (show L0.length + [b].length <= LIM by rw [hl0]; exact hL)]
   rw [dg] at hz
   simp [a1, a2, a3, va, t5', l1, l2, hr, dg, hz, hc, dE]
 exact BA (n := 10) (ds := [S]) hrun
end P
namespace Lw
open PySem L2 M P
def top (i : Nat) : Stmt := PySem.Challenge.pw_shapethin_k54_too_great_to_be_thinned.main.body.getD i (.Pass ⟨0, 0, 0, 0⟩)
abbrev gH : Stmt := top 10
abbrev c5 : Stmt := top 11
abbrev cm : Stmt := top 14
abbrev bR : Stmt := top 15
abbrev cA : Stmt := top 16
abbrev di : Stmt := top 17
abbrev iM : Stmt := top 21
abbrev bT : Stmt := top 22
abbrev bo : Stmt := top 25
abbrev dD : Stmt := top 26
abbrev cQ : Stmt := top 27
abbrev eh : Stmt := top 28
abbrev lP : Stmt := top 29
abbrev eN : Stmt := top 31
abbrev eX : Stmt := top 32
abbrev f9 : Stmt := top 33
abbrev ir : Stmt := top 34
abbrev jW : Stmt := top 35
structure Txt (K : W.Frag) (mg : Str -> Option Value) : Prop where
 ValueError : mg "ValueError" = none
 dict : mg "dict" = none
 isinstance : mg "isinstance" = none
 len : mg "len" = none
 max : mg "max" = none
 range : mg "range" = none
 sorted : mg "sorted" = none
 sum : mg "sum" = none
 tuple : mg "tuple" = none
 MOST_CELLS : ∃ t : Tok, mg "MOST_CELLS" = some (.int (1000) t)
 ROUND : ∃ (u : Value) (v : V), mg "ROUND" = some u /\ RelV v u /\ ∀ S, Den K S (.mtp [.mtp [.int (0), .int (-1), .int (1)], .mtp [.int (-1), .int (-1), .int (2)], .mtp [.int (-1), .int (0), .int (4)], .mtp [.int (-1), .int (1), .int (8)], .mtp [.int (0), .int (1), .int (16)], .mtp [.int (1), .int (1), .int (32)], .mtp [.int (1), .int (0), .int (64)], .mtp [.int (1), .int (-1), .int (128)]]) v
 SIDES : ∃ (u : Value) (v : V), mg "SIDES" = some u /\ RelV v u /\ ∀ S, Den K S (.mtp [.mtp [.int (0), .int (-1)], .mtp [.int (-1), .int (0)], .mtp [.int (0), .int (1)], .mtp [.int (1), .int (0)]]) v
 STRAIGHT : ∃ (u : Value) (v : V), mg "STRAIGHT" = some u /\ RelV v u /\ ∀ S, Den K S (.mtp [.int (1), .int (4), .int (16), .int (64)]) v
 xc_ShapeError : ∃ T : Addr, mg "ShapeError" = some (.ref T) /\ ∀ N ∈ xNs, ∀ C : Addr, W.nsIn K mainGlobals N = some (some (.ref C)) -> W.exmOne K (.ref C) (.ref T) = some true
 xa_NoBack : ∃ T : Addr, mg "NoBack" = some (.ref T) /\ gL K eY (.ref T)
 xa_NoForm : ∃ T : Addr, mg "NoForm" = some (.ref T) /\ gL K eU (.ref T)
 xa_NoName : ∃ T : Addr, mg "NoName" = some (.ref T) /\ gL K eR (.ref T)
 xa_NoRow : ∃ T : Addr, mg "NoRow" = some (.ref T) /\ gL K gb (.ref T)
 xa_NoText : ∃ T : Addr, mg "NoText" = some (.ref T) /\ gL K eS (.ref T)
 xa_TooGreat : ∃ T : Addr, mg "TooGreat" = some (.ref T) /\ gL K dh (.ref T)
 xa_TooMany : ∃ T : Addr, mg "TooMany" = some (.ref T) /\ gL K dW (.ref T)
 xa_ValueError : gL K cz (.type "ValueError")
 xr_TooGreat : ∃ C : Addr, W.nsIn K mainGlobals "TooGreat" = some (some (.ref C)) /\ W.excIn K C bmV "ValueError.__new__" = true /\ mg "TooGreat" = some (.ref C)
section
variable {P : Program} {w : World} {K : W.Frag} {mg : Str -> Option Value} {base : Heap}
theorem tN : FnScope ["pairs", "stretches", "a", "b"] ["pairs"] (ak gH) := ⟨rfl, rfl, rfl, by decide +kernel, rfl, by decide +kernel, by decide +kernel⟩
theorem mG : FnScope ["row"] ["row"] (ak c5) := ⟨rfl, rfl, rfl, by decide +kernel, rfl, by decide +kernel, by decide +kernel⟩
theorem jz : FnScope ["picture", "stretches", "y", "row"] ["picture"] (ak bR) := ⟨rfl, rfl, rfl, by decide +kernel, rfl, by decide +kernel, by decide +kernel⟩
theorem xA : FnScope ["number", "twice"] ["number"] (ak iM) := ⟨rfl, rfl, rfl, by decide +kernel, rfl, by decide +kernel, by decide +kernel⟩
theorem jy : FnScope ["number"] ["number"] (ak bT) := ⟨rfl, rfl, rfl, by decide +kernel, rfl, by decide +kernel, by decide +kernel⟩
theorem kZ : FnScope ["kept", "dx", "dy"] ["kept", "dx", "dy"] (ak cQ) := ⟨rfl, rfl, rfl, by decide +kernel, rfl, by decide +kernel, by decide +kernel⟩
theorem nI : FnScope ["_law_script", "_law_k"] ["_law_script", "_law_k"] (ak eN) := ⟨rfl, rfl, rfl, by decide +kernel, rfl, by decide +kernel, by decide +kernel⟩
theorem tL : FnScope ["_law_arm", "_law_x", "_law_y", "_law_rows"] ["_law_arm", "_law_x", "_law_y"] (ak f9) := ⟨rfl, rfl, rfl, by decide +kernel, rfl, by decide +kernel, by decide +kernel⟩
theorem uf : FnScope ["_law_picture", "_law_total", "_law_y", "_law_row", "_law_low", "_law_high"] ["_law_picture"] (ak ir) := ⟨rfl, rfl, rfl, by decide +kernel, rfl, by decide +kernel, by decide +kernel⟩
theorem kP : FnScope ["stretches", "pairs_by_row", "y", "a", "b"] ["stretches"] (ak cm) := ⟨rfl, rfl, rfl, by decide +kernel, rfl, by decide +kernel, by decide +kernel⟩
theorem jO : FnScope ["picture"] ["picture"] (ak cA) := ⟨rfl, rfl, rfl, by decide +kernel, rfl, by decide +kernel, by decide +kernel⟩
theorem zw : FnScope ["kept", "x", "y", "ends", "number"] ["kept", "x", "y", "ends"] (ak lP) := ⟨rfl, rfl, rfl, by decide +kernel, rfl, by decide +kernel, by decide +kernel⟩
theorem gX : FnScope ["picture", "cells", "y", "a", "b"] ["picture"] (ak di) := ⟨rfl, rfl, rfl, by decide +kernel, rfl, by decide +kernel, by decide +kernel⟩
theorem mL : FnScope ["kept", "free", "ends", "taken", "cell"] ["kept", "free", "ends"] (ak eh) := ⟨rfl, rfl, rfl, by decide +kernel, rfl, by decide +kernel, by decide +kernel⟩
theorem lc : FnScope ["kept", "ends", "taken", "dx", "dy"] ["kept", "ends"] (ak dD) := ⟨rfl, rfl, rfl, by decide +kernel, rfl, by decide +kernel, by decide +kernel⟩
theorem iX : FnScope ["picture", "ends", "kept", "taken", "taken_before"] ["picture", "ends"] (ak bo) := ⟨rfl, rfl, rfl, by decide +kernel, rfl, by decide +kernel, by decide +kernel⟩
theorem nY : FnScope ["_law_picture", "_law_ends", "_law_named", "_law_others", "e"] ["_law_picture", "_law_ends"] (ak eX) := ⟨rfl, rfl, rfl, by decide +kernel, rfl, by decide +kernel, by decide +kernel⟩
theorem Cg : FnScope ["_law_script", "_law_first", "_law_second", "_law_low", "_law_great", "_law_cross_here", "_law_just", "_law_high", "_law_line", "_law_found"] ["_law_script"] (ak jW) := ⟨rfl, rfl, rfl, by decide +kernel, rfl, by decide +kernel, by decide +kernel⟩
theorem wx {f : Addr} {fd : FuncData} (F : Fun K "_law_cell_at" "_law_cell_at" eN f fd) (T : Txt K mg) : FnOk P w K mg base CX0 1 f fd ["_law_script", "_law_k"] (gQ K) := by
 refine F.ok nI (fun vs H Q E h => h.1) (fun cdv A outer s H vs Q E hr h => ?_)
 have nd := (nI).nd
 exact ⟨_, az (ik (bW G3 (pv 1) (bQ fS (by rfl) T.len m5 (af (pv 0) ai)) (bL _)) (aH (bO (cY bM (pv 0) (pv 1) (fun _ _ => rfl)))) dS) (aH (bO av)), xx h⟩
theorem Af {f : Addr} {fd : FuncData} (F : Fun K "_law_count" "_law_count" ir f fd) (T : Txt K mg) : FnOk P w K mg base CX0 1 f fd ["_law_picture"] (kt K) := by
 refine F.ok uf (fun vs H Q E h => h.1) (fun cdv A outer s H vs Q E hr h => ?_)
 have nd := (uf).nd
 exact ⟨_, az (bh (i := 1) nd rfl (.inl rfl) av) (az (ka PassesOwn.never rfl (cH (pv 0)) (dq rfl (aE (aD (i := 2) nd rfl (.inl rfl)) (aE (aD (i := 3) nd rfl (.inl rfl)) ci))) (aH (ka PassesOwn.never rfl (cH (pv 3)) (dq rfl (aE (aD (i := 4) nd rfl (.inl rfl)) (aE (aD (i := 5) nd rfl (.inl rfl)) ci))) (aH (bh (i := 1) nd rfl (.inl rfl) (aQ aX (aQ nj (aQ aX (pv 1) (pv 5)) (pv 4)) av)))))) (aH (bO (pv 1)))), A7 h⟩
theorem Al {f : Addr} {fd : FuncData} (F : Fun K "_law_cross" "_law_cross" f9 f fd) (T : Txt K mg) : FnOk P w K mg base CX0 1 f fd ["_law_arm", "_law_x", "_law_y"] (kD K) := by
 refine F.ok tL (fun vs H Q E h => h.1) (fun cdv A outer s H vs Q E hr h => ?_)
 have nd := (tL).nd
 exact ⟨_, az (ET (i := 3) (hN := nd) (hi0 := rfl) (hx := Or.inl rfl) (ck := (show CmpOk ["_law_arm", "_law_x", "_law_y", "_law_rows"] (ak f9) _ ["_law_at", "_law_x"] [none, some 1] from eK)) (hi := mW (by rfl) T.range (af (aQ nj (pv 2) (pv 0)) (af (aQ aX (aQ aX (pv 2) (pv 0)) av) ai))) (hg := fun _ => aD (i := 0) (show List.Nodup (["_law_at", "_law_x"] : List Str) from by decide +kernel) rfl (.inl rfl)) (hs := aV) (ht := fun _ => dR) (he := fun _ => aN (af (pv 0) (af (aN (af (aN (af (pv 1) (af (pv 1) ai))) ai)) ai)))) (az (CT (aN (af (pv 2) (af (aN (af (aN (af (aQ nj (pv 1) (pv 0)) (af (aQ aX (pv 1) (pv 0)) ai))) ai)) ai))) (Dj (pv 3) (pv 0) xQ)) (aH (bO (fc fg (by rfl) T.tuple mM (af (pv 3) ai))))), Bd h⟩
theorem oO {f : Addr} {fd : FuncData} (F : Fun K "count_around" "count_around" bT f fd) (T : Txt K mg) : FnOk P w K mg base CX0 1 f fd ["number"] (dP K) := by
 refine F.ok jy (fun vs H Q E h => h.1) (fun cdv A outer s H vs Q E hr h => ?_)
 have nd := (jy).nd
 exact ⟨_, aH (bO (bQ fS (by rfl) T.len m5 (af (cn (show CmpOk ["number"] (ak bT) _ ["dx", "dy", "worth", "number"] [none, none, none, some 0] from eK) (cH (mO (by rfl) T.ROUND.choose_spec.choose_spec.1 T.ROUND.choose_spec.choose_spec.2.1 T.ROUND.choose_spec.choose_spec.2.2)) (fun _ => dq rfl (aE (aD (i := 0) (show List.Nodup (["dx", "dy", "worth", "number"] : List Str) from by decide +kernel) rfl (.inl rfl)) (aE (aD (i := 1) (show List.Nodup (["dx", "dy", "worth", "number"] : List Str) from by decide +kernel) rfl (.inl rfl)) (aE (aD (i := 2) (show List.Nodup (["dx", "dy", "worth", "number"] : List Str) from by decide +kernel) rfl (.inl rfl)) ci)))) (g9 (aZ aV (aZ aV (aZ aV fi aO) aO) aO)) (fun _ => kA (bW (lG hr.units) (aQ yi (pv 3) (pv 2)) av (bL _))) (fun _ => pv 2)) ai))), oW h⟩
theorem sg {f : Addr} {fd : FuncData} (F : Fun K "free_cells" "free_cells" cQ f fd) (T : Txt K mg) : FnOk P w K mg base CX0 1 f fd ["kept", "dx", "dy"] (fh K) := by
 refine F.ok kZ (fun vs H Q E h => h.1) (fun cdv A outer s H vs Q E hr h => ?_)
 have nd := (kZ).nd
 exact ⟨_, aH (bO (cn (show CmpOk ["kept", "dx", "dy"] (ak cQ) _ ["x", "y", "kept", "dx", "dy"] [none, none, some 0, some 1, some 2] from eK) (CV (pv 0)) (fun _ => dq rfl (aE (aD (i := 0) (show List.Nodup (["x", "y", "kept", "dx", "dy"] : List Str) from by decide +kernel) rfl (.inl rfl)) (aE (aD (i := 1) (show List.Nodup (["x", "y", "kept", "dx", "dy"] : List Str) from by decide +kernel) rfl (.inl rfl)) ci))) (g9 (aZ aV (aZ aV fi aO) aO)) (fun _ => kA (Ce (AG (un1 hr.units) (aN (af (aQ aX (pv 0) (pv 3)) (af (aQ aX (pv 1) (pv 4)) ai))) (pv 2)))) (fun _ => aN (af (pv 0) (af (pv 1) ai))))), rO h⟩
theorem uM {f : Addr} {fd : FuncData} (F : Fun K "row_count" "row_count" c5 f fd) (T : Txt K mg) : FnOk P w K mg base CX0 1 f fd ["row"] (fN K) := by
 refine F.ok mG (fun vs H Q E h => h.1) (fun cdv A outer s H vs Q E hr h => ?_)
 have nd := (mG).nd
 exact ⟨_, aH (bO (bQ (mR rfl) (by rfl) T.sum yj (af (cn (show CmpOk ["row"] (ak c5) _ ["a", "b"] [none, none] from eK) (cH (pv 0)) (fun _ => dq rfl (aE (aD (i := 0) (show List.Nodup (["a", "b"] : List Str) from by decide +kernel) rfl (.inl rfl)) (aE (aD (i := 1) (show List.Nodup (["a", "b"] : List Str) from by decide +kernel) rfl (.inl rfl)) ci))) (g9 (aZ aV (aZ aV fi aO) aO)) (fun _ => dR) (fun _ => aQ aX (aQ nj (pv 1) (pv 0)) av)) ai))), vl h⟩
theorem AR {f : Addr} {fd : FuncData} (F : Fun K "row_of" "row_of" gH f fd) (T : Txt K mg) : FnOk P w K mg base CX0 1 f fd ["pairs"] (kr K) := by
 refine F.ok tN (fun vs H Q E h => h.1) (fun cdv A outer s H vs Q E hr h => ?_)
 have nd := (tN).nd
 exact ⟨_, az (bh (i := 1) nd rfl (.inl rfl) (cU ai)) (az (ka PassesOwn.never rfl (cH (bQ i9 (by rfl) T.sorted nG (af (cn (show CmpOk ["pairs", "stretches", "a", "b"] (ak gH) _ ["a", "b"] [none, none] from eK) (cH (pv 0)) (fun _ => dq rfl (aE (aD (i := 0) (show List.Nodup (["a", "b"] : List Str) from by decide +kernel) rfl (.inl rfl)) (aE (aD (i := 1) (show List.Nodup (["a", "b"] : List Str) from by decide +kernel) rfl (.inl rfl)) ci))) (g9 (aZ aV (aZ aV fi aO) aO)) (fun _ => kA (bW BH (pv 0) (pv 1) (bL _))) (fun _ => aN (af (pv 0) (af (pv 1) ai)))) ai))) (dq rfl (aE (aD (i := 2) nd rfl (.inl rfl)) (aE (aD (i := 3) nd rfl (.inl rfl)) ci))) (aH (ik (PW.pt (DR (kc (pv 1) (fun _ => rfl)) (y3 (bW BH (pv 2) (aQ aX (cY bM (cY bM (pv 1) (qI lJ av) (fun _ _ => rfl)) av (fun _ _ => rfl)) av) (bL _))))) (aH (CT (aN (af (cY bM (cY bM (pv 1) (qI lJ av) (fun _ _ => rfl)) av (fun _ _ => rfl)) (af (bQ (AF rfl) (by rfl) T.max Fx (af (cY bM (cY bM (pv 1) (qI lJ av) (fun _ _ => rfl)) av (fun _ _ => rfl)) (af (pv 3) ai))) ai))) (Dj (pv 1) (qI lJ av) xQ))) (aH (fj (mn PySem.F.plainAttrs_list PySem.F.slot_list_append PySem.F.type_list_append iw (pv 1) (af (aN (af (pv 2) (af (pv 3) ai))) ai))))))) (aH (bO (fc fg (by rfl) T.tuple mM (af (pv 1) ai))))), Aw h⟩
theorem oi {f : Addr} {fd : FuncData} (F : Fun K "stretches_of" "stretches_of" bR f fd) (T : Txt K mg) : FnOk P w K mg base CX0 1 f fd ["picture"] (dQ K) := by
 refine F.ok jz (fun vs H Q E h => h.1) (fun cdv A outer s H vs Q E hr h => ?_)
 have nd := (jz).nd
 exact ⟨_, az (bh (i := 1) nd rfl (.inl rfl) (cU ai)) (az (ka PassesOwn.never rfl (cH (pv 0)) (dq rfl (aE (aD (i := 2) nd rfl (.inr rfl)) (aE (aD (i := 3) nd rfl (.inl rfl)) ci))) (aH (fj (mn PySem.F.plainAttrs_list PySem.F.slot_list_extend PySem.F.type_list_extend oZ (pv 1) (af (cn (show CmpOk ["picture", "stretches", "y", "row"] (ak bR) _ ["a", "b", "y"] [none, none, some 2] from eK) (cH (pv 3)) (fun _ => dq rfl (aE (aD (i := 0) (show List.Nodup (["a", "b", "y"] : List Str) from by decide +kernel) rfl (.inl rfl)) (aE (aD (i := 1) (show List.Nodup (["a", "b", "y"] : List Str) from by decide +kernel) rfl (.inl rfl)) ci))) (g9 (aZ aV (aZ aV fi aO) aO)) (fun _ => dR) (fun _ => aN (af (pv 2) (af (pv 0) (af (pv 1) ai))))) ai))))) (aH (bO (pv 1)))), oD h⟩
theorem Br {f : Addr} {fd : FuncData} (F : Fun K "turns" "turns" iM f fd) (T : Txt K mg) : FnOk P w K mg base CX0 1 f fd ["number"] (mx K) := by
 refine F.ok xA (fun vs H Q E h => h.1) (fun cdv A outer s H vs Q E hr h => ?_)
 have nd := (xA).nd
 exact ⟨_, az (bh (i := 1) nd rfl (.inr rfl) (aQ aX (pv 0) (aQ yz av (pv 0)))) (aH (bO (bQ fS (by rfl) T.len m5 (af (cn (show CmpOk ["number", "twice"] (ak iM) _ ["worth", "number", "twice"] [none, some 0, some 1] from eK) (cH (mO (by rfl) T.STRAIGHT.choose_spec.choose_spec.1 T.STRAIGHT.choose_spec.choose_spec.2.1 T.STRAIGHT.choose_spec.choose_spec.2.2)) (fun _ => aD (i := 0) (show List.Nodup (["worth", "number", "twice"] : List Str) from by decide +kernel) rfl (.inl rfl)) aV (fun _ => kA (PW.pt (DR (bW (jj hr.units) (aQ yi (pv 1) (pv 0)) av (bL _)) (y3 (bW (lG hr.units) (aQ yi (pv 2) (aQ aX (aQ yz av (pv 0)) (aQ yz av (pv 0)))) av (bL _)))))) (fun _ => pv 0)) ai)))), Bs h⟩
theorem p0 {f : Addr} {fd : FuncData} (F : Fun K "count_cells" "count_cells" cA f fd) (T : Txt K mg) {cM : Addr} {mD : FuncData} (jX : FnOk P w K mg base CX0 1 cM mD ["row"] (fN K)) (cN : mg "row_count" = some (.ref cM)) (eg : W.keepIn K (.ref cM) = true) (jI : Binds K mD ["row"] []) : FnOk P w K mg base CX0 2 f fd ["picture"] (df K) := by
 refine F.ok jO (fun vs H Q E h => h.1) (fun cdv A outer s H vs Q E hr h => ?_)
 have nd := (jO).nd
 exact ⟨_, aH (bO (bQ (mR rfl) (by rfl) T.sum yj (af (cn (show CmpOk ["picture"] (ak cA) _ ["y", "row"] [none, none] from eK) (cH (pv 0)) (fun _ => dq rfl (aE (aD (i := 0) (show List.Nodup (["y", "row"] : List Str) from by decide +kernel) rfl (.inl rfl)) (aE (aD (i := 1) (show List.Nodup (["y", "row"] : List Str) from by decide +kernel) rfl (.inl rfl)) ci))) (g9 (aZ aV (aZ aV fi aO) aO)) (fun _ => dR) (fun _ => bc jX (hr.mono (by decide)) (by rfl) cN eg jI .nil cZ (af (pv 1) ai))) ai))), p9 h⟩
theorem D7 {f : Addr} {fd : FuncData} (F : Fun K "goes" "goes" lP f fd) (T : Txt K mg) {gO : Addr} {vV : FuncData} (uY : FnOk P w K mg base CX0 1 gO vV ["number"] (mx K)) (iU : mg "turns" = some (.ref gO)) (kw : W.keepIn K (.ref gO) = true) (vi : Binds K vV ["number"] []) {bx : Addr} {jA : FuncData} (fU : FnOk P w K mg base CX0 1 bx jA ["number"] (dP K)) (bP : mg "count_around" = some (.ref bx)) (cK : W.keepIn K (.ref bx) = true) (gf : Binds K jA ["number"] []) : FnOk P w K mg base CX0 2 f fd ["kept", "x", "y", "ends"] (o7 K) := by
 refine F.ok zw (fun vs H Q E h => h.1) (fun cdv A outer s H vs Q E hr h => ?_)
 have nd := (zw).nd
 exact ⟨_, az (bh (i := 4) nd rfl (.inl rfl) (bQ (mR rfl) (by rfl) T.sum yj (af (cn (show CmpOk ["kept", "x", "y", "ends", "number"] (ak lP) _ ["dx", "dy", "worth", "kept", "x", "y"] [none, none, none, some 0, some 1, some 2] from eK) (cH (mO (by rfl) T.ROUND.choose_spec.choose_spec.1 T.ROUND.choose_spec.choose_spec.2.1 T.ROUND.choose_spec.choose_spec.2.2)) (fun _ => dq rfl (aE (aD (i := 0) (show List.Nodup (["dx", "dy", "worth", "kept", "x", "y"] : List Str) from by decide +kernel) rfl (.inl rfl)) (aE (aD (i := 1) (show List.Nodup (["dx", "dy", "worth", "kept", "x", "y"] : List Str) from by decide +kernel) rfl (.inl rfl)) (aE (aD (i := 2) (show List.Nodup (["dx", "dy", "worth", "kept", "x", "y"] : List Str) from by decide +kernel) rfl (.inl rfl)) ci)))) (g9 (aZ aV (aZ aV (aZ aV fi aO) aO) aO)) (fun _ => kA (Ce (FJ (un1 hr.units) (aN (af (aQ aX (pv 4) (pv 0)) (af (aQ aX (pv 5) (pv 1)) ai))) (pv 3)))) (fun _ => pv 2)) ai))) (aH (bO (DI (kE (jj hr.units) (bc uY (hr.mono (by decide)) (by rfl) iU kw vi .nil cZ (af (pv 4) ai)) av (bL _)) (yv (HH (Gx (pv 3)) (yv (kE Hl (bc fU (hr.mono (by decide)) (by rfl) bP cK gf .nil cZ (af (pv 4) ai)) av (bL _)))))))), EM h⟩
theorem rM {f : Addr} {fd : FuncData} (F : Fun K "picture_of" "picture_of" cm f fd) (T : Txt K mg) {fw : Addr} {tF : FuncData} (qG : FnOk P w K mg base CX0 1 fw tF ["pairs"] (kr K)) (fH : mg "row_of" = some (.ref fw)) (ip : W.keepIn K (.ref fw) = true) (qO : Binds K tF ["pairs"] []) : FnOk P w K mg base CX0 2 f fd ["stretches"] (fk K) := by
 refine F.ok kP (fun vs H Q E h => h.1) (fun cdv A outer s H vs Q E hr h => ?_)
 have nd := (kP).nd
 exact ⟨_, az (bh (i := 1) nd rfl (.inl rfl) (cU ai)) (az (ka PassesOwn.never rfl (cH (bQ i9 (by rfl) T.sorted nG (af (cn (show CmpOk ["stretches", "pairs_by_row", "y", "a", "b"] (ak cm) _ ["y", "a", "b"] [none, none, none] from eK) (cH (pv 0)) (fun _ => dq rfl (aE (aD (i := 0) (show List.Nodup (["y", "a", "b"] : List Str) from by decide +kernel) rfl (.inl rfl)) (aE (aD (i := 1) (show List.Nodup (["y", "a", "b"] : List Str) from by decide +kernel) rfl (.inl rfl)) (aE (aD (i := 2) (show List.Nodup (["y", "a", "b"] : List Str) from by decide +kernel) rfl (.inl rfl)) ci)))) (g9 (aZ aV (aZ aV (aZ aV fi aO) aO) aO)) (fun _ => kA (bW BH (pv 1) (pv 2) (bL _))) (fun _ => aN (af (pv 0) (af (pv 1) (af (pv 2) ai))))) ai))) (dq rfl (aE (aD (i := 2) nd rfl (.inl rfl)) (aE (aD (i := 3) nd rfl (.inl rfl)) (aE (aD (i := 4) nd rfl (.inl rfl)) ci)))) (az (ik (PW.pt (BG (yo (kc (pv 1) (fun _ => rfl))) (yI (bW (lG hr.units) (cY bM (cY bM (pv 1) (qI lJ av) (fun _ _ => rfl)) av (fun _ _ => rfl)) (pv 2) (bL _))))) (aH (fj (mn PySem.F.plainAttrs_list PySem.F.slot_list_append PySem.F.type_list_append iw (pv 1) (af (aN (af (pv 2) (af (cU ai) ai))) ai)))) dS) (aH (fj (mn PySem.F.plainAttrs_list PySem.F.slot_list_append PySem.F.type_list_append iw (cY bM (cY bM (pv 1) (qI lJ av) (fun _ _ => rfl)) av (fun _ _ => rfl)) (af (aN (af (pv 3) (af (pv 4) ai))) ai)))))) (aH (bO (fc fg (by rfl) T.tuple mM (af (cn (show CmpOk ["stretches", "pairs_by_row", "y", "a", "b"] (ak cm) _ ["y", "pairs"] [none, none] from eK) (cH (pv 1)) (fun _ => dq rfl (aE (aD (i := 0) (show List.Nodup (["y", "pairs"] : List Str) from by decide +kernel) rfl (.inl rfl)) (aE (aD (i := 1) (show List.Nodup (["y", "pairs"] : List Str) from by decide +kernel) rfl (.inl rfl)) ci))) (g9 (aZ aV (aZ aV fi aO) aO)) (fun _ => dR) (fun _ => aN (af (pv 0) (af (bc qG (hr.mono (by decide)) (by rfl) fH ip qO .nil cZ (af (pv 1) ai)) ai)))) ai))))), se h⟩
theorem u6 {f : Addr} {fd : FuncData} (F : Fun K "cells_of" "cells_of" di f fd) (T : Txt K mg) {a5 : Addr} {c6 : FuncData} (cR : FnOk P w K mg base CX0 2 a5 c6 ["picture"] (df K)) (bd : mg "count_cells" = some (.ref a5)) (bw : W.keepIn K (.ref a5) = true) (cS : Binds K c6 ["picture"] []) : FnOk P w K mg base (CXe P w) 3 f fd ["picture"] (fO K) := by
 refine F.okX gX (fun vs H Q E h => h.1) (fun cdv A outer s H vs Q E hr h => ?_)
 have nd := (gX).nd
 exact ⟨_, wK (ik (bW Dy (bc cR (hr.mono (by decide)) (by rfl) bd bw cS .nil cZ (af (pv 0) ai)) (o3 (v := .int (1000)) (by rfl) T.MOST_CELLS.choose_spec ⟨_, rfl⟩) (bL _)) (aH (B0 Ej T.xr_TooGreat hr.hd (by rfl) (Gj))) dS), uG h⟩
theorem wM {f : Addr} {fd : FuncData} (F : Fun K "cells_of" "cells_of" di f fd) (T : Txt K mg) {a5 : Addr} {c6 : FuncData} (cR : FnOk P w K mg base CX0 2 a5 c6 ["picture"] (df K)) (bd : mg "count_cells" = some (.ref a5)) (bw : W.keepIn K (.ref a5) = true) (cS : Binds K c6 ["picture"] []) {bA : Addr} {jB : FuncData} (fV : FnOk P w K mg base CX0 1 bA jB ["picture"] (dQ K)) (bU : mg "stretches_of" = some (.ref bA)) (cG : W.keepIn K (.ref bA) = true) (gk : Binds K jB ["picture"] []) : FnOk P w K mg base CX0 3 f fd ["picture"] (fv K) := by
 refine F.ok gX (fun vs H Q E h => h.1) (fun cdv A outer s H vs Q E hr h => ?_)
 have nd := (gX).nd
 exact ⟨_, az (ik (bW Dy (bc cR (hr.mono (by decide)) (by rfl) bd bw cS .nil cZ (af (pv 0) ai)) (o3 (v := .int (1000)) (by rfl) T.MOST_CELLS.choose_spec ⟨_, rfl⟩) (bL _)) (aH (Cy)) dS) (az (bh (i := 1) nd rfl (.inl rfl) (cU ai)) (az (ka PassesOwn.never rfl (cH (bc fV (hr.mono (by decide)) (by rfl) bU cG gk .nil cZ (af (pv 0) ai))) (dq rfl (aE (aD (i := 2) nd rfl (.inr rfl)) (aE (aD (i := 3) nd rfl (.inl rfl)) (aE (aD (i := 4) nd rfl (.inl rfl)) ci)))) (aH (fj (mn PySem.F.plainAttrs_list PySem.F.slot_list_extend PySem.F.type_list_extend oZ (pv 1) (af (cn (show CmpOk ["picture", "cells", "y", "a", "b"] (ak di) _ ["x", "y"] [none, some 2] from eK) (mW (by rfl) T.range (af (pv 3) (af (aQ aX (pv 4) av) ai))) (fun _ => aD (i := 0) (show List.Nodup (["x", "y"] : List Str) from by decide +kernel) rfl (.inl rfl)) aV (fun _ => dR) (fun _ => aN (af (pv 0) (af (pv 1) ai)))) ai))))) (aH (bO (pv 1))))), vL h⟩
theorem u4 {f : Addr} {fd : FuncData} (F : Fun K "take_pass" "take_pass" eh f fd) (T : Txt K mg) {jM : Addr} {zt : FuncData} (yJ : FnOk P w K mg base CX0 2 jM zt ["kept", "x", "y", "ends"] (o7 K)) (jh : mg "goes" = some (.ref jM)) (mZ : W.keepIn K (.ref jM) = true) (yl : Binds K zt ["kept", "x", "y", "ends"] []) : FnOk P w K mg base CX0 3 f fd ["kept", "free", "ends"] (fQ K) := by
 refine F.ok mL (fun vs H Q E h => h.1) (fun cdv A outer s H vs Q E hr h => ?_)
 have nd := (mL).nd
 exact ⟨_, az (bh (i := 3) nd rfl (.inl rfl) (cU ai)) (az (ka PassesOwn.never rfl (cH (pv 1)) (aD (i := 4) nd rfl (.inl rfl)) (aH (ik (kc (ve 0 (bc yJ (hr.mono (by decide)) (by rfl) jh mZ yl .nil cZ (af (pv 0) (af (cY bM (pv 4) av (fun _ _ => rfl)) (af (cY bM (pv 4) av (fun _ _ => rfl)) (af (pv 2) ai)))))) (fun _ => rfl)) (az (fj (mn PySem.F.plainAttrs_dict PySem.F.slot_dict_pop PySem.F.type_dict_pop (D2 (Er hr.units)) (pv 0) (af (pv 4) ai))) (aH (fj (mn PySem.F.plainAttrs_list PySem.F.slot_list_append PySem.F.type_list_append iw (pv 3) (af (pv 4) ai))))) dS))) (aH (bO (pv 3)))), vG h⟩
theorem wl {f td : Addr} {fd : FuncData} (F : FunD K "thinned" "thinned" bo td f fd) (T : Txt K mg) {bt : Addr} {d8 : FuncData} (eM : FnOk P w K mg base CX0 3 bt d8 ["picture"] (fv K)) (bi : mg "cells_of" = some (.ref bt)) (cB : W.keepIn K (.ref bt) = true) (dY : Binds K d8 ["picture"] []) (jK : FnOk P w K mg base (CXe P w) 3 bt d8 ["picture"] (fO K)) : FnOk P w K mg base (CXe P w) 4 f fd ["picture", "ends"] (g8 K) := by
 refine F.okX iX (fun vs H Q E h => h.1) (fun cdv A outer s H vs Q E hr h => ?_)
 have nd := (iX).nd
 exact ⟨_, wK (GX (bh (i := 2) nd rfl (.inl rfl) (fc (lY (uT hr.units) rfl) (by rfl) T.dict uX (af (cn (show CmpOk ["picture", "ends", "kept", "taken", "taken_before"] (ak bo) _ ["cell"] [none] from eK) (cH (bc jK (hr.mono (by decide)) (by rfl) bi cB dY .nil Gc (af (pv 0) ai))) (fun _ => aD (i := 0) (show List.Nodup (["cell"] : List Str) from by decide +kernel) rfl (.inl rfl)) aV (fun _ => dR) (fun _ => aN (af (pv 0) (af eD ai)))) ai))) (bh (i := 2) nd rfl (.inl rfl) (fc (lY (uT hr.units) rfl) (by rfl) T.dict uX (af (cn (show CmpOk ["picture", "ends", "kept", "taken", "taken_before"] (ak bo) _ ["cell"] [none] from eK) (cH (bc eM (hr.mono (by decide)) (by rfl) bi cB dY .nil cZ (af (pv 0) ai))) (fun _ => aD (i := 0) (show List.Nodup (["cell"] : List Str) from by decide +kernel) rfl (.inl rfl)) aV (fun _ => dR) (fun _ => aN (af (pv 0) (af eD ai)))) ai)))), wS h⟩
theorem rT {f : Addr} {fd : FuncData} (F : Fun K "take_round" "take_round" dD f fd) (T : Txt K mg) {cO : Addr} {mj : FuncData} (jR : FnOk P w K mg base CX0 3 cO mj ["kept", "free", "ends"] (fQ K)) (km : mg "take_pass" = some (.ref cO)) (ee : W.keepIn K (.ref cO) = true) (kf : Binds K mj ["kept", "free", "ends"] []) {cc : Addr} {k7 : FuncData} (ju : FnOk P w K mg base CX0 1 cc k7 ["kept", "dx", "dy"] (fh K)) (br : mg "free_cells" = some (.ref cc)) (dF : W.keepIn K (.ref cc) = true) (iZ : Binds K k7 ["kept", "dx", "dy"] []) : FnOk P w K mg base CX0 4 f fd ["kept", "ends"] (fm K) := by
 refine F.ok lc (fun vs H Q E h => h.1) (fun cdv A outer s H vs Q E hr h => ?_)
 have nd := (lc).nd
 exact ⟨_, az (bh (i := 2) nd rfl (.inl rfl) (cU ai)) (az (ka PassesOwn.never rfl (cH (mO (by rfl) T.SIDES.choose_spec.choose_spec.1 T.SIDES.choose_spec.choose_spec.2.1 T.SIDES.choose_spec.choose_spec.2.2)) (dq rfl (aE (aD (i := 3) nd rfl (.inl rfl)) (aE (aD (i := 4) nd rfl (.inl rfl)) ci))) (aH (fj (mn PySem.F.plainAttrs_list PySem.F.slot_list_extend PySem.F.type_list_extend oZ (pv 2) (af (bc jR (hr.mono (by decide)) (by rfl) km ee kf .nil cZ (af (pv 0) (af (ve 0 (bc ju (hr.mono (by decide)) (by rfl) br dF iZ .nil cZ (af (pv 0) (af (pv 3) (af (pv 4) ai))))) (af (pv 1) ai)))) ai))))) (aH (bO (pv 2)))), su h⟩
theorem xR {f : Addr} {fd : FuncData} (F : Fun K "_law_refused" "_law_refused" eX f fd) (T : Txt K mg) {bI : Addr} {e9 : FuncData} (lX : FnOk P w K mg base (CXe P w) 4 bI e9 ["picture", "ends"] (g8 K)) (aS : mg "thinned" = some (.ref bI)) (cI : PySem.W.keepIn K (.ref bI) = true) (eW : Binds K e9 ["picture", "ends"] []) : FnOk P w K mg base CX0 5 f fd ["_law_picture", "_law_ends"] (gW K) := by
 refine F.ok nY (fun vs H Q E h => h.1) (fun cdv A outer s H vs Q E hr h => ?_)
 have nd := (nY).nd
 exact ⟨_, az (bh (i := 2) nd rfl (.inl rfl) (cU ai)) (az (bh (i := 3) nd rfl (.inl rfl) (cU ai)) (az (FK (L := xNs) (i := 4) rfl rfl nd rfl rfl T.xc_ShapeError (by rfl) (fun ps W E hp => aH (fj (bc lX (hr.mono (by decide)) (by rfl) aS cI eW .nil hp (af (pv 0) (af (pv 1) ai))))) (fun e => (show PSs _ _ (zI K 4 [(2, [dh, cz, dW, eS]), (3, [eU, eR, gb, eY])]) from az (bh (i := 2) nd rfl (.inl rfl) (cU (af (lK T.xa_TooGreat (by rfl) T.isinstance (by rfl) (pv 4)) (af (E5 T.ValueError PyProof.Rows.Boot.«ValueError» T.xa_ValueError (by rfl) T.isinstance (by rfl) (pv 4)) (af (lK T.xa_TooMany (by rfl) T.isinstance (by rfl) (pv 4)) (af (lK T.xa_NoText (by rfl) T.isinstance (by rfl) (pv 4)) ai)))))) (aH (bh (i := 3) nd rfl (.inl rfl) (cU (af (lK T.xa_NoForm (by rfl) T.isinstance (by rfl) (pv 4)) (af (lK T.xa_NoName (by rfl) T.isinstance (by rfl) (pv 4)) (af (lK T.xa_NoRow (by rfl) T.isinstance (by rfl) (pv 4)) (af (lK T.xa_NoBack (by rfl) T.isinstance (by rfl) (pv 4)) ai)))))))))) (aH (bO (DI (kE (jj hr.units) (pv 2) (cU (af eD (af eD (af eD (af eD ai))))) (bL _)) (yv (kE (jj hr.units) (pv 3) (cU (af eD (af eD (af eD (af eD ai))))) (bL _)))))))), xf h⟩
theorem yr {f td : Addr} {fd : FuncData} (F : FunD K "thinned" "thinned" bo td f fd) (T : Txt K mg) {bt : Addr} {d8 : FuncData} (eM : FnOk P w K mg base CX0 3 bt d8 ["picture"] (fv K)) (bi : mg "cells_of" = some (.ref bt)) (cB : W.keepIn K (.ref bt) = true) (dY : Binds K d8 ["picture"] []) {cf : Addr} {kM : FuncData} (i0 : FnOk P w K mg base CX0 4 cf kM ["kept", "ends"] (fm K)) (iP : mg "take_round" = some (.ref cf)) (dA : W.keepIn K (.ref cf) = true) (i4 : Binds K kM ["kept", "ends"] []) {cj : Addr} {kO : FuncData} (iI : FnOk P w K mg base CX0 2 cj kO ["stretches"] (fk K)) (bN : mg "picture_of" = some (.ref cj)) (dB : W.keepIn K (.ref cj) = true) (iG : Binds K kO ["stretches"] []) : FnOk P w K mg base CX0 5 f fd ["picture", "ends"] (iQ K) := by
 refine F.ok iX (fun vs H Q E h => h.1) (fun cdv A outer s H vs Q E hr h => ?_)
 have nd := (iX).nd
 exact ⟨_, az (bh (i := 2) nd rfl (.inl rfl) (fc (lY (uT hr.units) rfl) (by rfl) T.dict uX (af (cn (show CmpOk ["picture", "ends", "kept", "taken", "taken_before"] (ak bo) _ ["cell"] [none] from eK) (cH (bc eM (hr.mono (by decide)) (by rfl) bi cB dY .nil cZ (af (pv 0) ai))) (fun _ => aD (i := 0) (show List.Nodup (["cell"] : List Str) from by decide +kernel) rfl (.inl rfl)) aV (fun _ => dR) (fun _ => aN (af (pv 0) (af eD ai)))) ai))) (az (bh (i := 3) nd rfl (.inl rfl) (cU ai)) (az (bh (i := 4) nd rfl (.inl rfl) (qI lJ av)) (az (BL PassesOwn.never (bW Dy (bQ fS (by rfl) T.len m5 (af (pv 3) ai)) (pv 4) (bL _)) (az (bh (i := 4) nd rfl (.inl rfl) (bQ fS (by rfl) T.len m5 (af (pv 3) ai))) (aH (fj (mn PySem.F.plainAttrs_list PySem.F.slot_list_extend PySem.F.type_list_extend oZ (pv 3) (af (bc i0 (hr.mono (by decide)) (by rfl) iP dA i4 .nil cZ (af (pv 2) (af (pv 1) ai))) ai)))))) (aH (bO (aN (af (bc iI (hr.mono (by decide)) (by rfl) bN dB iG .nil cZ (af (ve 2 (cn (show CmpOk ["picture", "ends", "kept", "taken", "taken_before"] (ak bo) _ ["x", "y"] [none, none] from eK) (CV (pv 2)) (fun _ => dq rfl (aE (aD (i := 0) (show List.Nodup (["x", "y"] : List Str) from by decide +kernel) rfl (.inl rfl)) (aE (aD (i := 1) (show List.Nodup (["x", "y"] : List Str) from by decide +kernel) rfl (.inl rfl)) ci))) (g9 (aZ aV (aZ aV fi aO) aO)) (fun _ => dR) (fun _ => aN (af (pv 1) (af (pv 0) (af (pv 0) ai)))))) ai)) (af (pv 3) ai)))))))), yW h⟩
theorem FA {f : Addr} {fd : FuncData} (F : Fun K "law" "law" jW f fd) (T : Txt K mg) {dm : Addr} {n4 : FuncData} (i6 : FnOk P w K mg base CX0 1 dm n4 ["_law_script", "_law_k"] (gQ K)) (bJ : mg "_law_cell_at" = some (.ref dm)) (dZ : W.keepIn K (.ref dm) = true) (jp : Binds K n4 ["_law_script", "_law_k"] []) {c7 : Addr} {nO : FuncData} (iL : FnOk P w K mg base CX0 5 c7 nO ["_law_picture", "_law_ends"] (gW K)) (dl : mg "_law_refused" = some (.ref c7)) (dX : W.keepIn K (.ref c7) = true) (jt : Binds K nO ["_law_picture", "_law_ends"] []) {fB : Addr} {tZ : FuncData} (qU : FnOk P w K mg base CX0 1 fB tZ ["_law_arm", "_law_x", "_law_y"] (kD K)) (im : mg "_law_cross" = some (.ref fB)) (iq : W.keepIn K (.ref fB) = true) (rE : Binds K tZ ["_law_arm", "_law_x", "_law_y"] []) {bI : Addr} {e9 : FuncData} (fR : FnOk P w K mg base CX0 5 bI e9 ["picture", "ends"] (iQ K)) (aS : mg "thinned" = some (.ref bI)) (cI : W.keepIn K (.ref bI) = true) (eW : Binds K e9 ["picture", "ends"] []) (iR : Binds K e9 ["picture", "ends"] [.bool true]) {fD : Addr} {sT : FuncData} (qq : FnOk P w K mg base CX0 1 fD sT ["_law_picture"] (kt K)) (fF : mg "_law_count" = some (.ref fD)) (iA : W.keepIn K (.ref fD) = true) (qy : Binds K sT ["_law_picture"] []) : FnOk P w K mg base CX0 6 f fd ["_law_script"] (pD K) := by
 refine F.ok Cg (fun vs H Q E h => h.1) (fun cdv A outer s H vs Q E hr h => ?_)
 have nd := (Cg).nd
 exact ⟨_, az (bh (i := 1) nd rfl (.inr rfl) (bc i6 (hr.mono (by decide)) (by rfl) bJ dZ jp .nil cZ (af (pv 0) (af av ai)))) (az (bh (i := 2) nd rfl (.inr rfl) (bc i6 (hr.mono (by decide)) (by rfl) bJ dZ jp .nil cZ (af (pv 0) (af av ai)))) (az (bh (i := 3) nd rfl (.inr rfl) (aQ nj (aQ eG (pv 2) (aQ yq av av)) (aQ yq av av))) (az (bh (i := 4) nd rfl (.inl rfl) (aN (af (aN (af (aQ eG (pv 1) av) (af (aN (af (aN (af (pv 3) (af (aQ aX (aQ aX (pv 3) av) (aQ eG (pv 1) (aQ yq av av))) ai))) ai)) ai))) ai))) (az (ik (bW (jj hr.units) (aQ eG (aQ uE (pv 1) av) av) av (bL _)) (aH (bh (i := 4) nd rfl (.inl rfl) (aQ aX (pv 4) (aN (af (aN (af (aQ aX (aQ eG (pv 1) av) av) (af (aN (af (aN (af (aQ aX (pv 3) av) (af (aQ aX (pv 3) av) ai))) (af (aN (af (aQ aX (pv 3) av) (af (aQ aX (pv 3) av) ai))) ai))) ai))) ai))))) dS) (az (ik (bW (jj hr.units) (aQ eG (aQ uE (pv 1) av) av) av (bL _)) (aH (bh (i := 4) nd rfl (.inl rfl) (fc fg (by rfl) T.tuple mM (af (cn (show CmpOk ["_law_script", "_law_first", "_law_second", "_law_low", "_law_great", "_law_cross_here", "_law_just", "_law_high", "_law_line", "_law_found"] (ak jW) _ ["_law_y", "_law_low", "_law_second"] [none, some 3, some 2] from eK) (Bf (by rfl) T.range (af av ai)) (fun _ => aD (i := 0) (show List.Nodup (["_law_y", "_law_low", "_law_second"] : List Str) from by decide +kernel) rfl (.inl rfl)) aV (fun _ => dR) (fun _ => aN (af (pv 0) (af (aN (af (aN (af (pv 1) (af (aQ aX (aQ aX (pv 1) av) (aQ eG (pv 2) av)) ai))) ai)) ai)))) ai)))) dS) (az (ik (PW.pt (BG (yo (kc (bc iL (hr.mono (by decide)) (by rfl) dl dX jt .nil cZ (af (pv 4) (af eD ai))) (fun _ => rfl))) (yI (yo (kc (bc iL (hr.mono (by decide)) (by rfl) dl dX jt .nil cZ (af (pv 4) (af eD ai))) (fun _ => rfl)))))) (aH (bO eD)) dS) (az (bh (i := 5) nd rfl (.inl rfl) (bc qU (hr.mono (by decide)) (by rfl) im iq rE .nil cZ (af (aQ aX av (aQ eG (pv 1) av)) (af (pv 3) (af (aQ eG (pv 2) av) ai))))) (az (ik (bW (lG hr.units) (bc fR (hr.mono (by decide)) (by rfl) aS cI iR (.cons (show RelV (.bl true) (Value.bool true) from rfl) .nil) cZ (af (pv 5) ai)) (aN (af (pv 5) (af (cU ai) ai))) (bL _)) (aH (bO eD)) dS) (az (ik (bW (jj hr.units) (aQ eG (aQ uE (pv 1) av) av) av (bL _)) (az (bh (i := 6) nd rfl (.inl rfl) (aN (af (aN (af (aQ eG (pv 1) av) (af (aN (af (aN (af (pv 3) (af (aQ aX (pv 3) av) ai))) ai)) ai))) ai))) (aH (bO (kE (jj hr.units) (bc fR (hr.mono (by decide)) (by rfl) aS cI iR (.cons (show RelV (.bl true) (Value.bool true) from rfl) .nil) cZ (af (pv 6) ai)) (aN (af (pv 6) (af (cU ai) ai))) (bL _))))) dS) (az (bh (i := 7) nd rfl (.inl rfl) (aQ aX (aQ aX (pv 3) av) (aQ eG (pv 2) av))) (az (bh (i := 8) nd rfl (.inl rfl) (aN (af (aN (af (aQ eG (pv 1) av) (af (aN (af (aN (af (pv 3) (af (pv 7) ai))) ai)) ai))) ai))) (az (ik (bW (lG hr.units) (bc fR (hr.mono (by decide)) (by rfl) aS cI eW .nil cZ (af (pv 8) (af eD ai))) (aN (af (pv 8) (af (cU ai) ai))) (bL _)) (aH (bO eD)) dS) (az (bh (i := 9) nd rfl (.inl rfl) (bc fR (hr.mono (by decide)) (by rfl) aS cI eW .nil cZ (af (pv 8) (af eD ai)))) (az (ik (PW.pt (BG (bW (lG hr.units) (bQ fS (by rfl) T.len m5 (af (cY bM (pv 9) av (fun _ _ => rfl)) ai)) (aQ nj (pv 7) (pv 3)) (bL _)) (yI (bW (lG hr.units) (bc qq (hr.mono (by decide)) (by rfl) fF iA qy .nil cZ (af (cY bM (pv 9) av (fun _ _ => rfl)) ai)) av (bL _))))) (aH (bO eD)) dS) (aH (bO (kE (jj hr.units) (bQ i9 (by rfl) T.sorted nG (af (aQ aX (cY bM (pv 9) av (fun _ _ => rfl)) (cU (af (aN (af (cY bM (cY bM (cY bM (cY bM (cY bM (pv 9) av (fun _ _ => rfl)) av (fun _ _ => rfl)) av (fun _ _ => rfl)) av (fun _ _ => rfl)) av (fun _ _ => rfl)) (af (cY bM (cY bM (cY bM (pv 9) av (fun _ _ => rfl)) av (fun _ _ => rfl)) av (fun _ _ => rfl)) ai))) ai))) ai)) (cn (show CmpOk ["_law_script", "_law_first", "_law_second", "_law_low", "_law_great", "_law_cross_here", "_law_just", "_law_high", "_law_line", "_law_found"] (ak jW) _ ["_law_x", "_law_first"] [none, some 1] from eK) (mW (by rfl) T.range (af (pv 3) (af (aQ aX (pv 7) av) ai))) (fun _ => aD (i := 0) (show List.Nodup (["_law_x", "_law_first"] : List Str) from by decide +kernel) rfl (.inl rfl)) aV (fun _ => dR) (fun _ => aN (af (pv 0) (af (aQ eG (pv 1) av) ai)))) (bL _)))))))))))))))))), Gs h⟩
end
theorem usS {us : List Value} {n : Nat} (h : us.length = n + 1) : ∃ a v, us = a :: v /\ v.length = n := by
 cases us with
 | nil => cases h
 | cons a v => exact ⟨a, v, rfl, Nat.succ.inj h⟩
theorem us1 {us : List Value} (h : us.length = 1) : ∃ a0, us = [a0] := by
 obtain ⟨a0, v0, rfl, h0⟩ := usS h
 cases v0 with
 | nil => exact ⟨a0, rfl⟩
 | cons a v => cases h0
theorem us2 {us : List Value} (h : us.length = 2) : ∃ a0 a1, us = [a0, a1] := by
 obtain ⟨a0, v0, rfl, h0⟩ := usS h
 obtain ⟨a1, v1, rfl, h1⟩ := usS h0
 cases v1 with
 | nil => exact ⟨a0, a1, rfl⟩
 | cons a v => cases h1
theorem us3 {us : List Value} (h : us.length = 3) : ∃ a0 a1 a2, us = [a0, a1, a2] := by
 obtain ⟨a0, v0, rfl, h0⟩ := usS h
 obtain ⟨a1, v1, rfl, h1⟩ := usS h0
 obtain ⟨a2, v2, rfl, h2⟩ := usS h1
 cases v2 with
 | nil => exact ⟨a0, a1, a2, rfl⟩
 | cons a v => cases h2
theorem us4 {us : List Value} (h : us.length = 4) : ∃ a0 a1 a2 a3, us = [a0, a1, a2, a3] := by
 obtain ⟨a0, v0, rfl, h0⟩ := usS h
 obtain ⟨a1, v1, rfl, h1⟩ := usS h0
 obtain ⟨a2, v2, rfl, h2⟩ := usS h1
 obtain ⟨a3, v3, rfl, h3⟩ := usS h2
 cases v3 with
 | nil => exact ⟨a0, a1, a2, a3, rfl⟩
 | cons a v => cases h3
theorem FF {l : W.OpenLaw} {w : World} {K : W.Frag} {h : Heap} {mg : Str -> Option Value} {fa : Addr} (X : K.In h) (G : h.Ns mainGlobals mg) (hfa : mg "law" = some (.ref fa))
  {fw : Addr} {zV Az : Option Addr} {Ad : Array (Option Value)} {A8 zY Bc A6 sZ zZ : Value}
  {cM : Addr} {uV uw : Option Addr} {uv : Array (Option Value)} {uC uD u5 vj mv uz : Value}
  {cj : Addr} {rV sM : Option Addr} {rZ : Array (Option Value)} {sf sD sJ rN k8 rQ : Value}
  {bA : Addr} {oS oK : Option Addr} {ol : Array (Option Value)} {oM oP oA oB jx oJ : Value}
  {a5 : Addr} {rF qL : Option Addr} {pF : Array (Option Value)} {pB pK qF qZ kn rB : Value}
  {bt : Addr} {wg vN : Option Addr} {xJ : Array (Option Value)} {v8 wI wU w4 nW w5 : Value}
  {gO : Addr} {Dm B3 : Option Addr} {BF : Array (Option Value)} {Bp Bn Bj C0 wO Du : Value}
  {bx : Addr} {oX oV : Option Addr} {oj : Array (Option Value)} {oQ oo oE oU jv oT : Value}
  {bI : Addr} {yT lu : Option Addr} {yw : Array (Option Value)} {xZ lR lj lD jm lO : Value}
  {gi : Addr} {dc_thinned_ : Value} {x9 : Option Addr} {ym : Nat} {yy : Array (Option Value)}
  {cf : Addr} {r8 rR : Option Addr} {sL : Array (Option Value)} {sw sN rK sE k6 rX : Value}
  {cc : Addr} {rJ sG : Option Addr} {rP : Array (Option Value)} {sv rS rY sF k9 sd : Value}
  {cO : Addr} {ux vn : Option Addr} {uS : Array (Option Value)} {u8 vd uR vE mP vw : Value}
  {jM : Addr} {EF Ez : Option Addr} {El : Array (Option Value)} {Ea E2 ES EE zJ Ed : Value}
  {dm : Addr} {vT xU : Option Addr} {xE : Array (Option Value)} {xl wH wN vZ n8 wV : Value}
  {c7 : Addr} {xc xz : Option Addr} {xX : Array (Option Value)} {xu wd wn wv nL vY : Value}
  {fB : Addr} {An A4 : Option Addr} {AK : Array (Option Value)} {AX Bh A3 Ar sP AQ : Value}
  {fD : Addr} {AV z7 : Option Addr} {A0 : Array (Option Value)} {Am A5 A9 z9 uj Ai : Value}
  {Cf : Addr} {FS Cb : Option Addr} {GC : Array (Option Value)} {Gk DH DS B4 yA DA : Value}
  {c_NoBack : Addr}
  {c_NoForm : Addr}
  {c_NoName : Addr}
  {c_NoRow : Addr}
  {c_NoText : Addr}
  {c_ShapeError : Addr}
  {c_TooGreat : Addr}
  {c_TooMany : Addr}
  {t_MOST_CELLS : Tok}
  {g_ROUND_0 : Addr} {od_ROUND_0 : Option Addr} {n_ROUND_0 : Nat} {sl_ROUND_0 : Array (Option Value)}
  {g_ROUND_1 : Addr} {od_ROUND_1 : Option Addr} {n_ROUND_1 : Nat} {sl_ROUND_1 : Array (Option Value)}
  {t_ROUND_1_0 : Tok}
  {t_ROUND_1_1 : Tok}
  {t_ROUND_1_2 : Tok}
  {g_ROUND_2 : Addr} {od_ROUND_2 : Option Addr} {n_ROUND_2 : Nat} {sl_ROUND_2 : Array (Option Value)}
  {t_ROUND_2_0 : Tok}
  {t_ROUND_2_1 : Tok}
  {t_ROUND_2_2 : Tok}
  {g_ROUND_3 : Addr} {od_ROUND_3 : Option Addr} {n_ROUND_3 : Nat} {sl_ROUND_3 : Array (Option Value)}
  {t_ROUND_3_0 : Tok}
  {t_ROUND_3_1 : Tok}
  {t_ROUND_3_2 : Tok}
  {g_ROUND_4 : Addr} {od_ROUND_4 : Option Addr} {n_ROUND_4 : Nat} {sl_ROUND_4 : Array (Option Value)}
  {t_ROUND_4_0 : Tok}
  {t_ROUND_4_1 : Tok}
  {t_ROUND_4_2 : Tok}
  {g_ROUND_5 : Addr} {od_ROUND_5 : Option Addr} {n_ROUND_5 : Nat} {sl_ROUND_5 : Array (Option Value)}
  {t_ROUND_5_0 : Tok}
  {t_ROUND_5_1 : Tok}
  {t_ROUND_5_2 : Tok}
  {g_ROUND_6 : Addr} {od_ROUND_6 : Option Addr} {n_ROUND_6 : Nat} {sl_ROUND_6 : Array (Option Value)}
  {t_ROUND_6_0 : Tok}
  {t_ROUND_6_1 : Tok}
  {t_ROUND_6_2 : Tok}
  {g_ROUND_7 : Addr} {od_ROUND_7 : Option Addr} {n_ROUND_7 : Nat} {sl_ROUND_7 : Array (Option Value)}
  {t_ROUND_7_0 : Tok}
  {t_ROUND_7_1 : Tok}
  {t_ROUND_7_2 : Tok}
  {g_ROUND_8 : Addr} {od_ROUND_8 : Option Addr} {n_ROUND_8 : Nat} {sl_ROUND_8 : Array (Option Value)}
  {t_ROUND_8_0 : Tok}
  {t_ROUND_8_1 : Tok}
  {t_ROUND_8_2 : Tok}
  {g_SIDES_0 : Addr} {od_SIDES_0 : Option Addr} {n_SIDES_0 : Nat} {sl_SIDES_0 : Array (Option Value)}
  {g_SIDES_1 : Addr} {od_SIDES_1 : Option Addr} {n_SIDES_1 : Nat} {sl_SIDES_1 : Array (Option Value)}
  {t_SIDES_1_0 : Tok}
  {t_SIDES_1_1 : Tok}
  {g_SIDES_2 : Addr} {od_SIDES_2 : Option Addr} {n_SIDES_2 : Nat} {sl_SIDES_2 : Array (Option Value)}
  {t_SIDES_2_0 : Tok}
  {t_SIDES_2_1 : Tok}
  {g_SIDES_3 : Addr} {od_SIDES_3 : Option Addr} {n_SIDES_3 : Nat} {sl_SIDES_3 : Array (Option Value)}
  {t_SIDES_3_0 : Tok}
  {t_SIDES_3_1 : Tok}
  {g_SIDES_4 : Addr} {od_SIDES_4 : Option Addr} {n_SIDES_4 : Nat} {sl_SIDES_4 : Array (Option Value)}
  {t_SIDES_4_0 : Tok}
  {t_SIDES_4_1 : Tok}
  {g_STRAIGHT_0 : Addr} {od_STRAIGHT_0 : Option Addr} {n_STRAIGHT_0 : Nat} {sl_STRAIGHT_0 : Array (Option Value)}
  {t_STRAIGHT_0_0 : Tok}
  {t_STRAIGHT_0_1 : Tok}
  {t_STRAIGHT_0_2 : Tok}
  {t_STRAIGHT_0_3 : Tok}
  (qH : W.nsIn K mainGlobals "row_of" = some (some (.ref fw))) (pp : K.lookup fw = some ⟨A8, zV, .func (W.fnOf "row_of" "row_of" (ba gH) (aW gH) (ak gH) .none zY Bc A6 Az sZ zZ), Ad⟩) (pk : W.codeIn K sZ "row_of" = true) (ip : W.keepIn K (.ref fw) = true)
  (kd : W.nsIn K mainGlobals "row_count" = some (some (.ref cM))) (jN : K.lookup cM = some ⟨uC, uV, .func (W.fnOf "row_count" "row_count" (ba c5) (aW c5) (ak c5) .none uD u5 vj uw mv uz), uv⟩) (kl : W.codeIn K mv "row_count" = true) (eg : W.keepIn K (.ref cM) = true)
  (jo : W.nsIn K mainGlobals "picture_of" = some (some (.ref cj))) (iJ : K.lookup cj = some ⟨sf, rV, .func (W.fnOf "picture_of" "picture_of" (ba cm) (aW cm) (ak cm) .none sD sJ rN sM k8 rQ), rZ⟩) (i8 : W.codeIn K k8 "picture_of" = true) (dB : W.keepIn K (.ref cj) = true)
  (fX : W.nsIn K mainGlobals "stretches_of" = some (some (.ref bA))) (gq : K.lookup bA = some ⟨oM, oS, .func (W.fnOf "stretches_of" "stretches_of" (ba bR) (aW bR) (ak bR) .none oP oA oB oK jx oJ), ol⟩) (gG : W.codeIn K jx "stretches_of" = true) (cG : W.keepIn K (.ref bA) = true)
  (hV : W.nsIn K mainGlobals "count_cells" = some (some (.ref a5))) (h9 : K.lookup a5 = some ⟨pB, rF, .func (W.fnOf "count_cells" "count_cells" (ba cA) (aW cA) (ak cA) .none pK qF qZ qL kn rB), pF⟩) (hX : W.codeIn K kn "count_cells" = true) (bw : W.keepIn K (.ref a5) = true)
  (lF : W.nsIn K mainGlobals "cells_of" = some (some (.ref bt))) (lz : K.lookup bt = some ⟨v8, wg, .func (W.fnOf "cells_of" "cells_of" (ba di) (aW di) (ak di) .none wI wU w4 vN nW w5), xJ⟩) (lp : W.codeIn K nW "cells_of" = true) (cB : W.keepIn K (.ref bt) = true)
  (uF : W.nsIn K mainGlobals "turns" = some (some (.ref gO))) (vh : K.lookup gO = some ⟨Bp, Dm, .func (W.fnOf "turns" "turns" (ba iM) (aW iM) (ak iM) .none Bn Bj C0 B3 wO Du), BF⟩) (vf : W.codeIn K wO "turns" = true) (kw : W.keepIn K (.ref gO) = true)
  (gI : W.nsIn K mainGlobals "count_around" = some (some (.ref bx))) (f8 : K.lookup bx = some ⟨oQ, oX, .func (W.fnOf "count_around" "count_around" (ba bT) (aW bT) (ak bT) .none oo oE oU oV jv oT), oj⟩) (gr : W.codeIn K jv "count_around" = true) (cK : W.keepIn K (.ref bx) = true)
  (mX : W.nsIn K mainGlobals "thinned" = some (some (.ref bI))) (mT : K.lookup bI = some ⟨xZ, yT, .func (W.fnOf "thinned" "thinned" (ba bo) (aW bo) (ak bo) (.ref gi) lR lj lD lu jm lO), yw⟩) (m9 : W.codeIn K jm "thinned" = true) (cI : W.keepIn K (.ref bI) = true)
  (je : K.lookup gi = some ⟨dc_thinned_, x9, .seq #[.bool true] ym, yy⟩)
  (i7 : W.nsIn K mainGlobals "take_round" = some (some (.ref cf))) (iT : K.lookup cf = some ⟨sw, r8, .func (W.fnOf "take_round" "take_round" (ba dD) (aW dD) (ak dD) .none sN rK sE rR k6 rX), sL⟩) (iK : W.codeIn K k6 "take_round" = true) (dA : W.keepIn K (.ref cf) = true)
  (jq : W.nsIn K mainGlobals "free_cells" = some (some (.ref cc))) (jn : K.lookup cc = some ⟨sv, rJ, .func (W.fnOf "free_cells" "free_cells" (ba cQ) (aW cQ) (ak cQ) .none rS rY sF sG k9 sd), rP⟩) (iY : W.codeIn K k9 "free_cells" = true) (dF : W.keepIn K (.ref cc) = true)
  (jL : W.nsIn K mainGlobals "take_pass" = some (some (.ref cO))) (jJ : K.lookup cO = some ⟨u8, ux, .func (W.fnOf "take_pass" "take_pass" (ba eh) (aW eh) (ak eh) .none vd uR vE vn mP vw), uS⟩) (jU : W.codeIn K mP "take_pass" = true) (ee : W.keepIn K (.ref cO) = true)
  (yn : W.nsIn K mainGlobals "goes" = some (some (.ref jM))) (yG : K.lookup jM = some ⟨Ea, EF, .func (W.fnOf "goes" "goes" (ba lP) (aW lP) (ak lP) .none E2 ES EE Ez zJ Ed), El⟩) (yt : W.codeIn K zJ "goes" = true) (mZ : W.keepIn K (.ref jM) = true)
  (lM : W.nsIn K mainGlobals "_law_cell_at" = some (some (.ref dm))) (lI : K.lookup dm = some ⟨xl, vT, .func (W.fnOf "_law_cell_at" "_law_cell_at" (ba eN) (aW eN) (ak eN) .none wH wN vZ xU n8 wV), xE⟩) (lA : W.codeIn K n8 "_law_cell_at" = true) (dZ : W.keepIn K (.ref dm) = true)
  (ll : W.nsIn K mainGlobals "_law_refused" = some (some (.ref c7))) (lS : K.lookup c7 = some ⟨xu, xc, .func (W.fnOf "_law_refused" "_law_refused" (ba eX) (aW eX) (ak eX) .none wd wn wv xz nL vY), xX⟩) (ln : W.codeIn K nL "_law_refused" = true) (dX : W.keepIn K (.ref c7) = true)
  (rm : W.nsIn K mainGlobals "_law_cross" = some (some (.ref fB))) (pR : K.lookup fB = some ⟨AX, An, .func (W.fnOf "_law_cross" "_law_cross" (ba f9) (aW f9) (ak f9) .none Bh A3 Ar A4 sP AQ), AK⟩) (p6 : W.codeIn K sP "_law_cross" = true) (iq : W.keepIn K (.ref fB) = true)
  (pY : W.nsIn K mainGlobals "_law_count" = some (some (.ref fD))) (pZ : K.lookup fD = some ⟨Am, AV, .func (W.fnOf "_law_count" "_law_count" (ba ir) (aW ir) (ak ir) .none A5 A9 z9 z7 uj Ai), A0⟩) (rc : W.codeIn K uj "_law_count" = true) (iA : W.keepIn K (.ref fD) = true)
  (B8 : W.nsIn K mainGlobals "law" = some (some (.ref Cf))) (Ci : K.lookup Cf = some ⟨Gk, FS, .func (W.fnOf "law" "law" (ba jW) (aW jW) (ak jW) .none DH DS B4 Cb yA DA), GC⟩) (DT : W.codeIn K yA "law" = true) (Ds : W.keepIn K (.ref Cf) = true)
  (n_NoBack : W.nsIn K mainGlobals "NoBack" = some (some (.ref c_NoBack)))
  (n_NoForm : W.nsIn K mainGlobals "NoForm" = some (some (.ref c_NoForm)))
  (n_NoName : W.nsIn K mainGlobals "NoName" = some (some (.ref c_NoName)))
  (n_NoRow : W.nsIn K mainGlobals "NoRow" = some (some (.ref c_NoRow)))
  (n_NoText : W.nsIn K mainGlobals "NoText" = some (some (.ref c_NoText)))
  (n_ShapeError : W.nsIn K mainGlobals "ShapeError" = some (some (.ref c_ShapeError)))
  (n_TooGreat : W.nsIn K mainGlobals "TooGreat" = some (some (.ref c_TooGreat)))
  (n_TooMany : W.nsIn K mainGlobals "TooMany" = some (some (.ref c_TooMany)))
  (xg : W.specialIn K (.builtin "object.__class__") "__get__" = some (some (.builtin "getset_descriptor.__get__"))) (xt : W.takesIn K (.builtin "object.__class__") = some true)
  (x1_TooGreat : W.hasDictIn K c_TooGreat = true) (x2_TooGreat : W.findIn K (.ref c_TooGreat) "__getattribute__" = some (some (.builtin "BaseException.__getattribute__"))) (x3_TooGreat : W.findIn K (.ref c_TooGreat) "__getattr__" = some none) (x4_TooGreat : W.findIn K (.ref c_TooGreat) "__class__" = some (some (.builtin "object.__class__"))) (x5_TooGreat : W.mroIn K c_TooGreat (.type "object") = some true) (x6_TooGreat : W.mroIn K c_TooGreat (.type "BaseException") = some true) (xe_TooGreat : W.excIn K c_TooGreat bmV "ValueError.__new__" = true)
  (xo_TooGreat_NoBack : W.kitOne K (.ref c_TooGreat) (.ref c_NoBack) = some false)
  (xo_TooGreat_NoForm : W.kitOne K (.ref c_TooGreat) (.ref c_NoForm) = some false)
  (xo_TooGreat_NoName : W.kitOne K (.ref c_TooGreat) (.ref c_NoName) = some false)
  (xo_TooGreat_NoRow : W.kitOne K (.ref c_TooGreat) (.ref c_NoRow) = some false)
  (xo_TooGreat_NoText : W.kitOne K (.ref c_TooGreat) (.ref c_NoText) = some false)
  (xo_TooGreat_TooGreat : W.kitOne K (.ref c_TooGreat) (.ref c_TooGreat) = some true)
  (xo_TooGreat_TooMany : W.kitOne K (.ref c_TooGreat) (.ref c_TooMany) = some false)
  (xo_TooGreat_ValueError : W.kitOne K (.ref c_TooGreat) (.type "ValueError") = some true)
  (xm_TooGreat_ShapeError : W.exmOne K (.ref c_TooGreat) (.ref c_ShapeError) = some true)
  (z_ValueError : W.nsIn K mainGlobals "ValueError" = some none)
  (z_dict : W.nsIn K mainGlobals "dict" = some none)
  (z_isinstance : W.nsIn K mainGlobals "isinstance" = some none)
  (z_len : W.nsIn K mainGlobals "len" = some none)
  (z_max : W.nsIn K mainGlobals "max" = some none)
  (z_range : W.nsIn K mainGlobals "range" = some none)
  (z_sorted : W.nsIn K mainGlobals "sorted" = some none)
  (z_sum : W.nsIn K mainGlobals "sum" = some none)
  (z_tuple : W.nsIn K mainGlobals "tuple" = some none)
  (y_MOST_CELLS : W.nsIn K mainGlobals "MOST_CELLS" = some (some (.int (1000) t_MOST_CELLS)))
  (y_ROUND : W.nsIn K mainGlobals "ROUND" = some (some (.ref g_ROUND_0)))
  (v_ROUND_0 : K.lookup g_ROUND_0 = some ⟨.type "tuple", od_ROUND_0, .seq #[.ref g_ROUND_1, .ref g_ROUND_2, .ref g_ROUND_3, .ref g_ROUND_4, .ref g_ROUND_5, .ref g_ROUND_6, .ref g_ROUND_7, .ref g_ROUND_8] n_ROUND_0, sl_ROUND_0⟩)
  (v_ROUND_1 : K.lookup g_ROUND_1 = some ⟨.type "tuple", od_ROUND_1, .seq #[.int (0) t_ROUND_1_0, .int (-1) t_ROUND_1_1, .int (1) t_ROUND_1_2] n_ROUND_1, sl_ROUND_1⟩)
  (v_ROUND_2 : K.lookup g_ROUND_2 = some ⟨.type "tuple", od_ROUND_2, .seq #[.int (-1) t_ROUND_2_0, .int (-1) t_ROUND_2_1, .int (2) t_ROUND_2_2] n_ROUND_2, sl_ROUND_2⟩)
  (v_ROUND_3 : K.lookup g_ROUND_3 = some ⟨.type "tuple", od_ROUND_3, .seq #[.int (-1) t_ROUND_3_0, .int (0) t_ROUND_3_1, .int (4) t_ROUND_3_2] n_ROUND_3, sl_ROUND_3⟩)
  (v_ROUND_4 : K.lookup g_ROUND_4 = some ⟨.type "tuple", od_ROUND_4, .seq #[.int (-1) t_ROUND_4_0, .int (1) t_ROUND_4_1, .int (8) t_ROUND_4_2] n_ROUND_4, sl_ROUND_4⟩)
  (v_ROUND_5 : K.lookup g_ROUND_5 = some ⟨.type "tuple", od_ROUND_5, .seq #[.int (0) t_ROUND_5_0, .int (1) t_ROUND_5_1, .int (16) t_ROUND_5_2] n_ROUND_5, sl_ROUND_5⟩)
  (v_ROUND_6 : K.lookup g_ROUND_6 = some ⟨.type "tuple", od_ROUND_6, .seq #[.int (1) t_ROUND_6_0, .int (1) t_ROUND_6_1, .int (32) t_ROUND_6_2] n_ROUND_6, sl_ROUND_6⟩)
  (v_ROUND_7 : K.lookup g_ROUND_7 = some ⟨.type "tuple", od_ROUND_7, .seq #[.int (1) t_ROUND_7_0, .int (0) t_ROUND_7_1, .int (64) t_ROUND_7_2] n_ROUND_7, sl_ROUND_7⟩)
  (v_ROUND_8 : K.lookup g_ROUND_8 = some ⟨.type "tuple", od_ROUND_8, .seq #[.int (1) t_ROUND_8_0, .int (-1) t_ROUND_8_1, .int (128) t_ROUND_8_2] n_ROUND_8, sl_ROUND_8⟩)
  (y_SIDES : W.nsIn K mainGlobals "SIDES" = some (some (.ref g_SIDES_0)))
  (v_SIDES_0 : K.lookup g_SIDES_0 = some ⟨.type "tuple", od_SIDES_0, .seq #[.ref g_SIDES_1, .ref g_SIDES_2, .ref g_SIDES_3, .ref g_SIDES_4] n_SIDES_0, sl_SIDES_0⟩)
  (v_SIDES_1 : K.lookup g_SIDES_1 = some ⟨.type "tuple", od_SIDES_1, .seq #[.int (0) t_SIDES_1_0, .int (-1) t_SIDES_1_1] n_SIDES_1, sl_SIDES_1⟩)
  (v_SIDES_2 : K.lookup g_SIDES_2 = some ⟨.type "tuple", od_SIDES_2, .seq #[.int (-1) t_SIDES_2_0, .int (0) t_SIDES_2_1] n_SIDES_2, sl_SIDES_2⟩)
  (v_SIDES_3 : K.lookup g_SIDES_3 = some ⟨.type "tuple", od_SIDES_3, .seq #[.int (0) t_SIDES_3_0, .int (1) t_SIDES_3_1] n_SIDES_3, sl_SIDES_3⟩)
  (v_SIDES_4 : K.lookup g_SIDES_4 = some ⟨.type "tuple", od_SIDES_4, .seq #[.int (1) t_SIDES_4_0, .int (0) t_SIDES_4_1] n_SIDES_4, sl_SIDES_4⟩)
  (y_STRAIGHT : W.nsIn K mainGlobals "STRAIGHT" = some (some (.ref g_STRAIGHT_0)))
  (v_STRAIGHT_0 : K.lookup g_STRAIGHT_0 = some ⟨.type "tuple", od_STRAIGHT_0, .seq #[.int (1) t_STRAIGHT_0_0, .int (4) t_STRAIGHT_0_1, .int (16) t_STRAIGHT_0_2, .int (64) t_STRAIGHT_0_3] n_STRAIGHT_0, sl_STRAIGHT_0⟩)
  : ∃ fd : FuncData, (∀ (s : Shared) (v : Value), BindsTo s fd ⟨[v], []⟩ [("_law_script", v)]) /\ ∀ base : Heap, K.In base -> base.Ns mainGlobals mg -> FnOk l.prog w K mg base CX0 6 fa fd ["_law_script"] (pD K) := by
 have e := hfa.symm.trans (W.mg_of X G B8)
 cases e
 have xc_ShapeError : ∃ T : Addr, mg "ShapeError" = some (.ref T) /\ ∀ N ∈ xNs, ∀ C : Addr, W.nsIn K mainGlobals N = some (some (.ref C)) -> W.exmOne K (.ref C) (.ref T) = some true := by
  refine ⟨c_ShapeError, W.mg_of X G n_ShapeError, fun N hN C hC => ?_⟩
  simp only [List.mem_cons, List.not_mem_nil, or_false] at hN
  rcases hN with rfl
  ·rw [n_TooGreat] at hC; cases hC; exact xm_TooGreat_ShapeError
 have xa_NoBack : ∃ T : Addr, mg "NoBack" = some (.ref T) /\ gL K eY (.ref T) := ⟨c_NoBack, W.mg_of X G n_NoBack, d7 (fun C hC => by rw [n_TooGreat] at hC; cases hC; exact ⟨⟨x1_TooGreat, x2_TooGreat, x3_TooGreat, x4_TooGreat, xg, xt, x5_TooGreat, x6_TooGreat⟩, xo_TooGreat_NoBack⟩) (fI)⟩
 have xa_NoForm : ∃ T : Addr, mg "NoForm" = some (.ref T) /\ gL K eU (.ref T) := ⟨c_NoForm, W.mg_of X G n_NoForm, d7 (fun C hC => by rw [n_TooGreat] at hC; cases hC; exact ⟨⟨x1_TooGreat, x2_TooGreat, x3_TooGreat, x4_TooGreat, xg, xt, x5_TooGreat, x6_TooGreat⟩, xo_TooGreat_NoForm⟩) (fI)⟩
 have xa_NoName : ∃ T : Addr, mg "NoName" = some (.ref T) /\ gL K eR (.ref T) := ⟨c_NoName, W.mg_of X G n_NoName, d7 (fun C hC => by rw [n_TooGreat] at hC; cases hC; exact ⟨⟨x1_TooGreat, x2_TooGreat, x3_TooGreat, x4_TooGreat, xg, xt, x5_TooGreat, x6_TooGreat⟩, xo_TooGreat_NoName⟩) (fI)⟩
 have xa_NoRow : ∃ T : Addr, mg "NoRow" = some (.ref T) /\ gL K gb (.ref T) := ⟨c_NoRow, W.mg_of X G n_NoRow, d7 (fun C hC => by rw [n_TooGreat] at hC; cases hC; exact ⟨⟨x1_TooGreat, x2_TooGreat, x3_TooGreat, x4_TooGreat, xg, xt, x5_TooGreat, x6_TooGreat⟩, xo_TooGreat_NoRow⟩) (fI)⟩
 have xa_NoText : ∃ T : Addr, mg "NoText" = some (.ref T) /\ gL K eS (.ref T) := ⟨c_NoText, W.mg_of X G n_NoText, d7 (fun C hC => by rw [n_TooGreat] at hC; cases hC; exact ⟨⟨x1_TooGreat, x2_TooGreat, x3_TooGreat, x4_TooGreat, xg, xt, x5_TooGreat, x6_TooGreat⟩, xo_TooGreat_NoText⟩) (fI)⟩
 have xa_TooGreat : ∃ T : Addr, mg "TooGreat" = some (.ref T) /\ gL K dh (.ref T) := ⟨c_TooGreat, W.mg_of X G n_TooGreat, d7 (fun C hC => by rw [n_TooGreat] at hC; cases hC; exact ⟨⟨x1_TooGreat, x2_TooGreat, x3_TooGreat, x4_TooGreat, xg, xt, x5_TooGreat, x6_TooGreat⟩, xo_TooGreat_TooGreat⟩) (fI)⟩
 have xa_TooMany : ∃ T : Addr, mg "TooMany" = some (.ref T) /\ gL K dW (.ref T) := ⟨c_TooMany, W.mg_of X G n_TooMany, d7 (fun C hC => by rw [n_TooGreat] at hC; cases hC; exact ⟨⟨x1_TooGreat, x2_TooGreat, x3_TooGreat, x4_TooGreat, xg, xt, x5_TooGreat, x6_TooGreat⟩, xo_TooGreat_TooMany⟩) (fI)⟩
 have xa_ValueError : gL K cz (.type "ValueError") := d7 (fun C hC => by rw [n_TooGreat] at hC; cases hC; exact ⟨⟨x1_TooGreat, x2_TooGreat, x3_TooGreat, x4_TooGreat, xg, xt, x5_TooGreat, x6_TooGreat⟩, xo_TooGreat_ValueError⟩) (fI)
 have xr_TooGreat : ∃ C : Addr, W.nsIn K mainGlobals "TooGreat" = some (some (.ref C)) /\ W.excIn K C bmV "ValueError.__new__" = true /\ mg "TooGreat" = some (.ref C) := ⟨c_TooGreat, n_TooGreat, xe_TooGreat, W.mg_of X G n_TooGreat⟩
 have T : Txt K mg := ⟨W.mg_none_of X G z_ValueError, W.mg_none_of X G z_dict, W.mg_none_of X G z_isinstance, W.mg_none_of X G z_len, W.mg_none_of X G z_max, W.mg_none_of X G z_range, W.mg_none_of X G z_sorted, W.mg_none_of X G z_sum, W.mg_none_of X G z_tuple, ⟨_, W.mg_of X G y_MOST_CELLS⟩, ⟨_, .ref _, W.mg_of X G y_ROUND, rfl, fun S => bS (xs := [.ref g_ROUND_1, .ref g_ROUND_2, .ref g_ROUND_3, .ref g_ROUND_4, .ref g_ROUND_5, .ref g_ROUND_6, .ref g_ROUND_7, .ref g_ROUND_8]) v_ROUND_0 rfl rfl (Nat.le_trans (show 8 <= 1000 by decide) (by rw [sizeLine_eq]; decide)) (.cons rfl (.cons rfl (.cons rfl (.cons rfl (.cons rfl (.cons rfl (.cons rfl (.cons rfl (.nil))))))))) (fun S => Dens.cons (bS (xs := [.int (0), .int (-1), .int (1)]) v_ROUND_1 rfl rfl (Nat.le_trans (show 3 <= 1000 by decide) (by rw [sizeLine_eq]; decide)) (.cons ⟨_, rfl⟩ (.cons ⟨_, rfl⟩ (.cons ⟨_, rfl⟩ (.nil)))) (fun S => Dens.cons (den_int.mpr rfl) (Dens.cons (den_int.mpr rfl) (Dens.cons (den_int.mpr rfl) (Dens.nil)))) S) (Dens.cons (bS (xs := [.int (-1), .int (-1), .int (2)]) v_ROUND_2 rfl rfl (Nat.le_trans (show 3 <= 1000 by decide) (by rw [sizeLine_eq]; decide)) (.cons ⟨_, rfl⟩ (.cons ⟨_, rfl⟩ (.cons ⟨_, rfl⟩ (.nil)))) (fun S => Dens.cons (den_int.mpr rfl) (Dens.cons (den_int.mpr rfl) (Dens.cons (den_int.mpr rfl) (Dens.nil)))) S) (Dens.cons (bS (xs := [.int (-1), .int (0), .int (4)]) v_ROUND_3 rfl rfl (Nat.le_trans (show 3 <= 1000 by decide) (by rw [sizeLine_eq]; decide)) (.cons ⟨_, rfl⟩ (.cons ⟨_, rfl⟩ (.cons ⟨_, rfl⟩ (.nil)))) (fun S => Dens.cons (den_int.mpr rfl) (Dens.cons (den_int.mpr rfl) (Dens.cons (den_int.mpr rfl) (Dens.nil)))) S) (Dens.cons (bS (xs := [.int (-1), .int (1), .int (8)]) v_ROUND_4 rfl rfl (Nat.le_trans (show 3 <= 1000 by decide) (by rw [sizeLine_eq]; decide)) (.cons ⟨_, rfl⟩ (.cons ⟨_, rfl⟩ (.cons ⟨_, rfl⟩ (.nil)))) (fun S => Dens.cons (den_int.mpr rfl) (Dens.cons (den_int.mpr rfl) (Dens.cons (den_int.mpr rfl) (Dens.nil)))) S) (Dens.cons (bS (xs := [.int (0), .int (1), .int (16)]) v_ROUND_5 rfl rfl (Nat.le_trans (show 3 <= 1000 by decide) (by rw [sizeLine_eq]; decide)) (.cons ⟨_, rfl⟩ (.cons ⟨_, rfl⟩ (.cons ⟨_, rfl⟩ (.nil)))) (fun S => Dens.cons (den_int.mpr rfl) (Dens.cons (den_int.mpr rfl) (Dens.cons (den_int.mpr rfl) (Dens.nil)))) S) (Dens.cons (bS (xs := [.int (1), .int (1), .int (32)]) v_ROUND_6 rfl rfl (Nat.le_trans (show 3 <= 1000 by decide) (by rw [sizeLine_eq]; decide)) (.cons ⟨_, rfl⟩ (.cons ⟨_, rfl⟩ (.cons ⟨_, rfl⟩ (.nil)))) (fun S => Dens.cons (den_int.mpr rfl) (Dens.cons (den_int.mpr rfl) (Dens.cons (den_int.mpr rfl) (Dens.nil)))) S) (Dens.cons (bS (xs := [.int (1), .int (0), .int (64)]) v_ROUND_7 rfl rfl (Nat.le_trans (show 3 <= 1000 by decide) (by rw [sizeLine_eq]; decide)) (.cons ⟨_, rfl⟩ (.cons ⟨_, rfl⟩ (.cons ⟨_, rfl⟩ (.nil)))) (fun S => Dens.cons (den_int.mpr rfl) (Dens.cons (den_int.mpr rfl) (Dens.cons (den_int.mpr rfl) (Dens.nil)))) S) (Dens.cons (bS (xs := [.int (1), .int (-1), .int (128)]) v_ROUND_8 rfl rfl (Nat.le_trans (show 3 <= 1000 by decide) (by rw [sizeLine_eq]; decide)) (.cons ⟨_, rfl⟩ (.cons ⟨_, rfl⟩ (.cons ⟨_, rfl⟩ (.nil)))) (fun S => Dens.cons (den_int.mpr rfl) (Dens.cons (den_int.mpr rfl) (Dens.cons (den_int.mpr rfl) (Dens.nil)))) S) (Dens.nil))))))))) S⟩, ⟨_, .ref _, W.mg_of X G y_SIDES, rfl, fun S => bS (xs := [.ref g_SIDES_1, .ref g_SIDES_2, .ref g_SIDES_3, .ref g_SIDES_4]) v_SIDES_0 rfl rfl (Nat.le_trans (show 4 <= 1000 by decide) (by rw [sizeLine_eq]; decide)) (.cons rfl (.cons rfl (.cons rfl (.cons rfl (.nil))))) (fun S => Dens.cons (bS (xs := [.int (0), .int (-1)]) v_SIDES_1 rfl rfl (Nat.le_trans (show 2 <= 1000 by decide) (by rw [sizeLine_eq]; decide)) (.cons ⟨_, rfl⟩ (.cons ⟨_, rfl⟩ (.nil))) (fun S => Dens.cons (den_int.mpr rfl) (Dens.cons (den_int.mpr rfl) (Dens.nil))) S) (Dens.cons (bS (xs := [.int (-1), .int (0)]) v_SIDES_2 rfl rfl (Nat.le_trans (show 2 <= 1000 by decide) (by rw [sizeLine_eq]; decide)) (.cons ⟨_, rfl⟩ (.cons ⟨_, rfl⟩ (.nil))) (fun S => Dens.cons (den_int.mpr rfl) (Dens.cons (den_int.mpr rfl) (Dens.nil))) S) (Dens.cons (bS (xs := [.int (0), .int (1)]) v_SIDES_3 rfl rfl (Nat.le_trans (show 2 <= 1000 by decide) (by rw [sizeLine_eq]; decide)) (.cons ⟨_, rfl⟩ (.cons ⟨_, rfl⟩ (.nil))) (fun S => Dens.cons (den_int.mpr rfl) (Dens.cons (den_int.mpr rfl) (Dens.nil))) S) (Dens.cons (bS (xs := [.int (1), .int (0)]) v_SIDES_4 rfl rfl (Nat.le_trans (show 2 <= 1000 by decide) (by rw [sizeLine_eq]; decide)) (.cons ⟨_, rfl⟩ (.cons ⟨_, rfl⟩ (.nil))) (fun S => Dens.cons (den_int.mpr rfl) (Dens.cons (den_int.mpr rfl) (Dens.nil))) S) (Dens.nil))))) S⟩, ⟨_, .ref _, W.mg_of X G y_STRAIGHT, rfl, fun S => bS (xs := [.int (1), .int (4), .int (16), .int (64)]) v_STRAIGHT_0 rfl rfl (Nat.le_trans (show 4 <= 1000 by decide) (by rw [sizeLine_eq]; decide)) (.cons ⟨_, rfl⟩ (.cons ⟨_, rfl⟩ (.cons ⟨_, rfl⟩ (.cons ⟨_, rfl⟩ (.nil))))) (fun S => Dens.cons (den_int.mpr rfl) (Dens.cons (den_int.mpr rfl) (Dens.cons (den_int.mpr rfl) (Dens.cons (den_int.mpr rfl) (Dens.nil))))) S⟩, xc_ShapeError, xa_NoBack, xa_NoForm, xa_NoName, xa_NoRow, xa_NoText, xa_TooGreat, xa_TooMany, xa_ValueError, xr_TooGreat⟩
 have xp := du (st := gH) pp pk ip
 have qO := (xp).binds (ps := ["pairs"]) fun _ _ _ _ _ _ us hl => by obtain ⟨a0, rfl⟩ := us1 hl; rfl
 have fH := W.mg_of X G qH
 have oh := du (st := c5) jN kl eg
 have jI := (oh).binds (ps := ["row"]) fun _ _ _ _ _ _ us hl => by obtain ⟨a0, rfl⟩ := us1 hl; rfl
 have cN := W.mg_of X G kd
 have ke := du (st := bR) gq gG cG
 have gk := (ke).binds (ps := ["picture"]) fun _ _ _ _ _ _ us hl => by obtain ⟨a0, rfl⟩ := us1 hl; rfl
 have bU := W.mg_of X G fX
 have y7 := du (st := iM) vh vf kw
 have vi := (y7).binds (ps := ["number"]) fun _ _ _ _ _ _ us hl => by obtain ⟨a0, rfl⟩ := us1 hl; rfl
 have iU := W.mg_of X G uF
 have kh := du (st := bT) f8 gr cK
 have gf := (kh).binds (ps := ["number"]) fun _ _ _ _ _ _ us hl => by obtain ⟨a0, rfl⟩ := us1 hl; rfl
 have bP := W.mg_of X G gI
 have my := du (st := cQ) jn iY dF
 have iZ := (my).binds (ps := ["kept", "dx", "dy"]) fun _ _ _ _ _ _ us hl => by obtain ⟨a0, a1, a2, rfl⟩ := us3 hl; rfl
 have br := W.mg_of X G jq
 have rg := du (st := eN) lI lA dZ
 have jp := (rg).binds (ps := ["_law_script", "_law_k"]) fun _ _ _ _ _ _ us hl => by obtain ⟨a0, a1, rfl⟩ := us2 hl; rfl
 have bJ := W.mg_of X G lM
 have v7 := du (st := f9) pR p6 iq
 have rE := (v7).binds (ps := ["_law_arm", "_law_x", "_law_y"]) fun _ _ _ _ _ _ us hl => by obtain ⟨a0, a1, a2, rfl⟩ := us3 hl; rfl
 have im := W.mg_of X G rm
 have vM := du (st := ir) pZ rc iA
 have qy := (vM).binds (ps := ["_law_picture"]) fun _ _ _ _ _ _ us hl => by obtain ⟨a0, rfl⟩ := us1 hl; rfl
 have fF := W.mg_of X G pY
 have mz := du (st := cm) iJ i8 dB
 have iG := (mz).binds (ps := ["stretches"]) fun _ _ _ _ _ _ us hl => by obtain ⟨a0, rfl⟩ := us1 hl; rfl
 have bN := W.mg_of X G jo
 have kU := du (st := cA) h9 hX bw
 have cS := (kU).binds (ps := ["picture"]) fun _ _ _ _ _ _ us hl => by obtain ⟨a0, rfl⟩ := us1 hl; rfl
 have bd := W.mg_of X G hV
 have CO := du (st := lP) yG yt mZ
 have yl := (CO).binds (ps := ["kept", "x", "y", "ends"]) fun _ _ _ _ _ _ us hl => by obtain ⟨a0, a1, a2, a3, rfl⟩ := us4 hl; rfl
 have jh := W.mg_of X G yn
 have lB := du (st := di) lz lp cB
 have dY := (lB).binds (ps := ["picture"]) fun _ _ _ _ _ _ us hl => by obtain ⟨a0, rfl⟩ := us1 hl; rfl
 have bi := W.mg_of X G lF
 have nV := du (st := eh) jJ jU ee
 have kf := (nV).binds (ps := ["kept", "free", "ends"]) fun _ _ _ _ _ _ us hl => by obtain ⟨a0, a1, a2, rfl⟩ := us3 hl; rfl
 have km := W.mg_of X G jL
 have mm := du (st := dD) iT iK dA
 have i4 := (mm).binds (ps := ["kept", "ends"]) fun _ _ _ _ _ _ us hl => by obtain ⟨a0, a1, rfl⟩ := us2 hl; rfl
 have iP := W.mg_of X G i7
 have uc : FunD K "thinned" "thinned" bo gi bI _ := ⟨⟨_, _, _, _, _, _, _, _, _, rfl, mT, m9⟩⟩
 have eW : Binds K (W.fnOf "thinned" "thinned" (ba bo) (aW bo) (ak bo) (.ref gi) lR lj lD lu jm lO) ["picture", "ends"] [] := fun s us X hl => match us, (show us.length = 2 by simpa using hl) with | [_, _], _ => W.binds_K X rfl je rfl rfl rfl
 have iR : Binds K (W.fnOf "thinned" "thinned" (ba bo) (aW bo) (ak bo) (.ref gi) lR lj lD lu jm lO) ["picture", "ends"] [.bool true] := fun s us X hl => match us, (show us.length = 1 by simpa using hl) with | [_], _ => W.binds_K X rfl je rfl rfl rfl
 have aS := W.mg_of X G mX
 have rA := du (st := eX) lS ln dX
 have jt := (rA).binds (ps := ["_law_picture", "_law_ends"]) fun _ _ _ _ _ _ us hl => by obtain ⟨a0, a1, rfl⟩ := us2 hl; rfl
 have dl := W.mg_of X G ll
 have Ha := du (st := jW) Ci DT Ds
 refine ⟨W.fnOf "law" "law" (ba jW) (aW jW) (ak jW) .none DH DS B4 Cb yA DA, fun s v => .of_eq rfl, fun base _ _ => ?_⟩
 have i6 : FnOk l.prog w K mg base CX0 1 dm _ ["_law_script", "_law_k"] (gQ K) := wx rg T
 have qq : FnOk l.prog w K mg base CX0 1 fD _ ["_law_picture"] (kt K) := Af vM T
 have qU : FnOk l.prog w K mg base CX0 1 fB _ ["_law_arm", "_law_x", "_law_y"] (kD K) := Al v7 T
 have fU : FnOk l.prog w K mg base CX0 1 bx _ ["number"] (dP K) := oO kh T
 have ju : FnOk l.prog w K mg base CX0 1 cc _ ["kept", "dx", "dy"] (fh K) := sg my T
 have jX : FnOk l.prog w K mg base CX0 1 cM _ ["row"] (fN K) := uM oh T
 have qG : FnOk l.prog w K mg base CX0 1 fw _ ["pairs"] (kr K) := AR xp T
 have fV : FnOk l.prog w K mg base CX0 1 bA _ ["picture"] (dQ K) := oi ke T
 have uY : FnOk l.prog w K mg base CX0 1 gO _ ["number"] (mx K) := Br y7 T
 have cR : FnOk l.prog w K mg base CX0 2 a5 _ ["picture"] (df K) := p0 kU T jX cN eg jI
 have yJ : FnOk l.prog w K mg base CX0 2 jM _ ["kept", "x", "y", "ends"] (o7 K) := D7 CO T uY iU kw vi fU bP cK gf
 have iI : FnOk l.prog w K mg base CX0 2 cj _ ["stretches"] (fk K) := rM mz T qG fH ip qO
 have jK : FnOk l.prog w K mg base (CXe l.prog w) 3 bt _ ["picture"] (fO K) := u6 lB T cR bd bw cS
 have eM : FnOk l.prog w K mg base CX0 3 bt _ ["picture"] (fv K) := wM lB T cR bd bw cS fV bU cG gk
 have jR : FnOk l.prog w K mg base CX0 3 cO _ ["kept", "free", "ends"] (fQ K) := u4 nV T yJ jh mZ yl
 have lX : FnOk l.prog w K mg base (CXe l.prog w) 4 bI _ ["picture", "ends"] (g8 K) := wl uc T eM bi cB dY jK
 have i0 : FnOk l.prog w K mg base CX0 4 cf _ ["kept", "ends"] (fm K) := rT mm T jR km ee kf ju br dF iZ
 have iL : FnOk l.prog w K mg base CX0 5 c7 _ ["_law_picture", "_law_ends"] (gW K) := xR rA T lX aS cI eW
 have fR : FnOk l.prog w K mg base CX0 5 bI _ ["picture", "ends"] (iQ K) := yr uc T eM bi cB dY i0 iP dA i4 iI bN dB iG
 exact FA Ha T i6 bJ dZ jp iL dl dX jt qU im iq rE fR aS cI eW iR qq fF iA qy
theorem IX {l : W.OpenLaw} {q : Program} {loose : List Str} {XP : (Str -> Option Value) -> Heap -> Prop} {YP : World -> Heap -> Prop} {d : DefRec} {K : Params -> W.Frag} (hn : l.most = some 63) (hdf : d.params.defaults = [])
  (hY : ∀ (w : World) (h : Heap), YP w h -> (K w.params).In h)
  (F : ∀ (w : World) (mg : Str -> Option Value) (fa : Addr) (h : Heap), (K w.params).In h -> h.Ns mainGlobals mg -> mg d.name = some (.ref fa) ->
   ∃ fd : FuncData, (∀ (s : Shared) (u : Value), BindsTo s fd ⟨[u], []⟩ [("_law_script", u)]) /\ ∀ base : Heap, (K w.params).In base -> base.Ns mainGlobals mg -> FnOk l.prog w (K w.params) mg base CX0 6 fa fd ["_law_script"] (pD (K w.params))) :
  W.WalkO q loose XP YP l.row.toRowW d [] (fun f vs => PySem.call f vs) :=
 L2.Ei (n := 63) (k := 6) (x := "_law_script") (CX := fun _ => CX0) (sp := fun w => pD (K w.params)) hn (by decide) hdf ⟨rfl, by decide, by decide⟩ hY F (fun _ H a ns hl _ hS => M.zW hS (Ca ns hl)) fun _ _ _ _ _ z => z
end Lw
open PySem PySem.W PyProof.Rows
set_option maxRecDepth 100000 in
set_option maxHeartbeats 0 in
theorem PySem.Challenge.cw_shapethin_k54_too_great_to_be_thinned_holds : PySem.Challenge.rw_shapethin_k54_too_great_to_be_thinned.Holds := by
 w_on; refine holds_law Hd.e2 fun said => ?_
 refine holds_open (q := Hd.q) (XP := XL Hd.q []) (YP := Hook.says Hd.H) (N := 100000) Hd.e1 (Hook.of Hd.H) (Hook.keeps Hd.H) (fun s e => xl_of s (Bool.and_eq_true_iff.mp e).1) XL.keeps (by rfl) (by rfl) (by rfl) (fun s e => recFacts_of (Bool.and_eq_true_iff.mp e).2) (by rfl) (by assumption) (by decide +kernel) ⟨rfl, rfl, rfl, rfl, rfl, by decide +kernel⟩ ?hw ?hc
 case hw => w_witness2
 refine Lw.IX (l := PySem.Challenge.rw_shapethin_k54_too_great_to_be_thinned) rfl rfl (fun w h Y => W.kIn_of Y) ?F
 case F =>
  intro w mg fa h KX G hmg
  refine' Lw.FF KX G hmg ?qH ?pp ?pk ?ip ?kd ?jN ?kl ?eg ?jo ?iJ ?i8 ?dB ?fX ?gq ?gG ?cG ?hV ?h9 ?hX ?bw ?lF ?lz ?lp ?cB ?uF ?vh ?vf ?kw ?gI ?f8 ?gr ?cK ?mX ?mT ?m9 ?cI ?je ?i7 ?iT ?iK ?dA ?jq ?jn ?iY ?dF ?jL ?jJ ?jU ?ee ?yn ?yG ?yt ?mZ ?lM ?lI ?lA ?dZ ?ll ?lS ?ln ?dX ?rm ?pR ?p6 ?iq ?pY ?pZ ?rc ?iA ?B8 ?Ci ?DT ?Ds ?n_NoBack ?n_NoForm ?n_NoName ?n_NoRow ?n_NoText ?n_ShapeError ?n_TooGreat ?n_TooMany ?xg ?xt ?x1_TooGreat ?x2_TooGreat ?x3_TooGreat ?x4_TooGreat ?x5_TooGreat ?x6_TooGreat ?xe_TooGreat ?xo_TooGreat_NoBack ?xo_TooGreat_NoForm ?xo_TooGreat_NoName ?xo_TooGreat_NoRow ?xo_TooGreat_NoText ?xo_TooGreat_TooGreat ?xo_TooGreat_TooMany ?xo_TooGreat_ValueError ?xm_TooGreat_ShapeError ?z_ValueError ?z_dict ?z_isinstance ?z_len ?z_max ?z_range ?z_sorted ?z_sum ?z_tuple ?y_MOST_CELLS ?y_ROUND ?v_ROUND_0 ?v_ROUND_1 ?v_ROUND_2 ?v_ROUND_3 ?v_ROUND_4 ?v_ROUND_5 ?v_ROUND_6 ?v_ROUND_7 ?v_ROUND_8 ?y_SIDES ?v_SIDES_0 ?v_SIDES_1 ?v_SIDES_2 ?v_SIDES_3 ?v_SIDES_4 ?y_STRAIGHT ?v_STRAIGHT_0
  (case qH => k_is)
  (case pp => k_is)
  (case pk => k_is)
  (case ip => k_is)
  (case kd => k_is)
  (case jN => k_is)
  (case kl => k_is)
  (case eg => k_is)
  (case jo => k_is)
  (case iJ => k_is)
  (case i8 => k_is)
  (case dB => k_is)
  (case fX => k_is)
  (case gq => k_is)
  (case gG => k_is)
  (case cG => k_is)
  (case hV => k_is)
  (case h9 => k_is)
  (case hX => k_is)
  (case bw => k_is)
  (case lF => k_is)
  (case lz => k_is)
  (case lp => k_is)
  (case cB => k_is)
  (case uF => k_is)
  (case vh => k_is)
  (case vf => k_is)
  (case kw => k_is)
  (case gI => k_is)
  (case f8 => k_is)
  (case gr => k_is)
  (case cK => k_is)
  (case mX => k_is)
  (case mT => k_is)
  (case m9 => k_is)
  (case cI => k_is)
  (case je => k_is)
  (case i7 => k_is)
  (case iT => k_is)
  (case iK => k_is)
  (case dA => k_is)
  (case jq => k_is)
  (case jn => k_is)
  (case iY => k_is)
  (case dF => k_is)
  (case jL => k_is)
  (case jJ => k_is)
  (case jU => k_is)
  (case ee => k_is)
  (case yn => k_is)
  (case yG => k_is)
  (case yt => k_is)
  (case mZ => k_is)
  (case lM => k_is)
  (case lI => k_is)
  (case lA => k_is)
  (case dZ => k_is)
  (case ll => k_is)
  (case lS => k_is)
  (case ln => k_is)
  (case dX => k_is)
  (case rm => k_is)
  (case pR => k_is)
  (case p6 => k_is)
  (case iq => k_is)
  (case pY => k_is)
  (case pZ => k_is)
  (case rc => k_is)
  (case iA => k_is)
  (case B8 => k_is)
  (case Ci => k_is)
  (case DT => k_is)
  (case Ds => k_is)
  (case n_NoBack => k_is)
  (case n_NoForm => k_is)
  (case n_NoName => k_is)
  (case n_NoRow => k_is)
  (case n_NoText => k_is)
  (case n_ShapeError => k_is)
  (case n_TooGreat => k_is)
  (case n_TooMany => k_is)
  (case xg => k_is)
  (case xt => k_is)
  (case x1_TooGreat => k_is)
  (case x2_TooGreat => k_is)
  (case x3_TooGreat => k_is)
  (case x4_TooGreat => k_is)
  (case x5_TooGreat => k_is)
  (case x6_TooGreat => k_is)
  (case xe_TooGreat => k_exc)
  (case xo_TooGreat_NoBack => kit_is)
  (case xo_TooGreat_NoForm => kit_is)
  (case xo_TooGreat_NoName => kit_is)
  (case xo_TooGreat_NoRow => kit_is)
  (case xo_TooGreat_NoText => kit_is)
  (case xo_TooGreat_TooGreat => kit_is)
  (case xo_TooGreat_TooMany => kit_is)
  (case xo_TooGreat_ValueError => kit_is)
  (case xm_TooGreat_ShapeError => kts_exm)
  (case z_ValueError => k_is)
  (case z_dict => k_is)
  (case z_isinstance => k_is)
  (case z_len => k_is)
  (case z_max => k_is)
  (case z_range => k_is)
  (case z_sorted => k_is)
  (case z_sum => k_is)
  (case z_tuple => k_is)
  (case y_MOST_CELLS => k_is)
  (case y_ROUND => k_is)
  (case v_ROUND_0 => k_is)
  (case v_ROUND_1 => k_is)
  (case v_ROUND_2 => k_is)
  (case v_ROUND_3 => k_is)
  (case v_ROUND_4 => k_is)
  (case v_ROUND_5 => k_is)
  (case v_ROUND_6 => k_is)
  (case v_ROUND_7 => k_is)
  (case v_ROUND_8 => k_is)
  (case y_SIDES => k_is)
  (case v_SIDES_0 => k_is)
  (case v_SIDES_1 => k_is)
  (case v_SIDES_2 => k_is)
  (case v_SIDES_3 => k_is)
  (case v_SIDES_4 => k_is)
  (case y_STRAIGHT => k_is)
  (case v_STRAIGHT_0 => k_is)

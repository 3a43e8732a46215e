import PyProof.Rows.All
import Wide.All
import OpenK.AllK
import Wide.FinOn
import Lean
import PyProof.EqAt
import PyProof.EqKinds
import PyProof.TupleCall
import PySem.Challenge.RW_shapethin_k44_the_piece_at_a_cell
set_option genSizeOf false
set_option bootstrap.genMatcherCode false
set_option compiler.extract_closed false
set_option linter.all false
set_option maxHeartbeats 4000000
set_option maxRecDepth 100000
noncomputable section
namespace Hd
open PySem PySem.W PySem.Calls PyProof.Rows
def A3 (stp : SharedT -> Thread -> Option (SharedT × Thread)) (ok : Thread -> Bool) : Nat -> SharedT -> Thread -> Option SharedT
 | 0, _, _ => none
 | n + 1, s, t => match through t with
  | true => some s
  | false => match ok t with
   | false => none
   | true => match stp s t with
    | some (s', t') => A3 stp ok n s' t'
    | none => none
theorem si {tb : String -> Option Builtin} {p : Program} {w : World} {n₀ : Nat} {ann : Option Value} : ∀ (n : Nat) (s : SharedT) (t : Thread) (r : SharedT), A3 (stepT (denote tb) p w) (stepOk n₀ ann) n s t = some r -> topRun tb p w n₀ ann n s.abs t = some r.abs
 | 0, _, _, _, h => by cases h
 | n + 1, s, t, r, h => by
  unfold A3 at h
  unfold topRun
  cases ht : through t with
  | true => rw [ht] at h; cases h; rfl
  | false =>
   rw [ht] at h
   cases hk : stepOk n₀ ann t with
   | false => rw [hk] at h; cases h
   | true =>
    rw [hk] at h
    cases hs : stepT (denote tb) p w s t with
    | none => rw [hs] at h; cases h
    | some x =>
     obtain ⟨s', t'⟩ := x
     rw [hs] at h
     rw [stepT_spec hs]
     exact si n s' t' r h
def Bv : List Obj -> Nat -> BT -> BT
 | [], _, t => t
 | o :: l, n, t => Bv l (n + 1) (t.ins n o)
def T0 (P : Params) : BT := Bv (boot_heap P).objs.toList 0 .nil
theorem FA (P : Params) : absHeap (T0 P) 11 (boot_heap P).life = boot_heap P := by kernel_rfl
theorem sz (P : Params) : ((boot_heap P).isNs mainGlobals, (boot_heap P).objs.size, (boot_heap P).nsMap mainGlobals "__annotations__") = (true, 11, some (.ref 6)) := by kernel_rfl
def S0 (w : World) (os : OsState) : SharedT := ⟨T0 w.params, 11, (boot_heap w.params).life, Array.mk [], boot_drawn, boot_toks, os⟩
theorem CD {p q : Program} {loose : List Str} {Xt : Shared -> Bool} {α : Type} {Yf : Shared -> α} {Ya : World -> α} {N M : Nat} {g0 : Bool}
  (open_ : ∀ w : World, (fencedOpening treeTable p w N).map (fun s => (s.heap, s.gens, s.drawn, s.toks)) = some (boot_heap w.params, Array.mk [], boot_drawn, boot_toks)) (le : Nat.ble M N = true)
  (big : ∀ w : World, (fun os => (A3 (stepT (denote treeTable) p w) (stepOk 11 (some (.ref 6))) M (S0 w os) (topStub p)).map fun r => ((staticsOk (importedModules p.main.body) (boot_heap w.params) r.abs.heap && namesBound p r.abs.heap && gensDone r.abs && laidKept (boot_heap w.params) r.abs.heap),
    openSeen q loose (importedModules p.main.body) Xt g0 r.abs, Yf r.abs)) = fun _ => some (true, openGood q loose, Ya w)) : LeftO p q loose Xt Yf Ya N g0 := fun w => by
 obtain ⟨⟨h, gs, d, k, os⟩, e, e'⟩ := Option.map_eq_some_iff.mp (open_ w)
 obtain ⟨rfl, rfl, rfl, rfl⟩ : h = boot_heap w.params /\ gs = Array.mk [] /\ d = boot_drawn /\ k = boot_toks := by simpa using e'
 obtain ⟨z1, z2, z3⟩ : _ /\ _ /\ _ := by simpa only [Prod.mk.injEq] using sz w.params
 obtain ⟨r, hr, hb⟩ := Option.map_eq_some_iff.mp (congrFun (big w) os)
 obtain ⟨l1, l2, l3⟩ : _ /\ _ /\ _ := by simpa only [Prod.mk.injEq] using hb
 have ha : (S0 w os).abs = ⟨boot_heap w.params, Array.mk [], boot_drawn, boot_toks, os⟩ := by
  unfold S0 SharedT.abs
  dsimp only
  rw [FA]
 have t := topRun_mono (N - M) _ _ _ _ (si _ _ _ _ hr)
 rw [show M + (N - M) = N by have := Nat.le_of_ble_eq_true le; lia, ha] at t
 have t2 : topFrom treeTable p w N ⟨boot_heap w.params, Array.mk [], boot_drawn, boot_toks, os⟩ = some r.abs := by
  unfold topFrom
  dsimp only
  rw [z1, z2, z3, t]
  show (match staticsOk (importedModules p.main.body) (boot_heap w.params) r.abs.heap && namesBound p r.abs.heap && gensDone r.abs && laidKept (boot_heap w.params) r.abs.heap with | true => _ | false => _) = _
  rw [l1]
 unfold openEnds
 rw [e]
 show (topFrom treeTable p w N _).map _ = _
 rw [t2]
 exact congrArg some (Prod.ext l2 l3)
theorem Ca {p q : Program} {loose : List Str} {Xt : Shared -> Bool} {α : Type} {Yf : Shared -> α} {Ya : World -> α} {g0 : Bool}
  (open_ : ∀ w : World, (fencedOpening treeTable p w 100000).map (fun s => (s.heap, s.gens, s.drawn, s.toks)) = some (boot_heap w.params, Array.mk [], boot_drawn, boot_toks))
  (big : ∀ w : World, (fun os => (A3 (Fast.tw10156331382660048174 (Fast.tw11892475500146522536 Fast.tw14364793385576792824) p w) (Fast.tw6613529449190102663 11 (some (.ref 6))) 100000 (S0 w os) (topStub p)).map fun r => ((staticsOk (Fast.tw5923862056798008813 p.main.body) (boot_heap w.params) r.abs.heap && namesBound p r.abs.heap && gensDone r.abs && laidKept (boot_heap w.params) r.abs.heap),
    Fast.tw4187177175401517315 q loose (Fast.tw5923862056798008813 p.main.body) Xt g0 r.abs, Yf r.abs)) = fun _ => some (true, openGood q loose, Ya w)) : LeftO p q loose Xt Yf Ya 100000 g0 := by
 rw [<- Fast.te10156331382660048174, <- Fast.te11892475500146522536, <- Fast.te14364793385576792824, <- Fast.te6613529449190102663, <- Fast.te5923862056798008813, <- Fast.te4187177175401517315] at big
 exact CD open_ rfl big
theorem B5 {l : OpenLaw} (h : Fast.tw9446332074065402090 l = true) : l.wellSaid = true := by
 rw [Fast.te9446332074065402090]
 exact h
end Hd
set_option Elab.async false
section
open PySem PySem.W PyProof.Rows
def Hd.q : Program := view PySem.Challenge.pw_shapethin_k44_the_piece_at_a_cell [1, 2, 3, 5, 6, 7, 8, 9, 11, 13, 14, 15, 16, 17, 18, 19, 20, 21, 23, 24, 25, 26, 27, 28, 29, 30, 31, 32, 33, 34]
local macro_rules | `(tactic| o_head $_) => `(tactic| assumption)
set_option maxHeartbeats 0 in
theorem Hd.e0 : PySem.Challenge.rw_shapethin_k44_the_piece_at_a_cell.row.Holds -> PySem.Challenge.rw_shapethin_k44_the_piece_at_a_cell.row.Holds := by intro h; w_on; k_head
def Hd.as : List Addr := (Hd.e0.heap_1 { strHash := fun _ => 0, shareClass := fun _ => 0, mergeTok := id, idOf := fun _ => 0, idOfShared := fun _ _ => 0, followText := fun _ => true, idOfImm := fun _ => 0 }).map (·.1)
theorem Hd.ae (P : Params) : Hd.as = (Hd.e0.heap_1 P).map (·.1) := by kernel_rfl
abbrev Hd.H : Hook := kHook Hd.e0.heap_1 Hd.as Hd.ae
set_option maxHeartbeats 0 in
theorem Hd.e1 : LeftO PySem.Challenge.rw_shapethin_k44_the_piece_at_a_cell.row.prog Hd.q [] (fun s => xlAt Hd.q [] s && recOk (RowW.records (OpenRow.toRowW (OpenLaw.row PySem.Challenge.rw_shapethin_k44_the_piece_at_a_cell))) s) (Hook.obs Hd.H) (Hook.val Hd.H) 100000 := Hd.Ca (boot_open (by rfl) rfl (fun s => rfl)) (by intro w; kernel_rfl)
set_option maxHeartbeats 0 in
theorem Hd.e2 : PySem.Challenge.rw_shapethin_k44_the_piece_at_a_cell.wellSaid = true := Hd.B5 (by kernel_rfl)
end
set_option Elab.async false
set_option linter.all false
set_option maxRecDepth 100000
namespace L2
open PySem PySem.Spec PyProof.Rows
abbrev Key := Sum Int Str
def rS : Key -> Value -> Bool
 | .inl k, v => Value.isInt k v
 | .inr x, v => Value.isStrOf x v
def HA (w : World) : Key -> Int
 | .inl k => hashInt k
 | .inr x => hashStr w x
theorem bS : ∀ {k : Key} {v : Value}, rS k v = true -> (∃ i t, k = Sum.inl i /\ v = Value.int i t) \/ (∃ x t, k = Sum.inr x /\ v = Value.str x t)
 | .inl i, v, h => by
  obtain ⟨t, e⟩ := Value.isInt_shape (k := i) (v := v) h
  exact .inl ⟨i, t, rfl, e⟩
 | .inr x, v, h => by
  obtain ⟨t, e⟩ := Value.isStrOf_shape (x := x) (v := v) h
  exact .inr ⟨x, t, rfl, e⟩
theorem zn (i : Int) (t : Tok) : rS (.inl i) (.int i t) = true := by simp [rS, Value.isInt]
theorem yC (x : Str) (t : Tok) : rS (.inr x) (.str x t) = true := by simp [rS, Value.isStrOf]
theorem Ec (a b : Int) : decide ((Sum.inl a : Key) = Sum.inl b) = (a == b) := by
 by_cases e : a = b
 ·subst e; simp
 ·have h : ¬ (Sum.inl a : Key) = Sum.inl b := fun q => e (Sum.inl.inj q)
  rw [decide_eq_false h]
  exact (beq_eq_false_iff_ne.mpr e).symm
theorem Ew (a b : Str) : decide ((Sum.inr a : Key) = Sum.inr b) = decide (a = b) := by
 by_cases e : a = b
 ·subst e; simp
 ·have h : ¬ (Sum.inr a : Key) = Sum.inr b := fun q => e (Sum.inr.inj q)
  rw [decide_eq_false h, decide_eq_false e]
theorem EX (a : Int) (b : Str) : decide ((Sum.inl a : Key) = Sum.inr b) = false := decide_eq_false (fun q => nomatch q)
theorem DR (a : Str) (b : Int) : decide ((Sum.inr a : Key) = Sum.inl b) = false := decide_eq_false (fun q => nomatch q)
def bi (prog : Program) (w : World) : PySem.KeyKind prog w Key where
 is := rS
 hash := HA w
 inj := fun v a b ha hb => by
  rcases bS ha with ⟨i, t, rfl, rfl⟩ | ⟨x, t, rfl, rfl⟩
  ·rcases bS hb with ⟨j, u, rfl, e⟩ | ⟨y, u, rfl, e⟩
   ·injection e with e1 _; rw [e1]
   ·exact nomatch e
  ·rcases bS hb with ⟨j, u, rfl, e⟩ | ⟨y, u, rfl, e⟩
   ·exact nomatch e
   ·injection e with e1 _; rw [e1]
 byValue := fun k v h => by
  rcases bS h with ⟨i, t, rfl, rfl⟩ | ⟨x, t, rfl, rfl⟩ <;> rfl
 pyHash := fun hv h => by
  rcases bS hv with ⟨i, t, rfl, rfl⟩ | ⟨x, t, rfl, rfl⟩
  ·exact wpAny_pyHash_int h
  ·exact wpAny_pyHash_str h
 eqBool := fun hu hv h => by
  rcases bS hu with ⟨i, t, rfl, rfl⟩ | ⟨x, t, rfl, rfl⟩
  ·rcases bS hv with ⟨j, u, rfl, rfl⟩ | ⟨y, u, rfl, rfl⟩
   ·rw [Ec] at h; exact wpAny_eqBool_int h
   ·rw [EX] at h; exact SeqAt.EqAt.int_str i t y u _ _ _ _ h
  ·rcases bS hv with ⟨j, u, rfl, rfl⟩ | ⟨y, u, rfl, rfl⟩
   ·rw [DR] at h; exact SeqAt.EqAt.str_int x t j u _ _ _ _ h
   ·rw [Ew] at h; exact wpAny_eqBool_str h
 «strs» := fun k x t v h => by
  rcases bS h with ⟨i, u, rfl, e⟩ | ⟨y, u, rfl, e⟩
  ·exact nomatch e
  ·injection e with e1 _
   subst e1
   cases v <;> rfl
theorem vW (prog : Program) (w : World) (i : Int) (t : Tok) : (bi prog w).is (.inl i) (.int i t) = true := zn i t
theorem uB (prog : Program) (w : World) (x : Str) (t : Tok) : (bi prog w).is (.inr x) (.str x t) = true := yC x t
inductive V where
 | non | bl (b : Bool) | int (i : Int) | str (x : Str) | byt (b : Array UInt8) | flt (b : UInt64) | ref (a : Addr) | ty (n : String)
 deriving DecidableEq
def RelV : V -> Value -> Prop
 | .non, u => u = Value.none
 | .bl b, u => u = Value.bool b
 | .int i, u => ∃ t, u = Value.int i t
 | .str x, u => ∃ t, u = Value.str x t
 | .byt b, u => ∃ t, u = Value.bytes b t
 | .flt b, u => ∃ t, u = Value.float b t
 | .ref a, u => u = Value.ref a
 | .ty n, u => u = Value.type n
abbrev Vals : List V -> List Value -> Prop := Paired RelV
theorem Vals.length {xs : List V} {us : List Value} (r : Vals xs us) : xs.length = us.length := Paired.length r
theorem Vals.get : ∀ {xs : List V} {us : List Value} {i : Nat} {x : V}, Vals xs us -> xs[i]? = some x -> ∃ u, us[i]? = some u /\ RelV x u
 | _, _, _, _, .nil, e => by simp at e
 | _, _, 0, _, .cons r _, e => by simp at e; subst e; exact ⟨_, rfl, r⟩
 | _, _, i + 1, x, .cons _ t, e => by
  obtain ⟨u, h1, h2⟩ := Vals.get (i := i) (x := x) t (by simpa using e)
  exact ⟨u, by simpa using h1, h2⟩
theorem Vals.set {x : V} {u : Value} (r : RelV x u) : ∀ {xs : List V} {us : List Value} (i : Nat), Vals xs us -> Vals (xs.set i x) (us.set i u)
 | _, _, _, .nil => .nil
 | _, _, 0, .cons _ t => .cons r t
 | _, _, i + 1, .cons q t => .cons q (Vals.set r i t)
theorem Vals.append : ∀ {xs ys : List V} {us ws : List Value}, Vals xs us -> Vals ys ws -> Vals (xs ++ ys) (us ++ ws)
 | _, _, _, _, .nil, s => s
 | _, _, _, _, .cons r t, s => .cons r (Vals.append t s)
theorem Vals.take : ∀ {xs : List V} {us : List Value} (n : Nat), Vals xs us -> Vals (xs.take n) (us.take n)
 | _, _, 0, _ => .nil
 | _, _, _ + 1, .nil => .nil
 | _, _, n + 1, .cons r t => .cons r (Vals.take n t)
theorem Vals.drop : ∀ {xs : List V} {us : List Value} (n : Nat), Vals xs us -> Vals (xs.drop n) (us.drop n)
 | _, _, 0, r => r
 | _, _, _ + 1, .nil => .nil
 | _, _, n + 1, .cons _ t => Vals.drop n t
def RelO : Option V -> Option Value -> Prop
 | some v, some u => RelV v u
 | none, none => True
 | _, _ => False
def KV {κ : Type} : List (κ × V) -> List (κ × Value) -> Prop := Paired fun (p : κ × V) (q : κ × Value) => p.1 = q.1 /\ RelV p.2 q.2
def kV : Key -> V
 | .inl i => .int i
 | .inr x => .str x
inductive HO where
  | lst (xs : List V)
  | tup (xs : List V)
  | dK (kvs : List (Key × V)) | dT (kvs : List (List Key × V))
  | set (S : Int -> Bool) (n : Nat)
  | ins (C dx : Addr) (fs : List (Str × V))
  | own (x : Addr)
  | xd (fs : List (Str × V))
  | met (f x : Addr)
  | rng (lo hi : Int)
  | frz (o : Obj) (u : HO)
  | tbl (ps : Array Value)
  | ext (φ : Heap -> Prop)
abbrev Hp := Addr -> Option HO
def upd (H : Hp) (a : Addr) (o : HO) : Hp := fun b => if b = a then some o else H b
theorem aC {H : Hp} {a : Addr} {o : HO} : upd H a o a = some o := by unfold upd; rw [if_pos rfl]
theorem aB {H : Hp} {a b : Addr} {o : HO} (h : b ≠ a) : upd H a o b = H b := by unfold upd; rw [if_neg h]
theorem xM {H : Hp} {a : Addr} {o u : HO} : upd (upd H a o) a u = upd H a u := by
 funext b; unfold upd; split <;> rfl
theorem vf {H : Hp} {a b : Addr} {o u : HO} (h : H a = some o) (h' : H b = some u) (d : o ≠ u) : a ≠ b := by
 intro e; subst e; rw [h] at h'; exact d (Option.some.inj h')
theorem a9 {H : Hp} {a b : Addr} {o : HO} (h : H a = some o) (h' : H b = none) : a ≠ b := by
 intro e; subst e; rw [h] at h'; cases h'
section
variable (P : Program) (w : World)
def ObjOk (H : Hp) (h : Heap) (a : Addr) : HO -> Prop
 | .lst xs => xs.length <= sizeLine /\ ∃ (its : List Value) (n : Nat), Vals xs its /\ h.get? a = some { cls := .type "list", data := .seq its.toArray n }
 | .tup xs => xs.length <= sizeLine /\ ∃ its : List Value, Vals xs its /\ IsTup h a its.toArray
 | .dK kvs => kvs.length <= sizeLine /\ (a == sysModules) = false /\ ∃ vs, KV kvs vs /\ h.DictOf (bi P w) a vs
 | .dT kvs => kvs.length <= sizeLine /\ (a == sysModules) = false /\ ∃ xs : List (List Key × Addr × Value),
   Paired (fun (p : List Key × V) (q : List Key × Addr × Value) => p.1 = q.1 /\ H q.2.1 = some (.tup (p.1.map kV)) /\ RelV p.2 q.2.2) kvs xs /\
   ∃ o es ep, h.get? a = some o /\ o.ExactDict /\ o.data = .dict es ep /\ es.toList = xs.map (entryOfKey (tupleKind (bi P w))) /\ (xs.map (·.1)).Nodup
 | .set S n => h.SetOf (intKind P w) a S n
 | .ins C dx fs => H dx = some (.own a) /\ fs.length <= 1000 /\ dx ≠ a /\ h.get? a = some (W.instObj C dx) /\
   ∃ mA, h.Ns1 dx mA /\ (∀ f, RelO (fs.lookup f) (mA f)) /\ PySem.Within mA (fs.map (·.1))
 | .own _ => ∃ o, h.get? a = some o
 | .xd fs => ∃ mA, h.Ns1 a mA /\ ∀ f, RelO (fs.lookup f) (mA f)
 | .rng lo hi => ∃ t u v, h.get? a = some { cls := .type "range", data := .fields #[.int lo t, .int hi u, .int 1 v] }
 | .frz o u => h.get? a = some o /\ ObjOk H h a u
 | .tbl ps => h.get? a = some { cls := .none, data := .fields ps }
 | .met f x => h.get? a = some (W.methodObj (.ref f) (.ref x))
 | .ext φ => φ h /\ (∃ o, h.get? a = some o) /\ ∀ h1 h2 : Heap, φ h1 -> (∀ o, h1.get? a = some o -> h2.get? a = some o) -> φ h2
def HOk (H : Hp) (h : Heap) : Prop := ∀ a o, H a = some o -> ObjOk P w H h a o
end
section
variable {P : Program} {w : World} {H H' : Hp} {h h' : Heap} {a : Addr} {o : HO}
theorem ObjOk.lt (x : ObjOk P w H h a o) : a < h.objs.size := by
 cases o with
 | lst xs => obtain ⟨_, _, _, _, e⟩ := x; exact Heap.lt_size e
 | tup xs => obtain ⟨_, _, _, p⟩ := x; exact p.lt
 | dK kvs => obtain ⟨_, _, _, _, o, _, _, e, _⟩ := x; exact Heap.lt_size e
 | dT kvs => obtain ⟨_, _, _, _, o, _, _, e, _⟩ := x; exact Heap.lt_size e
 | set S n => obtain ⟨o, _, _, _, e, _⟩ := x; exact Heap.lt_size e
 | ins C dx fs => obtain ⟨_, _, _, e, _⟩ := x; exact Heap.lt_size e
 | own y => obtain ⟨_, e⟩ := x; exact Heap.lt_size e
 | xd fs => obtain ⟨_, ⟨_, _, _, e, _⟩, _⟩ := x; exact Heap.lt_size e
 | rng lo hi => obtain ⟨_, _, _, e⟩ := x; exact Heap.lt_size e
 | frz ob u => obtain ⟨e, _⟩ := x; exact Heap.lt_size e
 | tbl ps => exact Heap.lt_size (show h.get? a = some _ from x)
 | met f y => exact Heap.lt_size (show h.get? a = some _ from x)
 | ext φ => obtain ⟨_, ⟨_, e⟩, _⟩ := x; exact Heap.lt_size e
theorem Paired.mapP {α β : Type} {F G : α -> β -> Prop} : ∀ {l₁ : List α} {l₂ : List β}, Paired F l₁ l₂ -> (∀ a b, F a b -> G a b) -> Paired G l₁ l₂
 | _, _, .nil, _ => .nil
 | _, _, .cons r t, f => .cons (f _ _ r) (Paired.mapP t f)
theorem ObjOk.stay (x : ObjOk P w H h a o) (k : ∀ b u, (b = a \/ H b = some (.own a)) -> h.get? b = some u -> h'.get? b = some u)
  (ho : ∀ b, H b = some (.own a) -> H' b = some (.own a)) (ht : ∀ b xs, H b = some (.tup xs) -> H' b = some (.tup xs)) : ObjOk P w H' h' a o := by
 induction o with
 | lst xs => obtain ⟨z, its, n, r, e⟩ := x; exact ⟨z, its, n, r, k _ _ (.inl rfl) e⟩
 | tup xs => obtain ⟨z, its, r, ob, e, c⟩ := x; exact ⟨z, its, r, ob, k _ _ (.inl rfl) e, c⟩
 | dK kvs => obtain ⟨z, y, vs, r, ob, es, ep, e, c⟩ := x; exact ⟨z, y, vs, r, ob, es, ep, k _ _ (.inl rfl) e, c⟩
 | dT kvs =>
  obtain ⟨z, y, xs, r, ob, es, ep, e, c⟩ := x
  exact ⟨z, y, xs, Paired.mapP r fun p q z => ⟨z.1, ht _ _ z.2.1, z.2.2⟩, ob, es, ep, k _ _ (.inl rfl) e, c⟩
 | set S n => obtain ⟨ob, es, ep, t, e, c⟩ := x; exact ⟨ob, es, ep, t, k _ _ (.inl rfl) e, c⟩
 | ins C dx fs =>
  obtain ⟨d, z, ne, e, mA, ⟨od, es, ep, e2, c⟩, r⟩ := x
  exact ⟨ho _ d, z, ne, k _ _ (.inl rfl) e, mA, ⟨od, es, ep, k _ _ (.inr d) e2, c⟩, r⟩
 | own y => obtain ⟨ob, e⟩ := x; exact ⟨ob, k _ _ (.inl rfl) e⟩
 | xd fs => obtain ⟨mA, ⟨od, es, ep, e, c⟩, r⟩ := x; exact ⟨mA, ⟨od, es, ep, k _ _ (.inl rfl) e, c⟩, r⟩
 | rng lo hi => obtain ⟨t, u, v, e⟩ := x; exact ⟨t, u, v, k _ _ (.inl rfl) e⟩
 | frz ob u ih => obtain ⟨e, q⟩ := x; exact ⟨k _ _ (.inl rfl) e, ih q⟩
 | tbl ps =>
  have e : h.get? a = some { cls := .none, data := .fields ps } := x
  show h'.get? a = some { cls := .none, data := .fields ps }
  exact k a _ (.inl rfl) e
 | met f y =>
  have e : h.get? a = some (W.methodObj (.ref f) (.ref y)) := x
  show h'.get? a = some (W.methodObj (.ref f) (.ref y))
  exact k a _ (.inl rfl) e
 | ext φ => obtain ⟨p, ⟨o, e⟩, st⟩ := x; exact ⟨st _ _ p fun o q => k _ _ (.inl rfl) q, ⟨o, k _ _ (.inl rfl) e⟩, st⟩
theorem HOk.lt (x : HOk P w H h) (e : H a = some o) : a < h.objs.size := (x a o e).lt
theorem HOk.fresh (x : HOk P w H h) (e : h.objs.size <= a) : H a = none := by
 cases q : H a with
 | none => rfl
 | some u => exact absurd (Nat.lt_of_lt_of_le (x.lt q) e) (Nat.lt_irrefl _)
theorem HOk.kept (x : HOk P w H h) (k : ∀ b u, h.get? b = some u -> h'.get? b = some u) : HOk P w H h' := fun a o e =>
 (x a o e).stay (fun b u _ q => k b u q) (fun _ q => q) fun _ _ q => q
theorem HOk.laid (x : HOk P w H h) (k : ∀ b u, h.get? b = some u -> h'.get? b = some u) (hp : h.objs.size <= a) (new : ObjOk P w (upd H a o) h' a o) : HOk P w (upd H a o) h' := fun b u e => by
 have hn := x.fresh hp
 by_cases hb : b = a
 ·subst hb; rw [aC] at e; cases e; exact new
 ·rw [aB hb] at e
  exact (x b u e).stay (fun c v _ q => k c v q) (fun c q => by rw [aB (a9 q hn)]; exact q) fun c xs q => by rw [aB (a9 q hn)]; exact q
end
def Rd (H : Hp) (a : Addr) (u : HO) : Prop := H a = some u \/ ∃ o, H a = some (.frz o u)
theorem Rd.ok {P : Program} {w : World} {H : Hp} {h : Heap} {a : Addr} {u : HO} (r : Rd H a u) (x : HOk P w H h) : ObjOk P w H h a u := by
 rcases r with r | ⟨o, r⟩
 ·exact x a u r
 ·obtain ⟨_, q⟩ := x a _ r
  exact q
def Mut : Option HO -> Prop
 | some (.lst _) => True
 | some (.dK _) => True
 | some (.dT _) => True
 | some (.set _ _) => True
 | some (.ins _ _ _) => True
 | some (.ext _) => True
 | _ => False
section
variable {P : Program} {w : World} {H : Hp} {h h' : Heap} {x e : Addr} {o' : HO}
theorem HOk.write (ok : HOk P w H h) (mu : Mut (H x)) (he : e = x \/ H e = some (.own x)) (k : ∀ b u, b ≠ e -> h.get? b = some u -> h'.get? b = some u) (heo : ∃ u, h'.get? e = some u)
  (new : ObjOk P w (upd H x o') h' x o') : HOk P w (upd H x o') h' := fun b u q => by
 have nown : ∀ c y, H c = some (.own y) -> c ≠ x := fun c y r z => by subst z; rw [r] at mu; exact mu
 have ntup : ∀ c xs, H c = some (.tup xs) -> c ≠ x := fun c xs r z => by subst z; rw [r] at mu; exact mu
 by_cases hb : b = x
 ·subst hb; rw [aC] at q; cases q; exact new
 ·rw [aB hb] at q
  by_cases hbe : b = e
  ·have q' : H b = some (.own x) := by
    rcases he with z | z
    ·exact absurd (hbe.trans z) hb
    ·rw [hbe]; exact z
   rw [q] at q'; cases q'
   obtain ⟨v, hv⟩ := heo
   exact ⟨v, by rw [hbe]; exact hv⟩
  ·refine (ok b u q).stay (fun c v hc r => k c v ?_ r) (fun c r => by rw [aB (nown c b r)]; exact r) fun c xs r => by rw [aB (ntup c xs r)]; exact r
   rcases hc with rfl | hc
   ·exact hbe
   ·rintro rfl
    rcases he with z | z
    ·exact nown c b hc z
    ·rw [hc] at z; cases z; exact hb rfl
end
structure Un (fs ex : List Addr) (H H' : Hp) (h h' : Heap) : Prop where
 keep : ∀ b o, h.get? b = some o -> H b = none -> b ∉ fs -> b ∉ ex -> h'.get? b = some o
 slot : ∀ b o, h.get? b = some o -> H b = none -> b ∈ fs -> b ∉ ex -> ∃ sl, h'.get? b = some { o with slots := sl }
 free : ∀ b o, h.get? b = some o -> H b = none -> b ∉ ex -> H' b = none
 there : ∀ b o, h.get? b = some o -> b ∉ ex -> ∃ o', h'.get? b = some o'
 tups : ∀ b xs, H b = some (.tup xs) -> H' b = some (.tup xs)
 frzs : ∀ b o u, H b = some (.frz o u) -> H' b = some (.frz o u)
 tbls : ∀ b ps, H b = some (.tbl ps) -> ∃ more, H' b = some (.tbl (ps ++ more))
section
variable {fs fs' ex ex' : List Addr} {H H1 H2 : Hp} {h h1 h2 h' : Heap} {a x e : Addr} {o : HO}
theorem Un.any (u : Un fs ex H H1 h h1) {b : Addr} {ob : Obj} (q : h.get? b = some ob) (n : H b = none) (hx : b ∉ ex) : ∃ sl, h1.get? b = some { ob with slots := sl } := by
 by_cases hb : b ∈ fs
 ·exact u.slot b ob q n hb hx
 ·exact ⟨ob.slots, u.keep b ob q n hb hx⟩
theorem Un.trans (a : Un fs ex H H1 h h1) (b : Un fs ex H1 H2 h1 h2) : Un fs ex H H2 h h2 where
 keep := fun c ob q n hc hx => b.keep c ob (a.keep c ob q n hc hx) (a.free c ob q n hx) hc hx
 slot := fun c ob q n hc hx => by
  obtain ⟨sl, e1⟩ := a.slot c ob q n hc hx
  obtain ⟨sl', e2⟩ := b.slot c _ e1 (a.free c ob q n hx) hc hx
  exact ⟨sl', e2⟩
 free := fun c ob q n hx => by
  obtain ⟨o', e1⟩ := a.there c ob q hx
  exact b.free c o' e1 (a.free c ob q n hx) hx
 there := fun c ob q hx => by
  obtain ⟨o', e1⟩ := a.there c ob q hx
  exact b.there c o' e1 hx
 tups := fun c xs q => b.tups c xs (a.tups c xs q)
 frzs := fun c ob xs q => b.frzs c ob xs (a.frzs c ob xs q)
 tbls := fun c ps q => by
  obtain ⟨m1, e1⟩ := a.tbls c ps q
  obtain ⟨m2, e2⟩ := b.tbls c _ e1
  exact ⟨m1 ++ m2, by rw [e2, Array.append_assoc]⟩
theorem Un.kept (k : ∀ b u, h.get? b = some u -> h'.get? b = some u) : Un fs ex H H h h' :=
 ⟨fun b ob q _ _ _ => k b ob q, fun b ob q _ _ _ => ⟨ob.slots, k b ob q⟩, fun _ _ _ n _ => n, fun b ob q _ => ⟨ob, k b ob q⟩, fun _ _ q => q, fun _ _ _ q => q, fun _ ps q => ⟨#[], by rw [q]; simp⟩⟩
theorem Un.refl : Un fs ex H H h h := Un.kept fun _ _ q => q
theorem Un.laid (k : ∀ b u, h.get? b = some u -> h'.get? b = some u) (hp : h.objs.size <= a) (hn : H a = none) : Un fs ex H (upd H a o) h h' where
 keep := fun b u q _ _ _ => k b u q
 slot := fun b u q _ _ _ => ⟨u.slots, k b u q⟩
 free := fun b u q n _ => by rw [aB (Nat.ne_of_lt (Nat.lt_of_lt_of_le (Heap.lt_size q) hp))]; exact n
 there := fun b u q _ => ⟨u, k b u q⟩
 tups := fun b xs q => by rw [aB (a9 q hn)]; exact q
 frzs := fun b u xs q => by rw [aB (a9 q hn)]; exact q
 tbls := fun b ps q => ⟨#[], by rw [aB (a9 q hn), q]; simp⟩
theorem Un.write (mu : Mut (H x)) (he : e = x \/ H e = some (.own x)) (k : ∀ b u, b ≠ e -> h.get? b = some u -> h'.get? b = some u) (heo : ∃ u, h'.get? e = some u) : Un fs ex H (upd H x o) h h' := by
 have hx : ∀ b, H b = none -> b ≠ x := fun b n z => by subst z; rw [n] at mu; exact mu
 have hb : ∀ b, H b = none -> b ≠ e := fun b n z => by
  subst z
  rcases he with r | r
  ·exact hx b n r
  ·rw [n] at r; cases r
 have hm : ∀ b u, H b = some u -> ¬ Mut (some u) -> b ≠ x := fun b u q nm z => by subst z; rw [q] at mu; exact nm mu
 refine ⟨fun b u q n _ _ => k b u (hb b n) q, fun b u q n _ _ => ⟨u.slots, k b u (hb b n) q⟩, fun b u q n _ => by rw [aB (hx b n)]; exact n, fun b u q _ => ?_,
  fun b xs q => by rw [aB (hm b _ q fun z => z)]; exact q, fun b u xs q => by rw [aB (hm b _ q fun z => z)]; exact q, fun b ps q => ⟨#[], by rw [aB (hm b _ q fun z => z), q]; simp⟩⟩
 by_cases hbe : b = e
 ·subst hbe; exact heo
 ·exact ⟨u, k b u hbe q⟩
end
def trk (h : Heap) (H : Hp) : List Addr := (List.range h.objs.size).filter fun a => (H a).isSome
def uv (h : Heap) (H : Hp) : Heap := W.hideAll h (trk h H)
theorem y6 (h : Heap) (H : Hp) : (uv h H).objs.size = h.objs.size := W.hideAll_size _ _
theorem A9 {h : Heap} {H : Hp} {b : Addr} {o : Obj} (e : h.get? b = some o) (n : H b = none) : (uv h H).get? b = some o :=
 W.hideAll_get _ e fun hm => by
  have q : (H b).isSome = true := (List.mem_filter.mp hm).2
  rw [n] at q; simp at q
theorem Cm {h : Heap} {H : Hp} {b : Addr} {o : Obj} (e : (uv h H).get? b = some o) : h.get? b = some o /\ H b = none := by
 have e' : h.get? b = some o := W.of_hideAll (trk h H) e
 refine ⟨e', ?_⟩
 cases q : H b with
 | none => rfl
 | some x =>
  have hm : b ∈ trk h H := List.mem_filter.mpr ⟨List.mem_range.mpr (Heap.lt_size e'), by simp [q]⟩
  have z : (uv h H).get? b = none := W.hideAll_none (trk h H) hm
  rw [z] at e; cases e
def Ch (g h : Heap) (L : Addr) : List (Addr × Obj) := (List.range h.objs.size).filterMap fun a => if a = L \/ (g.get? a).isSome = true then none else (h.get? a).map fun o => (a, o)
def fR (g h : Heap) (L d : Addr) : List (Addr × Obj) := (Ch g h L).filter fun p => decide (p.1 ≠ d)
structure Mod (K : W.Frag) (mg : Str -> Option Value) (base : Heap) : Prop where
 kin : K.In base
 glob : base.Ns mainGlobals mg
 blt : ∃ mb, base.Ns builtinsNs mb /\ ∀ x : Str, x ≠ "__name__" -> mb x = bootBuiltins x
 nolimit : base.NoLimit
structure Cx where
 prog : Program
 w : World
 K : W.Frag
 mg : Str -> Option Value
 base : Heap
 A : Around
 N : List Str
 s₀ : Shared
 H₀ : Hp
 env : Env
 outer : List Env
 stack : List Env
 ex : List Addr
 fn : Str -> Bool
 calm : Bool
 pn : List (Addr × Obj)
 xe : Value -> Shared -> Prop
def frs (l : List Env) : List Addr := l.filterMap (·.frame)
abbrev Cx.fs (X : Cx) : List Addr := frs X.outer
def Vis (sc : Scope) (x : Str) : Prop := sc.names.lookup x = some .local \/ sc.names.lookup x = some .cell \/ sc.names.lookup x = some .free
def Loc (sc : Scope) (x : Str) : Prop := sc.names.lookup x = some .local \/ sc.names.lookup x = some .cell
def Hs (env : Env) (h : Heap) (m : Str -> Option Value) (x : Str) (u : Value) : Prop :=
 (env.kindOf x = some .local /\ m x = some u) \/ ((env.kindOf x = some .cell \/ env.kindOf x = some .free) /\ ∃ c, env.cells.lookup x = some c /\ h.IsCell c (some u))
structure Cx.Ok (X : Cx) : Prop where
 mod : Mod X.K X.mg X.base
 kind : X.env.scope.kind = .function
 glob : X.env.globals = mainGlobals
 blt : X.env.builtins = builtinsNs
 above : X.s₀.heap.objs.size <= X.env.locals
 inj : ∀ x y c, X.env.cells.lookup x = some c -> X.env.cells.lookup y = some c -> x = y
 has : ∀ x, (X.env.kindOf x = some .cell \/ X.env.kindOf x = some .free) -> ∃ c, X.env.cells.lookup x = some c
 cab : ∀ x c, X.fn x = true -> X.env.cells.lookup x = some c -> X.s₀.heap.objs.size <= c
 hd : X.calm = true -> X.A.handled = none
 frames : X.A.frames = some X.stack
 stk : X.stack = X.outer \/ (X.stack = X.env :: X.outer /\ X.env.frame = some X.env.locals)
 exf : ∀ b ∈ X.ex, b ≠ X.env.locals /\ ∀ x c, X.env.cells.lookup x = some c -> c ≠ b
 bs : ∀ b o, X.base.get? b = some o -> X.s₀.heap.get? b = some o /\ X.H₀ b = none
 bsz : X.base.objs.size <= X.s₀.heap.objs.size
 noex : ∀ b o, X.base.get? b = some o -> b ∉ X.ex
 exfs : ∀ b ∈ X.ex, b ∉ X.fs
 funs : X.s₀.heap.FunFrames X.base X.outer
 frf : ∀ b ∈ X.fs, X.H₀ b = none
structure Inv (X : Cx) (pins : List (Addr × Obj)) (σ : List (Option V)) (H : Hp) (s : Shared) : Prop where
 ok : X.Ok
 os : s.os = X.s₀.os
 bare : AllBare s.gens
 base : Un X.fs X.ex X.H₀ H X.s₀.heap s.heap
 loc : ∃ m, s.heap.Ns X.env.locals m /\ ∀ (i : Nat) (x : Str) (v : V), X.N[i]? = some x -> σ[i]? = some (some v) -> Vis X.env.scope x -> ∃ u, RelV v u /\ Hs X.env s.heap m x u
 cell : ∀ x c, X.env.cells.lookup x = some c -> ∃ v, s.heap.IsCell c v
 free : H X.env.locals = none
 freeC : ∀ x c, X.env.cells.lookup x = some c -> H c = none
 pin : ∀ p ∈ X.pn ++ pins, s.heap.get? p.1 = some p.2 /\ H p.1 = none /\ p.1 ≠ X.env.locals /\ p.1 ∉ X.fs /\ ∀ v, p.2.data ≠ .cell v
 hok : HOk X.prog X.w H s.heap
 len : σ.length = X.N.length
section
variable {X : Cx} {pins : List (Addr × Obj)} {σ : List (Option V)} {H H' : Hp} {s : Shared} {h' : Heap}
theorem Cx.Ok.nofr (ok : X.Ok) {b : Addr} {o : Obj} (e : X.base.get? b = some o) : b ∉ X.fs := fun hb => by
 have := (ok.funs.mem hb).1
 rw [e] at this; cases this
theorem Inv.bs (I : Inv X pins σ H s) : ∀ b o, X.base.get? b = some o -> s.heap.get? b = some o /\ H b = none := fun b o e =>
 ⟨I.base.keep b o (I.ok.bs b o e).1 (I.ok.bs b o e).2 (I.ok.nofr e) (I.ok.noex b o e), I.base.free b o (I.ok.bs b o e).1 (I.ok.bs b o e).2 (I.ok.noex b o e)⟩
theorem Inv.bk (I : Inv X pins σ H s) : ∀ b o, X.base.get? b = some o -> s.heap.get? b = some o := fun b o e => (I.bs b o e).1
theorem Inv.mod (I : Inv X pins σ H s) : Mod X.K X.mg X.base := I.ok.mod
theorem Inv.kIn (I : Inv X pins σ H s) : X.K.In s.heap := I.ok.mod.kin.keeps I.bk
theorem Inv.fr (I : Inv X pins σ H s) : ∃ m, Fr X.base X.env.locals s.heap m :=
 let ⟨m, hn, _⟩ := I.loc
 ⟨m, hn, I.bk, Nat.le_trans I.ok.bsz I.ok.above⟩
theorem Inv.lt (I : Inv X pins σ H s) : X.env.locals < s.heap.objs.size := let ⟨_, hn, _⟩ := I.loc; hn.lt
theorem Inv.sz (I : Inv X pins σ H s) : X.s₀.heap.objs.size <= s.heap.objs.size := Nat.le_trans I.ok.above (Nat.le_of_lt I.lt)
theorem Inv.nofs (I : Inv X pins σ H s) {a : Addr} (h : s.heap.objs.size <= a) : a ∉ X.fs := fun hb => by
 obtain ⟨_, o, ho, _⟩ := I.ok.funs.mem hb
 exact absurd (Nat.lt_of_lt_of_le (Heap.lt_size ho) (Nat.le_trans I.sz h)) (Nat.lt_irrefl _)
theorem Inv.cne (I : Inv X pins σ H s) : ∀ x c, X.env.cells.lookup x = some c -> c ≠ X.env.locals := fun x c e z => by
 obtain ⟨v, o, ho, hd⟩ := I.cell x c e
 obtain ⟨m, ⟨o', es, ep, ho', hd', _⟩, _⟩ := I.loc
 rw [z, ho'] at ho; cases ho; rw [hd'] at hd; cases hd
theorem Inv.funs (I : Inv X pins σ H s) : s.heap.FunFrames X.base X.outer := by
 have all : ∀ (l : List Env), (∀ b ∈ frs l, b ∈ X.fs) -> X.s₀.heap.FunFrames X.base l -> s.heap.FunFrames X.base l := by
  intro l
  induction l with
  | nil => intro _ _; trivial
  | cons env r ih =>
   intro hs hl
   obtain ⟨hk, ⟨L, o, hf, hn, ho, hd⟩, hr⟩ := hl
   have hL : L ∈ X.fs := hs L (by unfold frs; rw [List.filterMap_cons, hf]; exact List.mem_cons_self)
   obtain ⟨sl, e⟩ := I.base.slot L o ho (I.ok.frf L hL) hL fun z => I.ok.exfs L z hL
   exact ⟨hk, ⟨L, _, hf, hn, e, hd⟩, ih (fun b hb => hs b (by unfold frs; rw [List.filterMap_cons, hf]; exact List.mem_cons_of_mem _ hb)) hr⟩
 exact all X.outer (fun _ hb => hb) I.ok.funs
theorem Inv.stack (I : Inv X pins σ H s) : s.heap.FunFrames X.base X.stack := by
 rcases I.ok.stk with e | ⟨e, hf⟩
 ·rw [e]; exact I.funs
 ·rw [e]
  obtain ⟨m, hn, _⟩ := I.loc
  refine .cons (by rw [I.ok.kind]; decide) hf hn ?_ I.funs
  exact Heap.get?_none_of_le (Nat.le_trans I.ok.bsz I.ok.above)
theorem Inv.stkSub (I : Inv X pins σ H s) : ∀ b ∈ frs X.stack, b ∈ X.env.locals :: X.fs := fun b hb => by
 rcases I.ok.stk with e | ⟨e, hf⟩
 ·rw [e] at hb; exact List.mem_cons_of_mem _ hb
 ·rw [e] at hb
  unfold frs at hb
  rw [List.filterMap_cons, hf] at hb
  exact hb
theorem Inv.stkFree (I : Inv X pins σ H s) : ∀ b ∈ frs X.stack, H b = none := fun b hb => by
 rcases List.mem_cons.mp (I.stkSub b hb) with e | hb
 ·rw [e]; exact I.free
 ·obtain ⟨_, o, ho, _⟩ := I.ok.funs.mem hb
  exact I.base.free b o ho (I.ok.frf b hb) fun z => I.ok.exfs b z hb
theorem Inv.step {g' : Array GenState} {t' : Nat} {d' : Drawn} {ch : List Addr} (I : Inv X pins σ H s)
  (hch : ∀ b ∈ ch, (b ∈ X.ex \/ X.s₀.heap.objs.size <= b) /\ b ≠ X.env.locals /\ (∀ x c, X.env.cells.lookup x = some c -> c ≠ b) /\ ∀ p ∈ X.pn ++ pins, p.1 ≠ b)
  (keep : ∀ b o, b ≠ X.env.locals -> b ∉ X.fs -> b ∉ ch -> s.heap.get? b = some o -> H b = none -> h'.get? b = some o)
  (slot : ∀ b o, b ≠ X.env.locals -> b ∈ X.fs -> b ∉ ch -> s.heap.get? b = some o -> H b = none -> ∃ sl, h'.get? b = some { o with slots := sl }) (free : ∀ b o, b ∉ ch -> s.heap.get? b = some o -> H b = none -> H' b = none)
  (there : ∀ b o, b ∉ ch -> s.heap.get? b = some o -> ∃ o', h'.get? b = some o')
  (tups : ∀ b xs, H b = some (.tup xs) -> H' b = some (.tup xs)) (frzs : ∀ b o u, H b = some (.frz o u) -> H' b = some (.frz o u)) (tbls : ∀ b ps, H b = some (.tbl ps) -> ∃ more, H' b = some (.tbl (ps ++ more)))
  (ns : ∀ m, s.heap.Ns X.env.locals m -> h'.Ns X.env.locals m) (hok : HOk X.prog X.w H' h') (hg : AllBare g') :
  Inv X pins σ H' { s with heap := h', gens := g', drawn := d', toks := t' } := by
 have neL : ∀ b o, X.s₀.heap.get? b = some o -> b ≠ X.env.locals := fun b o e => Nat.ne_of_lt (Nat.lt_of_lt_of_le (Heap.lt_size e) I.ok.above)
 have neC : ∀ b o, X.s₀.heap.get? b = some o -> b ∉ X.ex -> b ∉ ch := fun b o e hx hb => by
  rcases (hch b hb).1 with z | z
  ·exact hx z
  ·exact absurd (Nat.lt_of_lt_of_le (Heap.lt_size e) z) (Nat.lt_irrefl _)
 have cellK : ∀ x c, X.env.cells.lookup x = some c -> ∀ v, s.heap.IsCell c v -> h'.IsCell c v := fun x c e v hpt0 => by
  obtain ⟨o, ho, hd⟩ := hpt0
  have nch : c ∉ ch := fun z => (hch c z).2.2.1 x c e rfl
  by_cases hc : c ∈ X.fs
  ·obtain ⟨sl, q⟩ := slot c o (I.cne x c e) hc nch ho (I.freeC x c e)
   exact ⟨_, q, hd⟩
  ·exact ⟨o, keep c o (I.cne x c e) hc nch ho (I.freeC x c e), hd⟩
 refine ⟨I.ok, I.os, hg, ⟨fun b o e n hb hx => ?_, fun b o e n hb hx => ?_, fun b o e n hx => ?_, fun b o e hx => ?_, fun b xs e => tups b xs (I.base.tups b xs e), fun b o xs e => frzs b o xs (I.base.frzs b o xs e), fun b ps e => ?_⟩, ?_, fun x c e => ?_, ?_, fun x c e => ?_, fun p hp => ?_, hok, I.len⟩
 ·exact keep b o (neL b o e) hb (neC b o e hx) (I.base.keep b o e n hb hx) (I.base.free b o e n hx)
 ·obtain ⟨sl, e1⟩ := I.base.slot b o e n hb hx
  obtain ⟨sl', e2⟩ := slot b _ (neL b o e) hb (neC b o e hx) e1 (I.base.free b o e n hx)
  exact ⟨sl', e2⟩
 ·obtain ⟨o', e1⟩ := I.base.there b o e hx
  exact free b o' (neC b o e hx) e1 (I.base.free b o e n hx)
 ·obtain ⟨o', e1⟩ := I.base.there b o e hx
  exact there b o' (neC b o e hx) e1
 ·obtain ⟨m1, e1⟩ := I.base.tbls b ps e
  obtain ⟨m2, e2⟩ := tbls b _ e1
  exact ⟨m1 ++ m2, by rw [e2, Array.append_assoc]⟩
 ·obtain ⟨m, hn, hl⟩ := I.loc
  refine ⟨m, ns m hn, fun i x v e1 e2 e3 => ?_⟩
  obtain ⟨u, r, l⟩ := hl i x v e1 e2 e3
  refine ⟨u, r, ?_⟩
  rcases l with l | ⟨k, c, e, z⟩
  ·exact .inl l
  ·exact .inr ⟨k, c, e, cellK x c e _ z⟩
 ·obtain ⟨v, z⟩ := I.cell x c e
  exact ⟨v, cellK x c e v z⟩
 ·obtain ⟨m, ⟨o, _, _, ho, _⟩, _⟩ := I.loc
  exact free _ o (fun z => (hch _ z).2.1 rfl) ho I.free
 ·obtain ⟨v, o, ho, hd⟩ := I.cell x c e
  exact free c o (fun z => (hch c z).2.2.1 x c e rfl) ho (I.freeC x c e)
 ·obtain ⟨e, n, ne, nf, d⟩ := I.pin p hp
  have nch : p.1 ∉ ch := fun z => (hch p.1 z).2.2.2 p hp rfl
  exact ⟨keep p.1 p.2 ne nf nch e n, free p.1 p.2 nch e n, ne, nf, d⟩
theorem Inv.un {t' : Nat} (I : Inv X pins σ H s) (u : Un X.fs [] H H' s.heap h') (hok : HOk X.prog X.w H' h') : Inv X pins σ H' { s with heap := h', toks := t' } := by
 obtain ⟨m, ⟨o, es, ep, ho, r⟩, _⟩ := id I.loc
 obtain ⟨sl, hL⟩ := u.any ho I.free (by simp)
 exact I.step (g' := s.gens) (d' := s.drawn) (ch := []) (fun _ z => nomatch z) (fun b o _ hb _ e n => u.keep b o e n hb (by simp)) (fun b o _ hb _ e n => u.slot b o e n hb (by simp)) (fun b o _ e n => u.free b o e n (by simp)) (fun b o _ e => u.there b o e (by simp)) u.tups u.frzs u.tbls (fun m' hm => by
  obtain ⟨o', es', ep', ho', r'⟩ := hm
  rw [ho] at ho'; cases ho'
  exact ⟨_, es', ep', hL, r'⟩) hok I.bare
theorem Inv.call {g' : Array GenState} {t' : Nat} {d' : Drawn} {ch : List Addr} (I : Inv X pins σ H s) (u : Un (frs X.stack) ch H H' s.heap h') (hok : HOk X.prog X.w H' h') (hg : AllBare g')
  (hch : ∀ b ∈ ch, (b ∈ X.ex \/ X.s₀.heap.objs.size <= b) /\ b ≠ X.env.locals /\ (∀ x c, X.env.cells.lookup x = some c -> c ≠ b) /\ ∀ p ∈ X.pn ++ pins, p.1 ≠ b) :
  Inv X pins σ H' { s with heap := h', gens := g', drawn := d', toks := t' } := by
 obtain ⟨m, ⟨o, es, ep, ho, r⟩, _⟩ := id I.loc
 obtain ⟨sl, hL⟩ := u.any ho I.free fun z => (hch _ z).2.1 rfl
 exact I.step (ch := ch) hch (fun b o hL hb hc e n => u.keep b o e n (fun z => (List.mem_cons.mp (I.stkSub b z)).elim hL hb) hc) (fun b o _ _ hc e n => u.any e n hc) (fun b o hc e n => u.free b o e n hc) (fun b o hc e => u.there b o e hc) u.tups u.frzs u.tbls (fun m' hm => by
  obtain ⟨o', es', ep', ho', r'⟩ := hm
  rw [ho] at ho'; cases ho'
  exact ⟨_, es', ep', hL, r'⟩) hok hg
theorem Inv.turned {t' : Nat} {it : Addr} (I : Inv X pins σ H s) (k : ∀ b o, b ≠ it -> s.heap.get? b = some o -> h'.get? b = some o) (hn : H it = none) (hL : it ≠ X.env.locals)
  (h1 : it ∈ X.ex \/ X.s₀.heap.objs.size <= it) (h2 : ∀ x c, X.env.cells.lookup x = some c -> c ≠ it) (h3 : ∀ p ∈ X.pn ++ pins, p.1 ≠ it) : Inv X pins σ H { s with heap := h', toks := t' } := by
 have nit : ∀ b u, H b = some u -> b ≠ it := fun b u e z => by rw [z, hn] at e; cases e
 refine I.step (g' := s.gens) (d' := s.drawn) (ch := [it]) (fun b hb => ?_) (fun b o _ _ hc e _ => k b o (fun z => hc (by simp [z])) e) (fun b o _ _ hc e _ => ⟨o.slots, k b o (fun z => hc (by simp [z])) e⟩) (fun _ _ _ _ n => n)
  (fun b o hc e => ⟨o, k b o (fun z => hc (by simp [z])) e⟩) (fun _ _ e => e) (fun _ _ _ e => e) (fun b ps e => ⟨#[], by rw [e]; simp⟩) (fun m hm => ?_) (fun b u e => ?_) I.bare
 ·have e : b = it := by simpa using hb
  subst e
  exact ⟨h1, hL, h2, h3⟩
 ·obtain ⟨o, es, ep, ho, r⟩ := hm
  exact ⟨o, es, ep, k _ o (Ne.symm hL) ho, r⟩
 ·refine (I.hok b u e).stay (fun c v hc q => k c v ?_ q) (fun _ q => q) fun _ _ q => q
  rcases hc with z | z
  ·rw [z]; exact nit b u e
  ·exact nit c _ z
theorem Inv.tok (I : Inv X pins σ H s) (t : Nat) : Inv X pins σ H { s with toks := t } := I.un (h' := s.heap) (t' := t) Un.refl I.hok
theorem Inv.kept {t' : Nat} (I : Inv X pins σ H s) (k : ∀ b u, s.heap.get? b = some u -> h'.get? b = some u) : Inv X pins σ H { s with heap := h', toks := t' } := I.un (Un.kept k) (I.hok.kept k)
theorem Inv.laid {a : Addr} {o : HO} {t' : Nat} (I : Inv X pins σ H s) (k : ∀ b u, s.heap.get? b = some u -> h'.get? b = some u) (hp : s.heap.objs.size <= a) (new : ObjOk X.prog X.w (upd H a o) h' a o) :
  Inv X pins σ (upd H a o) { s with heap := h', toks := t' } := I.un (Un.laid k hp (I.hok.fresh hp)) (I.hok.laid k hp new)
theorem Inv.write {x e : Addr} {o : HO} {t' : Nat} (I : Inv X pins σ H s) (mu : Mut (H x)) (he : e = x \/ H e = some (.own x)) (k : ∀ b u, b ≠ e -> s.heap.get? b = some u -> h'.get? b = some u) (heo : ∃ u, h'.get? e = some u)
  (new : ObjOk X.prog X.w (upd H x o) h' x o) : Inv X pins σ (upd H x o) { s with heap := h', toks := t' } := I.un (Un.write mu he k heo) (I.hok.write mu he k heo new)
theorem Inv.weak {σ' : List (Option V)} (I : Inv X pins σ H s) (hl : σ'.length = σ.length) (w : ∀ (i : Nat) v, σ'[i]? = some (some v) -> σ[i]? = some (some v)) : Inv X pins σ' H s :=
 ⟨I.ok, I.os, I.bare, I.base, let ⟨m, hn, hl'⟩ := I.loc; ⟨m, hn, fun i x v e1 e2 e3 => hl' i x v e1 (w i v e2) e3⟩, I.cell, I.free, I.freeC, I.pin, I.hok, hl.trans I.len⟩
theorem Inv.pins_of {pins' : List (Addr × Obj)} (I : Inv X pins σ H s) (h : ∀ p ∈ pins', s.heap.get? p.1 = some p.2 /\ H p.1 = none /\ p.1 ≠ X.env.locals /\ p.1 ∉ X.fs /\ ∀ v, p.2.data ≠ .cell v) : Inv X pins' σ H s :=
 ⟨I.ok, I.os, I.bare, I.base, I.loc, I.cell, I.free, I.freeC, fun p hp => (List.mem_append.mp hp).elim (fun z => I.pin p (List.mem_append_left _ z)) (h p), I.hok, I.len⟩
theorem vS {N : List Str} (hN : N.Nodup) {i j : Nat} {x : Str} (a : N[i]? = some x) (b : N[j]? = some x) : i = j := by
 obtain ⟨h1, e1⟩ := List.getElem?_eq_some_iff.mp a
 obtain ⟨h2, e2⟩ := List.getElem?_eq_some_iff.mp b
 exact (List.getElem_inj hN).mp (e1.trans e2.symm)
theorem zr {M : Model} {A : Around} {E : Value -> Shared -> Prop} {i : Nat} {x : Str} {v : V} {u : Value} {Q : Unit -> Shared -> Prop} (I : Inv X pins σ H s) (hN : X.N.Nodup) (hi : X.N[i]? = some x) (hx : Loc X.env.scope x) (r : RelV v u)
  (h : ∀ s', Inv X pins (σ.set i (some v)) H s' -> (∃ a, Heap.SameBut a s.heap s'.heap /\ (a = X.env.locals \/ X.env.cells.lookup x = some a)) -> Q () s') (hf : X.fn x = true \/ X.env.scope.names.lookup x = some .local := by first | exact .inl rfl | exact .inr rfl | assumption) : wpAny M A (storeName X.env x u) Q E s := by
 obtain ⟨m, hn, hl⟩ := id I.loc
 have hcls : (X.env.scope.kind == .class || (X.env.scope.kind == .module && X.env.locals != X.env.globals)) = false := by rw [I.ok.kind]; rfl
 have hiσ : i < σ.length := by rw [I.len]; exact (List.getElem?_eq_some_iff.mp hi).1
 have cne := I.cne
 have tracked : ∀ {a : Addr} {h' : Heap}, (∃ o, s.heap.get? a = some o /\ H a = none) -> Heap.SameBut a s.heap h' -> HOk X.prog X.w H h' := fun {a h'} ha hs b ob e => by
  obtain ⟨_, _, hfree⟩ := ha
  refine (I.hok b ob e).stay (fun c w' hc q => (hs.2 c ?_).trans q) (fun _ q => q) fun _ _ q => q
  rintro rfl
  rcases hc with rfl | hc
  ·rw [hfree] at e; cases e
  ·rw [hfree] at hc; cases hc
 rcases hx with hk | hk
 ·refine wpAny_storeName_local hk hn (fun h' hn' hs => ?_) hcls
  obtain ⟨oL, _, _, hoL, _⟩ := id hn
  refine h _ ⟨I.ok, I.os, I.bare, ⟨fun b o e n hb hx => ?_, fun b o e n hb hx => ?_, I.base.free, fun b o e hx => ?_, I.base.tups, I.base.frzs, I.base.tbls⟩, ⟨_, hn', fun j y v' e1 e2 e3 => ?_⟩, fun y c e => ?_, I.free, I.freeC, fun p hp => ?_, tracked ⟨oL, hoL, I.free⟩ hs, by simpa using I.len⟩ ⟨_, hs, .inl rfl⟩
  ·exact (hs.2 b (Nat.ne_of_lt (Nat.lt_of_lt_of_le (Heap.lt_size e) I.ok.above))).trans (I.base.keep b o e n hb hx)
  ·obtain ⟨sl, e1⟩ := I.base.slot b o e n hb hx
   exact ⟨sl, (hs.2 b (Nat.ne_of_lt (Nat.lt_of_lt_of_le (Heap.lt_size e) I.ok.above))).trans e1⟩
  ·obtain ⟨o', e1⟩ := I.base.there b o e hx
   exact ⟨o', (hs.2 b (Nat.ne_of_lt (Nat.lt_of_lt_of_le (Heap.lt_size e) I.ok.above))).trans e1⟩
  ·by_cases hj : j = i
   ·subst hj
    rw [hi] at e1; cases e1
    rw [List.getElem?_set_self hiσ] at e2
    cases e2
    exact ⟨u, r, .inl ⟨hk, by simp⟩⟩
   ·rw [List.getElem?_set_ne (Ne.symm hj)] at e2
    obtain ⟨u', r', q⟩ := hl j y v' e1 e2 e3
    refine ⟨u', r', ?_⟩
    rcases q with ⟨k, e⟩ | ⟨k, c, e, z⟩
    ·refine .inl ⟨k, ?_⟩
     have : y ≠ x := fun e => hj (vS hN e1 (e ▸ hi))
     simp [this, e]
    ·exact .inr ⟨k, c, e, z.sameBut hs (cne y c e)⟩
  ·obtain ⟨w', z⟩ := I.cell y c e
   exact ⟨w', z.sameBut hs (cne y c e)⟩
  ·obtain ⟨e, n, ne, nf, d⟩ := I.pin p hp
   exact ⟨(hs.2 p.1 ne).trans e, n, ne, nf, d⟩
 ·have hfn : X.fn x = true := by
   rcases hf with z | z
   ·exact z
   ·rw [z] at hk; cases hk
  obtain ⟨c, hc⟩ := I.ok.has x (.inl hk)
  obtain ⟨w', z⟩ := I.cell x c hc
  refine wpAny_storeName_cell I.ok.kind hk hc z (fun h' hc' hs => ?_)
  obtain ⟨oc, hoc, hocd⟩ := id z
  refine h { s with heap := h' } ⟨I.ok, I.os, I.bare, ⟨fun b o e n hb hx => ?_, fun b o e n hb hx => ?_, I.base.free, fun b o e hx => ?_, I.base.tups, I.base.frzs, I.base.tbls⟩, ⟨m, hn.sameBut hs (Ne.symm (cne x c hc)), fun j y v' e1 e2 e3 => ?_⟩, fun y c' e => ?_, I.free, I.freeC, fun p hp => ?_, tracked ⟨oc, hoc, I.freeC x c hc⟩ hs, by simpa using I.len⟩ ⟨c, hs, .inr hc⟩
  ·exact (hs.2 b (Nat.ne_of_lt (Nat.lt_of_lt_of_le (Heap.lt_size e) (I.ok.cab x c hfn hc)))).trans (I.base.keep b o e n hb hx)
  ·obtain ⟨sl, e1⟩ := I.base.slot b o e n hb hx
   exact ⟨sl, (hs.2 b (Nat.ne_of_lt (Nat.lt_of_lt_of_le (Heap.lt_size e) (I.ok.cab x c hfn hc)))).trans e1⟩
  ·obtain ⟨o', e1⟩ := I.base.there b o e hx
   exact ⟨o', (hs.2 b (Nat.ne_of_lt (Nat.lt_of_lt_of_le (Heap.lt_size e) (I.ok.cab x c hfn hc)))).trans e1⟩
  ·by_cases hj : j = i
   ·subst hj
    rw [hi] at e1; cases e1
    rw [List.getElem?_set_self hiσ] at e2
    cases e2
    exact ⟨u, r, .inr ⟨.inl hk, c, hc, hc'⟩⟩
   ·rw [List.getElem?_set_ne (Ne.symm hj)] at e2
    obtain ⟨u', r', q⟩ := hl j y v' e1 e2 e3
    refine ⟨u', r', ?_⟩
    rcases q with q | ⟨k, c', e, z'⟩
    ·exact .inl q
    ·refine .inr ⟨k, c', e, z'.sameBut hs ?_⟩
     rintro rfl
     exact hj (vS hN e1 (I.ok.inj _ _ _ e hc ▸ hi))
  ·by_cases hcc : c' = c
   ·subst hcc; exact ⟨_, hc'⟩
   ·obtain ⟨w2, z2⟩ := I.cell y c' e
    exact ⟨w2, z2.sameBut hs hcc⟩
  ·obtain ⟨e, n, ne, nf, d⟩ := I.pin p hp
   refine ⟨(hs.2 p.1 ?_).trans e, n, ne, nf, d⟩
   intro q
   rw [q, hoc] at e
   have q' : oc = p.2 := Option.some.inj e
   exact d w' (by rw [<- q']; exact hocd)
theorem qU {M : Model} {A : Around} {E : Value -> Shared -> Prop} {i : Nat} {x : Str} {v : V} {u : Value} {Q : Unit -> Shared -> Prop} (I : Inv X pins σ H s) (hN : X.N.Nodup) (hi : X.N[i]? = some x) (hx : Loc X.env.scope x) (r : RelV v u)
  (h : ∀ s', Inv X pins (σ.set i (some v)) H s' -> Q () s') (hf : X.fn x = true \/ X.env.scope.names.lookup x = some .local := by first | exact .inl rfl | exact .inr rfl | assumption) : wpAny M A (storeName X.env x u) Q E s :=
 zr I hN hi hx r (fun s' I' _ => h s' I') hf
theorem Inv.call' {s' : Shared} {ch : List Addr} (I : Inv X pins σ H s) (ho : s'.os = s.os) (u : Un (frs X.stack) ch H H' s.heap s'.heap) (hok : HOk X.prog X.w H' s'.heap) (hg : AllBare s'.gens)
  (hch : ∀ b ∈ ch, (b ∈ X.ex \/ X.s₀.heap.objs.size <= b) /\ b ≠ X.env.locals /\ (∀ x c, X.env.cells.lookup x = some c -> c ≠ b) /\ ∀ p ∈ X.pn ++ pins, p.1 ≠ b) : Inv X pins σ H' s' := by
 obtain ⟨h', g', d', t', o'⟩ := s'
 have e : o' = s.os := ho
 subst e
 exact I.call (g' := g') (t' := t') (d' := d') u hok hg hch
end
abbrev XK := Value -> Option Addr -> Hp -> Prop
abbrev St := List (Option V)
abbrev VK := V -> Hp -> Prop
abbrev TE := St -> Hp -> VK -> Prop
abbrev TT := St -> Hp -> (Bool -> Hp -> Prop) -> Prop
abbrev TA := St -> Hp -> (List V -> Hp -> Prop) -> Prop
structure Ends where
 nx : St -> Hp -> Prop
 rt : VK
 bk : St -> Hp -> Prop := fun _ _ => False
 ct : St -> Hp -> Prop := fun _ _ => False
abbrev TS := Ends -> St -> Hp -> Prop
def EP (X : Cx) (pins : List (Addr × Obj)) (σ : St) (Q : VK) (u : Value) (s' : Shared) : Prop := ∃ v H', Inv X pins σ H' s' /\ RelV v u /\ Q v H'
def TP (X : Cx) (pins : List (Addr × Obj)) (σ : St) (Q : Bool -> Hp -> Prop) (b : Bool) (s' : Shared) : Prop := ∃ H', Inv X pins σ H' s' /\ Q b H'
def AP (X : Cx) (pins : List (Addr × Obj)) (σ : St) (Q : List V -> Hp -> Prop) (us : List Value) (s' : Shared) : Prop := ∃ vs H', Inv X pins σ H' s' /\ Vals vs us /\ Q vs H'
def SP (X : Cx) (pins : List (Addr × Obj)) (D : Ends) (f : Flow) (s' : Shared) : Prop :=
 match f with
 | .next => ∃ σ' H', Inv X pins σ' H' s' /\ D.nx σ' H'
 | .brk => ∃ σ' H', Inv X pins σ' H' s' /\ D.bk σ' H'
 | .cont => ∃ σ' H', Inv X pins σ' H' s' /\ D.ct σ' H'
 | .ret u => ∃ v σ' H', Inv X pins σ' H' s' /\ RelV v u /\ D.rt v H'
def PE (X : Cx) (e : Expr) (t : TE) : Prop :=
 ∀ (pins : List (Addr × Obj)) (s : Shared) (σ : St) (H : Hp) (Q : VK), Inv X pins σ H s -> t σ H Q -> wpAny (model X.prog X.w) X.A (eval e X.env) (EP X pins σ Q) X.xe s
def PT (X : Cx) (e : Expr) (t : TT) : Prop :=
 ∀ (pins : List (Addr × Obj)) (s : Shared) (σ : St) (H : Hp) (Q : Bool -> Hp -> Prop), Inv X pins σ H s -> t σ H Q -> wpAny (model X.prog X.w) X.A (isTrue e X.env (eval e X.env)) (TP X pins σ Q) X.xe s
def PW (X : Cx) (e : Expr) (t : TT) : Prop :=
 ∀ (whole : Sem Value) (pins : List (Addr × Obj)) (s : Shared) (σ : St) (H : Hp) (Q : Bool -> Hp -> Prop), Inv X pins σ H s -> t σ H Q -> wpAny (model X.prog X.w) X.A (isTrue e X.env whole) (TP X pins σ Q) X.xe s
theorem PW.pt {X : Cx} {e : Expr} {t : TT} (h : PW X e t) : PT X e t := h _
def PA (X : Cx) (es : List Expr) (t : TA) : Prop :=
 ∀ (pos : Pos) (pins : List (Addr × Obj)) (s : Shared) (σ : St) (H : Hp) (Q : List V -> Hp -> Prop), Inv X pins σ H s -> t σ H Q -> wpAny (model X.prog X.w) X.A (spliced (backTo pos (starEach es X.env))) (AP X pins σ Q) X.xe s
def PS (X : Cx) (st : Stmt) (t : TS) : Prop :=
 ∀ (pins : List (Addr × Obj)) (s : Shared) (σ : St) (H : Hp) (D : Ends), Inv X pins σ H s -> t D σ H -> wpAny (model X.prog X.w) X.A (exec st X.env) (SP X pins D) X.xe s
def PSs (X : Cx) (st : List Stmt) (t : TS) : Prop :=
 ∀ (pins : List (Addr × Obj)) (s : Shared) (σ : St) (H : Hp) (D : Ends), Inv X pins σ H s -> t D σ H -> wpAny (model X.prog X.w) X.A (execs st X.env) (SP X pins D) X.xe s
theorem thn {α : Type} {t : Sem α} {Q Q' : α -> Shared -> Prop} {M : Model} {A : Around} {E : Value -> Shared -> Prop} {s : Shared} (h : wpAny M A t Q E s) (hQ : ∀ a s, Q a s -> Q' a s) : wpAny M A t Q' E s := wpAny_mono h hQ fun _ _ x => x
section
variable {X : Cx}
def qJ (i : Nat) : TE := fun σ H Q => ∃ v, σ[i]? = some (some v) /\ Q v H
def tC (v : V) : TE := fun _ H Q => Q v H
theorem EL {i : Nat} {x : Str} {pos : Pos} (hN : X.N[i]? = some x) (hv : Vis X.env.scope x) (hd : (x == ("__debug__" : Str)) = false := by decide) (hcd : (x == ("__classdict__" : Str)) = false := by decide) : PE X (.Name x pos) (qJ i) := by
 intro pins s σ H Q I h
 obtain ⟨v, e, h⟩ := h
 obtain ⟨m, hn, hl⟩ := I.loc
 obtain ⟨u, r, l⟩ := hl i x v hN e hv
 have fin : EP X pins σ Q u s := ⟨v, H, I, r, h⟩
 rcases l with ⟨hk, hm⟩ | ⟨hk, c, hc, hcell⟩
 ·exact wpAny_Name (wpAny_loadName_local I.ok.kind hk hn hm fin) hd
 ·rcases hk with hk | hk
  ·exact wpAny_Name (wpAny_loadName_cell I.ok.kind hk hc hcell fin) hd
  ·exact wpAny_Name (wpAny_loadName_free I.ok.kind hk hc hcell fin hcd) hd
theorem ai {i j pos} : PE X (.Constant (.int i) j pos) (tC (.int i)) := fun _ _ _ H _ I h => wpAny_Constant_int ⟨.int i, H, I.tok _, ⟨_, rfl⟩, h⟩
theorem pQ {b j pos} : PE X (.Constant (.bool b) j pos) (tC (.bl b)) := fun _ _ _ H _ I h => Constant_bool ⟨.bl b, H, I, rfl, h⟩
theorem wJ {j pos} : PE X (.Constant .none j pos) (tC .non) := fun _ _ _ H _ I h => Constant_none ⟨.non, H, I, rfl, h⟩
def Gl (X : Cx) (x : Str) : Prop := X.env.kindOf x = some .globalImplicit
theorem xF {E : Value -> Shared -> Prop} {pins : List (Addr × Obj)} {s : Shared} {σ : St} {H : Hp} {x : Str} {u : Value} {pos : Pos} {Q : Value -> Shared -> Prop} (I : Inv X pins σ H s) (hg : Gl X x) (hm : X.mg x = some u) (h : Q u s)
  (hd : (x == ("__debug__" : Str)) = false := by decide) : wpAny (model X.prog X.w) X.A (eval (.Name x pos) X.env) Q E s :=
 Calls.Name_function_global I.ok.kind hg (Calls.loadGlobal_global (by rw [I.ok.glob]; exact I.mod.glob.keeps I.bk) hm h) hd
theorem nj {E : Value -> Shared -> Prop} {pins : List (Addr × Obj)} {s : Shared} {σ : St} {H : Hp} {x : Str} {u : Value} {pos : Pos} {Q : Value -> Shared -> Prop} (I : Inv X pins σ H s) (hg : Gl X x) (hm : X.mg x = none) (hv : bootBuiltins x = some u) (h : Q u s)
  (hn : x ≠ "__name__" := by decide) (hd : (x == ("__debug__" : Str)) = false := by decide) : wpAny (model X.prog X.w) X.A (eval (.Name x pos) X.env) Q E s := by
 obtain ⟨mb, h1, h2⟩ := I.mod.blt
 exact Calls.Name_function_global I.ok.kind hg (Calls.loadGlobal_builtin (by rw [I.ok.glob]; exact I.mod.glob.keeps I.bk) hm (by rw [I.ok.blt]; exact h1.keeps I.bk) ((h2 x hn).trans hv) h) hd
theorem yw {x : Str} {v : V} {u : Value} {pos : Pos} (hg : Gl X x) (hm : X.mg x = some u) (r : RelV v u) (hd : (x == ("__debug__" : Str)) = false := by decide) : PE X (.Name x pos) (tC v) :=
 fun _ _ _ H _ I h => xF I hg hm ⟨v, H, I, r, h⟩ hd
theorem yh {x : Str} {v : V} {u : Value} {pos : Pos} (hg : Gl X x) (hm : X.mg x = none) (hv : bootBuiltins x = some u) (r : RelV v u) (hn : x ≠ "__name__" := by decide) (hd : (x == ("__debug__" : Str)) = false := by decide) : PE X (.Name x pos) (tC v) :=
 fun _ _ _ H _ I h => nj I hg hm hv ⟨v, H, I, r, h⟩ hn hd
variable {a b : Expr} {ta tb : TE} {pos : Pos}
def PC (X : Cx) (op : CmpOp) (a b : Expr) (t : TE) : Prop :=
 ∀ (pins : List (Addr × Obj)) (s : Shared) (σ : St) (H : Hp) (Q : VK), Inv X pins σ H s -> t σ H Q ->
  wpAny (model X.prog X.w) X.A (eval a X.env) (fun v s₁ => wpAny (model X.prog X.w) X.A (eval b X.env) (fun u s₂ => wpAny (model X.prog X.w) X.A (compareOp op v u) (EP X pins σ Q) X.xe s₂) X.xe s₁) X.xe s
def tB (t : TE) : TT := fun σ H Q => t σ H fun x H1 => ∃ c, x = .bl c /\ Q c H1
theorem E3 {op : CmpOp} {t : TE} (h : PC X op a b t) (h1 : behindInMarks op b = false := by first | exact nobehind _ (by decide) (by decide) | rfl) : PE X (.Compare a [op] [b] pos) t := fun pins s σ H Q I hw => wpAny_Compare1 (h pins s σ H Q I hw) h1
theorem Az {op : CmpOp} {t : TE} (h : PC X op a b t) (h1 : behindInMarks op b = false := by first | exact nobehind _ (by decide) (by decide) | rfl) : PT X (.Compare a [op] [b] pos) (tB t) := by
 intro pins s σ H Q I hw
 refine wpAny_isTrue_Compare1 (thn (h pins s σ H _ I hw) fun v s1 h1 => thn h1 fun u s2 h2 => thn h2 fun c s3 hpt9 => ?_) h1
 obtain ⟨x, H1, I1, r1, q1⟩ := hpt9
 obtain ⟨d, rfl, q⟩ := q1
 cases r1
 exact wpAny_truthy_bool ⟨H1, I1, q⟩
variable {tA tB' : TT} {fR : List Expr}
def Gk (t u : TT) : TT := fun σ H Q => t σ H fun c H1 => if c = true then u σ H1 Q else Q false H1
def tOr (t u : TT) : TT := fun σ H Q => t σ H fun c H1 => if c = true then Q true H1 else u σ H1 Q
def F0 (t : TT) : TT := fun σ H Q => t σ H fun c H1 => Q (!c) H1
theorem fL (ha : PT X a tA) : PW X (.BoolOp .And [a] pos) tA := by
 intro wh pins s σ H Q I h
 refine isTrue_and (thn (ha pins s σ H Q I h) fun c s1 e => ?_)
 cases c with
 | true => exact isTrue_and_nil e
 | false => exact e
theorem tK (ha : PT X a tA) : PW X (.BoolOp .Or [a] pos) tA := by
 intro wh pins s σ H Q I h
 refine isTrue_or (thn (ha pins s σ H Q I h) fun c s1 e => ?_)
 cases c with
 | false => exact isTrue_or_nil e
 | true => exact e
theorem iW (ha : PT X a tA) (hb : PW X (.BoolOp .And (b :: fR) pos) tB') : PW X (.BoolOp .And (a :: b :: fR) pos) (Gk tA tB') := by
 intro wh pins s σ H Q I h
 refine isTrue_and (thn (ha pins s σ H _ I h) fun c s1 hpt9 => ?_)
 obtain ⟨H1, I1, q1⟩ := hpt9
 cases c with
 | true => exact hb wh pins s1 σ H1 Q I1 q1
 | false => exact ⟨H1, I1, q1⟩
theorem xQ (ha : PT X a tA) (hb : PW X (.BoolOp .Or (b :: fR) pos) tB') : PW X (.BoolOp .Or (a :: b :: fR) pos) (tOr tA tB') := by
 intro wh pins s σ H Q I h
 refine isTrue_or (thn (ha pins s σ H _ I h) fun c s1 hpt9 => ?_)
 obtain ⟨H1, I1, q1⟩ := hpt9
 cases c with
 | true => exact ⟨H1, I1, q1⟩
 | false => exact hb wh pins s1 σ H1 Q I1 q1
theorem wS (ha : PT X a tA) : PT X (.UnaryOp .Not a pos) (F0 tA) := by
 intro pins s σ H Q I h
 exact isTrue_not (ha pins s σ H (fun c H1 => Q (!c) H1) I h)
def Da (ta tb : TE) : TE := fun σ H Q => ta σ H fun x H1 => ∃ c, x = .bl c /\ if c = true then tb σ H1 Q else Q (.bl false) H1
theorem Bn {op} {t : TE} (h : PE X a t) : PE X (.BoolOp op [a] pos) t := fun pins s σ H Q I hw => BoolOp_one (h pins s σ H Q I hw)
theorem AK (ha : PE X a ta) (hb : PE X (.BoolOp .And (b :: fR) pos) tb) : PE X (.BoolOp .And (a :: b :: fR) pos) (Da ta tb) := by
 intro pins s σ H Q I h
 refine BoolOp_and (thn (ha pins s σ H _ I h) fun v s1 hpt9 => ?_)
 obtain ⟨x, H1, I1, r1, q1⟩ := hpt9
 obtain ⟨c, rfl, q1⟩ := q1
 cases r1
 refine wpAny_truthy_bool ?_
 cases c with
 | true => exact hb pins s1 σ H1 Q I1 q1
 | false => exact ⟨.bl false, H1, I1, rfl, q1⟩
end
def SqL (K : W.Frag) (H : Hp) (a : Addr) (xs : List V) : Prop :=
 Rd H a (.lst xs) \/
  ∃ (o : Obj) (its : Array Value) (n : Nat), K.lookup a = some o /\ o.cls = .type "list" /\ o.dict = none /\ o.data = .seq its n /\ its.size <= sizeLine /\ Vals xs its.toList
def SqT (K : W.Frag) (H : Hp) (a : Addr) (xs : List V) : Prop :=
 Rd H a (.tup xs) \/
  ∃ (o : Obj) (its : Array Value) (n : Nat), K.lookup a = some o /\ o.cls = .type "tuple" /\ o.data = .seq its n /\ its.size <= sizeLine /\ Vals xs its.toList
def H9 : Value -> Option V
 | .none => some .non
 | .bool b => some (.bl b)
 | .int i _ => some (.int i)
 | .str x _ => some (.str x)
 | .bytes b _ => some (.byt b)
 | .float b _ => some (.flt b)
 | .ref a => some (.ref a)
 | .type n => some (.ty n)
 | _ => none
theorem RelV.abs {x : V} {u : Value} (r : RelV x u) : H9 u = some x := by
 cases x with
 | non => cases r; rfl
 | bl _ => cases r; rfl
 | int _ => obtain ⟨t, rfl⟩ := r; rfl
 | str _ => obtain ⟨t, rfl⟩ := r; rfl
 | byt _ => obtain ⟨t, rfl⟩ := r; rfl
 | flt _ => obtain ⟨t, rfl⟩ := r; rfl
 | ref _ => cases r; rfl
 | ty _ => cases r; rfl
theorem RelV.inj {x y : V} {u : Value} (r : RelV x u) (q : RelV y u) : x = y := Option.some.inj (r.abs.symm.trans q.abs)
theorem Vals.inj {xs ys : List V} {us : List Value} (h : Vals xs us) (k : Vals ys us) : xs = ys := by
 induction h generalizing ys with
 | nil => cases k; rfl
 | cons r t ih =>
  cases k with
  | cons r' t' => rw [r.inj r', ih t']
section
variable {X : Cx} {pins : List (Addr × Obj)} {σ : St} {H : Hp} {s : Shared} {a : Addr} {xs ys : List V}
theorem SqL.of {K : W.Frag} (h : H a = some (.lst xs)) : SqL K H a xs := .inl (.inl h)
theorem SqT.of {K : W.Frag} (h : H a = some (.tup xs)) : SqT K H a xs := .inl (.inl h)
theorem Inv.list (I : Inv X pins σ H s) (h : SqL X.K H a xs) : ∃ its : List Value, Vals xs its /\ PlainL s.heap a its.toArray /\ xs.length <= sizeLine := by
 rcases h with h | ⟨o, its, n, hk, hc, hd, hs, hz, r⟩
 ·obtain ⟨z, its, n, r, e⟩ := h.ok I.hok
  exact ⟨its, r, ⟨_, n, e, rfl, rfl, rfl⟩, z⟩
 ·refine ⟨its.toList, r, ⟨o, n, I.kIn a o hk, hc, hd, by simpa using hs⟩, ?_⟩
  have e := r.length
  simp only [Array.length_toList] at e
  lia
theorem Inv.tuple (I : Inv X pins σ H s) (h : SqT X.K H a xs) : ∃ its : List Value, Vals xs its /\ IsTup s.heap a its.toArray /\ xs.length <= sizeLine := by
 rcases h with h | ⟨o, its, n, hk, hc, hs, hz, r⟩
 ·obtain ⟨z, its, r, p⟩ := h.ok I.hok
  exact ⟨its, r, p, z⟩
 ·refine ⟨its.toList, r, ⟨o, I.kIn a o hk, hc, n, by simpa using hs⟩, ?_⟩
  have e := r.length
  simp only [Array.length_toList] at e
  lia
theorem Inv.list_inj (I : Inv X pins σ H s) (h : SqL X.K H a xs) (h' : SqL X.K H a ys) : xs = ys := by
 obtain ⟨its, r, ⟨o, n, e, _, _, d⟩, _⟩ := I.list h
 obtain ⟨its', r', ⟨o', n', e', _, _, d'⟩, _⟩ := I.list h'
 rw [e] at e'; cases e'
 rw [d] at d'
 injection d' with d1 _
 have : its = its' := by simpa using congrArg Array.toList d1
 subst this
 exact r.inj r'
theorem Inv.tuple_inj (I : Inv X pins σ H s) (h : SqT X.K H a xs) (h' : SqT X.K H a ys) : xs = ys := by
 obtain ⟨its, r, ⟨o, e, _, n, d⟩, _⟩ := I.tuple h
 obtain ⟨its', r', ⟨o', e', _, n', d'⟩, _⟩ := I.tuple h'
 rw [e] at e'; cases e'
 rw [d] at d'
 injection d' with d1 _
 have : its = its' := by simpa using congrArg Array.toList d1
 subst this
 exact r.inj r'
end
abbrev Cx.wish (X : Cx) (E : Value -> Shared -> Prop) : Cx := { X with xe := E }
abbrev Cx.nox (X : Cx) : Cx := X.wish fun _ _ => False
theorem Cx.Ok.wish {X : Cx} (ok : X.Ok) (E : Value -> Shared -> Prop) : (X.wish E).Ok :=
 ⟨ok.mod, ok.kind, ok.glob, ok.blt, ok.above, ok.inj, ok.has, ok.cab, ok.hd, ok.frames, ok.stk, ok.exf, ok.bs, ok.bsz, ok.noex, ok.exfs, ok.funs, ok.frf⟩
theorem Cx.Ok.unwish {X : Cx} {E : Value -> Shared -> Prop} (ok : (X.wish E).Ok) : X.Ok :=
 ⟨ok.mod, ok.kind, ok.glob, ok.blt, ok.above, ok.inj, ok.has, ok.cab, ok.hd, ok.frames, ok.stk, ok.exf, ok.bs, ok.bsz, ok.noex, ok.exfs, ok.funs, ok.frf⟩
section
variable {X : Cx} {pins : List (Addr × Obj)} {σ : St} {H : Hp} {s : Shared} {E : Value -> Shared -> Prop}
theorem Inv.wish (I : Inv X pins σ H s) (E : Value -> Shared -> Prop) : Inv (X.wish E) pins σ H s := ⟨I.ok.wish E, I.os, I.bare, I.base, I.loc, I.cell, I.free, I.freeC, I.pin, I.hok, I.len⟩
theorem Inv.unwish (I : Inv (X.wish E) pins σ H s) : Inv X pins σ H s := ⟨I.ok.unwish, I.os, I.bare, I.base, I.loc, I.cell, I.free, I.freeC, I.pin, I.hok, I.len⟩
theorem SP.unwish {D : Ends} {f : Flow} {s' : Shared} (h : SP (X.wish E) pins D f s') : SP X pins D f s' := by
 cases f with
 | next => obtain ⟨σ', H', I, q⟩ := h; exact ⟨σ', H', I.unwish, q⟩
 | brk => obtain ⟨σ', H', I, q⟩ := h; exact ⟨σ', H', I.unwish, q⟩
 | cont => obtain ⟨σ', H', I, q⟩ := h; exact ⟨σ', H', I.unwish, q⟩
 | ret u => obtain ⟨v, σ', H', I, r, q⟩ := h; exact ⟨v, σ', H', I.unwish, r, q⟩
theorem PSs.nox {st : List Stmt} {t : TS} (h : PSs X.nox st t) : PSs X st t := fun pins s σ H D I hw =>
 wpAny_mono (h pins s σ H D (I.wish _) hw) (fun _ _ q => q.unwish) fun _ _ z => False.elim z
end
section
variable {X : Cx} {st : Stmt} {fR : List Stmt} {t u : TS} {e : Expr} {te : TE} {pos : Pos}
def CU : TS := fun D σ H => D.nx σ H
def F4 (t u : TS) : TS := fun D σ H => t { D with nx := u D } σ H
theorem bA : PSs X [] CU := fun _ _ σ H _ I h => wpAny_execs_nil ⟨σ, H, I, h⟩
theorem ao (h1 : PS X st t) (h2 : PSs X fR u) : PSs X (st :: fR) (F4 t u) := by
 intro pins s σ H D I h
 refine wpAny_execs_cons (thn (h1 pins s σ H { D with nx := u D } I h) fun f s1 q => ?_)
 cases f with
 | next =>
  obtain ⟨σ', H', I', q⟩ := q
  exact h2 pins s1 σ' H' D I' q
 | ret v => exact q
 | brk => exact q
 | cont => exact q
theorem ar (h1 : PS X st t) : PSs X [st] t := by
 intro pins s σ H D I h
 refine wpAny_execs_cons (thn (h1 pins s σ H D I h) fun f s1 q => ?_)
 cases f with
 | next => exact wpAny_execs_nil q
 | ret v => exact q
 | brk => exact q
 | cont => exact q
theorem Inv.quiet {pins : List (Addr × Obj)} {σ : St} {H : Hp} {s : Shared} (I : Inv X pins σ H s) : interactive X.env = false := by simp [interactive, I.ok.kind]
def yu (te : TE) : TS := fun D σ H => te σ H fun _ H1 => D.nx σ H1
theorem bW (he : PE X e te) (hs : swapsWith e none pos.line X.env = pure false := by rfl) : PS X (.Expr e pos) (yu te) := by
 intro pins s σ H D I h
 exact wpAny_Expr_any (thn (he pins s σ H _ I h) fun v s1 ⟨x, H1, I1, r1, q1⟩ => ⟨σ, H1, I1, q1⟩) I.quiet hs
def Ei (te : TE) : TS := fun D σ H => te σ H D.rt
theorem aQ (he : PE X e te) : PS X (.Return (some e) pos) (Ei te) := by
 intro pins s σ H D I h
 exact wpAny_Return_some (thn (he pins s σ H _ I h) fun v s1 ⟨x, H1, I1, r1, q1⟩ => ⟨x, σ, H1, I1, r1, q1⟩)
def Fv (c : TT) (t u : TS) : TS := fun D σ H => c σ H fun b H1 => if b = true then t D σ H1 else u D σ H1
theorem cn {c : Expr} {a b : List Stmt} {tc : TT} (hc : PT X c tc) (ha : PSs X a t) (hb : PSs X b u) : PS X (.If c a b pos) (Fv tc t u) := by
 intro pins s σ H D I h
 refine wpAny_If (thn (hc pins s σ H _ I h) fun d s1 hpt9 => ?_)
 obtain ⟨H1, I1, q1⟩ := hpt9
 cases d with
 | true => exact ha pins s1 σ H1 D I1 q1
 | false => exact hb pins s1 σ H1 D I1 q1
end
abbrev TG := V -> St -> Hp -> (St -> Hp -> Prop) -> Prop
abbrev TGs := List V -> St -> Hp -> (St -> Hp -> Prop) -> Prop
def PG (X : Cx) (target : Expr) (t : TG) : Prop :=
 ∀ (pins : List (Addr × Obj)) (s : Shared) (σ : St) (H : Hp) (v : V) (u : Value) (Q : St -> Hp -> Prop), Inv X pins σ H s -> RelV v u -> t v σ H Q ->
  wpAny (model X.prog X.w) X.A (assign target X.env u) (fun _ s' => ∃ σ' H', Inv X pins σ' H' s' /\ Q σ' H') X.xe s
def PGs (X : Cx) (ts : List Expr) (t : TGs) : Prop :=
 ∀ (pins : List (Addr × Obj)) (s : Shared) (σ : St) (H : Hp) (vs : List V) (us : List Value) (Q : St -> Hp -> Prop), Inv X pins σ H s -> Vals vs us -> t vs σ H Q ->
  wpAny (model X.prog X.w) X.A (assignInOrder ((assignEach ts X.env).map (·.2)) us) (fun _ s' => ∃ σ' H', Inv X pins σ' H' s' /\ Q σ' H') X.xe s
abbrev D4 := V -> V -> V -> Hp -> (Hp -> Prop) -> Prop
def Fk (X : Cx) (t : D4) : Prop :=
 ∀ (pins : List (Addr × Obj)) (s : Shared) (σ : St) (H : Hp) (o i v : V) (ov iv u : Value) (Q : Hp -> Prop), Inv X pins σ H s -> RelV o ov -> RelV i iv -> RelV v u -> t o i v H Q ->
  wpAny (model X.prog X.w) X.A (setItem ov iv u) (fun _ s' => ∃ H', Inv X pins σ H' s' /\ Q H') X.xe s
abbrev TIp := V -> V -> Hp -> VK -> Prop
def PIp (X : Cx) (op : Operator) (t : TIp) : Prop :=
 ∀ (pins : List (Addr × Obj)) (s : Shared) (σ : St) (H : Hp) (x y : V) (v u : Value) (Q : VK), Inv X pins σ H s -> RelV x v -> RelV y u -> t x y H Q ->
  wpAny (model X.prog X.w) X.A (inplaceOp op v u) (EP X pins σ Q) X.xe s
section
variable {X : Cx} {pos : Pos}
def iE (i : Nat) : TG := fun v σ H Q => Q (σ.set i (some v)) H
theorem mF {i : Nat} {x : Str} (hN : X.N.Nodup) (hi : X.N[i]? = some x) (hx : Loc X.env.scope x) (hf : X.fn x = true \/ X.env.scope.names.lookup x = some .local := by first | exact .inl rfl | exact .inr rfl | assumption) : PG X (.Name x pos) (iE i) := by
 intro pins s σ H v u Q I r h
 exact wpAny_assign_Name (qU I hN hi hx r (fun s' I' => ⟨_, H, I', h⟩) hf)
def DQ : TGs := fun vs σ H Q => vs = [] /\ Q σ H
def A7 (t : TG) (u : TGs) : TGs := fun vs σ H Q => ∃ v r, vs = v :: r /\ t v σ H fun σ' H' => u r σ' H' Q
theorem bd : PGs X [] DQ := by
 intro pins s σ H vs us Q I r h
 obtain ⟨e, h⟩ := h
 subst e
 cases r
 exact assignInOrder_nil ⟨σ, H, I, h⟩
theorem au {e : Expr} {es : List Expr} {t : TG} {u : TGs} (h1 : PG X e t) (h2 : PGs X es u)
  (hs : (assignEach (e :: es) X.env).map (·.2) = assign e X.env :: (assignEach es X.env).map (·.2) := by rfl) : PGs X (e :: es) (A7 t u) := by
 intro pins s σ H vs us Q I r h
 obtain ⟨v, vr, e1, h⟩ := h
 subst e1
 cases r with
 | cons r rr =>
  rw [hs]
  refine assignInOrder_cons (thn (h1 pins s σ H _ _ _ I r h) fun _ s1 hpt9 => ?_)
  obtain ⟨σ1, H1, I1, q1⟩ := hpt9
  exact h2 pins s1 σ1 H1 _ _ Q I1 rr q1
def DP (K : W.Frag) (n : Nat) (t : TGs) : TG := fun v σ H Q => ∃ a xs, v = .ref a /\ SqT K H a xs /\ xs.length = n /\ t xs σ H Q
theorem bI {es : List Expr} {k : Nat} {t : TGs} {n : Nat} (hc : X.calm = true) (h : PGs X es t)
  (hn : (assignEach es X.env).length = n := by rfl) (hst : (assignEach es X.env).findIdx? (·.1) = none := by rfl) : PG X (.Tuple es k pos) (DP X.K n t) := by
 intro pins s σ H v u Q I r hw
 obtain ⟨a, xs, e1, hq, hl, hw⟩ := hw
 subst e1
 cases r
 obtain ⟨its, rv, ht, hz⟩ := I.tuple hq
 refine assign_Tuple_tuple (I.ok.hd hc) ht (by simp [hn, <- hl, rv.length]) hst fun h' hx => ?_
 have I1 : Inv X pins σ H { s with heap := h' } := I.kept (t' := s.toks) fun b o e => hx b o (Nat.ne_of_lt (Heap.lt_size e)) e
 exact h pins _ σ H xs _ Q I1 (by simpa using rv) hw
def Gq (to ti : TE) (t : D4) : TG := fun v σ H Q => to σ H fun o H1 => ti σ H1 fun i H2 => t o i v H2 fun H3 => Q σ H3
theorem ph {o i : Expr} {to ti : TE} {t : D4} (ho : PE X o to) (hi : PE X i ti) (hs : Fk X t)
  (ha : ∀ v, assign (.Subscript o i pos) X.env v = (do
   let ov ← holding [v] (eval o X.env)
   let iv ← holding [v, ov] (eval i X.env)
   standAt pos
   holding [v, ov, iv] (setItem ov iv v)
   release [v, ov, iv] []) := by intro _; rfl) : PG X (.Subscript o i pos) (Gq to ti t) := by
 intro pins s σ H v u Q I r h
 rw [ha]
 refine wpAny_bind (wpAny_holding (thn (ho pins s σ H _ I h) fun ov s1 hpt9 => ?_))
 obtain ⟨x, H1, I1, r1, q1⟩ := hpt9
 refine wpAny_bind (wpAny_holding (thn (hi pins s1 σ H1 _ I1 q1) fun iv s2 hpt9 => ?_))
 obtain ⟨y, H2, I2, r2, q2⟩ := hpt9
 refine wpAny_bind (wpAny_standAt (wpAny_bind (wpAny_holding (thn (hs pins s2 σ H2 x y v ov iv u _ I2 r1 r2 r q2) fun _ s3 hpt9 => ?_))))
 obtain ⟨H3, I3, q3⟩ := hpt9
 exact wpAny_release ⟨σ, H3, I3, q3⟩
def uU (te : TE) (g : TG) : TS := fun D σ H => te σ H fun x H1 => g x σ H1 D.nx
theorem jI {tg e : Expr} {te : TE} {g : TG} (he : PE X e te) (hg : PG X tg g) (hs : swapsWithSole [tg] e pos.line X.env = pure false := by rfl) (hw : swappedStores [tg] e X.env = pure none := by rfl)
  (h1 : (assignEach [tg] X.env).map (·.2) = [assign tg X.env] := by rfl) : PS X (.Assign [tg] e pos) (uU te g) := by
 intro pins s σ H D I h
 refine wpAny_Assign_stores (thn (he pins s σ H _ I h) fun v s1 hpt9 => ?_) hs hw
 obtain ⟨x, H1, I1, r1, q1⟩ := hpt9
 rw [h1]
 exact thn (hg pins s1 σ H1 x v _ I1 r1 q1) fun _ s2 q => q
theorem mV {i : Nat} {x : Str} {e : Expr} {te : TE} {pos' : Pos} (hN : X.N.Nodup) (hi : X.N[i]? = some x) (hx : Loc X.env.scope x) (he : PE X e te) (hs : swapsWith e (some (.Name x pos')) pos.line X.env = pure false := by rfl) (hf : X.fn x = true \/ X.env.scope.names.lookup x = some .local := by first | exact .inl rfl | exact .inr rfl | assumption) :
  PS X (.Assign [.Name x pos'] e pos) (uU te (iE i)) := by
 intro pins s σ H D I h
 refine wpAny_Assign_Name (thn (he pins s σ H _ I h) fun v s1 hpt9 => ?_) hs
 obtain ⟨y, H1, I1, r1, q1⟩ := hpt9
 exact qU I1 hN hi hx r1 (fun s2 I2 => ⟨_, H1, I2, q1⟩) hf
def Gy (i : Nat) (te : TE) (ti : TIp) : TS := fun D σ H => ∃ x, σ[i]? = some (some x) /\ te σ H fun y H1 => ti x y H1 fun z H2 => D.nx (σ.set i (some z)) H2
theorem wE {i : Nat} {x : Str} {e : Expr} {te : TE} {op : Operator} {ti : TIp} {pos' : Pos} (hN : X.N.Nodup) (hi : X.N[i]? = some x) (hx : Loc X.env.scope x) (he : PE X e te) (ho : PIp X op ti) (hf : X.fn x = true \/ X.env.scope.names.lookup x = some .local := by first | exact .inl rfl | exact .inr rfl | assumption) :
  PS X (.AugAssign (.Name x pos') op e pos) (Gy i te ti) := by
 intro pins s σ H D I h
 obtain ⟨v, e1, h⟩ := h
 obtain ⟨m, hn, hl⟩ := I.loc
 have vis : Vis X.env.scope x := by rcases hx with k | k; exact .inl k; exact .inr (.inl k)
 obtain ⟨u, r, l⟩ := hl i x v hi e1 vis
 refine wpAny_AugAssign_Name ?_
 have go : wpAny (model X.prog X.w) X.A (eval e X.env) (fun w s₂ => wpAny (model X.prog X.w) X.A (inplaceOp op u w) (fun r s₃ => wpAny (model X.prog X.w) X.A (storeName X.env x r) (fun _ => SP X pins D .next) X.xe s₃) X.xe s₂) X.xe s := by
  refine thn (he pins s σ H _ I h) fun w s1 hpt9 => ?_
  obtain ⟨y, H1, I1, r1, q1⟩ := hpt9
  refine thn (ho pins s1 σ H1 v y u w _ I1 r r1 q1) fun z s2 hpt9 => ?_
  obtain ⟨zv, H2, I2, r2, q2⟩ := hpt9
  exact qU I2 hN hi hx r2 (fun s3 I3 => ⟨_, H2, I3, q2⟩) hf
 rcases l with ⟨hk, hm⟩ | ⟨hk, c, hc, hcell⟩
 ·exact wpAny_loadName_local I.ok.kind hk hn hm go
 ·rcases hk with hk | hk
  ·exact wpAny_loadName_cell I.ok.kind hk hc hcell go
  ·rcases hx with k | k
   ·have : X.env.scope.names.lookup x = some .free := hk
    rw [k] at this; cases this
   ·have : X.env.scope.names.lookup x = some .free := hk
    rw [k] at this; cases this
def ipI (f : Int -> Int -> Int) : TIp := fun x y H Q => ∃ i j, x = .int i /\ y = .int j /\ Q (.int (f i j)) H
theorem xm : PIp X .Add (ipI fun i j => i + j) := by
 intro pins s σ H x y v u Q I r1 r2 h
 obtain ⟨i, j, e1, e2, q⟩ := h
 subst e1; subst e2
 obtain ⟨t, rfl⟩ := r1
 obtain ⟨t', rfl⟩ := r2
 exact iadd_int ⟨.int _, H, I.tok _, ⟨_, rfl⟩, q⟩
end
section
variable {X : Cx} {pos : Pos}
def Bu (c : TT) (tb : TS) : TS := fun D σ H => ∃ W : Nat -> St -> Hp -> Prop, (∃ m, W m σ H) /\ ∀ m σ H, W m σ H ->
 c σ H fun b H1 => if b = true then ∃ N : St -> Hp -> Prop, (∀ σ' H', N σ' H' -> ∃ m', m' < m /\ W m' σ' H') /\ tb { D with nx := N, ct := N, bk := D.nx } σ H1 else D.nx σ H1
theorem qL {c : Expr} {body : List Stmt} {tc : TT} {tb : TS} (hp : PassesOwn (model X.prog X.w) X.A X.env X.xe) (hc : PT X c tc) (hb : PSs X body tb) : PS X (.While c body [] pos) (Bu tc tb) := by
 intro pins s σ H D I h
 obtain ⟨W, ⟨m0, w0⟩, turn⟩ := h
 refine wpAny_While (codeAny_whileLoop (fun n s' => ∃ σ' H', Inv X pins σ' H' s' /\ W n σ' H') ?_ m0 ⟨σ, H, I, w0⟩)
 rintro n s1 ⟨σ1, H1, I1, w1⟩
 refine wpAny_passesOwn hp (thn (hc pins s1 σ1 H1 _ I1 (turn n σ1 H1 w1)) fun b s2 hpt9 => ?_)
 obtain ⟨H2, I2, q2⟩ := hpt9
 cases b with
 | true =>
  obtain ⟨N, hN, q2⟩ := q2
  rw [if_pos rfl]
  refine wpAny_passesOwn hp (thn (hb pins s2 σ1 H2 _ I2 q2) fun f s3 q3 => ?_)
  cases f with
  | next =>
   obtain ⟨σ3, H3, I3, n3⟩ := q3
   obtain ⟨m', hm, w3⟩ := hN σ3 H3 n3
   exact ⟨m', hm, σ3, H3, I3, w3⟩
  | cont =>
   obtain ⟨σ3, H3, I3, n3⟩ := q3
   obtain ⟨m', hm, w3⟩ := hN σ3 H3 n3
   exact ⟨m', hm, σ3, H3, I3, w3⟩
  | brk => exact q3
  | ret v => exact q3
 | false =>
  rw [if_neg Bool.false_ne_true]
  exact wpAny_execs_nil ⟨σ1, H2, I2, q2⟩
end
structure It where
 go : Nat -> Hp -> Prop
 yld : Nat -> Hp -> V -> Hp -> Prop
 stop : Nat -> Hp -> Prop
def qW (X : Cx) (pins : List (Addr × Obj)) (H : Hp) (b : Addr) : Prop :=
 H b = none /\ b ≠ X.env.locals /\ b ∉ X.fs /\ (b ∈ X.ex \/ X.s₀.heap.objs.size <= b) /\ (∀ x c, X.env.cells.lookup x = some c -> c ≠ b) /\ ∀ p ∈ X.pn ++ pins, p.1 ≠ b
theorem Inv.fpOk {X : Cx} {pins : List (Addr × Obj)} {σ : St} {H H' : Hp} {s : Shared} {b : Addr} (I : Inv X pins σ H s) (hb : s.heap.objs.size <= b) (hn : H' b = none) : qW X pins H' b := by
 refine ⟨hn, Nat.ne_of_gt (Nat.lt_of_lt_of_le I.lt hb), I.nofs hb, .inr (Nat.le_trans I.sz hb), fun x c e z => ?_, fun p hp z => ?_⟩
 ·obtain ⟨v, q⟩ := I.cell x c e
  exact absurd (Nat.lt_of_lt_of_le q.lt (by rw [z]; exact hb)) (Nat.lt_irrefl _)
 ·exact absurd (Nat.lt_of_lt_of_le (Heap.lt_size (I.pin p hp).1) (by rw [z]; exact hb)) (Nat.lt_irrefl _)
structure Turn (P : Program) (w : World) (K : W.Frag) (tg : Expr) (J : It) (fp : List Addr) (it : Addr) (tn : Nat -> Heap -> Prop) : Prop where
 mem : it ∈ fp
 obj : ∀ i h, tn i h -> ∀ b ∈ fp, ∃ o, h.get? b = some o /\ ∀ v, o.data ≠ .cell v
 keep : ∀ i h h', tn i h -> (∀ b ∈ fp, ∀ o, h.get? b = some o -> h'.get? b = some o) -> tn i h'
 item : ∀ (X : Cx), X.prog = P -> X.w = w -> X.K = K -> X.calm = true -> ∀ (i : Nat) (pins : List (Addr × Obj)) (s : Shared) (σ : St) (H : Hp) (E : Value -> Shared -> Prop), Inv X pins σ H s -> (∀ b ∈ fp, qW X pins H b) -> tn i s.heap -> J.go i H ->
  wpAny (model P w) X.A (pyNext (.ref it)) (fun r s1 => ∃ u, r = some u /\
   wpAny (model P w) X.A (letOwnedTupleGo tg (.ref it) u) (fun _ s2 => ∃ x H', Inv X pins σ H' s2 /\ RelV x u /\ J.yld i H x H' /\ tn (i + 1) s2.heap /\ ∀ b ∈ fp, H' b = none) E s1) E s
 done : ∀ (X : Cx), X.prog = P -> X.w = w -> X.K = K -> X.calm = true -> ∀ (i : Nat) (pins : List (Addr × Obj)) (s : Shared) (σ : St) (H : Hp) (E : Value -> Shared -> Prop), Inv X pins σ H s -> (∀ b ∈ fp, qW X pins H b) -> tn i s.heap -> J.stop i H ->
  wpAny (model P w) X.A (pyNext (.ref it)) (fun r s1 => r = none /\ Inv X pins σ H s1) E s
 self : ∀ (A : Around) (i : Nat) (s : Shared) (Q : Value -> Shared -> Prop) (E : Value -> Shared -> Prop), tn i s.heap -> Q (.ref it) s -> wpAny (model P w) A (pyIter (.ref it)) Q E s
abbrev TI := St -> Hp -> (It -> Hp -> Prop) -> Prop
def PIE (X : Cx) (pins : List (Addr × Obj)) (σ : St) (tg : Expr) (R : It -> Hp -> Prop) (itv : Value) (s2 : Shared) : Prop :=
 ∃ (it : Addr) (fp : List Addr) (tn : Nat -> Heap -> Prop) (J : It) (H' : Hp), itv = .ref it /\ Inv X pins σ H' s2 /\ Turn X.prog X.w X.K tg J fp it tn /\ tn 0 s2.heap /\ (∀ b ∈ fp, qW X pins H' b) /\ R J H'
def PI (X : Cx) (tg iter : Expr) (wi : TI) : Prop :=
 ∀ (pins : List (Addr × Obj)) (s : Shared) (σ : St) (H : Hp) (R : It -> Hp -> Prop), Inv X pins σ H s -> wi σ H R ->
  wpAny (model X.prog X.w) X.A (eval iter X.env) (fun v s1 => wpAny (model X.prog X.w) X.A (pyIter v) (PIE X pins σ tg R) X.xe s1) X.xe s
theorem xS {M : Model} {A : Around} {E : Value -> Shared -> Prop} {s : Shared} {tg : Expr} {it : Addr} {u : Value} {o : Obj} {n : String} {vs : Array Value} {Q : Unit -> Shared -> Prop} (ho : s.heap.get? it = some o) (hc : o.cls = .type n) (hd : o.data = .fields vs)
  (hn : ["enumerate", "zip", "dict_itemiterator", "dict_reverseitemiterator", "odict_iterator", "itertools.zip_longest", "itertools.pairwise"].contains n = false) (hQ : Q () s) : wpAny M A (letOwnedTupleGo tg (.ref it) u) Q E s := by
 unfold letOwnedTupleGo
 cases tg <;> first
  | exact wpAny_pure hQ
  | (cases u <;> first
    | exact wpAny_pure hQ
    | (refine wpAny_bind (wpAny_load ho ?_)
       rw [hc, hd]
       show wpAny M A (if (["enumerate", "zip", "dict_itemiterator", "dict_reverseitemiterator", "odict_iterator", "itertools.zip_longest", "itertools.pairwise"].contains n && vs[0]? == some (rawInt _)) = true then _ else _) Q E s
       rw [if_neg (by intro h; rw [hn, Bool.false_and] at h; cases h)]
       exact wpAny_pure hQ))
def Itl (K : W.Frag) (a : Addr) : It :=
 ⟨fun i H => ∃ xs x, SqL K H a xs /\ xs[i]? = some x, fun i H x H' => H' = H /\ ∀ xs, SqL K H a xs -> xs[i]? = some x, fun i H => ∃ xs, SqL K H a xs /\ xs.length <= i⟩
def Itt (K : W.Frag) (a : Addr) : It :=
 ⟨fun i H => ∃ xs x, SqT K H a xs /\ xs[i]? = some x, fun i H x H' => H' = H /\ ∀ xs, SqT K H a xs -> xs[i]? = some x, fun i H => ∃ xs, SqT K H a xs /\ xs.length <= i⟩
def Itr (lo : Int) (n : Nat) : It := ⟨fun i _ => i < n, fun i H x H' => H' = H /\ x = .int (lo + i), fun i _ => n <= i⟩
theorem zM {P : Program} {w : World} {K : W.Frag} {tg : Expr} (a it : Addr) : Turn P w K tg (Itl K a) [it] it (fun i h => h.IsListIter it a i) where
 mem := by simp
 obj := fun i h st b hb => by
  have e : b = it := by simpa using hb
  subst e
  obtain ⟨o, e, c, d⟩ := st
  exact ⟨o, e, fun v z => by rw [d] at z; cases z⟩
 keep := fun i h h' st k => st.at fun o e => k it (by simp) o e
 item := by
  intro X hP hw hK hc i pins s σ H E I hf st hg
  subst hP hw hK
  obtain ⟨xs, x, hq, hx⟩ := hg
  obtain ⟨its, rv, p, hz⟩ := I.list hq
  obtain ⟨u, hu, ru⟩ := rv.get hx
  obtain ⟨f0, f1, f2, f3, f4, f5⟩ := hf it (by simp)
  refine wpAny_pyNext_list_item st p.isList (x := u) (by simpa using hu) fun h' st' sb => ?_
  have I1 : Inv X pins σ H { s with heap := h' } := I.turned (t' := s.toks) (fun b o hb e => (sb.2 b hb).trans e) f0 f1 f3 f4 f5
  obtain ⟨o, e, c, d⟩ := id st'
  exact ⟨u, rfl, xS (s := { s with heap := h' }) e c d (by decide) ⟨x, H, I1, ru, ⟨rfl, fun ys hy => by rw [I.list_inj hy hq]; exact hx⟩, st', fun b hb => (hf b hb).1⟩⟩
 done := by
  intro X hP hw hK hc i pins s σ H E I hf st hg
  subst hP hw hK
  obtain ⟨xs, hq, hx⟩ := hg
  obtain ⟨its, rv, p, hz⟩ := I.list hq
  obtain ⟨f0, f1, f2, f3, f4, f5⟩ := hf it (by simp)
  have hl := rv.length
  exact wpAny_pyNext_list_end (I.ok.hd hc) st p.isList (by simp; lia) fun h' eb => ⟨rfl, I.turned (t' := s.toks) (fun b o hb e => eb b o hb e) f0 f1 f3 f4 f5⟩
 self := fun _ _ _ _ _ st h => wpAny_pyIter_listiter st h
theorem wd {P : Program} {w : World} {K : W.Frag} {tg : Expr} (a it : Addr) : Turn P w K tg (Itt K a) [it] it (fun i h => h.IsTupleIter it a i) where
 mem := by simp
 obj := fun i h st b hb => by
  have e : b = it := by simpa using hb
  subst e
  obtain ⟨o, e, c, d⟩ := st
  exact ⟨o, e, fun v z => by rw [d] at z; cases z⟩
 keep := fun i h h' st k => st.at fun o e => k it (by simp) o e
 item := by
  intro X hP hw hK hc i pins s σ H E I hf st hg
  subst hP hw hK
  obtain ⟨xs, x, hq, hx⟩ := hg
  obtain ⟨its, rv, p, hz⟩ := I.tuple hq
  obtain ⟨u, hu, ru⟩ := rv.get hx
  obtain ⟨f0, f1, f2, f3, f4, f5⟩ := hf it (by simp)
  refine wpAny_pyNext_tuple_item st (show s.heap.IsTuple a its.toArray from p) (x := u) (by simpa using hu) fun h' st' sb => ?_
  have I1 : Inv X pins σ H { s with heap := h' } := I.turned (t' := s.toks) (fun b o hb e => (sb.2 b hb).trans e) f0 f1 f3 f4 f5
  obtain ⟨o, e, c, d⟩ := id st'
  exact ⟨u, rfl, xS (s := { s with heap := h' }) e c d (by decide) ⟨x, H, I1, ru, ⟨rfl, fun ys hy => by rw [I.tuple_inj hy hq]; exact hx⟩, st', fun b hb => (hf b hb).1⟩⟩
 done := by
  intro X hP hw hK hc i pins s σ H E I hf st hg
  subst hP hw hK
  obtain ⟨xs, hq, hx⟩ := hg
  obtain ⟨its, rv, p, hz⟩ := I.tuple hq
  obtain ⟨f0, f1, f2, f3, f4, f5⟩ := hf it (by simp)
  have hl := rv.length
  exact wpAny_pyNext_tuple_end (I.ok.hd hc) st (show s.heap.IsTuple a its.toArray from p) (by simp; lia) fun h' eb => ⟨rfl, I.turned (t' := s.toks) (fun b o hb e => eb b o hb e) f0 f1 f3 f4 f5⟩
 self := fun _ _ _ _ _ st h => wpAny_pyIter_tupleiter st h
theorem wW {P : Program} {w : World} {K : PySem.W.Frag} {tg : Expr} (it : Addr) (lo : Int) (n : Nat) : Turn P w K tg (Itr lo n) [it] it (fun i h => IsRangeIter h it (lo + (i : Nat) * 1) ((n : Int) - (i : Nat)) 1) where
 mem := by simp
 obj := fun i h st b hb => by
  have e : b = it := by simpa using hb
  subst e
  exact ⟨_, st, fun v z => by
   have z' : Data.fields _ = Data.cell v := z
   cases z'⟩
 keep := fun i h h' st k => k it (by simp) _ st
 item := by
  intro X hP hw hK hc i pins s σ H E I hf st hg
  subst hP hw hK
  obtain ⟨f0, f1, f2, f3, f4, f5⟩ := hf it (by simp)
  have W := Walks.range (prog := X.prog) (w := X.w) (I.ok.hd hc) it lo 1 n
  refine W.item i s _ _ hg st fun v h' tk hv st' kk => ?_
  obtain ⟨t, rfl⟩ := hv
  have I1 : Inv X pins σ H { s with heap := h', toks := tk } := I.turned (fun b o hb e => kk b o (by simpa using hb) e) f0 f1 f3 f4 f5
  refine ⟨_, rfl, xS (s := { s with heap := h', toks := tk }) (n := "range_iterator") st' rfl rfl (by decide) ⟨.int (lo + i), H, I1, ⟨t, ?_⟩, ⟨rfl, rfl⟩, st', fun b hb => (hf b hb).1⟩⟩
  rw [Int.mul_one]
 done := by
  intro X hP hw hK hc i pins s σ H E I hf st hg
  subst hP hw hK
  obtain ⟨f0, f1, f2, f3, f4, f5⟩ := hf it (by simp)
  exact wpAny_pyNext_range_end (I.ok.hd hc) st (by have : n <= i := hg; lia) fun h' eb => ⟨rfl, I.turned (t' := s.toks) (fun b o hb e => eb b o hb e) f0 f1 f3 f4 f5⟩
 self := fun _ _ _ _ _ st h => wpAny_pyIter_rangeiter st h
section
variable {X : Cx} {tg : Expr}
theorem Ag {pins : List (Addr × Obj)} {σ : St} {H : Hp} {s : Shared} {R : It -> Hp -> Prop} {E : Value -> Shared -> Prop} {lo hi : Int} {t u v : Tok} {tk : Nat} (I : Inv X pins σ H s) (h1 : -(2 ^ 62) <= lo) (h2 : lo < 2 ^ 62) (h3 : -(2 ^ 62) <= hi) (h4 : hi < 2 ^ 62)
  (q : R (Itr lo (hi - lo).toNat) H) : wpAny (model X.prog X.w) X.A (pyIter (.ref s.heap.objs.size)) (PIE X pins σ tg R) E { s with heap := s.heap.push { cls := .type "range", data := .fields #[.int lo t, .int hi u, .int 1 v] }, toks := tk } := by
 refine wpAny_pyIter_range (IsRange.new ..) (small_one h1 h2 h3 h4) ?_
 have I1 : Inv X pins σ H { s with heap := s.heap.push { cls := .type "range", data := .fields #[.int lo t, .int hi u, .int 1 v] }, toks := tk } := I.kept fun b o e => Heap.get?_push_of_some _ e
 refine ⟨(s.heap.push { cls := .type "range", data := .fields #[.int lo t, .int hi u, .int 1 v] }).objs.size, [(s.heap.push { cls := .type "range", data := .fields #[.int lo t, .int hi u, .int 1 v] }).objs.size], _, _, H, rfl,
  I1.kept (t' := tk) fun b o e => Heap.get?_push_of_some _ e, wW _ lo (hi - lo).toNat, ?_, fun b hb => ?_, q⟩
 ·have e1 : lo + ((0 : Nat) : Int) * 1 = lo := by simp
  have e2 : (((hi - lo).toNat : Nat) : Int) - ((0 : Nat) : Int) = Builtin.Range.rangeSize lo hi 1 := by rw [rangeSize_one]; split <;> lia
  show IsRangeIter _ _ (lo + ((0 : Nat) : Int) * 1) ((((hi - lo).toNat : Nat) : Int) - ((0 : Nat) : Int)) 1
  rw [e1, e2]
  exact Heap.get?_push_size _ rfl
 ·have e : b = (s.heap.push { cls := .type "range", data := .fields #[.int lo t, .int hi u, .int 1 v] }).objs.size := by simpa using hb
  subst e
  exact I1.fpOk (Nat.le_refl _) (I1.hok.fresh (Nat.le_refl _))
def CV (ta : TA) : TI := fun σ H R => ta σ H fun vs H1 => ∃ j : Int, vs = [.int j] /\ -(2 ^ 62) <= j /\ j < 2 ^ 62 /\ R (Itr 0 j.toNat) H1
theorem eP {a : Expr} {ta : TA} {p pos : Pos} (hg : Gl X "range") (hm : X.mg "range" = none) (ha : PA X [a] ta) (hs : starEach [a] X.env = [(false, eval a X.env)] := by rfl) : PI X tg (.Call (.Name "range" p) [a] [] pos) (CV ta) := by
 intro pins s σ H R I h
 refine Call_ (nj I hg hm boot_range (PyProof.Rows.callWith_type1 (thn (ha pos pins s σ H _ I h) fun us s1 hpt9 => ?_) hs rfl))
 obtain ⟨vs, H1, I1, r1, q1⟩ := hpt9
 obtain ⟨j, e, q1, q2, q⟩ := q1
 subst e
 cases r1 with
 | cons r rr =>
  cases rr
  obtain ⟨t, rfl⟩ := r
  exact call_range_1 (Ag I1 (by lia) (by lia) q1 q2 (by simpa using q))
def Fg (wi : TI) (g : TG) (tb : TS) : TS := fun D σ H => wi σ H fun J H1 => ∃ W : Nat -> Nat -> St -> Hp -> Prop, (∃ m, W 0 m σ H1) /\ ∀ i m σ H, W i m σ H ->
 (J.stop i H /\ D.nx σ H) \/ (J.go i H /\ ∃ N : St -> Hp -> Prop, (∀ σ' H', N σ' H' -> ∃ m', m' < m /\ W (i + 1) m' σ' H') /\ ∀ x H', J.yld i H x H' -> g x σ H' fun σ2 H2 => tb { D with nx := N, ct := N, bk := D.nx } σ2 H2)
def mZ (fp : List Addr) (h : Heap) : List (Addr × Obj) := fp.filterMap fun b => (h.get? b).map fun o => (b, o)
theorem fW {fp : List Addr} {h : Heap} {b : Addr} {o : Obj} (hb : b ∈ fp) (e : h.get? b = some o) : (b, o) ∈ mZ fp h := List.mem_filterMap.mpr ⟨b, hb, by rw [e]; rfl⟩
theorem za {fp : List Addr} {h : Heap} {p : Addr × Obj} (hp : p ∈ mZ fp h) : p.1 ∈ fp /\ h.get? p.1 = some p.2 := by
 obtain ⟨b, hb, e⟩ := List.mem_filterMap.mp hp
 cases q : h.get? b with
 | none => rw [q] at e; cases e
 | some o =>
  rw [q] at e
  have e' : (b, o) = p := Option.some.inj e
  subst e'
  exact ⟨hb, q⟩
theorem Inv.pinned {pins : List (Addr × Obj)} {σ : St} {H : Hp} {s : Shared} {fp : List Addr} (I : Inv X pins σ H s) (hf : ∀ b ∈ fp, qW X pins H b) (ho : ∀ b ∈ fp, ∃ o, s.heap.get? b = some o /\ ∀ v, o.data ≠ .cell v) : Inv X (pins ++ mZ fp s.heap) σ H s :=
 I.pins_of fun p hp => (List.mem_append.mp hp).elim (fun z => I.pin p (List.mem_append_right _ z)) fun z => by
  obtain ⟨hb, e⟩ := za z
  obtain ⟨f0, f1, f2, _⟩ := hf p.1 hb
  obtain ⟨o, e', d⟩ := ho p.1 hb
  rw [e] at e'; cases e'
  exact ⟨e, f0, f1, f2, d⟩
theorem Inv.unpinned {pins pl : List (Addr × Obj)} {σ : St} {H : Hp} {s : Shared} (I : Inv X (pins ++ pl) σ H s) : Inv X pins σ H s := I.pins_of fun p hp => I.pin p (List.mem_append_right _ (List.mem_append_left _ hp))
theorem cv {iter : Expr} {body : List Stmt} {wi : TI} {g : TG} {tb : TS} {pos : Pos} (hp : PassesOwn (model X.prog X.w) X.A X.env X.xe) (hc : X.calm = true) (hi : PI X tg iter wi) (hg : PG X tg g) (hb : PSs X body tb)
  (hs : ∀ x, foldedSetIterable iter X.env x = pure x := by intro _; rfl) : PS X (.For tg iter body [] pos) (Fg wi g tb) := by
 intro pins s σ H D I h
 refine wpAny_For (thn (hi pins s σ H _ I h) fun v s1 h1 => thn h1 fun itv s2 h2 => ?_) hs
 obtain ⟨it, fp, tn, J, H2, e, I2, T, st2, f2, W, ⟨m0, w0⟩, turn⟩ := h2
 subst e
 -- what stays true of the iterator's objects through the loop
 have stat : ∀ {H' : Hp}, (∀ b ∈ fp, H' b = none) -> ∀ b ∈ fp, qW X pins H' b := fun hn b hb => ⟨hn b hb, (f2 b hb).2⟩
 refine codeAny_forLoop_any (fun n s' => ∃ i σ' H', Inv X pins σ' H' s' /\ tn i s'.heap /\ (∀ b ∈ fp, H' b = none) /\ W i n σ' H') ?_ m0 ⟨0, σ, H2, I2, st2, fun b hb => (f2 b hb).1, w0⟩
 rintro n s3 ⟨i, σ3, H3, I3, st3, fr3, w3⟩
 rcases turn i n σ3 H3 w3 with ⟨stop, qn⟩ | ⟨go, N, hN, step⟩
 ·refine wpAny_passesOwn hp (thn (T.done X rfl rfl rfl hc i pins s3 σ3 H3 X.xe I3 (stat fr3) st3 stop) fun r s4 ⟨hr, I4⟩ => ?_)
  subst hr
  exact wpAny_execs_nil ⟨σ3, H3, I4, qn⟩
 ·refine wpAny_passesOwn hp (thn (T.item X rfl rfl rfl hc i pins s3 σ3 H3 X.xe I3 (stat fr3) st3 go) fun r s4 ⟨u, hr, h4⟩ => ?_)
  subst hr
  refine wpAny_passesOwn hp (thn h4 fun _ s5 hpt9 => ?_)
  obtain ⟨x, H5, I5, r5, y5, st5, fr5⟩ := hpt9
  have I5' := I5.pinned (stat fr5) (T.obj _ _ st5)
  refine wpAny_passesOwn hp (thn (hg _ s5 σ3 H5 x u _ I5' r5 (step x H5 y5)) fun _ s6 hpt9 => ?_)
  obtain ⟨σ6, H6, I6, q6⟩ := hpt9
  refine wpAny_passesOwn hp (thn (hb _ s6 σ6 H6 _ I6 q6) fun f s7 q7 => ?_)
  have again : ∀ {σ7 : St} {H7 : Hp}, Inv X (pins ++ mZ fp s5.heap) σ7 H7 s7 -> N σ7 H7 -> ∃ m, m < n /\ ∃ i σ' H', Inv X pins σ' H' s7 /\ tn i s7.heap /\ (∀ b ∈ fp, H' b = none) /\ W i m σ' H' := fun {σ7 H7} I7 n7 => by
   obtain ⟨m', hm, w7⟩ := hN σ7 H7 n7
   refine ⟨m', hm, i + 1, σ7, H7, I7.unpinned, T.keep _ _ _ st5 fun b hb o e => (I7.pin (b, o) (List.mem_append_right _ (List.mem_append_right _ (fW hb e)))).1, fun b hb => ?_, w7⟩
   obtain ⟨o, e, d⟩ := T.obj _ _ st5 b hb
   exact (I7.pin (b, o) (List.mem_append_right _ (List.mem_append_right _ (fW hb e)))).2.1
  cases f with
  | next => obtain ⟨σ7, H7, I7, n7⟩ := q7; exact again I7 n7
  | cont => obtain ⟨σ7, H7, I7, n7⟩ := q7; exact again I7 n7
  | brk => obtain ⟨σ7, H7, I7, q7⟩ := q7; exact ⟨σ7, H7, I7.unpinned, q7⟩
  | ret v => obtain ⟨x7, σ7, H7, I7, r7, q7⟩ := q7; exact ⟨x7, σ7, H7, I7.unpinned, r7, q7⟩
end
abbrev R2 := V -> V -> Hp -> VK -> Prop
def OpR (X : Cx) (f : Value -> Value -> Sem Value) (r : R2) : Prop :=
 ∀ (pins : List (Addr × Obj)) (s : Shared) (σ : St) (H : Hp) (x y : V) (v u : Value) (Q : VK), Inv X pins σ H s -> RelV x v -> RelV y u -> r x y H Q ->
  wpAny (model X.prog X.w) X.A (f v u) (EP X pins σ Q) X.xe s
def UnR (X : Cx) (f : Value -> Sem Value) (r : V -> Hp -> VK -> Prop) : Prop :=
 ∀ (pins : List (Addr × Obj)) (s : Shared) (σ : St) (H : Hp) (x : V) (v : Value) (Q : VK), Inv X pins σ H s -> RelV x v -> r x H Q ->
  wpAny (model X.prog X.w) X.A (f v) (EP X pins σ Q) X.xe s
def CallR (X : Cx) (f : Value) (r : List V -> Hp -> VK -> Prop) : Prop :=
 ∀ (pins : List (Addr × Obj)) (s : Shared) (σ : St) (H : Hp) (xs : List V) (us : List Value) (Q : VK), Inv X pins σ H s -> Vals xs us -> r xs H Q ->
  wpAny (model X.prog X.w) X.A (call f us) (EP X pins σ Q) X.xe s
def HZ (X : Cx) (r : V -> Hp -> (Bool -> Hp -> Prop) -> Prop) : Prop :=
 ∀ (pins : List (Addr × Obj)) (s : Shared) (σ : St) (H : Hp) (x : V) (v : Value) (Q : Bool -> Hp -> Prop), Inv X pins σ H s -> RelV x v -> r x H Q ->
  wpAny (model X.prog X.w) X.A (truthy v) (TP X pins σ Q) X.xe s
def tOp (r : R2) (ta tb : TE) : TE := fun σ H Q => ta σ H fun x H1 => tb σ H1 fun y H2 => r x y H2 Q
def tUn (r : V -> Hp -> VK -> Prop) (ta : TE) : TE := fun σ H Q => ta σ H fun x H1 => r x H1 Q
def rI (C : Int -> Int -> Prop) (g : Int -> Int -> V) : R2 := fun x y H Q => ∃ i j, x = .int i /\ y = .int j /\ C i j /\ Q (g i j) H
def rI0 (g : Int -> Int -> V) : R2 := fun x y H Q => ∃ i j, x = .int i /\ y = .int j /\ Q (g i j) H
def rU (g : Int -> V) : V -> Hp -> VK -> Prop := fun x H Q => ∃ i, x = .int i /\ Q (g i) H
section
variable {X : Cx} {a b c : Expr} {ta tb tc : TE} {pos : Pos}
theorem Ed (ha : PE X a ta) (hb : PE X b tb) {pins : List (Addr × Obj)} {s : Shared} {σ : St} {H : Hp} {R : V -> V -> Hp -> Prop} (I : Inv X pins σ H s)
  (h : ta σ H fun x H1 => tb σ H1 fun y H2 => R x y H2) {Q : Value -> Shared -> Prop} {f : Value -> Value -> Sem Value}
  (hf : ∀ v u s2 x y H2, Inv X pins σ H2 s2 -> RelV x v -> RelV y u -> R x y H2 -> wpAny (model X.prog X.w) X.A (f v u) Q X.xe s2) :
  wpAny (model X.prog X.w) X.A (eval a X.env) (fun v s₁ => wpAny (model X.prog X.w) X.A (eval b X.env) (fun u s₂ => wpAny (model X.prog X.w) X.A (f v u) Q X.xe s₂) X.xe s₁) X.xe s := by
 refine thn (ha pins s σ H _ I h) fun v s1 hpt9 => ?_
 obtain ⟨x, H1, I1, r1, q1⟩ := hpt9
 refine thn (hb pins s1 σ H1 _ I1 q1) fun u s2 hpt9 => ?_
 obtain ⟨y, H2, I2, r2, q2⟩ := hpt9
 exact hf v u s2 x y H2 I2 r1 r2 q2
theorem aE {op : Operator} {r : R2} (ho : OpR X (binaryOp op) r) (ha : PE X a ta) (hb : PE X b tb) : PE X (.BinOp a op b pos) (tOp r ta tb) := by
 intro pins s σ H Q I h
 exact wpAny_BinOp (Ed ha hb I h fun v u s2 x y H2 I2 rx ry q => ho pins s2 σ H2 x y v u Q I2 rx ry q)
theorem dq {op : UnaryOp} {r : V -> Hp -> VK -> Prop} (ho : UnR X (unaryOp op) r) (ha : PE X a ta) : PE X (.UnaryOp op a pos) (tUn r ta) := by
 intro pins s σ H Q I h
 exact UnaryOp_ (thn (ha pins s σ H _ I h) fun v s1 ⟨x, H1, I1, r1, q1⟩ => ho pins s1 σ H1 x v Q I1 r1 q1)
theorem opI {f : Value -> Value -> Sem Value} {C : Int -> Int -> Prop} {g : Int -> Int -> Int}
  (rule : ∀ (i j : Int) (t u : Tok) (s : Shared) (Q : Value -> Shared -> Prop) (E : Value -> Shared -> Prop), C i j -> Q (.int (g i j) s.toks) { s with toks := s.toks + 1 } -> wpAny (model X.prog X.w) X.A (f (.int i t) (.int j u)) Q E s) :
  OpR X f (rI C fun i j => .int (g i j)) := by
 intro pins s σ H x y v u Q I rx ry h
 obtain ⟨i, j, rfl, rfl, hc, q⟩ := h
 obtain ⟨t, rfl⟩ := rx
 obtain ⟨t', rfl⟩ := ry
 exact rule i j t t' s _ _ hc ⟨.int (g i j), H, I.tok _, ⟨_, rfl⟩, q⟩
theorem Fh {f : Value -> Value -> Sem Value} {g : Int -> Int -> Int}
  (rule : ∀ (i j : Int) (t u : Tok) (s : Shared) (Q : Value -> Shared -> Prop) (E : Value -> Shared -> Prop), Q (.int (g i j) s.toks) { s with toks := s.toks + 1 } -> wpAny (model X.prog X.w) X.A (f (.int i t) (.int j u)) Q E s) :
  OpR X f (rI0 fun i j => .int (g i j)) := by
 intro pins s σ H x y v u Q I rx ry h
 obtain ⟨i, j, rfl, rfl, q⟩ := h
 obtain ⟨t, rfl⟩ := rx
 obtain ⟨t', rfl⟩ := ry
 exact rule i j t t' s _ _ ⟨.int (g i j), H, I.tok _, ⟨_, rfl⟩, q⟩
theorem CB {f : Value -> Value -> Sem Value} {g : Int -> Int -> Bool}
  (rule : ∀ (i j : Int) (t u : Tok) (s : Shared) (Q : Value -> Shared -> Prop) (E : Value -> Shared -> Prop), Q (.bool (g i j)) s -> wpAny (model X.prog X.w) X.A (f (.int i t) (.int j u)) Q E s) :
  OpR X f (rI0 fun i j => .bl (g i j)) := by
 intro pins s σ H x y v u Q I rx ry h
 obtain ⟨i, j, rfl, rfl, q⟩ := h
 obtain ⟨t, rfl⟩ := rx
 obtain ⟨t', rfl⟩ := ry
 exact rule i j t t' s _ _ ⟨.bl (g i j), H, I, rfl, q⟩
def FE (i j : Int) : Prop := 0 < j /\ j < 1073741824
def Dt (i j : Int) : Prop := 0 <= j /\ j <= 1000000 /\ i.natAbs < 2 ^ 64
def CMul (i j : Int) : Prop := (-(2 ^ 64) < i /\ i < 2 ^ 64) \/ (-(2 ^ 64) < j /\ j < 2 ^ 64)
theorem CMul.ok {i j : Int} (h : CMul i j) : IntMulOk i j := by
 rcases h with ⟨h1, h2⟩ | ⟨h1, h2⟩
 ·exact .of_left (intBits_le_64 h1 h2)
 ·exact .of_right (intBits_le_64 h1 h2)
theorem op_add : OpR X (binaryOp .Add) (rI0 fun i j => .int (i + j)) := Fh fun _ _ _ _ _ _ _ q => add_int q
theorem eN : OpR X (binaryOp .Sub) (rI0 fun i j => .int (i - j)) := Fh fun _ _ _ _ _ _ _ q => sub_int q
theorem xq : OpR X (binaryOp .Mult) (rI CMul fun i j => .int (i * j)) := opI fun _ _ _ _ _ _ _ hc q => mul_int q hc.ok
theorem eU : OpR X (binaryOp .FloorDiv) (rI FE fun i j => .int (i / j)) := opI fun i j _ _ _ _ _ hc q => by
 have h1 : (0 : Int) < j := hc.1
 have h2 : j < 1073741824 := hc.2
 exact floordiv_int (by lia) (by rw [Int.fdiv_eq_ediv_of_nonneg i (by lia)]; exact q) (.inl (PyProof.noPylong_small (by lia)))
theorem dY : OpR X (binaryOp .Mod) (rI (fun _ j => 0 < j) fun i j => .int (i % j)) := opI fun i j _ _ _ _ _ hc q => by
 have h1 : (0 : Int) < j := hc
 exact mod_int' (by lia) (by rw [Int.fmod_eq_emod_of_nonneg i (by lia)]; exact q)
theorem xt : OpR X (binaryOp .Pow) (rI Dt fun i j => .int (i ^ j.toNat)) := opI fun _ _ _ _ _ _ _ hc q => pow_int_small hc.1 hc.2.1 hc.2.2 q
theorem unI {f : Value -> Sem Value} {g : Int -> Int}
  (rule : ∀ (i : Int) (t : Tok) (s : Shared) (Q : Value -> Shared -> Prop) (E : Value -> Shared -> Prop), Q (.int (g i) s.toks) { s with toks := s.toks + 1 } -> wpAny (model X.prog X.w) X.A (f (.int i t)) Q E s) :
  UnR X f (rU fun i => .int (g i)) := by
 intro pins s σ H x v Q I rx h
 obtain ⟨i, rfl, q⟩ := h
 obtain ⟨t, rfl⟩ := rx
 exact rule i t s _ _ ⟨.int (g i), H, I.tok _, ⟨_, rfl⟩, q⟩
theorem b7 : UnR X (unaryOp .USub) (rU fun i => .int (-i)) := unI fun _ _ _ _ _ q => neg_int q
end
section
variable {X : Cx} {a b c : Expr} {ta tb tc : TE} {pos : Pos}
theorem EO {pins : List (Addr × Obj)} {σ : St} {H : Hp} {s : Shared} {Q : VK} {k k' : Bool} (I : Inv X pins σ H s) (q : Q (.bl k) H) (e : k = k') : EP X pins σ Q (.bool k') s := by
 subst e
 exact ⟨.bl k, H, I, rfl, q⟩
theorem o4 : OpR X (compareOp .Lt) (rI0 fun i j => .bl (decide (i < j))) := CB fun _ _ _ _ _ _ _ q => lt_int q
theorem kF : OpR X (compareOp .LtE) (rI0 fun i j => .bl (decide (i <= j))) := CB fun _ _ _ _ _ _ _ q => le_int q
theorem sE : OpR X (compareOp .Gt) (rI0 fun i j => .bl (decide (j < i))) := CB fun _ _ _ _ _ _ _ q => gt_int q
theorem GB : OpR X (compareOp .GtE) (rI0 fun i j => .bl (decide (j <= i))) := CB fun _ _ _ _ _ _ _ q => ge_int q
theorem Ev : OpR X (compareOp .Is) (fun x y H Q => y = .non /\ Q (.bl (decide (x = .non))) H) := by
 intro pins s σ H x y v u Q I rx ry h
 obtain ⟨rfl, q⟩ := h
 cases ry
 refine is_none_gen (EO I q ?_)
 cases x <;> first
  | (cases rx; rfl)
  | (obtain ⟨t, rfl⟩ := rx; rfl)
theorem OpR.or {f : Value -> Value -> Sem Value} {r r' : R2} (h : OpR X f r) (h' : OpR X f r') : OpR X f (fun x y H Q => r x y H Q \/ r' x y H Q) := by
 intro pins s σ H x y v u Q I rx ry q
 rcases q with q | q
 ·exact h pins s σ H x y v u Q I rx ry q
 ·exact h' pins s σ H x y v u Q I rx ry q
theorem lh (b : Expr) {op : CmpOp} (h : op ≠ .In := by decide) (h2 : op ≠ .NotIn := by decide) : behindInMarks op b = false := by
 have e1 : (op == CmpOp.In) = false := by cases op <;> first | rfl | exact absurd rfl h
 have e2 : (op == CmpOp.NotIn) = false := by cases op <;> first | rfl | exact absurd rfl h2
 cases b <;> simp [behindInMarks, e1, e2]
theorem kb {op : CmpOp} {r : R2} (ho : OpR X (compareOp op) r) (ha : PE X a ta) (hb : PE X b tb) (hm : behindInMarks op b = false) : PE X (.Compare a [op] [b] pos) (tOp r ta tb) := by
 intro pins s σ H Q I h
 exact wpAny_Compare1 (Ed ha hb I h fun v u s2 x y H2 I2 rx ry q => ho pins s2 σ H2 x y v u Q I2 rx ry q) hm
def A8 (t : TE) : TT := fun σ H Q => t σ H fun x H' => ∃ k, x = .bl k /\ Q k H'
theorem yo {op : CmpOp} {r : R2} (ho : OpR X (compareOp op) r) (ha : PE X a ta) (hb : PE X b tb) (hm : behindInMarks op b = false) : PT X (.Compare a [op] [b] pos) (A8 (tOp r ta tb)) := by
 intro pins s σ H Q I h
 refine wpAny_isTrue_Compare1 (thn (ha pins s σ H _ I h) fun v s1 ⟨x, H1, I1, r1, q1⟩ => thn (hb pins s1 σ H1 _ I1 q1) fun u s2 ⟨y, H2, I2, r2, q2⟩ =>
  thn (ho pins s2 σ H2 x y v u _ I2 r1 r2 q2) fun c s3 ⟨z, H3, I3, r3, k, e, q3⟩ => ?_) hm
 subst e
 cases r3
 exact wpAny_truthy_bool ⟨H3, I3, q3⟩
def AY (r r' : R2) (ta tb tc : TE) : TE := fun σ H Q => ta σ H fun x H1 => tb σ H1 fun y H2 => r x y H2 fun z H3 => ∃ k, z = .bl k /\
 (if k = true then tc σ H3 fun w' H4 => r' y w' H4 Q else Q (.bl false) H3)
theorem Al {op op' : CmpOp} {r r' : R2} (ho : OpR X (compareOp op) r) (ho' : OpR X (compareOp op') r') (ha : PE X a ta) (hb : PE X b tb) (hc : PE X c tc)
  (hm : lastMarks [op, op'] [b, c] = false := by with_unfolding_all rfl) : PT X (.Compare a [op, op'] [b, c] pos) (A8 (AY r r' ta tb tc)) := by
 intro pins s σ H Q I h
 refine isTrue_chain (thn (ha pins s σ H _ I h) fun v s1 ⟨x, H1, I1, r1, q1⟩ => test_link (thn (hb pins s1 σ H1 _ I1 q1) fun u s2 ⟨y, H2, I2, r2, q2⟩ =>
  thn (ho pins s2 σ H2 x y v u _ I2 r1 r2 q2) fun d s3 ⟨z, H3, I3, r3, k, e, q3⟩ => ?_)) hm
 subst e
 cases r3
 refine wpAny_truthy_bool ?_
 cases k with
 | false =>
  obtain ⟨k', e', q'⟩ := q3
  cases e'
  exact ite_ff ⟨H3, I3, q'⟩
 | true =>
  refine ite_tt (test_last (thn (hc pins s3 σ H3 _ I3 q3) fun w' s4 ⟨z', H4, I4, r4, q4⟩ => thn (ho' pins s4 σ H4 y z' u w' _ I4 r2 r4 q4) fun d' s5 ⟨z2, H5, I5, r5, k2, e2, q5⟩ => ?_))
  subst e2
  cases r5
  exact wpAny_truthy_bool ⟨H5, I5, q5⟩
def CP (K : W.Frag) (x : V) (H : Hp) (k : Bool) : Prop :=
 match x with
 | .non => k = false
 | .bl b => k = b
 | .int i => k = (i != 0)
 | .str y => y.length <= sizeLine /\ k = ((y.length : Int) != 0)
 | .byt y => y.size <= sizeLine /\ k = ((y.size : Int) != 0)
 | .ref p => (∃ xs, SqL K H p xs /\ k = !xs.isEmpty) \/ (∃ xs, SqT K H p xs /\ k = !xs.isEmpty) \/ ∃ kvs, H p = some (.dK kvs) /\ k = !kvs.isEmpty
 | _ => False
theorem xx {κ : Type} {kvs : List (κ × V)} {vs : List (κ × Value)} (r : KV kvs vs) : (!vs.isEmpty) = !kvs.isEmpty := by
 cases r <;> rfl
theorem qE {xs : List V} {its : List Value} (r : Vals xs its) : (!its.toArray.isEmpty) = !xs.isEmpty := by
 cases r <;> simp
theorem mK : (sizeLine : Nat) < 2 ^ 63 := by rw [sizeLine_eq]; decide
theorem D5 : HZ X (fun x H Q => ∃ k, CP X.K x H k /\ Q k H) := by
 intro pins s σ H x v Q I rx h
 obtain ⟨k, e, q⟩ := h
 have hl := mK
 have hs : sizeLine = 16777216 := sizeLine_eq
 cases x with
 | non =>
  cases rx
  have e' : k = false := e
  subst e'
  exact truthy_none ⟨H, I, q⟩
 | bl b =>
  cases rx
  have e' : k = b := e
  subst e'
  exact wpAny_truthy_bool ⟨H, I, q⟩
 | int i =>
  obtain ⟨t, rfl⟩ := rx
  have e' : k = (i != 0) := e
  subst e'
  exact PySem.P.truthy_int ⟨H, I, q⟩
 | str y =>
  obtain ⟨t, rfl⟩ := rx
  obtain ⟨hy, e'⟩ : y.length <= sizeLine /\ k = ((y.length : Int) != 0) := e
  subst e'
  exact PySem.P.truthy_str (by lia) ⟨H, I.tok _, q⟩
 | byt y =>
  obtain ⟨t, rfl⟩ := rx
  obtain ⟨hy, e'⟩ : y.size <= sizeLine /\ k = ((y.size : Int) != 0) := e
  subst e'
  exact W.truthy_bytes (by lia) ⟨H, I.tok _, q⟩
 | ref p =>
  cases rx
  have e' : (∃ xs, SqL X.K H p xs /\ k = !xs.isEmpty) \/ (∃ xs, SqT X.K H p xs /\ k = !xs.isEmpty) \/ ∃ kvs, H p = some (.dK kvs) /\ k = !kvs.isEmpty := e
  rcases e' with ⟨xs, hx, e'⟩ | ⟨xs, hx, e'⟩ | ⟨kvs, hx, e'⟩
  ·subst e'
   obtain ⟨its, r, pl, hz⟩ := I.list hx
   have hlen := r.length
   exact wpAny_truthy_list pl.isList (by simp only [List.size_toArray]; lia) ⟨H, I.tok _, by rw [qE r]; exact q⟩
  ·subst e'
   obtain ⟨its, r, pl, hz⟩ := I.tuple hx
   have hlen := r.length
   exact truthy_tuple pl (by simp only [List.size_toArray]; lia) ⟨H, I.tok _, by rw [qE r]; exact q⟩
  ·subst e'
   obtain ⟨hz, hS, vs, r, m⟩ : kvs.length <= sizeLine /\ (p == sysModules) = false /\ ∃ vs, KV kvs vs /\ s.heap.DictOf (bi X.prog X.w) p vs := I.hok p _ hx
   have hlen : kvs.length = vs.length := Paired.length r
   exact wpAny_truthy_dict hS m (by lia) ⟨H, I.tok _, by rw [xx r]; exact q⟩
 | _ => exact (show False from e).elim
theorem gE (ha : PE X a ta) (he : ∀ whole, isTrue a X.env whole = (do let v ← whole; standAt a.pos; holding [v] (truthy v))) :
  PT X a (fun σ H Q => ta σ H fun x H' => ∃ k, CP X.K x H' k /\ Q k H') := by
 intro pins s σ H Q I h
 exact isTrue_plain (thn (ha pins s σ H _ I h) fun v s1 ⟨x, H1, I1, r1, q1⟩ => D5 pins s1 σ H1 x v Q I1 r1 q1) (he _)
theorem xz : OpR X (binaryOp .Add) (fun x y H Q => ∃ i j, x = .str i /\ y = .str j /\ i.length + j.length <= sizeLine /\ Q (.str (i ++ j)) H) := by
 intro pins s σ H x y v u Q I rx ry h
 obtain ⟨i, j, rfl, rfl, hz, q⟩ := h
 obtain ⟨t, rfl⟩ := rx
 obtain ⟨t', rfl⟩ := ry
 exact add_str (fun t' tk => ⟨.str (i ++ j), H, I.tok _, ⟨_, rfl⟩, q⟩) hz
theorem yn {x : V} {us : List Value} (r : Vals [x] us) : ∃ u, us = [u] /\ RelV x u := by
 cases r with
 | cons r1 r2 => cases r2; exact ⟨_, rfl, r1⟩
theorem C1 {x y : V} {us : List Value} (r : Vals [x, y] us) : ∃ u w', us = [u, w'] /\ RelV x u /\ RelV y w' := by
 cases r with
 | cons r1 r2 =>
  cases r2 with
  | cons r3 r4 => cases r4; exact ⟨_, _, rfl, r1, r3⟩
theorem iq (hc : X.calm = true) : CallR X (.builtin "max") (fun xs H Q => ∃ i j, xs = [.int i, .int j] /\ Q (.int (if j > i then j else i)) H) := by
 intro pins s σ H xs us Q I r h
 obtain ⟨i, j, rfl, q⟩ := h
 obtain ⟨u, w', rfl, ⟨t, rfl⟩, ⟨t', rfl⟩⟩ := C1 r
 refine max_two_ints (I.ok.hd hc) fun h' tk k => ⟨_, H, I.kept k, ?_, q⟩
 by_cases hj : j > i
 ·rw [if_pos hj, if_pos hj]; exact ⟨_, rfl⟩
 ·rw [if_neg hj, if_neg hj]; exact ⟨_, rfl⟩
theorem j5 (hc : X.calm = true) : CallR X (.builtin "min") (fun xs H Q => ∃ i j, xs = [.int i, .int j] /\ Q (.int (if j < i then j else i)) H) := by
 intro pins s σ H xs us Q I r h
 obtain ⟨i, j, rfl, q⟩ := h
 obtain ⟨u, w', rfl, ⟨t, rfl⟩, ⟨t', rfl⟩⟩ := C1 r
 refine min_two_ints (I.ok.hd hc) fun h' tk k => ⟨_, H, I.kept k, ?_, q⟩
 by_cases hj : j < i
 ·rw [if_pos hj, if_pos hj]; exact ⟨_, rfl⟩
 ·rw [if_neg hj, if_neg hj]; exact ⟨_, rfl⟩
theorem zg : CallR X (.type "int") (fun xs H Q => (∃ i, xs = [.int i] /\ Q (.int i) H) \/ ∃ k, xs = [.bl k] /\ Q (.int (if k then 1 else 0)) H) := by
 intro pins s σ H xs us Q I r h
 rcases h with ⟨i, rfl, q⟩ | ⟨k, rfl, q⟩
 ·obtain ⟨u, rfl, t, rfl⟩ := yn r
  exact call_int_int ⟨.int i, H, I, ⟨_, rfl⟩, q⟩
 ·obtain ⟨u, rfl, r1⟩ := yn r
  cases r1
  exact call_int_bool ⟨.int (if k then 1 else 0), H, I.tok _, ⟨_, rfl⟩, q⟩
def F5 (K : W.Frag) (x : V) (H : Hp) (n : Nat) : Prop :=
 match x with
 | .str y => y.length <= sizeLine /\ n = y.length
 | .byt y => y.size <= sizeLine /\ n = y.size
 | .ref p => (∃ xs, SqL K H p xs /\ n = xs.length) \/ ∃ xs, SqT K H p xs /\ n = xs.length
 | _ => False
theorem Ay : CallR X (.builtin "len") (fun xs H Q => ∃ x n, xs = [x] /\ F5 X.K x H n /\ Q (.int n) H) := by
 intro pins s σ H xs us Q I r h
 obtain ⟨x, n, rfl, e, q⟩ := h
 obtain ⟨u, rfl, rx⟩ := yn r
 have hl := mK
 have hs : sizeLine = 16777216 := sizeLine_eq
 cases x with
 | str y =>
  obtain ⟨t, rfl⟩ := rx
  obtain ⟨hy, e'⟩ : y.length <= sizeLine /\ n = y.length := e
  subst e'
  exact len_str (by lia) ⟨.int _, H, I.tok _, ⟨_, rfl⟩, q⟩
 | byt y =>
  obtain ⟨t, rfl⟩ := rx
  obtain ⟨hy, e'⟩ : y.size <= sizeLine /\ n = y.size := e
  subst e'
  exact W.len_bytes (by lia) ⟨.int _, H, I.tok _, ⟨_, rfl⟩, q⟩
 | ref p =>
  cases rx
  have e' : (∃ xs, SqL X.K H p xs /\ n = xs.length) \/ ∃ xs, SqT X.K H p xs /\ n = xs.length := e
  rcases e' with ⟨xs, hx, e'⟩ | ⟨xs, hx, e'⟩
  ·subst e'
   obtain ⟨its, r', pl, hz⟩ := I.list hx
   have hlen := r'.length
   exact Calls.call_len_list pl.isList (by simp only [List.size_toArray]; lia) ⟨.int xs.length, H, I.tok _, ⟨_, by simp only [List.size_toArray]; rw [hlen]⟩, q⟩
  ·subst e'
   obtain ⟨its, r', pl, hz⟩ := I.tuple hx
   have hlen := r'.length
   exact len_tuple pl (by simp only [List.size_toArray]; lia) ⟨.int xs.length, H, I.tok _, ⟨_, by simp only [List.size_toArray]; rw [hlen]⟩, q⟩
 | _ => exact (show False from e).elim
end
structure ObjM (h : Heap) (x dx C : Addr) (mA : Str -> Option Value) : Prop where
 obj : h.get? x = some (W.instObj C dx)
 ns : h.Ns1 dx mA
 ne : dx ≠ x
theorem yV {h : Heap} {dx : Addr} {mA : Str -> Option Value} (n : h.Ns1 dx mA) : ∃ od, h.get? dx = some od /\ ∀ name, W.lookIn name od = some (mA name) := by
 obtain ⟨o, es, ep, ho, hd, hk, _, hm⟩ := n
 refine ⟨o, ho, fun name => ?_⟩
 have e := hm name
 unfold nsFind findBy at e
 rw [<- Array.find?_toList] at e
 unfold W.lookIn
 rw [hd]
 dsimp only
 split
 ·rename_i y q
  rw [q] at e
  exact congrArg some e
 ·rename_i q
  rw [q] at e
  have a : es.toList.any (·.refKey) = false := by
   rw [List.any_eq_false]
   intro y hy
   obtain ⟨z, t, hkey⟩ := hk y (Array.mem_toList_iff.mp hy)
   simp [DictEntry.refKey, hkey]
  have a' : ¬ es.toList.any (·.refKey) = true := by rw [a]; exact Bool.false_ne_true
  rw [if_neg a']
  exact congrArg some e
theorem ObjM.look {h : Heap} {x dx C : Addr} {mA : Str -> Option Value} (I : ObjM h x dx C mA) : ∃ od, W.InstAt h x (W.instObj C dx) C (some od) /\ ∀ name, W.lookIn name od = some (mA name) :=
 let ⟨od, ho, hl⟩ := yV I.ns
 ⟨od, ⟨I.obj, rfl, rfl, ho⟩, hl⟩
section
variable {prog : Program} {w : World} {A : Around} {E : Value -> Shared -> Prop} {s : Shared} {K : W.Frag} {x dx C f : Addr} {mA : Str -> Option Value} {name : Str} {v : Value}
end
section
variable {P : Program} {w : World} {H H' : Hp} {h h' : Heap} {a C dx : Addr} {fs fs' : List (Str × V)}
theorem BK (hok : HOk P w H h) (e : H a = some (.ins C dx fs)) : ∃ mA, ObjM h a dx C mA /\ (∀ f, RelO (fs.lookup f) (mA f)) /\ PySem.Within mA (fs.map (·.1)) /\ fs.length <= 1000 /\ H dx = some (.own a) := by
 obtain ⟨d, z, ne, ob, mA, n, r, q⟩ := (show ObjOk P w H h a (.ins C dx fs) from hok a _ e)
 exact ⟨mA, ⟨ob, n, ne⟩, r, q, z, d⟩
end
structure Cls (K : W.Frag) (C : Addr) : Prop where
 pg : W.plainGet K C Str.empty = true
 hd : W.hasDictIn K C = true
 po : W.plainOver K C = true
 sa : W.findIn K (.ref C) "__setattr__" = some (some (.builtin "object.__setattr__"))
theorem Cls.get {K : W.Frag} {C : Addr} (c : Cls K C) (f : Str) : W.plainGet K C f = true := c.pg
structure Con (K : W.Frag) (C : Addr) (f : Str) (v : V) (u : Value) : Prop where
 at_ : W.findIn K (.ref C) f = some (some u)
 rel : RelV v u
 get : W.specialIn K u "__get__" = some none
 cp : W.copiedNames.contains f = false
section
variable {X : Cx} {pins : List (Addr × Obj)} {σ : St} {H : Hp} {s : Shared} {a C dx : Addr} {fs : List (Str × V)} {f : Str} {v : V} {A : Around} {E : Value -> Shared -> Prop}
end
section
variable {X : Cx} {o e value : Expr} {f : Str} {pos pos' tpos : Pos} {ta tv : TE}
end
section
variable {X : Cx} {pins : List (Addr × Obj)} {σ : St} {H : Hp} {s : Shared} {A : Around} {E : Value -> Shared -> Prop} {Q : Value -> Shared -> Prop} {c : Value} {b : Bool}
inductive TyOf (K : W.Frag) (H : Hp) : V -> Value -> Prop where
 | non : TyOf K H .non (.type "NoneType")
 | bl (x : Bool) : TyOf K H (.bl x) (.type "bool")
 | int (i : Int) : TyOf K H (.int i) (.type "int")
 | str (x : Str) : TyOf K H (.str x) (.type "str")
 | flt (x : UInt64) : TyOf K H (.flt x) (.type "float")
 | lst {a : Addr} {xs : List V} (e : H a = some (.lst xs)) : TyOf K H (.ref a) (.type "list")
 | frz {a : Addr} {o : Obj} {xs : List V} (e : H a = some (.frz o (.lst xs))) : TyOf K H (.ref a) (.type "list")
 | tup {a : Addr} {xs : List V} (e : H a = some (.tup xs)) : TyOf K H (.ref a) (.type "tuple")
 | dK {a : Addr} {kvs : List (Key × V)} (e : H a = some (.dK kvs)) : TyOf K H (.ref a) (.type "dict")
 | dT {a : Addr} {kvs : List (List Key × V)} (e : H a = some (.dT kvs)) : TyOf K H (.ref a) (.type "dict")
 | ins {a C dx : Addr} {fs : List (Str × V)} (e : H a = some (.ins C dx fs)) (cl : Cls K C) (ha : W.findIn K (.ref C) "__class__" = some (some (.builtin "object.__class__")))
   (hn : W.specialIn K (.builtin "object.__class__") "__get__" = some (some (.builtin "getset_descriptor.__get__"))) (htk : W.takesIn K (.builtin "object.__class__") = some true)
   (hm : W.mroIn K C (.type "object") = some true) : TyOf K H (.ref a) (.ref C)
theorem jZ {x : V} {u t : Value} (I : Inv X pins σ H s) (rx : RelV x u) (ty : TyOf X.K H x t) (e : W.kitOne X.K t c = some b) (h : ∀ tk, Q (.bool b) { s with toks := tk }) :
  wpAny (model X.prog X.w) A (call (.builtin "isinstance") [u, c]) Q E s := by
 cases ty with
 | non => cases (show u = Value.none from rx); exact W.kia_one W.kitx_none I.kIn True.intro e (fun z => nomatch z) h
 | bl y => cases (show u = Value.bool y from rx); exact W.kia_one W.kitx_bool I.kIn True.intro e (fun z => nomatch z) h
 | int i => obtain ⟨t, q⟩ := (show ∃ t, u = Value.int i t from rx); cases q; exact W.kia_one W.kitx_int I.kIn True.intro e (fun z => nomatch z) h
 | str y => obtain ⟨t, q⟩ := (show ∃ t, u = Value.str y t from rx); cases q; exact W.kia_one W.kitx_str I.kIn True.intro e (fun z => nomatch z) h
 | flt y => obtain ⟨t, q⟩ := (show ∃ t, u = Value.float y t from rx); cases q; exact W.kia_one W.kitx_float I.kIn True.intro e (fun z => nomatch z) h
 | @lst a xs ea =>
  cases (show u = Value.ref a from rx)
  obtain ⟨_, _, n, _, h1⟩ := (show ObjOk X.prog X.w H s.heap a (.lst xs) from I.hok a _ ea)
  exact W.kia_one W.kitx_list I.kIn ⟨_, h1, rfl⟩ e (fun z => nomatch z) h
 | @frz a ob xs ea =>
  cases (show u = Value.ref a from rx)
  obtain ⟨_, _, _, n, _, h1⟩ := (show ObjOk X.prog X.w H s.heap a (.frz ob (.lst xs)) from I.hok a _ ea)
  exact W.kia_one W.kitx_list I.kIn ⟨_, h1, rfl⟩ e (fun z => nomatch z) h
 | @tup a xs ea =>
  cases (show u = Value.ref a from rx)
  obtain ⟨_, _, _, p⟩ := (show ObjOk X.prog X.w H s.heap a (.tup xs) from I.hok a _ ea)
  obtain ⟨o, h1, h2, _⟩ := p
  exact W.kia_one W.kitx_tuple I.kIn ⟨o, h1, h2⟩ e (fun z => nomatch z) h
 | @dK a kvs ea =>
  cases (show u = Value.ref a from rx)
  obtain ⟨_, _, vs, _, p⟩ := (show ObjOk X.prog X.w H s.heap a (.dK kvs) from I.hok a _ ea)
  obtain ⟨o, es, ep, h1, h2, _⟩ := p
  exact W.kia_one W.kitx_dict I.kIn ⟨o, h1, h2.1⟩ e (fun z => nomatch z) h
 | @dT a kvs ea =>
  cases (show u = Value.ref a from rx)
  obtain ⟨_, _, xs, _, o, es, ep, h1, h2, _⟩ := (show ObjOk X.prog X.w H s.heap a (.dT kvs) from I.hok a _ ea)
  exact W.kia_one W.kitx_dict I.kIn ⟨o, h1, h2.1⟩ e (fun z => nomatch z) h
 | @ins a C dx fs ea cl ha hn htk hm =>
  cases (show u = Value.ref a from rx)
  obtain ⟨mA, O, _⟩ := BK I.hok ea
  obtain ⟨od, J, _⟩ := O.look
  exact W.kia_one (W.kitx_own (cl.get _) cl.hd ha hn htk hm) I.kIn J e (fun z => nomatch z) h
end
structure Room (k : Nat) (A : Around) : Prop where
 hd : A.handled = none
 dp : A.depth + 3 * k + 5 < recursionLimit
 un : A.units + 16 * k + 200 < cLine
theorem Room.mono {j k : Nat} {A : Around} (r : Room k A) (h : j <= k) : Room j A := ⟨r.hd, by have := r.dp; lia, by have := r.un; lia⟩
theorem Room.deeper {k : Nat} {A : Around} (r : Room (k + 1) A) (env : Env) : Room k (A.deeper env) :=
 ⟨r.hd, by have := r.dp; show A.depth + 1 + 3 * k + 5 < _; lia, by have := r.un; show A.units + 3 + 16 * k + 200 < _; lia⟩
theorem Room.depth {k : Nat} {A : Around} (r : Room k A) : A.depth < recursionLimit := by have := r.dp; lia
theorem Room.units {k : Nat} {A : Around} (r : Room k A) : A.units + 64 < cLine := by have := r.un; lia
def pO : TA := fun _ H Q => Q [] H
def jx (ta : TE) (tr : TA) : TA := fun σ H Q => ta σ H fun x H1 => tr σ H1 fun xs H2 => Q (x :: xs) H2
section
variable {X : Cx} {e : Expr} {es : List Expr} {te : TE} {t : TA} {pos : Pos}
theorem af : PA X [] pO := fun _ _ _ _ H Q I h => Calls.spliced_nil ⟨[], H, I, .nil, h⟩
theorem ab (ha : PE X e te) (hr : PA X es t) (hs : starEach (e :: es) X.env = (false, eval e X.env) :: starEach es X.env := by rfl) : PA X (e :: es) (jx te t) := by
 intro pos pins s σ H Q I h
 rw [hs]
 show wpAny _ _ (spliced ((false, eval e X.env) :: backTo pos (starEach es X.env))) _ _ s
 refine Calls.spliced_cons (thn (ha pins s σ H _ I h) fun u s1 hpt9 => ?_)
 obtain ⟨x, H1, I1, r1, q1⟩ := hpt9
 exact thn (hr pos pins s1 σ H1 _ I1 q1) fun us s2 ⟨xs, H2, I2, r2, q2⟩ => ⟨x :: xs, H2, I2, .cons r1 r2, q2⟩
def EW (t : TA) : TE := fun σ H Q => t σ H fun xs H1 => xs.length <= sizeLine /\ ∀ p, H1 p = none -> Q (.ref p) (upd H1 p (.tup xs))
def Et (t : TA) : TE := fun σ H Q => t σ H fun xs H1 => xs.length <= sizeLine /\ ∀ p, H1 p = none -> Q (.ref p) (upd H1 p (.lst xs))
theorem aD {x1} (h : PA X es t) : PE X (.Tuple es x1 pos) (EW t) := by
 intro pins s σ H Q I hq
 refine wpAny_Tuple_spliced (thn (h pos pins s σ H _ I hq) fun us s1 ⟨xs, H1, I1, r, z, q⟩ => ⟨by rw [<- r.length]; exact z, ?_⟩)
 have hf : H1 s1.heap.objs.size = none := I1.hok.fresh (Nat.le_refl _)
 refine ⟨.ref s1.heap.objs.size, upd H1 s1.heap.objs.size (.tup xs), I1.laid (t' := s1.toks) (fun b u e => Heap.get?_push_of_some _ e) (Nat.le_refl _) ?_, rfl, q _ hf⟩
 exact ⟨z, us, r, ⟨_, Heap.get?_push_size _ rfl, rfl, _, rfl⟩⟩
theorem bM (h : PA X es t) : PE X (.List es pos) (Et t) := by
 intro pins s σ H Q I hq
 refine wpAny_List_spliced (thn (h pos pins s σ H _ I hq) fun us s1 ⟨xs, H1, I1, r, z, q⟩ => ⟨by rw [<- r.length]; exact z, ?_⟩)
 have hf : H1 s1.heap.objs.size = none := I1.hok.fresh (Nat.le_refl _)
 refine ⟨.ref s1.heap.objs.size, upd H1 s1.heap.objs.size (.lst xs), I1.laid (t' := s1.toks) (fun b u e => Heap.get?_push_of_some _ e) (Nat.le_refl _) ?_, rfl, q _ hf⟩
 exact ⟨z, us, 0, r, Heap.get?_push_size _ rfl⟩
end
abbrev Sp := List V -> Hp -> VK -> XK -> Prop
abbrev CXT := List Env -> Hp -> Shared -> XK -> Value -> Shared -> Prop
structure Env0 (P : Program) (w : World) (K : W.Frag) (mg : Str -> Option Value) (base : Heap) (A : Around) (outer : List Env) (s : Shared) (H : Hp) : Prop where
 frames : A.frames = some outer
 mod : Mod K mg base
 bs : ∀ b o, base.get? b = some o -> s.heap.get? b = some o /\ H b = none
 bsz : base.objs.size <= s.heap.objs.size
 funs : s.heap.FunFrames base outer
 frf : ∀ b ∈ frs outer, H b = none
 hok : HOk P w H s.heap
 bare : AllBare s.gens
def CE (outer : List Env) (P : Program) (w : World) (H : Hp) (s : Shared) (Q : VK) (u : Value) (s' : Shared) : Prop :=
 ∃ v H', s'.os = s.os /\ AllBare s'.gens /\ Un (frs outer) [] H H' s.heap s'.heap /\ HOk P w H' s'.heap /\ RelV v u /\ Q v H'
def CR (CX : CXT) (outer : List Env) (P : Program) (w : World) (H : Hp) (s : Shared) (Q : VK) (E : XK) (r : Result) (s' : Shared) : Prop :=
 match r with
 | .ok (.ret u) => CE outer P w H s Q u s'
 | .ok _ => False
 | .error e => CX outer H s E e s'
structure FnOk (P : Program) (w : World) (K : W.Frag) (mg : Str -> Option Value) (base : Heap) (CX : CXT) (k : Nat) (f : Addr) (fd : FuncData) (ps : List Str) (sp : Sp) : Prop where
 len : ∀ vs H Q E, sp vs H Q E -> vs.length = ps.length
 run : ∀ (A : Around) (outer : List Env) (s : Shared) (H : Hp) (args : Args) (us : List Value) (vs : List V) (Q : VK) (E : XK), Room k A -> Env0 P w K mg base A outer s H -> BindsTo s fd args (ps.zip us) -> Vals vs us -> sp vs H Q E ->
  codeAny (model P w) A (.call (.ref f) args) (CR CX outer P w H s Q E) s
section
variable {X : Cx} {pins : List (Addr × Obj)} {σ : St} {H : Hp} {s s' : Shared}
theorem Inv.env0 (I : Inv X pins σ H s) : Env0 X.prog X.w X.K X.mg X.base X.A X.stack s H :=
 ⟨I.ok.frames, I.ok.mod, I.bs, Nat.le_trans I.ok.bsz I.sz, I.stack, I.stkFree, I.hok, I.bare⟩
theorem Inv.after {Q : VK} {u : Value} (I : Inv X pins σ H s) (h : CE X.stack X.prog X.w H s Q u s') : EP X pins σ Q u s' := by
 obtain ⟨v, H', os, bare, un, hok, r, q⟩ := h
 obtain ⟨hh, g, d, t, os'⟩ := s'
 obtain rfl : os' = s.os := os
 exact ⟨v, H', I.call (h' := hh) (g' := g) (d' := d) (t' := t) (ch := []) un hok bare (fun b z => absurd z (by simp)), r, q⟩
end
def xV (sp : Sp) (dvs : List V) (E : XK) (t : TA) : TE := fun σ H Q => t σ H fun vs H1 => sp (vs ++ dvs) H1 Q E
def Binds (K : W.Frag) (fd : FuncData) (ps : List Str) (ds : List Value) : Prop :=
 ∀ (s : Shared) (us : List Value), K.In s.heap -> (us ++ ds).length = ps.length -> BindsTo s fd ⟨us, []⟩ (ps.zip (us ++ ds))
theorem Binds.all {K : W.Frag} {fd : FuncData} {ps : List Str} (h : ∀ us : List Value, us.length = ps.length -> bindArgs fd ⟨us, []⟩ = pure (ps.zip us)) : Binds K fd ps [] := fun s us _ hl => by
 rw [List.append_nil] at hl ⊢
 exact .of_eq (h us hl)
def xl (CX : CXT) (X : Cx) (E : XK) : Prop := ∀ (pins : List (Addr × Obj)) (σ : St) (H : Hp) (s : Shared) (e : Value) (s' : Shared), Inv X pins σ H s -> CX X.stack H s E e s' -> X.xe e s'
section
variable {X : Cx} {CX : CXT} {k : Nat} {f C : Addr} {fd : FuncData} {ps : List Str} {sp : Sp} {dvs : List V} {ds : List Value} {E : XK} {x m : Str} {p pos apos : Pos} {e o : Expr} {es : List Expr} {ta : TE} {t : TA}
theorem DS {pins : List (Addr × Obj)} {σ : St} {H : Hp} {s : Shared} {Q : VK} {us : List Value} {vs : List V} (F : FnOk X.prog X.w X.K X.mg X.base CX k f fd ps sp) (hr : Room k X.A) (hb : Binds X.K fd ps ds) (hd : Vals dvs ds) (hx : xl CX X E)
  (I : Inv X pins σ H s) (r : Vals vs us) (h : sp (vs ++ dvs) H Q E) : wpAny (model X.prog X.w) X.A (call (.ref f) us) (EP X pins σ Q) X.xe s := by
 have r2 : Vals (vs ++ dvs) (us ++ ds) := r.append hd
 have hl : (us ++ ds).length = ps.length := by rw [<- r2.length]; exact F.len _ _ _ _ h
 refine wpAny_call (codeAny_mono (F.run X.A X.stack s H ⟨us, []⟩ (us ++ ds) (vs ++ dvs) Q E hr I.env0 (hb s us I.kIn hl) r2 h) fun r s' hq => ?_)
 cases r with
 | error e => exact hx pins σ H s e s' I hq
 | ok fl =>
  cases fl with
  | ret u => exact I.after hq
  | next => exact False.elim hq
  | brk => exact False.elim hq
  | cont => exact False.elim hq
theorem BN (F : FnOk X.prog X.w X.K X.mg X.base CX k f fd ps sp) (hr : Room k X.A) (hg : Gl X x) (hm : X.mg x = some (.ref f)) (hk : W.keepIn X.K (.ref f) = true) (hb : Binds X.K fd ps ds) (hd : Vals dvs ds) (hx : xl CX X E)
  (ha : PA X (e :: es) t) (hdb : (x == ("__debug__" : Str)) = false := by decide) (he : starEach (e :: es) X.env = (false, eval e X.env) :: starEach es X.env := by rfl) (hpl : (backTo pos (starEach es X.env)).any (·.1) = false := by rfl) :
  PE X (.Call (.Name x p) (e :: es) [] pos) (xV sp dvs E t) := by
 intro pins s σ H Q I h
 refine wpAny_Call_Name_kw (xF I hg hm ?_ hdb)
 refine W.callWith_K (h₀ := X.base) I.ok.mod.kin hk (thn (ha pos pins s σ H _ I h) fun us s1 ⟨vs, H1, I1, r, q⟩ => ⟨I1.kIn, ?_⟩) he hpl
 exact DS F hr hb hd hx I1 r q
end
section
variable {X : Cx} {CX : CXT} {k : Nat} {f C : Addr} {fd : FuncData} {ps ks : List Str} {sp : Sp} {E : XK} {x m : Str} {p pos apos kpos : Pos} {e o : Expr} {es : List Expr} {kws : List Keyword} {te ta : TE} {t tk : TA} {nm : Option Str}
variable {g : List Value -> List Value -> List Value} {gV : List V -> List V -> List V}
end
structure FnScope (N P : List Str) (sc : Scope) : Prop where
 kind : sc.kind = .function
 co : sc.isCoroutine = false
 gen : sc.isGenerator = false
 nd : N.Nodup
 pre : N.take P.length = P
 par : ∀ x ∈ P, sc.names.lookup x = some .local \/ sc.names.lookup x = some .cell
 nofree : ∀ y ∈ sc.names, y.2 ≠ .free
theorem sJ {kindOf : Str -> Option NameKind} {x : Str} : ∀ {binds : List (Str × Value)} {m : Str -> Option Value}, (∀ v, (x, v) ∉ binds) -> bindL kindOf binds m x = m x
 | [], _, _ => rfl
 | (n, v) :: r, m, h => by
  unfold bindL
  rw [sJ fun w hw => h w (List.mem_cons_of_mem _ hw)]
  split
  ·have : x ≠ n := by rintro rfl; exact h v List.mem_cons_self
   simp [this]
  ·rfl
theorem sM {kindOf : Str -> Option NameKind} {x : Str} : ∀ {binds : List (Str × Value)} {m : Str -> Option Value}, (∀ v, (x, v) ∉ binds) -> bindC kindOf binds m x = m x
 | [], _, _ => rfl
 | (n, v) :: r, m, h => by
  unfold bindC
  rw [sM fun w hw => h w (List.mem_cons_of_mem _ hw)]
  split
  ·rfl
  ·have : x ≠ n := by rintro rfl; exact h v List.mem_cons_self
   simp [this]
theorem sK {kindOf : Str -> Option NameKind} {x : Str} {v : Value} : ∀ {P : List Str} {vs : List Value} {i : Nat} {m : Str -> Option Value}, P.Nodup -> P[i]? = some x -> vs[i]? = some v -> kindOf x = some .local ->
  bindL kindOf (P.zip vs) m x = some v
 | [], _, _, _, _, h, _, _ => by simp at h
 | _ :: _, [], _, _, _, _, h, _ => by simp at h
 | p :: P, w :: vs, 0, m, nd, h1, h2, hk => by
  simp at h1 h2; subst h1; subst h2
  show bindL kindOf ((p, w) :: P.zip vs) m p = _
  unfold bindL
  rw [sJ fun v hv => (List.nodup_cons.mp nd).1 (List.of_mem_zip hv).1, if_pos hk]
  simp
 | p :: P, w :: vs, i + 1, m, nd, h1, h2, hk => by
  show bindL kindOf ((p, w) :: P.zip vs) m x = _
  unfold bindL
  exact sK (i := i) (List.nodup_cons.mp nd).2 (by simpa using h1) (by simpa using h2) hk
theorem sN {kindOf : Str -> Option NameKind} {x : Str} {v : Value} : ∀ {P : List Str} {vs : List Value} {i : Nat} {m : Str -> Option Value}, P.Nodup -> P[i]? = some x -> vs[i]? = some v -> kindOf x ≠ some .local ->
  bindC kindOf (P.zip vs) m x = some v
 | [], _, _, _, _, h, _, _ => by simp at h
 | _ :: _, [], _, _, _, _, h, _ => by simp at h
 | p :: P, w :: vs, 0, m, nd, h1, h2, hk => by
  simp at h1 h2; subst h1; subst h2
  show bindC kindOf ((p, w) :: P.zip vs) m p = _
  unfold bindC
  rw [sM fun v hv => (List.nodup_cons.mp nd).1 (List.of_mem_zip hv).1, if_neg hk]
  simp
 | p :: P, w :: vs, i + 1, m, nd, h1, h2, hk => by
  show bindC kindOf ((p, w) :: P.zip vs) m x = _
  unfold bindC
  exact sN (i := i) (List.nodup_cons.mp nd).2 (by simpa using h1) (by simpa using h2) hk
def a6 (N : List Str) (vs : List V) : St := vs.map some ++ List.replicate (N.length - vs.length) none
def wY (CX : CXT) (P : Program) (w : World) (K : W.Frag) (mg : Str -> Option Value) (base : Heap) (N : List Str) (qual : Str) (scope : Scope) (f : Addr) (cd : Value) (A : Around) (outer : List Env) (s : Shared) (H : Hp) (E : XK) : Cx where
 prog := P
 w := w
 K := K
 mg := mg
 base := base
 A := A.deeper (envOfC qual scope s.heap.objs.size f cd)
 N := N
 s₀ := s
 H₀ := H
 env := envOfC qual scope s.heap.objs.size f cd
 outer := outer
 stack := envOfC qual scope s.heap.objs.size f cd :: outer
 ex := []
 calm := true
 fn := fun _ => true
 pn := []
 xe := fun e s' => wpAny (model P w) (A.deeper (envOfC qual scope s.heap.objs.size f cd)) (leaving (envOfC qual scope s.heap.objs.size f cd) e) (fun _ s'' => CX outer H s E e s'') (fun e' s'' => CX outer H s E e' s'') s'
theorem u5 {sc : Scope} {n : Nat} {x : Str} (h : sc.names.lookup x = some .cell) : ∃ c, (cellsFrom n sc.names []).lookup x = some c := by
 have q := W.cellsFrom_some sc.names n [] (.inl h)
 exact Option.isSome_iff_exists.mp q
theorem zF {CX : CXT} {P : Program} {w : World} {K : W.Frag} {mg : Str -> Option Value} {base : Heap} {N ps : List Str} {qual : Str} {scope : Scope} {f : Addr} {cd : Value} {A : Around} {outer : List Env} {s s1 : Shared} {H : Hp} {E : XK} {us : List Value} {vs : List V}
  (S : FnScope N ps scope) (hd : A.handled = none) (e0 : Env0 P w K mg base A outer s H) (hl : vs.length = ps.length) (r : Vals vs us)
  (x : InCallC s s.heap.objs.size (bindL (envOfC qual scope s.heap.objs.size f cd).kindOf (ps.zip us) fun _ => none) (cellsFrom (s.heap.objs.size + 1) scope.names []) (bindC (envOfC qual scope s.heap.objs.size f cd).kindOf (ps.zip us) fun _ => none) s1) :
  Inv (wY CX P w K mg base N qual scope f cd A outer s H E) [] (a6 N vs) H s1 := by
 have hpl : ps.length <= N.length := by have := congrArg List.length S.pre; rw [List.length_take] at this; lia
 obtain ⟨h1, tk, rfl, hk⟩ := x.done
 have noA : ∀ b : Addr, b ∉ (wY CX P w K mg base N qual scope f cd A outer s H E).ex := fun b z => absurd (show b ∈ ([] : List Addr) from z) (by simp)
 refine ⟨⟨e0.mod, S.kind, rfl, rfl, Nat.le_refl _, fun y z c h1 h2 => ?_, fun y hy => ?_, fun y c _ h => ?_, fun _ => hd, Around.frames_deeper e0.frames, .inr ⟨rfl, rfl⟩, fun b z => absurd z (noA b), e0.bs, e0.bsz, fun b _ _ => noA b, fun b z => absurd z (noA b), e0.funs, e0.frf⟩,
  rfl, e0.bare, Un.kept hk, ⟨_, x.toInCall.ns, fun i y v h1 h2 h3 => ?_⟩, fun y c h => ⟨_, x.cell y c h⟩, e0.hok.fresh (Nat.le_refl _), fun y c h => ?_, fun p hp => absurd (show p ∈ ([] : List (Addr × Obj)) from hp) (by simp), e0.hok.kept hk, ?_⟩
 ·exact name_of_addr x.apart (PySem.mem_of_lookup h1) (PySem.mem_of_lookup h2)
 ·have hy : scope.names.lookup y = some .cell \/ scope.names.lookup y = some .free := hy
  rcases hy with hy | hy
  ·exact u5 hy
  ·exact absurd rfl (S.nofree _ (PySem.mem_of_lookup hy))
 ·exact Nat.le_of_lt (x.above y c (PySem.mem_of_lookup h))
 ·have hi : i < vs.length := by
   unfold a6 at h2
   by_cases hi : i < vs.length
   ·exact hi
   ·rw [List.getElem?_append_right (by simpa using hi)] at h2
    rw [List.getElem?_replicate] at h2
    split at h2 <;> cases h2
  have ha : vs[i]? = some v := by
   unfold a6 at h2
   rw [List.getElem?_append_left (by simpa using hi), List.getElem?_map] at h2
   cases e : vs[i]? with
   | none => rw [e] at h2; cases h2
   | some a => rw [e] at h2; cases h2; rfl
  obtain ⟨u, hu, rv⟩ := r.get ha
  have hp : ps[i]? = some y := by
   rw [<- S.pre, List.getElem?_take_of_lt (by lia)]; exact h1
  have ndP : ps.Nodup := by rw [<- S.pre]; exact S.nd.sublist (List.take_sublist _ _)
  refine ⟨u, rv, ?_⟩
  rcases S.par y (List.mem_of_getElem? hp) with k | k
  ·exact .inl ⟨k, sK ndP hp hu k⟩
  ·obtain ⟨c, e⟩ := u5 (n := s.heap.objs.size + 1) k
   refine .inr ⟨.inl k, c, e, ?_⟩
   have q := x.cell y c e
   rw [sN ndP hp hu (by show scope.names.lookup y ≠ _; rw [k]; decide)] at q
   exact q
 ·exact e0.hok.fresh (Nat.le_of_lt (x.above y c (PySem.mem_of_lookup h)))
 ·unfold a6
  show _ = N.length
  rw [List.length_append, List.length_map, List.length_replicate]
  lia
theorem GA {CX : CXT} {P : Program} {w : World} {K : W.Frag} {mg : Str -> Option Value} {base : Heap} {k : Nat} {f : Addr} {name qual : Str} {params : Arguments} {body : List Stmt} {scope : Scope} {dV kV doc pm cdv ct oc : Value} {an od : Option Addr}
  {osl : Array (Option Value)} {N ps : List Str} {sp : Sp} (lk : K.lookup f = some ⟨oc, od, .func (W.fnOf name qual params body scope dV kV doc pm an cdv ct), osl⟩) (hcd : W.codeIn K cdv qual = true) (S : FnScope N ps scope)
  (len : ∀ vs H Q E, sp vs H Q E -> vs.length = ps.length)
  (hbody : ∀ (A : Around) (outer : List Env) (s : Shared) (H : Hp) (vs : List V) (Q : VK) (E : XK), Room k (A.deeper (envOfC qual scope s.heap.objs.size f cdv)) -> sp vs H Q E ->
   ∃ t, PSs (wY CX P w K mg base N qual scope f cdv A outer s H E) body t /\ t { nx := fun _ H' => Q .non H', rt := Q } (a6 N vs) H) :
  FnOk P w K mg base CX (k + 1) f (W.fnOf name qual params body scope dV kV doc pm an cdv ct) ps sp := by
 refine ⟨len, fun A outer s H args us vs Q E hr e0 hb r hsp => ?_⟩
 have hl := len _ _ _ _ hsp
 have KX : K.In s.heap := e0.mod.kin.keeps fun b o e => (e0.bs b o e).1
 have lim : s.heap.NoLimit := e0.mod.nolimit.keeps fun b o e => (e0.bs b o e).1
 have hkind : ∀ y ∈ ps.zip us, scope.names.lookup y.1 = some .local \/ (scope.names.lookup y.1 = some .cell /\ ((cellsFrom (s.heap.objs.size + 1) scope.names []).lookup y.1).isSome = true) := fun hpt0 hy => by
  obtain ⟨n, v⟩ := hpt0
  rcases S.par n (List.of_mem_zip hy).1 with q | q
  ·exact .inl q
  ·exact .inr ⟨q, W.cellsFrom_some _ _ _ (.inl q)⟩
 refine codeAny_call_function hr.depth (KX _ _ lk) rfl S.co S.gen rfl (W.codeRec_of KX hcd) (hb _ _ _ _ ?_)
 refine wpAny_newFunctionEnv_cells S.kind hkind fun env he s1 x => ?_
 subst he
 refine ⟨lim.keeps x.toInCall.keep, codeAny_func ?_⟩
 obtain ⟨t, ht, hq⟩ := hbody A outer s H vs Q E (hr.deeper _) hsp
 have I : Inv (wY CX P w K mg base N qual scope f cdv A outer s H E) [] (a6 N vs) H s1 := zF S hr.hd e0 hl r x
 refine wpAny_mono (ht [] s1 (a6 N vs) H _ I hq) (fun fl s' hs => ?_) fun e s' hs => hs
 have fin : ∀ {σ' : St} {H' : Hp} {v : V} {u : Value}, Inv (wY CX P w K mg base N qual scope f cdv A outer s H E) [] σ' H' s' -> RelV v u -> Q v H' -> CE outer P w H s Q u s' :=
  fun {σ' H' v u} J rv q => ⟨v, H', J.os, J.bare, J.base, J.hok, rv, q⟩
 cases fl with
 | ret u =>
  obtain ⟨v, σ', H', J, rv, q⟩ := hs
  exact fin J rv q
 | next =>
  obtain ⟨σ', H', J, q⟩ := hs
  exact fin (v := V.non) (u := Value.none) J rfl q
 | brk =>
  obtain ⟨_, _, _, q⟩ := hs
  exact False.elim q
 | cont =>
  obtain ⟨_, _, _, q⟩ := hs
  exact False.elim q
section
variable {X : Cx} {x : Str} {p pos : Pos} {e : Expr} {es : List Expr} {t : TA} {id T : String} {r : List V -> Hp -> VK -> Prop}
def tCB (r : List V -> Hp -> VK -> Prop) (t : TA) : TE := fun σ H Q => t σ H fun vs H1 => r vs H1 Q
theorem aI (hc : CallR X (.builtin id) r) (hg : Gl X x) (hm : X.mg x = none) (hv : bootBuiltins x = some (.builtin id)) (ha : PA X (e :: es) t) (hn : x ≠ "__name__" := by decide) (hdb : (x == ("__debug__" : Str)) = false := by decide)
  (he : starEach (e :: es) X.env = (false, eval e X.env) :: starEach es X.env := by rfl) (hpl : (backTo pos (starEach es X.env)).any (·.1) = false := by rfl) : PE X (.Call (.Name x p) (e :: es) [] pos) (tCB r t) := by
 intro pins s σ H Q I h
 refine wpAny_Call_Name_kw (nj I hg hm hv ?_ hn hdb)
 exact PyProof.Rows.callWith_builtin1 (thn (ha pos pins s σ H _ I h) fun us s1 ⟨vs, H1, I1, r1, q1⟩ => hc pins s1 σ H1 vs us Q I1 r1 q1) he hpl
theorem cj (hc : CallR X (.type T) r) (hg : Gl X x) (hm : X.mg x = none) (hv : bootBuiltins x = some (.type T)) (ha : PA X (e :: es) t) (hn : x ≠ "__name__" := by decide) (hdb : (x == ("__debug__" : Str)) = false := by decide)
  (he : starEach (e :: es) X.env = (false, eval e X.env) :: starEach es X.env := by rfl) (hpl : (backTo pos (starEach es X.env)).any (·.1) = false := by rfl) : PE X (.Call (.Name x p) (e :: es) [] pos) (tCB r t) := by
 intro pins s σ H Q I h
 refine wpAny_Call_Name_kw (nj I hg hm hv ?_ hn hdb)
 exact PyProof.Rows.callWith_type1 (thn (ha pos pins s σ H _ I h) fun us s1 ⟨vs, H1, I1, r1, q1⟩ => hc pins s1 σ H1 vs us Q I1 r1 q1) he hpl
end
end L2
namespace HT
open PySem PyProof.Rows
def bR : List Int -> List Int -> Bool
 | [], [] => false
 | [], _ :: _ => true
 | _ :: _, [] => false
 | x :: xs, y :: ys => if x = y then bR xs ys else decide (x < y)
theorem wI (x y : Int) (xs ys : List Int) : bR (x :: xs) (y :: ys) = if x = y then bR xs ys else decide (x < y) := rfl
section
open PySem.SeqAt
open PySem.AutoSeq1 (wpAny_loadPart')
open PySem.MeetsSeq PySem.MeetsSeq2 PySem.MeetsSeq3
end
section
variable {prog : Program} {w : World} {A : Around} {E : Value -> Shared -> Prop} {s : Shared}
theorem CG {t b : Addr} {vs ws : List Value} {Q : Value -> Shared -> Prop} (ht : IsTup s.heap t vs.toArray) (hb : IsTup s.heap b ws.toArray) (hv : vs ≠ [])
  (h1 : ws = [] -> Q (.ref t) s) (h2 : ws ≠ [] -> Q (.ref s.heap.objs.size) { s with heap := s.heap.push { cls := .type "tuple", data := .seq (vs ++ ws).toArray } })
  (hsz : vs.length + ws.length <= sizeLine) : wpAny (model prog w) A (binaryOp .Add (.ref t) (.ref b)) Q E s := by
 obtain ⟨⟨cls, dd, data, sl⟩, ho, hc, n, hd⟩ := id ht
 obtain ⟨⟨cls2, dd2, data2, sl2⟩, ho2, hc2, n2, hd2⟩ := id hb
 simp only at hc hd hc2 hd2
 subst hc hd hc2 hd2
 have e : vs.toArray ++ ws.toArray = (vs ++ ws).toArray := by simp
 by_cases hw : ws = []
 ·exact concat_meets ⟨_, ho, rfl⟩ ⟨_, ho2, rfl⟩ noFill_tuple_add seq_tuple_add PySem.F.slot_tuple_add PySem.F.entry_tuple_add (PySem.F.args_tuple_add_2 _ _)
   (tuple_addW1 t b vs.toArray ws.toArray n n2 dd dd2 sl sl2 (by simpa using hv) (by simp [hw])) ⟨ho, ho2, h1 hw⟩
 ·refine concat_meets ⟨_, ho, rfl⟩ ⟨_, ho2, rfl⟩ noFill_tuple_add seq_tuple_add PySem.F.slot_tuple_add PySem.F.entry_tuple_add (PySem.F.args_tuple_add_2 _ _)
   (tuple_addW2 t b vs.toArray ws.toArray n n2 dd dd2 sl sl2 (by simpa using hv) (by simpa using hw) (by rw [List.size_toArray, List.size_toArray]; exact hsz)) ⟨ho, ho2, ?_⟩
  rw [e]
  exact h2 hw
def sIx (n d : Nat) : Option Int -> Nat
 | none => d
 | some v => if v < 0 then (v + (n : Int)).toNat else min v.toNat n
theorem D1 (n d : Nat) (hd : d <= n) (o : Option Int) : sIx n d o <= n := by
 cases o with
 | none => exact hd
 | some v =>
  show (if v < 0 then (v + (n : Int)).toNat else min v.toNat n) <= n
  by_cases hv : v < 0
  ·rw [if_pos hv]; lia
  ·rw [if_neg hv]; exact Nat.min_le_right _ _
theorem yy (v : Int) (n d : Nat) : (if v < 0 then max (v + (n : Int)) 0 else min v (n : Int)) = ((sIx n d (some v) : Nat) : Int) := by
 show (if v < 0 then max (v + (n : Int)) 0 else min v (n : Int)) = (((if v < 0 then (v + (n : Int)).toNat else min v.toNat n) : Nat) : Int)
 by_cases hv : v < 0
 ·simp only [if_pos hv]; lia
 ·simp only [if_neg hv]; lia
theorem wp (lo hi : Option Int) (n : Nat) : Builtin.Slice.sliceAdjust lo hi 1 (n : Int) = (((sIx n 0 lo : Nat) : Int), ((sIx n n hi : Nat) : Int)) := by
 have h1 : ¬ ((1 : Int) < 0) := by lia
 unfold Builtin.Slice.sliceAdjust
 simp only [h1, if_false]
 refine Prod.ext ?_ ?_
 ·cases lo with
  | none => rfl
  | some v => exact yy v n 0
 ·cases hi with
  | none => rfl
  | some v => exact yy v n n
theorem xf (i j : Nat) : Builtin.Slice.slicePlaces (i : Int) (j : Int) 1 = j - i := by
 unfold Builtin.Slice.slicePlaces
 have h1 : (1 : Int) > 0 := by lia
 simp only [h1, if_true, Int.ediv_one]
 split <;> lia
theorem oW {v : Value} {o : Option Int} {Q : Option Int -> Shared -> Prop} (p : IsPart v o) (h : Q o s) : wpAny (model prog w) A (Builtin.Slice.slicePartIndex v) Q E s := by
 cases p with
 | none => exact slicePart_none h
 | int i t => exact slicePart_int h
theorem hJ {sl : Addr} {vl vu : Value} {lo hi : Option Int} {n : Nat} {Q : Int × Int × Nat -> Shared -> Prop} (hs : s.heap.IsSliceOf sl vl vu .none) (pl : IsPart vl lo) (pu : IsPart vu hi)
  (h : Q (((sIx n 0 lo : Nat) : Int), 1, sIx n n hi - sIx n 0 lo) s) : wpAny (model prog w) A (Builtin.Slice.sliceApplied (.ref sl) (pure (n : Int))) Q E s := by
 obtain ⟨os, hos, hcs, hds⟩ := id hs
 unfold Builtin.Slice.sliceApplied Builtin.Slice.sliceFields
 refine wpAny_bind (wpAny_bind (wpAny_field hos hds (x := vl) rfl (wpAny_bind (wpAny_field hos hds (x := vu) rfl (wpAny_bind (wpAny_field hos hds (x := .none) rfl (wpAny_pure ?_)))))))
 refine wpAny_bind (slicePart_none ?_)
 show wpAny _ _ (if ((1 : Int) == 0) = true then _ else _) _ _ s
 rw [if_neg (by decide)]
 refine wpAny_bind (oW pl (wpAny_bind (oW pu (wpAny_bind (wpAny_pure ?_)))))
 show wpAny _ _ (match Builtin.Slice.sliceAdjust lo hi 1 (n : Int) with | (lo, hi) => pure (lo, (1 : Int), Builtin.Slice.slicePlaces lo hi 1)) _ _ s
 rw [wp lo hi n]
 show wpAny _ _ (pure (((sIx n 0 lo : Nat) : Int), (1 : Int), Builtin.Slice.slicePlaces ((sIx n 0 lo : Nat) : Int) ((sIx n n hi : Nat) : Int) 1)) _ _ s
 rw [xf]
 exact wpAny_pure h
theorem z8 (xs : Array Value) (i k : Nat) : ((List.range k).filterMap fun (m : Nat) => xs[((i : Int) + (m : Int) * 1).toNat]?).toArray = ((xs.toList.drop i).take k).toArray := by
 have e : (fun (m : Nat) => xs[((i : Int) + (m : Int) * 1).toNat]?) = fun m => xs[i + m]? := by
  funext m
  have : ((i : Int) + (m : Int) * 1).toNat = i + m := by lia
  rw [this]
 rw [e]
 have := pick_run xs i k
 rw [List.filterMap_map] at this
 have e2 : ((fun x => xs[x]?) ∘ fun x => i + x) = fun m => xs[i + m]? := rfl
 rw [e2] at this
 rw [this]
theorem lK {t sl : Addr} {items : Array Value} {vl vu : Value} {lo hi : Option Int} {Q : Value -> Shared -> Prop} (ht : IsTup s.heap t items) (hs : s.heap.IsSliceOf sl vl vu .none) (pl : IsPart vl lo) (pu : IsPart vu hi)
  (hw : ¬ (sIx items.size 0 lo = 0 /\ sIx items.size items.size hi = items.size))
  (h : Q (.ref s.heap.objs.size) { s with heap := s.heap.push { cls := .type "tuple", data := .seq ((items.toList.drop (sIx items.size 0 lo)).take (sIx items.size items.size hi - sIx items.size 0 lo)).toArray } })
  (hsz : items.size <= sizeLine) : wpAny (model prog w) A (getItem (.ref t) (.ref sl)) Q E s := by
 have htake : sizeOk (.seq ((items.toList.drop (sIx items.size 0 lo)).take (sIx items.size items.size hi - sIx items.size 0 lo)).toArray) := by
  show ((items.toList.drop (sIx items.size 0 lo)).take (sIx items.size items.size hi - sIx items.size 0 lo)).toArray.size <= sizeLine
  rw [List.size_toArray, List.length_take, List.length_drop, Array.length_toList]
  omega
 have hj : sIx items.size items.size hi <= items.size := D1 _ _ (Nat.le_refl _) hi
 obtain ⟨os, hos, hcs, hds⟩ := id hs
 have hTs : s.TypeIs (.ref sl) "slice" := ⟨os, hos, hcs⟩
 unfold getItem
 try with_reducible refine wpAny_holding ?_
 first | refine wpAny_bind (wpAny_pure ?_) | skip
 refine wpAny_bind (wpAny_sequenceKey ht.typeIs (by decide) ?_)
 refine wpAny_bind (wpAny_callSpecial?_slot (name := Str.ofString "__getitem__") ht.typeIs PyProof.Rows.slot_tuple_getitem
  (wpAny_call_entry PyProof.Rows.slot_tuple_getitem ht.typeIs entry_tuple_getitem ?_ (args_tuple_getitem _ _)))
 show wpAny _ _ (Builtin.Tuple.tupleItemsOf (.ref t) >>= _) _ _ s
 refine wpAny_bind (tupleItemsOf_ ht ?_)
 refine wpAny_bind (wpAny_typeOf hTs ?_)
 rw [if_pos (by decide)]
 refine wpAny_bind (hJ hs pl pu ?_)
 have hno : ¬ ((((sIx items.size 0 lo : Nat) : Int) == 0 && (1 : Int) == 1 && (sIx items.size items.size hi - sIx items.size 0 lo) == items.size) = true) := by
  intro q
  rw [Bool.and_eq_true, Bool.and_eq_true] at q
  have q1 : ((sIx items.size 0 lo : Nat) : Int) = 0 := eq_of_beq q.1.1
  have q2 : sIx items.size items.size hi - sIx items.size 0 lo = items.size := eq_of_beq q.2
  exact hw ⟨by omega, by omega⟩
 show wpAny _ _ (if (((sIx items.size 0 lo : Nat) : Int) == 0 && (1 : Int) == 1 && (sIx items.size items.size hi - sIx items.size 0 lo) == items.size) = true then _ else _) _ _ s
 rw [if_neg hno, z8]
 first
  | exact wpAny_bind (m := Builtin.Tuple.tupleExact _) (wpAny_newObj_type (wpAny_pure ⟨_, rfl, wpAny_pure h⟩) htake)
  | exact wpAny_bind (m := Builtin.Tuple.tupleExact _) (wpAny_newObj_type (wpAny_bind (wpAny_pure (wpAny_pure ⟨_, rfl, wpAny_pure h⟩))) htake)
  | exact wpAny_bind (wpAny_bind (m := Builtin.Tuple.tupleExact _) (wpAny_newObj_type (wpAny_pure (wpAny_pure ⟨_, rfl, wpAny_pure h⟩)) htake))
  | exact wpAny_bind (wpAny_bind (m := Builtin.Tuple.tupleExact _) (wpAny_newObj_type (wpAny_pure ⟨_, rfl, wpAny_pure h⟩) htake))
end
end HT
namespace L2
open PySem PySem.Spec PyProof.Rows
abbrev TO := St -> Hp -> (Option Int -> Hp -> Prop) -> Prop
def PO (X : Cx) (e : Option Expr) (t : TO) : Prop :=
 ∀ (pins : List (Addr × Obj)) (s : Shared) (σ : St) (H : Hp) (Q : Option Int -> Hp -> Prop), Inv X pins σ H s -> t σ H Q ->
  wpAny (model X.prog X.w) X.A (evalPart e X.env) (fun u s' => ∃ o H', Inv X pins σ H' s' /\ IsPart u o /\ Q o H') X.xe s
def xX : TO := fun _ H Q => Q none H
def C9 (t : TE) : TO := fun σ H Q => t σ H fun x H1 => ∃ i, x = .int i /\ Q (some i) H1
theorem pq {ns : List Int} : ∀ {us : List Value}, Vals (ns.map V.int) us -> IntsAre us ns := by
 induction ns with
 | nil => intro us r; rw [List.map_nil] at r; cases r; exact .nil
 | cons n ns ih =>
  intro us r
  rw [List.map_cons] at r
  cases r with
  | cons r1 r2 =>
   obtain ⟨t, e⟩ := r1
   subst e
   exact .cons n t (ih r2)
section
variable {X : Cx} {e : Expr} {te : TE} {lo hi : Option Expr} {tl th : TO} {pos p2 : Pos}
theorem xK : PO X none xX := by
 intro pins s σ H Q I h
 rw [evalPart_none]
 exact wpAny_pure ⟨none, H, I, .none, h⟩
theorem oI (h : PE X e te) : PO X (some e) (C9 te) := by
 intro pins s σ H Q I hw
 rw [evalPart_some]
 refine thn (h pins s σ H _ I hw) fun u s1 hpt9 => ?_
 obtain ⟨x, H1, I1, r1, q1⟩ := hpt9
 obtain ⟨i, rfl, q⟩ := q1
 obtain ⟨t, rfl⟩ := r1
 exact ⟨some i, H1, I1, .int i t, q⟩
def SlR (X : Cx) (r : V -> Option Int -> Option Int -> Hp -> VK -> Prop) : Prop :=
 ∀ (pins : List (Addr × Obj)) (s : Shared) (σ : St) (H : Hp) (x : V) (v vl vu : Value) (lo hi : Option Int) (sl : Addr) (Q : VK), Inv X pins σ H s -> RelV x v -> s.heap.IsSliceOf sl vl vu .none -> IsPart vl lo -> IsPart vu hi -> r x lo hi H Q ->
  ∃ T id, typeLookup (.type T) "__getitem__" = pure (some (.builtin id)) /\ s.TypeIs v T /\ wpAny (model X.prog X.w) X.A (getItem v (.ref sl)) (EP X pins σ Q) X.xe s
theorem SlR.or {r r' : V -> Option Int -> Option Int -> Hp -> VK -> Prop} (h : SlR X r) (h' : SlR X r') : SlR X (fun x lo hi H Q => r x lo hi H Q \/ r' x lo hi H Q) := by
 intro pins s σ H x v vl vu lo hi sl Q I rx hs pl pu q
 rcases q with q | q
 ·exact h pins s σ H x v vl vu lo hi sl Q I rx hs pl pu q
 ·exact h' pins s σ H x v vl vu lo hi sl Q I rx hs pl pu q
def tSl (r : V -> Option Int -> Option Int -> Hp -> VK -> Prop) (te : TE) (tl th : TO) : TE := fun σ H Q => te σ H fun x H1 => tl σ H1 fun l H2 => th σ H2 fun u H3 => r x l u H3 Q
theorem oY {r : V -> Option Int -> Option Int -> Hp -> VK -> Prop} (hr : SlR X r) (he : PE X e te) (hl : PO X lo tl) (hu : PO X hi th) : PE X (.Subscript e (.Slice lo hi none p2) pos) (tSl r te tl th) := by
 intro pins s σ H Q I h
 refine Subscript_ (thn (he pins s σ H _ I h) fun v s1 hpt9 => ?_)
 obtain ⟨x, H1, I1, r1, q1⟩ := hpt9
 refine wpAny_Slice (thn (hl pins s1 σ H1 _ I1 q1) fun vl s2 ⟨l, H2, I2, pl, q2⟩ => thn (hu pins s2 σ H2 _ I2 q2) fun vu s3 hpt9 => ?_)
 obtain ⟨u, H3, I3, pu, q3⟩ := hpt9
 rw [evalPart_none]
 refine wpAny_pure ?_
 have I4 : Inv X pins σ H3 { s3 with heap := s3.heap.push { cls := .type "slice", data := .fields #[vl, vu, .none] } } := I3.kept (t' := s3.toks) fun b ob q => Heap.get?_push_of_some _ q
 obtain ⟨T, id, hT, ht, hg⟩ := hr pins { s3 with heap := s3.heap.push { cls := .type "slice", data := .fields #[vl, vu, .none] } } σ H3 x v vl vu l u s3.heap.objs.size Q I4 r1 (Heap.IsSliceOf.new ..) pl pu q3
 show wpAny (model X.prog X.w) X.A (subscriptTail e (.Slice lo hi none p2) v (.ref s3.heap.objs.size)) (EP X pins σ Q) X.xe { s3 with heap := s3.heap.push { cls := .type "slice", data := .fields #[vl, vu, .none] } }
 exact tail_any (ops := [.ref s3.heap.objs.size, v]) ht hT hg (by with_unfolding_all rfl)
def kU (xs : List V) (lo hi : Option Int) : List V := (xs.drop (HT.sIx xs.length 0 lo)).take (HT.sIx xs.length xs.length hi - HT.sIx xs.length 0 lo)
theorem nQ (xs : List V) (lo hi : Option Int) : (kU xs lo hi).length <= xs.length := by
 unfold kU
 rw [List.length_take, List.length_drop]
 lia
def Hq (K : W.Frag) : V -> Option Int -> Option Int -> Hp -> VK -> Prop := fun x lo hi H Q => ∃ a xs, x = .ref a /\ SqT K H a xs /\
 ¬ (HT.sIx xs.length 0 lo = 0 /\ HT.sIx xs.length xs.length hi = xs.length) /\ ∀ p, H p = none -> Q (.ref p) (upd H p (.tup (kU xs lo hi)))
theorem DD : SlR X (Hq X.K) := by
 intro pins s σ H x v vl vu lo hi sl Q I rx hs pl pu h
 obtain ⟨a, xs, rfl, hx, hw, q⟩ := h
 cases rx
 obtain ⟨its, r, ht, hz⟩ := I.tuple hx
 have hlen : its.toArray.size = xs.length := by rw [List.size_toArray]; exact r.length.symm
 refine ⟨"tuple", _, PyProof.Rows.slot_tuple_getitem.lookup, ht.typeIs, ?_⟩
 refine HT.lK ht hs pl pu (by rw [hlen]; exact hw) ?_ (by rw [hlen]; exact hz)
 rw [hlen]
 refine ⟨.ref s.heap.objs.size, _, I.laid (t' := s.toks) (o := .tup (kU xs lo hi)) (fun b ob q => Heap.get?_push_of_some _ q) (Nat.le_refl _) ?_, rfl, q _ (I.hok.fresh (Nat.le_refl _))⟩
 exact ⟨Nat.le_trans (nQ xs lo hi) hz, _, (r.drop (HT.sIx xs.length 0 lo)).take (HT.sIx xs.length xs.length hi - HT.sIx xs.length 0 lo), IsTup.new _ _⟩
theorem Vals.nil_iff {xs : List V} {us : List Value} (r : Vals xs us) : us = [] ↔ xs = [] := by
 cases r with
 | nil => simp
 | cons _ _ => simp
end
def ixN (n : Nat) (i : Int) : Option Nat := if 0 <= i then (if i < n then some i.toNat else none) else if -(n : Int) <= i then some (i + n).toNat else none
def atI {α : Type} (xs : List α) (i : Int) : Option α := (ixN xs.length i).bind fun j => xs[j]?
theorem yz {n : Nat} {i : Int} {j : Nat} (h : ixN n i = some j) : seqIndex? i n = some j /\ j < n /\ -(n : Int) <= i /\ i < n := by
 unfold ixN at h
 by_cases h0 : 0 <= i
 ·rw [if_pos h0] at h
  by_cases h1 : i < n
  ·rw [if_pos h1] at h
   have e : i.toNat = j := Option.some.inj h
   exact ⟨by rw [seqIndex_of h0 h1, e], by lia, by lia, h1⟩
  ·rw [if_neg h1] at h; cases h
 ·rw [if_neg h0] at h
  by_cases h1 : -(n : Int) <= i
  ·rw [if_pos h1] at h
   have e : (i + n).toNat = j := Option.some.inj h
   exact ⟨by rw [seqIndex_neg (by lia) h1, e], by lia, h1, by lia⟩
  ·rw [if_neg h1] at h; cases h
theorem uu {α : Type} {xs : List α} {i : Int} {v : α} (h : atI xs i = some v) : ∃ j, seqIndex? i xs.length = some j /\ xs[j]? = some v /\ j < xs.length /\ -(xs.length : Int) <= i /\ i < xs.length := by
 unfold atI at h
 cases e : ixN xs.length i with
 | none => rw [e] at h; cases h
 | some j =>
  rw [e] at h
  obtain ⟨h1, h2, h3, h4⟩ := yz e
  exact ⟨j, h1, h, h2, h3, h4⟩
def yb (b : Expr) : Prop := ∀ o i, subscripted b false o i = operate [o, i] (getItem o i)
def IxR (X : Cx) (r : R2) : Prop :=
 ∀ (value slice : Expr) (pins : List (Addr × Obj)) (s : Shared) (σ : St) (H : Hp) (x y : V) (v u : Value) (Q : VK), Inv X pins σ H s -> RelV x v -> RelV y u -> r x y H Q ->
  subscripted slice false v u = operate [v, u] (getItem v u) -> wpAny (model X.prog X.w) X.A (subscriptTail value slice v u) (EP X pins σ Q) X.xe s
def MtR (X : Cx) (id : String) (r : V -> List V -> Hp -> VK -> Prop) : Prop :=
 ∀ (pins : List (Addr × Obj)) (s : Shared) (σ : St) (H : Hp) (x : V) (xs : List V) (v : Value) (us : List Value) (Q : VK), Inv X pins σ H s -> RelV x v -> Vals xs us -> r x xs H Q ->
  wpAny (model X.prog X.w) X.A (call (.builtin id) (v :: us)) (EP X pins σ Q) X.xe s
section
variable {X : Cx} {a b : Expr} {ta tb : TE} {pos : Pos}
theorem IxR.or {r r' : R2} (h : IxR X r) (h' : IxR X r') : IxR X (fun x y H Q => r x y H Q \/ r' x y H Q) := by
 intro value slice pins s σ H x y v u Q I rx ry q hs
 rcases q with q | q
 ·exact h value slice pins s σ H x y v u Q I rx ry q hs
 ·exact h' value slice pins s σ H x y v u Q I rx ry q hs
theorem Gj {r : R2} (hr : IxR X r) (ha : PE X a ta) (hb : PE X b tb) (hs : yb b) : PE X (.Subscript a b pos) (tOp r ta tb) := by
 intro pins s σ H Q I h
 exact Subscript_ (Ed ha hb I h fun v u s2 x y H2 I2 rx ry q => hr a b pins s2 σ H2 x y v u Q I2 rx ry q (hs _ _))
def FM (K : W.Frag) : R2 := fun x y H Q => ∃ p xs i v, x = .ref p /\ y = .int i /\ SqL K H p xs /\ atI xs i = some v /\ Q v H
def FF (K : W.Frag) : R2 := fun x y H Q => ∃ p xs i v, x = .ref p /\ y = .int i /\ SqT K H p xs /\ atI xs i = some v /\ Q v H
def FC : R2 := fun x y H Q => ∃ z i c, x = .str z /\ y = .int i /\ z.length <= sizeLine /\ atI z.cps.toList i = some c /\ Q (.str ⟨#[c]⟩) H
theorem ix_list : IxR X (FM X.K) := by
 intro value slice pins s σ H x y v u Q I rx ry h hs
 obtain ⟨p, xs, i, z, rfl, rfl, hq, he, q⟩ := h
 cases rx
 obtain ⟨t, rfl⟩ := ry
 obtain ⟨its, r, pl, hz⟩ := I.list hq
 obtain ⟨j, h1, h2, h3, h4, h5⟩ := uu he
 obtain ⟨w, ew, rw'⟩ := r.get h2
 have hl := r.length
 have hn := mK
 have fin : EP X pins σ Q w s := ⟨z, H, I, rw', q⟩
 by_cases h0 : 0 <= i
 ·have hj : i.toNat = j := by
   rw [seqIndex_of h0 h5] at h1
   exact Option.some.inj h1
  exact item_listR pl.isList h0 (by lia) (by rw [hj]; simpa using ew) fin hs
 ·have hj : (i + (its.toArray.size : Int)).toNat = j := by
   rw [seqIndex_neg (by lia) h4] at h1
   rw [List.size_toArray, <- hl]
   exact Option.some.inj h1
  exact subscriptTail_builtinR (x := w) pl.isList.typeIs slot_list_getitem.lookup
   (wpAny_getItem_list_neg (Q := fun r s' => r = w /\ EP X pins σ Q r s') pl.isList (by lia) (by rw [List.size_toArray] <;> lia) (by lia) (by rw [hj]; simpa using ew) ⟨rfl, fin⟩) hs
theorem ix_tup : IxR X (FF X.K) := by
 intro value slice pins s σ H x y v u Q I rx ry h hs
 obtain ⟨p, xs, i, z, rfl, rfl, hq, he, q⟩ := h
 cases rx
 obtain ⟨t, rfl⟩ := ry
 obtain ⟨its, r, pl, hz⟩ := I.tuple hq
 obtain ⟨j, h1, h2, h3, h4, h5⟩ := uu he
 obtain ⟨w, ew, rw'⟩ := r.get h2
 have hl := r.length
 have hn := mK
 have fin : EP X pins σ Q w s := ⟨z, H, I, rw', q⟩
 exact subscriptTail_builtinR (x := w) pl.typeIs slot_tuple_getitem.lookup
  (getItem_tuple (j := j) (Q := fun r s' => r = w /\ EP X pins σ Q r s') pl (by lia) (by lia) (by rw [List.size_toArray, <- hl]; exact h1) (by simpa using ew) ⟨rfl, fin⟩) hs
theorem DA : IxR X FC := by
 intro value slice pins s σ H x y v u Q I rx ry h hs
 obtain ⟨z, i, c, rfl, rfl, hz, he, q⟩ := h
 obtain ⟨t, rfl⟩ := rx
 obtain ⟨t', rfl⟩ := ry
 obtain ⟨j, h1, h2, h3, h4, h5⟩ := uu he
 have hl : z.cps.toList.length = z.length := by simp [Str.length]
 rw [hl] at h1 h4 h5
 have hn := mK
 exact tail_any (typeIs_str s z t) slot_str_getitem.lookup (getItem_str (c := c) (by
  have e1 : decide (i < -(2 ^ 63 : Int)) = false := decide_eq_false (by lia)
  have e2 : decide (i ≥ 2 ^ 63) = false := decide_eq_false (by lia)
  rw [e1, e2, Bool.or_false]) (by rw [h1]; simpa using h2) ⟨.str ⟨#[c]⟩, H, I.tok _, ⟨_, rfl⟩, q⟩) hs
def rIx (K : W.Frag) : R2 := fun x y H Q => FM K x y H Q \/ FF K x y H Q \/ FC x y H Q
theorem EB : IxR X (rIx X.K) := ix_list.or (ix_tup.or DA)
theorem wg (its : List Value) (n j : Nat) (u : Value) : Obj.mapSeq (·.setIfInBounds j u) { cls := .type "list", data := .seq its.toArray n } = { cls := .type "list", data := .seq (its.set j u).toArray n } := by
 simp [Obj.mapSeq]
theorem Inv.lst {pins : List (Addr × Obj)} {σ : St} {H : Hp} {s : Shared} {p : Addr} {xs : List V} (I : Inv X pins σ H s) (h : H p = some (.lst xs)) :
  ∃ (its : List Value) (n : Nat), Vals xs its /\ s.heap.get? p = some { cls := .type "list", data := .seq its.toArray n } /\ xs.length <= sizeLine := by
 obtain ⟨z, its, n, r, e⟩ := I.hok p _ h
 exact ⟨its, n, r, e, z⟩
theorem Inv.lstUpd {pins : List (Addr × Obj)} {σ : St} {H : Hp} {s : Shared} {p : Addr} {xs ys : List V} {its its' : List Value} {n n' : Nat} {f : Obj -> Obj} (I : Inv X pins σ H s) (h : H p = some (.lst xs))
  (ho : s.heap.get? p = some { cls := .type "list", data := .seq its.toArray n }) (hf : f { cls := .type "list", data := .seq its.toArray n } = { cls := .type "list", data := .seq its'.toArray n' }) (r : Vals ys its') (hz : ys.length <= sizeLine) (t : Nat) :
  Inv X pins σ (upd H p (.lst ys)) { s with heap := s.heap.update p f, toks := t } := by
 have e : (s.heap.update p f).get? p = some { cls := .type "list", data := .seq its'.toArray n' } := by
  rw [Heap.get?_update_self f ho (by rw [hf] <;> rfl), hf]
 refine I.write (x := p) (e := p) (by rw [h]; trivial) (.inl rfl) (fun b u hb q => (Heap.get?_update_other _ _ (Ne.symm hb)).trans q) ⟨_, e⟩ ?_
 exact ⟨hz, its', n', r, e⟩
def Dh : V -> V -> V -> Hp -> (Hp -> Prop) -> Prop := fun o i v H Q => ∃ p xs k j, o = .ref p /\ i = .int k /\ H p = some (.lst xs) /\ ixN xs.length k = some j /\ Q (upd H p (.lst (xs.set j v)))
theorem jv : Fk X Dh := by
 intro pins s σ H o i v ov iv u Q I ro ri rv h
 obtain ⟨p, xs, k, j, rfl, rfl, hp, hj, q⟩ := h
 cases ro
 obtain ⟨t, rfl⟩ := ri
 obtain ⟨its, n, r, ho, hz⟩ := I.lst hp
 obtain ⟨h1, h2, h3, h4⟩ := yz hj
 have hl := r.length
 have hn := mK
 have I' : Inv X pins σ (upd H p (.lst (xs.set j v))) { s with heap := s.heap.update p (Obj.mapSeq (·.setIfInBounds j u)) } :=
  I.lstUpd hp ho (wg its n j u) (r.set rv j) (by rw [List.length_set]; exact hz) s.toks
 by_cases h0 : 0 <= k
 ·have hk : k.toNat = j := by
   rw [seqIndex_of h0 h4] at h1
   exact Option.some.inj h1
  exact W.ki_setAt ho h0 (by lia) (by rw [List.size_toArray, <- hl]; exact h4) (by rw [hk]; exact ⟨_, I', q⟩)
 ·have hk : (k + (its.toArray.size : Int)).toNat = j := by
   rw [seqIndex_neg (by lia) h3] at h1
   rw [List.size_toArray, <- hl]
   exact Option.some.inj h1
  exact W.ki_setBack ho (by lia) (by rw [List.size_toArray, <- hl]; exact h3) (by lia) (by rw [hk]; exact ⟨_, I', q⟩)
theorem tP (lo hi : Option Int) (n : Nat) : (sliceBounds lo hi none n).1 = ((HT.sIx n 0 lo : Nat) : Int) /\ (sliceBounds lo hi none n).2.1 = ((HT.sIx n n hi : Nat) : Int) /\ (sliceBounds lo hi none n).2.2 = 1 := by
 refine ⟨?_, ?_, rfl⟩
 ·cases lo with
  | none => simp [sliceBounds, HT.sIx]
  | some i =>
   simp only [sliceBounds, HT.sIx, Option.getD_none, show (1 : Int) > 0 by decide, if_true]
   by_cases h : i < 0
   ·simp only [h, if_true] <;> lia
   ·simp only [h, if_false] <;> lia
 ·cases hi with
  | none => simp [sliceBounds, HT.sIx]
  | some i =>
   simp only [sliceBounds, HT.sIx, Option.getD_none, show (1 : Int) > 0 by decide, if_true]
   by_cases h : i < 0
   ·simp only [h, if_true] <;> lia
   ·simp only [h, if_false] <;> lia
theorem rA (its : List Value) (lo hi : Option Int) : slicePick its.toArray lo hi none = ((its.drop (HT.sIx its.length 0 lo)).take (HT.sIx its.length its.length hi - HT.sIx its.length 0 lo)).toArray := by
 obtain ⟨h1, h2, h3⟩ := tP lo hi its.toArray.size
 unfold slicePick
 rw [h1, h2, h3]
 simp only [sliceRange_one, pick_run, List.size_toArray] <;> rfl
def Fp (K : W.Frag) : V -> Option Int -> Option Int -> Hp -> VK -> Prop := fun x lo hi H Q => ∃ a xs, x = .ref a /\ SqL K H a xs /\ ∀ p, H p = none -> Q (.ref p) (upd H p (.lst (kU xs lo hi)))
theorem BW : SlR X (Fp X.K) := by
 intro pins s σ H x v vl vu lo hi sl Q I rx hs pl pu h
 obtain ⟨a, xs, rfl, hx, q⟩ := h
 cases rx
 obtain ⟨its, r, ht, hz⟩ := I.list hx
 have hlen := r.length
 refine ⟨"list", _, slot_list_getitem.lookup, ht.isList.typeIs, ?_⟩
 refine wpAny_getItem_list_slice ht.isList hs pl pu .none (by simp) ?_ (by rw [List.size_toArray] <;> lia)
 rw [rA, <- hlen]
 refine ⟨.ref s.heap.objs.size, _, I.laid (t' := s.toks) (o := .lst (kU xs lo hi)) (fun b ob q => Heap.get?_push_of_some _ q) (Nat.le_refl _) ?_, rfl, q _ (I.hok.fresh (Nat.le_refl _))⟩
 exact ⟨Nat.le_trans (nQ xs lo hi) hz, _, 0, (r.drop (HT.sIx xs.length 0 lo)).take (HT.sIx xs.length xs.length hi - HT.sIx xs.length 0 lo), Heap.get?_push_size _ rfl⟩
def lY : V -> Bool
 | .non => true
 | .bl _ => true
 | .int _ => true
 | .str _ => true
 | _ => false
def eqV : V -> V -> Bool
 | .non, .non => true
 | .bl a, .bl b => a == b
 | .bl a, .int b => (if a then 1 else 0) == b
 | .int a, .bl b => a == (if b then 1 else 0)
 | .int a, .int b => a == b
 | .str a, .str b => a == b
 | _, _ => false
theorem EU {A : Around} {s : Shared} {y x : V} {u v : Value} (ry : RelV y u) (rx : RelV x v) (fy : lY y = true) (fx : lY x = true) : SeqAt.EqAt A s u v (eqV y x) := by
 cases y with
 | non =>
  cases ry
  cases x with
  | non => cases rx; exact SeqAt.EqAt.same _
  | bl b => cases rx; exact SeqAt.EqAt.none_bool b
  | int b => obtain ⟨t, rfl⟩ := rx; exact SeqAt.EqAt.none_int b t
  | str b => obtain ⟨t, rfl⟩ := rx; exact SeqAt.EqAt.none_str b t
  | _ => exact absurd (show false = true from fx) Bool.false_ne_true
 | bl a =>
  cases ry
  cases x with
  | non => cases rx; exact SeqAt.EqAt.bool_none a
  | bl b => cases rx; exact SeqAt.EqAt.bool_bool a b
  | int b => obtain ⟨t, rfl⟩ := rx; exact SeqAt.EqAt.bool_int a b t
  | str b => obtain ⟨t, rfl⟩ := rx; exact SeqAt.EqAt.bool_str a b t
  | _ => exact absurd (show false = true from fx) Bool.false_ne_true
 | int a =>
  obtain ⟨t', rfl⟩ := ry
  cases x with
  | non => cases rx; exact SeqAt.EqAt.int_none a t'
  | bl b => cases rx; exact SeqAt.EqAt.int_bool a t' b
  | int b => obtain ⟨t, rfl⟩ := rx; exact SeqAt.EqAt.int_int a t' b t
  | str b => obtain ⟨t, rfl⟩ := rx; exact SeqAt.EqAt.int_str a t' b t
  | _ => exact absurd (show false = true from fx) Bool.false_ne_true
 | str a =>
  obtain ⟨t', rfl⟩ := ry
  cases x with
  | non => cases rx; exact SeqAt.EqAt.str_none a t'
  | bl b => cases rx; exact SeqAt.EqAt.str_bool a t' b
  | int b => obtain ⟨t, rfl⟩ := rx; exact SeqAt.EqAt.str_int a t' b t
  | str b => obtain ⟨t, rfl⟩ := rx; exact SeqAt.EqAt.str_str a t' b t
  | _ => exact absurd (show false = true from fx) Bool.false_ne_true
 | _ => exact absurd (show false = true from fy) Bool.false_ne_true
def eqU (x : V) (u : Value) : Bool := match u with
 | .none => eqV .non x
 | .bool b => eqV (.bl b) x
 | .int i _ => eqV (.int i) x
 | .str z _ => eqV (.str z) x
 | _ => false
theorem Bk {x y : V} {u : Value} (r : RelV y u) (f : lY y = true) : eqU x u = eqV y x := by
 cases y with
 | non => cases r; rfl
 | bl b => cases r; rfl
 | int i => obtain ⟨t, rfl⟩ := r; rfl
 | str z => obtain ⟨t, rfl⟩ := r; rfl
 | _ => exact absurd (show false = true from f) Bool.false_ne_true
theorem tN {x : V} : ∀ {xs : List V} {us : List Value}, Vals xs us -> xs.all lY = true -> us.any (eqU x) = xs.any fun y => eqV y x
 | _, _, .nil, _ => rfl
 | y :: xs, u :: us, .cons r t, f => by
  rw [List.all_cons, Bool.and_eq_true] at f
  rw [List.any_cons, List.any_cons, Bk r f.1, tN t f.2]
theorem p6 {A : Around} {s : Shared} {x : V} {v : Value} (rx : RelV x v) (fx : lY x = true) : ∀ {xs : List V} {us : List Value}, Vals xs us -> xs.all lY = true -> ∀ u ∈ us, SeqAt.EqAt A s u v (eqU x u)
 | _, _, .nil, _ => fun u hu => by cases hu
 | y :: xs, u :: us, .cons r t, f => fun u' hu => by
  rw [List.all_cons, Bool.and_eq_true] at f
  rcases List.mem_cons.mp hu with rfl | hu
  ·rw [Bk r f.1]; exact EU r rx f.1 fx
  ·exact p6 rx fx t f.2 u' hu
def inV (x : V) (xs : List V) : Bool := xs.any fun y => eqV y x
def rIn (K : W.Frag) (neg : Bool) : R2 := fun x y H Q => ∃ p xs, y = .ref p /\ (SqL K H p xs \/ SqT K H p xs) /\ lY x = true /\ xs.all lY = true /\ Q (.bl (if neg then !inV x xs else inV x xs)) H
theorem zf : OpR X (compareOp .In) (rIn X.K false) := by
 intro pins s σ H x y v u Q I rx ry h
 obtain ⟨p, xs, rfl, hq, fx, fs, q⟩ := h
 cases ry
 rcases hq with hq | hq
 ·obtain ⟨its, r, pl, hz⟩ := I.list hq
  refine SeqAt.in_listAt (eqU x) pl.isList (fun w hw => p6 rx fx r fs w (by simpa using hw)) ⟨.bl _, H, I, rfl, ?_⟩
  rw [show its.toArray.any (eqU x) = its.any (eqU x) by simp, tN r fs]
  exact q
 ·obtain ⟨its, r, pl, hz⟩ := I.tuple hq
  refine SeqAt.in_tupleAt (eqU x) pl (fun w hw => p6 rx fx r fs w (by simpa using hw)) ⟨.bl _, H, I, rfl, ?_⟩
  rw [show its.toArray.any (eqU x) = its.any (eqU x) by simp, tN r fs]
  exact q
theorem CallR.or {f : Value} {r r' : List V -> Hp -> VK -> Prop} (h : CallR X f r) (h' : CallR X f r') : CallR X f (fun xs H Q => r xs H Q \/ r' xs H Q) := by
 intro pins s σ H xs us Q I rs q
 rcases q with q | q
 ·exact h pins s σ H xs us Q I rs q
 ·exact h' pins s σ H xs us Q I rs q
theorem bB : CallR X (.type "tuple") (fun xs H Q => ∃ p ys, xs = [.ref p] /\ ((SqL X.K H p ys /\ ∀ l, H l = none -> Q (.ref l) (upd H l (.tup ys))) \/ (SqT X.K H p ys /\ Q (.ref p) H))) := by
 intro pins s σ H xs us Q I r h
 obtain ⟨p, ys, rfl, h⟩ := h
 obtain ⟨u, rfl, rx⟩ := yn r
 cases rx
 rcases h with ⟨hq, q⟩ | ⟨hq, q⟩
 ·obtain ⟨its, r', pl, hz⟩ := I.list hq
  have hlen := r'.length
  refine call_tuple_list pl.isList (fun h' kp => ?_) (by simp only [List.size_toArray] <;> lia)
  have I1 : Inv X pins σ H { s with heap := h' } := I.kept (t' := s.toks) kp
  have I2 : Inv X pins σ (upd H h'.objs.size (.tup ys)) { s with heap := h'.push { cls := .type "tuple", data := .seq its.toArray } } :=
   I1.laid (t' := s.toks) (fun b o e => Heap.get?_push_of_some _ e) (Nat.le_refl _) (show ObjOk X.prog X.w _ _ _ (.tup ys) from ⟨hz, its, r', IsTup.new _ _⟩)
  exact ⟨.ref h'.objs.size, _, I2, rfl, q _ (I1.hok.fresh (Nat.le_refl _))⟩
 ·obtain ⟨its, r', pl, hz⟩ := I.tuple hq
  exact call_tuple_same pl ⟨.ref p, H, I, rfl, q⟩
def tyV (K : W.Frag) (T : String) (x : V) (H : Hp) : Prop := match x with
 | .str _ => T = "str"
 | .int _ => T = "int"
 | .ref p => (T = "list" /\ ∃ xs, SqL K H p xs) \/ (T = "tuple" /\ ∃ o, K.lookup p = some o /\ o.cls = .type "tuple" /\ o.dict = none) \/
   (T = "dict" /\ ((∃ kvs, H p = some (.dK kvs)) \/ ∃ kvs, H p = some (.dT kvs))) \/ (T = "set" /\ ∃ S n, H p = some (.set S n))
 | _ => False
theorem DE {pins : List (Addr × Obj)} {σ : St} {H : Hp} {s : Shared} {T : String} {x : V} {v : Value} (I : Inv X pins σ H s) (r : RelV x v) (ty : tyV X.K T x H) :
  s.TypeIs v T /\ ∀ a, v = .ref a -> ∃ ob, s.heap.get? a = some ob /\ ob.dict = none := by
 cases x with
 | str z =>
  obtain ⟨t, rfl⟩ := r
  cases (show T = "str" from ty)
  exact ⟨typeIs_str s z t, fun _ e => nomatch e⟩
 | int i =>
  obtain ⟨t, rfl⟩ := r
  cases (show T = "int" from ty)
  exact ⟨typeIs_int s i t, fun _ e => nomatch e⟩
 | ref p =>
  cases r
  rcases ty with ⟨rfl, xs, hq⟩ | ⟨rfl, o, hk, hc, hd⟩ | ⟨rfl, hk⟩ | ⟨rfl, S, n, hk⟩
  ·obtain ⟨its, _, pl, _⟩ := I.list hq
   refine ⟨pl.isList.typeIs, fun a e => ?_⟩
   cases e
   obtain ⟨o, n, e, c, hd, _⟩ := pl
   exact ⟨o, e, hd⟩
  ·refine ⟨⟨o, I.kIn p o hk, hc⟩, fun a e => ?_⟩
   cases e
   exact ⟨o, I.kIn _ o hk, hd⟩
  ·have z : ∃ o, s.heap.get? p = some o /\ o.ExactDict := by
    rcases hk with ⟨kvs, hk⟩ | ⟨kvs, hk⟩
    ·obtain ⟨_, _, _, _, o, _, _, e, ex, _⟩ := I.hok p _ hk
     exact ⟨o, e, ex⟩
    ·obtain ⟨_, _, _, _, o, _, _, e, ex, _⟩ := I.hok p _ hk
     exact ⟨o, e, ex⟩
   obtain ⟨o, e, ex⟩ := z
   refine ⟨⟨o, e, ex.1⟩, fun a e2 => ?_⟩
   cases e2
   exact ⟨o, e, ex.2.1⟩
  ·obtain ⟨o, _, _, _, e, ex, _⟩ := I.hok p _ hk
   refine ⟨⟨o, e, ex.1⟩, fun a e2 => ?_⟩
   cases e2
   exact ⟨o, e, ex.2.1⟩
 | _ => exact False.elim ty
def tBM (K : W.Frag) (T : String) (r : V -> List V -> Hp -> VK -> Prop) (to : TE) (t : TA) : TE := fun σ H Q => to σ H fun x H1 => tyV K T x H1 /\ t σ H1 fun xs H2 => r x xs H2 Q
variable {o e : Expr} {es : List Expr} {to : TE} {t : TA} {name : Str} {apos cpos : Pos} {T id : String} {r : V -> List V -> Hp -> VK -> Prop}
theorem e8 (pa : PlainAttrs T) (slot : Slot T name id) (hty : typeOf (.builtin id) = pure (.type "method_descriptor")) (hm : MtR X id r) (ho : PE X o to) (ha : PA X (e :: es) t)
  (hbase : attributeBase o name X.env (eval o X.env) = eval o X.env := by rfl)
  (hfew : ((backTo cpos (starEach (e :: es) X.env)).all (fun x => !x.1) && (backToKw cpos (keywordEach [] X.env)).all (fun x => x.1.isSome)
   && decide ((e :: es).length + ([] : List Keyword).length + (if ([] : List Keyword).isEmpty then 0 else 1) < 30)) = true := by rfl)
  (hline : (apos.endLine == cpos.line) = true := by rfl) (hs : starEach (e :: es) X.env = (false, eval e X.env) :: starEach es X.env := by rfl) (hplain : (backTo cpos (starEach es X.env)).any (·.1) = false := by rfl) :
  PE X (.Call (.Attribute o name apos) (e :: es) [] cpos) (tBM X.K T r to t) := by
 intro pins s σ H Q I h
 refine wpAny_Call_method_late hbase hfew hline rfl (thn (ho pins s σ H _ I h) fun v s1 hpt9 => ?_)
 obtain ⟨x, H1, I1, r1, ty, q1⟩ := hpt9
 obtain ⟨h1, h2⟩ := DE I1 r1 ty
 refine ⟨T, id, pa, slot, hty, h1, h2, ?_⟩
 have hA := ha cpos pins s1 σ H1 _ I1 q1
 rw [hs] at hA ⊢
 refine Calls.callWith_builtin (by show (false || (backTo cpos (starEach es X.env)).any (·.1)) = false; rw [hplain] <;> rfl) (Calls.evalArgs_plain ?_)
 exact thn hA fun us s2 ⟨vs, H2, I2, r2, q2⟩ => hm pins s2 σ H2 x vs v us Q I2 r1 r2 q2
end
def MtM (X : Cx) (id : String) (r : V -> List V -> Hp -> VK -> Prop) : Prop :=
 ∀ (pins : List (Addr × Obj)) (s : Shared) (σ : St) (H : Hp) (x : V) (xs : List V) (v : Value) (us : List Value) (Q : VK), Inv X pins σ H s -> RelV x v -> Vals xs us -> r x xs H Q ->
  wpAny (model X.prog X.w) X.A (call (.builtin id) (v :: us)) (EP X pins σ Q) X.xe s
theorem Vals.one {x : V} {us : List Value} (h : Vals [x] us) : ∃ u, us = [u] /\ RelV x u := by
 cases h with
 | cons r t => cases t; exact ⟨_, rfl, r⟩
theorem Vals.two {x y : V} {us : List Value} (h : Vals [x, y] us) : ∃ u v, us = [u, v] /\ RelV x u /\ RelV y v := by
 cases h with
 | cons r t =>
  cases t with
  | cons q t => cases t; exact ⟨_, _, rfl, r, q⟩
section
variable {X : Cx} {pins : List (Addr × Obj)} {σ : St} {H : Hp} {s : Shared} {l b : Addr} {xs ys zs : List V}
theorem Inv.lset {its its' : List Value} {n : Nat} {f : Array Value -> Array Value} {t' : Nat} (I : Inv X pins σ H s) (hH : H l = some (.lst xs))
  (e : s.heap.get? l = some { cls := .type "list", data := .seq its.toArray n }) (hf : f its.toArray = its'.toArray) (hv : Vals ys its') (hz : ys.length <= sizeLine) :
  Inv X pins σ (upd H l (.lst ys)) { s with heap := s.heap.update l (Obj.mapSeq f), toks := t' } := by
 have q := PySem.IsL.update e f
 rw [hf] at q
 refine I.write (x := l) (e := l) (by rw [hH]; exact trivial) (.inl rfl) (fun b' u hb hu => (Heap.get?_update_other s.heap (Obj.mapSeq f) (Ne.symm hb)).trans hu) ⟨_, q⟩ ?_
 exact ⟨hz, its', _, hv, q⟩
theorem Inv.lnew {its : List Value} {t' : Nat} (I : Inv X pins σ H s) (hv : Vals ys its) (hz : ys.length <= sizeLine) :
  Inv X pins σ (upd H s.heap.objs.size (.lst ys)) { s with heap := s.heap.push { cls := .type "list", data := .seq its.toArray }, toks := t' } :=
 I.laid (fun _ _ q => Heap.get?_push_of_some _ q) (Nat.le_refl _) ⟨hz, its, 0, hv, Heap.get?_push_size _ rfl⟩
theorem Inv.fresh (I : Inv X pins σ H s) : H s.heap.objs.size = none := I.hok.fresh (Nat.le_refl _)
theorem Inv.lstM (I : Inv X pins σ H s) (hH : H l = some (.lst xs)) : xs.length <= sizeLine /\ ∃ (its : List Value) (n : Nat), Vals xs its /\ xs.length = its.length /\ s.heap.get? l = some { cls := .type "list", data := .seq its.toArray n } := by
 obtain ⟨z, its, n, r, e⟩ := I.hok l _ hH
 exact ⟨z, its, n, r, r.length, e⟩
theorem zT {n : Nat} (h : n <= sizeLine) : Builtin.List.listTooLong n = false := by
 unfold Builtin.List.listTooLong
 exact decide_eq_false (by lia)
end
section
variable {X : Cx}
def rAppend : V -> List V -> Hp -> VK -> Prop := fun x vs H Q => ∃ l xs y, x = .ref l /\ vs = [y] /\ H l = some (.lst xs) /\ xs.length < sizeLine /\ Q .non (upd H l (.lst (xs ++ [y])))
theorem br : MtM X "list.append" rAppend := by
 intro pins s σ H x vs v us Q I rx rv h
 obtain ⟨l, xs, y, rfl, rfl, hH, hz, q⟩ := h
 cases rx
 obtain ⟨u, rfl, ru⟩ := rv.one
 obtain ⟨z, its, n, r, hl, e⟩ := I.lstM hH
 refine call_meets F.slot_list_append ⟨_, e, rfl⟩ F.entry_list_append (F.args_list_append_2 _ _) (PySem.list_append l its.toArray n u (by rw [List.size_toArray]; lia)) ⟨e, ?_⟩
 refine ⟨.non, _, I.lset (its' := its ++ [u]) hH e (by simp) (r.append (.cons ru .nil)) ?_, rfl, q⟩
 rw [List.length_append, List.length_singleton]
 lia
end
section
variable {prog : Program} {w : World} {A : Around} {E : Value -> Shared -> Prop} {s : Shared}
end
section
variable {X : Cx}
end
end L2
namespace Att
open PySem PySem.W PySem.Calls PyProof.Rows
theorem oo {P : Params} {h : Heap} : ∀ (ns : List Int) (vs : List Value), WellAll P h vs (ns.map WData.int) -> IntsAre vs ns := by
 intro ns
 induction ns with
 | nil =>
  intro vs w
  rw [List.map_nil] at w
  cases w
  exact .nil
 | cons n ns ih =>
  intro vs w
  rw [List.map_cons] at w
  cases w with
  | cons a b =>
   cases a
   exact .cons _ _ (ih _ b)
theorem zk {l : OpenLaw} {n : Nat} (hn : l.most = some n) {P : Params} {h : Heap} {args : List WData} {vals : List Value}
  (hpre : l.row.toRowW.claim.pre args = true) (hwl : WellAll P h vals args) :
  ∃ a vs ns, vals = [Value.ref a] /\ args = [WData.list (ns.map WData.int)] /\ h.get? a = some { cls := .type "list", data := .seq vs.toArray } /\ IntsAre vs ns /\ ns.length <= n := by
 have hsh : WShape.hasAll [] args [.list .int] = true := (pre_splitW hpre).1
 have hc : l.pre.holds [] { args := args } = true := (pre_splitW hpre).2
 obtain ⟨d, r, rfl, h1, h2⟩ := hasAllW_cons hsh
 obtain rfl := hasAllW_nil h2
 obtain ⟨xs, rfl, h3⟩ := hasW_list h1
 obtain ⟨ns, rfl⟩ := items_int h3
 have hlen : ns.length <= n := by
  unfold OpenLaw.pre at hc
  have h4 : (WTm.not (.lt (.lit (.int (n : Int))) (.len (.arg 0)))).holds [] { args := [.list (ns.map .int)] } = true := by
   have h4 := (holds_andW hc).1
   rw [hn] at h4
   exact h4
  have h5 := condW_of h4 (w_not (w_lt w_lit (w_len_list (w_arg rfl))))
  rw [List.length_map] at h5
  refine Nat.le_of_not_lt fun q => ?_
  have q' : (n : Int) < ((ns.length : Nat) : Int) := by omega
  first
   | (rw [decide_eq_true q'] at h5; exact absurd h5 (by decide))
   | (simp at h5; omega)
 cases hwl with
 | cons w1 w2 =>
  cases w2
  cases w1 with
  | list ho hall => exact ⟨_, _, ns, rfl, rfl, ho, oo ns _ hall, hlen⟩
theorem zi (l : OpenLaw) (args : List WData) : l.row.toRowW.claim.post args (.bool true) args = true :=
 postW_of (r := l.row.toRowW) (X := (true == true))
  (show WShape.has [] (.bool true) .bool = true by first | rfl | decide | simp [WShape.has, WShape.arms, WShape.armsAll])
  (show (WTm.eq .res (.lit (.bool true))).value [] { args := args, res := some (.bool true), after := args } = some (.bool (true == true)) from w_eq_bool (w_res rfl) w_lit) rfl
theorem vU {l : OpenLaw} {n : Nat} {q : Program} {loose : List Str} {XP : (Str -> Option Value) -> Heap -> Prop} {YP : World -> Heap -> Prop} {d : DefRec}
  (hn : l.most = some n) (hdf : d.params.defaults = [])
  (call : ∀ (w : World) (s₀ s₁ : Shared) (mg mb : Str -> Option Value) (fa : Addr) (o : Obj) (pm cd doc : Value) (a : Addr) (vs : List Value) (ns : List Int),
   Ground q loose [] XP w s₀ mg mb s₁.heap -> YP w s₁.heap ->
   s₁.heap.get? fa = some o -> o.data = .func (docDef d.name d.params d.body d.scope pm cd doc) -> s₁.heap.CodeRec cd d.name -> mg d.name = some (.ref fa) ->
   s₁.heap.get? a = some { cls := .type "list", data := .seq vs.toArray } -> IntsAre vs ns -> ns.length <= n -> s₁.gens = #[] ->
   codeAny (model l.prog w) callerA (.call (.ref fa) ⟨[.ref a], []⟩) (fun r s' => r = .ok (.ret (.bool true)) /\ OldK s₁.heap s'.heap /\ s'.os = s₁.os /\ AllBare s'.gens) s₁) :
  WalkO q loose XP YP l.row.toRowW d [] (fun f vs => PySem.call f vs) := by
 intro w s₀ s₁ mg mb G Y fa o pm cd doc dV kV ho hd hcd hD hmg hg args vals as hpre hlay hrd hwl hlo
 obtain rfl : dV = .none := Dflts.none hD hdf
 obtain rfl : kV = .none := Dflts.noKw hD
 obtain ⟨a, vs, ns, rfl, rfl, hobj, hints, hlen⟩ := zk hn hpre hwl
 refine enter_call (codeAny_mono (call w s₀ s₁ mg mb fa o pm cd doc a vs ns G Y ho (fd_plain hd) hcd hmg hobj hints hlen hg) fun r s' hq => ?_)
 obtain ⟨rfl, h2, h3, h4⟩ := hq
 exact ⟨.inl ⟨.bool true, .bool true, [], rfl, fun _ => rfl, .bool true, zi l _, fun _ => ⟨List.Pairwise.nil, fun _ hm => (nomatch hm)⟩⟩, h2, h3, h4⟩
section
variable {prog : Program} {w : World} {A : Around} {E : Value -> Shared -> Prop} {s : Shared} {K : Frag}
end
end Att
namespace L2
open PySem PySem.Spec PyProof.Rows
theorem sV : ∀ {vs : List Value} {ns : List Int}, IntsAre vs ns -> Vals (ns.map V.int) vs
 | _, _, .nil => .nil
 | _, _, .cons n t h => .cons ⟨t, rfl⟩ (sV h)
def ED (H : Hp) : Prop := ∀ b, H b = none \/ ∃ o xs, H b = some (.frz o (.lst xs))
theorem zW {P : Program} {w : World} {K : W.Frag} {mg mb : Str -> Option Value} {CX : CXT} {k : Nat} {fa a : Addr} {fd : FuncData} {x : Str} {sp : Sp} {s₁ : Shared} {vs : List Value} {ns : List Int}
  (KX : K.In s₁.heap) (hns : s₁.heap.Ns mainGlobals mg) (hb : s₁.heap.Ns builtinsNs mb) (hbb : ∀ x : Str, x ≠ "__name__" -> mb x = bootBuiltins x) (hlim : s₁.heap.NoLimit) (hg : s₁.gens = #[])
  (ha : s₁.heap.get? a = some { cls := .type "list", data := .seq vs.toArray }) (hi : IntsAre vs ns) (hl : ns.length <= sizeLine) (hr : Room k callerA)
  (F : ∀ base : Heap, K.In base -> base.Ns mainGlobals mg -> FnOk P w K mg base CX k fa fd [x] sp) (hbind : ∀ (s : Shared) (u : Value), BindsTo s fd ⟨[u], []⟩ [(x, u)])
  (hsp : ∀ H : Hp, ED H -> SqL K H a (ns.map V.int) -> sp [.ref a] H (fun v _ => v = .bl true) fun _ _ _ => False)
  (hCX : ∀ H e s', CX [] H s₁ (fun _ _ _ => False) e s' -> False) :
  codeAny (model P w) callerA (.call (.ref fa) ⟨[.ref a], []⟩) (fun r s' => r = .ok (.ret (.bool true)) /\ OldK s₁.heap s'.heap /\ s'.os = s₁.os /\ AllBare s'.gens) s₁ := by
 have rv := sV hi
 have lenV := hi.length
 -- from an abstract heap in which nothing but the script may be tracked
 have core : ∀ H : Hp, ED H -> SqL K H a (ns.map V.int) -> HOk P w H s₁.heap -> (∀ b, H b ≠ none -> b = a) -> (H a ≠ none -> K.lookup a = none) ->
   codeAny (model P w) callerA (.call (.ref fa) ⟨[.ref a], []⟩) (fun r s' => r = .ok (.ret (.bool true)) /\ OldK s₁.heap s'.heap /\ s'.os = s₁.os /\ AllBare s'.gens) s₁ := by
  intro H hO hS hok hA hK
  have base_of : ∀ {b : Addr} {o : Obj}, s₁.heap.get? b = some o -> H b = none -> (uv s₁.heap H).get? b = some o := fun e n => A9 e n
  have noA : ∀ {b : Addr} {o : Obj} {es : Array DictEntry} {ep : Nat}, s₁.heap.get? b = some o -> o.data = .dict es ep -> H b = none := fun {b o es ep} e d => by
   cases q : H b with
   | none => rfl
   | some u =>
    have e' : b = a := hA b (by rw [q]; simp)
    subst e'
    rw [ha] at e; cases e
    have d' : Data.seq vs.toArray _ = Data.dict es ep := d
    cases d'
  have nsK : ∀ {b : Addr} {m : Str -> Option Value}, s₁.heap.Ns b m -> (uv s₁.heap H).Ns b m := fun {b m} ⟨o, es, ep, e, d, r⟩ => ⟨o, es, ep, base_of e (noA e d), d, r⟩
  have hKb : K.In (uv s₁.heap H) := fun b o e => base_of (KX b o e) (by
   cases q : H b with
   | none => rfl
   | some u =>
    have e' : b = a := hA b (by rw [q]; simp)
    subst e'
    rw [hK (by rw [q]; simp)] at e; cases e)
  have hM : Mod K mg (uv s₁.heap H) := ⟨hKb, nsK hns, ⟨mb, nsK hb, hbb⟩, let ⟨mc, h1, h2⟩ := hlim; ⟨mc, nsK h1, h2⟩⟩
  have e0 : Env0 P w K mg (uv s₁.heap H) callerA [] s₁ H := ⟨rfl, hM, fun b o e => Cm e, Nat.le_of_eq (y6 _ _), trivial, fun b hb => absurd (show b ∈ ([] : List Addr) from hb) (by simp), hok, .of_eq hg⟩
  refine codeAny_mono ((F _ hKb (nsK hns)).run callerA [] s₁ H ⟨[.ref a], []⟩ [.ref a] [.ref a] _ _ hr e0 (hbind s₁ (.ref a)) (.cons rfl .nil) (hsp H hO hS)) fun r s' h => ?_
  cases r with
  | error e => exact (hCX H e s' h).elim
  | ok fl =>
   cases fl with
   | next => exact False.elim h
   | brk => exact False.elim h
   | cont => exact False.elim h
   | ret u =>
    obtain ⟨v, H', os, bare, un, hok', r', q⟩ := h
    have q' : v = .bl true := q
    subst q'
    obtain rfl : u = Value.bool true := r'
    refine ⟨rfl, OldK.of_keep fun b o e => ?_, os, bare⟩
    cases q : H b with
    | none => exact un.keep b o e q (by intro z; exact absurd (show b ∈ ([] : List Addr) from z) (by simp)) (by simp)
    | some u =>
     rcases hO b with z | ⟨ob, xs, z⟩
     ·rw [q] at z; cases z
     ·have z2 := un.frzs b ob _ z
      obtain ⟨e1, _⟩ := hok b _ z
      obtain ⟨e2, _⟩ := hok' b _ z2
      rw [e] at e1; cases e1
      exact e2
 cases hk : K.lookup a with
 | some o =>
  -- the script is one of the module's own objects
  have e := KX a o hk
  rw [ha] at e
  cases e
  refine core (fun _ => none) (fun _ => .inl rfl) (.inr ⟨_, vs.toArray, _, hk, rfl, rfl, rfl, by rw [List.size_toArray, lenV]; exact hl, by simpa using rv⟩) (fun b u z => by have z' : (none : Option HO) = some u := z; cases z') (fun b z => absurd rfl z) fun z => absurd rfl z
 | none =>
  refine core (fun b => if b = a then some (.frz { cls := .type "list", data := .seq vs.toArray } (.lst (ns.map V.int))) else none) (fun b => ?_) (.inl (.inr ⟨{ cls := .type "list", data := .seq vs.toArray }, if_pos rfl⟩)) (fun b u z => ?_) (fun b z => ?_) fun _ => hk
  ·by_cases hb : b = a
   ·exact .inr ⟨_, _, if_pos hb⟩
   ·exact .inl (if_neg hb)
  ·by_cases hb : b = a
   ·have z' := (if_pos hb).symm.trans z
    cases z'
    subst hb
    exact ⟨ha, by rw [List.length_map]; exact hl, vs, _, rv, ha⟩
   ·have z' := (if_neg hb).symm.trans z
    cases z'
  ·by_cases hb : b = a
   ·exact hb
   ·exact absurd (if_neg hb) z
theorem BX {l : W.OpenLaw} {n k : Nat} {q : Program} {loose : List Str} {XP : (Str -> Option Value) -> Heap -> Prop} {YP : World -> Heap -> Prop} {d : DefRec} {K : Params -> W.Frag} {CX : World -> CXT} {sp : World -> Sp} {x : Str}
  (hn : l.most = some n) (hn2 : n <= sizeLine) (hdf : d.params.defaults = []) (hr : Room k callerA)
  (hY : ∀ (w : World) (h : Heap), YP w h -> (K w.params).In h)
  (F : ∀ (w : World) (mg : Str -> Option Value) (fa : Addr) (h : Heap), (K w.params).In h -> h.Ns mainGlobals mg -> mg d.name = some (.ref fa) ->
   ∃ fd : FuncData, (∀ (s : Shared) (u : Value), BindsTo s fd ⟨[u], []⟩ [(x, u)]) /\
    ∀ base : Heap, (K w.params).In base -> base.Ns mainGlobals mg -> FnOk l.prog w (K w.params) mg base (CX w) k fa fd [x] (sp w))
  (hsp : ∀ (w : World) (H : Hp) (a : Addr) (ns : List Int), ns.length <= n -> ED H -> SqL (K w.params) H a (ns.map V.int) -> sp w [.ref a] H (fun v _ => v = .bl true) fun _ _ _ => False)
  (hCX : ∀ (w : World) (H : Hp) (s : Shared) (e : Value) (s' : Shared), CX w [] H s (fun _ _ _ => False) e s' -> False) :
  W.WalkO q loose XP YP l.row.toRowW d [] (fun f vs => PySem.call f vs) := by
 refine Att.vU hn hdf fun w s₀ s₁ mg mb fa o pm cd doc a vs ns G Y ho hd hcd hmg hobj hints hlen hg => ?_
 have KX := hY w _ Y
 obtain ⟨fd, hb, hF⟩ := F w mg fa _ KX G.T.g hmg
 exact zW KX G.T.g G.T.b G.T.builtins G.T.nolimit hg hobj hints (Nat.le_trans hlen hn2) hr hF hb (fun H hO hS => hsp w H a ns hlen hO hS) fun H e s' => hCX w H s₁ e s'
def oK (s : Stmt) : Arguments := match s with
 | .FunctionDef _ a _ _ _ _ _ _ _ _ => a
 | _ => { posonlyargs := [], args := [], vararg := none, kwonlyargs := [], kw_defaults := [], kwarg := none, defaults := [] }
def kf (s : Stmt) : List Stmt := match s with
 | .FunctionDef _ _ b _ _ _ _ _ _ _ => b
 | _ => []
def aU (s : Stmt) : Scope := match s with
 | .FunctionDef _ _ _ _ _ _ sc _ _ _ => sc
 | _ => { kind := .function, names := [], isGenerator := false, isCoroutine := false }
abbrev CX0 : CXT := fun _ _ _ _ _ _ => False
abbrev E0 : XK := fun _ _ _ => False
theorem Fm {X : Cx} : xl CX0 X E0 := fun _ _ _ _ _ _ _ h => h.elim
structure Fun (K : W.Frag) (x qual : Str) (st : Stmt) (f : Addr) (fd : FuncData) : Prop where
 ex : ∃ (oc : Value) (od : Option Addr) (kV doc pm : Value) (an : Option Addr) (cdv ct : Value) (osl : Array (Option Value)),
  fd = W.fnOf x qual (oK st) (kf st) (aU st) .none kV doc pm an cdv ct /\ K.lookup f = some ⟨oc, od, .func fd, osl⟩ /\ W.codeIn K cdv qual = true
 kp : W.keepIn K (.ref f) = true
section
variable {P : Program} {w : World} {K : W.Frag} {mg : Str -> Option Value} {base : Heap}
theorem Fun.ok {x qual : Str} {st : Stmt} {f : Addr} {fd : FuncData} {N ps : List Str} {k : Nat} {sp : Sp} (F : Fun K x qual st f fd) (S : FnScope N ps (aU st)) (len : ∀ vs H Q E, sp vs H Q E -> vs.length = ps.length)
  (hbody : ∀ (cdv : Value) (A : Around) (outer : List Env) (s : Shared) (H : Hp) (vs : List V) (Q : VK) (E : XK), Room k (A.deeper (envOfC qual (aU st) s.heap.objs.size f cdv)) -> sp vs H Q E ->
   ∃ t, PSs (wY CX0 P w K mg base N qual (aU st) f cdv A outer s H E).nox (kf st) t /\ t { nx := fun _ H' => Q .non H', rt := Q } (a6 N vs) H) : FnOk P w K mg base CX0 (k + 1) f fd ps sp := by
 obtain ⟨oc, od, kV, doc, pm, an, cdv, ct, osl, rfl, lk, hcd⟩ := F.ex
 refine GA lk hcd S len fun A outer s H vs Q E hr hsp => ?_
 obtain ⟨t, h, q⟩ := hbody cdv A outer s H vs Q E hr hsp
 exact ⟨t, h.nox, q⟩
theorem Fun.binds {x qual : Str} {st : Stmt} {f : Addr} {fd : FuncData} {ps : List Str} (F : Fun K x qual st f fd)
  (h : ∀ (kV doc pm : Value) (an : Option Addr) (cdv ct : Value) (us : List Value), us.length = ps.length -> bindArgs (W.fnOf x qual (oK st) (kf st) (aU st) .none kV doc pm an cdv ct) ⟨us, []⟩ = pure (ps.zip us)) : Binds K fd ps [] := by
 obtain ⟨oc, od, kV, doc, pm, an, cdv, ct, osl, rfl, lk, hcd⟩ := F.ex
 exact .all (h kV doc pm an cdv ct)
theorem EJ {x qual : Str} {st : Stmt} {f : Addr} {oc : Value} {od an : Option Addr} {osl : Array (Option Value)} {kV doc pm cdv ct : Value} (l : K.lookup f = some ⟨oc, od, .func (W.fnOf x qual (oK st) (kf st) (aU st) .none kV doc pm an cdv ct), osl⟩)
  (c : W.codeIn K cdv qual = true) (k : W.keepIn K (.ref f) = true) : Fun K x qual st f (W.fnOf x qual (oK st) (kf st) (aU st) .none kV doc pm an cdv ct) := ⟨⟨oc, od, kV, doc, pm, an, cdv, ct, osl, rfl, l, c⟩, k⟩
end
section
variable {X : Cx}
theorem pv (i : Nat) {x : Str} {pos : Pos} (hN : X.N[i]? = some x := by rfl) (hv : Vis X.env.scope x := by first | exact Or.inl rfl | exact Or.inr (.inl rfl) | exact Or.inr (.inr rfl)) (hd : (x == ("__debug__" : Str)) = false := by decide)
  (hcd : (x == ("__classdict__" : Str)) = false := by decide) : PE X (.Name x pos) (qJ i) := EL hN hv hd hcd
end
theorem wX {A B : Prop} (h : B) : if false = true then A else B := by
 rw [if_neg Bool.false_ne_true]
 exact h
theorem we {A B : Prop} (h : A) : if true = true then A else B := by
 rw [if_pos rfl]
 exact h
def Same (H H' : Hp) : Prop := ∀ b o, H b = some o -> H' b = some o
theorem Same.refl (H : Hp) : Same H H := fun _ _ h => h
theorem Same.trans {H H1 H2 : Hp} (a : Same H H1) (b : Same H1 H2) : Same H H2 := fun c o h => b c o (a c o h)
theorem Same.free {H H' : Hp} (e : Same H H') {l : Addr} (h : H' l = Option.none) : H l = Option.none := by
 cases q : H l with
 | none => rfl
 | some o =>
  rw [e l o q] at h
  cases h
end L2
set_option linter.all false
set_option maxHeartbeats 4000000
set_option maxRecDepth 100000
namespace L2
open PySem PySem.Spec PyProof.Rows
structure CmpOk (XN : List Str) (sc scope : Scope) (N : List Str) (js : List (Option Nat)) : Prop where
 kind : scope.kind = .function
 cell : ∀ y ∈ scope.names, y.2 ≠ .cell
 free : ∀ y ∈ scope.names, y.2 = .free -> sc.names.lookup y.1 = some .cell \/ sc.names.lookup y.1 = some .free
 loc : ∀ y ∈ scope.names, y.2 = .local -> scope.names.lookup y.1 = some .local
 len : js.length = N.length
 ix : ((N.zip js).all fun p => match p.2 with | none => true | some j => decide (XN[j]? = some p.1) && decide (scope.names.lookup p.1 = some .free)) = true
def jy (env : Env) : List (Str × NameKind) -> List (Str × Addr) -> List (Str × Addr)
 | [], cs => cs
 | (n, k) :: r, cs => jy env r (if k = .free then (match env.cells.lookup n with | some c => (n, c) :: cs | none => cs) else cs)
theorem vN {env : Env} : ∀ {names : List (Str × NameKind)} {cs : List (Str × Addr)}, (∀ n c, cs.lookup n = some c -> env.cells.lookup n = some c) -> ∀ n c, (jy env names cs).lookup n = some c -> env.cells.lookup n = some c
 | [], _, h => h
 | (m, k) :: r, cs, h => by
  unfold jy
  refine vN ?_
  split
  ·cases e : env.cells.lookup m with
   | none => exact h
   | some d =>
    intro n c hn
    dsimp only at hn
    rw [List.lookup_cons] at hn
    cases q : n == m with
    | true =>
     rw [q] at hn
     have e1 : n = m := by simpa using q
     cases hn
     rw [e1]; exact e
    | false => rw [q] at hn; exact h n c hn
  ·exact h
theorem vg {env : Env} : ∀ {names : List (Str × NameKind)} {cs : List (Str × Addr)} {n : Str}, ((n, NameKind.free) ∈ names /\ (∃ c, env.cells.lookup n = some c)) \/ (∃ c, cs.lookup n = some c) -> ∃ c, (jy env names cs).lookup n = some c
 | [], _, _, h => h.elim (fun z => by cases z.1) id
 | (m, k) :: r, cs, n, h => by
  unfold jy
  refine vg ?_
  rcases h with ⟨hm, c, hc⟩ | ⟨c, hc⟩
  ·rcases List.mem_cons.mp hm with e | hm
   ·cases e
    right
    rw [if_pos rfl, hc]
    exact ⟨c, by rw [List.lookup_cons]; simp⟩
   ·exact .inl ⟨hm, c, hc⟩
  ·right
   split
   ·cases e : env.cells.lookup m with
    | none => exact ⟨c, hc⟩
    | some d =>
     dsimp only
     rw [List.lookup_cons]
     cases q : n == m with
     | true => exact ⟨d, rfl⟩
     | false => exact ⟨c, hc⟩
   ·exact ⟨c, hc⟩
theorem qI {env : Env} {scope : Scope} (h : ∀ y ∈ scope.names, y.2 = .free -> ∃ c, env.cells.lookup y.1 = some c) : closureFor scope env = pure (jy env scope.names []) := by
 have key : ∀ (names : List (Str × NameKind)) (cs : List (Str × Addr)), (∀ y ∈ names, y.2 = .free -> ∃ c, env.cells.lookup y.1 = some c) ->
   (forIn names cs (fun (x : Str × NameKind) r => if (x.2 == NameKind.free) = true then (do let a ← cellOf env x.1; pure (ForInStep.yield ((x.1, a) :: r))) else pure (ForInStep.yield r)) : Sem (List (Str × Addr))) = pure (jy env names cs) := by
  intro names
  induction names with
  | nil => intro cs _; rfl
  | cons y r ih =>
   intro cs hy
   obtain ⟨n, k⟩ := y
   rw [List.forIn_cons]
   unfold jy
   by_cases hk : k = .free
   ·subst hk
    obtain ⟨c, hc⟩ := hy _ List.mem_cons_self rfl
    have e1 : cellOf env n = pure c := by unfold cellOf; rw [hc]
    rw [if_pos (by rfl)]
    rw [if_pos rfl, hc]
    show ((cellOf env n >>= fun a => pure (ForInStep.yield ((n, a) :: cs))) >>= _) = _
    rw [e1]
    exact ih _ fun z hz => hy z (List.mem_cons_of_mem _ hz)
   ·have hb : (k == NameKind.free) = false := by simpa using hk
    rw [if_neg (by rw [hb]; decide), if_neg hk]
    exact ih _ fun z hz => hy z (List.mem_cons_of_mem _ hz)
 have k := key scope.names [] h
 unfold closureFor
 show (forIn scope.names ([] : List (Str × Addr)) _ >>= fun cs => pure cs) = _
 refine Eq.trans (congrArg (fun t => t >>= fun cs => pure cs) (Eq.trans ?_ k)) rfl
 congr 1
theorem qu {env : Env} : ∀ {names : List (Str × NameKind)} {x : Str}, names.lookup x = some .free ->
  (names.map fun (n, k) => if (k == NameKind.free && env.scope.kind == .function && env.kindOf n == some .cell) then (n, NameKind.cell) else (n, k)).lookup x = some .cell \/
  (names.map fun (n, k) => if (k == NameKind.free && env.scope.kind == .function && env.kindOf n == some .cell) then (n, NameKind.cell) else (n, k)).lookup x = some .free
 | [], _, h => by simp at h
 | (n, k) :: r, x, h => by
  have ih := @qu env r x
  rw [List.map_cons]
  dsimp only
  cases q : x == n with
  | true =>
   rw [List.lookup_cons, q] at h
   cases h
   split
   ·left; rw [List.lookup_cons, q]
   ·right; rw [List.lookup_cons, q]
  | false =>
   rw [List.lookup_cons, q] at h
   split
   ·rw [List.lookup_cons, q]; exact ih h
   ·rw [List.lookup_cons, q]; exact ih h
theorem kZ {env : Env} : ∀ {names : List (Str × NameKind)} {x : Str} {j : NameKind}, (∀ y ∈ names, y.2 ≠ .cell) -> (j = .cell \/ j = .free) ->
  (names.map fun (n, k) => if (k == NameKind.free && env.scope.kind == .function && env.kindOf n == some .cell) then (n, NameKind.cell) else (n, k)).lookup x = some j -> (x, NameKind.free) ∈ names
 | [], _, _, _, _, h => by simp at h
 | (n, k) :: r, x, j, hc, hj, h => by
  have ih := @kZ env r x j (fun y hy => hc y (List.mem_cons_of_mem _ hy)) hj
  rw [List.map_cons] at h
  dsimp only at h
  cases q : x == n with
  | true =>
   have e : x = n := by simpa using q
   subst e
   split at h
   ·rename_i g
    have : k = .free := by
     simp only [Bool.and_eq_true, beq_iff_eq] at g
     exact g.1.1
    subst this
    exact List.mem_cons_self
   ·rw [List.lookup_cons, q] at h
    cases h
    rcases hj with z | z
    ·exact absurd z (hc _ List.mem_cons_self)
    ·rw [z]; exact List.mem_cons_self
  | false =>
   refine List.mem_cons_of_mem _ (ih ?_)
   split at h
   ·rw [List.lookup_cons, q] at h; exact h
   ·rw [List.lookup_cons, q] at h; exact h
def inn (js : List (Option Nat)) (σ : St) : St := js.map fun o => match o with | none => none | some j => (σ[j]?).join
structure CxZ where
 cl : List (Str × Addr)
 C : Addr
 s : Shared
 H : Hp
 fp : List Addr
 pins : List (Addr × Obj)
def cxC (X : Cx) (N : List Str) (scope : Scope) (z : CxZ) : Cx where
 prog := X.prog
 w := X.w
 K := X.K
 mg := X.mg
 base := X.base
 A := X.A
 N := N
 s₀ := z.s
 H₀ := z.H
 env := compEnvC scope z.cl z.C X.env
 outer := X.stack
 stack := X.stack
 ex := z.fp
 fn := fun _ => false
 calm := X.calm
 pn := X.pn ++ z.pins
 xe := fun _ _ => False
section
variable {X : Cx} {pins : List (Addr × Obj)} {σ : St} {H : Hp} {s : Shared} {XN N : List Str} {sc scope : Scope} {js : List (Option Nat)}
theorem Bt {h1 : Heap} {m : Str -> Option Value} {tk : Nat} {fp : List Addr} (ck : CmpOk XN sc scope N js) (hXN : X.N = XN) (hsc : X.env.scope = sc) (I : Inv X pins σ H s) (hf : ∀ b ∈ fp, qW X pins H b)
  (hfo : ∀ b ∈ fp, b < s.heap.objs.size) (hn : h1.Ns s.heap.objs.size m) (hk : ∀ b o, s.heap.get? b = some o -> h1.get? b = some o) :
  Inv (cxC X N scope ⟨jy X.env scope.names [], s.heap.objs.size, s, H, fp, pins⟩) [] (inn js σ) H { s with heap := h1, toks := tk } := by
 subst hXN hsc
 have sub : ∀ n c, (jy X.env scope.names []).lookup n = some c -> X.env.cells.lookup n = some c := vN fun n c h => by simp at h
 have clt : ∀ n c, (jy X.env scope.names []).lookup n = some c -> c < s.heap.objs.size := fun n c h => by
  obtain ⟨v, q⟩ := I.cell n c (sub n c h)
  exact q.lt
 have has : ∀ x, (x, NameKind.free) ∈ scope.names -> ∃ c, (jy X.env scope.names []).lookup x = some c := fun x hx =>
  vg (.inl ⟨hx, I.ok.has x (ck.free _ hx rfl)⟩)
 refine ⟨⟨I.ok.mod, ck.kind, I.ok.glob, I.ok.blt, Nat.le_refl _, fun x y c h1 h2 => I.ok.inj x y c (sub x c h1) (sub y c h2), fun x hx => ?has, fun x c hx => ?cab, I.ok.hd, I.ok.frames, .inl rfl, fun b hb => ?exf, I.bs, ?bsz, fun b o e hb => ?noex, fun b hb => ?exfs, I.stack, I.stkFree⟩,
  rfl, I.bare, Un.kept hk, ⟨m, hn, fun i x v h1 h2 h3 => ?loc⟩, fun x c h => ?cell, I.hok.fresh (Nat.le_refl _), fun x c h => I.freeC x c (sub x c h), fun p hp => ?pin, I.hok.kept hk, ?len⟩
 case has =>
  rcases hx with hx | hx
  ·exact has x (kZ ck.cell (.inl rfl) hx)
  ·exact has x (kZ ck.cell (.inr rfl) hx)
 case cab => cases hx
 case exf =>
  obtain ⟨f0, f1, f2, f3, f4, f5⟩ := hf b hb
  exact ⟨Nat.ne_of_lt (hfo b hb), fun x c e => f4 x c (sub x c e)⟩
 case bsz => exact Nat.le_trans I.ok.bsz I.sz
 case noex =>
  obtain ⟨f0, f1, f2, f3, f4, f5⟩ := hf b hb
  rcases f3 with f3 | f3
  ·exact I.ok.noex b o e f3
  ·exact absurd (Nat.lt_of_lt_of_le (Heap.lt_size e) (Nat.le_trans I.ok.bsz f3)) (Nat.lt_irrefl _)
 case exfs =>
  obtain ⟨f0, f1, f2, f3, f4, f5⟩ := hf b hb
  intro z
  rcases List.mem_cons.mp (I.stkSub b z) with e | e
  ·exact f1 e
  ·exact f2 e
 case loc =>
  have hl : N.length = js.length := ck.len.symm
  have hi : i < js.length := by
   have := (List.getElem?_eq_some_iff.mp h1).1
   have e : (cxC X N scope ⟨jy X.env scope.names [], s.heap.objs.size, s, H, fp, pins⟩).N = N := rfl
   rw [e] at this
   lia
  have hN : N[i]? = some x := h1
  have hj : js[i]? = some js[i] := List.getElem?_eq_getElem hi
  unfold inn at h2
  rw [List.getElem?_map, hj] at h2
  cases q : js[i] with
  | none => rw [q] at h2; cases h2
  | some j =>
   rw [q] at h2 hj
   have h2' : (σ[j]?).join = some v := Option.some.inj h2
   have hσ : σ[j]? = some (some v) := by
    cases e : σ[j]? with
    | none => rw [e] at h2'; cases h2'
    | some o => rw [e] at h2'; exact congrArg some h2'
   have hm : (x, some j) ∈ N.zip js := by
    refine List.mem_of_getElem? (i := i) ?_
    rw [List.getElem?_zip_eq_some]
    exact ⟨hN, hj⟩
   have hc := List.all_eq_true.mp ck.ix _ hm
   simp only [Bool.and_eq_true, decide_eq_true_eq] at hc
   obtain ⟨c1, c2⟩ := hc
   have hfr : (x, NameKind.free) ∈ scope.names := PySem.mem_of_lookup c2
   have hvis : X.env.scope.names.lookup x = some .cell \/ X.env.scope.names.lookup x = some .free := ck.free _ hfr rfl
   obtain ⟨m0, hn0, hl0⟩ := I.loc
   obtain ⟨u, r, l⟩ := hl0 j x v c1 hσ (hvis.elim (fun z => .inr (.inl z)) fun z => .inr (.inr z))
   refine ⟨u, r, .inr ⟨?_, ?_⟩⟩
   ·exact qu c2
   ·rcases l with ⟨k1, _⟩ | ⟨_, c, k1, k2⟩
    ·have k1' : X.env.scope.names.lookup x = some .local := k1
     rcases hvis with z | z
     ·rw [z] at k1'; cases k1'
     ·rw [z] at k1'; cases k1'
    ·obtain ⟨c', hc'⟩ := has x hfr
     have e := sub x c' hc'
     rw [k1] at e
     cases e
     obtain ⟨oc, ho, hd⟩ := k2
     exact ⟨c, hc', oc, hk _ _ ho, hd⟩
 case cell =>
  obtain ⟨v, oc, ho, hd⟩ := I.cell x c (sub x c h)
  exact ⟨v, oc, hk _ _ ho, hd⟩
 case pin =>
  have hp' : p ∈ X.pn ++ pins := by simpa [cxC] using hp
  obtain ⟨p1, p2, p3, p4, p5⟩ := I.pin p hp'
  refine ⟨hk _ _ p1, p2, Nat.ne_of_lt (Heap.lt_size p1), fun z => ?_, p5⟩
  rcases List.mem_cons.mp (I.stkSub _ z) with e | e
  ·exact p3 e
  ·exact p4 e
 case len =>
  show (inn js σ).length = N.length
  unfold inn
  rw [List.length_map]
  exact ck.len
abbrev TIf := St -> Hp -> (Bool -> Hp -> Prop) -> Prop
def PIf (X : Cx) (ifs : List Expr) (t : TIf) : Prop :=
 ∀ (pins : List (Addr × Obj)) (s : Shared) (σ : St) (H : Hp) (Q : Bool -> Hp -> Prop), Inv X pins σ H s -> t σ H Q ->
  wpAny (model X.prog X.w) X.A (forIn ifs true fun c r => if r = true then do let ok ← isTrue c X.env (eval c X.env); pure (ForInStep.yield ok) else pure (ForInStep.yield r)) (TP X pins σ Q) X.xe s
def C6 : TIf := fun _ H Q => Q true H
theorem fS : PIf X [] C6 := fun _ _ _ H _ I h => wpAny_tests_nil ⟨H, I, h⟩
theorem mB {c : Expr} {t : TT} (h : PT X c t) : PIf X [c] t := fun pins s σ H Q I q => wpAny_tests_one (h pins s σ H Q I q)
def Lev (σ σ' : St) : Prop := σ.length = σ'.length /\ ∀ (i : Nat) (v : V), σ[i]? = some (some v) -> σ'[i]? = some (some v)
theorem Lev.refl (σ : St) : Lev σ σ := ⟨rfl, fun _ _ h => h⟩
theorem Lev.trans {a b c : St} (h : Lev a b) (k : Lev b c) : Lev a c := ⟨h.1.trans k.1, fun i v e => k.2 i v (h.2 i v e)⟩
def xj (js : List (Option Nat)) (g : TG) : Prop := ∀ (σ0 : St) (v : V) (σ : St) (H : Hp) (Q : St -> Hp -> Prop), Lev (inn js σ0) σ -> g v σ H Q -> g v σ H fun σ' H' => Lev (inn js σ0) σ' /\ Q σ' H'
def yx (js : List (Option Nat)) (g : TGs) : Prop := ∀ (σ0 : St) (vs : List V) (σ : St) (H : Hp) (Q : St -> Hp -> Prop), Lev (inn js σ0) σ -> g vs σ H Q -> g vs σ H fun σ' H' => Lev (inn js σ0) σ' /\ Q σ' H'
theorem aM {i : Nat} (h : js[i]? = some none := by rfl) : xj js (iE i) := fun σ0 v σ H Q l q => by
 refine ⟨⟨?_, fun j u e => ?_⟩, q⟩
 ·rw [List.length_set]; exact l.1
 ·by_cases hij : i = j
  ·subst hij
   unfold inn at e
   rw [List.getElem?_map, h] at e
   cases e
  ·rw [List.getElem?_set_ne hij]
   exact l.2 j u e
theorem dE : yx js DQ := fun σ0 vs σ H Q l q => ⟨q.1, l, q.2⟩
theorem aJ {t : TG} {u : TGs} (h : xj js t) (k : yx js u) (mono : ∀ v σ H (Q Q' : St -> Hp -> Prop), (∀ a b, Q a b -> Q' a b) -> t v σ H Q -> t v σ H Q') : yx js (A7 t u) := fun σ0 vs σ H Q l q => by
 obtain ⟨v, r, e, q⟩ := q
 exact ⟨v, r, e, mono _ _ _ _ _ (fun σ' H' z => k σ0 r σ' H' Q z.1 z.2) (h σ0 v σ H _ l q)⟩
theorem az {i : Nat} : ∀ v σ H (Q Q' : St -> Hp -> Prop), (∀ a b, Q a b -> Q' a b) -> iE i v σ H Q -> iE i v σ H Q' := fun _ _ _ _ _ h q => h _ _ q
theorem fB {K : W.Frag} {n : Nat} {t : TGs} (h : yx js t) : xj js (DP K n t) := fun σ0 v σ H Q l q => by
 obtain ⟨a, xs, e, hq, hl, q⟩ := q
 exact ⟨a, xs, e, hq, hl, h σ0 xs σ H Q l q⟩
def Bc (js : List (Option Nat)) (wi : TI) (g : TG) (tt : TIf) (te : TE) : TE := fun σ H Q => wi σ H fun J H1 => ∀ D, H1 D = none -> ∃ W : Nat -> Nat -> Hp -> Prop, (∃ m, W 0 m (upd H1 D (.lst []))) /\ ∀ i m H, W i m H ->
 (J.stop i H /\ Q (.ref D) H) \/ (J.go i H /\ ∀ x H', J.yld i H x H' -> g x (inn js σ) H' fun σ2 H2 => tt σ2 H2 fun b H3 =>
  if b = true then te σ2 H3 fun y H4 => ∃ ys, H4 D = some (.lst ys) /\ ys.length < sizeLine /\ ∃ m', m' < m /\ W (i + 1) m' (upd H4 D (.lst (ys ++ [y]))) else ∃ m', m' < m /\ W (i + 1) m' H3)
variable {tg iter elt : Expr} {ifs : List Expr} {pos : Pos} {wi : TI} {g : TG} {tt : TIf} {te : TE}
theorem zB {E : Value -> Shared -> Prop} {R : Result -> Shared -> Prop} {it D : Addr} {fp : List Addr} {tn : Nat -> Heap -> Prop} {J : It} {z : CxZ} {W : Nat -> Nat -> Hp -> Prop} {n : Nat}
  (hc : X.calm = true) (T : Turn X.prog X.w X.K tg J fp it tn) (hz : ∀ b ∈ fp, ∀ H', H' b = none -> qW (cxC X N scope z) [] H' b)
  (hg : PG (cxC X N scope z) tg g) (hs : xj js g) (ht : PIf (cxC X N scope z) ifs tt) (he : PE (cxC X N scope z) elt te)
  (turn : ∀ i m H, W i m H -> (J.stop i H /\ ∀ s', Inv (cxC X N scope z) [] (inn js σ) H s' -> R (.ok .next) s') \/ (J.go i H /\ ∀ x H', J.yld i H x H' -> g x (inn js σ) H' fun σ2 H2 => tt σ2 H2 fun b H3 =>
   if b = true then te σ2 H3 fun y H4 => ∃ ys, H4 D = some (.lst ys) /\ ys.length < sizeLine /\ ∃ m', m' < m /\ W (i + 1) m' (upd H4 D (.lst (ys ++ [y]))) else ∃ m', m' < m /\ W (i + 1) m' H3))
  {s1 : Shared} {H1 : Hp} (I1 : Inv (cxC X N scope z) [] (inn js σ) H1 s1) (t1 : tn 0 s1.heap) (f1 : ∀ b ∈ fp, H1 b = none) (w1 : W 0 n H1) :
  codeAny (model X.prog X.w) X.A (.compLoop (.ListComp elt [⟨tg, iter, ifs, 0⟩] scope pos) 0 (.ref it) (.ref D) (compEnvC scope z.cl z.C X.env)) R s1 := by
 refine codeAny_loop (c := .compLoop (.ListComp elt [⟨tg, iter, ifs, 0⟩] scope pos) 0 (.ref it) (.ref D) (compEnvC scope z.cl z.C X.env)) rfl
  (fun k s' => ∃ i H', Inv (cxC X N scope z) [] (inn js σ) H' s' /\ tn i s'.heap /\ (∀ b ∈ fp, H' b = none) /\ W i k H') ?_ n ⟨0, H1, I1, t1, f1, w1⟩
 rintro k s2 ⟨i, H2, I2, t2, f2, w2⟩
 show wpAny (model X.prog X.w) X.A ((compTurn (.ListComp elt [⟨tg, iter, ifs, 0⟩] scope pos) 0 (.ref it) (.ref D) (compEnvC scope z.cl z.C X.env)).onRaise fun x => do noteFrame x (compEnvC scope z.cl z.C X.env); theTreesLotGoes x) _ _ s2
 refine wpAny_noted ?_
 rw [compTurn_list]
 refine wpAny_bind (wpAny_standAt ?_)
 rcases turn i k H2 w2 with ⟨stop, fin⟩ | ⟨go, step⟩
 ·refine wpAny_bind (thn (T.done (cxC X N scope z) rfl rfl rfl hc i [] s2 (inn js σ) H2 _ I2 (fun b hb => hz b hb H2 (f2 b hb)) t2 stop) fun r s3 h3 => ?_)
  obtain ⟨rfl, I3⟩ := h3
  exact wpAny_pure (fin s3 I3)
 ·refine wpAny_bind (thn (T.item (cxC X N scope z) rfl rfl rfl hc i [] s2 (inn js σ) H2 _ I2 (fun b hb => hz b hb H2 (f2 b hb)) t2 go) fun r s3 h3 => ?_)
  obtain ⟨u, rfl, h3⟩ := h3
  refine wpAny_bind (thn h3 fun _ s4 h4 => ?_)
  obtain ⟨x, H4, I4, r4, y4, t4, f4⟩ := h4
  have P4 := I4.pinned (fun b hb => hz b hb H4 (f4 b hb)) (T.obj _ _ t4)
  have ff : ∀ {e : Value} {s' : Shared}, (cxC X N scope z).xe e s' -> False := fun h => h
  refine wpAny_bind (wpAny_mono (hg _ s4 (inn js σ) H4 x u _ P4 r4 (hs σ x (inn js σ) H4 _ (Lev.refl _) (step x H4 y4))) (fun _ s5 h5 => ?_) fun _ _ h => (ff h).elim)
  obtain ⟨σ5, H5, I5, lev, q5⟩ := h5
  refine wpAny_bind (wpAny_mono (ht _ s5 σ5 H5 _ I5 q5) (fun ok s6 h6 => ?_) fun _ _ h => (ff h).elim)
  obtain ⟨H6, I6, q6⟩ := h6
  have again : ∀ {s7 : Shared} {H7 : Hp}, Inv (cxC X N scope z) ([] ++ mZ fp s4.heap) σ5 H7 s7 -> (∃ m', m' < k /\ W (i + 1) m' H7) -> ∃ m, m < k /\ ∃ i H', Inv (cxC X N scope z) [] (inn js σ) H' s7 /\ tn i s7.heap /\ (∀ b ∈ fp, H' b = none) /\ W i m H' := fun {s7 H7} I7 h7 => by
   obtain ⟨m', hm, w7⟩ := h7
   refine ⟨m', hm, i + 1, H7, (I7.unpinned).weak lev.1 lev.2, T.keep _ _ _ t4 fun b hb o e => (I7.pin (b, o) (List.mem_append_right _ (List.mem_append_right _ (fW hb e)))).1, fun b hb => ?_, w7⟩
   obtain ⟨o, e, d⟩ := T.obj _ _ t4 b hb
   exact (I7.pin (b, o) (List.mem_append_right _ (List.mem_append_right _ (fW hb e)))).2.1
  cases ok with
  | false =>
   rw [if_neg (by decide)] at q6
   exact wpAny_pure ⟨rfl, again I6 q6⟩
  | true =>
   rw [if_pos rfl] at q6
   refine wpAny_bind (wpAny_bind (wpAny_mono (he _ s6 σ5 H6 _ I6 q6) (fun y s7 h7 => ?_) fun _ _ h => (ff h).elim))
   obtain ⟨vy, H7, I7, r7, ys, hD, hl, q7⟩ := h7
   refine wpAny_bind (wpAny_mono (br (X := cxC X N scope z) _ s7 σ5 H7 (.ref D) [vy] (.ref D) [y] (fun _ H' => ∃ m', m' < k /\ W (i + 1) m' H') I7 rfl (.cons r7 .nil) ⟨D, ys, vy, rfl, rfl, hD, hl, q7⟩) (fun _ s8 h8 => ?_) fun _ _ h => (ff h).elim)
   obtain ⟨_, H8, I8, _, q8⟩ := h8
   exact wpAny_pure (wpAny_pure ⟨rfl, again I8 q8⟩)
theorem pW {E : Value -> Shared -> Prop} {RR : Value -> Addr -> Result -> Shared -> Prop} {Q : VK} {itv : Value} {s2 : Shared} (ck : CmpOk XN sc scope N js) (hXN : X.N = XN) (hsc : X.env.scope = sc) (hc : X.calm = true)
  (hg : ∀ z, PG (cxC X N scope z) tg g) (hs : xj js g) (ht : ∀ z, PIf (cxC X N scope z) ifs tt) (he : ∀ z, PE (cxC X N scope z) elt te)
  (h2 : PIE X pins σ tg (fun J H1 => ∀ D, H1 D = none -> ∃ W : Nat -> Nat -> Hp -> Prop, (∃ m, W 0 m (upd H1 D (.lst []))) /\ ∀ i m H, W i m H ->
   (J.stop i H /\ Q (.ref D) H) \/ (J.go i H /\ ∀ x H', J.yld i H x H' -> g x (inn js σ) H' fun σ2 H2 => tt σ2 H2 fun b H3 =>
    if b = true then te σ2 H3 fun y H4 => ∃ ys, H4 D = some (.lst ys) /\ ys.length < sizeLine /\ ∃ m', m' < m /\ W (i + 1) m' (upd H4 D (.lst (ys ++ [y]))) else ∃ m', m' < m /\ W (i + 1) m' H3)) itv s2)
  (hRR : ∀ D C s' H' m o, Inv X (pins ++ [(C, o)]) σ H' s' -> s'.heap.Ns C m -> (X.s₀.heap.objs.size <= C /\ C ≠ X.env.locals /\ (∀ x c, X.env.cells.lookup x = some c -> c ≠ C) /\ ∀ p ∈ X.pn ++ pins, p.1 ≠ C) -> H' C = none -> Q (.ref D) H' -> RR (.ref D) C (.ok .next) s') :
  wpAny (model X.prog X.w) X.A (newList []) (fun acc s₃ => wpAny (model X.prog X.w) X.A (newFunctionEnv scope X.env.globals (jy X.env scope.names []) [] X.env.qual none .none (some X.env)) (fun cenv s₄ =>
   codeAny (model X.prog X.w) X.A (.compStart (.ListComp elt [⟨tg, iter, ifs, 0⟩] scope pos) 0 itv acc { cenv with scope := relabel scope X.env }) (RR acc cenv.locals) s₄) E s₃) E s2 := by
 obtain ⟨it, fp, tn, J, H2, rfl, I2, T, t2, f2, q2⟩ := h2
 have fo : ∀ b ∈ fp, b < s2.heap.objs.size := fun b hb => by
  obtain ⟨o, e, _⟩ := T.obj _ _ t2 b hb
  exact Heap.lt_size e
 have hD : H2 s2.heap.objs.size = none := I2.fresh
 obtain ⟨W, ⟨n, w0⟩, turn⟩ := q2 _ hD
 refine wpAny_newObj_type (wpAny_newFunctionEnv ck.cell (by intro y hy; simp at hy) (fun h1 hns hsb => ?_) ck.kind)
 have I3 : Inv X pins σ (upd H2 s2.heap.objs.size (.lst [])) { s2 with heap := s2.heap.push { cls := .type "list", data := .seq ([] : List Value).toArray }, toks := s2.toks } := I2.lnew (its := []) .nil (Nat.zero_le _)
 have f3 : ∀ b ∈ fp, qW X pins (upd H2 s2.heap.objs.size (.lst [])) b := fun b hb => by
  obtain ⟨g0, g1⟩ := f2 b hb
  exact ⟨by rw [aB (Nat.ne_of_lt (fo b hb))]; exact g0, g1⟩
 have sz : (s2.heap.push { cls := .type "list", data := .seq ([] : List Value).toArray }).objs.size = s2.heap.objs.size + 1 := Heap.size_push _ _
 have kept : ∀ b o, (s2.heap.push { cls := .type "list", data := .seq ([] : List Value).toArray }).get? b = some o -> h1.get? b = some o := fun b o e =>
  hsb.extBut b o (Nat.ne_of_lt (Heap.lt_size e)) (Heap.get?_push_of_some _ e)
 have I4 := Bt (tk := s2.toks + ([] : List (Str × Value)).length) ck hXN hsc I3 f3 (fun b hb => by show b < (s2.heap.push _).objs.size; rw [sz]; exact Nat.lt_succ_of_lt (fo b hb)) hns kept
 have t4 : tn 0 h1 := T.keep _ _ _ t2 fun b hb o e => kept b o (Heap.get?_push_of_some _ e)
 have fz : ∀ b ∈ fp, ∀ H', H' b = none -> qW (cxC X N scope ⟨jy X.env scope.names [], (s2.heap.push { cls := .type "list", data := .seq ([] : List Value).toArray }).objs.size, { s2 with heap := s2.heap.push { cls := .type "list", data := .seq ([] : List Value).toArray }, toks := s2.toks }, upd H2 s2.heap.objs.size (.lst []), fp, pins⟩) [] H' b := fun b hb H' hn => by
  obtain ⟨g0, g1, g2, g3, g4, g5⟩ := f3 b hb
  refine ⟨hn, (I4.ok.exf b hb).1, I4.ok.exfs b hb, .inl hb, (I4.ok.exf b hb).2, fun p hp => ?_⟩
  exact g5 p (by simpa [cxC] using hp)
 have loop := zB (X := X) (σ := σ) (N := N) (scope := scope) (js := js) (iter := iter) (pos := pos) (E := E) (R := RR (.ref s2.heap.objs.size) (s2.heap.push { cls := .type "list", data := .seq ([] : List Value).toArray }).objs.size) (D := s2.heap.objs.size) (W := W) (n := n)
  hc T fz (hg _) hs (ht _) (he _) (fun i m H w => (turn i m H w).imp (fun a => ⟨a.1, fun s' Y => ?_⟩) id) I4 t4 (fun b hb => (f3 b hb).1) w0
 ·exact codeAny_compStart_list loop (T.self _ 0 _ _ _ t4 loop)
 ·have bb := Y.base
  have J0 : Inv X pins σ H s' := I3.call' Y.os bb Y.hok Y.bare fun b hb => by
   obtain ⟨g0, g1, g2, g3, g4, g5⟩ := f3 b hb
   exact ⟨g3, g1, g4, g5⟩
  obtain ⟨mC, nC, _⟩ := Y.loc
  obtain ⟨oC, eC, dC⟩ : ∃ o, s'.heap.get? (s2.heap.push { cls := .type "list", data := .seq ([] : List Value).toArray }).objs.size = some o /\ ∀ v, o.data ≠ .cell v := by
   obtain ⟨o, es, ep, ho, hd, _⟩ := nC
   exact ⟨o, ho, fun v z => by rw [hd] at z; cases z⟩
  have lC : X.s₀.heap.objs.size <= (s2.heap.push { cls := .type "list", data := .seq ([] : List Value).toArray }).objs.size := I3.sz
  have cC : (s2.heap.push { cls := .type "list", data := .seq ([] : List Value).toArray }).objs.size ≠ X.env.locals := Nat.ne_of_gt I3.lt
  have kC : ∀ x c, X.env.cells.lookup x = some c -> c ≠ (s2.heap.push { cls := .type "list", data := .seq ([] : List Value).toArray }).objs.size := fun x c e => by
   obtain ⟨v, q⟩ := I3.cell x c e
   exact Nat.ne_of_lt q.lt
  have pC : ∀ p ∈ X.pn ++ pins, p.1 ≠ (s2.heap.push { cls := .type "list", data := .seq ([] : List Value).toArray }).objs.size := fun p hp => Nat.ne_of_lt (Heap.lt_size (I3.pin p hp).1)
  have J1 : Inv X (pins ++ [((s2.heap.push { cls := .type "list", data := .seq ([] : List Value).toArray }).objs.size, oC)]) σ H s' := J0.pins_of fun p hp => by
   rcases List.mem_append.mp hp with hp | hp
   ·exact J0.pin p (List.mem_append_right _ hp)
   ·rw [List.mem_singleton.mp hp]
    exact ⟨eC, Y.free, cC, I3.nofs (Nat.le_refl _), dC⟩
  exact hRR _ _ s' H mC oC J1 nC ⟨lC, cC, kC, pC⟩ Y.free a.2
theorem c9 (ck : CmpOk XN sc scope N js) (hi : PI X tg iter wi) (hg : ∀ z, PG (cxC X N scope z) tg g) (hs : xj js g) (ht : ∀ z, PIf (cxC X N scope z) ifs tt) (he : ∀ z, PE (cxC X N scope z) elt te)
  (hXN : X.N = XN := by rfl) (hsc : X.env.scope = sc := by rfl) (hc : X.calm = true := by rfl) (hf : ∀ x, foldedSetIterable iter X.env x = pure x := by intro _; rfl) :
  PE X (.ListComp elt [⟨tg, iter, ifs, 0⟩] scope pos) (Bc js wi g tt te) := by
 intro pins s σ H Q I h
 rw [eval_ListComp]
 have hcl : closureFor scope X.env = pure (jy X.env scope.names []) := qI fun y hy hk => I.ok.has y.1 (by
  have := ck.free y hy hk
  rw [<- hsc] at this
  exact this)
 refine wpAny_comprehension_free (use := none) rfl hf hcl ck.kind ck.loc (thn (hi pins s σ H _ I h) fun v s1 h1 => thn h1 fun itv s2 h2 => ?_)
 refine pW (RR := fun acc C => compPost (model X.prog X.w) X.A X.xe none (EP X pins σ Q) acc C) ck hXN hsc hc hg hs ht he h2 ?_
 intro D C s' H' m o J nC hC fC q
 refine ⟨m, nC, fun h' sb => ⟨.ref D, H', ?_, rfl, q⟩⟩
 have J0 : Inv X pins σ H' s' := J.unpinned
 exact J0.turned (t' := s'.toks) (it := C) (fun b o hb e => sb.extBut b o hb e) fC hC.2.1 (.inr hC.1) hC.2.2.1 hC.2.2.2
theorem B6 {i : Nat} {y : Str} {pos' spos : Pos} (ck : CmpOk XN sc scope N js) (hN : X.N.Nodup) (hi0 : X.N[i]? = some y) (hx : Loc X.env.scope y) (hi : PI X tg iter wi) (hg : ∀ z, PG (cxC X N scope z) tg g) (hs : xj js g) (ht : ∀ z, PIf (cxC X N scope z) ifs tt) (he : ∀ z, PE (cxC X N scope z) elt te)
  (hsw : swapsWith (.ListComp elt [⟨tg, iter, ifs, 0⟩] scope pos) (some (.Name y pos')) spos.line X.env = pure true := by rfl)
  (hXN : X.N = XN := by rfl) (hsc : X.env.scope = sc := by rfl) (hc : X.calm = true := by rfl) (hf : ∀ x, foldedSetIterable iter X.env x = pure x := by intro _; rfl)
  (hfn : X.fn y = true \/ X.env.scope.names.lookup y = some .local := by first | exact .inl rfl | exact .inr rfl | assumption) :
  PS X (.Assign [.Name y pos'] (.ListComp elt [⟨tg, iter, ifs, 0⟩] scope pos) spos) (uU (Bc js wi g tt te) (iE i)) := by
 intro pins s σ H D I h
 rw [exec_Assign_Name_used _ _ _ _ hsw]
 have hcl : closureFor scope X.env = pure (jy X.env scope.names []) := qI fun y hy hk => I.ok.has y.1 (by
  have := ck.free y hy hk
  rw [<- hsc] at this
  exact this)
 refine wpAny_bind (wpAny_standAt (wpAny_bind ?_))
 show wpAny (model X.prog X.w) X.A (comprehension (.ListComp elt [⟨tg, iter, ifs, 0⟩] scope pos) scope X.env _ (newList []) false (eval iter X.env) (some (assign (.Name y pos') X.env)) >>= fun _ => pure ()) _ _ s
 refine wpAny_bind (thn (wpAny_comprehension_free (use := some (assign (.Name y pos') X.env)) (Q := fun _ s' => SP X pins D .next s') rfl hf hcl ck.kind ck.loc (thn (hi pins s σ H _ I h) fun v s1 h1 => thn h1 fun itv s2 h2 => ?_)) fun _ s' q => wpAny_pure (wpAny_pure q))
 refine pW (RR := fun acc C => compPost (model X.prog X.w) X.A X.xe (some (assign (.Name y pos') X.env)) (fun _ s' => SP X pins D .next s') acc C) (Q := fun x H1 => iE i x σ H1 D.nx) ck hXN hsc hc hg hs ht he h2 ?_
 intro A C s' H' m o J nC hC fC q
 refine thn (mF hN hi0 hx hfn _ s' σ H' (.ref A) (.ref A) _ J rfl q) fun _ s3 h3 => ?_
 obtain ⟨σ3, H3, J3, q3⟩ := h3
 have pc := J3.pin (C, o) (List.mem_append_right _ (List.mem_append_right _ List.mem_cons_self))
 have oC : s'.heap.get? C = some o := (J.pin (C, o) (List.mem_append_right _ (List.mem_append_right _ List.mem_cons_self))).1
 refine ⟨m, nC.at' fun o' e => ?_, fun h' sb => ⟨σ3, H3, ?_, q3⟩⟩
 ·rw [oC] at e
  cases e
  exact pc.1
 ·have J0 : Inv X pins σ3 H3 s3 := J3.unpinned
  exact J0.turned (t' := s3.toks) (it := C) (fun b o hb e => sb.extBut b o hb e) pc.2.1 hC.2.1 (.inr hC.1) hC.2.2.1 hC.2.2.2
end
end L2
namespace Srt
open PySem PySem.W PyProof.Rows
section
variable {α β : Type} (lt : Nat -> Nat -> Bool) (n : Nat)
end
section
variable {lt : Nat -> Nat -> Bool} {le : Nat -> Nat -> Prop} {n : Nat} {p : Array Nat}
abbrev at' (p : Array Nat) (i : Nat) : Nat := p.getD i 0
theorem uA {p q : Array Nat} {i j : Nat} (h : p[i]? = q[j]?) : at' p i = at' q j := by
 have e : ∀ (r : Array Nat) (k : Nat), at' r k = (r[k]?).getD 0 := fun r k => by simp [at']
 rw [e, e, h]
def Asc (le : Nat -> Nat -> Prop) (p : Array Nat) (m : Nat) : Prop := ∀ i j, i <= j -> j < m -> le (at' p i) (at' p j)
def Bel (n : Nat) (p : Array Nat) : Prop := ∀ k, at' p k < n
structure Ord (lt : Nat -> Nat -> Bool) (le : Nat -> Nat -> Prop) : Prop where
 tr : ∀ a b c, le a b -> le b c -> le a c
 rf : ∀ a, le a a
 yes : ∀ a b, lt a b = true -> le a b
 no : ∀ a b, lt a b = false -> le b a
theorem D6 (hn : 0 < n) (hp : p.Perm (List.range n).toArray) : Bel n p := fun k => by
 have e : at' p k = (p[k]?).getD 0 := by simp [at']
 rw [e]
 cases h : p[k]? with
 | none => exact hn
 | some v =>
  have hm : v ∈ p := Array.mem_of_getElem? h
  have := (Array.perm_iff_toList_perm.mp hp).mem_iff.mp (Array.mem_toList_iff.mpr hm)
  simpa using this
theorem bP {i j : Nat} (hj : j <= p.size) (k : Nat) : at' (kas_rev p i j) k = if i <= k /\ k < j then at' p (i + j - 1 - k) else at' p k := by
 have e := getElem?_mirror_all (i := i) hj k
 by_cases h : i <= k /\ k < j
 ·rw [if_pos h] at e ⊢; exact uA e
 ·rw [if_neg h] at e ⊢; exact uA e
variable {z : Nat}
theorem mU {src d : Nat} (hs : src < p.size) (hd : d <= src) (k : Nat) : at' (bubble p src d) k = if k = src - d then at' p src else if src - d < k /\ k <= src then at' p (k - 1) else at' p k := by
 have e := getElem?_bubble hs d hd k
 by_cases h1 : k = src - d
 ·rw [if_pos h1] at e ⊢; exact uA e
 ·rw [if_neg h1] at e ⊢
  by_cases h2 : src - d < k /\ k <= src
  ·rw [if_pos h2] at e ⊢; exact uA e
  ·rw [if_neg h2] at e ⊢; exact uA e
end
theorem xn {α : Type} {le : Nat -> Nat -> Prop} {p : Array Nat} {vs : List α} {d : α} (hp : p.Perm (List.range vs.length).toArray) (ha : Asc le p vs.length) :
  (p.toList.map fun i => vs.getD i d).Perm vs /\ ∀ R : α -> α -> Prop, (∀ i j, i < vs.length -> j < vs.length -> le i j -> R (vs.getD i d) (vs.getD j d)) -> (p.toList.map fun i => vs.getD i d).Pairwise R := by
 have hl : p.toList.Perm (List.range vs.length) := by simpa using Array.perm_iff_toList_perm.mp hp
 constructor
 ·have h1 : (p.toList.map fun i => vs.getD i d).Perm ((List.range vs.length).map fun i => vs.getD i d) := hl.map _
  have h2 : ((List.range vs.length).map fun i => vs.getD i d) = vs := by
   apply List.ext_getElem
   ·simp
   ·intro i h1 h2; simp at h1; simp [h1]
  rw [h2] at h1
  exact h1
 ·intro R hR
  rw [List.pairwise_map, List.pairwise_iff_getElem]
  intro i j hi hj hij
  have hs : p.toList.length = vs.length := by rw [hl.length_eq]; simp
  have m : ∀ k (hk : k < p.toList.length), p.toList[k] < vs.length := fun k hk => by simpa using hl.mem_iff.mp (List.getElem_mem hk)
  have a : ∀ k (hk : k < p.toList.length), at' p k = p.toList[k] := fun k hk => by
   have : k < p.size := by simpa using hk
   simp [at', Array.getD, this]
  refine hR _ _ (m i hi) (m j hj) ?_
  rw [<- a i hi, <- a j hj]
  exact ha i j (Nat.le_of_lt hij) (by lia)
def BU : Bool -> Keyed -> Array Keyed -> Nat -> Nat -> Nat -> StateT SortSt Sem (Option Nat) := sortPriv% PySem.Builtin.gallop
def Bi : Array Keyed -> Array Keyed -> StateT SortSt Sem (Array Keyed) := sortPriv% PySem.Builtin.mergeLo
def AR : Array Keyed -> Array Keyed -> StateT SortSt Sem (Array Keyed) := sortPriv% PySem.Builtin.mergeHi
section
variable {prog : Program} {w : World} {A : Around} {E : Value -> Shared -> Prop} {s : Shared} {κ : SortKind} {it : Array Keyed} {n : Nat} {lt : Nat -> Nat -> Bool} {le : Nat -> Nat -> Prop}
def rB (prog : Program) (w : World) (A : Around) (s : Shared) (κ : SortKind) (it : Array Keyed) (n : Nat) (lt : Nat -> Nat -> Bool) : Prop :=
 ∀ i j (C : Bool -> Shared -> Prop), i < n -> j < n -> C (lt i j) s -> kas_cmp prog w A κ it i j C s
theorem w_lt (hc : rB prog w A s κ it n lt) {i j : Nat} {Q : Option Bool -> SortSt -> Prop} {st : SortSt} (hk : kindOf st = κ) (hi : i < n) (hj : j < n) (h : Q (some (lt i j)) st) : wpS (model prog w) A E s (lt' (kas_item it i) (kas_item it j)) Q st := by
 rw [lt'_eq]
 refine wpS_bind (wpS_get ?_)
 rw [hk]
 refine wpS_bind (wpS_lift (wpAny_attempt (wpAny_mono (hc i j (fun c s' => s' = s /\ c = lt i j) hi hj ⟨rfl, rfl⟩) (fun c s' h' => ?_) fun _ _ hF => hF.elim)))
 obtain ⟨rfl, rfl⟩ := h'
 exact ⟨rfl, wpS_pure h⟩
theorem aG {X : Array Nat} {k : Nat} {Q : Keyed -> SortSt -> Prop} {st : SortSt} (hk : k < X.size) (h : Q (kas_item it (at' X k)) st) : wpS (model prog w) A E s (elem' (X.map (kas_item it)) k) Q st := by
 rw [elem'_eq]
 have e : at' X k = X[k] := by simp [at', hk]
 rw [e] at h
 have e2 : (X.map (kas_item it))[k]? = some (kas_item it X[k]) := by simp [hk]
 rw [e2]
 exact wpS_pure h
theorem bU (o : Ord lt le) (hc : rB prog w A s κ it n lt) {left : Bool} {key : Nat} {X : Array Nat} {base m hint : Nat} {Q : Option Nat -> SortSt -> Prop} {st : SortSt} (hk : kindOf st = κ) (hb : ∀ i, i < X.size -> at' X i < n) (hkey : key < n)
  (hz : base + m <= X.size) (hh : hint < m) (hs : ∀ i j, i <= j -> j < m -> le (at' X (base + i)) (at' X (base + j)))
  (h : ∀ k, k <= m -> (∀ i, i < k -> le (at' X (base + i)) key) -> (∀ i, k <= i -> i < m -> le key (at' X (base + i))) -> Q (some k) st) :
  wpS (model prog w) A E s (BU left (kas_item it key) (X.map (kas_item it)) base m hint) Q st := by
 have bey : ∀ i, i < m -> ∀ (R : Option Bool -> SortSt -> Prop), (∀ c, (c = true -> le (at' X (base + i)) key) -> (c = false -> le key (at' X (base + i))) -> R (some c) st) -> wpS (model prog w) A E s (do
   let x ← elem' (X.map (kas_item it)) (base + i)
   if left = true then lt' x (kas_item it key) else do
    let r ← lt' (kas_item it key) x
    pure (Option.map (fun x => !x) r)) R st := fun i hi R hR => by
  refine wpS_bind (aG (by lia) ?_)
  have hx := hb (base + i) (by lia)
  cases left with
  | true =>
   rw [if_pos rfl]
   exact w_lt hc hk hx hkey (hR _ (o.yes _ _) (o.no _ _))
  | false =>
   rw [if_neg (by decide)]
   refine wpS_bind (w_lt hc hk hkey hx (wpS_pure ?_))
   refine hR _ (fun e => o.no _ _ (by simpa using e)) (fun e => o.yes _ _ (by simpa using e))
 have lo' : ∀ k, k < m -> le (at' X (base + k)) key -> ∀ i, i <= k -> le (at' X (base + i)) key := fun k hk hl i hi => o.tr _ _ _ (hs i k hi hk) hl
 have hi' : ∀ k, k < m -> le key (at' X (base + k)) -> ∀ i, k <= i -> i < m -> le key (at' X (base + i)) := fun k hk hl i hi him => o.tr _ _ _ hl (hs k i hi him)
 refine wpS_bind (bey hint hh _ fun c c1 c2 => ?_)
 dsimp only
 cases c with
 | true =>
  rw [if_pos rfl]
  refine wpS_bind (wpS_mono (wpS_forRange (I := fun x c st' => st' = st /\ ∃ l f, c = (none, l, f) /\ x + 1 <= f /\ hint + l < m /\ le (at' X (base + (hint + l))) key)
   (Q := fun c st' => st' = st /\ ∃ l f, c = (none, l, f) /\ hint + l < m /\ le (at' X (base + (hint + l))) key /\ (f < m - hint -> le key (at' X (base + (hint + f))))) ?s1 ?f1 ?i1) ?p1)
  case i1 => exact ⟨rfl, 0, 1, rfl, by lia, by lia, c1 rfl⟩
  case f1 =>
   rintro c st' ⟨rfl, l, f, rfl, h1, h2, h3⟩
   exact ⟨rfl, l, f, rfl, h2, h3, fun _ => by lia⟩
  case s1 =>
   rintro x c st' _ hx ⟨rfl, l, f, rfl, h1, h2, h3⟩
   dsimp only
   by_cases hge : f ≥ m - hint
   ·rw [if_pos hge]
    exact wpS_pure ⟨rfl, l, f, rfl, h2, h3, fun _ => by lia⟩
   ·rw [if_neg hge]
    refine wpS_bind (bey (hint + f) (by lia) _ fun c d1 d2 => ?_)
    dsimp only
    cases c with
    | true => exact wpS_pure ⟨rfl, f, 2 * f + 1, rfl, by lia, by lia, d1 rfl⟩
    | false => exact wpS_pure ⟨rfl, l, f, rfl, h2, h3, fun _ => d2 rfl⟩
  case p1 =>
   rintro c st' ⟨rfl, l, f, rfl, h2, h3, h4⟩
   dsimp only
   have g1 : ∀ i, i < hint + l + 1 -> i < m -> le (at' X (base + i)) key := fun i hi _ => lo' _ h2 h3 i (by lia)
   have g2 : ∀ i, hint + min f (m - hint) <= i -> i < m -> le key (at' X (base + i)) := fun i hi him => hi' (hint + f) (by lia) (h4 (by lia)) i (by lia) him
   have g3 : hint + min f (m - hint) <= m := by lia
   generalize hint + l + 1 = L at g1 ⊢
   generalize hint + min f (m - hint) = H at g2 g3 ⊢
   refine wpS_bind (wpS_mono (wpS_forRange (I := fun x c st2 => st2 = st' /\ ∃ l h, c = (none, l, h) /\ h <= m /\ h - l <= m - x /\ (∀ i, i < l -> i < m -> le (at' X (base + i)) key) /\ (∀ i, h <= i -> i < m -> le key (at' X (base + i))))
    (Q := fun c st2 => st2 = st' /\ ∃ l h, c = (none, l, h) /\ h <= m /\ h <= l /\ (∀ i, i < l -> i < m -> le (at' X (base + i)) key) /\ (∀ i, h <= i -> i < m -> le key (at' X (base + i)))) ?s2 ?f2 ?i2) ?p2)
   case i2 => exact ⟨rfl, L, H, rfl, g3, by lia, g1, g2⟩
   case f2 =>
    rintro c st2 ⟨rfl, l, h, rfl, k1, k2, k3, k4⟩
    exact ⟨rfl, l, h, rfl, k1, by lia, k3, k4⟩
   case s2 =>
    rintro x c st2 _ hx ⟨rfl, l, h, rfl, k1, k2, k3, k4⟩
    dsimp only
    by_cases hge : l ≥ h
    ·rw [if_pos hge]
     exact wpS_pure ⟨rfl, l, h, rfl, k1, hge, k3, k4⟩
    ·rw [if_neg hge]
     refine wpS_bind (bey (l + (h - l) / 2) (by lia) _ fun c d1 d2 => ?_)
     dsimp only
     cases c with
     | true => exact wpS_pure ⟨rfl, _, _, rfl, k1, by lia, fun i hi him => lo' _ (by lia) (d1 rfl) i (by lia), k4⟩
     | false => exact wpS_pure ⟨rfl, _, _, rfl, by lia, by lia, k3, fun i hi him => hi' _ (by lia) (d2 rfl) i hi him⟩
   case p2 =>
    rintro c st2 ⟨rfl, l, h', rfl, k1, k2, k3, k4⟩
    exact wpS_pure (h h' k1 (fun i hi => k3 i (by lia) (by lia)) k4)
 | false =>
  rw [if_neg (by decide)]
  refine wpS_bind (wpS_mono (wpS_forRange (I := fun x c st' => st' = st /\ ∃ l f, c = (none, l, f) /\ x + 1 <= f /\ l <= hint /\ le key (at' X (base + (hint - l))))
   (Q := fun c st' => st' = st /\ ∃ l f, c = (none, l, f) /\ l <= hint /\ le key (at' X (base + (hint - l))) /\ (f < hint + 1 -> le (at' X (base + (hint - f))) key)) ?s1 ?f1 ?i1) ?p1)
  case i1 => exact ⟨rfl, 0, 1, rfl, by lia, by lia, c2 rfl⟩
  case f1 =>
   rintro c st' ⟨rfl, l, f, rfl, h1, h2, h3⟩
   exact ⟨rfl, l, f, rfl, h2, h3, fun _ => by lia⟩
  case s1 =>
   rintro x c st' _ hx ⟨rfl, l, f, rfl, h1, h2, h3⟩
   dsimp only
   by_cases hge : f ≥ hint + 1
   ·rw [if_pos hge]
    exact wpS_pure ⟨rfl, l, f, rfl, h2, h3, fun _ => by lia⟩
   ·rw [if_neg hge]
    refine wpS_bind (bey (hint - f) (by lia) _ fun c d1 d2 => ?_)
    dsimp only
    cases c with
    | true => exact wpS_pure ⟨rfl, l, f, rfl, h2, h3, fun _ => d1 rfl⟩
    | false => exact wpS_pure ⟨rfl, f, 2 * f + 1, rfl, by lia, by lia, d2 rfl⟩
  case p1 =>
   rintro c st' ⟨rfl, l, f, rfl, h2, h3, h4⟩
   dsimp only
   have g1 : ∀ i, i < hint + 1 - min f (hint + 1) -> i < m -> le (at' X (base + i)) key := fun i hi _ => lo' (hint - f) (by lia) (h4 (by lia)) i (by lia)
   have g2 : ∀ i, hint - l <= i -> i < m -> le key (at' X (base + i)) := fun i hi him => hi' (hint - l) (by lia) h3 i (by lia) him
   have g3 : hint - l <= m := by lia
   generalize hint + 1 - min f (hint + 1) = L at g1 ⊢
   generalize hint - l = H at g2 g3 ⊢
   refine wpS_bind (wpS_mono (wpS_forRange (I := fun x c st2 => st2 = st' /\ ∃ l h, c = (none, l, h) /\ h <= m /\ h - l <= m - x /\ (∀ i, i < l -> i < m -> le (at' X (base + i)) key) /\ (∀ i, h <= i -> i < m -> le key (at' X (base + i))))
    (Q := fun c st2 => st2 = st' /\ ∃ l h, c = (none, l, h) /\ h <= m /\ h <= l /\ (∀ i, i < l -> i < m -> le (at' X (base + i)) key) /\ (∀ i, h <= i -> i < m -> le key (at' X (base + i)))) ?s2 ?f2 ?i2) ?p2)
   case i2 => exact ⟨rfl, L, H, rfl, g3, by lia, g1, g2⟩
   case f2 =>
    rintro c st2 ⟨rfl, l, h, rfl, k1, k2, k3, k4⟩
    exact ⟨rfl, l, h, rfl, k1, by lia, k3, k4⟩
   case s2 =>
    rintro x c st2 _ hx ⟨rfl, l, h, rfl, k1, k2, k3, k4⟩
    dsimp only
    by_cases hge : l ≥ h
    ·rw [if_pos hge]
     exact wpS_pure ⟨rfl, l, h, rfl, k1, hge, k3, k4⟩
    ·rw [if_neg hge]
     refine wpS_bind (bey (l + (h - l) / 2) (by lia) _ fun c d1 d2 => ?_)
     dsimp only
     cases c with
     | true => exact wpS_pure ⟨rfl, _, _, rfl, k1, by lia, fun i hi him => lo' _ (by lia) (d1 rfl) i (by lia), k4⟩
     | false => exact wpS_pure ⟨rfl, _, _, rfl, by lia, by lia, k3, fun i hi him => hi' _ (by lia) (d2 rfl) i hi him⟩
   case p2 =>
    rintro c st2 ⟨rfl, l, h', rfl, k1, k2, k3, k4⟩
    exact wpS_pure (h h' k1 (fun i hi => k3 i (by lia) (by lia)) k4)
end
end Srt
namespace Srt
section
variable {le : Nat -> Nat -> Prop} {tot out ra rb xs : List Nat}
def Inv (le : Nat -> Nat -> Prop) (tot out ra rb : List Nat) : Prop := (out ++ ra).Pairwise le /\ (out ++ rb).Pairwise le /\ (out ++ (ra ++ rb)).Perm tot
theorem Inv.symm (h : Inv le tot out ra rb) : Inv le tot out rb ra := ⟨h.2.1, h.1, (List.Perm.append_left _ List.perm_append_comm).trans h.2.2⟩
theorem Inv.block (h : Inv le tot out (xs ++ ra) rb) (k : ∀ x ∈ xs, ∀ y ∈ rb, le x y) : Inv le tot (out ++ xs) ra rb := by
 obtain ⟨h1, h2, h3⟩ := h
 refine ⟨by rw [List.append_assoc]; exact h1, ?_, by rw [List.append_assoc, <- List.append_assoc xs]; exact h3⟩
 rw [List.pairwise_append] at h1 h2
 rw [List.append_assoc, List.pairwise_append]
 obtain ⟨a1, a2, a3⟩ := h1
 obtain ⟨b1, b2, b3⟩ := h2
 rw [List.pairwise_append] at a2
 refine ⟨a1, List.pairwise_append.mpr ⟨a2.1, b2, k⟩, fun x hx y hy => ?_⟩
 rcases List.mem_append.mp hy with hy | hy
 ·exact a3 x hx y (List.mem_append_left _ hy)
 ·exact b3 x hx y hy
theorem Inv.doneA (h : Inv le tot out ra []) : (out ++ ra).Pairwise le /\ (out ++ ra).Perm tot := ⟨h.1, by have := h.2.2; rwa [List.append_nil] at this⟩
theorem Inv.lastA {x : Nat} (h : Inv le tot out [x] rb) (k : ∀ y ∈ rb, le y x) : (out ++ (rb ++ [x])).Pairwise le /\ (out ++ (rb ++ [x])).Perm tot := by
 refine ⟨?_, (List.Perm.append_left _ List.perm_append_comm).trans h.2.2⟩
 obtain ⟨h1, h2, _⟩ := h
 rw [List.pairwise_append] at h1 h2
 rw [List.pairwise_append]
 refine ⟨h1.1, List.pairwise_append.mpr ⟨h2.2.1, List.pairwise_singleton _ _, fun y hy z hz => ?_⟩, fun a ha b hb => ?_⟩
 ·rw [List.mem_singleton] at hz; subst hz; exact k y hy
 ·rcases List.mem_append.mp hb with hb | hb
  ·exact h2.2.2 a ha b hb
  ·exact h1.2.2 a ha b hb
end
section
variable {X Y O : Array Nat} {le : Nat -> Nat -> Prop} {tot : List Nat}
theorem DN {i : Nat} (h : i < X.size) : at' X i = X[i] := by simp [at', h]
theorem jd {i : Nat} (h : i < X.size) : X.toList[i]'(by simpa using h) = at' X i := by rw [DN h]; simp
theorem tX {i : Nat} (h : i < X.size) : X.toList.drop i = at' X i :: X.toList.drop (i + 1) := by
 rw [List.drop_eq_getElem_cons (by simpa using h), jd h]
theorem lZ {i j : Nat} (h : i <= j) : X.toList.drop i = (X.extract i j).toList ++ X.toList.drop j := by
 rw [Array.toList_extract, List.extract_eq_take_drop]
 have e : X.toList.drop j = (X.toList.drop i).drop (j - i) := by rw [List.drop_drop]; congr 1; lia
 rw [e, List.take_append_drop]
theorem pF {i x : Nat} (h : x ∈ X.toList.drop i) : ∃ j, i <= j /\ j < X.size /\ at' X j = x := by
 obtain ⟨k, hk⟩ := List.getElem?_of_mem h
 rw [List.getElem?_drop] at hk
 obtain ⟨h1, h2⟩ := List.getElem?_eq_some_iff.mp hk
 have h1' : i + k < X.size := by simpa using h1
 exact ⟨i + k, by lia, h1', by rw [<- jd h1']; exact h2⟩
theorem oH {i j x : Nat} (h : x ∈ (X.extract i j).toList) : ∃ k, i <= k /\ k < j /\ k < X.size /\ at' X k = x := by
 obtain ⟨k, hk⟩ := List.getElem?_of_mem h
 rw [Array.toList_extract, List.extract_eq_take_drop, List.getElem?_take] at hk
 split at hk
 ·rw [List.getElem?_drop] at hk
  obtain ⟨h1, h2⟩ := List.getElem?_eq_some_iff.mp hk
  have h1' : i + k < X.size := by simpa using h1
  exact ⟨i + k, by lia, by lia, h1', by rw [<- jd h1']; exact h2⟩
 ·cases hk
abbrev J (le : Nat -> Nat -> Prop) (tot : List Nat) (X Y O : Array Nat) (ia ib : Nat) : Prop := Inv le tot O.toList (X.toList.drop ia) (Y.toList.drop ib)
variable {ia ib : Nat}
theorem J.one (j : J le tot X Y O ia ib) (h : ia < X.size) (k : ∀ i, ib <= i -> i < Y.size -> le (at' X ia) (at' Y i)) : J le tot X Y (O.push (at' X ia)) (ia + 1) ib := by
 unfold J at j ⊢
 rw [tX h] at j
 have := Inv.block (xs := [at' X ia]) j (fun x hx y hy => by
  rw [List.mem_singleton] at hx
  subst hx
  obtain ⟨i, h1, h2, rfl⟩ := pF hy
  exact k i h1 h2)
 rwa [Array.toList_push]
theorem J.blk {m : Nat} (j : J le tot X Y O ia ib) (k : ∀ i l, ia <= i -> i < ia + m -> i < X.size -> ib <= l -> l < Y.size -> le (at' X i) (at' Y l)) : J le tot X Y (O ++ X.extract ia (ia + m)) (ia + m) ib := by
 unfold J at j ⊢
 rw [lZ (j := ia + m) (by lia)] at j
 have := Inv.block j (fun x hx y hy => by
  obtain ⟨i, h1, h2, h3, rfl⟩ := oH hx
  obtain ⟨l, h4, h5, rfl⟩ := pF hy
  exact k i l h1 h2 h3 h4 h5)
 rwa [Array.toList_append]
theorem J.sy (j : J le tot X Y O ia ib) : J le tot Y X O ib ia := Inv.symm j
abbrev jr (le : Nat -> Nat -> Prop) (tot : List Nat) (R : Array Nat) : Prop := R.toList.Pairwise le /\ R.toList.Perm tot
theorem J.done1 (j : J le tot X Y O ia ib) (h : Y.size <= ib) (h2 : ia <= X.size) : jr le tot (O ++ X.extract ia X.size ++ Y.extract ib Y.size) := by
 unfold J at j
 rw [List.drop_of_length_le (l := Y.toList) (by simpa using h)] at j
 have e : (Y.extract ib Y.size) = #[] := by simp; lia
 have e2 : X.toList.drop ia = (X.extract ia X.size).toList := by rw [lZ h2]; simp
 rw [e, Array.append_empty]
 unfold jr
 rw [Array.toList_append, <- e2]
 exact j.doneA
theorem J.done2 (j : J le tot X Y O ia ib) (h : X.size <= ia) (h2 : ib <= Y.size) : jr le tot (O ++ X.extract ia X.size ++ Y.extract ib Y.size) := by
 have e : (X.extract ia X.size) = #[] := by simp; lia
 have := j.sy.done1 h h2
 rw [e, Array.append_empty] at this ⊢
 exact this
theorem J.last (j : J le tot X Y O ia ib) (h : ia + 1 = X.size) (h2 : ib <= Y.size) (k : ∀ i, i < Y.size -> le (at' Y i) (at' X ia)) : jr le tot (O ++ Y.extract ib Y.size ++ X.extract ia X.size) := by
 unfold J at j
 rw [tX (by lia), List.drop_of_length_le (l := X.toList) (i := ia + 1) (by simp; lia)] at j
 have := j.lastA fun y hy => by
  obtain ⟨i, h1, h2, rfl⟩ := pF hy
  exact k i h2
 have e : (X.extract ia X.size).toList = [at' X ia] := by
  have e2 : X.toList.drop ia = (X.extract ia X.size).toList := by rw [lZ (j := X.size) (by lia)]; simp
  rw [<- e2, tX (by lia), List.drop_of_length_le (l := X.toList) (i := ia + 1) (by simp; lia)]
 have e3 : Y.toList.drop ib = (Y.extract ib Y.size).toList := by rw [lZ h2]; simp
 unfold jr
 rw [Array.toList_append, Array.toList_append, e, <- e3, List.append_assoc]
 exact this
end
end Srt
namespace Srt
open PySem PySem.W PyProof.Rows
section
variable {prog : Program} {w : World} {A : Around} {E : Value -> Shared -> Prop} {s : Shared} {κ : SortKind} {it : Array Keyed} {n : Nat} {lt : Nat -> Nat -> Bool} {le : Nat -> Nat -> Prop}
def Same (κ : SortKind) (st st' : SortSt) : Prop := kindOf st' = κ /\ arrOf st' = arrOf st /\ pendingOf st' = pendingOf st /\ failedOf st' = failedOf st
theorem Same.g {st st2 : SortSt} (h : Same κ st st2) (g : Nat) : Same κ st (SortSt.mk' (kindOf st2) (arrOf st2) (pendingOf st2) g (failedOf st2)) := h
theorem bu {σ α : Type} {M : Model} {c : Prop} [Decidable c] {a b : StateT σ Sem α} {Q : α -> σ -> Prop} {st : σ} (h1 : wpS M A E s a Q st) (h2 : wpS M A E s b Q st) : wpS M A E s (if c then a else b) Q st := by
 by_cases h : c
 ·rw [if_pos h]; exact h1
 ·rw [if_neg h]; exact h2
theorem exm (f : Nat -> Keyed) (Z : Array Nat) : (Z.map f).extract 0 Z.size = Z.map f := by
 have : Z.size = (Z.map f).size := by simp
 rw [this]; simp
theorem yf {X : Array Nat} (h : ∀ i j, i <= j -> j < X.size -> le (at' X i) (at' X j)) : X.toList.Pairwise le := by
 rw [List.pairwise_iff_getElem]
 intro i j hi hj hij
 have h2 : j < X.size := by simpa using hj
 rw [jd (by lia), jd h2]
 exact h i j (by lia) h2
theorem yU (o : Ord lt le) (hc : rB prog w A s κ it n lt) {X Y : Array Nat} {Q : Array Keyed -> SortSt -> Prop} {st : SortSt} (hk : kindOf st = κ) (hx : ∀ i, i < X.size -> at' X i < n) (hy : ∀ i, i < Y.size -> at' Y i < n)
  (x1 : 1 <= X.size) (y1 : 1 <= Y.size) (sx : ∀ i j, i <= j -> j < X.size -> le (at' X i) (at' X j)) (sy : ∀ i j, i <= j -> j < Y.size -> le (at' Y i) (at' Y j)) (hf : ∀ i, i < X.size -> le (at' Y 0) (at' X i)) (hl : ∀ i, i < Y.size -> le (at' Y i) (at' X (X.size - 1)))
  (h : ∀ R st', Same κ st st' -> jr le (X.toList ++ Y.toList) R -> Q (R.map (kas_item it)) st') :
  wpS (model prog w) A E s (Bi (X.map (kas_item it)) (Y.map (kas_item it))) Q st := by
 have sm0 : Same κ st st := ⟨hk, rfl, rfl, rfl⟩
 have j0 : J le (X.toList ++ Y.toList) X Y #[] 0 0 := ⟨by simpa using yf sx, by simpa using yf sy, by simp⟩
 have j1 : J le (X.toList ++ Y.toList) X Y #[at' Y 0] 0 1 := (j0.sy.one (by lia) fun i _ h2 => hf i h2).sy
 refine wpS_bind (wpS_lift (wpAny_rule ⟨rfl, ?_⟩))
 refine wpS_bind (aG (by lia) ?_)
 dsimp only
 simp only [Array.size_map, beq_iff_eq]
 by_cases e1 : 1 = Y.size
 ·rw [if_pos e1]
  refine wpS_pure ?_
  have := h _ st sm0 (j1.done1 (by lia) (by lia))
  simpa [exm] using this
 rw [if_neg e1]
 by_cases e2 : 0 + 1 = X.size
 ·rw [if_pos e2]
  refine wpS_pure ?_
  have := h _ st sm0 (j1.last (by lia) (by lia) fun i hi => by have := hl i hi; rwa [show X.size - 1 = 0 by lia] at this)
  simpa [exm] using this
 rw [if_neg e2]
 refine wpS_bind (wpS_get ?_)
 refine wpS_bind (wpS_mono (wpS_forRange (I := fun x c st2 => Same κ st st2 /\ ∃ O ia ib g, c = (none, O.map (kas_item it), ia, ib, g) /\ ia + 1 < X.size /\ ib < Y.size /\ x + 1 <= ia + ib /\ J le (X.toList ++ Y.toList) X Y O ia ib)
  (Q := fun c st2 => ∃ R, c.1 = some (R.map (kas_item it)) /\ jr le (X.toList ++ Y.toList) R /\ Same κ st st2) ?s1 ?f1 ?i1) ?p1)
 case i1 => exact ⟨sm0, #[at' Y 0], 0, 1, _, by simp; rfl, by lia, by lia, by lia, j1⟩
 case f1 =>
  rintro c st2 ⟨sm, O, ia, ib, g, rfl, la, lb, ls, j⟩
  lia
 case p1 =>
  rintro ⟨c, c'⟩ st2 ⟨R, hc1, hR, sm⟩
  dsimp only at hc1
  subst hc1
  exact wpS_pure (h R st2 sm hR)
 case s1 =>
  rintro x c st2 _ hx0 ⟨sm, O, ia, ib, g, rfl, la, lb, ls, j⟩
  dsimp only
  -- one by one
  refine wpS_bind (wpS_mono (wpS_forRange (I := fun y c st2 => Same κ st st2 /\ ∃ O ia ib a b, c = (none, O.map (kas_item it), ia, ib, a, b) /\ ia + 1 < X.size /\ ib < Y.size /\ x + 1 + y <= ia + ib /\ J le (X.toList ++ Y.toList) X Y O ia ib)
   (Q := fun c st2 => (∃ R, c.1 = some (R.map (kas_item it)) /\ jr le (X.toList ++ Y.toList) R /\ Same κ st st2) \/ (Same κ st st2 /\ ∃ O ia ib a b, c = (none, O.map (kas_item it), ia, ib, a, b) /\ ia + 1 < X.size /\ ib < Y.size /\ x + 1 + 1 <= ia + ib /\ J le (X.toList ++ Y.toList) X Y O ia ib)) ?s2 ?f2 ?i2) ?p2)
  case i2 => exact ⟨sm, O, ia, ib, 0, 0, rfl, la, lb, ls, j⟩
  case f2 =>
   rintro c st2 ⟨sm, O, ia, ib, a, b, rfl, la, lb, ls, j⟩
   lia
  case s2 =>
   clear la lb ls j sm
   rintro y c st2 _ hy0 ⟨sm, O, ia, ib, a, b, rfl, la, lb, ls, j⟩
   dsimp only
   refine wpS_bind (aG lb ?_)
   refine wpS_bind (aG (by lia) ?_)
   refine wpS_bind (w_lt hc sm.1 (hy ib lb) (hx ia (by lia)) ?_)
   dsimp only
   cases cw : lt (at' Y ib) (at' X ia) with
   | true =>
    rw [if_pos rfl]
    have l0 := o.yes _ _ cw
    have j2 : J le (X.toList ++ Y.toList) X Y (O.push (at' Y ib)) ia (ib + 1) := (j.sy.one lb fun i h1 h2 => o.tr _ _ _ l0 (sx _ _ h1 h2)).sy
    refine wpS_bind (aG lb ?_)
    by_cases e3 : ib + 1 = Y.size
    ·rw [if_pos e3]
     refine wpS_pure (.inl ⟨(O.push (at' Y ib)) ++ X.extract ia X.size ++ Y.extract (ib + 1) Y.size, ?_, j2.done1 (by lia) (by lia), sm⟩)
     simp
    ·rw [if_neg e3]
     refine bu ?_ ?_
     ·exact wpS_pure (.inr ⟨sm, O.push (at' Y ib), ia, ib + 1, _, _, by rw [Array.map_push], by lia, by lia, by lia, j2⟩)
     ·exact wpS_pure ⟨sm, O.push (at' Y ib), ia, ib + 1, _, _, by rw [Array.map_push], by lia, by lia, by lia, j2⟩
   | false =>
    rw [if_neg (by decide)]
    have l0 := o.no _ _ cw
    have j2 := j.one (by lia) fun i h1 h2 => o.tr _ _ _ l0 (sy _ _ h1 h2)
    refine wpS_bind (aG (by lia) ?_)
    by_cases e3 : ia + 1 + 1 = X.size
    ·rw [if_pos e3]
     refine wpS_pure (.inl ⟨(O.push (at' X ia)) ++ Y.extract ib Y.size ++ X.extract (ia + 1) X.size, ?_, j2.last (by lia) (by lia) (fun i hi => by have := hl i hi; rwa [show X.size - 1 = ia + 1 by lia] at this), sm⟩)
     simp
    ·rw [if_neg e3]
     refine bu ?_ ?_
     ·exact wpS_pure (.inr ⟨sm, O.push (at' X ia), ia + 1, ib, _, _, by rw [Array.map_push], by lia, by lia, by lia, j2⟩)
     ·exact wpS_pure ⟨sm, O.push (at' X ia), ia + 1, ib, _, _, by rw [Array.map_push], by lia, by lia, by lia, j2⟩
  case p2 =>
   clear la lb ls j sm
   rintro ⟨c, c'⟩ st2 (⟨R, hc1, hR, sm⟩ | ⟨sm, O, ia, ib, a, b, hcc, la, lb, ls, j⟩)
   ·dsimp only at hc1
    subst hc1
    exact wpS_pure ⟨R, rfl, hR, sm⟩
   cases hcc
   dsimp only
   refine wpS_bind (wpS_lift (wpAny_rule ⟨rfl, ?_⟩))
   have hst : ∃ a6, a6 = x + 1 + 1 := ⟨_, rfl⟩
   obtain ⟨a6, hst⟩ := hst
   rw [<- hst] at ls
   refine wpS_bind (wpS_mono (wpS_forRange (I := fun y c st2 => Same κ st st2 /\ ∃ O ia ib m a b, c = (none, O.map (kas_item it), ia, ib, m, a, b) /\ ia + 1 < X.size /\ ib < Y.size /\ a6 <= ia + ib /\ J le (X.toList ++ Y.toList) X Y O ia ib)
    (Q := fun c st2 => (∃ R, c.1 = some (R.map (kas_item it)) /\ jr le (X.toList ++ Y.toList) R /\ Same κ st st2) \/ (Same κ st st2 /\ ∃ O ia ib m a b, c = (none, O.map (kas_item it), ia, ib, m, a, b) /\ ia + 1 < X.size /\ ib < Y.size /\ a6 <= ia + ib /\ J le (X.toList ++ Y.toList) X Y O ia ib)) ?s3 ?f3 ?i3) ?p3)
   case i3 => exact ⟨sm, O, ia, ib, _, _, _, rfl, la, lb, ls, j⟩
   case f3 => exact fun c st2 h => .inr h
   case p3 =>
    clear la lb ls j sm
    rintro ⟨c, c'⟩ st2 (⟨R, hc1, hR, sm⟩ | ⟨sm, O, ia, ib, m, a, b, hcc, la, lb, ls, j⟩)
    ·dsimp only at hc1
     subst hc1
     exact wpS_pure ⟨R, rfl, hR, sm⟩
    cases hcc
    dsimp only
    refine wpS_bind (wpS_modify (wpS_pure ?_))
    exact ⟨sm.g _, O, ia, ib, _, rfl, la, lb, by lia, j⟩
   case s3 =>
    clear la lb ls j sm
    rintro y c st2 _ hy0 ⟨sm, O, ia, ib, m, a, b, rfl, la, lb, ls, j⟩
    dsimp only
    by_cases hm : m > 1
    ·rw [if_pos hm]
     refine wpS_bind (wpS_modify ?_)
     replace sm := sm.g (m - 1)
     refine wpS_bind (aG lb ?_)
     refine wpS_bind (bU o hc sm.1 hx (hy ib lb) (by lia) (by lia) (fun i k h1 h2 => sx _ _ (by lia) (by lia)) fun k k1 k2 k3 => ?_)
     dsimp only
     have k2' : ∀ i, ia <= i -> i < ia + k -> le (at' X i) (at' Y ib) := fun i h1 h2 => by
      have := k2 (i - ia) (by lia)
      rwa [show ia + (i - ia) = i by lia] at this
     have ky : ∀ i, ia + k <= i -> i < X.size -> le (at' Y ib) (at' X i) := fun i h1 h2 => by
      have := k3 (i - ia) (by lia) (by lia)
      rwa [show ia + (i - ia) = i by lia] at this
     by_cases k0 : k > 0
     ·rw [if_pos k0]
      replace j := j.blk (m := k) fun i l h1 h2 h3 h4 h5 => o.tr _ _ _ (k2' i h1 h2) (sy _ _ h4 h5)
      have eO : O.map (kas_item it) ++ (X.map (kas_item it)).extract ia (ia + k) = (O ++ X.extract ia (ia + k)).map (kas_item it) := by simp
      rw [eO]
      by_cases e1 : ia + k + 1 = X.size
      ·rw [if_pos e1]
       refine wpS_pure (.inl ⟨O ++ X.extract ia (ia + k) ++ Y.extract ib Y.size ++ X.extract (ia + k) X.size, ?_, j.last (by lia) (by lia) (fun i hi => by have := hl i hi; rwa [show X.size - 1 = ia + k by lia] at this), sm⟩)
       simp
      rw [if_neg e1]
      by_cases e2 : ia + k = X.size
      ·rw [if_pos e2]
       refine wpS_pure (.inl ⟨O ++ X.extract ia (ia + k) ++ X.extract (ia + k) X.size ++ Y.extract ib Y.size, ?_, j.done2 (by lia) (by lia), sm⟩)
       simp
      rw [if_neg e2]
      have la2 : ia + k + 1 < X.size := by lia
      have ls2 : a6 <= ia + k + ib := by lia
      clear k2' k2 k3 eO e1 e2
      generalize O ++ X.extract ia (ia + k) = O at j ⊢
      generalize hia : ia + k = ia at j la2 ls2 ky ⊢
      clear la ls k1 hia
      rename_i ia0 _
      clear k0
      have la := la2
      have ls := ls2
      -- y0
      refine wpS_bind (aG lb ?_)
      have j2 : J le (X.toList ++ Y.toList) X Y (O.push (at' Y ib)) ia (ib + 1) := (j.sy.one lb fun i h1 h2 => ky i h1 h2).sy
      by_cases e3 : ib + 1 = Y.size
      ·rw [if_pos e3]
       refine wpS_pure (.inl ⟨(O.push (at' Y ib)) ++ X.extract ia X.size ++ Y.extract (ib + 1) Y.size, ?_, j2.done1 (by lia) (by lia), sm⟩)
       simp
      ·rw [if_neg e3]
       refine wpS_bind (aG (by lia) ?_)
       refine wpS_bind (bU o hc sm.1 hy (hx ia (by lia)) (by lia) (by lia) (fun i k h1 h2 => sy _ _ (by lia) (by lia)) fun k k1 k2 k3 => ?_)
       dsimp only
       have k2' : ∀ i, ib + 1 <= i -> i < ib + 1 + k -> le (at' Y i) (at' X ia) := fun i h1 h2 => by
        have := k2 (i - (ib + 1)) (by lia)
        rwa [show ib + 1 + (i - (ib + 1)) = i by lia] at this
       have k3' : ∀ i, ib + 1 + k <= i -> i < Y.size -> le (at' X ia) (at' Y i) := fun i h1 h2 => by
        have := k3 (i - (ib + 1)) (by lia) (by lia)
        rwa [show ib + 1 + (i - (ib + 1)) = i by lia] at this
       have j3 : J le (X.toList ++ Y.toList) X Y (O.push (at' Y ib) ++ Y.extract (ib + 1) (ib + 1 + k)) ia (ib + 1 + k) := (j2.sy.blk fun i l h1 h2 h3 h4 h5 => o.tr _ _ _ (k2' i h1 h2) (sx _ _ h4 h5)).sy
       by_cases k0 : k > 0
       ·rw [if_pos k0]
        by_cases e4 : ib + 1 + k = Y.size
        ·rw [if_pos e4]
         refine wpS_pure (.inl ⟨(O.push (at' Y ib)) ++ Y.extract (ib + 1) (ib + 1 + k) ++ X.extract ia X.size ++ Y.extract (ib + 1 + k) Y.size, ?_, j3.done1 (by lia) (by lia), sm⟩)
         simp
        ·rw [if_neg e4]
         refine wpS_bind (aG (by lia) ?_)
         have j4 := j3.one (by lia) fun i h1 h2 => k3' i h1 h2
         by_cases e5 : ia + 1 + 1 = X.size
         ·rw [if_pos e5]
          refine wpS_pure (.inl ⟨(O.push (at' Y ib) ++ Y.extract (ib + 1) (ib + 1 + k)).push (at' X ia) ++ Y.extract (ib + 1 + k) Y.size ++ X.extract (ia + 1) X.size, ?_, j4.last (by lia) (by lia) (fun i hi => by have := hl i hi; rwa [show X.size - 1 = ia + 1 by lia] at this), sm⟩)
          simp
         ·rw [if_neg e5]
          have fin : ∀ m c d, ∃ O' ia' ib' m' c' d', ((none, ((O.map (kas_item it)).push (kas_item it (at' Y ib)) ++ (Y.map (kas_item it)).extract (ib + 1) (ib + 1 + k)).push (kas_item it (at' X ia)), ia + 1, ib + 1 + k, m, c, d) : Option (Array Keyed) × Array Keyed × Nat × Nat × Nat × Nat × Nat) = (none, O'.map (kas_item it), ia', ib', m', c', d') /\ ia' + 1 < X.size /\ ib' < Y.size /\ a6 <= ia' + ib' /\ J le (X.toList ++ Y.toList) X Y O' ia' ib' := fun m c d => ⟨_, _, _, m, c, d, by rw [show (((O.map (kas_item it)).push (kas_item it (at' Y ib)) ++ (Y.map (kas_item it)).extract (ib + 1) (ib + 1 + k)).push (kas_item it (at' X ia))) = ((O.push (at' Y ib) ++ Y.extract (ib + 1) (ib + 1 + k)).push (at' X ia)).map (kas_item it) by simp], by lia, by lia, by lia, j4⟩
          refine bu ?_ ?_
          ·exact wpS_pure (.inr ⟨sm, fin _ _ _⟩)
          ·exact wpS_pure ⟨sm, fin _ _ _⟩
       ·rw [if_neg k0]
        have k00 : k = 0 := by lia
        subst k00
        have j3' : J le (X.toList ++ Y.toList) X Y (O.push (at' Y ib)) ia (ib + 1) := j2
        refine wpS_bind (aG (by lia) ?_)
        have j4 := j3'.one (by lia) fun i h1 h2 => k3' i (by lia) h2
        by_cases e5 : ia + 1 + 1 = X.size
        ·rw [if_pos e5]
         refine wpS_pure (.inl ⟨(O.push (at' Y ib)).push (at' X ia) ++ Y.extract (ib + 1) Y.size ++ X.extract (ia + 1) X.size, ?_, j4.last (by lia) (by lia) (fun i hi => by have := hl i hi; rwa [show X.size - 1 = ia + 1 by lia] at this), sm⟩)
         simp
        ·rw [if_neg e5]
         have fin : ∀ m c d, ∃ O' ia' ib' m' c' d', ((none, ((O.map (kas_item it)).push (kas_item it (at' Y ib))).push (kas_item it (at' X ia)), ia + 1, ib + 1, m, c, d) : Option (Array Keyed) × Array Keyed × Nat × Nat × Nat × Nat × Nat) = (none, O'.map (kas_item it), ia', ib', m', c', d') /\ ia' + 1 < X.size /\ ib' < Y.size /\ a6 <= ia' + ib' /\ J le (X.toList ++ Y.toList) X Y O' ia' ib' := fun m c d => ⟨_, _, _, m, c, d, by rw [show ((O.map (kas_item it)).push (kas_item it (at' Y ib))).push (kas_item it (at' X ia)) = ((O.push (at' Y ib)).push (at' X ia)).map (kas_item it) by simp], by lia, by lia, by lia, j4⟩
         refine bu ?_ ?_
         ·exact wpS_pure (.inr ⟨sm, fin _ _ _⟩)
         ·exact wpS_pure ⟨sm, fin _ _ _⟩
     ·rw [if_neg k0]
      have k00 : k = 0 := by lia
      subst k00
      replace ky : ∀ i, ia <= i -> i < X.size -> le (at' Y ib) (at' X i) := ky
      -- y0
      refine wpS_bind (aG lb ?_)
      have j2 : J le (X.toList ++ Y.toList) X Y (O.push (at' Y ib)) ia (ib + 1) := (j.sy.one lb fun i h1 h2 => ky i h1 h2).sy
      by_cases e3 : ib + 1 = Y.size
      ·rw [if_pos e3]
       refine wpS_pure (.inl ⟨(O.push (at' Y ib)) ++ X.extract ia X.size ++ Y.extract (ib + 1) Y.size, ?_, j2.done1 (by lia) (by lia), sm⟩)
       simp
      ·rw [if_neg e3]
       refine wpS_bind (aG (by lia) ?_)
       refine wpS_bind (bU o hc sm.1 hy (hx ia (by lia)) (by lia) (by lia) (fun i k h1 h2 => sy _ _ (by lia) (by lia)) fun k k1 k2 k3 => ?_)
       dsimp only
       have k2' : ∀ i, ib + 1 <= i -> i < ib + 1 + k -> le (at' Y i) (at' X ia) := fun i h1 h2 => by
        have := k2 (i - (ib + 1)) (by lia)
        rwa [show ib + 1 + (i - (ib + 1)) = i by lia] at this
       have k3' : ∀ i, ib + 1 + k <= i -> i < Y.size -> le (at' X ia) (at' Y i) := fun i h1 h2 => by
        have := k3 (i - (ib + 1)) (by lia) (by lia)
        rwa [show ib + 1 + (i - (ib + 1)) = i by lia] at this
       have j3 : J le (X.toList ++ Y.toList) X Y (O.push (at' Y ib) ++ Y.extract (ib + 1) (ib + 1 + k)) ia (ib + 1 + k) := (j2.sy.blk fun i l h1 h2 h3 h4 h5 => o.tr _ _ _ (k2' i h1 h2) (sx _ _ h4 h5)).sy
       by_cases k0 : k > 0
       ·rw [if_pos k0]
        by_cases e4 : ib + 1 + k = Y.size
        ·rw [if_pos e4]
         refine wpS_pure (.inl ⟨(O.push (at' Y ib)) ++ Y.extract (ib + 1) (ib + 1 + k) ++ X.extract ia X.size ++ Y.extract (ib + 1 + k) Y.size, ?_, j3.done1 (by lia) (by lia), sm⟩)
         simp
        ·rw [if_neg e4]
         refine wpS_bind (aG (by lia) ?_)
         have j4 := j3.one (by lia) fun i h1 h2 => k3' i h1 h2
         by_cases e5 : ia + 1 + 1 = X.size
         ·rw [if_pos e5]
          refine wpS_pure (.inl ⟨(O.push (at' Y ib) ++ Y.extract (ib + 1) (ib + 1 + k)).push (at' X ia) ++ Y.extract (ib + 1 + k) Y.size ++ X.extract (ia + 1) X.size, ?_, j4.last (by lia) (by lia) (fun i hi => by have := hl i hi; rwa [show X.size - 1 = ia + 1 by lia] at this), sm⟩)
          simp
         ·rw [if_neg e5]
          have fin : ∀ m c d, ∃ O' ia' ib' m' c' d', ((none, ((O.map (kas_item it)).push (kas_item it (at' Y ib)) ++ (Y.map (kas_item it)).extract (ib + 1) (ib + 1 + k)).push (kas_item it (at' X ia)), ia + 1, ib + 1 + k, m, c, d) : Option (Array Keyed) × Array Keyed × Nat × Nat × Nat × Nat × Nat) = (none, O'.map (kas_item it), ia', ib', m', c', d') /\ ia' + 1 < X.size /\ ib' < Y.size /\ a6 <= ia' + ib' /\ J le (X.toList ++ Y.toList) X Y O' ia' ib' := fun m c d => ⟨_, _, _, m, c, d, by rw [show (((O.map (kas_item it)).push (kas_item it (at' Y ib)) ++ (Y.map (kas_item it)).extract (ib + 1) (ib + 1 + k)).push (kas_item it (at' X ia))) = ((O.push (at' Y ib) ++ Y.extract (ib + 1) (ib + 1 + k)).push (at' X ia)).map (kas_item it) by simp], by lia, by lia, by lia, j4⟩
          refine bu ?_ ?_
          ·exact wpS_pure (.inr ⟨sm, fin _ _ _⟩)
          ·exact wpS_pure ⟨sm, fin _ _ _⟩
       ·rw [if_neg k0]
        have k00 : k = 0 := by lia
        subst k00
        have j3' : J le (X.toList ++ Y.toList) X Y (O.push (at' Y ib)) ia (ib + 1) := j2
        refine wpS_bind (aG (by lia) ?_)
        have j4 := j3'.one (by lia) fun i h1 h2 => k3' i (by lia) h2
        by_cases e5 : ia + 1 + 1 = X.size
        ·rw [if_pos e5]
         refine wpS_pure (.inl ⟨(O.push (at' Y ib)).push (at' X ia) ++ Y.extract (ib + 1) Y.size ++ X.extract (ia + 1) X.size, ?_, j4.last (by lia) (by lia) (fun i hi => by have := hl i hi; rwa [show X.size - 1 = ia + 1 by lia] at this), sm⟩)
         simp
        ·rw [if_neg e5]
         have fin : ∀ m c d, ∃ O' ia' ib' m' c' d', ((none, ((O.map (kas_item it)).push (kas_item it (at' Y ib))).push (kas_item it (at' X ia)), ia + 1, ib + 1, m, c, d) : Option (Array Keyed) × Array Keyed × Nat × Nat × Nat × Nat × Nat) = (none, O'.map (kas_item it), ia', ib', m', c', d') /\ ia' + 1 < X.size /\ ib' < Y.size /\ a6 <= ia' + ib' /\ J le (X.toList ++ Y.toList) X Y O' ia' ib' := fun m c d => ⟨_, _, _, m, c, d, by rw [show ((O.map (kas_item it)).push (kas_item it (at' Y ib))).push (kas_item it (at' X ia)) = ((O.push (at' Y ib)).push (at' X ia)).map (kas_item it) by simp], by lia, by lia, by lia, j4⟩
         refine bu ?_ ?_
         ·exact wpS_pure (.inr ⟨sm, fin _ _ _⟩)
         ·exact wpS_pure ⟨sm, fin _ _ _⟩
    ·rw [if_neg hm]
     refine wpS_bind (wpS_modify ?_)
     replace sm := sm.g (m)
     refine wpS_bind (aG lb ?_)
     refine wpS_bind (bU o hc sm.1 hx (hy ib lb) (by lia) (by lia) (fun i k h1 h2 => sx _ _ (by lia) (by lia)) fun k k1 k2 k3 => ?_)
     dsimp only
     have k2' : ∀ i, ia <= i -> i < ia + k -> le (at' X i) (at' Y ib) := fun i h1 h2 => by
      have := k2 (i - ia) (by lia)
      rwa [show ia + (i - ia) = i by lia] at this
     have ky : ∀ i, ia + k <= i -> i < X.size -> le (at' Y ib) (at' X i) := fun i h1 h2 => by
      have := k3 (i - ia) (by lia) (by lia)
      rwa [show ia + (i - ia) = i by lia] at this
     by_cases k0 : k > 0
     ·rw [if_pos k0]
      replace j := j.blk (m := k) fun i l h1 h2 h3 h4 h5 => o.tr _ _ _ (k2' i h1 h2) (sy _ _ h4 h5)
      have eO : O.map (kas_item it) ++ (X.map (kas_item it)).extract ia (ia + k) = (O ++ X.extract ia (ia + k)).map (kas_item it) := by simp
      rw [eO]
      by_cases e1 : ia + k + 1 = X.size
      ·rw [if_pos e1]
       refine wpS_pure (.inl ⟨O ++ X.extract ia (ia + k) ++ Y.extract ib Y.size ++ X.extract (ia + k) X.size, ?_, j.last (by lia) (by lia) (fun i hi => by have := hl i hi; rwa [show X.size - 1 = ia + k by lia] at this), sm⟩)
       simp
      rw [if_neg e1]
      by_cases e2 : ia + k = X.size
      ·rw [if_pos e2]
       refine wpS_pure (.inl ⟨O ++ X.extract ia (ia + k) ++ X.extract (ia + k) X.size ++ Y.extract ib Y.size, ?_, j.done2 (by lia) (by lia), sm⟩)
       simp
      rw [if_neg e2]
      have la2 : ia + k + 1 < X.size := by lia
      have ls2 : a6 <= ia + k + ib := by lia
      clear k2' k2 k3 eO e1 e2
      generalize O ++ X.extract ia (ia + k) = O at j ⊢
      generalize hia : ia + k = ia at j la2 ls2 ky ⊢
      clear la ls k1 hia
      rename_i ia0 _
      clear k0
      have la := la2
      have ls := ls2
      -- y0
      refine wpS_bind (aG lb ?_)
      have j2 : J le (X.toList ++ Y.toList) X Y (O.push (at' Y ib)) ia (ib + 1) := (j.sy.one lb fun i h1 h2 => ky i h1 h2).sy
      by_cases e3 : ib + 1 = Y.size
      ·rw [if_pos e3]
       refine wpS_pure (.inl ⟨(O.push (at' Y ib)) ++ X.extract ia X.size ++ Y.extract (ib + 1) Y.size, ?_, j2.done1 (by lia) (by lia), sm⟩)
       simp
      ·rw [if_neg e3]
       refine wpS_bind (aG (by lia) ?_)
       refine wpS_bind (bU o hc sm.1 hy (hx ia (by lia)) (by lia) (by lia) (fun i k h1 h2 => sy _ _ (by lia) (by lia)) fun k k1 k2 k3 => ?_)
       dsimp only
       have k2' : ∀ i, ib + 1 <= i -> i < ib + 1 + k -> le (at' Y i) (at' X ia) := fun i h1 h2 => by
        have := k2 (i - (ib + 1)) (by lia)
        rwa [show ib + 1 + (i - (ib + 1)) = i by lia] at this
       have k3' : ∀ i, ib + 1 + k <= i -> i < Y.size -> le (at' X ia) (at' Y i) := fun i h1 h2 => by
        have := k3 (i - (ib + 1)) (by lia) (by lia)
        rwa [show ib + 1 + (i - (ib + 1)) = i by lia] at this
       have j3 : J le (X.toList ++ Y.toList) X Y (O.push (at' Y ib) ++ Y.extract (ib + 1) (ib + 1 + k)) ia (ib + 1 + k) := (j2.sy.blk fun i l h1 h2 h3 h4 h5 => o.tr _ _ _ (k2' i h1 h2) (sx _ _ h4 h5)).sy
       by_cases k0 : k > 0
       ·rw [if_pos k0]
        by_cases e4 : ib + 1 + k = Y.size
        ·rw [if_pos e4]
         refine wpS_pure (.inl ⟨(O.push (at' Y ib)) ++ Y.extract (ib + 1) (ib + 1 + k) ++ X.extract ia X.size ++ Y.extract (ib + 1 + k) Y.size, ?_, j3.done1 (by lia) (by lia), sm⟩)
         simp
        ·rw [if_neg e4]
         refine wpS_bind (aG (by lia) ?_)
         have j4 := j3.one (by lia) fun i h1 h2 => k3' i h1 h2
         by_cases e5 : ia + 1 + 1 = X.size
         ·rw [if_pos e5]
          refine wpS_pure (.inl ⟨(O.push (at' Y ib) ++ Y.extract (ib + 1) (ib + 1 + k)).push (at' X ia) ++ Y.extract (ib + 1 + k) Y.size ++ X.extract (ia + 1) X.size, ?_, j4.last (by lia) (by lia) (fun i hi => by have := hl i hi; rwa [show X.size - 1 = ia + 1 by lia] at this), sm⟩)
          simp
         ·rw [if_neg e5]
          have fin : ∀ m c d, ∃ O' ia' ib' m' c' d', ((none, ((O.map (kas_item it)).push (kas_item it (at' Y ib)) ++ (Y.map (kas_item it)).extract (ib + 1) (ib + 1 + k)).push (kas_item it (at' X ia)), ia + 1, ib + 1 + k, m, c, d) : Option (Array Keyed) × Array Keyed × Nat × Nat × Nat × Nat × Nat) = (none, O'.map (kas_item it), ia', ib', m', c', d') /\ ia' + 1 < X.size /\ ib' < Y.size /\ a6 <= ia' + ib' /\ J le (X.toList ++ Y.toList) X Y O' ia' ib' := fun m c d => ⟨_, _, _, m, c, d, by rw [show (((O.map (kas_item it)).push (kas_item it (at' Y ib)) ++ (Y.map (kas_item it)).extract (ib + 1) (ib + 1 + k)).push (kas_item it (at' X ia))) = ((O.push (at' Y ib) ++ Y.extract (ib + 1) (ib + 1 + k)).push (at' X ia)).map (kas_item it) by simp], by lia, by lia, by lia, j4⟩
          refine bu ?_ ?_
          ·exact wpS_pure (.inr ⟨sm, fin _ _ _⟩)
          ·exact wpS_pure ⟨sm, fin _ _ _⟩
       ·rw [if_neg k0]
        have k00 : k = 0 := by lia
        subst k00
        have j3' : J le (X.toList ++ Y.toList) X Y (O.push (at' Y ib)) ia (ib + 1) := j2
        refine wpS_bind (aG (by lia) ?_)
        have j4 := j3'.one (by lia) fun i h1 h2 => k3' i (by lia) h2
        by_cases e5 : ia + 1 + 1 = X.size
        ·rw [if_pos e5]
         refine wpS_pure (.inl ⟨(O.push (at' Y ib)).push (at' X ia) ++ Y.extract (ib + 1) Y.size ++ X.extract (ia + 1) X.size, ?_, j4.last (by lia) (by lia) (fun i hi => by have := hl i hi; rwa [show X.size - 1 = ia + 1 by lia] at this), sm⟩)
         simp
        ·rw [if_neg e5]
         have fin : ∀ m c d, ∃ O' ia' ib' m' c' d', ((none, ((O.map (kas_item it)).push (kas_item it (at' Y ib))).push (kas_item it (at' X ia)), ia + 1, ib + 1, m, c, d) : Option (Array Keyed) × Array Keyed × Nat × Nat × Nat × Nat × Nat) = (none, O'.map (kas_item it), ia', ib', m', c', d') /\ ia' + 1 < X.size /\ ib' < Y.size /\ a6 <= ia' + ib' /\ J le (X.toList ++ Y.toList) X Y O' ia' ib' := fun m c d => ⟨_, _, _, m, c, d, by rw [show ((O.map (kas_item it)).push (kas_item it (at' Y ib))).push (kas_item it (at' X ia)) = ((O.push (at' Y ib)).push (at' X ia)).map (kas_item it) by simp], by lia, by lia, by lia, j4⟩
         refine bu ?_ ?_
         ·exact wpS_pure (.inr ⟨sm, fin _ _ _⟩)
         ·exact wpS_pure ⟨sm, fin _ _ _⟩
     ·rw [if_neg k0]
      have k00 : k = 0 := by lia
      subst k00
      replace ky : ∀ i, ia <= i -> i < X.size -> le (at' Y ib) (at' X i) := ky
      -- y0
      refine wpS_bind (aG lb ?_)
      have j2 : J le (X.toList ++ Y.toList) X Y (O.push (at' Y ib)) ia (ib + 1) := (j.sy.one lb fun i h1 h2 => ky i h1 h2).sy
      by_cases e3 : ib + 1 = Y.size
      ·rw [if_pos e3]
       refine wpS_pure (.inl ⟨(O.push (at' Y ib)) ++ X.extract ia X.size ++ Y.extract (ib + 1) Y.size, ?_, j2.done1 (by lia) (by lia), sm⟩)
       simp
      ·rw [if_neg e3]
       refine wpS_bind (aG (by lia) ?_)
       refine wpS_bind (bU o hc sm.1 hy (hx ia (by lia)) (by lia) (by lia) (fun i k h1 h2 => sy _ _ (by lia) (by lia)) fun k k1 k2 k3 => ?_)
       dsimp only
       have k2' : ∀ i, ib + 1 <= i -> i < ib + 1 + k -> le (at' Y i) (at' X ia) := fun i h1 h2 => by
        have := k2 (i - (ib + 1)) (by lia)
        rwa [show ib + 1 + (i - (ib + 1)) = i by lia] at this
       have k3' : ∀ i, ib + 1 + k <= i -> i < Y.size -> le (at' X ia) (at' Y i) := fun i h1 h2 => by
        have := k3 (i - (ib + 1)) (by lia) (by lia)
        rwa [show ib + 1 + (i - (ib + 1)) = i by lia] at this
       have j3 : J le (X.toList ++ Y.toList) X Y (O.push (at' Y ib) ++ Y.extract (ib + 1) (ib + 1 + k)) ia (ib + 1 + k) := (j2.sy.blk fun i l h1 h2 h3 h4 h5 => o.tr _ _ _ (k2' i h1 h2) (sx _ _ h4 h5)).sy
       by_cases k0 : k > 0
       ·rw [if_pos k0]
        by_cases e4 : ib + 1 + k = Y.size
        ·rw [if_pos e4]
         refine wpS_pure (.inl ⟨(O.push (at' Y ib)) ++ Y.extract (ib + 1) (ib + 1 + k) ++ X.extract ia X.size ++ Y.extract (ib + 1 + k) Y.size, ?_, j3.done1 (by lia) (by lia), sm⟩)
         simp
        ·rw [if_neg e4]
         refine wpS_bind (aG (by lia) ?_)
         have j4 := j3.one (by lia) fun i h1 h2 => k3' i h1 h2
         by_cases e5 : ia + 1 + 1 = X.size
         ·rw [if_pos e5]
          refine wpS_pure (.inl ⟨(O.push (at' Y ib) ++ Y.extract (ib + 1) (ib + 1 + k)).push (at' X ia) ++ Y.extract (ib + 1 + k) Y.size ++ X.extract (ia + 1) X.size, ?_, j4.last (by lia) (by lia) (fun i hi => by have := hl i hi; rwa [show X.size - 1 = ia + 1 by lia] at this), sm⟩)
          simp
         ·rw [if_neg e5]
          have fin : ∀ m c d, ∃ O' ia' ib' m' c' d', ((none, ((O.map (kas_item it)).push (kas_item it (at' Y ib)) ++ (Y.map (kas_item it)).extract (ib + 1) (ib + 1 + k)).push (kas_item it (at' X ia)), ia + 1, ib + 1 + k, m, c, d) : Option (Array Keyed) × Array Keyed × Nat × Nat × Nat × Nat × Nat) = (none, O'.map (kas_item it), ia', ib', m', c', d') /\ ia' + 1 < X.size /\ ib' < Y.size /\ a6 <= ia' + ib' /\ J le (X.toList ++ Y.toList) X Y O' ia' ib' := fun m c d => ⟨_, _, _, m, c, d, by rw [show (((O.map (kas_item it)).push (kas_item it (at' Y ib)) ++ (Y.map (kas_item it)).extract (ib + 1) (ib + 1 + k)).push (kas_item it (at' X ia))) = ((O.push (at' Y ib) ++ Y.extract (ib + 1) (ib + 1 + k)).push (at' X ia)).map (kas_item it) by simp], by lia, by lia, by lia, j4⟩
          refine bu ?_ ?_
          ·exact wpS_pure (.inr ⟨sm, fin _ _ _⟩)
          ·exact wpS_pure ⟨sm, fin _ _ _⟩
       ·rw [if_neg k0]
        have k00 : k = 0 := by lia
        subst k00
        have j3' : J le (X.toList ++ Y.toList) X Y (O.push (at' Y ib)) ia (ib + 1) := j2
        refine wpS_bind (aG (by lia) ?_)
        have j4 := j3'.one (by lia) fun i h1 h2 => k3' i (by lia) h2
        by_cases e5 : ia + 1 + 1 = X.size
        ·rw [if_pos e5]
         refine wpS_pure (.inl ⟨(O.push (at' Y ib)).push (at' X ia) ++ Y.extract (ib + 1) Y.size ++ X.extract (ia + 1) X.size, ?_, j4.last (by lia) (by lia) (fun i hi => by have := hl i hi; rwa [show X.size - 1 = ia + 1 by lia] at this), sm⟩)
         simp
        ·rw [if_neg e5]
         have fin : ∀ m c d, ∃ O' ia' ib' m' c' d', ((none, ((O.map (kas_item it)).push (kas_item it (at' Y ib))).push (kas_item it (at' X ia)), ia + 1, ib + 1, m, c, d) : Option (Array Keyed) × Array Keyed × Nat × Nat × Nat × Nat × Nat) = (none, O'.map (kas_item it), ia', ib', m', c', d') /\ ia' + 1 < X.size /\ ib' < Y.size /\ a6 <= ia' + ib' /\ J le (X.toList ++ Y.toList) X Y O' ia' ib' := fun m c d => ⟨_, _, _, m, c, d, by rw [show ((O.map (kas_item it)).push (kas_item it (at' Y ib))).push (kas_item it (at' X ia)) = ((O.push (at' Y ib)).push (at' X ia)).map (kas_item it) by simp], by lia, by lia, by lia, j4⟩
         refine bu ?_ ?_
         ·exact wpS_pure (.inr ⟨sm, fin _ _ _⟩)
         ·exact wpS_pure ⟨sm, fin _ _ _⟩
end
section
variable {X Y O : Array Nat} {le : Nat -> Nat -> Prop} {tot : List Nat} {na nb : Nat}
theorem yt {i : Nat} (h : i < X.size) : X.toList.take (i + 1) = X.toList.take i ++ [at' X i] := by
 rw [List.take_succ_eq_append_getElem (by simpa using h), jd h]
theorem jK {i j : Nat} (h : i <= j) : X.toList.take j = X.toList.take i ++ (X.extract i j).toList := by
 rw [Array.toList_extract, List.extract_eq_take_drop]
 have e : j = i + (j - i) := by lia
 conv => lhs; rw [e, List.take_add]
theorem qK {i x : Nat} (h : x ∈ X.toList.take i) : ∃ j, j < i /\ j < X.size /\ at' X j = x := by
 obtain ⟨k, hk⟩ := List.getElem?_of_mem h
 rw [List.getElem?_take] at hk
 split at hk
 ·obtain ⟨h1, h2⟩ := List.getElem?_eq_some_iff.mp hk
  have h1' : k < X.size := by simpa using h1
  exact ⟨k, by lia, h1', by rw [<- jd h1']; exact h2⟩
 ·cases hk
abbrev JH (le : Nat -> Nat -> Prop) (tot : List Nat) (X Y O : Array Nat) (na nb : Nat) : Prop := Inv (fun a b => le b a) tot O.toList (X.toList.take na).reverse (Y.toList.take nb).reverse
theorem JH.sy (j : JH le tot X Y O na nb) : JH le tot Y X O nb na := Inv.symm j
theorem JH.one (j : JH le tot X Y O na nb) (h : 1 <= na) (h2 : na <= X.size) (k : ∀ i, i < nb -> le (at' Y i) (at' X (na - 1))) : JH le tot X Y (O.push (at' X (na - 1))) (na - 1) nb := by
 unfold JH at j ⊢
 obtain ⟨m, rfl⟩ : ∃ m, na = m + 1 := ⟨na - 1, by lia⟩
 rw [yt (by lia), List.reverse_append] at j
 rw [Nat.add_sub_cancel] at k ⊢
 have := Inv.block (xs := [at' X m]) j (fun x hx y hy => by
  rw [List.mem_singleton] at hx
  subst hx
  obtain ⟨i, h1, h2, rfl⟩ := qK (List.mem_reverse.mp hy)
  exact k i h1)
 rwa [Array.toList_push]
theorem JH.blk {m : Nat} (j : JH le tot X Y O na nb) (h : m <= na) (h2 : na <= X.size) (k : ∀ i l, m <= i -> i < na -> l < nb -> le (at' Y l) (at' X i)) : JH le tot X Y (O ++ (X.extract m na).reverse) m nb := by
 unfold JH at j ⊢
 rw [jK h, List.reverse_append] at j
 have := Inv.block j (fun x hx y hy => by
  obtain ⟨i, h1, h2, h3, rfl⟩ := oH (List.mem_reverse.mp hx)
  obtain ⟨l, h4, h5, rfl⟩ := qK (List.mem_reverse.mp hy)
  exact k i l h1 h2 h4)
 rwa [Array.toList_append, Array.toList_reverse]
theorem vk {l r : List Nat} (h : l.Pairwise (fun a b => le b a) /\ l.Perm tot) (e : l = r.reverse) : r.Pairwise le /\ r.Perm tot := by
 subst e
 exact ⟨List.pairwise_reverse.mp h.1, (List.reverse_perm _).symm.trans h.2⟩
theorem EZ (m : Nat) : (X.extract 0 m).toList = X.toList.take m := by rw [Array.toList_extract, List.extract_eq_take_drop]; simp
theorem JH.done1 (j : JH le tot X Y O na nb) (h : nb = 0) (h2 : na <= X.size) : jr le tot (X.extract 0 na ++ Y.extract 0 nb ++ O.reverse) := by
 subst h
 refine vk (l := O.toList ++ (X.toList.take na).reverse) (Inv.doneA (by unfold JH at j; simpa using j)) ?_
 simp [EZ]
theorem JH.done2 (j : JH le tot X Y O na nb) (h : na = 0) (h2 : nb <= Y.size) : jr le tot (X.extract 0 na ++ Y.extract 0 nb ++ O.reverse) := by
 have := j.sy.done1 h h2
 subst h
 simpa using this
theorem JH.first (j : JH le tot X Y O na nb) (h : nb = 1) (y1 : 1 <= Y.size) (h2 : na <= X.size) (k : ∀ i, i < X.size -> le (at' Y 0) (at' X i)) : jr le tot (Y.extract 0 nb ++ X.extract 0 na ++ O.reverse) := by
 subst h
 have e : Y.toList.take 1 = [at' Y 0] := by rw [yt (i := 0) (by lia)]; simp
 have j2 : Inv (fun a b => le b a) tot O.toList [at' Y 0] (X.toList.take na).reverse := by have := j.sy; unfold JH at this; rw [e] at this; exact this
 refine vk (j2.lastA fun y hy => ?_) ?_
 ·obtain ⟨i, h1, h2, rfl⟩ := qK (List.mem_reverse.mp hy)
  exact k i h2
 ·rw [Array.toList_append, Array.toList_append, EZ, EZ, e]
  simp
end
section
variable {prog : Program} {w : World} {A : Around} {E : Value -> Shared -> Prop} {s : Shared} {κ : SortKind} {it : Array Keyed} {n : Nat} {lt : Nat -> Nat -> Bool} {le : Nat -> Nat -> Prop}
theorem yH (o : Ord lt le) (hc : rB prog w A s κ it n lt) {X Y : Array Nat} {Q : Array Keyed -> SortSt -> Prop} {st : SortSt} (hk : kindOf st = κ) (hx : ∀ i, i < X.size -> at' X i < n) (hy : ∀ i, i < Y.size -> at' Y i < n)
  (x1 : 1 <= X.size) (y1 : 1 <= Y.size) (sx : ∀ i j, i <= j -> j < X.size -> le (at' X i) (at' X j)) (sy : ∀ i j, i <= j -> j < Y.size -> le (at' Y i) (at' Y j)) (hf : ∀ i, i < X.size -> le (at' Y 0) (at' X i)) (hl : ∀ i, i < Y.size -> le (at' Y i) (at' X (X.size - 1)))
  (h : ∀ R st', Same κ st st' -> jr le (X.toList ++ Y.toList) R -> Q (R.map (kas_item it)) st') :
  wpS (model prog w) A E s (AR (X.map (kas_item it)) (Y.map (kas_item it))) Q st := by
 have sm0 : Same κ st st := ⟨hk, rfl, rfl, rfl⟩
 have j0 : JH le (X.toList ++ Y.toList) X Y #[] X.size Y.size := by
  have ex : X.toList.take X.size = X.toList := List.take_of_length_le (by simp)
  have ey : Y.toList.take Y.size = Y.toList := List.take_of_length_le (by simp)
  unfold JH
  rw [ex, ey]
  exact ⟨by simpa using List.pairwise_reverse.mpr (yf sx), by simpa using List.pairwise_reverse.mpr (yf sy), by simpa using (List.reverse_perm X.toList).append (List.reverse_perm Y.toList)⟩
 have j1 : JH le (X.toList ++ Y.toList) X Y #[at' X (X.size - 1)] (X.size - 1) Y.size := j0.one x1 (Nat.le_refl _) fun i h2 => hl i h2
 refine wpS_bind (wpS_lift (wpAny_rule ⟨rfl, ?_⟩))
 dsimp only
 simp only [Array.size_map, beq_iff_eq]
 refine wpS_bind (aG (X := X) (by lia) ?_)
 by_cases e1 : X.size - 1 = 0
 ·rw [if_pos e1]
  refine wpS_pure ?_
  have := h _ st sm0 (j1.done2 e1 (by lia))
  simpa [exm] using this
 rw [if_neg e1]
 by_cases e2 : Y.size = 1
 ·rw [if_pos e2]
  refine wpS_pure ?_
  have := h _ st sm0 (j1.first e2 (by lia) (by lia) hf)
  simpa [exm] using this
 rw [if_neg e2]
 refine wpS_bind (wpS_get ?_)
 refine wpS_bind (wpS_mono (wpS_forRange (I := fun x c st2 => Same κ st st2 /\ ∃ O na nb g, c = (none, na, nb, O.map (kas_item it), g) /\ 1 <= na /\ 1 < nb /\ na < X.size /\ nb <= Y.size /\ na + nb + (x + 1) <= X.size + Y.size /\ JH le (X.toList ++ Y.toList) X Y O na nb)
  (Q := fun c st2 => ∃ R, c.1 = some (R.map (kas_item it)) /\ jr le (X.toList ++ Y.toList) R /\ Same κ st st2) ?s1 ?f1 ?i1) ?p1)
 case i1 => exact ⟨sm0, #[at' X (X.size - 1)], X.size - 1, Y.size, _, by simp; rfl, by lia, by lia, by lia, by lia, by lia, j1⟩
 case f1 =>
  rintro c st2 ⟨sm, O, na, nb, g, rfl, la, lb, lx, ly, ls, j⟩
  lia
 case p1 =>
  rintro ⟨c, c'⟩ st2 ⟨R, hc1, hR, sm⟩
  dsimp only at hc1
  subst hc1
  exact wpS_pure (h R st2 sm hR)
 case s1 =>
  rintro x c st2 _ hx0 ⟨sm, O, na, nb, g, rfl, la, lb, lx, ly, ls, j⟩
  dsimp only
  refine wpS_bind (wpS_mono (wpS_forRange (I := fun y c st2 => Same κ st st2 /\ ∃ O na nb a b, c = (none, na, nb, O.map (kas_item it), a, b) /\ 1 <= na /\ 1 < nb /\ na < X.size /\ nb <= Y.size /\ na + nb + (x + 1 + y) <= X.size + Y.size /\ JH le (X.toList ++ Y.toList) X Y O na nb)
   (Q := fun c st2 => (∃ R, c.1 = some (R.map (kas_item it)) /\ jr le (X.toList ++ Y.toList) R /\ Same κ st st2) \/ (Same κ st st2 /\ ∃ O na nb a b, c = (none, na, nb, O.map (kas_item it), a, b) /\ 1 <= na /\ 1 < nb /\ na < X.size /\ nb <= Y.size /\ na + nb + (x + 1 + 1) <= X.size + Y.size /\ JH le (X.toList ++ Y.toList) X Y O na nb)) ?s2 ?f2 ?i2) ?p2)
  case i2 => exact ⟨sm, O, na, nb, 0, 0, rfl, la, lb, lx, ly, ls, j⟩
  case f2 =>
   rintro c st2 ⟨sm, O, na, nb, a, b, rfl, la, lb, lx, ly, ls, j⟩
   lia
  case s2 =>
   clear la lb lx ly ls j sm
   rintro y c st2 _ hy0 ⟨sm, O, na, nb, a, b, rfl, la, lb, lx, ly, ls, j⟩
   dsimp only
   refine wpS_bind (aG (by lia) ?_)
   refine wpS_bind (aG (by lia) ?_)
   refine wpS_bind (w_lt hc sm.1 (hy (nb - 1) (by lia)) (hx (na - 1) (by lia)) ?_)
   dsimp only
   cases cw : lt (at' Y (nb - 1)) (at' X (na - 1)) with
   | true =>
    rw [if_pos rfl]
    have l0 := o.yes _ _ cw
    have j2 := j.one la (by lia) fun i h1 => o.tr _ _ _ (sy i (nb - 1) (by lia) (by lia)) l0
    refine wpS_bind (aG (by lia) ?_)
    by_cases e3 : na - 1 = 0
    ·rw [if_pos e3]
     refine wpS_pure (.inl ⟨X.extract 0 (na - 1) ++ Y.extract 0 nb ++ (O.push (at' X (na - 1))).reverse, ?_, j2.done2 e3 (by lia), sm⟩)
     simp [Array.map_reverse]
    ·rw [if_neg e3]
     refine bu ?_ ?_
     ·exact wpS_pure (.inr ⟨sm, O.push (at' X (na - 1)), na - 1, nb, _, _, by rw [Array.map_push], by lia, by lia, by lia, by lia, by lia, j2⟩)
     ·exact wpS_pure ⟨sm, O.push (at' X (na - 1)), na - 1, nb, _, _, by rw [Array.map_push], by lia, by lia, by lia, by lia, by lia, j2⟩
   | false =>
    rw [if_neg (by decide)]
    have l0 := o.no _ _ cw
    have j2 : JH le (X.toList ++ Y.toList) X Y (O.push (at' Y (nb - 1))) na (nb - 1) := (j.sy.one (by lia) (by lia) fun i h1 => o.tr _ _ _ (sx i (na - 1) (by lia) (by lia)) l0).sy
    refine wpS_bind (aG (by lia) ?_)
    by_cases e3 : nb - 1 = 1
    ·rw [if_pos e3]
     refine wpS_pure (.inl ⟨Y.extract 0 (nb - 1) ++ X.extract 0 na ++ (O.push (at' Y (nb - 1))).reverse, ?_, j2.first e3 (by lia) (by lia) hf, sm⟩)
     simp [Array.map_reverse]
    ·rw [if_neg e3]
     refine bu ?_ ?_
     ·exact wpS_pure (.inr ⟨sm, O.push (at' Y (nb - 1)), na, nb - 1, _, _, by rw [Array.map_push], by lia, by lia, by lia, by lia, by lia, j2⟩)
     ·exact wpS_pure ⟨sm, O.push (at' Y (nb - 1)), na, nb - 1, _, _, by rw [Array.map_push], by lia, by lia, by lia, by lia, by lia, j2⟩
  case p2 =>
   clear la lb lx ly ls j sm
   rintro ⟨c, c'⟩ st2 (⟨R, hc1, hR, sm⟩ | ⟨sm, O, na, nb, a, b, hcc, la, lb, lx, ly, ls, j⟩)
   ·dsimp only at hc1
    subst hc1
    exact wpS_pure ⟨R, rfl, hR, sm⟩
   cases hcc
   dsimp only
   refine wpS_bind (wpS_lift (wpAny_rule ⟨rfl, ?_⟩))
   have hst : ∃ a6, a6 = x + 1 + 1 := ⟨_, rfl⟩
   obtain ⟨a6, hst⟩ := hst
   rw [<- hst] at ls
   refine wpS_bind (wpS_mono (wpS_forRange (I := fun y c st2 => Same κ st st2 /\ ∃ O na nb m a b, c = (none, na, nb, O.map (kas_item it), m, a, b) /\ 1 <= na /\ 1 < nb /\ na < X.size /\ nb <= Y.size /\ na + nb + a6 <= X.size + Y.size /\ JH le (X.toList ++ Y.toList) X Y O na nb)
    (Q := fun c st2 => (∃ R, c.1 = some (R.map (kas_item it)) /\ jr le (X.toList ++ Y.toList) R /\ Same κ st st2) \/ (Same κ st st2 /\ ∃ O na nb m a b, c = (none, na, nb, O.map (kas_item it), m, a, b) /\ 1 <= na /\ 1 < nb /\ na < X.size /\ nb <= Y.size /\ na + nb + a6 <= X.size + Y.size /\ JH le (X.toList ++ Y.toList) X Y O na nb)) ?s3 ?f3 ?i3) ?p3)
   case i3 => exact ⟨sm, O, na, nb, _, _, _, rfl, la, lb, lx, ly, ls, j⟩
   case f3 => exact fun c st2 h => .inr h
   case p3 =>
    clear la lb lx ly ls j sm
    rintro ⟨c, c'⟩ st2 (⟨R, hc1, hR, sm⟩ | ⟨sm, O, na, nb, m, a, b, hcc, la, lb, lx, ly, ls, j⟩)
    ·dsimp only at hc1
     subst hc1
     exact wpS_pure ⟨R, rfl, hR, sm⟩
    cases hcc
    dsimp only
    refine wpS_bind (wpS_modify (wpS_pure ?_))
    exact ⟨sm.g _, O, na, nb, _, rfl, la, lb, lx, ly, by lia, j⟩
   case s3 =>
    clear la lb lx ly ls j sm
    rintro y c st2 _ hy0 ⟨sm, O, na, nb, m, a, b, rfl, la, lb, lx, ly, ls, j⟩
    dsimp only
    by_cases hm : m > 1
    ·rw [if_pos hm]
     refine wpS_bind (wpS_modify ?_)
     replace sm := sm.g (m - 1)
     refine wpS_bind (aG (by lia) ?_)
     refine wpS_bind (bU o hc sm.1 hx (hy (nb - 1) (by lia)) (by lia) (by lia) (fun i k h1 h2 => sx _ _ (by lia) (by lia)) fun k k1 k2 k3 => ?_)
     dsimp only
     simp only [Nat.zero_add] at k2 k3
     by_cases k0 : na - k > 0
     ·rw [if_pos k0]
      replace j := j.blk (m := k) (by lia) (by lia) fun i l h1 h2 h3 => o.tr _ _ _ (sy l (nb - 1) (by lia) (by lia)) (k3 i h1 h2)
      have eO : O.map (kas_item it) ++ ((X.map (kas_item it)).extract k na).reverse = (O ++ (X.extract k na).reverse).map (kas_item it) := by simp [Array.map_reverse]
      rw [eO]
      by_cases e1 : k = 0
      ·rw [if_pos e1]
       refine wpS_pure (.inl ⟨X.extract 0 k ++ Y.extract 0 nb ++ (O ++ (X.extract k na).reverse).reverse, ?_, j.done2 e1 (by lia), sm⟩)
       simp [Array.map_reverse]
      rw [if_neg e1]
      have la2 : 1 <= k := by lia
      have lx2 : k < X.size := by lia
      have ls2 : k + nb + a6 <= X.size + Y.size := by lia
      have ky : ∀ i, i < k -> le (at' X i) (at' Y (nb - 1)) := k2
      clear k2 k3 eO e1
      generalize O ++ (X.extract k na).reverse = O at j ⊢
      generalize na - k = kk at k0 ⊢
      clear k0 k1 la lx ls
      have la := la2
      have lx := lx2
      have ls := ls2
      clear la2 lx2 ls2
      obtain ⟨na, hna⟩ : ∃ na, na = k := ⟨k, rfl⟩
      subst hna
      refine wpS_bind (aG (by lia) ?_)
      have j2 : JH le (X.toList ++ Y.toList) X Y (O.push (at' Y (nb - 1))) na (nb - 1) := (j.sy.one (by lia) (by lia) fun i h1 => ky i h1).sy
      by_cases e3 : nb - 1 = 1
      ·rw [if_pos e3]
       refine wpS_pure (.inl ⟨Y.extract 0 (nb - 1) ++ X.extract 0 na ++ (O.push (at' Y (nb - 1))).reverse, ?_, j2.first e3 (by lia) (by lia) hf, sm⟩)
       simp [Array.map_reverse]
      ·rw [if_neg e3]
       refine wpS_bind (aG (by lia) ?_)
       refine wpS_bind (bU o hc sm.1 hy (hx (na - 1) (by lia)) (by lia) (by lia) (fun i k h1 h2 => sy _ _ (by lia) (by lia)) fun k k1 k2 k3 => ?_)
       dsimp only
       simp only [Nat.zero_add] at k2 k3
       have j3 : JH le (X.toList ++ Y.toList) X Y (O.push (at' Y (nb - 1)) ++ (Y.extract k (nb - 1)).reverse) na k := (j2.sy.blk (by lia) (by lia) fun i l h1 h2 h3 => o.tr _ _ _ (sx l (na - 1) (by lia) (by lia)) (k3 i h1 h2)).sy
       by_cases k0 : nb - 1 - k > 0
       ·rw [if_pos k0]
        by_cases e4 : k = 1
        ·rw [if_pos e4]
         refine wpS_pure (.inl ⟨Y.extract 0 k ++ X.extract 0 na ++ (O.push (at' Y (nb - 1)) ++ (Y.extract k (nb - 1)).reverse).reverse, ?_, j3.first e4 (by lia) (by lia) hf, sm⟩)
         simp [Array.map_reverse]
        rw [if_neg e4]
        by_cases e5 : k = 0
        ·rw [if_pos e5]
         refine wpS_pure (.inl ⟨X.extract 0 na ++ Y.extract 0 k ++ (O.push (at' Y (nb - 1)) ++ (Y.extract k (nb - 1)).reverse).reverse, ?_, j3.done1 e5 (by lia), sm⟩)
         simp [Array.map_reverse]
        rw [if_neg e5]
        refine wpS_bind (aG (by lia) ?_)
        have j4 := j3.one (by lia) (by lia) fun i h1 => k2 i h1
        have eO : ((O.map (kas_item it)).push (kas_item it (at' Y (nb - 1))) ++ ((Y.map (kas_item it)).extract k (nb - 1)).reverse).push (kas_item it (at' X (na - 1))) = ((O.push (at' Y (nb - 1)) ++ (Y.extract k (nb - 1)).reverse).push (at' X (na - 1))).map (kas_item it) := by simp [Array.map_reverse]
        by_cases e6 : na - 1 = 0
        ·rw [if_pos e6]
         refine wpS_pure (.inl ⟨X.extract 0 (na - 1) ++ Y.extract 0 k ++ ((O.push (at' Y (nb - 1)) ++ (Y.extract k (nb - 1)).reverse).push (at' X (na - 1))).reverse, ?_, j4.done2 e6 (by lia), sm⟩)
         simp [Array.map_reverse]
        ·rw [if_neg e6]
         have fin : ∀ m c d, ∃ O' na' nb' m' c' d', ((none, na - 1, k, ((O.map (kas_item it)).push (kas_item it (at' Y (nb - 1))) ++ ((Y.map (kas_item it)).extract k (nb - 1)).reverse).push (kas_item it (at' X (na - 1))), m, c, d) : Option (Array Keyed) × Nat × Nat × Array Keyed × Nat × Nat × Nat) = (none, na', nb', O'.map (kas_item it), m', c', d') /\ 1 <= na' /\ 1 < nb' /\ na' < X.size /\ nb' <= Y.size /\ na' + nb' + a6 <= X.size + Y.size /\ JH le (X.toList ++ Y.toList) X Y O' na' nb' := fun m c d => ⟨_, _, _, m, c, d, by rw [eO], by lia, by lia, by lia, by lia, by lia, j4⟩
         refine bu ?_ ?_
         ·exact wpS_pure (.inr ⟨sm, fin _ _ _⟩)
         ·exact wpS_pure ⟨sm, fin _ _ _⟩
       ·rw [if_neg k0]
        have k00 : k = nb - 1 := by lia
        subst k00
        refine wpS_bind (aG (by lia) ?_)
        have j4 := j2.one (by lia) (by lia) fun i h1 => k2 i h1
        have eO : ((O.map (kas_item it)).push (kas_item it (at' Y (nb - 1)))).push (kas_item it (at' X (na - 1))) = ((O.push (at' Y (nb - 1))).push (at' X (na - 1))).map (kas_item it) := by simp
        by_cases e6 : na - 1 = 0
        ·rw [if_pos e6]
         refine wpS_pure (.inl ⟨X.extract 0 (na - 1) ++ Y.extract 0 (nb - 1) ++ ((O.push (at' Y (nb - 1))).push (at' X (na - 1))).reverse, ?_, j4.done2 e6 (by lia), sm⟩)
         simp [Array.map_reverse]
        ·rw [if_neg e6]
         have fin : ∀ m c d, ∃ O' na' nb' m' c' d', ((none, na - 1, nb - 1, ((O.map (kas_item it)).push (kas_item it (at' Y (nb - 1)))).push (kas_item it (at' X (na - 1))), m, c, d) : Option (Array Keyed) × Nat × Nat × Array Keyed × Nat × Nat × Nat) = (none, na', nb', O'.map (kas_item it), m', c', d') /\ 1 <= na' /\ 1 < nb' /\ na' < X.size /\ nb' <= Y.size /\ na' + nb' + a6 <= X.size + Y.size /\ JH le (X.toList ++ Y.toList) X Y O' na' nb' := fun m c d => ⟨_, _, _, m, c, d, by rw [eO], by lia, by lia, by lia, by lia, by lia, j4⟩
         refine bu ?_ ?_
         ·exact wpS_pure (.inr ⟨sm, fin _ _ _⟩)
         ·exact wpS_pure ⟨sm, fin _ _ _⟩
     ·rw [if_neg k0]
      have k00 : na = k := by lia
      subst k00
      have ky : ∀ i, i < na -> le (at' X i) (at' Y (nb - 1)) := k2
      refine wpS_bind (aG (by lia) ?_)
      have j2 : JH le (X.toList ++ Y.toList) X Y (O.push (at' Y (nb - 1))) na (nb - 1) := (j.sy.one (by lia) (by lia) fun i h1 => ky i h1).sy
      by_cases e3 : nb - 1 = 1
      ·rw [if_pos e3]
       refine wpS_pure (.inl ⟨Y.extract 0 (nb - 1) ++ X.extract 0 na ++ (O.push (at' Y (nb - 1))).reverse, ?_, j2.first e3 (by lia) (by lia) hf, sm⟩)
       simp [Array.map_reverse]
      ·rw [if_neg e3]
       refine wpS_bind (aG (by lia) ?_)
       refine wpS_bind (bU o hc sm.1 hy (hx (na - 1) (by lia)) (by lia) (by lia) (fun i k h1 h2 => sy _ _ (by lia) (by lia)) fun k k1 k2 k3 => ?_)
       dsimp only
       simp only [Nat.zero_add] at k2 k3
       have j3 : JH le (X.toList ++ Y.toList) X Y (O.push (at' Y (nb - 1)) ++ (Y.extract k (nb - 1)).reverse) na k := (j2.sy.blk (by lia) (by lia) fun i l h1 h2 h3 => o.tr _ _ _ (sx l (na - 1) (by lia) (by lia)) (k3 i h1 h2)).sy
       by_cases k0 : nb - 1 - k > 0
       ·rw [if_pos k0]
        by_cases e4 : k = 1
        ·rw [if_pos e4]
         refine wpS_pure (.inl ⟨Y.extract 0 k ++ X.extract 0 na ++ (O.push (at' Y (nb - 1)) ++ (Y.extract k (nb - 1)).reverse).reverse, ?_, j3.first e4 (by lia) (by lia) hf, sm⟩)
         simp [Array.map_reverse]
        rw [if_neg e4]
        by_cases e5 : k = 0
        ·rw [if_pos e5]
         refine wpS_pure (.inl ⟨X.extract 0 na ++ Y.extract 0 k ++ (O.push (at' Y (nb - 1)) ++ (Y.extract k (nb - 1)).reverse).reverse, ?_, j3.done1 e5 (by lia), sm⟩)
         simp [Array.map_reverse]
        rw [if_neg e5]
        refine wpS_bind (aG (by lia) ?_)
        have j4 := j3.one (by lia) (by lia) fun i h1 => k2 i h1
        have eO : ((O.map (kas_item it)).push (kas_item it (at' Y (nb - 1))) ++ ((Y.map (kas_item it)).extract k (nb - 1)).reverse).push (kas_item it (at' X (na - 1))) = ((O.push (at' Y (nb - 1)) ++ (Y.extract k (nb - 1)).reverse).push (at' X (na - 1))).map (kas_item it) := by simp [Array.map_reverse]
        by_cases e6 : na - 1 = 0
        ·rw [if_pos e6]
         refine wpS_pure (.inl ⟨X.extract 0 (na - 1) ++ Y.extract 0 k ++ ((O.push (at' Y (nb - 1)) ++ (Y.extract k (nb - 1)).reverse).push (at' X (na - 1))).reverse, ?_, j4.done2 e6 (by lia), sm⟩)
         simp [Array.map_reverse]
        ·rw [if_neg e6]
         have fin : ∀ m c d, ∃ O' na' nb' m' c' d', ((none, na - 1, k, ((O.map (kas_item it)).push (kas_item it (at' Y (nb - 1))) ++ ((Y.map (kas_item it)).extract k (nb - 1)).reverse).push (kas_item it (at' X (na - 1))), m, c, d) : Option (Array Keyed) × Nat × Nat × Array Keyed × Nat × Nat × Nat) = (none, na', nb', O'.map (kas_item it), m', c', d') /\ 1 <= na' /\ 1 < nb' /\ na' < X.size /\ nb' <= Y.size /\ na' + nb' + a6 <= X.size + Y.size /\ JH le (X.toList ++ Y.toList) X Y O' na' nb' := fun m c d => ⟨_, _, _, m, c, d, by rw [eO], by lia, by lia, by lia, by lia, by lia, j4⟩
         refine bu ?_ ?_
         ·exact wpS_pure (.inr ⟨sm, fin _ _ _⟩)
         ·exact wpS_pure ⟨sm, fin _ _ _⟩
       ·rw [if_neg k0]
        have k00 : k = nb - 1 := by lia
        subst k00
        refine wpS_bind (aG (by lia) ?_)
        have j4 := j2.one (by lia) (by lia) fun i h1 => k2 i h1
        have eO : ((O.map (kas_item it)).push (kas_item it (at' Y (nb - 1)))).push (kas_item it (at' X (na - 1))) = ((O.push (at' Y (nb - 1))).push (at' X (na - 1))).map (kas_item it) := by simp
        by_cases e6 : na - 1 = 0
        ·rw [if_pos e6]
         refine wpS_pure (.inl ⟨X.extract 0 (na - 1) ++ Y.extract 0 (nb - 1) ++ ((O.push (at' Y (nb - 1))).push (at' X (na - 1))).reverse, ?_, j4.done2 e6 (by lia), sm⟩)
         simp [Array.map_reverse]
        ·rw [if_neg e6]
         have fin : ∀ m c d, ∃ O' na' nb' m' c' d', ((none, na - 1, nb - 1, ((O.map (kas_item it)).push (kas_item it (at' Y (nb - 1)))).push (kas_item it (at' X (na - 1))), m, c, d) : Option (Array Keyed) × Nat × Nat × Array Keyed × Nat × Nat × Nat) = (none, na', nb', O'.map (kas_item it), m', c', d') /\ 1 <= na' /\ 1 < nb' /\ na' < X.size /\ nb' <= Y.size /\ na' + nb' + a6 <= X.size + Y.size /\ JH le (X.toList ++ Y.toList) X Y O' na' nb' := fun m c d => ⟨_, _, _, m, c, d, by rw [eO], by lia, by lia, by lia, by lia, by lia, j4⟩
         refine bu ?_ ?_
         ·exact wpS_pure (.inr ⟨sm, fin _ _ _⟩)
         ·exact wpS_pure ⟨sm, fin _ _ _⟩
    ·rw [if_neg hm]
     refine wpS_bind (wpS_modify ?_)
     replace sm := sm.g (m)
     refine wpS_bind (aG (by lia) ?_)
     refine wpS_bind (bU o hc sm.1 hx (hy (nb - 1) (by lia)) (by lia) (by lia) (fun i k h1 h2 => sx _ _ (by lia) (by lia)) fun k k1 k2 k3 => ?_)
     dsimp only
     simp only [Nat.zero_add] at k2 k3
     by_cases k0 : na - k > 0
     ·rw [if_pos k0]
      replace j := j.blk (m := k) (by lia) (by lia) fun i l h1 h2 h3 => o.tr _ _ _ (sy l (nb - 1) (by lia) (by lia)) (k3 i h1 h2)
      have eO : O.map (kas_item it) ++ ((X.map (kas_item it)).extract k na).reverse = (O ++ (X.extract k na).reverse).map (kas_item it) := by simp [Array.map_reverse]
      rw [eO]
      by_cases e1 : k = 0
      ·rw [if_pos e1]
       refine wpS_pure (.inl ⟨X.extract 0 k ++ Y.extract 0 nb ++ (O ++ (X.extract k na).reverse).reverse, ?_, j.done2 e1 (by lia), sm⟩)
       simp [Array.map_reverse]
      rw [if_neg e1]
      have la2 : 1 <= k := by lia
      have lx2 : k < X.size := by lia
      have ls2 : k + nb + a6 <= X.size + Y.size := by lia
      have ky : ∀ i, i < k -> le (at' X i) (at' Y (nb - 1)) := k2
      clear k2 k3 eO e1
      generalize O ++ (X.extract k na).reverse = O at j ⊢
      generalize na - k = kk at k0 ⊢
      clear k0 k1 la lx ls
      have la := la2
      have lx := lx2
      have ls := ls2
      clear la2 lx2 ls2
      obtain ⟨na, hna⟩ : ∃ na, na = k := ⟨k, rfl⟩
      subst hna
      refine wpS_bind (aG (by lia) ?_)
      have j2 : JH le (X.toList ++ Y.toList) X Y (O.push (at' Y (nb - 1))) na (nb - 1) := (j.sy.one (by lia) (by lia) fun i h1 => ky i h1).sy
      by_cases e3 : nb - 1 = 1
      ·rw [if_pos e3]
       refine wpS_pure (.inl ⟨Y.extract 0 (nb - 1) ++ X.extract 0 na ++ (O.push (at' Y (nb - 1))).reverse, ?_, j2.first e3 (by lia) (by lia) hf, sm⟩)
       simp [Array.map_reverse]
      ·rw [if_neg e3]
       refine wpS_bind (aG (by lia) ?_)
       refine wpS_bind (bU o hc sm.1 hy (hx (na - 1) (by lia)) (by lia) (by lia) (fun i k h1 h2 => sy _ _ (by lia) (by lia)) fun k k1 k2 k3 => ?_)
       dsimp only
       simp only [Nat.zero_add] at k2 k3
       have j3 : JH le (X.toList ++ Y.toList) X Y (O.push (at' Y (nb - 1)) ++ (Y.extract k (nb - 1)).reverse) na k := (j2.sy.blk (by lia) (by lia) fun i l h1 h2 h3 => o.tr _ _ _ (sx l (na - 1) (by lia) (by lia)) (k3 i h1 h2)).sy
       by_cases k0 : nb - 1 - k > 0
       ·rw [if_pos k0]
        by_cases e4 : k = 1
        ·rw [if_pos e4]
         refine wpS_pure (.inl ⟨Y.extract 0 k ++ X.extract 0 na ++ (O.push (at' Y (nb - 1)) ++ (Y.extract k (nb - 1)).reverse).reverse, ?_, j3.first e4 (by lia) (by lia) hf, sm⟩)
         simp [Array.map_reverse]
        rw [if_neg e4]
        by_cases e5 : k = 0
        ·rw [if_pos e5]
         refine wpS_pure (.inl ⟨X.extract 0 na ++ Y.extract 0 k ++ (O.push (at' Y (nb - 1)) ++ (Y.extract k (nb - 1)).reverse).reverse, ?_, j3.done1 e5 (by lia), sm⟩)
         simp [Array.map_reverse]
        rw [if_neg e5]
        refine wpS_bind (aG (by lia) ?_)
        have j4 := j3.one (by lia) (by lia) fun i h1 => k2 i h1
        have eO : ((O.map (kas_item it)).push (kas_item it (at' Y (nb - 1))) ++ ((Y.map (kas_item it)).extract k (nb - 1)).reverse).push (kas_item it (at' X (na - 1))) = ((O.push (at' Y (nb - 1)) ++ (Y.extract k (nb - 1)).reverse).push (at' X (na - 1))).map (kas_item it) := by simp [Array.map_reverse]
        by_cases e6 : na - 1 = 0
        ·rw [if_pos e6]
         refine wpS_pure (.inl ⟨X.extract 0 (na - 1) ++ Y.extract 0 k ++ ((O.push (at' Y (nb - 1)) ++ (Y.extract k (nb - 1)).reverse).push (at' X (na - 1))).reverse, ?_, j4.done2 e6 (by lia), sm⟩)
         simp [Array.map_reverse]
        ·rw [if_neg e6]
         have fin : ∀ m c d, ∃ O' na' nb' m' c' d', ((none, na - 1, k, ((O.map (kas_item it)).push (kas_item it (at' Y (nb - 1))) ++ ((Y.map (kas_item it)).extract k (nb - 1)).reverse).push (kas_item it (at' X (na - 1))), m, c, d) : Option (Array Keyed) × Nat × Nat × Array Keyed × Nat × Nat × Nat) = (none, na', nb', O'.map (kas_item it), m', c', d') /\ 1 <= na' /\ 1 < nb' /\ na' < X.size /\ nb' <= Y.size /\ na' + nb' + a6 <= X.size + Y.size /\ JH le (X.toList ++ Y.toList) X Y O' na' nb' := fun m c d => ⟨_, _, _, m, c, d, by rw [eO], by lia, by lia, by lia, by lia, by lia, j4⟩
         refine bu ?_ ?_
         ·exact wpS_pure (.inr ⟨sm, fin _ _ _⟩)
         ·exact wpS_pure ⟨sm, fin _ _ _⟩
       ·rw [if_neg k0]
        have k00 : k = nb - 1 := by lia
        subst k00
        refine wpS_bind (aG (by lia) ?_)
        have j4 := j2.one (by lia) (by lia) fun i h1 => k2 i h1
        have eO : ((O.map (kas_item it)).push (kas_item it (at' Y (nb - 1)))).push (kas_item it (at' X (na - 1))) = ((O.push (at' Y (nb - 1))).push (at' X (na - 1))).map (kas_item it) := by simp
        by_cases e6 : na - 1 = 0
        ·rw [if_pos e6]
         refine wpS_pure (.inl ⟨X.extract 0 (na - 1) ++ Y.extract 0 (nb - 1) ++ ((O.push (at' Y (nb - 1))).push (at' X (na - 1))).reverse, ?_, j4.done2 e6 (by lia), sm⟩)
         simp [Array.map_reverse]
        ·rw [if_neg e6]
         have fin : ∀ m c d, ∃ O' na' nb' m' c' d', ((none, na - 1, nb - 1, ((O.map (kas_item it)).push (kas_item it (at' Y (nb - 1)))).push (kas_item it (at' X (na - 1))), m, c, d) : Option (Array Keyed) × Nat × Nat × Array Keyed × Nat × Nat × Nat) = (none, na', nb', O'.map (kas_item it), m', c', d') /\ 1 <= na' /\ 1 < nb' /\ na' < X.size /\ nb' <= Y.size /\ na' + nb' + a6 <= X.size + Y.size /\ JH le (X.toList ++ Y.toList) X Y O' na' nb' := fun m c d => ⟨_, _, _, m, c, d, by rw [eO], by lia, by lia, by lia, by lia, by lia, j4⟩
         refine bu ?_ ?_
         ·exact wpS_pure (.inr ⟨sm, fin _ _ _⟩)
         ·exact wpS_pure ⟨sm, fin _ _ _⟩
     ·rw [if_neg k0]
      have k00 : na = k := by lia
      subst k00
      have ky : ∀ i, i < na -> le (at' X i) (at' Y (nb - 1)) := k2
      refine wpS_bind (aG (by lia) ?_)
      have j2 : JH le (X.toList ++ Y.toList) X Y (O.push (at' Y (nb - 1))) na (nb - 1) := (j.sy.one (by lia) (by lia) fun i h1 => ky i h1).sy
      by_cases e3 : nb - 1 = 1
      ·rw [if_pos e3]
       refine wpS_pure (.inl ⟨Y.extract 0 (nb - 1) ++ X.extract 0 na ++ (O.push (at' Y (nb - 1))).reverse, ?_, j2.first e3 (by lia) (by lia) hf, sm⟩)
       simp [Array.map_reverse]
      ·rw [if_neg e3]
       refine wpS_bind (aG (by lia) ?_)
       refine wpS_bind (bU o hc sm.1 hy (hx (na - 1) (by lia)) (by lia) (by lia) (fun i k h1 h2 => sy _ _ (by lia) (by lia)) fun k k1 k2 k3 => ?_)
       dsimp only
       simp only [Nat.zero_add] at k2 k3
       have j3 : JH le (X.toList ++ Y.toList) X Y (O.push (at' Y (nb - 1)) ++ (Y.extract k (nb - 1)).reverse) na k := (j2.sy.blk (by lia) (by lia) fun i l h1 h2 h3 => o.tr _ _ _ (sx l (na - 1) (by lia) (by lia)) (k3 i h1 h2)).sy
       by_cases k0 : nb - 1 - k > 0
       ·rw [if_pos k0]
        by_cases e4 : k = 1
        ·rw [if_pos e4]
         refine wpS_pure (.inl ⟨Y.extract 0 k ++ X.extract 0 na ++ (O.push (at' Y (nb - 1)) ++ (Y.extract k (nb - 1)).reverse).reverse, ?_, j3.first e4 (by lia) (by lia) hf, sm⟩)
         simp [Array.map_reverse]
        rw [if_neg e4]
        by_cases e5 : k = 0
        ·rw [if_pos e5]
         refine wpS_pure (.inl ⟨X.extract 0 na ++ Y.extract 0 k ++ (O.push (at' Y (nb - 1)) ++ (Y.extract k (nb - 1)).reverse).reverse, ?_, j3.done1 e5 (by lia), sm⟩)
         simp [Array.map_reverse]
        rw [if_neg e5]
        refine wpS_bind (aG (by lia) ?_)
        have j4 := j3.one (by lia) (by lia) fun i h1 => k2 i h1
        have eO : ((O.map (kas_item it)).push (kas_item it (at' Y (nb - 1))) ++ ((Y.map (kas_item it)).extract k (nb - 1)).reverse).push (kas_item it (at' X (na - 1))) = ((O.push (at' Y (nb - 1)) ++ (Y.extract k (nb - 1)).reverse).push (at' X (na - 1))).map (kas_item it) := by simp [Array.map_reverse]
        by_cases e6 : na - 1 = 0
        ·rw [if_pos e6]
         refine wpS_pure (.inl ⟨X.extract 0 (na - 1) ++ Y.extract 0 k ++ ((O.push (at' Y (nb - 1)) ++ (Y.extract k (nb - 1)).reverse).push (at' X (na - 1))).reverse, ?_, j4.done2 e6 (by lia), sm⟩)
         simp [Array.map_reverse]
        ·rw [if_neg e6]
         have fin : ∀ m c d, ∃ O' na' nb' m' c' d', ((none, na - 1, k, ((O.map (kas_item it)).push (kas_item it (at' Y (nb - 1))) ++ ((Y.map (kas_item it)).extract k (nb - 1)).reverse).push (kas_item it (at' X (na - 1))), m, c, d) : Option (Array Keyed) × Nat × Nat × Array Keyed × Nat × Nat × Nat) = (none, na', nb', O'.map (kas_item it), m', c', d') /\ 1 <= na' /\ 1 < nb' /\ na' < X.size /\ nb' <= Y.size /\ na' + nb' + a6 <= X.size + Y.size /\ JH le (X.toList ++ Y.toList) X Y O' na' nb' := fun m c d => ⟨_, _, _, m, c, d, by rw [eO], by lia, by lia, by lia, by lia, by lia, j4⟩
         refine bu ?_ ?_
         ·exact wpS_pure (.inr ⟨sm, fin _ _ _⟩)
         ·exact wpS_pure ⟨sm, fin _ _ _⟩
       ·rw [if_neg k0]
        have k00 : k = nb - 1 := by lia
        subst k00
        refine wpS_bind (aG (by lia) ?_)
        have j4 := j2.one (by lia) (by lia) fun i h1 => k2 i h1
        have eO : ((O.map (kas_item it)).push (kas_item it (at' Y (nb - 1)))).push (kas_item it (at' X (na - 1))) = ((O.push (at' Y (nb - 1))).push (at' X (na - 1))).map (kas_item it) := by simp
        by_cases e6 : na - 1 = 0
        ·rw [if_pos e6]
         refine wpS_pure (.inl ⟨X.extract 0 (na - 1) ++ Y.extract 0 (nb - 1) ++ ((O.push (at' Y (nb - 1))).push (at' X (na - 1))).reverse, ?_, j4.done2 e6 (by lia), sm⟩)
         simp [Array.map_reverse]
        ·rw [if_neg e6]
         have fin : ∀ m c d, ∃ O' na' nb' m' c' d', ((none, na - 1, nb - 1, ((O.map (kas_item it)).push (kas_item it (at' Y (nb - 1)))).push (kas_item it (at' X (na - 1))), m, c, d) : Option (Array Keyed) × Nat × Nat × Array Keyed × Nat × Nat × Nat) = (none, na', nb', O'.map (kas_item it), m', c', d') /\ 1 <= na' /\ 1 < nb' /\ na' < X.size /\ nb' <= Y.size /\ na' + nb' + a6 <= X.size + Y.size /\ JH le (X.toList ++ Y.toList) X Y O' na' nb' := fun m c d => ⟨_, _, _, m, c, d, by rw [eO], by lia, by lia, by lia, by lia, by lia, j4⟩
         refine bu ?_ ?_
         ·exact wpS_pure (.inr ⟨sm, fin _ _ _⟩)
         ·exact wpS_pure ⟨sm, fin _ _ _⟩
end
section
variable {α : Type}
theorem jb (lo : Nat) : ∀ (R : List α) (p : Array α) (j : Nat), lo + j + R.length <= p.size -> ((R.zipIdx j).foldl (fun a x => a.setIfInBounds (lo + x.2) x.1) p).toList = p.toList.take (lo + j) ++ R ++ p.toList.drop (lo + j + R.length)
 | [], p, j, _ => by simp
 | r :: R, p, j, h => by
  have hl : lo + j < p.toList.length := by simp at h ⊢; lia
  rw [List.zipIdx_cons, List.foldl_cons, jb lo R _ (j + 1) (by simp at h ⊢; lia)]
  have e1 : (p.setIfInBounds (lo + j) r).toList = p.toList.set (lo + j) r := by simp
  have e2 : (p.toList.set (lo + j) r).take (lo + (j + 1)) = p.toList.take (lo + j) ++ [r] := by
   rw [<- Nat.add_assoc, List.take_succ_eq_append_getElem (by simpa using hl), List.take_set_of_le (Nat.le_refl _)]
   simp
  have e3 : (p.toList.set (lo + j) r).drop (lo + (j + 1) + R.length) = p.toList.drop (lo + j + (r :: R).length) := by
   rw [List.drop_set_of_lt (by lia), List.length_cons]
   congr 1; lia
  rw [e1, e2, e3]
  simp
end
section
variable {prog : Program} {w : World} {A : Around} {E : Value -> Shared -> Prop} {s : Shared} {κ : SortKind} {it : Array Keyed} {n : Nat} {lt : Nat -> Nat -> Bool} {le : Nat -> Nat -> Prop}
def Stt (κ : SortKind) (it : Array Keyed) (st : SortSt) (p : Array Nat) (pend : Array (Nat × Nat × Nat)) : Prop := kindOf st = κ /\ arrOf st = p.map (kas_item it) /\ pendingOf st = pend /\ failedOf st = none
structure Srtd (le : Nat -> Nat -> Prop) (p p' : Array Nat) (lo hi : Nat) : Prop where
 perm : p'.Perm p
 out : ∀ k, k < lo \/ hi <= k -> at' p' k = at' p k
 asc : ∀ i j, lo <= i -> i <= j -> j < hi -> le (at' p' i) (at' p' j)
theorem Cp {σ : Type} {M : Model} {x : σ} {Q : PUnit -> σ -> Prop} {st : σ} (h : Q ⟨⟩ x) : wpS M A E s (set x : StateT σ Sem PUnit) Q st := by
 unfold wpS
 rw [StateT.run_set]
 exact wpAny_pure ⟨rfl, h⟩
theorem GY (l : List Nat) (k : Nat) : at' l.toArray k = (l[k]?).getD 0 := by simp [at']
theorem El (p : Array Nat) (k : Nat) : at' p k = (p.toList[k]?).getD 0 := by simp [at']
theorem wA {p : Array Nat} {R : List Nat} {lo : Nat} (h : lo + R.length <= p.size) (k : Nat) : at' (p.toList.take lo ++ R ++ p.toList.drop (lo + R.length)).toArray k = if lo <= k /\ k < lo + R.length then (R[k - lo]?).getD 0 else at' p k := by
 rw [GY, El]
 have hl : (p.toList.take lo).length = lo := by rw [List.length_take]; simp; lia
 by_cases h1 : k < lo
 ·rw [if_neg (by lia), List.append_assoc, List.getElem?_append_left (by lia), List.getElem?_take, if_pos h1]
 ·by_cases h2 : k < lo + R.length
  ·rw [if_pos ⟨by lia, h2⟩, List.append_assoc, List.getElem?_append_right (by lia), hl, List.getElem?_append_left (by lia)]
  ·rw [if_neg (by lia), List.getElem?_append_right (by rw [List.length_append, hl]; lia), List.length_append, hl, List.getElem?_drop]
   congr 2; lia
theorem Am {p : Array Nat} {R : List Nat} {lo : Nat} (h : R.Perm (p.extract lo (lo + R.length)).toList) : (p.toList.take lo ++ R ++ p.toList.drop (lo + R.length)).toArray.Perm p := by
 rw [Array.perm_iff_toList_perm]
 show (p.toList.take lo ++ R ++ p.toList.drop (lo + R.length)).Perm p.toList
 refine ((h.append_left _).append_right _).trans ?_
 rw [<- jK (by lia), List.take_append_drop]
theorem Bh {p : Array Nat} {i j k : Nat} (h : i + k < j) : at' (p.extract i j) k = at' p (i + k) := by
 rw [El, El, Array.toList_extract, List.extract_eq_take_drop, List.getElem?_take, if_pos (by lia), List.getElem?_drop]
theorem vI {p : Array Nat} {i j : Nat} (h : j <= p.size) : (p.extract i j).size = j - i := by simp; lia
theorem zu (o : Ord lt le) (hc : rB prog w A s κ it n lt) {i sa na pw sb nb q : Nat} {p : Array Nat} {pend : Array (Nat × Nat × Nat)} {Q : Bool -> SortSt -> Prop} {st : SortSt} (S : Stt κ it st p pend) (h1 : pend[i]? = some (sa, na, pw)) (h2 : pend[i + 1]? = some (sb, nb, q))
  (hsb : sb = sa + na) (na1 : 1 <= na) (nb1 : 1 <= nb) (hz : sb + nb <= p.size) (hp : ∀ i, i < p.size -> at' p i < n) (sA : ∀ i j, i <= j -> j < na -> le (at' p (sa + i)) (at' p (sa + j))) (sB : ∀ i j, i <= j -> j < nb -> le (at' p (sb + i)) (at' p (sb + j)))
  (h : ∀ p' st', Stt κ it st' p' ((pend.setIfInBounds i (sa, na + nb, pw)).eraseIdxIfInBounds (i + 1)) -> Srtd le p p' sa (sa + (na + nb)) -> Q true st') : wpS (model prog w) A E s (mergeAt' i) Q st := by
 obtain ⟨S1, S2, S3, S4⟩ := S
 refine wpS_bind (wpS_get ?_)
 have S3' : (sortPriv% PySem.Builtin.SortState.pending) st = pend := S3
 have S2' : (sortPriv% PySem.Builtin.SortState.a) st = p.map (kas_item it) := S2
 rw [S3', h1, h2]
 refine wpS_bind (Cp ?_)
 rw [S2']
 generalize hst : (sortPriv% PySem.Builtin.SortState.mk) _ _ _ _ _ = st2
 have T : Stt κ it st2 p ((pend.setIfInBounds i (sa, na + nb, pw)).eraseIdxIfInBounds (i + 1)) := by subst hst; exact ⟨S1, rfl, rfl, S4⟩
 clear hst S1 S2 S3 S4 S2' S3' h1 h2
 generalize ((pend.setIfInBounds i (sa, na + nb, pw)).eraseIdxIfInBounds (i + 1)) = pend2 at T h
 have sA' : ∀ i j, sa <= i -> i <= j -> j < sb -> le (at' p i) (at' p j) := fun i j a1 a2 a3 => by
  have := sA (i - sa) (j - sa) (by lia) (by lia)
  rwa [show sa + (i - sa) = i by lia, show sa + (j - sa) = j by lia] at this
 have sB' : ∀ i j, sb <= i -> i <= j -> j < sb + nb -> le (at' p i) (at' p j) := fun i j a1 a2 a3 => by
  have := sB (i - sb) (j - sb) (by lia) (by lia)
  rwa [show sb + (i - sb) = i by lia, show sb + (j - sb) = j by lia] at this
 refine wpS_bind (aG (by lia) ?_)
 refine wpS_bind (bU o hc T.1 hp (hp sb (by lia)) (by lia) (by lia) sA fun k k1 k2 k3 => ?_)
 have k2' : ∀ i, sa <= i -> i < sa + k -> le (at' p i) (at' p sb) := fun i a1 a2 => by
  have := k2 (i - sa) (by lia)
  rwa [show sa + (i - sa) = i by lia] at this
 have k3' : ∀ i, sa + k <= i -> i < sb -> le (at' p sb) (at' p i) := fun i a1 a2 => by
  have := k3 (i - sa) (by lia) (by lia)
  rwa [show sa + (i - sa) = i by lia] at this
 clear k2 k3
 dsimp only
 simp only [beq_iff_eq]
 by_cases e1 : na - k = 0
 ·rw [if_pos e1]
  refine wpS_pure (h p st2 T ⟨.refl _, fun _ _ => rfl, fun i j a1 a2 a3 => ?_⟩)
  by_cases b1 : j < sb
  ·exact sA' i j a1 a2 b1
  ·by_cases b2 : sb <= i
   ·exact sB' i j b2 a2 (by lia)
   ·exact o.tr _ _ _ (k2' i a1 (by lia)) (sB' sb j (Nat.le_refl _) (by lia) (by lia))
 rw [if_neg e1]
 refine wpS_bind (aG (by lia) ?_)
 have e2 : sa + k + (na - k) - 1 = sb - 1 := by lia
 rw [e2]
 refine wpS_bind (bU o hc T.1 hp (hp (sb - 1) (by lia)) (by lia) (by lia) sB fun m m1 k2 k3 => ?_)
 have m2' : ∀ i, sb <= i -> i < sb + m -> le (at' p i) (at' p (sb - 1)) := fun i a1 a2 => by
  have := k2 (i - sb) (by lia)
  rwa [show sb + (i - sb) = i by lia] at this
 have m3' : ∀ i, sb + m <= i -> i < sb + nb -> le (at' p (sb - 1)) (at' p i) := fun i a1 a2 => by
  have := k3 (i - sb) (by lia) (by lia)
  rwa [show sb + (i - sb) = i by lia] at this
 clear k2 k3
 dsimp only
 by_cases e3 : m = 0
 ·rw [if_pos e3]
  subst e3
  refine wpS_pure (h p st2 T ⟨.refl _, fun _ _ => rfl, fun i j a1 a2 a3 => ?_⟩)
  by_cases b1 : j < sb
  ·exact sA' i j a1 a2 b1
  ·by_cases b2 : sb <= i
   ·exact sB' i j b2 a2 (by lia)
   ·exact o.tr _ _ _ (sA' i (sb - 1) a1 (by lia) (by lia)) (m3' j (by lia) (by lia))
 rw [if_neg e3]
 generalize hr : na - k = r
 have hr1 : na = k + r := by lia
 have hr0 : 0 < r := by lia
 clear hr e1 e2
 have zx : (p.extract (sa + k) sb).size = r := by rw [vI (by lia)]; lia
 have zy : (p.extract sb (sb + m)).size = m := by rw [vI (by lia)]; lia
 have ax : ∀ i, i < r -> at' (p.extract (sa + k) sb) i = at' p (sa + k + i) := fun i hi => Bh (by lia)
 have ay : ∀ i, i < m -> at' (p.extract sb (sb + m)) i = at' p (sb + i) := fun i hi => Bh (by lia)
 have exy : (p.extract (sa + k) sb).toList ++ (p.extract sb (sb + m)).toList = (p.extract (sa + k) (sb + m)).toList := by
  have a1 := jK (X := p) (i := sa + k) (j := sb) (by lia)
  have a2 := jK (X := p) (i := sb) (j := sb + m) (by lia)
  have a3 := jK (X := p) (i := sa + k) (j := sb + m) (by lia)
  rw [a1, a3, List.append_assoc] at a2
  exact (List.append_cancel_left a2).symm
 have key : ∀ R : Array Nat, jr le ((p.extract (sa + k) sb).toList ++ (p.extract sb (sb + m)).toList) R -> R.toList.length = r + m /\ Srtd le p (p.toList.take (sa + k) ++ R.toList ++ p.toList.drop (sa + k + R.toList.length)).toArray sa (sa + (na + nb)) := fun R g => by
  have hlen : R.toList.length = r + m := by
   rw [g.2.length_eq, List.length_append, Array.length_toList, Array.length_toList, zx, zy]
  refine ⟨hlen, ?_, fun i hi => ?_, fun i j a1 a2 a3 => ?_⟩
  ·refine Am ?_
   rw [hlen, show sa + k + (r + m) = sb + m by lia, <- exy]
   exact g.2
  ·rw [wA (by lia), if_neg (by lia)]
  ·rw [wA (by lia), wA (by lia), hlen]
   have memR : ∀ i, i < r + m -> ∃ c, (R.toList[i]?).getD 0 = at' p c /\ ((sa + k <= c /\ c < sb) \/ (sb <= c /\ c < sb + m)) := fun i hi => by
    have hi' : i < R.toList.length := by lia
    have hm : R.toList[i] ∈ R.toList := List.getElem_mem hi'
    have e : (R.toList[i]?).getD 0 = R.toList[i] := by rw [List.getElem?_eq_getElem hi']; rfl
    rw [e]
    rcases List.mem_append.mp (g.2.mem_iff.mp hm) with hm | hm
    ·obtain ⟨c, c1, c2, c3, c4⟩ := oH hm
     exact ⟨c, c4.symm, .inl ⟨c1, c2⟩⟩
    ·obtain ⟨c, c1, c2, c3, c4⟩ := oH hm
     exact ⟨c, c4.symm, .inr ⟨c1, c2⟩⟩
   by_cases b1 : sa + k <= i /\ i < sa + k + (r + m)
   ·rw [if_pos b1]
    by_cases b2 : sa + k <= j /\ j < sa + k + (r + m)
    ·rw [if_pos b2]
     by_cases b3 : i = j
     ·subst b3; exact o.rf _
     ·have := List.pairwise_iff_getElem.mp g.1 (i - (sa + k)) (j - (sa + k)) (by lia) (by lia) (by lia)
      rw [List.getElem?_eq_getElem (by lia), List.getElem?_eq_getElem (by lia)]
      exact this
    ·rw [if_neg b2]
     obtain ⟨c, c1, c2⟩ := memR (i - (sa + k)) (by lia)
     rw [c1]
     rcases c2 with c2 | c2
     ·exact o.tr _ _ _ (sA' c (sb - 1) (by lia) (by lia) (by lia)) (m3' j (by lia) (by lia))
     ·exact sB' c j (by lia) (by lia) (by lia)
   ·rw [if_neg b1]
    by_cases b2 : sa + k <= j /\ j < sa + k + (r + m)
    ·rw [if_pos b2]
     obtain ⟨c, c1, c2⟩ := memR (j - (sa + k)) (by lia)
     rw [c1]
     rcases c2 with c2 | c2
     ·exact sA' i c (by lia) (by lia) (by lia)
     ·exact o.tr _ _ _ (k2' i (by lia) (by lia)) (sB' sb c (Nat.le_refl _) (by lia) (by lia))
    ·rw [if_neg b2]
     by_cases b3 : j < sb
     ·exact sA' i j a1 a2 b3
     ·by_cases b4 : sb <= i
      ·exact sB' i j b4 a2 (by lia)
      ·exact o.tr _ _ _ (k2' i a1 (by lia)) (sB' sb j (Nat.le_refl _) (by lia) (by lia))
 have fin : ∀ (R : Array Nat) (st3 : SortSt), Same κ st2 st3 -> jr le ((p.extract (sa + k) sb).toList ++ (p.extract sb (sb + m)).toList) R ->
   Q (failedOf st3).isNone (setArr st3 ((R.map (kas_item it)).toList.zipIdx.foldl (fun a x => a.setIfInBounds (sa + k + x.2) x.1) (arrOf st3))) := fun R st3 sm g => by
  obtain ⟨hlen, S⟩ := key R g
  have ea : arrOf st3 = p.map (kas_item it) := sm.2.1.trans T.2.1
  have ef : failedOf st3 = none := sm.2.2.2.trans T.2.2.2
  rw [ef]
  refine h _ _ ⟨sm.1, ?_, sm.2.2.1.trans T.2.2.1, ef⟩ S
  show (R.map (kas_item it)).toList.zipIdx.foldl (fun a x => a.setIfInBounds (sa + k + x.2) x.1) (arrOf st3) = _
  rw [ea]
  apply Array.toList_inj.mp
  rw [jb (sa + k) _ _ 0 (by simp at hlen ⊢; lia)]
  simp
 have cx : (p.map (kas_item it)).extract (sa + k) sb = (p.extract (sa + k) sb).map (kas_item it) := by simp
 have cy : (p.map (kas_item it)).extract sb (sb + m) = (p.extract sb (sb + m)).map (kas_item it) := by simp
 rw [cx, cy]
 have hx : ∀ i, i < (p.extract (sa + k) sb).size -> at' (p.extract (sa + k) sb) i < n := fun i hi => by rw [ax i (by lia)]; exact hp _ (by lia)
 have hy : ∀ i, i < (p.extract sb (sb + m)).size -> at' (p.extract sb (sb + m)) i < n := fun i hi => by rw [ay i (by lia)]; exact hp _ (by lia)
 have sx : ∀ i j, i <= j -> j < (p.extract (sa + k) sb).size -> le (at' (p.extract (sa + k) sb) i) (at' (p.extract (sa + k) sb) j) := fun i j a1 a2 => by rw [ax i (by lia), ax j (by lia)]; exact sA' _ _ (by lia) (by lia) (by lia)
 have sy : ∀ i j, i <= j -> j < (p.extract sb (sb + m)).size -> le (at' (p.extract sb (sb + m)) i) (at' (p.extract sb (sb + m)) j) := fun i j a1 a2 => by rw [ay i (by lia), ay j (by lia)]; exact sB' _ _ (by lia) (by lia) (by lia)
 have hf : ∀ i, i < (p.extract (sa + k) sb).size -> le (at' (p.extract sb (sb + m)) 0) (at' (p.extract (sa + k) sb) i) := fun i a1 => by rw [ay 0 (by lia), ax i (by lia)]; exact k3' _ (by lia) (by lia)
 have hl : ∀ i, i < (p.extract sb (sb + m)).size -> le (at' (p.extract sb (sb + m)) i) (at' (p.extract (sa + k) sb) ((p.extract (sa + k) sb).size - 1)) := fun i a1 => by
  rw [zx, ay i (by lia), ax _ (by lia), show sa + k + (r - 1) = sb - 1 by lia]
  exact m2' _ (by lia) (by lia)
 by_cases e4 : r <= m
 ·rw [if_pos e4]
  refine wpS_bind (yU o hc T.1 hx hy (by lia) (by lia) sx sy hf hl fun R st3 sm g => ?_)
  exact wpS_bind (wpS_modify (wpS_bind (wpS_get (wpS_pure (fin R st3 sm g)))))
 ·rw [if_neg e4]
  refine wpS_bind (yH o hc T.1 hx hy (by lia) (by lia) sx sy hf hl fun R st3 sm g => ?_)
  exact wpS_bind (wpS_modify (wpS_bind (wpS_get (wpS_pure (fin R st3 sm g)))))
end
section
variable {le : Nat -> Nat -> Prop} {lt : Nat -> Nat -> Bool} {p p' p2 : Array Nat} {a b c : Nat}
def Up (le : Nat -> Nat -> Prop) (p : Array Nat) (a b : Nat) : Prop := ∀ i j, a <= i -> i <= j -> j < b -> le (at' p i) (at' p j)
def Dn (le : Nat -> Nat -> Prop) (p : Array Nat) (a b : Nat) : Prop := ∀ i j, a <= i -> i <= j -> j < b -> le (at' p j) (at' p i)
def Es (le : Nat -> Nat -> Prop) (p : Array Nat) (a b : Nat) : Prop := ∀ k, a <= k -> k < b -> le (at' p k) (at' p (b - 1)) /\ le (at' p (b - 1)) (at' p k)
def Near (p p' : Array Nat) (lo hi : Nat) : Prop := p'.Perm p /\ ∀ k, k < lo \/ hi <= k -> at' p' k = at' p k
theorem Near.rf : Near p p a b := ⟨.refl _, fun _ _ => rfl⟩
theorem Near.tr (h : Near p p' a b) (h2 : Near p' p2 a b) : Near p p2 a b := ⟨h2.1.trans h.1, fun k hk => (h2.2 k hk).trans (h.2 k hk)⟩
theorem Near.wide {d e : Nat} (h : Near p p' a b) (h1 : d <= a) (h2 : b <= e) : Near p p' d e := ⟨h.1, fun k hk => h.2 k (by lia)⟩
theorem Near.size (h : Near p p' a b) : p'.size = p.size := h.1.size_eq
theorem d7 (h : b <= p.size) : Near p (kas_rev p a b) a b := ⟨mirror_perm _ _ _ _, fun k hk => by rw [bP h, if_neg (by lia)]⟩
theorem vF {d : Nat} (h : b < p.size) (hd : d <= b) : Near p (bubble p b d) (b - d) (b + 1) := ⟨bubble_perm _ _ _, fun k hk => by rw [mU h hd, if_neg (by lia), if_neg (by lia)]⟩
theorem Up.succ (o : Ord lt le) (h : Up le p a b) (hab : a < b) (hl : le (at' p (b - 1)) (at' p b)) : Up le p a (b + 1) := fun i j h1 h2 h3 => by
 by_cases e : j = b
 ·subst e
  by_cases e2 : i = j
  ·subst e2; exact o.rf _
  ·exact o.tr _ _ _ (h i (j - 1) h1 (by lia) (by lia)) hl
 ·exact h i j h1 h2 (by lia)
theorem Dn.succ (o : Ord lt le) (h : Dn le p a b) (hab : a < b) (hl : le (at' p b) (at' p (b - 1))) : Dn le p a (b + 1) := fun i j h1 h2 h3 => by
 by_cases e : j = b
 ·subst e
  by_cases e2 : i = j
  ·subst e2; exact o.rf _
  ·exact o.tr _ _ _ hl (h i (j - 1) h1 (by lia) (by lia))
 ·exact h i j h1 h2 (by lia)
theorem D7 (o : Ord lt le) : Up le p a (a + 1) := fun i j h1 h2 h3 => by
 have : i = j := by lia
 subst this; exact o.rf _
theorem Up.of (h : Up le p a b) (k : ∀ i, a <= i -> i < b -> at' p' i = at' p i) : Up le p' a b := fun i j h1 h2 h3 => by
 rw [k i h1 (by lia), k j (by lia) h3]; exact h i j h1 h2 h3
theorem Dn.rev (o : Ord lt le) (h : Dn le p a b) (hb : b <= p.size) (hc : a <= c) (he : Es le p c b) : Dn le (kas_rev p c b) a b := by
 have key : ∀ k, a <= k -> k < b -> ∃ k', a <= k' /\ k' < b /\ at' (kas_rev p c b) k = at' p k' /\ le (at' p k') (at' p k) /\ le (at' p k) (at' p k') := fun k hk0 hk => by
  rw [bP hb]
  split
  ·rename_i h1
   refine ⟨c + b - 1 - k, by lia, by lia, rfl, ?_⟩
   obtain ⟨a1, a2⟩ := he k h1.1 hk
   obtain ⟨b1, b2⟩ := he (c + b - 1 - k) (by lia) (by lia)
   exact ⟨o.tr _ _ _ b1 a2, o.tr _ _ _ a1 b2⟩
  ·exact ⟨k, hk0, hk, rfl, o.rf _, o.rf _⟩
 intro i j h0 hij hj
 obtain ⟨i', _, _, e1, x1, x2⟩ := key i h0 (by lia)
 obtain ⟨j', _, _, e2, y1, y2⟩ := key j (by lia) hj
 rw [e1, e2]
 exact o.tr _ _ _ y1 (o.tr _ _ _ (h i j h0 hij hj) x2)
theorem Dn.turn (h : Dn le p a b) (hb : b <= p.size) : Up le (kas_rev p a b) a b := by
 intro i j h0 hij hj
 rw [bP hb, bP hb, if_pos ⟨h0, by lia⟩, if_pos ⟨by lia, hj⟩]
 exact h _ _ (by lia) (by lia) (by lia)
theorem mP (o : Ord lt le) (h : a + 1 = b) : Es le p a b := fun k h1 h2 => by
 have : k = b - 1 := by lia
 subst this
 exact ⟨o.rf _, o.rf _⟩
end
section
variable {prog : Program} {w : World} {A : Around} {E : Value -> Shared -> Prop} {s : Shared} {κ : SortKind} {it : Array Keyed} {n : Nat} {lt : Nat -> Nat -> Bool} {le : Nat -> Nat -> Prop} {p : Array Nat} {pend : Array (Nat × Nat × Nat)} {st : SortSt}
theorem gh (hc : rB prog w A s κ it n lt) (S : Stt κ it st p pend) (hp : ∀ i, i < p.size -> at' p i < n) {i j : Nat} {Q : Option Bool -> SortSt -> Prop} (hi : i < p.size) (hj : j < p.size) (h : Q (some (lt (at' p i) (at' p j))) st) : wpS (model prog w) A E s (ltAt' i j) Q st := by
 rw [ltAt'_eq]
 refine wpS_bind (wpS_get ?_)
 dsimp only
 rw [S.2.1]
 exact wpS_bind (aG hi (wpS_bind (aG hj (w_lt hc S.1 (hp _ hi) (hp _ hj) h))))
theorem lP (S : Stt κ it st p pend) {i j : Nat} {Q : Unit -> SortSt -> Prop} (h : ∀ st', Stt κ it st' (kas_rev p i j) pend -> Q () st') : wpS (model prog w) A E s (reverseSlice' i j) Q st := by
 rw [reverseSlice'_eq]
 refine wpS_modify (h _ ⟨S.1, ?_, S.2.2⟩)
 show mirror (arrOf st) i j ((j - i) / 2) = _
 rw [S.2.1]
 exact kas_swaps_map (kas_item it) (fun k => i + k) (fun k => j - 1 - k) _ p
theorem DF (S : Stt κ it st p pend) {i j : Nat} {Q : Unit -> SortSt -> Prop} (h : ∀ st', Stt κ it st' (bubble p i (i - j)) pend -> Q () st') : wpS (model prog w) A E s (moveDown' i j) Q st := by
 rw [moveDown'_eq]
 refine wpS_modify (h _ ⟨S.1, ?_, S.2.2⟩)
 show bubble (arrOf st) i (i - j) = _
 rw [S.2.1]
 exact kas_swaps_map (kas_item it) (fun k => i - k) (fun k => i - k - 1) _ p
theorem Ge (o : Ord lt le) (hc : rB prog w A s κ it n lt) (S : Stt κ it st p pend) (hp : ∀ p' : Array Nat, p'.Perm p -> ∀ i, i < p'.size -> at' p' i < n) {lo m ok : Nat} {Q : Bool -> SortSt -> Prop} (hz : lo + m <= p.size) (hok : ok <= m) (ok1 : 1 <= ok) (hs : Up le p lo (lo + ok))
  (h : ∀ p' st', Stt κ it st' p' pend -> Near p p' lo (lo + m) -> Up le p' lo (lo + m) -> Q true st') : wpS (model prog w) A E s (binarySort' lo m ok) Q st := by
 refine wpS_bind (wpS_mono (wpS_forRange (I := fun k c st' => c = (none, ()) /\ ∃ p', Stt κ it st' p' pend /\ Near p p' lo (lo + m) /\ Up le p' lo (lo + min k m))
  (Q := fun c st' => c = (none, ()) /\ ∃ p', Stt κ it st' p' pend /\ Near p p' lo (lo + m) /\ Up le p' lo (lo + m)) ?step ?fin ?init) ?post)
 case post =>
  rintro c st' ⟨rfl, p', S', N, U⟩
  exact wpS_pure (h p' st' S' N U)
 case init => exact ⟨rfl, p, S, .rf, by rw [show min (max ok 1) m = ok by lia]; exact hs⟩
 case fin =>
  rintro c st' ⟨hc', p', S', N, U⟩
  exact ⟨hc', p', S', N, by rwa [show min (max (max ok 1) m) m = m by lia] at U⟩
 case step =>
  rintro k c st' hak hkn ⟨rfl, p', S', N, U⟩
  rw [show min k m = k by lia] at U
  have hsz := N.size
  have hk1 : 1 <= k := by lia
  have hkm : k < m := by lia
  clear hak hkn hok ok1 hs
  refine wpS_bind (wpS_mono (wpS_forRange (I := fun x c st'' => st'' = st' /\ ∃ l r, c = (none, l, r) /\ l <= r /\ r <= k /\ r - l <= k - x /\
    (∀ i, i < l -> le (at' p' (lo + i)) (at' p' (lo + k))) /\ (∀ i, r <= i -> i < k -> le (at' p' (lo + k)) (at' p' (lo + i))))
   (Q := fun c st'' => st'' = st' /\ ∃ l r, c = (none, l, r) /\ l <= k /\
    (∀ i, i < l -> le (at' p' (lo + i)) (at' p' (lo + k))) /\ (∀ i, l <= i -> i < k -> le (at' p' (lo + k)) (at' p' (lo + i)))) ?istep ?ifin ?iinit) ?ipost)
  case iinit => exact ⟨rfl, 0, k, rfl, by lia, by lia, by lia, fun i hi => by lia, fun i h1 h2 => by lia⟩
  case ifin =>
   rintro c st'' ⟨rfl, l, r, rfl, hlr, hrk, hm, hlo, hhi⟩
   have : l = r := by lia
   subst this
   exact ⟨rfl, l, l, rfl, hrk, hlo, hhi⟩
  case istep =>
   rintro x c st'' _ hxk ⟨rfl, l, r, rfl, hlr, hrk, hm, hlo, hhi⟩
   dsimp only
   by_cases hge : l ≥ r
   ·rw [if_pos hge]
    have : l = r := by lia
    subst this
    exact wpS_pure ⟨rfl, l, l, rfl, hrk, hlo, hhi⟩
   ·rw [if_neg hge]
    refine wpS_bind (gh hc S' (hp _ N.1) (by lia) (by lia) ?_)
    dsimp only
    cases cw : lt (at' p' (lo + k)) (at' p' (lo + (l + r) / 2)) with
    | true =>
     rw [if_pos rfl]
     exact wpS_pure ⟨rfl, l, (l + r) / 2, rfl, by lia, by lia, by lia, hlo, fun i h1 h2 => o.tr _ _ _ (o.yes _ _ cw) (U _ _ (by lia) (by lia) (by lia))⟩
    | false =>
     rw [if_neg (by decide)]
     exact wpS_pure ⟨rfl, (l + r) / 2 + 1, r, rfl, by lia, by lia, by lia, fun i h1 => o.tr _ _ _ (U _ _ (by lia) (by lia) (by lia)) (o.no _ _ cw), hhi⟩
  case ipost =>
   rintro c st'' ⟨rfl, l, r, rfl, hlk, hlo, hhi⟩
   dsimp only
   refine wpS_bind (DF S' fun st3 S3 => wpS_pure ⟨rfl, _, S3, N.tr ((vF (by lia) (by lia)).wide (by lia) (by lia)), ?_⟩)
   rw [show min (k + 1) m = k + 1 by lia, show lo + k - (lo + l) = k - l by lia]
   intro i j h1 h2 h3
   rw [mU (by lia) (by lia), mU (by lia) (by lia)]
   rw [show lo + k - (k - l) = lo + l by lia]
   by_cases i1 : i = lo + l
   ·rw [if_pos i1]
    by_cases j1 : j = lo + l
    ·rw [if_pos j1]; exact o.rf _
    ·rw [if_neg j1]
     rw [if_pos (by lia)]
     have := hhi (j - 1 - lo) (by lia) (by lia)
     rwa [show lo + (j - 1 - lo) = j - 1 by lia] at this
   ·rw [if_neg i1]
    by_cases j1 : j = lo + l
    ·rw [if_pos j1, if_neg (by lia)]
     have := hlo (i - lo) (by lia)
     rwa [show lo + (i - lo) = i by lia] at this
    ·rw [if_neg j1]
     by_cases i2 : lo + l < i /\ i <= lo + k
     ·rw [if_pos i2, if_pos (by lia)]
      exact U _ _ (by lia) (by lia) (by lia)
     ·rw [if_neg i2]
      by_cases j2 : lo + l < j /\ j <= lo + k
      ·rw [if_pos j2]
       exact U _ _ (by lia) (by lia) (by lia)
      ·rw [if_neg j2]
       exact U _ _ (by lia) (by lia) (by lia)
end
section
variable {prog : Program} {w : World} {A : Around} {E : Value -> Shared -> Prop} {s : Shared} {κ : SortKind} {it : Array Keyed} {n : Nat} {lt : Nat -> Nat -> Bool} {le : Nat -> Nat -> Prop} {p : Array Nat} {pend : Array (Nat × Nat × Nat)} {st : SortSt}
theorem Cz (o : Ord lt le) (hc : rB prog w A s κ it n lt) (S : Stt κ it st p pend) (hp : ∀ p' : Array Nat, p'.Perm p -> ∀ i, i < p'.size -> at' p' i < n) {lo nrem : Nat} {Q : Option Nat -> SortSt -> Prop} (h1 : 1 <= nrem) (hz : lo + nrem <= p.size)
  (h : ∀ m p' st', Stt κ it st' p' pend -> 1 <= m -> m <= nrem -> Near p p' lo (lo + m) -> Up le p' lo (lo + m) -> Q (some m) st') : wpS (model prog w) A E s (countRun' lo nrem) Q st := by
 refine wpS_bind (wpS_mono (wpS_forRange (I := fun x c st' => st' = st /\ c = (none, x) /\ x <= nrem /\ Up le p lo (lo + x))
  (Q := fun c st' => st' = st /\ ∃ m, c = (none, m) /\ 1 <= m /\ m <= nrem /\ Up le p lo (lo + m) /\ (m < nrem -> le (at' p (lo + m)) (at' p (lo + m - 1)))) ?s1 ?f1 ?i1) ?p1)
 case i1 => exact ⟨rfl, rfl, h1, D7 o⟩
 case f1 =>
  rintro c st' ⟨rfl, rfl, k1, k2⟩
  exact ⟨rfl, _, rfl, by lia, k1, k2, fun _ => by lia⟩
 case s1 =>
  rintro x c st' hx0 hx ⟨rfl, rfl, k1, k2⟩
  dsimp only
  refine wpS_bind (gh hc S (hp p (.refl _)) (by lia) (by lia) ?_)
  dsimp only
  cases cw : lt (at' p (lo + x)) (at' p (lo + x - 1)) with
  | true =>
   rw [if_pos rfl]
   exact wpS_pure ⟨rfl, x, rfl, hx0, k1, k2, fun _ => o.yes _ _ cw⟩
  | false =>
   rw [if_neg (by decide)]
   exact wpS_pure ⟨rfl, rfl, by lia, Up.succ (b := lo + x) o k2 (by lia) (o.no _ _ cw)⟩
 case p1 =>
  rintro c st' ⟨rfl, m, rfl, m1, m2, U, hd⟩
  dsimp only
  simp only [beq_iff_eq]
  by_cases e1 : m = nrem
  ·rw [if_pos e1]
   exact wpS_pure (h m p st' S m1 m2 .rf U)
  rw [if_neg e1]
  have e1' : m < nrem := by lia
  clear e1
  by_cases e2 : m > 1
  ·rw [if_pos e2]
   refine wpS_bind (gh hc S (hp p (.refl _)) (by lia) (by lia) ?_)
   dsimp only
   cases cw : lt (at' p lo) (at' p (lo + m - 1)) with
   | true =>
    rw [if_pos rfl]
    exact wpS_pure (h m p st' S m1 m2 .rf U)
   | false =>
    rw [if_neg (by decide)]
    have g0 := o.no _ _ cw
    refine wpS_bind (lP S fun stx Sx => ?_)
    have same : ∀ i j, lo <= i -> i < lo + m -> lo <= j -> j < lo + m -> le (at' p i) (at' p j) := fun i j a1 a2 a3 a4 => o.tr _ _ _ (U i (lo + m - 1) a1 (by lia) (by lia)) (o.tr _ _ _ g0 (U lo j (Nat.le_refl _) a3 a4))
    have d0 : Dn le (kas_rev p lo (lo + m)) lo (lo + m) := fun i j a1 a2 a3 => by
     rw [bP (by lia), bP (by lia), if_pos (by lia), if_pos (by lia)]
     exact same _ _ (by lia) (by lia) (by lia) (by lia)
    have Dx : Dn le (kas_rev p lo (lo + m)) lo (lo + (m + 1)) := Dn.succ (b := lo + m) o d0 (by lia) (by
     rw [bP (by lia), bP (by lia), if_neg (by lia), if_pos (by lia)]
     exact o.tr _ _ _ (hd (by lia)) (same _ _ (by lia) (by lia) (by lia) (by lia)))
    have Nx : Near p (kas_rev p lo (lo + m)) lo (lo + (m + 1)) := (d7 (by lia)).wide (Nat.le_refl _) (by lia)
    generalize kas_rev p lo (lo + m) = px at Sx Dx Nx
    refine wpS_bind (wpS_lift (wpAny_rule ⟨rfl, ?_⟩))
    refine wpS_bind (wpS_mono (wpS_forRange (I := fun x c st' => ∃ q p', c = (none, x, q) /\ Stt κ it st' p' pend /\ Near p p' lo (lo + x) /\ x <= nrem /\ q + 1 <= x /\ Dn le p' lo (lo + x) /\ Es le p' (lo + x - (q + 1)) (lo + x))
     (Q := fun c st' => ∃ x q p', c = (none, x, q) /\ m + 1 <= x /\ Stt κ it st' p' pend /\ Near p p' lo (lo + x) /\ x <= nrem /\ q + 1 <= x /\ Dn le p' lo (lo + x) /\ Es le p' (lo + x - (q + 1)) (lo + x)) ?s2 ?f2 ?i2) ?p2)
    case i2 => exact ⟨0, px, rfl, Sx, Nx, by lia, by lia, Dx, mP o (by lia)⟩
    case f2 =>
     rintro c st' ⟨q, p', rfl, S', N', k1, k2, D', E'⟩
     exact ⟨_, q, p', rfl, by lia, S', N', k1, k2, D', E'⟩
    case s2 =>
     rintro x c st' hx0 hx ⟨q, p', rfl, S', N', k1, k2, D', E'⟩
     dsimp only
     have hs2 := N'.size
     refine wpS_bind (gh hc S' (hp _ N'.1) (by lia) (by lia) ?_)
     dsimp only
     cases cw : lt (at' p' (lo + x)) (at' p' (lo + x - 1)) with
     | true =>
      rw [if_pos rfl]
      have hl := o.yes _ _ cw
      by_cases q0 : q > 0
      ·rw [if_pos q0]
       refine wpS_bind (lP S' fun st4 S4 => wpS_pure ?_)
       have d1 := D'.rev o (by lia) (by lia) E'
       have b1 : at' (kas_rev p' (lo + x - (q + 1)) (lo + x)) (lo + x) = at' p' (lo + x) := by rw [bP (by lia), if_neg (by lia)]
       have b2 : at' (kas_rev p' (lo + x - (q + 1)) (lo + x)) (lo + x - 1) = at' p' (lo + x - (q + 1)) := by
        rw [bP (by lia), if_pos (by lia)]
        congr 1; lia
       exact ⟨0, _, rfl, S4, (N'.tr ((d7 (by lia)).wide (by lia) (by lia))).wide (by lia) (by lia), by lia, by lia, Dn.succ (b := lo + x) o d1 (by lia) (by rw [b1, b2]; exact o.tr _ _ _ hl (E' _ (Nat.le_refl _) (by lia)).2), mP o (by lia)⟩
      ·rw [if_neg q0]
       exact wpS_pure ⟨0, p', rfl, S', N'.wide (by lia) (by lia), by lia, by lia, Dn.succ (b := lo + x) o D' (by lia) hl, mP o (by lia)⟩
     | false =>
      rw [if_neg (by decide)]
      have g1 := o.no _ _ cw
      refine wpS_bind (gh hc S' (hp _ N'.1) (by lia) (by lia) ?_)
      dsimp only
      cases cw2 : lt (at' p' (lo + x - 1)) (at' p' (lo + x)) with
      | true =>
       rw [if_pos rfl]
       exact wpS_pure ⟨x, q, p', rfl, hx0, S', N', k1, k2, D', E'⟩
      | false =>
       rw [if_neg (by decide)]
       have g2 := o.no _ _ cw2
       refine wpS_pure ⟨q + 1, p', rfl, S', N'.wide (by lia) (by lia), by lia, by lia, Dn.succ (b := lo + x) o D' (by lia) g2, fun k a1 a2 => ?_⟩
       rw [show lo + (x + 1) - 1 = lo + x by lia]
       by_cases hk : k = lo + x
       ·subst hk; exact ⟨o.rf _, o.rf _⟩
       ·obtain ⟨x1, x2⟩ := E' k (by lia) (by lia)
        exact ⟨o.tr _ _ _ x1 g1, o.tr _ _ _ g2 x2⟩
    case p2 =>
     rintro c st' ⟨x, q, p', rfl, x1, S', N', x2, x3, D', E'⟩
     dsimp only
     have hs2 := N'.size
     by_cases q0 : q > 0
     ·rw [if_pos q0]
      refine wpS_bind (lP S' fun stX SX => ?_)
      have DX := D'.rev o (by lia) (by lia) E'
      have NX := N'.tr ((d7 (by lia)).wide (a := lo + x - (q + 1)) (b := lo + x) (d := lo) (e := lo + x) (by lia) (by lia))
      generalize kas_rev p' (lo + x - (q + 1)) (lo + x) = pX at SX DX NX
      refine wpS_bind (lP SX fun st4 S4 => ?_)
      have hs4 := NX.size
      have N4 := NX.tr (d7 (a := lo) (b := lo + x) (by lia))
      have U4 := DX.turn (by lia)
      refine wpS_bind (wpS_mono (wpS_forRange (I := fun y c st' => st' = st4 /\ c = (none, y) /\ y <= nrem /\ Up le (kas_rev pX lo (lo + x)) lo (lo + y))
       (Q := fun c st' => st' = st4 /\ ∃ y, c = (none, y) /\ x <= y /\ y <= nrem /\ Up le (kas_rev pX lo (lo + x)) lo (lo + y)) ?s3 ?f3 ?i3) ?p3)
      case i3 => exact ⟨rfl, rfl, x2, U4⟩
      case f3 =>
       rintro c st' ⟨rfl, rfl, k1, k2⟩
       exact ⟨rfl, _, rfl, by lia, k1, k2⟩
      case s3 =>
       rintro y c st' hy0 hy ⟨rfl, rfl, k1, k2⟩
       dsimp only
       have hs5 := N4.size
       refine wpS_bind (gh hc S4 (hp _ N4.1) (by lia) (by lia) ?_)
       dsimp only
       cases cw : lt (at' (kas_rev pX lo (lo + x)) (lo + y)) (at' (kas_rev pX lo (lo + x)) (lo + y - 1)) with
       | true =>
        rw [if_pos rfl]
        exact wpS_pure ⟨rfl, y, rfl, hy0, k1, k2⟩
       | false =>
        rw [if_neg (by decide)]
        exact wpS_pure ⟨rfl, rfl, by lia, Up.succ (b := lo + y) o k2 (by lia) (o.no _ _ cw)⟩
      case p3 =>
       rintro c st' ⟨rfl, y, rfl, y1, y2, U⟩
       exact wpS_pure (h y _ st' S4 (by lia) y2 (N4.wide (Nat.le_refl _) (by lia)) U)
     ·rw [if_neg q0]
      have DX := D'
      have NX := N'
      have SX := S'
      generalize p' = pX at SX DX NX
      refine wpS_bind (lP SX fun st4 S4 => ?_)
      have hs4 := NX.size
      have N4 := NX.tr (d7 (a := lo) (b := lo + x) (by lia))
      have U4 := DX.turn (by lia)
      refine wpS_bind (wpS_mono (wpS_forRange (I := fun y c st' => st' = st4 /\ c = (none, y) /\ y <= nrem /\ Up le (kas_rev pX lo (lo + x)) lo (lo + y))
       (Q := fun c st' => st' = st4 /\ ∃ y, c = (none, y) /\ x <= y /\ y <= nrem /\ Up le (kas_rev pX lo (lo + x)) lo (lo + y)) ?s3 ?f3 ?i3) ?p3)
      case i3 => exact ⟨rfl, rfl, x2, U4⟩
      case f3 =>
       rintro c st' ⟨rfl, rfl, k1, k2⟩
       exact ⟨rfl, _, rfl, by lia, k1, k2⟩
      case s3 =>
       rintro y c st' hy0 hy ⟨rfl, rfl, k1, k2⟩
       dsimp only
       have hs5 := N4.size
       refine wpS_bind (gh hc S4 (hp _ N4.1) (by lia) (by lia) ?_)
       dsimp only
       cases cw : lt (at' (kas_rev pX lo (lo + x)) (lo + y)) (at' (kas_rev pX lo (lo + x)) (lo + y - 1)) with
       | true =>
        rw [if_pos rfl]
        exact wpS_pure ⟨rfl, y, rfl, hy0, k1, k2⟩
       | false =>
        rw [if_neg (by decide)]
        exact wpS_pure ⟨rfl, rfl, by lia, Up.succ (b := lo + y) o k2 (by lia) (o.no _ _ cw)⟩
      case p3 =>
       rintro c st' ⟨rfl, y, rfl, y1, y2, U⟩
       exact wpS_pure (h y _ st' S4 (by lia) y2 (N4.wide (Nat.le_refl _) (by lia)) U)
  ·rw [if_neg e2]
   have m11 : m = 1 := by lia
   have Sx := S
   have Dx : Dn le p lo (lo + (m + 1)) := Dn.succ (b := lo + m) o (fun i j a1 a2 a3 => by
    have : i = j := by lia
    subst this; exact o.rf _) (by lia) (hd (by lia))
   have Nx : Near p p lo (lo + (m + 1)) := .rf
   obtain ⟨px, hpx⟩ : ∃ px, px = p := ⟨p, rfl⟩
   rw [<- hpx] at Sx Dx
   replace Nx : Near p px lo (lo + (m + 1)) := by rw [hpx]; exact .rf
   refine wpS_bind (wpS_lift (wpAny_rule ⟨rfl, ?_⟩))
   refine wpS_bind (wpS_mono (wpS_forRange (I := fun x c st' => ∃ q p', c = (none, x, q) /\ Stt κ it st' p' pend /\ Near p p' lo (lo + x) /\ x <= nrem /\ q + 1 <= x /\ Dn le p' lo (lo + x) /\ Es le p' (lo + x - (q + 1)) (lo + x))
    (Q := fun c st' => ∃ x q p', c = (none, x, q) /\ m + 1 <= x /\ Stt κ it st' p' pend /\ Near p p' lo (lo + x) /\ x <= nrem /\ q + 1 <= x /\ Dn le p' lo (lo + x) /\ Es le p' (lo + x - (q + 1)) (lo + x)) ?s2 ?f2 ?i2) ?p2)
   case i2 => exact ⟨0, px, rfl, Sx, Nx, by lia, by lia, Dx, mP o (by lia)⟩
   case f2 =>
    rintro c st' ⟨q, p', rfl, S', N', k1, k2, D', E'⟩
    exact ⟨_, q, p', rfl, by lia, S', N', k1, k2, D', E'⟩
   case s2 =>
    rintro x c st' hx0 hx ⟨q, p', rfl, S', N', k1, k2, D', E'⟩
    dsimp only
    have hs2 := N'.size
    refine wpS_bind (gh hc S' (hp _ N'.1) (by lia) (by lia) ?_)
    dsimp only
    cases cw : lt (at' p' (lo + x)) (at' p' (lo + x - 1)) with
    | true =>
     rw [if_pos rfl]
     have hl := o.yes _ _ cw
     by_cases q0 : q > 0
     ·rw [if_pos q0]
      refine wpS_bind (lP S' fun st4 S4 => wpS_pure ?_)
      have d1 := D'.rev o (by lia) (by lia) E'
      have b1 : at' (kas_rev p' (lo + x - (q + 1)) (lo + x)) (lo + x) = at' p' (lo + x) := by rw [bP (by lia), if_neg (by lia)]
      have b2 : at' (kas_rev p' (lo + x - (q + 1)) (lo + x)) (lo + x - 1) = at' p' (lo + x - (q + 1)) := by
       rw [bP (by lia), if_pos (by lia)]
       congr 1; lia
      exact ⟨0, _, rfl, S4, (N'.tr ((d7 (by lia)).wide (by lia) (by lia))).wide (by lia) (by lia), by lia, by lia, Dn.succ (b := lo + x) o d1 (by lia) (by rw [b1, b2]; exact o.tr _ _ _ hl (E' _ (Nat.le_refl _) (by lia)).2), mP o (by lia)⟩
     ·rw [if_neg q0]
      exact wpS_pure ⟨0, p', rfl, S', N'.wide (by lia) (by lia), by lia, by lia, Dn.succ (b := lo + x) o D' (by lia) hl, mP o (by lia)⟩
    | false =>
     rw [if_neg (by decide)]
     have g1 := o.no _ _ cw
     refine wpS_bind (gh hc S' (hp _ N'.1) (by lia) (by lia) ?_)
     dsimp only
     cases cw2 : lt (at' p' (lo + x - 1)) (at' p' (lo + x)) with
     | true =>
      rw [if_pos rfl]
      exact wpS_pure ⟨x, q, p', rfl, hx0, S', N', k1, k2, D', E'⟩
     | false =>
      rw [if_neg (by decide)]
      have g2 := o.no _ _ cw2
      refine wpS_pure ⟨q + 1, p', rfl, S', N'.wide (by lia) (by lia), by lia, by lia, Dn.succ (b := lo + x) o D' (by lia) g2, fun k a1 a2 => ?_⟩
      rw [show lo + (x + 1) - 1 = lo + x by lia]
      by_cases hk : k = lo + x
      ·subst hk; exact ⟨o.rf _, o.rf _⟩
      ·obtain ⟨x1, x2⟩ := E' k (by lia) (by lia)
       exact ⟨o.tr _ _ _ x1 g1, o.tr _ _ _ g2 x2⟩
   case p2 =>
    rintro c st' ⟨x, q, p', rfl, x1, S', N', x2, x3, D', E'⟩
    dsimp only
    have hs2 := N'.size
    by_cases q0 : q > 0
    ·rw [if_pos q0]
     refine wpS_bind (lP S' fun stX SX => ?_)
     have DX := D'.rev o (by lia) (by lia) E'
     have NX := N'.tr ((d7 (by lia)).wide (a := lo + x - (q + 1)) (b := lo + x) (d := lo) (e := lo + x) (by lia) (by lia))
     generalize kas_rev p' (lo + x - (q + 1)) (lo + x) = pX at SX DX NX
     refine wpS_bind (lP SX fun st4 S4 => ?_)
     have hs4 := NX.size
     have N4 := NX.tr (d7 (a := lo) (b := lo + x) (by lia))
     have U4 := DX.turn (by lia)
     refine wpS_bind (wpS_mono (wpS_forRange (I := fun y c st' => st' = st4 /\ c = (none, y) /\ y <= nrem /\ Up le (kas_rev pX lo (lo + x)) lo (lo + y))
      (Q := fun c st' => st' = st4 /\ ∃ y, c = (none, y) /\ x <= y /\ y <= nrem /\ Up le (kas_rev pX lo (lo + x)) lo (lo + y)) ?s3 ?f3 ?i3) ?p3)
     case i3 => exact ⟨rfl, rfl, x2, U4⟩
     case f3 =>
      rintro c st' ⟨rfl, rfl, k1, k2⟩
      exact ⟨rfl, _, rfl, by lia, k1, k2⟩
     case s3 =>
      rintro y c st' hy0 hy ⟨rfl, rfl, k1, k2⟩
      dsimp only
      have hs5 := N4.size
      refine wpS_bind (gh hc S4 (hp _ N4.1) (by lia) (by lia) ?_)
      dsimp only
      cases cw : lt (at' (kas_rev pX lo (lo + x)) (lo + y)) (at' (kas_rev pX lo (lo + x)) (lo + y - 1)) with
      | true =>
       rw [if_pos rfl]
       exact wpS_pure ⟨rfl, y, rfl, hy0, k1, k2⟩
      | false =>
       rw [if_neg (by decide)]
       exact wpS_pure ⟨rfl, rfl, by lia, Up.succ (b := lo + y) o k2 (by lia) (o.no _ _ cw)⟩
     case p3 =>
      rintro c st' ⟨rfl, y, rfl, y1, y2, U⟩
      exact wpS_pure (h y _ st' S4 (by lia) y2 (N4.wide (Nat.le_refl _) (by lia)) U)
    ·rw [if_neg q0]
     have DX := D'
     have NX := N'
     have SX := S'
     generalize p' = pX at SX DX NX
     refine wpS_bind (lP SX fun st4 S4 => ?_)
     have hs4 := NX.size
     have N4 := NX.tr (d7 (a := lo) (b := lo + x) (by lia))
     have U4 := DX.turn (by lia)
     refine wpS_bind (wpS_mono (wpS_forRange (I := fun y c st' => st' = st4 /\ c = (none, y) /\ y <= nrem /\ Up le (kas_rev pX lo (lo + x)) lo (lo + y))
      (Q := fun c st' => st' = st4 /\ ∃ y, c = (none, y) /\ x <= y /\ y <= nrem /\ Up le (kas_rev pX lo (lo + x)) lo (lo + y)) ?s3 ?f3 ?i3) ?p3)
     case i3 => exact ⟨rfl, rfl, x2, U4⟩
     case f3 =>
      rintro c st' ⟨rfl, rfl, k1, k2⟩
      exact ⟨rfl, _, rfl, by lia, k1, k2⟩
     case s3 =>
      rintro y c st' hy0 hy ⟨rfl, rfl, k1, k2⟩
      dsimp only
      have hs5 := N4.size
      refine wpS_bind (gh hc S4 (hp _ N4.1) (by lia) (by lia) ?_)
      dsimp only
      cases cw : lt (at' (kas_rev pX lo (lo + x)) (lo + y)) (at' (kas_rev pX lo (lo + x)) (lo + y - 1)) with
      | true =>
       rw [if_pos rfl]
       exact wpS_pure ⟨rfl, y, rfl, hy0, k1, k2⟩
      | false =>
       rw [if_neg (by decide)]
       exact wpS_pure ⟨rfl, rfl, by lia, Up.succ (b := lo + y) o k2 (by lia) (o.no _ _ cw)⟩
     case p3 =>
      rintro c st' ⟨rfl, y, rfl, y1, y2, U⟩
      exact wpS_pure (h y _ st' S4 (by lia) y2 (N4.wide (Nat.le_refl _) (by lia)) U)
end
section
variable {le : Nat -> Nat -> Prop} {p p' : Array Nat} {a b c : Nat}
def Rn (le : Nat -> Nat -> Prop) (p : Array Nat) : Nat -> List (Nat × Nat × Nat) -> Nat -> Prop
 | a, [], b => a = b
 | a, e :: es, b => e.1 = a /\ 1 <= e.2.1 /\ Up le p a (a + e.2.1) /\ Rn le p (a + e.2.1) es b
theorem Rn.len_le : ∀ {l : List (Nat × Nat × Nat)} {a : Nat}, Rn le p a l b -> a + l.length <= b
 | [], a, h => by have : a = b := h; simp [this]
 | e :: es, a, h => by
  have := Rn.len_le h.2.2.2
  have := h.2.1
  simp; lia
theorem Rn.of : ∀ {l : List (Nat × Nat × Nat)} {a : Nat}, Rn le p a l b -> (∀ k, a <= k -> k < b -> at' p' k = at' p k) -> Rn le p' a l b
 | [], a, h, _ => h
 | e :: es, a, h, k => ⟨h.1, h.2.1, h.2.2.1.of fun i h1 h2 => k i h1 (by have := Rn.len_le h.2.2.2; lia), Rn.of h.2.2.2 fun i h1 h2 => k i (by lia) h2⟩
theorem Rn.app : ∀ {l l' : List (Nat × Nat × Nat)} {a : Nat}, Rn le p a (l ++ l') b -> ∃ c, Rn le p a l c /\ Rn le p c l' b
 | [], l', a, h => ⟨a, rfl, h⟩
 | e :: es, l', a, h => by
  obtain ⟨c, h1, h2⟩ := Rn.app h.2.2.2
  exact ⟨c, ⟨h.1, h.2.1, h.2.2.1, h1⟩, h2⟩
theorem Rn.put : ∀ {l l' : List (Nat × Nat × Nat)} {a : Nat}, Rn le p a l c -> Rn le p c l' b -> Rn le p a (l ++ l') b
 | [], l', a, h, h2 => by have : a = c := h; subst this; exact h2
 | e :: es, l', a, h, h2 => ⟨h.1, h.2.1, h.2.2.1, Rn.put h.2.2.2 h2⟩
theorem Rn.same : ∀ {l l' : List (Nat × Nat × Nat)} {a : Nat}, (l.map fun e => (e.1, e.2.1)) = (l'.map fun e => (e.1, e.2.1)) -> Rn le p a l b -> Rn le p a l' b
 | [], [], a, _, h => h
 | [], _ :: _, a, h, _ => by simp at h
 | _ :: _, [], a, h, _ => by simp at h
 | e :: es, e' :: es', a, h, k => by
  simp only [List.map_cons, List.cons.injEq, Prod.mk.injEq] at h
  obtain ⟨⟨h1, h2⟩, h3⟩ := h
  obtain ⟨k1, k2, k3, k4⟩ := k
  rw [h1] at k1
  rw [h2] at k2 k3 k4
  exact ⟨k1, k2, k3, Rn.same h3 k4⟩
theorem CN {c : Prop} [Decidable c] {k m : Nat} (h : k + 1 < m) : (if c then k - 1 else k) + 1 < m := by split <;> lia
theorem Dr {α : Type} (x z : α) (r : List α) : ∀ pre : List α, (pre ++ x :: r).set pre.length z = pre ++ z :: r
 | [] => rfl
 | y :: pre => by simp
theorem AA {α : Type} (z y : α) (r : List α) : ∀ pre : List α, (pre ++ z :: y :: r).eraseIdx (pre.length + 1) = pre ++ z :: r
 | [] => rfl
 | x :: pre => by
  have := AA z y r pre
  simp only [List.cons_append, List.length_cons, List.eraseIdx_cons_succ, this]
theorem DU {α : Type} {l : List α} {i : Nat} (h : i + 1 < l.length) : ∃ pre x y post, l = pre ++ x :: y :: post /\ pre.length = i := by
 refine ⟨l.take i, l[i], l[i + 1], l.drop (i + 2), ?_, by rw [List.length_take]; lia⟩
 rw [<- List.drop_eq_getElem_cons h, <- List.drop_eq_getElem_cons (by lia), List.take_append_drop]
end
section
variable {prog : Program} {w : World} {A : Around} {E : Value -> Shared -> Prop} {s : Shared} {κ : SortKind} {it : Array Keyed} {n : Nat} {lt : Nat -> Nat -> Bool} {le : Nat -> Nat -> Prop} {p : Array Nat} {pend : Array (Nat × Nat × Nat)} {st : SortSt}
theorem m9 (o : Ord lt le) (hc : rB prog w A s κ it n lt) (S : Stt κ it st p pend) (hp : ∀ i, i < p.size -> at' p i < n) {i b : Nat} {Q : Bool -> SortSt -> Prop} (hi : i + 1 < pend.size) (R : Rn le p 0 pend.toList b) (hb : b <= p.size)
  (h : ∀ p' pend' st', Stt κ it st' p' pend' -> Near p p' 0 b -> Rn le p' 0 pend'.toList b -> pend'.size + 1 = pend.size -> Q true st') : wpS (model prog w) A E s (mergeAt' i) Q st := by
 obtain ⟨pre, ⟨sa, na, pw⟩, ⟨sb, nb, q⟩, post, e, hl⟩ := DU (l := pend.toList) (i := i) (by simpa using hi)
 rw [e] at R
 obtain ⟨c, R1, R2⟩ := R.app
 obtain ⟨r1, r2, r3, r4, r5, r6, r7⟩ := R2
 dsimp only at r1 r2 r3 r4 r5 r6 r7
 subst r1
 have hle := r7.len_le
 have g1 : pend[i]? = some (sa, na, pw) := by rw [<- Array.getElem?_toList, e, List.getElem?_append_right (by lia)]; simp [hl]
 have g2 : pend[i + 1]? = some (sb, nb, q) := by rw [<- Array.getElem?_toList, e, List.getElem?_append_right (by lia)]; simp [hl]
 refine zu o hc S g1 g2 r4 r2 r5 (by lia) hp (fun i j a1 a2 => r3 _ _ (by lia) (by lia) (by lia)) (fun i j a1 a2 => r6 _ _ (by lia) (by lia) (by lia)) fun p' st' S' so => ?_
 have en : ((pend.setIfInBounds i (sa, na + nb, pw)).eraseIdxIfInBounds (i + 1)).toList = pre ++ (sa, na + nb, pw) :: post := by
  have h2 : i + 1 < (pend.setIfInBounds i (sa, na + nb, pw)).size := by simpa using hi
  rw [Array.eraseIdxIfInBounds, dif_pos h2, Array.toList_eraseIdx, Array.toList_setIfInBounds, e, <- hl]
  rw [Dr, AA]
 have hle1 := R1.len_le
 refine h p' _ st' S' ⟨so.perm, fun k hk => so.out k (by lia)⟩ ?_ ?_
 ·rw [en]
  refine Rn.put (R1.of fun k _ h2 => so.out k (by lia)) ⟨rfl, by dsimp only; lia, fun i j a1 a2 a3 => so.asc i j a1 a2 a3, ?_⟩
  dsimp only
  rw [show sa + (na + nb) = sa + na + nb by lia]
  exact r7.of fun k h1 h2 => so.out k (by lia)
 ·have e4 := congrArg List.length en
  have e3 := congrArg List.length e
  rw [Array.length_toList] at e4 e3
  rw [e4, e3]
  simp only [List.length_append, List.length_cons]
  lia
theorem Ey (o : Ord lt le) (hc : rB prog w A s κ it n lt) (S : Stt κ it st p #[]) (hp : ∀ p' : Array Nat, p'.Perm p -> ∀ i, i < p'.size -> at' p' i < n) {Q : Unit -> SortSt -> Prop}
  (h : ∀ p' pend' st', Stt κ it st' p' pend' -> p'.Perm p -> Up le p' 0 p.size -> Q () st') : wpS (model prog w) A E s sortRuns' Q st := by
 rw [sortRuns'_eq]
 refine wpS_bind (wpS_get ?_)
 dsimp only
 rw [S.2.1, Array.size_map]
 generalize minRun' p.size p.size 0 = minrun
 refine wpS_bind (wpS_mono (wpS_forRange (I := fun x c st' => ∃ lo p' pend', c = (none, lo) /\ Stt κ it st' p' pend' /\ p'.Perm p /\ Rn le p' 0 pend'.toList lo /\ lo <= p.size /\ x <= lo)
  (Q := fun c st' => ∃ p' pend', c.1 = none /\ Stt κ it st' p' pend' /\ p'.Perm p /\ Rn le p' 0 pend'.toList p.size) ?s1 ?f1 ?i1) ?p1)
 case i1 => exact ⟨0, p, #[], rfl, S, .refl _, rfl, by lia, by lia⟩
 case f1 =>
  rintro c st' ⟨lo, p', pend', rfl, S', P', R', l1, l2⟩
  have : lo = p.size := by lia
  subst this
  exact ⟨p', pend', rfl, S', P', R'⟩
 case s1 =>
  rintro x c st' _ hx ⟨lo, p', pend', rfl, S', P', R', l1, l2⟩
  dsimp only
  by_cases e1 : lo ≥ p.size
  ·rw [if_pos e1]
   have : lo = p.size := by lia
   subst this
   exact wpS_pure ⟨p', pend', rfl, S', P', R'⟩
  rw [if_neg e1]
  have hs' := P'.size_eq
  refine wpS_bind (Cz o hc S' (fun q hq => hp q (hq.trans P')) (by lia) (by lia) fun m p2 st2 S2 m1 m2 N2 U2 => ?_)
  have P2 := N2.1.trans P'
  have hs2 := P2.size_eq
  have R2 : Rn le p2 0 pend'.toList lo := R'.of fun k _ h2 => N2.2 k (.inl h2)
  dsimp only
  by_cases e2 : m < minrun
  ·rw [if_pos e2]
   refine wpS_bind (wpS_lift (wpAny_rule ⟨rfl, ?_⟩))
   refine wpS_bind (Ge o hc S2 (fun q hq => hp q (hq.trans P2)) (m := min (p.size - lo) minrun) (by lia) (by lia) m1 U2 fun p3 st3 S3 N3 U3 => ?_)
   replace R2 : Rn le p3 0 pend'.toList lo := R2.of fun k _ h2 => N3.2 k (.inl h2)
   replace P2 := N3.1.trans P2
   replace S2 := S3
   replace U2 := U3
   have hnn : 1 <= min (p.size - lo) minrun := by lia
   have hnn2 : lo + min (p.size - lo) minrun <= p.size := by lia
   clear S3 U3 N3 N2 hs2
   generalize min (p.size - lo) minrun = nn at *
   rw [if_neg (by decide)]
   clear st2 p2
   generalize p3 = p2 at *
   generalize st3 = st2 at *
   refine wpS_bind (wpS_get ?_)
   rw [S2.2.2.1]
   cases hbk : pend'.back? with
   | none =>
    dsimp only
    refine wpS_bind (wpS_modify (wpS_pure ⟨lo + nn, p2, pend'.push (lo, nn, 0), rfl, ⟨S2.1, S2.2.1, ?_, S2.2.2.2⟩, P2, ?_, by lia, by lia⟩))
    ·show (pendingOf st2).push _ = _
     rw [S2.2.2.1]
    ·rw [Array.toList_push]
     exact R2.put ⟨rfl, hnn, U2, rfl⟩
   | some e =>
    obtain ⟨s1, n1, z1⟩ := e
    dsimp only
    generalize power' _ _ _ _ = pw
    refine wpS_bind (wpS_mono (wpS_forRange (I := fun y c st3 => c = (none, ()) /\ ∃ p3 pend3, Stt κ it st3 p3 pend3 /\ p3.Perm p /\ Rn le p3 0 pend3.toList lo /\ Up le p3 lo (lo + nn))
     (Q := fun c st3 => c = (none, ()) /\ ∃ p3 pend3, Stt κ it st3 p3 pend3 /\ p3.Perm p /\ Rn le p3 0 pend3.toList lo /\ Up le p3 lo (lo + nn)) ?s2 ?f2 ?i2) ?p2)
    case i2 => exact ⟨rfl, p2, pend', S2, P2, R2, U2⟩
    case f2 => exact fun c st3 h => h
    case s2 =>
     rintro y c st3 _ hy ⟨rfl, p3, pend3, S3, P3, R3, U3⟩
     refine wpS_bind (wpS_get ?_)
     rw [S3.2.2.1]
     by_cases c1 : pend3.size > 1
     ·rw [if_pos c1]
      cases hg : pend3[pend3.size - 2]? with
      | none => exact wpS_pure ⟨rfl, p3, pend3, S3, P3, R3, U3⟩
      | some e =>
       obtain ⟨z2, z3, older⟩ := e
       dsimp only
       by_cases c2 : older <= pw
       ·rw [if_pos c2]
        exact wpS_pure ⟨rfl, p3, pend3, S3, P3, R3, U3⟩
       ·rw [if_neg c2]
        have hs3 := P3.size_eq
        refine wpS_bind (m9 o hc S3 (hp _ P3) (i := pend3.size - 2) (by lia) R3 (by lia) fun p4 pend4 st4 S4 N4 R4 _ => ?_)
        exact wpS_pure ⟨rfl, p4, pend4, S4, N4.1.trans P3, R4, U3.of fun i h1 h2 => N4.2 i (.inr h1)⟩
     ·rw [if_neg c1]
      exact wpS_pure ⟨rfl, p3, pend3, S3, P3, R3, U3⟩
    case p2 =>
     rintro c st3 ⟨rfl, p3, pend3, S3, P3, R3, U3⟩
     dsimp only
     refine wpS_bind (wpS_modify (wpS_bind (wpS_modify (wpS_pure ⟨lo + nn, p3, (pend3.modify (pend3.size - 1) fun e => (e.1, e.2.1, pw)).push (lo, nn, 0), rfl, ⟨S3.1, S3.2.1, ?_, S3.2.2.2⟩, P3, ?_, by lia, by lia⟩))))
     ·show ((pendingOf st3).modify ((pendingOf st3).size - 1) _).push _ = _
      rw [S3.2.2.1]
     ·rw [Array.toList_push]
      refine Rn.put (R3.same ?_) ⟨rfl, hnn, U3, rfl⟩
      apply List.ext_getElem?
      intro k
      rw [List.getElem?_map, List.getElem?_map, Array.getElem?_toList, Array.getElem?_toList, Array.getElem?_modify]
      split
      ·cases pend3[k]? <;> rfl
      ·rfl
  ·rw [if_neg e2]
   have hnn := m1
   have hnn2 : lo + m <= p.size := by lia
   refine wpS_bind (wpS_get ?_)
   rw [S2.2.2.1]
   cases hbk : pend'.back? with
   | none =>
    dsimp only
    refine wpS_bind (wpS_modify (wpS_pure ⟨lo + m, p2, pend'.push (lo, m, 0), rfl, ⟨S2.1, S2.2.1, ?_, S2.2.2.2⟩, P2, ?_, by lia, by lia⟩))
    ·show (pendingOf st2).push _ = _
     rw [S2.2.2.1]
    ·rw [Array.toList_push]
     exact R2.put ⟨rfl, hnn, U2, rfl⟩
   | some e =>
    obtain ⟨s1, n1, z1⟩ := e
    dsimp only
    generalize power' _ _ _ _ = pw
    refine wpS_bind (wpS_mono (wpS_forRange (I := fun y c st3 => c = (none, ()) /\ ∃ p3 pend3, Stt κ it st3 p3 pend3 /\ p3.Perm p /\ Rn le p3 0 pend3.toList lo /\ Up le p3 lo (lo + m))
     (Q := fun c st3 => c = (none, ()) /\ ∃ p3 pend3, Stt κ it st3 p3 pend3 /\ p3.Perm p /\ Rn le p3 0 pend3.toList lo /\ Up le p3 lo (lo + m)) ?s2 ?f2 ?i2) ?p2)
    case i2 => exact ⟨rfl, p2, pend', S2, P2, R2, U2⟩
    case f2 => exact fun c st3 h => h
    case s2 =>
     rintro y c st3 _ hy ⟨rfl, p3, pend3, S3, P3, R3, U3⟩
     refine wpS_bind (wpS_get ?_)
     rw [S3.2.2.1]
     by_cases c1 : pend3.size > 1
     ·rw [if_pos c1]
      cases hg : pend3[pend3.size - 2]? with
      | none => exact wpS_pure ⟨rfl, p3, pend3, S3, P3, R3, U3⟩
      | some e =>
       obtain ⟨z2, z3, older⟩ := e
       dsimp only
       by_cases c2 : older <= pw
       ·rw [if_pos c2]
        exact wpS_pure ⟨rfl, p3, pend3, S3, P3, R3, U3⟩
       ·rw [if_neg c2]
        have hs3 := P3.size_eq
        refine wpS_bind (m9 o hc S3 (hp _ P3) (i := pend3.size - 2) (by lia) R3 (by lia) fun p4 pend4 st4 S4 N4 R4 _ => ?_)
        exact wpS_pure ⟨rfl, p4, pend4, S4, N4.1.trans P3, R4, U3.of fun i h1 h2 => N4.2 i (.inr h1)⟩
     ·rw [if_neg c1]
      exact wpS_pure ⟨rfl, p3, pend3, S3, P3, R3, U3⟩
    case p2 =>
     rintro c st3 ⟨rfl, p3, pend3, S3, P3, R3, U3⟩
     dsimp only
     refine wpS_bind (wpS_modify (wpS_bind (wpS_modify (wpS_pure ⟨lo + m, p3, (pend3.modify (pend3.size - 1) fun e => (e.1, e.2.1, pw)).push (lo, m, 0), rfl, ⟨S3.1, S3.2.1, ?_, S3.2.2.2⟩, P3, ?_, by lia, by lia⟩))))
     ·show ((pendingOf st3).modify ((pendingOf st3).size - 1) _).push _ = _
      rw [S3.2.2.1]
     ·rw [Array.toList_push]
      refine Rn.put (R3.same ?_) ⟨rfl, hnn, U3, rfl⟩
      apply List.ext_getElem?
      intro k
      rw [List.getElem?_map, List.getElem?_map, Array.getElem?_toList, Array.getElem?_toList, Array.getElem?_modify]
      split
      ·cases pend3[k]? <;> rfl
      ·rfl
 case p1 =>
  rintro ⟨c, c'⟩ st' ⟨p', pend', hc1, S', P', R'⟩
  dsimp only at hc1
  subst hc1
  dsimp only
  refine wpS_bind (wpS_mono (wpS_forRange (I := fun x c st' => ∃ p' pend', c = (none, ()) /\ Stt κ it st' p' pend' /\ p'.Perm p /\ Rn le p' 0 pend'.toList p.size /\ pend'.size + x <= p.size)
   (Q := fun c st' => ∃ p' pend', c = (none, ()) /\ Stt κ it st' p' pend' /\ p'.Perm p /\ Rn le p' 0 pend'.toList p.size /\ pend'.size <= 1) ?s5 ?f5 ?i5) ?p5)
  case i5 => exact ⟨p', pend', rfl, S', P', R', by have := R'.len_le; rw [Array.length_toList] at this; lia⟩
  case f5 =>
   rintro c st' ⟨p', pend', rfl, S', P', R', hl⟩
   exact ⟨p', pend', rfl, S', P', R', by lia⟩
  case s5 =>
   rintro x c st' _ hx ⟨p', pend', rfl, S', P', R', hl⟩
   refine wpS_bind (wpS_get ?_)
   rw [S'.2.2.1]
   by_cases e1 : pend'.size <= 1
   ·rw [if_pos e1]
    exact wpS_pure ⟨p', pend', rfl, S', P', R', e1⟩
   rw [if_neg e1]
   have hs' := P'.size_eq
   refine wpS_bind (m9 o hc S' (hp _ P') ?_ R' (by lia) fun p4 pend4 st4 S4 N4 R4 h4 => ?_)
   ·exact CN (by lia)
   ·exact wpS_pure ⟨p4, pend4, rfl, S4, N4.1.trans P', R4, by lia⟩
  case p5 =>
   rintro c st' ⟨p', pend', rfl, S', P', R', hl⟩
   refine wpS_pure (h p' pend' st' S' P' ?_)
   cases hq : pend'.toList with
   | nil =>
    rw [hq] at R'
    have : 0 = p.size := R'
    intro i j _ _ h3
    lia
   | cons e es =>
    cases es with
    | nil =>
     rw [hq] at R'
     obtain ⟨r1, r2, r3, r4⟩ := R'
     have r4' : 0 + e.2.1 = p.size := r4
     rw [<- r4']
     exact r3
    | cons e2 es =>
     have := congrArg List.length hq
     rw [Array.length_toList] at this
     simp at this
     lia
end
section
variable {prog : Program} {w : World} {A : Around} {E : Value -> Shared -> Prop} {s : Shared}
structure Known (prog : Program) (w : World) (s : Shared) (vs : List Value) (κ : SortKind) (lt : Nat -> Nat -> Bool) : Prop where
 kind : ∀ (A : Around) (E : Value -> Shared -> Prop) (h' : Heap) (Q : SortKind -> Shared -> Prop), (∀ b o, s.heap.get? b = some o -> h'.get? b = some o) -> 2 <= vs.length -> Q κ { s with heap := h' } -> wpAny (model prog w) A (keyKind' vs.toArray) Q E { s with heap := h' }
 ask : ∀ (A : Around) (h' : Heap) (i j : Nat) (C : Bool -> Shared -> Prop), (∀ b o, s.heap.get? b = some o -> h'.get? b = some o) -> i < vs.length -> j < vs.length -> C (lt i j) { s with heap := h' } -> kas_ask prog w A κ vs i j C { s with heap := h' }
theorem Known.on {vs : List Value} {κ : SortKind} {lt : Nat -> Nat -> Bool} {h : Heap} (k : Known prog w s vs κ lt) (hk : ∀ b o, s.heap.get? b = some o -> h.get? b = some o) : Known prog w { s with heap := h } vs κ lt :=
 ⟨fun A E h' Q h2 => k.kind A E h' Q fun b o e => h2 b o (hk b o e), fun A h' i j C h2 => k.ask A h' i j C fun b o e => h2 b o (hk b o e)⟩
def jp (vs : List Value) (p : Array Nat) : Array Value := (p.toList.map fun i => vs.getD i Value.none).toArray
theorem xi {vs : List Value} {p : Array Nat} (h : p.size = vs.length) : (jp vs p).size = vs.length := by
 unfold jp; simp [h]
theorem vJ {vs : List Value} : jp vs (List.range vs.length).toArray = vs.toArray := by
 unfold jp
 congr 1
 apply List.ext_getElem
 ·simp
 ·intro i h1 h2
  simp at h1
  simp [h1]
theorem CO {le : Nat -> Nat -> Prop} (rf : ∀ a, le a a) {n : Nat} (h : n < 2) (p : Array Nat) : Asc le p n := fun i j hij hj => by
 have e : i = j := by lia
 subst e; exact rf _
theorem AJ {a : Addr} {vs : List Value} {n : Nat} {κ : SortKind} {lt : Nat -> Nat -> Bool} {le : Nat -> Nat -> Prop} {P : PySem.Fin -> Shared -> Prop} (o : Ord lt le) (ho : s.heap.get? a = some (seqObj "list" vs.toArray n)) (hN : vs.length <= sizeLine)
  (hk : ∀ h', (∀ b o, b ≠ a -> s.heap.get? b = some o -> h'.get? b = some o) -> Known prog w { s with heap := h' } vs κ lt)
  (h : ∀ p : Array Nat, p.Perm (List.range vs.length).toArray -> Asc le p vs.length -> P (.done (.ret .none)) { s with heap := sortedHeap s.heap a vs (jp vs p) }) : wpAny (model prog w) A (Builtin.«list.sort» ⟨[.ref a], []⟩) P E s := by
 have ha : a < s.heap.objs.size := Heap.lt_size ho
 obtain ⟨e1, ho1⟩ : ∃ e1, (s.heap.update a (Obj.mapSeq fun _ => #[])).get? a = some (seqObj "list" #[] e1) := ⟨_, get?_update_seq ho fun _ => #[]⟩
 have ne1 : a ≠ ((s.heap.update a (Obj.mapSeq fun _ => #[])).push (seqObj "tuple" vs.toArray 0)).objs.size := by rw [size_push', Heap.size_update]; exact Nat.ne_of_lt (Nat.lt_succ_of_lt ha)
 have ne2 : a ≠ (s.heap.update a (Obj.mapSeq fun _ => #[])).objs.size := by rw [Heap.size_update]; exact Nat.ne_of_lt ha
 have ho6 : (((s.heap.update a (Obj.mapSeq fun _ => #[])).push (seqObj "tuple" vs.toArray 0)).push (seqObj "list" #[] 0)).get? a = some (seqObj "list" #[] e1) := by rw [Heap.get?_push_ne _ _ _ ne1, Heap.get?_push_ne _ _ _ ne2, ho1]
 have keep : ∀ b q, b ≠ a -> s.heap.get? b = some q -> (((s.heap.update a (Obj.mapSeq fun _ => #[])).push (seqObj "tuple" vs.toArray 0)).push (seqObj "list" #[] 0)).get? b = some q := fun b q hb hq =>
  Heap.get?_push_of_some _ (Heap.get?_push_of_some _ ((Heap.get?_update_ne _ _ _ _ hb).trans hq))
 have K := hk _ keep
 rw [list_sort_plain]; refine wpAny_bind (listItems_at ho rfl (wpAny_bind (listUpdate_at ho rfl (wpAny_bind (seqEpoch_at ho1 rfl (wpAny_bind (wpAny_newTuple (wpAny_bind (wpAny_newList (wpAny_holding ?_))))))))))
 dsimp only
 have hn : vs.toArray.size = vs.length := by simp
 have fin : ∀ (p : Array Nat) (st : SortSt), p.Perm (List.range vs.length).toArray -> Asc le p vs.length -> (arrOf st).map (·.2) = jp vs p -> failedOf st = none ->
   wpAny (model prog w) A (do
    let touched := (← seqEpoch a) != e1
    Builtin.List.listUpdate (.ref a) fun _ => (arrOf st).map (·.2)
    if let some e := failedOf st then rule "list.sort.comparison-raised"; throw e
    if touched then rule "list.sort.modified"; raiseError "ValueError" "list modified during sort"
    ret .none) P E { s with heap := ((s.heap.update a (Obj.mapSeq fun _ => #[])).push (seqObj "tuple" vs.toArray 0)).push (seqObj "list" #[] 0) } := fun p st hp hs ho2 hf => by
  have hz : (jp vs p).size <= sizeLine + 1 := by
   rw [xi (by rw [hp.size_eq]; simp)]; lia
  rw [ho2, hf]
  refine wpAny_bind (seqEpoch_at ho6 rfl (wpAny_bind (listUpdate_at ho6 rfl ?_ (hsz2 := hz))))
  simp only [bne_self_eq_false, Bool.false_eq_true, if_false]
  exact wpAny_pure (h p hp hs)
 by_cases h2 : vs.toArray.size < 2
 ·rw [if_pos h2, if_pos h2]
  refine wpAny_bind (wpAny_pure ?_)
  rw [StateT.run_pure]
  refine wpAny_bind (wpAny_pure (fin (List.range vs.length).toArray _ (Array.Perm.refl _) (CO o.rf (by lia) _) ?_ rfl))
  rw [vJ]
  show ((vs.toArray.zip vs.toArray).map (·.2)) = vs.toArray
  apply Array.ext
  ·simp
  ·intro i h1 h2; simp
 ·rw [if_neg h2, if_neg h2]
  refine wpAny_bind (K.kind _ _ _ _ (fun _ _ e => e) (by lia) ?_)
  have pos : 0 < vs.length := by lia
  have perm0 : ∀ p' : Array Nat, p'.Perm (List.range vs.length).toArray -> ∀ i, i < p'.size -> at' p' i < vs.length := fun p' h' i _ => D6 pos h' i
  have esz : (vs.toArray.zip vs.toArray).size = vs.length := by simp
  have er := kas_range (vs.toArray.zip vs.toArray)
  rw [esz] at er
  have run := Ey (prog := prog) (w := w) (A := A) (E := E) (κ := κ) (it := vs.toArray.zip vs.toArray) (n := vs.length) (lt := lt) (le := le) (p := (List.range vs.length).toArray) (st := SortSt.mk' κ (vs.toArray.zip vs.toArray) #[] 7 none)
   (s := { s with heap := ((s.heap.update a (Obj.mapSeq fun _ => #[])).push (seqObj "tuple" vs.toArray 0)).push (seqObj "list" #[] 0) })
   (Q := fun _ st => ∃ p : Array Nat, (arrOf st).map (·.2) = jp vs p /\ failedOf st = none /\ p.Perm (List.range vs.length).toArray /\ Asc le p vs.length) o
   (fun i j C hi hj hc => by rw [<- kat_ask_eq (ks := vs) (vs := vs) rfl]; exact K.ask _ _ i j C (fun _ _ e => e) hi hj hc) ⟨rfl, er.symm, rfl, rfl⟩ perm0
   (fun p' pend' st' S' hp hu => ⟨p', kat_snds rfl S'.2.1, S'.2.2.2, hp, fun i j hij hj => hu i j (Nat.zero_le _) hij (by simpa using hj)⟩)
  refine wpAny_bind (wpAny_mono run (fun r s' hr => ?_) fun _ _ e => e)
  ·obtain ⟨rfl, p, e2, hf, hp, hs⟩ := hr
   exact fin p r.2 hp hs e2 hf
theorem sR {l : Addr} {vs : List Value} {κ : SortKind} {lt : Nat -> Nat -> Bool} {le : Nat -> Nat -> Prop} {Q : Value -> Shared -> Prop} (o : Ord lt le) (hl : s.heap.IsList l vs.toArray) (hN : vs.length <= sizeLine) (hk : Known prog w s vs κ lt)
  (h : ∀ p : Array Nat, p.Perm (List.range vs.length).toArray -> Asc le p vs.length -> Q (.ref (s.heap.objs.size + 1)) { s with heap := sortedAll s.heap vs (jp vs p) }) : wpAny (model prog w) A (call (.builtin "sorted") [.ref l]) Q E s := by
 have hz : vs.length <= sizeLine := hN
 have sz : ((s.heap.push (seqObj "list" #[] 0)).update s.heap.objs.size (Obj.mapSeq (· ++ vs.toArray))).objs.size = s.heap.objs.size + 1 := by rw [Heap.size_update, size_push']
 have at1 : (((s.heap.push (seqObj "list" #[] 0)).update s.heap.objs.size (Obj.mapSeq (· ++ vs.toArray))).push (seqObj "list" vs.toArray 0)).get? (s.heap.objs.size + 1) = some (seqObj "list" vs.toArray 0) := by rw [<- sz]; exact Heap.get?_push_size _ rfl
 have old : ∀ b q, s.heap.get? b = some q -> b ≠ s.heap.objs.size + 1 /\ (((s.heap.push (seqObj "list" #[] 0)).update s.heap.objs.size (Obj.mapSeq (· ++ vs.toArray))).push (seqObj "list" vs.toArray 0)).get? b = some q := fun b q e => by
  have hb := Heap.lt_size e
  refine ⟨Nat.ne_of_lt (Nat.lt_succ_of_lt hb), Heap.get?_push_of_some _ ?_⟩
  rw [Heap.get?_update_ne _ _ _ _ (Nat.ne_of_lt hb)]
  exact Heap.get?_push_of_some _ e
 refine Calls.call_function_entry kind_sorted plain_sorted entry_sorted (args_sorted1 (.ref l)) ?_; unfold Builtin.«sorted»
 refine wpAny_bind (m := checkCount "sorted" 1 1 _) (wpAny_pure (wpAny_bind (collect_list hl (wpAny_bind (wpAny_newList ?_ hz)) hz)))
 show wpAny (model prog w) _ _ _ _ { s with heap := ((s.heap.push (seqObj "list" #[] 0)).update s.heap.objs.size (Obj.mapSeq (· ++ vs.toArray))).push (seqObj "list" vs.toArray 0) }
 rw [sz]
 refine wpAny_bind (wpAny_holding (wpAny_call_entry slot_list_sort ⟨_, at1, rfl⟩ entry_list_sort (AJ (κ := κ) (le := le) o at1 hN (fun h' kp => ?_) fun p hp hs => ⟨_, rfl, wpAny_pure ⟨_, rfl, h p hp hs⟩⟩) (args_list_sort _)))
 exact hk.on fun b q e => kp b q (old b q e).1 (old b q e).2
end
section
variable {prog : Program} {w : World} {A : Around} {E : Value -> Shared -> Prop} {s : Shared}
def gq : List Int -> List Int -> Bool
 | [], [] => false
 | [], _ :: _ => true
 | _ :: _, [] => false
 | x :: xs, y :: ys => if x = y then gq xs ys else decide (x < y)
theorem nN : ∀ a : List Int, gq a a = false
 | [] => rfl
 | x :: xs => by unfold gq; rw [if_pos rfl]; exact nN xs
theorem pT : ∀ a b : List Int, gq a b = true -> gq b a = false
 | [], [], h => by unfold gq at h; cases h
 | [], _ :: _, _ => by unfold gq; rfl
 | _ :: _, [], h => by unfold gq at h; cases h
 | x :: xs, y :: ys, h => by
  unfold gq at h ⊢
  by_cases e : x = y
  ·rw [if_pos e] at h; rw [if_pos e.symm]; exact pT xs ys h
  ·rw [if_neg e] at h
   rw [if_neg (Ne.symm e)]
   have := of_decide_eq_true h
   exact decide_eq_false (by lia)
theorem qD : ∀ a b c : List Int, gq b a = false -> gq c b = false -> gq c a = false
 | [], _, [], _, _ => rfl
 | [], [], _ :: _, _, h => by unfold gq at h; cases h <;> rfl
 | [], _ :: _, _ :: _, _, _ => by unfold gq; rfl
 | _ :: _, [], _, h, _ => by unfold gq at h; cases h
 | x :: xs, y :: ys, [], _, h => by unfold gq at h; cases h
 | x :: xs, y :: ys, z :: zs, h1, h2 => by
  unfold gq at h1 h2 ⊢
  by_cases e1 : y = x
  ·rw [if_pos e1] at h1
   by_cases e2 : z = y
   ·rw [if_pos e2] at h2
    rw [if_pos (e2.trans e1)]
    exact qD xs ys zs h1 h2
   ·rw [if_neg e2] at h2
    rw [if_neg (by lia)]
    have := of_decide_eq_false h2
    exact decide_eq_false (by lia)
  ·rw [if_neg e1] at h1
   have g1 := of_decide_eq_false h1
   by_cases e2 : z = y
   ·rw [if_neg (by lia)]
    exact decide_eq_false (by lia)
   ·rw [if_neg e2] at h2
    have g2 := of_decide_eq_false h2
    rw [if_neg (by lia)]
    exact decide_eq_false (by lia)
theorem Bg (f : Nat -> List Int) : Ord (fun i j => gq (f i) (f j)) (fun i j => gq (f j) (f i) = false) :=
 ⟨fun a b c h1 h2 => qD _ _ _ h1 h2, fun a => nN _, fun a b h => pT _ _ h, fun a b h => h⟩
def Gf (h : Heap) (v : Value) (ns : List Int) : Prop := ∃ a o xs n, v = .ref a /\ h.get? a = some o /\ o.cls = .type "tuple" /\ o.data = .seq xs n /\ IntsAre xs.toList ns
theorem BM : ∀ (xs ys : List Value) (ns ms : List Int) (i : Nat) (fin : Bool) (Q : Bool -> Shared -> Prop), IntsAre xs ns -> IntsAre ys ms -> (fin = decide (xs.length < ys.length)) -> Q (gq ns ms) s ->
  KatLex prog w A true fin Q (xs.zip ys) i s := by
 intro xs
 induction xs with
 | nil =>
  intro ys ns ms i fin Q hx hy hf hq
  cases hx
  rw [List.zip_nil_left]
  show Q fin s
  rw [hf]
  cases hy with
  | nil => exact hq
  | cons b u ty => exact hq
 | cons x xs ih =>
  intro ys ns ms i fin Q hx hy hf hq
  cases hx with
  | cons a t tx =>
   cases hy with
   | nil =>
    rw [List.zip_nil_right]
    show Q fin s
    rw [hf]
    exact hq
   | @cons c u ys' ms' ty =>
    rw [List.zip_cons_cons]
    refine kat_cons ((SeqAt.EqAt.int_int a t c u) prog w _ _ ?_)
    unfold gq at hq
    by_cases e : a = c
    ·rw [if_pos e] at hq
     have eb : (a == c) = true := by simpa using e
     rw [eb]
     exact kat_yes (ih ys' _ ms' (i + 1) fin Q tx ty (by rw [hf]; simp) hq)
    ·rw [if_neg e] at hq
     have eb : (a == c) = false := by simpa using e
     rw [eb]
     refine kat_no ?_
     cases q : i == 0 with
     | true => exact oneLt_int hq
     | false => exact kat_one _ _ (lt_int hq)
theorem ww {vs : List Value} {f : Nat -> List Int} (hv : ∀ i, i < vs.length -> Gf s.heap (vs.getD i Value.none) (f i) /\ f i ≠ []) : Known prog w s vs (tuples' true) fun i j => gq (f i) (f j) := by
 refine ⟨fun A E h' Q hk h2 hq => ?_, fun A h' i j C hk hi hj hc => ?_⟩
 ·have hv' : ∀ v ∈ vs, ∃ n t fR a o xs k, v = .ref a /\ h'.get? a = some o /\ o.cls = .type "tuple" /\ o.data = .seq xs k /\ xs.toList = Value.int n t :: fR := fun v hm => by
   obtain ⟨i, hi, e⟩ := List.getElem_of_mem hm
   obtain ⟨⟨a, o, xs, k, e1, e2, e3, e4, e5⟩, ne⟩ := hv i hi
   have ev : vs.getD i Value.none = v := by rw [List.getD_eq_getElem?_getD, List.getElem?_eq_getElem hi]; exact e
   rw [ev] at e1
   revert e5 ne
   generalize f i = ns
   generalize ex : xs.toList = L
   intro ne e5
   cases e5 with
   | nil => exact absurd rfl ne
   | @cons n t vs' ns' tl => exact ⟨n, t, vs', a, o, xs, k, e1, hk _ _ e2, e3, e4, ex⟩
  have fs : ∀ L : List Value, (∀ v ∈ L, ∃ n t fR a o xs k, v = .ref a /\ h'.get? a = some o /\ o.cls = .type "tuple" /\ o.data = .seq xs k /\ xs.toList = Value.int n t :: fR) -> ∃ gs, KatTups h' L gs /\ gs.length = L.length /\ ∀ v ∈ gs, ∃ n t, v = Value.int n t := by
   intro L
   induction L with
   | nil => exact fun _ => ⟨[], .nil, rfl, fun _ h => (by cases h)⟩
   | cons v L ih =>
    intro hL
    obtain ⟨gs, g1, g2, g3⟩ := ih fun u hu => hL u (List.mem_cons_of_mem _ hu)
    obtain ⟨n, t, fR, a, o, xs, k, rfl, e2, e3, e4, e5⟩ := hL v List.mem_cons_self
    refine ⟨.int n t :: gs, .cons e2 e3 e4 (by rw [<- Array.getElem?_toList, e5]; rfl) g1, by rw [List.length_cons, List.length_cons, g2], fun u hu => ?_⟩
    rcases List.mem_cons.mp hu with rfl | hu
    ·exact ⟨n, t, rfl⟩
    ·exact g3 u hu
  obtain ⟨gs, g1, g2, g3⟩ := fs vs hv'
  refine kat_kind (s := { s with heap := h' }) (T := .type "int") g1 (by lia) (fun v hm => ?_) (by decide) hq
  obtain ⟨n, t, rfl⟩ := g3 v hm
  exact Looks.of_pure rfl
 ·obtain ⟨⟨a, o, xs, k, e1, e2, e3, e4, e5⟩, _⟩ := hv i hi
  obtain ⟨⟨a', o', xs', k', e1', e2', e3', e4', e5'⟩, _⟩ := hv j hj
  unfold kas_ask
  rw [e1, e1']
  refine kat_lt (s := { s with heap := h' }) (hk _ _ e2) e4 (hk _ _ e2') e4' ?_
  refine BM (s := { s with heap := h' }) _ _ _ _ _ _ _ e5 e5' ?_ hc
  simp
theorem oE : ∀ {vs : List Value} {ns : List Int}, IntsAre vs ns -> ∀ i, i < vs.length -> ∃ t, vs.getD i Value.none = .int (ns.getD i 0) t
 | _, _, .nil, i, h => by simp at h
 | _, _, .cons n t _, 0, _ => ⟨t, rfl⟩
 | _, _, .cons n t tl, i + 1, h => by
  obtain ⟨u, e⟩ := oE tl i (by simpa using h)
  exact ⟨u, by simpa using e⟩
theorem wU {vs : List Value} {ns : List Int} (hI : IntsAre vs ns) : Known prog w s vs oneType' fun i j => decide (ns.getD i 0 < ns.getD j 0) := by
 refine ⟨fun A E h' Q hk h2 hq => ?_, fun A h' i j C hk hi hj hc => ?_⟩
 ·rw [ksk_kind (keys := vs.toArray) (kz := ns) (by simpa using hI) (by simpa using h2)]
  exact wpAny_pure hq
 ·obtain ⟨t, e1⟩ := oE hI i hi
  obtain ⟨u, e2⟩ := oE hI j hj
  unfold kas_ask
  rw [e1, e2, keyLt'_oneType]
  exact oneLt_int hc
theorem Bx (f : Nat -> Int) : Ord (fun i j => decide (f i < f j)) (fun i j => f i <= f j) :=
 ⟨fun _ _ _ h k => Int.le_trans h k, fun _ => Int.le_refl _, fun a b h => Int.le_of_lt (of_decide_eq_true h), fun a b h => by have := of_decide_eq_false h; show f b <= f a; lia⟩
theorem jz {vs : List Value} {ns : List Int} (hI : IntsAre vs ns) : ∀ L : List Nat, (∀ i ∈ L, i < vs.length) -> IntsAre (L.map fun i => vs.getD i Value.none) (L.map fun i => ns.getD i 0)
 | [], _ => .nil
 | i :: L, h => by
  obtain ⟨t, e⟩ := oE hI i (h i List.mem_cons_self)
  rw [List.map_cons, List.map_cons, e]
  exact .cons _ t (jz hI L fun j hj => h j (List.mem_cons_of_mem _ hj))
theorem u0 : ∀ {vs : List Value} {ns : List Int}, IntsAre vs ns -> vs.length = ns.length
 | _, _, .nil => rfl
 | _, _, .cons n t tl => by rw [List.length_cons, List.length_cons, u0 tl]
theorem ur {l : Addr} {vs : List Value} {ns : List Int} {Q : Value -> Shared -> Prop} (hl : s.heap.IsList l vs.toArray) (hI : IntsAre vs ns) (hN : vs.length <= sizeLine)
  (h : ∀ (out : Array Value) ms, IntsAre out.toList ms -> ms.Perm ns -> ms.Pairwise (· <= ·) -> Q (.ref (s.heap.objs.size + 1)) { s with heap := sortedAll s.heap vs out }) : wpAny (model prog w) A (call (.builtin "sorted") [.ref l]) Q E s := by
 refine sR (Bx fun i => ns.getD i 0) hl hN (wU hI) fun p hp ha => ?_
 have e := u0 hI
 have hb : ∀ i ∈ p.toList, i < vs.length := fun i hi => by simpa using (Array.perm_iff_toList_perm.mp hp).mem_iff.mp hi
 rw [e] at hp ha
 obtain ⟨p1, p2⟩ := xn (vs := ns) (d := 0) hp ha
 exact h (jp vs p) _ (by simpa [jp] using jz hI p.toList hb) p1 (p2 _ fun i j _ _ h => h)
end
end Srt
namespace L2
open PySem
def D3 (K : W.Frag) : List V -> Hp -> VK -> Prop := fun xs H Q => ∃ p ys, xs = [.ref p] /\ ((SqL K H p ys /\ ∀ l, H l = none -> Q (.ref l) (upd H l (.tup ys))) \/ (SqT K H p ys /\ Q (.ref p) H))
def Gn : List V -> Hp -> VK -> Prop := fun xs H Q => ∃ i j, xs = [.int i, .int j] /\ Q (.int (if j > i then j else i)) H
def Fb : List V -> Hp -> VK -> Prop := fun xs H Q => ∃ i j, xs = [.int i, .int j] /\ Q (.int (if j < i then j else i)) H
def Gr : List V -> Hp -> VK -> Prop := fun xs H Q => (∃ i, xs = [.int i] /\ Q (.int i) H) \/ ∃ k, xs = [.bl k] /\ Q (.int (if k then 1 else 0)) H
def HN : R2 := fun x y H Q => y = .non /\ Q (.bl (decide (x = .non))) H
def Hw (K : W.Frag) (ta : TE) : TT := fun σ H Q => ta σ H fun x H' => ∃ k, CP K x H' k /\ Q k H'
def uC (K : W.Frag) : List V -> Hp -> VK -> Prop := fun xs H Q => ∃ p, ∃ ns : List Int, xs = [.ref p] /\ SqL K H p (ns.map V.int) /\ ns.length < 30000 /\
 ∀ (ms : List Int) l, ms.Perm ns -> ms.Pairwise (· <= ·) -> H l = none -> Q (.ref l) (upd H l (.lst (ms.map V.int)))
def Ep (K : W.Frag) (tl : TE) : TI := fun σ H R => tl σ H fun x H1 => ∃ a, x = .ref a /\ (((∃ xs, SqL K H1 a xs) /\ R (Itl K a) H1) \/ ((∃ xs, SqT K H1 a xs) /\ R (Itt K a) H1))
end L2
namespace M
open PySem L2
inductive D where
 | non | bl (b : Bool) | int (i : Int) | str (x : Str) | ty (n : String) | lst (l : List D) | tup (l : List D) | scr (l : List D) | ins (N : Str) (ns : List Str) (l : List D) | dic (ks : List (List Int)) | dif (ks : List (List Int)) | mtp (l : List D)
 deriving Inhabited
theorem cA {S S' : Hp} (s : Same S S') {a : Addr} {u : HO} (h : Rd S a u) : Rd S' a u := h.elim (fun e => .inl (s _ _ e)) fun ⟨o, e⟩ => .inr ⟨o, s _ _ e⟩
theorem dm {K : W.Frag} {S S' : Hp} (s : Same S S') {a : Addr} {xs : List V} (h : SqL K S a xs) : SqL K S' a xs := h.elim (fun e => .inl (cA s e)) .inr
theorem a7 {K : W.Frag} {S S' : Hp} (s : Same S S') {a : Addr} {xs : List V} (h : SqT K S a xs) : SqT K S' a xs := h.elim (fun e => .inl (cA s e)) .inr
def TpA (K : W.Frag) (S : Hp) (a : Addr) (xs : List V) : Prop := S a = some (.tup xs)
theorem TpA.of {K : W.Frag} {S : Hp} {a : Addr} {xs : List V} (h : S a = some (.tup xs)) : TpA K S a xs := h
theorem TpA.sq {K : W.Frag} {S : Hp} {a : Addr} {xs : List V} (h : TpA K S a xs) : SqT K S a xs := SqT.of h
theorem TpA.mono {K : W.Frag} {S S' : Hp} (s : Same S S') {a : Addr} {xs : List V} (h : TpA K S a xs) : TpA K S' a xs := s _ _ h
def bL (ks : List (List Int)) : List (List Key × V) := ks.map fun k => (k.map Sum.inl, V.bl true)
mutual
def Den (K : W.Frag) (S : Hp) : D -> V -> Prop
 | .non, v => v = .non
 | .bl b, v => v = .bl b
 | .int i, v => v = .int i
 | .str x, v => v = .str x
 | .ty x, v => v = .ty x
 | .lst l, v => ∃ p xs, v = .ref p /\ Rd S p (.lst xs) /\ Dens K S l xs
 | .tup l, v => ∃ p xs, v = .ref p /\ TpA K S p xs /\ Dens K S l xs
 | .scr l, v => ∃ p xs, v = .ref p /\ SqL K S p xs /\ Dens K S l xs
 | .mtp l, v => ∃ p xs, v = .ref p /\ SqT K S p xs /\ Dens K S l xs
 | .ins N ns l, v => ∃ p C dx fs, v = .ref p /\ W.nsIn K mainGlobals N = some (some (.ref C)) /\ S p = some (.ins C dx fs) /\ fs.map (·.1) = ns /\ Dens K S l (fs.map (·.2))
 | .dic ks, v => ∃ p, v = .ref p /\ Rd S p (.dT (bL ks))
 | .dif ks, v => ∃ p o, v = .ref p /\ S p = some (.frz o (.dT (bL ks)))
def Dens (K : W.Frag) (S : Hp) : List D -> List V -> Prop
 | [], xs => xs = []
 | d :: ds, xs => ∃ y ys, xs = y :: ys /\ Den K S d y /\ Dens K S ds ys
end
section
variable {K : W.Frag} {S S' H H' : Hp}
theorem Dens.nil : Dens K S [] [] := by unfold Dens; rfl
theorem Dens.cons {d : D} {ds : List D} {y : V} {ys : List V} (h : Den K S d y) (k : Dens K S ds ys) : Dens K S (d :: ds) (y :: ys) := by unfold Dens; exact ⟨y, ys, rfl, h, k⟩
theorem Dens.nil_of {xs : List V} (h : Dens K S [] xs) : xs = [] := by unfold Dens at h; exact h
theorem Dens.cons_of {d : D} {ds : List D} {xs : List V} (h : Dens K S (d :: ds) xs) : ∃ y ys, xs = y :: ys /\ Den K S d y /\ Dens K S ds ys := by unfold Dens at h; exact h
theorem Dens.length : ∀ {ds : List D} {xs : List V}, Dens K S ds xs -> ds.length = xs.length
 | [], _, h => by rw [h.nil_of]; rfl
 | _ :: _, _, h => by
  obtain ⟨y, ys, rfl, _, k⟩ := h.cons_of
  rw [List.length_cons, List.length_cons, k.length]
theorem Dens.append : ∀ {ds es : List D} {xs ys : List V}, Dens K S ds xs -> Dens K S es ys -> Dens K S (ds ++ es) (xs ++ ys)
 | [], _, _, _, h, k => by rw [h.nil_of]; exact k
 | _ :: _, _, _, _, h, k => by
  obtain ⟨y, ys, rfl, a, b⟩ := h.cons_of
  exact .cons a (b.append k)
theorem Dens.get : ∀ {ds : List D} {xs : List V} {i : Nat} {d : D}, Dens K S ds xs -> ds[i]? = some d -> ∃ x, xs[i]? = some x /\ Den K S d x
 | [], _, _, _, _, e => by simp at e
 | _ :: _, _, 0, _, h, e => by
  obtain ⟨y, ys, rfl, a, b⟩ := h.cons_of
  simp at e; subst e
  exact ⟨y, rfl, a⟩
 | _ :: _, _, i + 1, _, h, e => by
  obtain ⟨y, ys, rfl, a, b⟩ := h.cons_of
  obtain ⟨x, e1, h1⟩ := b.get (i := i) (by simpa using e)
  exact ⟨x, by simpa using e1, h1⟩
theorem Dens.set : ∀ {ds : List D} {xs : List V} {d : D} {x : V} (i : Nat), Dens K S ds xs -> Den K S d x -> Dens K S (ds.set i d) (xs.set i x)
 | [], _, _, _, _, h, _ => by rw [h.nil_of]; exact .nil
 | _ :: _, _, _, _, 0, h, k => by
  obtain ⟨y, ys, rfl, a, b⟩ := h.cons_of
  exact .cons k b
 | _ :: _, _, _, _, i + 1, h, k => by
  obtain ⟨y, ys, rfl, a, b⟩ := h.cons_of
  exact .cons a (b.set i k)
theorem Dens.take : ∀ {ds : List D} {xs : List V} (i : Nat), Dens K S ds xs -> Dens K S (ds.take i) (xs.take i)
 | [], _, _, h => by rw [h.nil_of]; simp; exact .nil
 | _ :: _, _, 0, h => by simp; exact .nil
 | _ :: _, _, i + 1, h => by
  obtain ⟨y, ys, rfl, a, b⟩ := h.cons_of
  exact .cons a (b.take i)
theorem Dens.drop : ∀ {ds : List D} {xs : List V} (i : Nat), Dens K S ds xs -> Dens K S (ds.drop i) (xs.drop i)
 | [], _, _, h => by rw [h.nil_of]; simp; exact .nil
 | _ :: _, _, 0, h => h
 | _ :: _, _, i + 1, h => by
  obtain ⟨y, ys, rfl, a, b⟩ := h.cons_of
  exact b.drop i
mutual
theorem Den.mono (s : Same S S') : ∀ {d : D} {v : V}, Den K S d v -> Den K S' d v
 | .dic _, _, h => by
  unfold Den at *
  obtain ⟨p, e, h1⟩ := h
  exact ⟨p, e, cA s h1⟩
 | .dif _, _, h => by
  unfold Den at *
  obtain ⟨p, o, e, h1⟩ := h
  exact ⟨p, o, e, s _ _ h1⟩
 | .non, _, h => by unfold Den at *; exact h
 | .bl _, _, h => by unfold Den at *; exact h
 | .int _, _, h => by unfold Den at *; exact h
 | .str _, _, h => by unfold Den at *; exact h
 | .ty _, _, h => by unfold Den at *; exact h
 | .lst _, _, h => by
  unfold Den at *
  obtain ⟨p, xs, e, h1, h2⟩ := h
  exact ⟨p, xs, e, cA s h1, Dens.mono s h2⟩
 | .tup _, _, h => by
  unfold Den at *
  obtain ⟨p, xs, e, h1, h2⟩ := h
  exact ⟨p, xs, e, TpA.mono s h1, Dens.mono s h2⟩
 | .scr _, _, h => by
  unfold Den at *
  obtain ⟨p, xs, e, h1, h2⟩ := h
  exact ⟨p, xs, e, dm s h1, Dens.mono s h2⟩
 | .mtp _, _, h => by
  unfold Den at *
  obtain ⟨p, xs, e, h1, h2⟩ := h
  exact ⟨p, xs, e, a7 s h1, Dens.mono s h2⟩
 | .ins _ _ _, _, h => by
  unfold Den at *
  obtain ⟨p, C, dx, fs, e, h0, h1, h2, h3⟩ := h
  exact ⟨p, C, dx, fs, e, h0, s _ _ h1, h2, Dens.mono s h3⟩
theorem Dens.mono (s : Same S S') : ∀ {ds : List D} {xs : List V}, Dens K S ds xs -> Dens K S' ds xs
 | [], _, h => by rw [h.nil_of]; exact .nil
 | _ :: _, _, h => by
  obtain ⟨y, ys, rfl, a, b⟩ := h.cons_of
  exact .cons (Den.mono s a) (Dens.mono s b)
end
theorem den_int {i : Int} {v : V} : Den K S (.int i) v ↔ v = .int i := by unfold Den; exact Iff.rfl
theorem den_bl {b : Bool} {v : V} : Den K S (.bl b) v ↔ v = .bl b := by unfold Den; exact Iff.rfl
theorem den_non {v : V} : Den K S .non v ↔ v = .non := by unfold Den; exact Iff.rfl
theorem den_str {x : Str} {v : V} : Den K S (.str x) v ↔ v = .str x := by unfold Den; exact Iff.rfl
theorem den_ty {x : String} {v : V} : Den K S (.ty x) v ↔ v = .ty x := by unfold Den; exact Iff.rfl
theorem den_tup {l : List D} {v : V} : Den K S (.tup l) v ↔ ∃ p xs, v = .ref p /\ TpA K S p xs /\ Dens K S l xs := by
 constructor
 ·intro h; unfold Den at h; exact h
 ·intro h; unfold Den; exact h
theorem gi {l : List D} {v : V} (h : Den K S (.tup l) v) : ∃ p xs, v = .ref p /\ SqT K S p xs /\ Dens K S l xs := by
 obtain ⟨p, xs, e, h1, h2⟩ := den_tup.mp h
 exact ⟨p, xs, e, h1.sq, h2⟩
theorem den_lst {l : List D} {v : V} : Den K S (.lst l) v ↔ ∃ p xs, v = .ref p /\ Rd S p (.lst xs) /\ Dens K S l xs := by
 constructor
 ·intro h; unfold Den at h; exact h
 ·intro h; unfold Den; exact h
theorem den_scr {l : List D} {v : V} : Den K S (.scr l) v ↔ ∃ p xs, v = .ref p /\ SqL K S p xs /\ Dens K S l xs := by
 constructor
 ·intro h; unfold Den at h; exact h
 ·intro h; unfold Den; exact h
theorem den_mtp {l : List D} {v : V} : Den K S (.mtp l) v ↔ ∃ p xs, v = .ref p /\ SqT K S p xs /\ Dens K S l xs := by
 constructor
 ·intro h; unfold Den at h; exact h
 ·intro h; unfold Den; exact h
theorem den_ins {N : Str} {ns : List Str} {l : List D} {v : V} : Den K S (.ins N ns l) v ↔ ∃ p C dx fs, v = .ref p /\ W.nsIn K mainGlobals N = some (some (.ref C)) /\ S p = some (.ins C dx fs) /\ fs.map (·.1) = ns /\ Dens K S l (fs.map (·.2)) := by
 constructor
 ·intro h; unfold Den at h; exact h
 ·intro h; unfold Den; exact h
def DenP (K : W.Frag) (S H : Hp) (d : D) (v : V) : Prop := Den K S d v \/ ∃ l p xs, d = .lst l /\ v = .ref p /\ H p = some (.lst xs) /\ Dens K S l xs
theorem DenP.lst {l : List D} {v : V} (s : Same S H) (h : DenP K S H (.lst l) v) : ∃ p xs, v = .ref p /\ Rd H p (.lst xs) /\ Dens K S l xs := by
 rcases h with h | ⟨l', p, xs, e, e1, e2, e3⟩
 ·obtain ⟨p, xs, e, e1, e2⟩ := den_lst.mp h
  exact ⟨p, xs, e, cA s e1, e2⟩
 ·cases e
  exact ⟨p, xs, e1, .inl e2, e3⟩
theorem DenP.tup {l : List D} {v : V} (s : Same S H) (h : DenP K S H (.tup l) v) : ∃ p xs, v = .ref p /\ SqT K H p xs /\ Dens K S l xs := by
 rcases h with h | ⟨l', p, xs, e, e1, e2, e3⟩
 ·obtain ⟨p, xs, e, e1, e2⟩ := gi h
  exact ⟨p, xs, e, a7 s e1, e2⟩
 ·cases e
theorem DenP.scr {l : List D} {v : V} (s : Same S H) (h : DenP K S H (.scr l) v) : ∃ p xs, v = .ref p /\ SqL K H p xs /\ Dens K S l xs := by
 rcases h with h | ⟨l', p, xs, e, e1, e2, e3⟩
 ·obtain ⟨p, xs, e, e1, e2⟩ := den_scr.mp h
  exact ⟨p, xs, e, dm s e1, e2⟩
 ·cases e
theorem DenP.int {i : Int} {v : V} (h : DenP K S H (.int i) v) : v = .int i := by
 rcases h with h | ⟨l', p, xs, e, _⟩
 ·exact den_int.mp h
 ·cases e
theorem DenP.bl {i : Bool} {v : V} (h : DenP K S H (.bl i) v) : v = .bl i := by
 rcases h with h | ⟨l', p, xs, e, _⟩
 ·exact den_bl.mp h
 ·cases e
theorem DenP.str {i : Str} {v : V} (h : DenP K S H (.str i) v) : v = .str i := by
 rcases h with h | ⟨l', p, xs, e, _⟩
 ·exact den_str.mp h
 ·cases e
theorem DenP.non {v : V} (h : DenP K S H .non v) : v = .non := by
 rcases h with h | ⟨l', p, xs, e, _⟩
 ·exact den_non.mp h
 ·cases e
theorem DenP.ty {i : String} {v : V} (h : DenP K S H (.ty i) v) : v = .ty i := by
 rcases h with h | ⟨l', p, xs, e, _⟩
 ·exact den_ty.mp h
 ·cases e
structure Ext (S H S' H' : Hp) : Prop where
 sh : Same S S'
 sub : Same S' H'
 al : ∀ b o, H b = some o -> S b = none -> H' b = some o /\ S' b = none
theorem Ext.refl (h : Same S H) : Ext S H S H := ⟨Same.refl _, h, fun _ _ h n => ⟨h, n⟩⟩
theorem Ext.trans {S1 H1 S2 H2 : Hp} (a : Ext S H S1 H1) (b : Ext S1 H1 S2 H2) : Ext S H S2 H2 := ⟨a.sh.trans b.sh, b.sub, fun c o h n => b.al c o (a.al c o h n).1 (a.al c o h n).2⟩
theorem Ext.same (a : Ext S H S' H') (s : Same S H) : Same H H' := fun b o h => by
 cases q : S b with
 | none => exact (a.al b o h q).1
 | some u =>
  have := s b u q
  rw [h] at this
  cases this
  exact a.sub b o (a.sh b o q)
theorem Ext.new (s : Same S H) {p : Addr} {o : HO} (h : H p = none) : Ext S H (upd S p o) (upd H p o) where
 sh := fun b u e => by rw [aB (a9 e (s.free h))]; exact e
 sub := fun b u e => by
  by_cases hb : b = p
  ·subst hb; rw [aC] at e ⊢; exact e
  ·rw [aB hb] at e ⊢; exact s b u e
 al := fun b u e n => by
  have hb := a9 e h
  rw [aB hb, aB hb]
  exact ⟨e, n⟩
theorem Ext.own (s : Same S H) {p : Addr} {o : HO} (h : H p = none) : Ext S H S (upd H p o) where
 sh := Same.refl _
 sub := fun b u e => by rw [aB (a9 (s b u e) h)]; exact s b u e
 al := fun b u e n => by
  have hb := a9 e h
  rw [aB hb]
  exact ⟨e, n⟩
theorem DenP.mono {d : D} {v : V} (e : Ext S H S' H') (s : Same S H) (h : DenP K S H d v) : DenP K S' H' d v := by
 rcases h with h | ⟨l, p, xs, h1, h2, h3, h4⟩
 ·exact .inl (h.mono e.sh)
 ·exact .inr ⟨l, p, xs, h1, h2, e.same s _ _ h3, h4.mono e.sh⟩
inductive DensP (K : W.Frag) (S H : Hp) : List D -> List V -> Prop where
 | nil : DensP K S H [] []
 | cons {d ds v vs} : DenP K S H d v -> DensP K S H ds vs -> DensP K S H (d :: ds) (v :: vs)
inductive O where
 | sh (d : D) | lst (l : List O) | tup (l : List O) | dic (ks : List (List Int)) | hd (p : Addr) (ks : List (List Int)) (os : List O)
 deriving Inhabited
mutual
def O.d : O -> D
 | .sh d => d
 | .dic ks => .dic ks
 | .hd _ ks os => (O.ds os).headD (.dic ks)
 | .lst l => .lst (O.ds l)
 | .tup l => .tup (O.ds l)
def O.ds : List O -> List D
 | [] => []
 | o :: l => o.d :: O.ds l
end
mutual
def Own (K : W.Frag) (S H : Hp) : O -> V -> List Addr -> Prop
 | .sh d, v, fp => fp = [] /\ Den K S d v
 | .lst l, v, fp => ∃ a xs f, v = .ref a /\ fp = a :: f /\ H a = some (.lst xs) /\ Owns K S H l xs f
 | .tup l, v, fp => ∃ a xs f, v = .ref a /\ fp = a :: f /\ H a = some (.tup xs) /\ Owns K S H l xs f
 | .dic ks, v, fp => ∃ a, v = .ref a /\ fp = [a] /\ H a = some (.dT (bL ks))
 | .hd p ks os, v, fp => ∃ xs f, v = xs.headD (.ref p) /\ fp = p :: f /\ H p = some (.dT (bL ks)) /\ Owns K S H os xs f
def Owns (K : W.Frag) (S H : Hp) : List O -> List V -> List Addr -> Prop
 | [], xs, fp => xs = [] /\ fp = []
 | o :: l, xs, fp => ∃ y ys f g, xs = y :: ys /\ fp = f ++ g /\ Own K S H o y f /\ Owns K S H l ys g
end
theorem den_dic {ks : List (List Int)} {v : V} : Den K S (.dic ks) v ↔ ∃ p, v = .ref p /\ Rd S p (.dT (bL ks)) := by unfold Den; exact Iff.rfl
theorem own_dic {ks : List (List Int)} {v : V} {fp : List Addr} : Own K S H (.dic ks) v fp ↔ ∃ a, v = .ref a /\ fp = [a] /\ H a = some (.dT (bL ks)) := by unfold Own; exact Iff.rfl
theorem den_dif {ks : List (List Int)} {v : V} : Den K S (.dif ks) v ↔ ∃ p o, v = .ref p /\ S p = some (.frz o (.dT (bL ks))) := by unfold Den; exact Iff.rfl
theorem own_hd {p : Addr} {ks : List (List Int)} {os : List O} {v : V} {fp : List Addr} : Own K S H (.hd p ks os) v fp ↔ ∃ xs f, v = xs.headD (.ref p) /\ fp = p :: f /\ H p = some (.dT (bL ks)) /\ Owns K S H os xs f := by
 constructor
 ·intro h; unfold Own at h; exact h
 ·intro h; unfold Own; exact h
theorem own_sh {d : D} {v : V} {fp : List Addr} : Own K S H (.sh d) v fp ↔ fp = [] /\ Den K S d v := by unfold Own; exact Iff.rfl
theorem own_lst {l : List O} {v : V} {fp : List Addr} : Own K S H (.lst l) v fp ↔ ∃ a xs f, v = .ref a /\ fp = a :: f /\ H a = some (.lst xs) /\ Owns K S H l xs f := by
 constructor
 ·intro h; unfold Own at h; exact h
 ·intro h; unfold Own; exact h
theorem own_tup {l : List O} {v : V} {fp : List Addr} : Own K S H (.tup l) v fp ↔ ∃ a xs f, v = .ref a /\ fp = a :: f /\ H a = some (.tup xs) /\ Owns K S H l xs f := by
 constructor
 ·intro h; unfold Own at h; exact h
 ·intro h; unfold Own; exact h
theorem Owns.nil : Owns K S H [] [] [] := by unfold Owns; exact ⟨rfl, rfl⟩
theorem Owns.cons {o : O} {l : List O} {y : V} {ys : List V} {f g : List Addr} (h : Own K S H o y f) (k : Owns K S H l ys g) : Owns K S H (o :: l) (y :: ys) (f ++ g) := by unfold Owns; exact ⟨y, ys, f, g, rfl, rfl, h, k⟩
theorem Owns.nil_of {xs : List V} {fp : List Addr} (h : Owns K S H [] xs fp) : xs = [] /\ fp = [] := by unfold Owns at h; exact h
theorem Owns.cons_of {o : O} {l : List O} {xs : List V} {fp : List Addr} (h : Owns K S H (o :: l) xs fp) : ∃ y ys f g, xs = y :: ys /\ fp = f ++ g /\ Own K S H o y f /\ Owns K S H l ys g := by unfold Owns at h; exact h
theorem Owns.length : ∀ {l : List O} {xs : List V} {fp : List Addr}, Owns K S H l xs fp -> l.length = xs.length
 | [], _, _, h => by rw [h.nil_of.1]; rfl
 | _ :: _, _, _, h => by
  obtain ⟨y, ys, f, g, rfl, rfl, _, k⟩ := h.cons_of
  rw [List.length_cons, List.length_cons, k.length]
theorem Owns.append : ∀ {l m : List O} {xs ys : List V} {f g : List Addr}, Owns K S H l xs f -> Owns K S H m ys g -> Owns K S H (l ++ m) (xs ++ ys) (f ++ g)
 | [], _, _, _, _, _, h, k => by rw [h.nil_of.1, h.nil_of.2]; exact k
 | _ :: _, _, _, _, _, _, h, k => by
  obtain ⟨y, ys, f, g, rfl, rfl, a, b⟩ := h.cons_of
  rw [List.append_assoc]
  exact .cons a (b.append k)
theorem oG : ∀ {ds : List D} {xs : List V}, Dens K S ds xs -> Owns K S H (ds.map .sh) xs []
 | [], _, h => by rw [h.nil_of]; exact .nil
 | _ :: _, _, h => by
  obtain ⟨y, ys, rfl, a, b⟩ := h.cons_of
  exact .cons (f := []) (own_sh.mpr ⟨rfl, a⟩) (oG b)
theorem k8 : ∀ {ds : List D} {xs : List V} {fp : List Addr}, Owns K S H (ds.map .sh) xs fp -> Dens K S ds xs /\ fp = []
 | [], _, _, h => by rw [h.nil_of.1, h.nil_of.2]; exact ⟨.nil, rfl⟩
 | _ :: _, _, _, h => by
  obtain ⟨y, ys, f, g, rfl, rfl, a, b⟩ := h.cons_of
  obtain ⟨e, a⟩ := own_sh.mp a
  obtain ⟨b, e2⟩ := k8 b
  exact ⟨.cons a b, by rw [e, e2]; rfl⟩
mutual
theorem Own.mono (s : Same S S') : ∀ {o : O} {v : V} {fp : List Addr}, (∀ b ∈ fp, H' b = H b) -> Own K S H o v fp -> Own K S' H' o v fp
 | .dic _, _, _, k, h => by
  obtain ⟨a, e, rfl, h1⟩ := own_dic.mp h
  exact own_dic.mpr ⟨a, e, rfl, by rw [k a List.mem_cons_self]; exact h1⟩
 | .hd _ _ _, _, _, k, h => by
  obtain ⟨xs, f, e, rfl, h1, h2⟩ := own_hd.mp h
  exact own_hd.mpr ⟨xs, f, e, rfl, by rw [k _ List.mem_cons_self]; exact h1, Owns.mono s (fun b hb => k b (List.mem_cons_of_mem _ hb)) h2⟩
 | .sh _, _, _, k, h => by
  obtain ⟨e, d⟩ := own_sh.mp h
  exact own_sh.mpr ⟨e, d.mono s⟩
 | .lst _, _, _, k, h => by
  obtain ⟨a, xs, f, e, rfl, h1, h2⟩ := own_lst.mp h
  exact own_lst.mpr ⟨a, xs, f, e, rfl, by rw [k a List.mem_cons_self]; exact h1, Owns.mono s (fun b hb => k b (List.mem_cons_of_mem _ hb)) h2⟩
 | .tup _, _, _, k, h => by
  obtain ⟨a, xs, f, e, rfl, h1, h2⟩ := own_tup.mp h
  exact own_tup.mpr ⟨a, xs, f, e, rfl, by rw [k a List.mem_cons_self]; exact h1, Owns.mono s (fun b hb => k b (List.mem_cons_of_mem _ hb)) h2⟩
theorem Owns.mono (s : Same S S') : ∀ {l : List O} {xs : List V} {fp : List Addr}, (∀ b ∈ fp, H' b = H b) -> Owns K S H l xs fp -> Owns K S' H' l xs fp
 | [], _, _, k, h => by rw [h.nil_of.1, h.nil_of.2]; exact .nil
 | _ :: _, _, _, k, h => by
  obtain ⟨y, ys, f, g, rfl, rfl, a, b⟩ := h.cons_of
  exact .cons (Own.mono s (fun b hb => k b (List.mem_append_left _ hb)) a) (Owns.mono s (fun b hb => k b (List.mem_append_right _ hb)) b)
end
mutual
theorem Own.there : ∀ {o : O} {v : V} {fp : List Addr}, Own K S H o v fp -> ∀ b ∈ fp, H b ≠ none
 | .dic _, _, _, h => by
  obtain ⟨a, e, rfl, h1⟩ := own_dic.mp h
  intro b hb
  rw [List.mem_singleton] at hb
  subst hb
  rw [h1]; exact fun z => by cases z
 | .hd _ _ _, _, _, h => by
  obtain ⟨xs, f, e, rfl, h1, h2⟩ := own_hd.mp h
  intro b hb
  rcases List.mem_cons.mp hb with rfl | hb
  ·rw [h1]; exact fun z => by cases z
  ·exact Owns.there h2 b hb
 | .sh _, _, _, h => by
  obtain ⟨e, d⟩ := own_sh.mp h
  rw [e]; intro b hb; cases hb
 | .lst _, _, _, h => by
  obtain ⟨a, xs, f, e, rfl, h1, h2⟩ := own_lst.mp h
  intro b hb
  rcases List.mem_cons.mp hb with rfl | hb
  ·rw [h1]; exact fun z => by cases z
  ·exact Owns.there h2 b hb
 | .tup _, _, _, h => by
  obtain ⟨a, xs, f, e, rfl, h1, h2⟩ := own_tup.mp h
  intro b hb
  rcases List.mem_cons.mp hb with rfl | hb
  ·rw [h1]; exact fun z => by cases z
  ·exact Owns.there h2 b hb
theorem Owns.there : ∀ {l : List O} {xs : List V} {fp : List Addr}, Owns K S H l xs fp -> ∀ b ∈ fp, H b ≠ none
 | [], _, _, h => by rw [h.nil_of.2]; intro b hb; cases hb
 | _ :: _, _, _, h => by
  obtain ⟨y, ys, f, g, rfl, rfl, a, b⟩ := h.cons_of
  intro c hc
  rcases List.mem_append.mp hc with hc | hc
  ·exact Own.there a c hc
  ·exact Owns.there b c hc
end
mutual
theorem Own.den {S2 : Hp} (s : Same S S2) : ∀ {o : O} {v : V} {fp : List Addr}, (∀ b ∈ fp, S2 b = H b) -> Own K S H o v fp -> Den K S2 o.d v
 | .dic _, _, _, k, h => by
  obtain ⟨a, e, rfl, h1⟩ := own_dic.mp h
  rw [O.d]
  exact den_dic.mpr ⟨a, e, .inl (by rw [k a List.mem_cons_self]; exact h1)⟩
 | .hd p ks os, _, _, k, h => by
  obtain ⟨xs, f, e, rfl, h1, h2⟩ := own_hd.mp h
  have ds := Owns.den s (fun b hb => k b (List.mem_cons_of_mem _ hb)) h2
  rw [O.d, e]
  cases q : O.ds os with
  | nil =>
   rw [q] at ds
   rw [ds.nil_of]
   exact den_dic.mpr ⟨p, rfl, .inl (by rw [k p List.mem_cons_self]; exact h1)⟩
  | cons d l =>
   rw [q] at ds
   obtain ⟨y, ys, rfl, a, _⟩ := ds.cons_of
   exact a
 | .sh _, _, _, k, h => by
  obtain ⟨e, d⟩ := own_sh.mp h
  exact d.mono s
 | .lst l, _, _, k, h => by
  obtain ⟨a, xs, f, e, rfl, h1, h2⟩ := own_lst.mp h
  rw [O.d]
  exact den_lst.mpr ⟨a, xs, e, .inl (by rw [k a List.mem_cons_self]; exact h1), Owns.den s (fun b hb => k b (List.mem_cons_of_mem _ hb)) h2⟩
 | .tup l, _, _, k, h => by
  obtain ⟨a, xs, f, e, rfl, h1, h2⟩ := own_tup.mp h
  rw [O.d]
  exact den_tup.mpr ⟨a, xs, e, TpA.of (by rw [k a List.mem_cons_self]; exact h1), Owns.den s (fun b hb => k b (List.mem_cons_of_mem _ hb)) h2⟩
theorem Owns.den {S2 : Hp} (s : Same S S2) : ∀ {l : List O} {xs : List V} {fp : List Addr}, (∀ b ∈ fp, S2 b = H b) -> Owns K S H l xs fp -> Dens K S2 (O.ds l) xs
 | [], _, _, k, h => by rw [h.nil_of.1, O.ds]; exact .nil
 | _ :: _, _, _, k, h => by
  obtain ⟨y, ys, f, g, rfl, rfl, a, b⟩ := h.cons_of
  rw [O.ds]
  exact .cons (Own.den s (fun b hb => k b (List.mem_append_left _ hb)) a) (Owns.den s (fun b hb => k b (List.mem_append_right _ hb)) b)
end
theorem Own.denH {o : O} {v : V} {fp : List Addr} (s : Same S H) (h : Own K S H o v fp) : Den K H o.d v := h.den s fun _ _ => rfl
theorem Ext.keeps {fp : List Addr} (e : Ext S H S' H') (h : ∀ b ∈ fp, S b = none) (t : ∀ b ∈ fp, H b ≠ none) : (∀ b ∈ fp, H' b = H b) /\ ∀ b ∈ fp, S' b = none := by
 have key : ∀ b ∈ fp, H' b = H b /\ S' b = none := fun b hb => by
  cases q : H b with
  | none => exact absurd q (t b hb)
  | some o => exact e.al b o q (h b hb)
 exact ⟨fun b hb => (key b hb).1, fun b hb => (key b hb).2⟩
inductive Sl where
 | un | lo | sh (d : D) | ow (o : O)
 deriving Inhabited
abbrev Env := List Sl
structure RlF (K : W.Frag) (A : Hp) (Λ : Nat -> Option Addr) (Φ : Nat -> List Addr) (ρ : Env) (σ : St) (S H : Hp) : Prop where
 len : σ.length = ρ.length
 sub : Same S H
 sh : ∀ (i : Nat) d, ρ[i]? = some (.sh d) -> ∃ v, σ[i]? = some (some v) /\ Den K S d v
 ow : ∀ (i : Nat) o, ρ[i]? = some (.ow o) -> ∃ v, σ[i]? = some (some v) /\ Own K S H o v (Φ i) /\ (Φ i).Nodup /\ ∀ b ∈ Φ i, S b = none /\ A b = none
 dj : ∀ (i j : Nat) o o', i ≠ j -> ρ[i]? = some (.ow o) -> ρ[j]? = some (.ow o') -> ∀ b ∈ Φ i, b ∉ Φ j
 lo : ∀ (i : Nat), ρ[i]? = some .lo -> ∃ a, Λ i = some a /\ σ[i]? = some (some (.ref a))
 asub : Same A H
 adis : ∀ b, S b = none \/ A b = none
def RlA (K : W.Frag) (A : Hp) (Λ : Nat -> Option Addr) (ρ : Env) (σ : St) (S H : Hp) : Prop := ∃ Φ, RlF K A Λ Φ ρ σ S H
def Rl (K : W.Frag) (ρ : Env) (σ : St) (S H : Hp) : Prop := ∃ A Λ Φ, RlF K A Λ Φ ρ σ S H
theorem RlF.ext {A : Hp} {Λ : Nat -> Option Addr} {Φ : Nat -> List Addr} {ρ : Env} {σ : St} (r : RlF K A Λ Φ ρ σ S H) (e : Ext S H S' H') : RlF K A Λ Φ ρ σ S' H' where
 len := r.len
 sub := e.sub
 sh := fun i d h => by
  obtain ⟨v, h1, h2⟩ := r.sh i d h
  exact ⟨v, h1, h2.mono e.sh⟩
 ow := fun i o h => by
  obtain ⟨v, h1, h2, h3, h4⟩ := r.ow i o h
  obtain ⟨k1, k2⟩ := e.keeps (fun b hb => (h4 b hb).1) h2.there
  exact ⟨v, h1, h2.mono e.sh k1, h3, fun b hb => ⟨k2 b hb, (h4 b hb).2⟩⟩
 dj := r.dj
 lo := r.lo
 asub := fun b o h => e.same r.sub b o (r.asub b o h)
 adis := fun b => by
  rcases r.adis b with h | h
  ·cases q : A b with
   | none => exact .inr rfl
   | some o => exact .inl (e.al b o (r.asub b o q) h).2
  ·exact .inr h
theorem RlA.ext {A : Hp} {Λ : Nat -> Option Addr} {ρ : Env} {σ : St} (r : RlA K A Λ ρ σ S H) (e : Ext S H S' H') : RlA K A Λ ρ σ S' H' := let ⟨Φ, f⟩ := r; ⟨Φ, f.ext e⟩
theorem RlA.toRl {A : Hp} {Λ : Nat -> Option Addr} {ρ : Env} {σ : St} (r : RlA K A Λ ρ σ S H) : Rl K ρ σ S H := let ⟨Φ, f⟩ := r; ⟨A, Λ, Φ, f⟩
theorem RlA.sub {A : Hp} {Λ : Nat -> Option Addr} {ρ : Env} {σ : St} (r : RlA K A Λ ρ σ S H) : Same S H := let ⟨_, f⟩ := r; f.sub
theorem RlA.asub {A : Hp} {Λ : Nat -> Option Addr} {ρ : Env} {σ : St} (r : RlA K A Λ ρ σ S H) : Same A H := let ⟨_, f⟩ := r; f.asub
theorem RlA.adis {A : Hp} {Λ : Nat -> Option Addr} {ρ : Env} {σ : St} (r : RlA K A Λ ρ σ S H) : ∀ b, S b = none \/ A b = none := let ⟨_, f⟩ := r; f.adis
theorem RlA.sh {A : Hp} {Λ : Nat -> Option Addr} {ρ : Env} {σ : St} (r : RlA K A Λ ρ σ S H) : ∀ (i : Nat) d, ρ[i]? = some (.sh d) -> ∃ v, σ[i]? = some (some v) /\ Den K S d v := let ⟨_, f⟩ := r; f.sh
theorem Rl.ext {ρ : Env} {σ : St} (r : Rl K ρ σ S H) (e : Ext S H S' H') : Rl K ρ σ S' H' := let ⟨A, Λ, Φ, f⟩ := r; ⟨A, Λ, Φ, f.ext e⟩
theorem Rl.sub {ρ : Env} {σ : St} (r : Rl K ρ σ S H) : Same S H := let ⟨_, _, _, f⟩ := r; f.sub
theorem Rl.sh {ρ : Env} {σ : St} (r : Rl K ρ σ S H) : ∀ (i : Nat) d, ρ[i]? = some (.sh d) -> ∃ v, σ[i]? = some (some v) /\ Den K S d v := let ⟨_, _, _, f⟩ := r; f.sh
theorem Rl.ow {ρ : Env} {σ : St} (r : Rl K ρ σ S H) : ∀ (i : Nat) o, ρ[i]? = some (.ow o) -> ∃ v fp, σ[i]? = some (some v) /\ Own K S H o v fp /\ fp.Nodup /\ ∀ b ∈ fp, S b = none := fun i o h => by
 obtain ⟨A, Λ, Φ, f⟩ := r
 obtain ⟨v, h1, h2, h3, h4⟩ := f.ow i o h
 exact ⟨v, _, h1, h2, h3, fun b hb => (h4 b hb).1⟩
abbrev XE := Env -> Option D
abbrev XT := Env -> Option Bool
abbrev XA := Env -> Option (List D)
def SE (K : W.Frag) (t : TE) (e : XE) : Prop := ∀ ρ σ S H (Q : VK) d, Rl K ρ σ S H -> e ρ = some d -> (∀ v S' H', Ext S H S' H' -> Den K S' d v -> Q v H') -> t σ H Q
def SPk (K : W.Frag) (t : TE) (e : XE) : Prop := ∀ ρ σ S H (Q : VK) d, Rl K ρ σ S H -> e ρ = some d -> (∀ v S' H', Ext S H S' H' -> DenP K S' H' d v -> Q v H') -> t σ H Q
def SF (K : W.Frag) (t : TE) (e : XA) : Prop := ∀ ρ σ S H (Q : VK) l, Rl K ρ σ S H -> e ρ = some l -> (∀ a xs S' H', Ext S H S' H' -> H a = none -> S' a = none -> H' a = some (.lst xs) -> Dens K S' l xs -> Q (.ref a) H') -> t σ H Q
def ST (K : W.Frag) (t : TT) (c : XT) : Prop := ∀ ρ σ S H (Q : Bool -> Hp -> Prop) b, Rl K ρ σ S H -> c ρ = some b -> (∀ S' H', Ext S H S' H' -> Q b H') -> t σ H Q
def SA (K : W.Frag) (t : TA) (e : XA) : Prop := ∀ ρ σ S H (Q : List V -> Hp -> Prop) ds, Rl K ρ σ S H -> e ρ = some ds -> (∀ vs S' H', Ext S H S' H' -> Dens K S' ds vs -> Q vs H') -> t σ H Q
def SAP (K : W.Frag) (t : TA) (e : XA) : Prop := ∀ ρ σ S H (Q : List V -> Hp -> Prop) ds, Rl K ρ σ S H -> e ρ = some ds -> (∀ vs S' H', Ext S H S' H' -> DensP K S' H' ds vs -> Q vs H') -> t σ H Q
theorem SE.p {t : TE} {e : XE} (h : SE K t e) : SPk K t e := fun ρ σ S H Q d r x k => h ρ σ S H Q d r x fun v S' H' z dv => k v S' H' z (.inl dv)
@[simp] def xL (e : XA) : XE := fun ρ => (e ρ).map D.lst
theorem SF.e {t : TE} {e : XA} (h : SF K t e) : SE K t (xL e) := fun ρ σ S H Q d r x k => by
 unfold xL at x
 cases q : e ρ with
 | none => rw [q] at x; cases x
 | some l =>
  rw [q] at x
  cases x
  refine h ρ σ S H Q l r q fun a xs S' H' z h1 h2 h3 h4 => ?_
  have s2 : Same S' (upd S' a (.lst xs)) := fun b u e => by rw [aB (a9 e h2)]; exact e
  refine k _ (upd S' a (.lst xs)) H' ⟨z.sh.trans s2, fun b u e => ?_, fun b o e n => ?_⟩ (den_lst.mpr ⟨a, xs, rfl, .inl aC, h4.mono s2⟩)
  ·by_cases hb : b = a
   ·subst hb; rw [aC] at e; cases e; exact h3
   ·rw [aB hb] at e; exact z.sub b u e
  ·obtain ⟨y1, y2⟩ := z.al b o e n
   exact ⟨y1, by rw [aB (a9 e h1)]; exact y2⟩
@[simp] def aq (i : Nat) : XE := fun ρ => match ρ[i]? with | some (.sh d) => some d | _ => none
def shs : List O -> Option (List D)
 | [] => some []
 | .sh d :: l => (shs l).map fun r => d :: r
 | _ => none
theorem oA : ∀ l : List D, shs (l.map .sh) = some l
 | [] => rfl
 | d :: l => by rw [List.map_cons, shs, oA l]; rfl
theorem wz : ∀ {os : List O} {l : List D}, shs os = some l -> os = l.map .sh
 | [], l, h => by cases h; rfl
 | o :: os, l, h => by
  cases o with
  | sh d =>
   have h' : (shs os).map (fun r => d :: r) = some l := h
   cases q : shs os with
   | none => rw [q] at h'; cases h'
   | some m => rw [q] at h'; cases h'; rw [wz q]; rfl
  | lst _ => cases h
  | tup _ => cases h
  | dic _ => cases h
  | hd _ _ _ => cases h
def Bs : Sl -> Option D
 | .sh d => some d
 | .ow (.sh d) => some d
 | .ow (.lst os) => (shs os).map D.lst
 | _ => none
@[simp] theorem GN (d : D) : Bs (.ow (.sh d)) = some d := rfl
@[simp] theorem GO (d : D) : Bs (.sh d) = some d := rfl
@[simp] theorem GD (l : List D) : Bs (.ow (.lst (l.map .sh))) = some (.lst l) := by show (shs _).map D.lst = _; rw [oA]; rfl
@[simp] def ag (i : Nat) : XE := fun ρ => (ρ[i]?).bind Bs
theorem FJ (i : Nat) : SE K (qJ i) (aq i) := fun ρ σ S H Q d r x k => by
 unfold aq at x
 split at x
 ·rename_i d' e
  cases x
  obtain ⟨v, h1, h2⟩ := r.sh i _ e
  exact ⟨v, h1, k v S H (Ext.refl r.sub) h2⟩
 ·cases x
theorem D9 (i : Nat) : SPk K (qJ i) (ag i) := fun ρ σ S H Q d r x k => by
 unfold ag at x
 cases q : ρ[i]? with
 | none => rw [q] at x; cases x
 | some s =>
  rw [q] at x
  cases s with
  | un => cases x
  | lo => cases x
  | sh d' =>
   cases x
   obtain ⟨v, h1, h2⟩ := r.sh i _ q
   exact ⟨v, h1, k v S H (Ext.refl r.sub) (.inl h2)⟩
  | ow o =>
   cases o with
   | sh d' =>
    cases x
    obtain ⟨v, fp, h1, h2, h3, h4⟩ := r.ow i _ q
    exact ⟨v, h1, k v S H (Ext.refl r.sub) (.inl (own_sh.mp h2).2)⟩
   | tup l => cases x
   | dic ks => cases x
   | hd _ _ _ => cases x
   | lst os =>
    have x' : (shs os).map D.lst = some d := x
    cases qs : shs os with
    | none => rw [qs] at x'; cases x'
    | some l =>
     rw [qs] at x'
     cases x'
     have e := wz qs
     subst e
     obtain ⟨v, fp, h1, h2, h3, h4⟩ := r.ow i _ q
     obtain ⟨a, xs, f, rfl, rfl, h5, h6⟩ := own_lst.mp h2
     exact ⟨_, h1, k _ S H (Ext.refl r.sub) (.inr ⟨l, a, xs, rfl, rfl, h5, (k8 h6).1⟩)⟩
def SQ (K : W.Frag) (t : TE) (e : XE) : Prop := ∀ ρ σ S H (Q : VK) d, Rl K ρ σ S H -> e ρ = some d -> (∀ v S' H', Ext S H S' H' -> Den K H' d v -> Q v H') -> t σ H Q
theorem pV {d : D} {v : V} (s : Same S H) (h : DenP K S H d v) : Den K H d v := by
 rcases h with h | ⟨l, p, xs, rfl, rfl, h1, h2⟩
 ·exact h.mono s
 ·exact den_lst.mpr ⟨p, xs, rfl, .inl h1, h2.mono s⟩
theorem SPk.q {t : TE} {e : XE} (h : SPk K t e) : SQ K t e := fun ρ σ S H Q d r x k => h ρ σ S H Q d r x fun v S' H' z dv => k v S' H' z (pV z.sub dv)
def BG : Sl -> Option D
 | .sh d => some d
 | .ow o => some o.d
 | _ => none
@[simp] theorem E9 (d : D) : BG (.sh d) = some d := rfl
@[simp] theorem Gc (o : O) : BG (.ow o) = some o.d := rfl
@[simp] def xY (i : Nat) : XE := fun ρ => (ρ[i]?).bind BG
theorem DK (i : Nat) : SQ K (qJ i) (xY i) := fun ρ σ S H Q d r x k => by
 unfold xY at x
 cases q : ρ[i]? with
 | none => rw [q] at x; cases x
 | some s =>
  rw [q] at x
  cases s with
  | un => cases x
  | lo => cases x
  | sh d' =>
   cases x
   obtain ⟨v, h1, h2⟩ := r.sh i _ q
   exact ⟨v, h1, k v S H (Ext.refl r.sub) (h2.mono r.sub)⟩
  | ow o =>
   cases x
   obtain ⟨v, fp, h1, h2, h3, h4⟩ := r.ow i _ q
   exact ⟨_, h1, k _ S H (Ext.refl r.sub) (h2.denH r.sub)⟩
@[simp] def xC (d : D) : XE := fun _ => some d
def m5 : D -> Option V
 | .non => some .non | .bl b => some (.bl b) | .int i => some (.int i) | .str x => some (.str x) | .ty x => some (.ty x) | _ => none
theorem lW {d : D} {v : V} (h : m5 d = some v) : Den K S d v := by
 cases d <;> simp [m5] at h <;> subst h <;> unfold Den <;> rfl
theorem s_c {v : V} {d : D} (h : m5 d = some v) : SE K (tC v) (xC d) := fun ρ σ S H Q e r x k => by
 cases x
 exact k v S H (Ext.refl r.sub) (lW h)
@[simp] def xFl (e : XE) : XE := fun ρ => (e ρ).bind fun d => if (m5 d).isSome then some d else none
theorem Cn {d : D} {v w : V} (h : m5 d = some w) (k : Den K S d v) : v = w := by
 cases d <;> simp [m5] at h <;> subst h <;> unfold Den at k <;> exact k
theorem SQ.fl {t : TE} {e : XE} (h : SQ K t e) : SE K t (xFl e) := fun ρ σ S H Q d r x k => by
 unfold xFl at x
 cases q : e ρ with
 | none => rw [q] at x; cases x
 | some d' =>
  rw [q] at x
  dsimp only [Option.bind] at x
  split at x
  ·rename_i hf
   cases x
   obtain ⟨w, hw⟩ := Option.isSome_iff_exists.mp hf
   refine h ρ σ S H Q d r q fun v S' H' z dv => k v S' H' z ?_
   rw [Cn hw dv]
   exact lW hw
  ·cases x
@[simp] def xOp (f : D -> D -> Option D) (a b : XE) : XE := fun ρ => (a ρ).bind fun x => (b ρ).bind fun y => f x y
def SR2 (K : W.Frag) (r : R2) (f : D -> D -> Option D) : Prop := ∀ S H x y d e g (Q : VK), Same S H -> DenP K S H d x -> DenP K S H e y -> f d e = some g -> (∀ v S' H', Ext S H S' H' -> Den K S' g v -> Q v H') -> r x y H Q
theorem HV {r : R2} {f : D -> D -> Option D} {ta tb : TE} {a b : XE} (hr : SR2 K r f) (ha : SPk K ta a) (hb : SPk K tb b) : SE K (tOp r ta tb) (xOp f a b) := fun ρ σ S H Q d r x k => by
 unfold xOp at x
 cases qa : a ρ with
 | none => rw [qa] at x; cases x
 | some da =>
  rw [qa] at x
  dsimp only [Option.bind] at x
  cases qb : b ρ with
  | none => rw [qb] at x; cases x
  | some db =>
   rw [qb] at x
   refine ha ρ σ S H _ da r qa fun v S1 H1 z1 d1 => ?_
   have r1 := r.ext z1
   refine hb ρ σ S1 H1 _ db r1 qb fun w S2 H2 z2 d2 => ?_
   exact hr S2 H2 v w da db d Q z2.sub (d1.mono z2 r1.sub) d2 x fun u S3 H3 z3 d3 => k u S3 H3 ((z1.trans z2).trans z3) d3
theorem B9 {S2 H3 S3 : Hp} (s : Same S H) (z : Ext H H S3 H3) : Ext S H S H3 := ⟨Same.refl _, fun b u e => z.sub b u (z.sh b u (s b u e)), fun b o h n => ⟨z.sub b o (z.sh b o h), n⟩⟩
theorem Fe {r : R2} {f : D -> D -> Option D} {ta tb : TE} {a b : XE} (hr : SR2 K r f) (ha : SQ K ta a) (hb : SQ K tb b) : SQ K (tOp r ta tb) (xOp f a b) := fun ρ σ S H Q d r x k => by
 unfold xOp at x
 cases qa : a ρ with
 | none => rw [qa] at x; cases x
 | some da =>
  rw [qa] at x
  dsimp only [Option.bind] at x
  cases qb : b ρ with
  | none => rw [qb] at x; cases x
  | some db =>
   rw [qb] at x
   refine ha ρ σ S H _ da r qa fun v S1 H1 z1 d1 => ?_
   have r1 := r.ext z1
   refine hb ρ σ S1 H1 _ db r1 qb fun w S2 H2 z2 d2 => ?_
   exact hr H2 H2 v w da db d Q (Same.refl _) (.inl (d1.mono (z2.same r1.sub))) (.inl d2) x fun u S3 H3 z3 d3 => k u S2 H3 ((z1.trans z2).trans (B9 (S2 := S2) z2.sub z3)) (d3.mono z3.sub)
@[simp] def xUn (f : D -> Option D) (a : XE) : XE := fun ρ => (a ρ).bind f
def SR1 (K : W.Frag) (r : V -> Hp -> VK -> Prop) (f : D -> Option D) : Prop := ∀ S H x d g (Q : VK), Same S H -> DenP K S H d x -> f d = some g -> (∀ v S' H', Ext S H S' H' -> Den K S' g v -> Q v H') -> r x H Q
theorem Hl {r : V -> Hp -> VK -> Prop} {f : D -> Option D} {ta : TE} {a : XE} (hr : SR1 K r f) (ha : SPk K ta a) : SE K (tUn r ta) (xUn f a) := fun ρ σ S H Q d r x k => by
 unfold xUn at x
 cases qa : a ρ with
 | none => rw [qa] at x; cases x
 | some da =>
  rw [qa] at x
  refine ha ρ σ S H _ da r qa fun v S1 H1 z1 d1 => ?_
  exact hr S1 H1 v da d Q z1.sub d1 x fun u S3 H3 z3 d3 => k u S3 H3 (z1.trans z3) d3
@[simp] def ap : XA := fun _ => some []
@[simp] def ac (a : XE) (b : XA) : XA := fun ρ => (a ρ).bind fun x => (b ρ).bind fun y => some (x :: y)
theorem Eb : SA K pO ap := fun ρ σ S H Q ds r x k => by cases x; exact k [] S H (Ext.refl r.sub) .nil
theorem DG : SAP K pO ap := fun ρ σ S H Q ds r x k => by cases x; exact k [] S H (Ext.refl r.sub) .nil
theorem lU {a : XE} {b : XA} {ρ : Env} {ds : List D} (x : ac a b ρ = some ds) : ∃ d r, a ρ = some d /\ b ρ = some r /\ ds = d :: r := by
 unfold ac at x
 cases qa : a ρ with
 | none => rw [qa] at x; cases x
 | some da =>
  rw [qa] at x
  dsimp only [Option.bind] at x
  cases qb : b ρ with
  | none => rw [qb] at x; cases x
  | some db => rw [qb] at x; cases x; exact ⟨_, _, rfl, rfl, rfl⟩
theorem BQ {ta : TE} {tr : TA} {a : XE} {b : XA} (ha : SE K ta a) (hb : SA K tr b) : SA K (jx ta tr) (ac a b) := fun ρ σ S H Q ds r x k => by
 obtain ⟨da, db, qa, qb, rfl⟩ := lU x
 refine ha ρ σ S H _ da r qa fun v S1 H1 z1 d1 => hb ρ σ S1 H1 _ db (r.ext z1) qb fun vs S2 H2 z2 d2 => k _ S2 H2 (z1.trans z2) (.cons (d1.mono z2.sh) d2)
theorem Cv {ta : TE} {tr : TA} {a : XE} {b : XA} (ha : SPk K ta a) (hb : SAP K tr b) : SAP K (jx ta tr) (ac a b) := fun ρ σ S H Q ds r x k => by
 obtain ⟨da, db, qa, qb, rfl⟩ := lU x
 refine ha ρ σ S H _ da r qa fun v S1 H1 z1 d1 => hb ρ σ S1 H1 _ db (r.ext z1) qb fun vs S2 H2 z2 d2 => k _ S2 H2 (z1.trans z2) (.cons (d1.mono z2 (r.ext z1).sub) d2)
@[irreducible] def LIM : Nat := 1000000
theorem fv : LIM < sizeLine := by rw [sizeLine_eq]; unfold LIM; decide
@[simp] def aP (a : XA) : XE := fun ρ => (a ρ).bind fun l => if l.length <= LIM then some (.tup l) else none
theorem Go {t : TA} {a : XA} (h : SA K t a) : SE K (EW t) (aP a) := fun ρ σ S H Q d r x k => by
 unfold aP at x
 cases q : a ρ with
 | none => rw [q] at x; cases x
 | some l =>
  rw [q] at x
  dsimp only [Option.bind] at x
  split at x
  ·rename_i hl
   cases x
   refine h ρ σ S H _ l r q fun vs S1 H1 z1 d1 => ⟨?_, fun p hp => ?_⟩
   ·rw [<- d1.length]; exact Nat.le_of_lt (Nat.lt_of_le_of_lt hl fv)
   ·have z2 := Ext.new (o := .tup vs) z1.sub hp
    exact k _ _ _ (z1.trans z2) (den_tup.mpr ⟨p, vs, rfl, TpA.of aC, d1.mono z2.sh⟩)
  ·cases x
@[simp] def fw (a : XA) : XA := fun ρ => (a ρ).bind fun l => if l.length <= LIM then some l else none
theorem Fj {t : TA} {a : XA} (h : SA K t a) : SF K (Et t) (fw a) := fun ρ σ S H Q l r x k => by
 unfold fw at x
 cases q : a ρ with
 | none => rw [q] at x; cases x
 | some l =>
  rw [q] at x
  dsimp only [Option.bind] at x
  split at x
  ·rename_i hl
   cases x
   refine h ρ σ S H _ l r q fun vs S1 H1 z1 d1 => ⟨?_, fun p hp => ?_⟩
   ·rw [<- d1.length]; exact Nat.le_of_lt (Nat.lt_of_le_of_lt hl fv)
   ·have hp0 : H p = none := (z1.same r.sub).free hp
    exact k p vs S1 _ (z1.trans (Ext.own z1.sub hp)) hp0 (z1.sub.free hp) aC d1
  ·cases x
@[simp] def xCB (f : List D -> Option D) (a : XA) : XE := fun ρ => (a ρ).bind f
def SRB (K : W.Frag) (r : List V -> Hp -> VK -> Prop) (f : List D -> Option D) : Prop := ∀ S H vs ds g (Q : VK), Same S H -> DensP K S H ds vs -> f ds = some g -> (∀ v S' H', Ext S H S' H' -> Den K S' g v -> Q v H') -> r vs H Q
theorem HC {r : List V -> Hp -> VK -> Prop} {f : List D -> Option D} {t : TA} {a : XA} (hr : SRB K r f) (h : SAP K t a) : SE K (tCB r t) (xCB f a) := fun ρ σ S H Q d rl x k => by
 unfold xCB at x
 cases q : a ρ with
 | none => rw [q] at x; cases x
 | some ds =>
  rw [q] at x
  refine h ρ σ S H _ ds rl q fun vs S1 H1 z1 d1 => ?_
  exact hr S1 H1 vs ds d Q z1.sub d1 x fun v S2 H2 z2 d2 => k v S2 H2 (z1.trans z2) d2
@[simp] def yJ (f : List D -> Option (List D)) (a : XA) : XA := fun ρ => (a ρ).bind f
def SRF (K : W.Frag) (r : List V -> Hp -> VK -> Prop) (f : List D -> Option (List D)) : Prop := ∀ S H vs ds g (Q : VK), Same S H -> DensP K S H ds vs -> f ds = some g -> (∀ a xs H', Ext S H S H' -> H a = none -> H' a = some (.lst xs) -> Dens K S g xs -> Q (.ref a) H') -> r vs H Q
theorem Gg {r : List V -> Hp -> VK -> Prop} {f : List D -> Option (List D)} {t : TA} {a : XA} (hr : SRF K r f) (h : SAP K t a) : SF K (tCB r t) (yJ f a) := fun ρ σ S H Q d rl x k => by
 unfold yJ at x
 cases q : a ρ with
 | none => rw [q] at x; cases x
 | some ds =>
  rw [q] at x
  refine h ρ σ S H _ ds rl q fun vs S1 H1 z1 d1 => ?_
  exact hr S1 H1 vs ds d Q z1.sub d1 x fun b xs H2 z2 h1 h2 d2 => k b xs S1 H2 (z1.trans z2) ((z1.same rl.sub).free h1) (z1.sub.free h1) h2 d2
def STr (K : W.Frag) (t : TE) (e : Env -> Option O) : Prop := ∀ ρ σ S H (Q : VK) o, Rl K ρ σ S H -> e ρ = some o -> (∀ v fp S' H', Ext S H S' H' -> Own K S' H' o v fp -> fp.Nodup -> (∀ b ∈ fp, H b = none /\ S' b = none) -> Q v H') -> t σ H Q
@[simp] def xLT (e : XA) : Env -> Option O := fun ρ => (e ρ).map fun l => .lst (l.map .sh)
theorem SF.t {t : TE} {e : XA} (h : SF K t e) : STr K t (xLT e) := fun ρ σ S H Q o r x k => by
 unfold xLT at x
 cases q : e ρ with
 | none => rw [q] at x; cases x
 | some l =>
  rw [q] at x
  cases x
  refine h ρ σ S H Q l r q fun a xs S' H' z h1 h2 h3 h4 => ?_
  refine k _ [a] S' H' z (own_lst.mpr ⟨a, xs, [], rfl, rfl, h3, oG h4⟩) (by simp) fun b hb => ?_
  rw [List.mem_singleton.mp hb]
  exact ⟨h1, h2⟩
@[simp] def xSh (e : XE) : Env -> Option O := fun ρ => (e ρ).map .sh
theorem SE.t {t : TE} {e : XE} (h : SE K t e) : STr K t (xSh e) := fun ρ σ S H Q o r x k => by
 unfold xSh at x
 cases q : e ρ with
 | none => rw [q] at x; cases x
 | some d =>
  rw [q] at x
  cases x
  exact h ρ σ S H Q d r q fun v S' H' z dv => k v [] S' H' z (own_sh.mpr ⟨rfl, dv⟩) .nil fun b hb => by cases hb
def tQ (S H : Hp) (fp : List Addr) : Hp := fun b => if b ∈ fp then H b else S b
theorem ut {fp : List Addr} {b : Addr} (h : b ∈ fp) : tQ S H fp b = H b := by unfold tQ; rw [if_pos h]
theorem jP {fp : List Addr} {b : Addr} (h : b ∉ fp) : tQ S H fp b = S b := by unfold tQ; rw [if_neg h]
theorem nq {fp : List Addr} (n : ∀ b ∈ fp, S b = none) : Same S (tQ S H fp) := fun b o e => by
 rw [jP fun hb => by rw [n b hb] at e; cases e]
 exact e
theorem ux {fp : List Addr} (s : Same S H) : Same (tQ S H fp) H := fun b o e => by
 by_cases hb : b ∈ fp
 ·rw [ut hb] at e; exact e
 ·rw [jP hb] at e; exact s b o e
theorem Ab {fp : List Addr} (z : Ext S H S' H') (n : ∀ b ∈ fp, H b = none /\ S' b = none) : Ext S H (tQ S' H' fp) H' :=
 ⟨z.sh.trans (nq fun b hb => (n b hb).2), ux z.sub, fun b o h hn => ⟨(z.al b o h hn).1, by rw [jP fun hb => by rw [(n b hb).1] at h; cases h]; exact (z.al b o h hn).2⟩⟩
@[simp] def xOD (e : Env -> Option O) : XE := fun ρ => (e ρ).map O.d
theorem STr.e {t : TE} {e : Env -> Option O} (h : STr K t e) : SE K t (xOD e) := fun ρ σ S H Q d r x k => by
 unfold xOD at x
 cases q : e ρ with
 | none => rw [q] at x; cases x
 | some o =>
  rw [q] at x
  cases x
  exact h ρ σ S H Q o r q fun v fp S' H' z ow nd n => k v _ H' (Ab z n) (ow.den (nq fun b hb => (n b hb).2) fun b hb => ut hb)
def dg (K : W.Frag) (n : Nat) (m : List D -> Option O) : Sp := fun vs H Q _ => vs.length = n /\ ∃ S ds o, Same S H /\ Dens K S ds vs /\ m ds = some o /\ ∀ v fp S' H', Ext S H S' H' -> Own K S' H' o v fp -> fp.Nodup -> (∀ b ∈ fp, H b = none /\ S' b = none) -> Q v H'
@[simp] def xw (m : List D -> Option O) (a : XA) : Env -> Option O := fun ρ => (a ρ).bind m
theorem Ci {n : Nat} {m : List D -> Option O} {E : XK} {t : TA} {a : XA} (h : SA K t a) (hn : ∀ ρ ds, a ρ = some ds -> ds.length = n) : STr K (xV (dg K n m) [] E t) (xw m a) := fun ρ σ S H Q o rl x k => by
 unfold xw at x
 cases q : a ρ with
 | none => rw [q] at x; cases x
 | some ds =>
  rw [q] at x
  refine h ρ σ S H _ ds rl q fun vs S1 H1 z1 d1 => ?_
  rw [List.append_nil]
  refine ⟨by rw [<- d1.length]; exact hn ρ ds q, S1, ds, o, z1.sub, d1, x, fun v fp S2 H2 z2 ow nd n => k v fp S2 H2 (z1.trans z2) ow nd fun b hb => ⟨(z1.same rl.sub).free (n b hb).1, (n b hb).2⟩⟩
@[simp] def aK (m : List D -> Option D) (a : XA) : XE := fun ρ => (a ρ).bind m
theorem EH {n : Nat} {m : List D -> Option O} {E : XK} {t : TA} {a : XA} (h : SA K t a) (hn : ∀ ρ ds, a ρ = some ds -> ds.length = n) : SE K (xV (dg K n m) [] E t) (aK (fun ds => (m ds).map O.d) a) := by
 have := (Ci (m := m) (E := E) h hn).e
 have e : xOD (xw m a) = aK (fun ds => (m ds).map O.d) a := by
  funext ρ
  show ((a ρ).bind m).map O.d = (a ρ).bind fun ds => (m ds).map O.d
  cases a ρ <;> rfl
 rw [e] at this
 exact this
@[simp] def HD (m : List D -> Option D) (a : XA) : XE := fun ρ => ((a ρ).bind m).bind fun d => if (m5 d).isSome then some d else none
def SAT (K : W.Frag) (t : TA) (e : Env -> Option (List O)) : Prop := ∀ ρ σ S H (Q : List V -> Hp -> Prop) os, Rl K ρ σ S H -> e ρ = some os -> (∀ vs fp S' H', Ext S H S' H' -> Owns K S' H' os vs fp -> fp.Nodup -> (∀ b ∈ fp, H b = none /\ S' b = none) -> Q vs H') -> t σ H Q
@[simp] def A0 : Env -> Option (List O) := fun _ => some []
@[simp] def ud (a : Env -> Option O) (b : Env -> Option (List O)) : Env -> Option (List O) := fun ρ => (a ρ).bind fun x => (b ρ).bind fun y => some (x :: y)
theorem DC : SAT K pO A0 := fun ρ σ S H Q ds r x k => by cases x; exact k [] [] S H (Ext.refl r.sub) .nil .nil fun _ hb => by cases hb
theorem Ce {ta : TE} {tr : TA} {a : Env -> Option O} {b : Env -> Option (List O)} (ha : STr K ta a) (hb : SAT K tr b) : SAT K (jx ta tr) (ud a b) := fun ρ σ S H Q os r x k => by
 unfold ud at x
 cases qa : a ρ with
 | none => rw [qa] at x; cases x
 | some oa =>
  rw [qa] at x
  dsimp only [Option.bind] at x
  cases qb : b ρ with
  | none => rw [qb] at x; cases x
  | some ob =>
   rw [qb] at x
   cases x
   refine ha ρ σ S H _ oa r qa fun v fp S1 H1 z1 o1 nd1 n1 => hb ρ σ S1 H1 _ ob (r.ext z1) qb fun vs fq S2 H2 z2 o2 nd2 n2 => ?_
   obtain ⟨k1, k2⟩ := z2.keeps (fun b hb => (n1 b hb).2) o1.there
   refine k _ _ S2 H2 (z1.trans z2) (.cons (o1.mono z2.sh k1) o2) ?_ fun c hc => ?_
   ·refine List.nodup_append.mpr ⟨nd1, nd2, fun c hc d hd e => ?_⟩
    subst e
    exact o1.there c hc (n2 c hd).1
   ·rcases List.mem_append.mp hc with hc | hc
    ·exact ⟨(n1 c hc).1, k2 c hc⟩
    ·exact ⟨(z1.same r.sub).free (n2 c hc).1, (n2 c hc).2⟩
@[simp] def AF (a : Env -> Option (List O)) : Env -> Option O := fun ρ => (a ρ).bind fun l => if l.length <= LIM then some (.tup l) else none
@[simp] def AC (a : Env -> Option (List O)) : Env -> Option O := fun ρ => (a ρ).bind fun l => if l.length <= LIM then some (.lst l) else none
theorem ss {fp : List Addr} {p : Addr} {o : HO} (h : H p = none) (t : ∀ b ∈ fp, H b ≠ none) : (∀ b ∈ fp, upd H p o b = H b) /\ p ∉ fp := by
 have np : p ∉ fp := fun hp => t p hp h
 exact ⟨fun b hb => aB fun e => np (e ▸ hb), np⟩
theorem Er {t : TA} {a : Env -> Option (List O)} (h : SAT K t a) : STr K (EW t) (AF a) := fun ρ σ S H Q o r x k => by
 unfold AF at x
 cases q : a ρ with
 | none => rw [q] at x; cases x
 | some l =>
  rw [q] at x
  dsimp only [Option.bind] at x
  split at x
  ·rename_i hl
   cases x
   refine h ρ σ S H _ l r q fun vs fp S1 H1 z1 o1 nd1 n1 => ⟨?_, fun p hp => ?_⟩
   ·rw [<- o1.length]; exact Nat.le_of_lt (Nat.lt_of_le_of_lt hl fv)
   ·obtain ⟨k1, k2⟩ := ss (o := .tup vs) hp o1.there
    refine k _ (p :: fp) S1 _ (z1.trans (Ext.own z1.sub hp)) (own_tup.mpr ⟨p, vs, fp, rfl, rfl, aC, o1.mono (Same.refl _) k1⟩) (List.nodup_cons.mpr ⟨k2, nd1⟩) fun b hb => ?_
    rcases List.mem_cons.mp hb with rfl | hb
    ·exact ⟨(z1.same r.sub).free hp, z1.sub.free hp⟩
    ·exact n1 b hb
  ·cases x
theorem Dz {t : TA} {a : Env -> Option (List O)} (h : SAT K t a) : STr K (Et t) (AC a) := fun ρ σ S H Q o r x k => by
 unfold AC at x
 cases q : a ρ with
 | none => rw [q] at x; cases x
 | some l =>
  rw [q] at x
  dsimp only [Option.bind] at x
  split at x
  ·rename_i hl
   cases x
   refine h ρ σ S H _ l r q fun vs fp S1 H1 z1 o1 nd1 n1 => ⟨?_, fun p hp => ?_⟩
   ·rw [<- o1.length]; exact Nat.le_of_lt (Nat.lt_of_le_of_lt hl fv)
   ·obtain ⟨k1, k2⟩ := ss (o := .lst vs) hp o1.there
    refine k _ (p :: fp) S1 _ (z1.trans (Ext.own z1.sub hp)) (own_lst.mpr ⟨p, vs, fp, rfl, rfl, aC, o1.mono (Same.refl _) k1⟩) (List.nodup_cons.mpr ⟨k2, nd1⟩) fun b hb => ?_
    rcases List.mem_cons.mp hb with rfl | hb
    ·exact ⟨(z1.same r.sub).free hp, z1.sub.free hp⟩
    ·exact n1 b hb
  ·cases x
theorem Cr {ρ : Env} {ds : List D} (h : ap ρ = some ds) : ds.length = 0 := by cases h; rfl
theorem BD {a : XE} {b : XA} {n : Nat} (h : ∀ ρ ds, b ρ = some ds -> ds.length = n) (ρ : Env) (ds : List D) (x : ac a b ρ = some ds) : ds.length = n + 1 := by
 obtain ⟨da, db, qa, qb, rfl⟩ := lU x
 rw [List.length_cons, h ρ db qb]
@[simp] def xI (a b : XE) : XE := fun ρ => (a ρ).bind fun x => match x with | .bl true => b ρ | .bl false => some (.bl false) | _ => none
@[simp] def Ji (a b : XE) : XE := fun ρ => (a ρ).bind fun x => match x with | .bl true => some (.bl true) | .bl false => b ρ | _ => none
@[simp] def Iw (a : XE) : XE := fun ρ => (a ρ).bind fun x => match x with | .bl c => some (.bl (!c)) | _ => none
theorem Em {ta tb : TE} {a b : XE} (ha : SPk K ta a) (hb : SE K tb b) : SE K (Da ta tb) (xI a b) := fun ρ σ S H Q d r x k => by
 unfold xI at x
 cases qa : a ρ with
 | none => rw [qa] at x; cases x
 | some da =>
  rw [qa] at x
  dsimp only [Option.bind] at x
  refine ha ρ σ S H _ da r qa fun v S1 H1 z1 d1 => ?_
  split at x
  ·exact ⟨true, d1.bl, we (hb ρ σ S1 H1 Q d (r.ext z1) x fun w S2 H2 z2 d2 => k w S2 H2 (z1.trans z2) d2)⟩
  ·cases x
   exact ⟨false, d1.bl, wX (k _ S1 H1 z1 (den_bl.mpr rfl))⟩
  ·cases x
@[simp] def Ju (c : XT) (a b : XE) : XE := fun ρ => (c ρ).bind fun q => if q = true then a ρ else b ρ
@[simp] def xB (a : XE) : XT := fun ρ => (a ρ).bind fun x => match x with | .bl c => some c | _ => none
def uD : D -> Option Bool
 | .non => some false
 | .bl b => some b
 | .int i => some (i != 0)
 | .str y => if y.length <= LIM then some ((y.length : Int) != 0) else none
 | .lst l => some (!l.isEmpty)
 | .tup l => some (!l.isEmpty)
 | .scr l => some (!l.isEmpty)
 | _ => none
theorem lv {ds : List D} {xs : List V} (h : Dens K S ds xs) : (!ds.isEmpty) = !xs.isEmpty := by
 have := h.length
 cases ds <;> cases xs <;> simp_all
@[simp] def n6 (a : XE) : XT := fun ρ => (a ρ).bind uD
theorem EE {d : D} {v : V} {b : Bool} (s : Same S H) (h : DenP K S H d v) (x : uD d = some b) : CP K v H b := by
 cases d with
 | non => rw [h.non]; cases x; rfl
 | bl c => rw [h.bl]; cases x; rfl
 | int i => rw [h.int]; cases x; rfl
 | str y =>
  rw [h.str]
  have x' : (if y.length <= LIM then some ((y.length : Int) != 0) else none) = some b := x
  split at x'
  ·rename_i hl; cases x'; exact ⟨Nat.le_of_lt (Nat.lt_of_le_of_lt hl fv), rfl⟩
  ·cases x'
 | lst l =>
  obtain ⟨p, xs, rfl, h1, h2⟩ := h.lst s
  cases x
  exact .inl ⟨xs, .inl h1, lv h2⟩
 | tup l =>
  obtain ⟨p, xs, rfl, h1, h2⟩ := h.tup s
  cases x
  exact .inr (.inl ⟨xs, h1, lv h2⟩)
 | scr l =>
  obtain ⟨p, xs, rfl, h1, h2⟩ := h.scr s
  cases x
  exact .inl ⟨xs, h1, lv h2⟩
 | _ => cases x
end
section
variable {K : W.Frag} {S S' H H' : Hp}
@[simp] def qT (a b : XT) : XT := fun ρ => (a ρ).bind fun x => if x = true then b ρ else some false
@[simp] def xOr (a b : XT) : XT := fun ρ => (a ρ).bind fun x => if x = true then some true else b ρ
@[simp] def Ah (a : XT) : XT := fun ρ => (a ρ).map fun x => !x
theorem F3 {ta tb : TT} {a b : XT} (ha : ST K ta a) (hb : ST K tb b) : ST K (Gk ta tb) (qT a b) := fun ρ σ S H Q d r x k => by
 unfold qT at x
 cases qa : a ρ with
 | none => rw [qa] at x; cases x
 | some q =>
  rw [qa] at x
  dsimp only [Option.bind] at x
  refine ha ρ σ S H _ q r qa fun S1 H1 z1 => ?_
  cases q with
  | true => exact we (hb ρ σ S1 H1 Q d (r.ext z1) (by simpa using x) fun S2 H2 z2 => k S2 H2 (z1.trans z2))
  | false =>
   have : d = false := by simpa using x.symm
   subst this
   exact wX (k S1 H1 z1)
theorem Hi {ta tb : TT} {a b : XT} (ha : ST K ta a) (hb : ST K tb b) : ST K (tOr ta tb) (xOr a b) := fun ρ σ S H Q d r x k => by
 unfold xOr at x
 cases qa : a ρ with
 | none => rw [qa] at x; cases x
 | some q =>
  rw [qa] at x
  dsimp only [Option.bind] at x
  refine ha ρ σ S H _ q r qa fun S1 H1 z1 => ?_
  cases q with
  | false => exact wX (hb ρ σ S1 H1 Q d (r.ext z1) (by simpa using x) fun S2 H2 z2 => k S2 H2 (z1.trans z2))
  | true =>
   have : d = true := by simpa using x.symm
   subst this
   exact we (k S1 H1 z1)
theorem FN {ta : TT} {a : XT} (ha : ST K ta a) : ST K (F0 ta) (Ah a) := fun ρ σ S H Q d r x k => by
 unfold Ah at x
 cases qa : a ρ with
 | none => rw [qa] at x; cases x
 | some q =>
  rw [qa] at x
  cases x
  exact ha ρ σ S H _ q r qa k
inductive Out where
 | nx (ρ : Env) | rt (d : D) | ro (o : O) | bk (ρ : Env) | ct (ρ : Env)
abbrev XS := Env -> Option Out
def Done (K : W.Frag) (A : Hp) (Λ : Nat -> Option Addr) (S : Hp) (E : Ends) : Out -> Prop
 | .nx ρ => ∀ σ' S' H', RlA K A Λ ρ σ' S' H' -> Same S S' -> E.nx σ' H'
 | .bk ρ => ∀ σ' S' H', RlA K A Λ ρ σ' S' H' -> Same S S' -> E.bk σ' H'
 | .ct ρ => ∀ σ' S' H', RlA K A Λ ρ σ' S' H' -> Same S S' -> E.ct σ' H'
 | .rt d => ∀ v S' H', Same S S' -> Same S' H' -> Same A H' -> (∀ b, S' b = none \/ A b = none) -> Den K S' d v -> E.rt v H'
 | .ro o => ∀ v fp S' H', Same S S' -> Same S' H' -> Same A H' -> (∀ b, S' b = none \/ A b = none) -> Own K S' H' o v fp -> fp.Nodup -> (∀ b ∈ fp, S' b = none /\ A b = none) -> E.rt v H'
theorem Done.mono {A : Hp} {Λ : Nat -> Option Addr} {E : Ends} {o : Out} (s : Same S S') (h : Done K A Λ S E o) : Done K A Λ S' E o := by
 cases o with
 | nx ρ => exact fun σ1 S1 H1 r z => h σ1 S1 H1 r (s.trans z)
 | bk ρ => exact fun σ1 S1 H1 r z => h σ1 S1 H1 r (s.trans z)
 | ct ρ => exact fun σ1 S1 H1 r z => h σ1 S1 H1 r (s.trans z)
 | rt d => exact fun v S1 H1 z => h v S1 H1 (s.trans z)
 | ro d => exact fun v fp S1 H1 z => h v fp S1 H1 (s.trans z)
def SS (K : W.Frag) (t : TS) (m : XS) : Prop := ∀ A Λ ρ σ S H (E : Ends) o, RlA K A Λ ρ σ S H -> m ρ = some o -> Done K A Λ S E o -> t E σ H
@[simp] def dB : XS := fun ρ => some (.nx ρ)
theorem EN : SS K CU dB := fun A Λ ρ σ S H E o r x k => by cases x; exact k σ S H r (Same.refl _)
@[simp] def Ht : XS := fun ρ => some (.bk ρ)
@[simp] def IL : XS := fun ρ => some (.ct ρ)
@[simp] def Hh : XS := fun _ => none
@[simp] def aL (m n : XS) : XS := fun ρ => match m ρ with | some (.nx ρ') => n ρ' | o => o
theorem FB {t u : TS} {m n : XS} (ht : SS K t m) (hu : SS K u n) : SS K (F4 t u) (aL m n) := fun A Λ ρ σ S H E o r x k => by
 unfold aL at x
 cases q : m ρ with
 | none => rw [q] at x; cases x
 | some om =>
  rw [q] at x
  refine ht A Λ ρ σ S H _ om r q ?_
  cases om with
  | nx ρ' => exact fun σ' S' H' r' z => hu A Λ ρ' σ' S' H' E o r' x (k.mono z)
  | rt d => cases x; exact k
  | ro d => cases x; exact k
  | bk d => cases x; exact k
  | ct d => cases x; exact k
@[simp] def cN (e : XE) : XS := fun ρ => (e ρ).map .rt
theorem FI {te : TE} {e : XE} (h : SE K te e) : SS K (Ei te) (cN e) := fun A Λ ρ σ S H E o r x k => by
 unfold cN at x
 cases q : e ρ with
 | none => rw [q] at x; cases x
 | some d =>
  rw [q] at x
  cases x
  refine h ρ σ S H _ d r.toRl q fun v S1 H1 z1 d1 => ?_
  have r1 := r.ext z1
  exact k v S1 H1 z1.sh z1.sub r1.asub r1.adis d1
@[simp] def IY (e : Env -> Option O) : XS := fun ρ => (e ρ).map .ro
@[simp] def pD (i : Nat) : XS := fun ρ => match ρ[i]? with | some (.sh d) => some (.rt d) | some (.ow o) => some (.ro o) | _ => none
theorem Ef (i : Nat) : SS K (Ei (qJ i)) (pD i) := fun A Λ ρ σ S H E o r x k => by
 unfold pD at x
 cases q : ρ[i]? with
 | none => rw [q] at x; cases x
 | some s =>
  rw [q] at x
  obtain ⟨Φ, f⟩ := r
  cases s with
  | un => cases x
  | lo => cases x
  | sh d =>
   cases x
   obtain ⟨v, h1, h2⟩ := f.sh i d q
   exact ⟨v, h1, k v S H (Same.refl _) f.sub f.asub f.adis h2⟩
  | ow ot =>
   cases x
   obtain ⟨v, h1, h2, h3, h4⟩ := f.ow i ot q
   exact ⟨v, h1, k v _ S H (Same.refl _) f.sub f.asub f.adis h2 h3 h4⟩
@[simp] def IM : XS := fun _ => some (.rt .non)
@[simp] def xIf (c : XT) (m n : XS) : XS := fun ρ => (c ρ).bind fun b => if b = true then m ρ else n ρ
theorem HW {tc : TT} {t u : TS} {c : XT} {m n : XS} (hc : ST K tc c) (ht : SS K t m) (hu : SS K u n) : SS K (Fv tc t u) (xIf c m n) := fun A Λ ρ σ S H E o r x k => by
 unfold xIf at x
 cases qc : c ρ with
 | none => rw [qc] at x; cases x
 | some q =>
  rw [qc] at x
  dsimp only [Option.bind] at x
  refine hc ρ σ S H _ q r.toRl qc fun S1 H1 z1 => ?_
  cases q with
  | true => exact we (ht A Λ ρ σ S1 H1 E o (r.ext z1) (by simpa using x) (k.mono z1.sh))
  | false => exact wX (hu A Λ ρ σ S1 H1 E o (r.ext z1) (by simpa using x) (k.mono z1.sh))
theorem bq {α : Type} {l : List α} {i j : Nat} {x y : α} (h : (l.set i x)[j]? = some y) : (i = j /\ y = x /\ i < l.length) \/ (i ≠ j /\ l[j]? = some y) := by
 by_cases hij : i = j
 ·subst hij
  have hl := (List.getElem?_eq_some_iff.mp h).1
  rw [List.length_set] at hl
  rw [List.getElem?_set_self hl] at h
  exact .inl ⟨rfl, (Option.some.inj h).symm, hl⟩
 ·rw [List.getElem?_set_ne hij] at h
  exact .inr ⟨hij, h⟩
theorem RlF.set {A : Hp} {Λ : Nat -> Option Addr} {Φ : Nat -> List Addr} {ρ : Env} {σ : St} {d : D} {v : V} (r : RlF K A Λ Φ ρ σ S H) (i : Nat) (h : Den K S d v) : RlF K A Λ Φ (ρ.set i (.sh d)) (σ.set i (some v)) S H where
 len := by rw [List.length_set, List.length_set]; exact r.len
 sub := r.sub
 sh := fun j e hj => by
  rcases bq hj with ⟨rfl, e, hl⟩ | ⟨hij, hj⟩
  ·cases e
   exact ⟨v, List.getElem?_set_self (by rw [r.len]; exact hl), h⟩
  ·rw [List.getElem?_set_ne hij]
   exact r.sh j e hj
 ow := fun j o hj => by
  rcases bq hj with ⟨rfl, e, hl⟩ | ⟨hij, hj⟩
  ·cases e
  ·rw [List.getElem?_set_ne hij]
   exact r.ow j o hj
 dj := fun j k o o' hjk h1 h2 => by
  rcases bq h1 with ⟨rfl, e, hl⟩ | ⟨hij, h1⟩
  ·cases e
  ·rcases bq h2 with ⟨rfl, e, hl⟩ | ⟨hik, h2⟩
   ·cases e
   ·exact r.dj j k o o' hjk h1 h2
 lo := fun j hj => by
  rcases bq hj with ⟨rfl, e, hl⟩ | ⟨hij, hj⟩
  ·cases e
  ·rw [List.getElem?_set_ne hij]
   exact r.lo j hj
 asub := r.asub
 adis := r.adis
theorem RlA.set {A : Hp} {Λ : Nat -> Option Addr} {ρ : Env} {σ : St} {d : D} {v : V} (r : RlA K A Λ ρ σ S H) (i : Nat) (h : Den K S d v) : RlA K A Λ (ρ.set i (.sh d)) (σ.set i (some v)) S H := let ⟨Φ, f⟩ := r; ⟨Φ, f.set i h⟩
theorem RlF.put {A : Hp} {Λ : Nat -> Option Addr} {Φ : Nat -> List Addr} {ρ : Env} {σ : St} {o : O} {v : V} {fp : List Addr} (r : RlF K A Λ Φ ρ σ S H) (i : Nat) (sub : Same S H') (asub : Same A H') (ow : Own K S H' o v fp) (nd : fp.Nodup) (n : ∀ b ∈ fp, S b = none /\ A b = none)
  (keep : ∀ (j : Nat) o', j ≠ i -> ρ[j]? = some (.ow o') -> ∀ b ∈ Φ j, H' b = H b /\ b ∉ fp) : RlF K A Λ (fun j => if j = i then fp else Φ j) (ρ.set i (.ow o)) (σ.set i (some v)) S H' where
 len := by rw [List.length_set, List.length_set]; exact r.len
 sub := sub
 sh := fun j e hj => by
  rcases bq hj with ⟨rfl, e, hl⟩ | ⟨hij, hj⟩
  ·cases e
  ·rw [List.getElem?_set_ne hij]
   exact r.sh j e hj
 ow := fun j o' hj => by
  rcases bq hj with ⟨rfl, e, hl⟩ | ⟨hij, hj⟩
  ·cases e
   rw [if_pos rfl]
   exact ⟨v, List.getElem?_set_self (by rw [r.len]; exact hl), ow, nd, n⟩
  ·rw [List.getElem?_set_ne hij, if_neg (Ne.symm hij)]
   obtain ⟨w, h1, h2, h3, h4⟩ := r.ow j o' hj
   exact ⟨w, h1, h2.mono (Same.refl _) fun b hb => (keep j o' (Ne.symm hij) hj b hb).1, h3, h4⟩
 dj := fun j k o1 o2 hjk h1 h2 b hb hb2 => by
  rcases bq h1 with ⟨rfl, e, hl⟩ | ⟨hij, h1⟩
  ·rcases bq h2 with ⟨rfl, e, hl⟩ | ⟨hik, h2⟩
   ·exact hjk rfl
   ·rw [if_pos rfl] at hb
    rw [if_neg (Ne.symm hik)] at hb2
    exact (keep k o2 (Ne.symm hik) h2 b hb2).2 hb
  ·rcases bq h2 with ⟨rfl, e, hl⟩ | ⟨hik, h2⟩
   ·rw [if_pos rfl] at hb2
    rw [if_neg (Ne.symm hij)] at hb
    exact (keep j o1 (Ne.symm hij) h1 b hb).2 hb2
   ·rw [if_neg (Ne.symm hij)] at hb
    rw [if_neg (Ne.symm hik)] at hb2
    exact r.dj j k o1 o2 hjk h1 h2 b hb hb2
 lo := fun j hj => by
  rcases bq hj with ⟨rfl, e, hl⟩ | ⟨hij, hj⟩
  ·cases e
  ·rw [List.getElem?_set_ne hij]
   exact r.lo j hj
 asub := asub
 adis := r.adis
theorem pe {α : Type} {l : List α} {i : Nat} {x : α} (h : l[i]? = some x) : l.set i x = l := by
 apply List.ext_getElem?
 intro j
 by_cases e : i = j
 ·subst e
  rw [List.getElem?_set_self (List.getElem?_eq_some_iff.mp h).1, h]
 ·rw [List.getElem?_set_ne e]
def frz (i : Nat) (ρ : Env) : Env := match ρ[i]? with | some (.ow o) => ρ.set i (.sh o.d) | _ => ρ
theorem RlA.frz {A : Hp} {Λ : Nat -> Option Addr} {ρ : Env} {σ : St} (r : RlA K A Λ ρ σ S H) (i : Nat) : ∃ S', Same S S' /\ RlA K A Λ (frz i ρ) σ S' H := by
 unfold M.frz
 cases q : ρ[i]? with
 | none => exact ⟨S, Same.refl _, r⟩
 | some s =>
  cases s with
  | un => exact ⟨S, Same.refl _, r⟩
  | lo => exact ⟨S, Same.refl _, r⟩
  | sh d => exact ⟨S, Same.refl _, r⟩
  | ow o =>
   dsimp only
   obtain ⟨Φ, f⟩ := r
   obtain ⟨v, h1, h2, h3, h4⟩ := f.ow i o q
   have s2 : Same S (tQ S H (Φ i)) := nq fun b hb => (h4 b hb).1
   have hd : Den K (tQ S H (Φ i)) o.d v := h2.den s2 fun b hb => ut hb
   refine ⟨_, s2, Φ, ?_⟩
   exact {
    len := by rw [List.length_set]; exact f.len
    sub := ux f.sub
    sh := fun j d hj => by
     rcases bq hj with ⟨rfl, e, hl⟩ | ⟨hij, hj⟩
     ·cases e
      exact ⟨v, h1, hd⟩
     ·obtain ⟨w, k1, k2⟩ := f.sh j d hj
      exact ⟨w, k1, k2.mono s2⟩
    ow := fun j o' hj => by
     rcases bq hj with ⟨rfl, e, hl⟩ | ⟨hij, hj⟩
     ·cases e
     ·obtain ⟨w, k1, k2, k3, k4⟩ := f.ow j o' hj
      exact ⟨w, k1, k2.mono s2 fun _ _ => rfl, k3, fun b hb => ⟨by rw [jP fun hi => f.dj i j o o' hij q hj b hi hb]; exact (k4 b hb).1, (k4 b hb).2⟩⟩
    dj := fun j k o1 o2 hjk g1 g2 => by
     rcases bq g1 with ⟨rfl, e, hl⟩ | ⟨hij, g1⟩
     ·cases e
     ·rcases bq g2 with ⟨rfl, e, hl⟩ | ⟨hik, g2⟩
      ·cases e
      ·exact f.dj j k o1 o2 hjk g1 g2
    lo := fun j hj => by
     rcases bq hj with ⟨rfl, e, hl⟩ | ⟨hij, hj⟩
     ·cases e
     ·exact f.lo j hj
    asub := f.asub
    adis := fun b => by
     by_cases hb : b ∈ Φ i
     ·exact .inr (h4 b hb).2
     ·rw [jP hb]; exact f.adis b }
@[simp] def CT (i : Nat) (m : XS) : XS := fun ρ => m (frz i ρ)
theorem F7 {t : TS} {m : XS} (i : Nat) (h : SS K t m) : SS K t (CT i m) := fun A Λ ρ σ S H E o r x k => by
 obtain ⟨S', s, r'⟩ := r.frz i
 exact h A Λ _ σ S' H E o r' x (k.mono s)
abbrev XG := D -> Env -> Option Env
abbrev XGs := List D -> Env -> Option Env
def SG (K : W.Frag) (g : TG) (x : XG) : Prop := ∀ A Λ ρ σ S H v d (Q : St -> Hp -> Prop) ρ', RlA K A Λ ρ σ S H -> Den K S d v -> x d ρ = some ρ' -> (∀ σ', RlA K A Λ ρ' σ' S H -> Q σ' H) -> g v σ H Q
def SGs (K : W.Frag) (g : TGs) (x : XGs) : Prop := ∀ A Λ ρ σ S H vs ds (Q : St -> Hp -> Prop) ρ', RlA K A Λ ρ σ S H -> Dens K S ds vs -> x ds ρ = some ρ' -> (∀ σ', RlA K A Λ ρ' σ' S H -> Q σ' H) -> g vs σ H Q
@[simp] def ad (i : Nat) : XG := fun d ρ => some (ρ.set i (.sh d))
def aN : XGs := fun ds ρ => match ds with | [] => some ρ | _ => none
def am (x : XG) (y : XGs) : XGs := fun ds ρ => match ds with | d :: r => (x d ρ).bind (y r) | [] => none
def aO (y : XGs) : XG := fun d ρ => match d with | .tup l => y l ρ | .mtp l => y l ρ | _ => none
theorem EV (i : Nat) : SG K (iE i) (ad i) := fun A Λ ρ σ S H v d Q ρ' r dv x k => by cases x; exact k _ (r.set i dv)
theorem FT : SGs K DQ aN := fun A Λ ρ σ S H vs ds Q ρ' r dv x k => by
 cases ds with
 | nil => cases x; exact ⟨dv.nil_of, k σ r⟩
 | cons _ _ => cases x
theorem Ek {g : TG} {gs : TGs} {x : XG} {y : XGs} (h : SG K g x) (hs : SGs K gs y) : SGs K (A7 g gs) (am x y) := fun A Λ ρ σ S H vs ds Q ρ' r dv e k => by
 cases ds with
 | nil => cases e
 | cons d ds =>
  obtain ⟨v, vs, rfl, h1, h2⟩ := dv.cons_of
  have e' : (x d ρ).bind (y ds) = some ρ' := e
  cases q : x d ρ with
  | none => rw [q] at e'; cases e'
  | some ρ1 =>
   rw [q] at e'
   exact ⟨v, vs, rfl, h A Λ ρ σ S H v d _ ρ1 r h1 q fun σ1 r1 => hs A Λ ρ1 σ1 S H vs ds Q ρ' r1 h2 e' k⟩
def xE (y : XGs) (n : Nat) : Prop := ∀ ds ρ ρ', y ds ρ = some ρ' -> ds.length = n
theorem Dy : xE aN 0 := fun ds ρ ρ' e => by cases ds with | nil => rfl | cons _ _ => cases e
theorem B2 {x : XG} {y : XGs} {n : Nat} (h : xE y n) : xE (am x y) (n + 1) := fun ds ρ ρ' e => by
 cases ds with
 | nil => cases e
 | cons d ds =>
  have e' : (x d ρ).bind (y ds) = some ρ' := e
  cases q : x d ρ with
  | none => rw [q] at e'; cases e'
  | some ρ1 => rw [q] at e'; rw [List.length_cons, h ds ρ1 ρ' e']
theorem Gx {gs : TGs} {y : XGs} {n : Nat} (hs : SGs K gs y) (hl : xE y n) : SG K (DP K n gs) (aO y) := fun A Λ ρ σ S H v d Q ρ' r dv e k => by
 cases d with
 | tup l =>
  obtain ⟨p, xs, rfl, h1, h2⟩ := gi dv
  exact ⟨p, xs, rfl, a7 r.sub h1, by rw [<- h2.length]; exact hl l ρ ρ' e, hs A Λ ρ σ S H xs l Q ρ' r h2 e k⟩
 | mtp l =>
  obtain ⟨p, xs, rfl, h1, h2⟩ := den_mtp.mp dv
  exact ⟨p, xs, rfl, a7 r.sub h1, by rw [<- h2.length]; exact hl l ρ ρ' e, hs A Λ ρ σ S H xs l Q ρ' r h2 e k⟩
 | _ => cases e
@[simp] def bN (e : XE) (g : XG) : XS := fun ρ => (e ρ).bind fun d => (g d ρ).map .nx
theorem FY {te : TE} {g : TG} {e : XE} {x : XG} (h : SE K te e) (hg : SG K g x) : SS K (uU te g) (bN e x) := fun A Λ ρ σ S H E o r y k => by
 unfold bN at y
 cases q : e ρ with
 | none => rw [q] at y; cases y
 | some d =>
  rw [q] at y
  dsimp only [Option.bind] at y
  cases q2 : x d ρ with
  | none => rw [q2] at y; cases y
  | some ρ' =>
   rw [q2] at y
   cases y
   exact h ρ σ S H _ d r.toRl q fun v S1 H1 z1 d1 => hg A Λ ρ σ S1 H1 v d _ ρ' (r.ext z1) d1 q2 fun σ' r' => k σ' S1 H1 r' z1.sh
@[simp] def n5 (e : Env -> Option O) (i : Nat) : XS := fun ρ => (e ρ).map fun o => .nx (ρ.set i (.ow o))
theorem Bj {te : TE} {e : Env -> Option O} {i : Nat} (h : STr K te e) : SS K (uU te (iE i)) (n5 e i) := fun A Λ ρ σ S H E o r y k => by
 unfold n5 at y
 cases q : e ρ with
 | none => rw [q] at y; cases y
 | some ot =>
  rw [q] at y
  cases y
  obtain ⟨Φ, f⟩ := r
  refine h ρ σ S H _ ot ⟨A, Λ, Φ, f⟩ q fun v fp S1 H1 z1 o1 nd n => ?_
  have r1 := f.ext z1
  refine k _ S1 H1 ⟨_, r1.put (H' := H1) i r1.sub r1.asub o1 nd (fun b hb => ⟨(n b hb).2, f.asub.free (n b hb).1⟩) fun j o' hj e1 b hb => ⟨rfl, fun hf => ?_⟩⟩ z1.sh
  obtain ⟨w, _, k2, _, _⟩ := f.ow j o' e1
  exact k2.there b hb (n b hf).1
@[simp] def fD (e : XA) (i : Nat) : XS := n5 (xLT e) i
theorem DW {te : TE} {e : XA} {i : Nat} (h : SF K te e) : SS K (uU te (iE i)) (fD e i) := Bj h.t
def dn : O -> List Int -> Option O
 | o, [] => some o
 | .lst l, k :: r => (atI l k).bind fun o => dn o r
 | .tup l, k :: r => (atI l k).bind fun o => dn o r
 | .sh _, _ :: _ => none
 | .dic _, _ :: _ => none
 | .hd _ _ _, _ :: _ => none
def p0 (l : List O) (k : Int) (f : O -> O) : List O := match ixN l.length k with
 | some j => (match l[j]? with | some o => l.set j (f o) | none => l)
 | none => l
def iK : O -> List Int -> O -> O
 | _, [], q => q
 | .lst l, k :: r, q => .lst (p0 l k fun o => iK o r q)
 | .tup l, k :: r, q => .tup (p0 l k fun o => iK o r q)
 | .sh d, _ :: _, _ => .sh d
 | .dic d, _ :: _, _ => .dic d
 | .hd p d l, _ :: _, _ => .hd p d l
def WalkV (H : Hp) : V -> List Int -> V -> Prop
 | v, [], w => v = w
 | v, k :: r, w => ∃ a xs u, v = .ref a /\ (H a = some (.lst xs) \/ H a = some (.tup xs)) /\ atI xs k = some u /\ WalkV H u r w
theorem WalkV.mono (s : Same H H') : ∀ {p : List Int} {v w : V}, WalkV H v p w -> WalkV H' v p w
 | [], _, _, h => h
 | _ :: _, _, _, ⟨a, xs, u, e, h, k, m⟩ => ⟨a, xs, u, e, h.elim (fun z => .inl (s _ _ z)) (fun z => .inr (s _ _ z)), k, m.mono s⟩
theorem WalkV.uniq : ∀ {p : List Int} {v w w' : V}, WalkV H v p w -> WalkV H v p w' -> w = w'
 | [], _, _, _, h, k => h.symm.trans k
 | _ :: _, _, _, _, hpt0, hpt1 => by
  obtain ⟨a, xs, u, e, h, k, m⟩ := hpt0
  obtain ⟨a', xs', u', e', h', k', m'⟩ := hpt1
  rw [e] at e'
  cases e'
  have : xs = xs' := by
   rcases h with h | h <;> rcases h' with h' | h' <;> rw [h] at h' <;> cases h' <;> rfl
  subst this
  rw [k] at k'
  cases k'
  exact m.uniq m'
theorem WalkV.snoc : ∀ {p : List Int} {v w u : V} {k : Int} {a : Addr} {xs : List V}, WalkV H v p w -> w = .ref a -> (H a = some (.lst xs) \/ H a = some (.tup xs)) -> atI xs k = some u -> WalkV H v (p ++ [k]) u
 | [], _, _, u, k, a, xs, h, e, h1, h2 => ⟨a, xs, u, h.trans e, h1, h2, rfl⟩
 | _ :: _, _, _, _, _, _, _, ⟨b, ys, u', e, h, k, m⟩, e', h1, h2 => ⟨b, ys, u', e, h, k, m.snoc e' h1 h2⟩
theorem nh : ∀ {p : List Int} {o q : O} {k : Int}, dn o (p ++ [k]) = some q -> ∃ q0, dn o p = some q0 /\ dn q0 [k] = some q
 | [], o, q, k, h => ⟨o, by unfold dn; rfl, h⟩
 | j :: p, o, q, k, h => by
  cases o with
  | sh d => cases h
  | dic _ => cases h
  | hd _ _ _ => cases h
  | lst l =>
   have h' : (atI l j).bind (fun o => dn o (p ++ [k])) = some q := h
   cases e : atI l j with
   | none => rw [e] at h'; cases h'
   | some o1 =>
    rw [e] at h'
    obtain ⟨q0, a, b⟩ := nh (p := p) h'
    exact ⟨q0, by show (atI l j).bind (fun o => dn o p) = some q0; rw [e]; exact a, b⟩
  | tup l =>
   have h' : (atI l j).bind (fun o => dn o (p ++ [k])) = some q := h
   cases e : atI l j with
   | none => rw [e] at h'; cases h'
   | some o1 =>
    rw [e] at h'
    obtain ⟨q0, a, b⟩ := nh (p := p) h'
    exact ⟨q0, by show (atI l j).bind (fun o => dn o p) = some q0; rw [e]; exact a, b⟩
theorem Owns.split : ∀ {l : List O} {xs : List V} {f : List Addr} {j : Nat} {o : O}, Owns K S H l xs f -> l[j]? = some o -> ∃ x f1 f2 f3, xs[j]? = some x /\ f = f1 ++ (f2 ++ f3) /\ Own K S H o x f2 /\
  ∀ H' o' f2', Own K S H' o' x f2' -> (∀ b ∈ f1, H' b = H b) -> (∀ b ∈ f3, H' b = H b) -> Owns K S H' (l.set j o') xs (f1 ++ (f2' ++ f3))
 | [], _, _, _, _, _, e => by simp at e
 | o0 :: l, _, _, 0, o, h, e => by
  obtain ⟨y, ys, f, g, rfl, rfl, a, b⟩ := h.cons_of
  simp at e; subst e
  exact ⟨y, [], f, g, rfl, rfl, a, fun H' o' f2' h1 _ h3 => Owns.cons (f := f2') h1 (b.mono (Same.refl _) h3)⟩
 | o0 :: l, _, _, j + 1, o, h, e => by
  obtain ⟨y, ys, f, g, rfl, rfl, a, b⟩ := h.cons_of
  obtain ⟨x, f1, f2, f3, e1, rfl, h1, h2⟩ := b.split (j := j) (by simpa using e)
  refine ⟨x, f ++ f1, f2, f3, by simpa using e1, by rw [List.append_assoc], h1, fun H' o' f2' k1 k2 k3 => ?_⟩
  rw [List.append_assoc]
  exact .cons (a.mono (Same.refl _) fun b hb => k2 b (List.mem_append_left _ hb)) (h2 H' o' f2' k1 (fun b hb => k2 b (List.mem_append_right _ hb)) k3)
theorem wN {α : Type} {l : List α} {k : Int} {x : α} (h : atI l k = some x) : ∃ j, ixN l.length k = some j /\ l[j]? = some x := by
 unfold atI at h
 cases q : ixN l.length k with
 | none => rw [q] at h; cases h
 | some j => rw [q] at h; exact ⟨j, rfl, h⟩
theorem Ar : ∀ {p : List Int} {o q : O} {v : V} {fp : List Addr}, Own K S H o v fp -> fp.Nodup -> dn o p = some q -> ∃ w fq, Own K S H q w fq /\ WalkV H v p w /\ (∀ b ∈ fq, b ∈ fp) /\ fq.Nodup /\
  ∀ H' q' fq', Own K S H' q' w fq' -> fq'.Nodup -> (∀ b ∈ fp, b ∉ fq -> H' b = H b) -> (∀ b ∈ fq', b ∈ fp -> b ∈ fq) -> ∃ fp', Own K S H' (iK o p q') v fp' /\ fp'.Nodup /\ ∀ b ∈ fp', b ∈ fp \/ b ∈ fq'
 | [], o, q, v, fp, h, nd, e => by
  have e' : some o = some q := by unfold dn at e; exact e
  cases e'
  exact ⟨v, fp, h, rfl, fun b hb => hb, nd, fun H' q' fq' h1 n1 _ _ => ⟨fq', by unfold iK; exact h1, n1, fun b hb => .inr hb⟩⟩
 | k :: r, o, q, v, fp, h, nd, e => by
  have body : ∀ (l : List O) (a : Addr) (xs : List V) (f : List Addr), v = .ref a -> fp = a :: f -> (H a = some (.lst xs) \/ H a = some (.tup xs)) -> Owns K S H l xs f -> ((atI l k).bind fun o => dn o r) = some q ->
    ∃ w fq, Own K S H q w fq /\ WalkV H v (k :: r) w /\ (∀ b ∈ fq, b ∈ fp) /\ fq.Nodup /\ ∀ H' q' fq', Own K S H' q' w fq' -> fq'.Nodup -> (∀ b ∈ fp, b ∉ fq -> H' b = H b) -> (∀ b ∈ fq', b ∈ fp -> b ∈ fq) ->
     ∃ f', Owns K S H' (p0 l k fun o => iK o r q') xs f' /\ H' a = H a /\ (a :: f').Nodup /\ ∀ b ∈ a :: f', b ∈ fp \/ b ∈ fq' := by
   rintro l a xs f rfl rfl ha hl hs
   obtain ⟨na, nf⟩ := List.nodup_cons.mp nd
   cases qa : atI l k with
   | none => rw [qa] at hs; cases hs
   | some o1 =>
    rw [qa] at hs
    obtain ⟨j, ej, el⟩ := wN qa
    obtain ⟨x, f1, f2, f3, ex, rfl, h1, h2⟩ := hl.split el
    obtain ⟨n1, n23, d1⟩ := List.nodup_append.mp nf
    obtain ⟨n2, n3, d2⟩ := List.nodup_append.mp n23
    obtain ⟨w, fq, k1, k2, k3, k4, k5⟩ := Ar (p := r) h1 n2 hs
    have ax : atI xs k = some x := by unfold atI; rw [<- hl.length, ej]; exact ex
    refine ⟨w, fq, k1, ⟨a, xs, x, rfl, ha, ax, k2⟩, fun b hb => List.mem_cons_of_mem _ (List.mem_append_right _ (List.mem_append_left _ (k3 b hb))), k4, fun H' q' fq' g1 g2 g3 g4 => ?_⟩
    have in2 : ∀ b ∈ fq, b ∈ f2 := k3
    have a1 : ∀ b ∈ f1, b ∉ fq := fun b hb hq => d1 b hb b (List.mem_append_left _ (in2 b hq)) rfl
    have a3 : ∀ b ∈ f3, b ∉ fq := fun b hb hq => d2 b (in2 b hq) b hb rfl
    have aa : a ∉ fq := fun hq => na (List.mem_append_right _ (List.mem_append_left _ (in2 a hq)))
    obtain ⟨f2', m1, m2, m3⟩ := k5 H' q' fq' g1 g2 (fun b hb hn => g3 b (List.mem_cons_of_mem _ (List.mem_append_right _ (List.mem_append_left _ hb))) hn) fun b hb hp => g4 b hb (List.mem_cons_of_mem _ (List.mem_append_right _ (List.mem_append_left _ hp)))
    have out : ∀ b ∈ f2', b ∉ f1 /\ b ∉ f3 /\ b ≠ a := fun b hb => by
     rcases m3 b hb with hb | hb
     ·exact ⟨fun z => d1 b z b (List.mem_append_left _ hb) rfl, fun z => d2 b hb b z rfl, fun z => na (z ▸ List.mem_append_right _ (List.mem_append_left _ hb))⟩
     ·refine ⟨fun z => a1 b z (g4 b hb (List.mem_cons_of_mem _ (List.mem_append_left _ z))), fun z => a3 b z (g4 b hb (List.mem_cons_of_mem _ (List.mem_append_right _ (List.mem_append_right _ z)))), fun z => ?_⟩
      subst z
      exact aa (g4 b hb List.mem_cons_self)
    refine ⟨f1 ++ (f2' ++ f3), ?_, g3 a List.mem_cons_self aa, ?_, fun b hb => ?_⟩
    ·unfold p0
     rw [ej]
     dsimp only
     rw [el]
     exact h2 H' _ f2' m1 (fun b hb => g3 b (List.mem_cons_of_mem _ (List.mem_append_left _ hb)) (a1 b hb)) fun b hb => g3 b (List.mem_cons_of_mem _ (List.mem_append_right _ (List.mem_append_right _ hb))) (a3 b hb)
    ·refine List.nodup_cons.mpr ⟨fun z => ?_, List.nodup_append.mpr ⟨n1, List.nodup_append.mpr ⟨m2, n3, fun b hb c hc e => (out b hb).2.1 (e ▸ hc)⟩, fun b hb c hc e => ?_⟩⟩
     ·rcases List.mem_append.mp z with z | z
      ·exact na (List.mem_append_left _ z)
      ·rcases List.mem_append.mp z with z | z
       ·exact (out a z).2.2 rfl
       ·exact na (List.mem_append_right _ (List.mem_append_right _ z))
     ·subst e
      rcases List.mem_append.mp hc with hc | hc
      ·exact (out b hc).1 hb
      ·exact d1 b hb b (List.mem_append_right _ hc) rfl
    ·rcases List.mem_cons.mp hb with rfl | hb
     ·exact .inl List.mem_cons_self
     ·rcases List.mem_append.mp hb with hb | hb
      ·exact .inl (List.mem_cons_of_mem _ (List.mem_append_left _ hb))
      ·rcases List.mem_append.mp hb with hb | hb
       ·exact (m3 b hb).imp (fun z => List.mem_cons_of_mem _ (List.mem_append_right _ (List.mem_append_left _ z))) id
       ·exact .inl (List.mem_cons_of_mem _ (List.mem_append_right _ (List.mem_append_right _ hb)))
  cases o with
  | sh d => cases e
  | dic _ => cases e
  | hd _ _ _ => cases e
  | lst l =>
   obtain ⟨a, xs, f, e1, e2, h1, h2⟩ := own_lst.mp h
   obtain ⟨w, fq, k1, k2, k3, k4, k5⟩ := body l a xs f e1 e2 (.inl h1) h2 e
   refine ⟨w, fq, k1, k2, k3, k4, fun H' q' fq' g1 g2 g3 g4 => ?_⟩
   obtain ⟨f', m1, m2, m3, m4⟩ := k5 H' q' fq' g1 g2 g3 g4
   exact ⟨a :: f', by unfold iK; exact own_lst.mpr ⟨a, xs, f', e1, rfl, by rw [m2]; exact h1, m1⟩, m3, m4⟩
  | tup l =>
   obtain ⟨a, xs, f, e1, e2, h1, h2⟩ := own_tup.mp h
   obtain ⟨w, fq, k1, k2, k3, k4, k5⟩ := body l a xs f e1 e2 (.inr h1) h2 e
   refine ⟨w, fq, k1, k2, k3, k4, fun H' q' fq' g1 g2 g3 g4 => ?_⟩
   obtain ⟨f', m1, m2, m3, m4⟩ := k5 H' q' fq' g1 g2 g3 g4
   exact ⟨a :: f', by unfold iK; exact own_tup.mpr ⟨a, xs, f', e1, rfl, by rw [m2]; exact h1, m1⟩, m3, m4⟩
abbrev XP := Env -> Option (List Int)
def zK (K : W.Frag) (to : TE) (i : Nat) (p : XP) : Prop := ∀ ρ σ S H (Q : VK) is o q, Rl K ρ σ S H -> ρ[i]? = some (.ow o) -> p ρ = some is -> dn o is = some q -> (∀ v w S' H', σ[i]? = some (some v) -> Ext S H S' H' -> WalkV H' v is w -> Q w H') -> to σ H Q
@[simp] def xPv : XP := fun _ => some []
theorem E8 (i : Nat) : zK K (qJ i) i xPv := fun ρ σ S H Q is o q r h1 h2 h3 k => by
 cases h2
 obtain ⟨v, fp, e, _⟩ := r.ow i o h1
 exact ⟨v, e, k v v S H e (Ext.refl r.sub) rfl⟩
@[simp] def xPi (p : XP) (ix : XE) : XP := fun ρ => (p ρ).bind fun is => (ix ρ).bind fun d => match d with | .int k => some (is ++ [k]) | _ => none
theorem GR {to ti : TE} {i : Nat} {p : XP} {ix : XE} (hp : zK K to i p) (hi : SPk K ti ix) : zK K (tOp (rIx K) to ti) i (xPi p ix) := fun ρ σ S H Q is o q r h1 h2 h3 k => by
 unfold xPi at h2
 cases e1 : p ρ with
 | none => rw [e1] at h2; cases h2
 | some js =>
  rw [e1] at h2
  dsimp only [Option.bind] at h2
  cases e2 : ix ρ with
  | none => rw [e2] at h2; cases h2
  | some d =>
   rw [e2] at h2
   cases d with
   | int kk =>
    cases h2
    obtain ⟨q0, s1, s2⟩ := nh h3
    refine hp ρ σ S H _ js o q0 r h1 e1 s1 fun v w S1 H1 ev z1 wk => ?_
    have r1 := r.ext z1
    refine hi ρ σ S1 H1 _ _ r1 e2 fun u S2 H2 z2 d2 => ?_
    have r2 := r1.ext z2
    obtain ⟨v', fp, ev', ow, nd, _⟩ := r2.ow i o h1
    rw [ev] at ev'
    cases ev'
    obtain ⟨w', fq, k1, k2, _⟩ := Ar ow nd s1
    have ew := k2.uniq (wk.mono (z2.same r1.sub))
    subst ew
    rw [d2.int]
    cases q0 with
    | sh _ => cases s2
    | dic _ => cases s2
    | hd _ _ _ => cases s2
    | lst l =>
     have s2' : (atI l kk).bind (fun o => dn o []) = some q := s2
     cases e3 : atI l kk with
     | none => rw [e3] at s2'; cases s2'
     | some o1 =>
      obtain ⟨a, xs, f, rfl, rfl, hx, hl⟩ := own_lst.mp k1
      obtain ⟨j, ej, el⟩ := wN e3
      obtain ⟨x, _, _, _, ex, _⟩ := hl.split el
      have ax : atI xs kk = some x := by unfold atI; rw [<- hl.length, ej]; exact ex
      exact .inl ⟨a, xs, kk, x, rfl, rfl, SqL.of hx, ax, k v x S2 H2 ev (z1.trans z2) (k2.snoc rfl (.inl hx) ax)⟩
    | tup l =>
     have s2' : (atI l kk).bind (fun o => dn o []) = some q := s2
     cases e3 : atI l kk with
     | none => rw [e3] at s2'; cases s2'
     | some o1 =>
      obtain ⟨a, xs, f, rfl, rfl, hx, hl⟩ := own_tup.mp k1
      obtain ⟨j, ej, el⟩ := wN e3
      obtain ⟨x, _, _, _, ex, _⟩ := hl.split el
      have ax : atI xs kk = some x := by unfold atI; rw [<- hl.length, ej]; exact ex
      exact .inr (.inl ⟨a, xs, kk, x, rfl, rfl, SqT.of hx, ax, k v x S2 H2 ev (z1.trans z2) (k2.snoc rfl (.inr hx) ax)⟩)
   | _ => cases h2
theorem RlF.at {A : Hp} {Λ : Nat -> Option Addr} {Φ : Nat -> List Addr} {ρ : Env} {σ : St} {i : Nat} {o : O} {is : List Int} {l : List O} {v w : V} (f : RlF K A Λ Φ ρ σ S H) (h1 : ρ[i]? = some (.ow o)) (h2 : dn o is = some (.lst l)) (ev : σ[i]? = some (some v)) (wk : WalkV H v is w) :
  ∃ a xs f0, w = .ref a /\ H a = some (.lst xs) /\ Owns K S H l xs f0 /\ (a :: f0).Nodup /\ (∀ b ∈ a :: f0, b ∈ Φ i) /\ ∀ l' xs' f', (∀ H', (∀ b, b ≠ a -> H' b = H b) -> Owns K S H' l' xs' f') -> (a :: f').Nodup -> (∀ b ∈ f', b ∈ f0 \/ ((∀ (j : Nat) o', ρ[j]? = some (.ow o') -> b ∉ Φ j) /\ S b = none /\ A b = none)) ->
   RlA K A Λ (ρ.set i (.ow (iK o is (.lst l')))) σ S (upd H a (.lst xs')) := by
 obtain ⟨v', e', ow, nd, n⟩ := f.ow i o h1
 rw [ev] at e'
 cases e'
 obtain ⟨w', fq, k1, k2, k3, k4, k5⟩ := Ar ow nd h2
 have ew := k2.uniq wk
 subst ew
 obtain ⟨a, xs, g, rfl, rfl, hx, hl⟩ := own_lst.mp k1
 have ain := k3 a List.mem_cons_self
 refine ⟨a, xs, g, rfl, hx, hl, k4, k3, fun l' xs' f' g1 g2 g3 => ?_⟩
 have ne : ∀ b, b ≠ a -> upd H a (.lst xs') b = H b := fun b hb => aB hb
 obtain ⟨fp', m1, m2, m3⟩ := k5 (upd H a (.lst xs')) (.lst l') (a :: f') (own_lst.mpr ⟨a, xs', f', rfl, rfl, aC, g1 _ ne⟩) g2 (fun b hb hn => ne b fun z => hn (z ▸ List.mem_cons_self)) fun b hb hp => by
  rcases List.mem_cons.mp hb with rfl | hb
  ·exact List.mem_cons_self
  ·rcases g3 b hb with z | ⟨z, _⟩
   ·exact List.mem_cons_of_mem _ z
   ·exact absurd hp (z i o h1)
 have sub' : Same S (upd H a (.lst xs')) := fun b u e => by rw [ne b fun z => by subst z; rw [(n b ain).1] at e; cases e]; exact f.sub b u e
 have asub' : Same A (upd H a (.lst xs')) := fun b u e => by rw [ne b fun z => by subst z; rw [(n b ain).2] at e; cases e]; exact f.asub b u e
 have fin := f.put (H' := upd H a (.lst xs')) i sub' asub' m1 m2 (fun b hb => by
  rcases m3 b hb with z | z
  ·exact n b z
  ·rcases List.mem_cons.mp z with rfl | z
   ·exact n b ain
   ·rcases g3 b z with z | ⟨_, z⟩
    ·exact n b (k3 b (List.mem_cons_of_mem _ z))
    ·exact z) fun j o' hj e1 b hb => by
   have nb : b ∉ Φ i := fun z => f.dj j i o' o hj e1 h1 b hb z
   refine ⟨ne b fun z => nb (z ▸ ain), fun z => ?_⟩
   rcases m3 b z with z | z
   ·exact nb z
   ·rcases List.mem_cons.mp z with rfl | z
    ·exact nb ain
    ·rcases g3 b z with z | ⟨z, _⟩
     ·exact nb (k3 b (List.mem_cons_of_mem _ z))
     ·exact z j o' e1 hb
 rw [pe ev] at fin
 exact ⟨_, fin⟩
theorem RlF.fresh {A : Hp} {Λ : Nat -> Option Addr} {Φ : Nat -> List Addr} {ρ : Env} {σ : St} {b : Addr} (f : RlF K A Λ Φ ρ σ S H) (h : H b = none) : (∀ (j : Nat) o', ρ[j]? = some (.ow o') -> b ∉ Φ j) /\ S b = none /\ A b = none :=
 ⟨fun j o' e hb => by obtain ⟨_, _, ow, _⟩ := f.ow j o' e; exact ow.there b hb h, f.sub.free h, f.asub.free h⟩
@[simp] def ge (i : Nat) (p : XP) (e : Env -> Option O) : XS := fun ρ => match ρ[i]? with
 | some (.ow o) => (p ρ).bind fun is => (e ρ).bind fun x => match dn o is with
  | some (.lst l) => if l.length < LIM then some (.nx (ρ.set i (.ow (iK o is (.lst (l ++ [x])))))) else none
  | _ => none
 | _ => none
theorem DB {to te : TE} {i : Nat} {p : XP} {e : Env -> Option O} (hp : zK K to i p) (h : STr K te e) : SS K (yu (tBM K "list" rAppend to (jx te pO))) (ge i p e) := fun A Λ ρ σ S H E out r y k => by
 unfold ge at y
 cases q0 : ρ[i]? with
 | none => rw [q0] at y; cases y
 | some s =>
  rw [q0] at y
  cases s with
  | un => cases y
  | lo => cases y
  | sh d => cases y
  | ow o =>
   dsimp only at y
   cases q1 : p ρ with
   | none => rw [q1] at y; cases y
   | some is =>
    rw [q1] at y
    dsimp only [Option.bind] at y
    cases q2 : e ρ with
    | none => rw [q2] at y; cases y
    | some x =>
     rw [q2] at y
     dsimp only at y
     cases q3 : dn o is with
     | none => rw [q3] at y; cases y
     | some qo =>
      rw [q3] at y
      cases qo with
      | sh _ => cases y
      | dic _ => cases y
      | hd _ _ _ => cases y
      | tup _ => cases y
      | lst l =>
       dsimp only at y
       split at y
       ·rename_i hl
        cases y
        obtain ⟨Φ, f⟩ := r
        refine hp ρ σ S H _ is o _ ⟨A, Λ, Φ, f⟩ q0 q1 q3 fun v w S1 H1 ev z1 wk => ?_
        have f1 := f.ext z1
        obtain ⟨a, xs, g0, rfl, hx, hw, nd0, in0, _⟩ := f1.at q0 q3 ev wk
        refine ⟨.inl ⟨rfl, xs, SqL.of hx⟩, h ρ σ S1 H1 _ x ⟨A, Λ, Φ, f1⟩ q2 fun u fu S2 H2 z2 ou nd n => ?_⟩
        have f2 := f1.ext z2
        obtain ⟨a', xs', g1, e1, hx', hw', nd1, in1, up⟩ := f2.at q0 q3 ev (wk.mono (z2.same f1.sub))
        cases e1
        have fr : ∀ b ∈ fu, (∀ (j : Nat) o', ρ[j]? = some (.ow o') -> b ∉ Φ j) /\ S2 b = none /\ A b = none := fun b hb => ⟨(f1.fresh (n b hb).1).1, (n b hb).2, (f1.fresh (n b hb).1).2.2⟩
        have fa : ∀ b ∈ fu, b ∉ a :: g1 := fun b hb z => (fr b hb).1 i o q0 (in1 b z)
        obtain ⟨na, ng⟩ := List.nodup_cons.mp nd1
        refine ⟨a, xs', u, rfl, rfl, hx', ?_, ?_⟩
        ·rw [<- hw'.length]; exact Nat.lt_trans hl fv
        ·refine k σ S2 _ (up (l ++ [x]) (xs' ++ [u]) (g1 ++ fu) (fun H' ne => ?_) ?_ fun b hb => ?_) (z1.sh.trans z2.sh)
         ·have := (hw'.mono (H' := H') (Same.refl _) fun b hb => ne b fun z => na (z ▸ hb)).append (.cons (ou.mono (H' := H') (Same.refl _) fun b hb => ne b fun z => fa b hb (z ▸ List.mem_cons_self)) .nil)
          rw [List.append_nil] at this
          exact this
         ·refine List.nodup_cons.mpr ⟨fun z => ?_, List.nodup_append.mpr ⟨ng, nd, fun b hb c hc e => fa c hc (e ▸ List.mem_cons_of_mem _ hb)⟩⟩
          rcases List.mem_append.mp z with z | z
          ·exact na z
          ·exact fa a z List.mem_cons_self
         ·rcases List.mem_append.mp hb with hb | hb
          ·exact .inl hb
          ·exact .inr (fr b hb)
       ·cases y
@[simp] def Iq (i : Nat) (p : XP) (j : Nat) : XS := fun ρ => match ρ[i]? with
 | some (.ow o) => (p ρ).bind fun is => match dn o is with
  | some (.lst l) => (match l.getLast? with
   | some (.sh d) => some (.nx ((ρ.set i (.ow (iK o is (.lst l.dropLast)))).set j (.sh d)))
   | _ => none)
  | _ => none
 | _ => none
@[simp] def Iy (i : Nat) (p : XP) : XS := fun ρ => match ρ[i]? with
 | some (.ow o) => (p ρ).bind fun is => match dn o is with
  | some (.lst l) => (match shs l with | some ds => some (.nx (ρ.set i (.ow (iK o is (.lst (ds.reverse.map .sh)))))) | none => none)
  | _ => none
 | _ => none
def rExtM : V -> List V -> Hp -> VK -> Prop := fun x vs H Q => ∃ l b xs zs, x = .ref l /\ vs = [.ref b] /\ H l = some (.lst xs) /\ Rd H b (.lst zs) /\ xs.length + zs.length <= sizeLine /\ Q .non (upd H l (.lst (xs ++ zs)))
@[simp] def vp (i : Nat) (p : XP) (e : XE) : XS := fun ρ => match ρ[i]? with
 | some (.ow o) => (p ρ).bind fun is => (e ρ).bind fun d => match dn o is, d with
  | some (.lst l), .lst ds => if l.length + ds.length <= LIM then some (.nx (ρ.set i (.ow (iK o is (.lst (l ++ ds.map .sh)))))) else none
  | _, _ => none
 | _ => none
theorem Ee {to te : TE} {i : Nat} {p : XP} {e : XE} (hp : zK K to i p) (h : SE K te e) : SS K (yu (tBM K "list" rExtM to (jx te pO))) (vp i p e) := fun A Λ ρ σ S H E out r y k => by
 unfold vp at y
 cases q0 : ρ[i]? with
 | none => rw [q0] at y; cases y
 | some s =>
  rw [q0] at y
  cases s with
  | un => cases y
  | lo => cases y
  | sh d => cases y
  | ow o =>
   dsimp only at y
   cases q1 : p ρ with
   | none => rw [q1] at y; cases y
   | some is =>
    rw [q1] at y
    dsimp only [Option.bind] at y
    cases q2 : e ρ with
    | none => rw [q2] at y; cases y
    | some dd =>
     rw [q2] at y
     dsimp only at y
     cases q3 : dn o is with
     | none => rw [q3] at y; cases y
     | some qo =>
      rw [q3] at y
      cases qo with
      | sh _ => cases y
      | dic _ => cases y
      | hd _ _ _ => cases y
      | tup _ => cases y
      | lst l =>
       cases dd with
       | lst ds =>
        dsimp only at y
        split at y
        ·rename_i hl
         cases y
         obtain ⟨Φ, f⟩ := r
         refine hp ρ σ S H _ is o _ ⟨A, Λ, Φ, f⟩ q0 q1 q3 fun v w S1 H1 ev z1 wk => ?_
         have f1 := f.ext z1
         obtain ⟨a, xs, g0, rfl, hx, hw, nd0, in0, _⟩ := f1.at q0 q3 ev wk
         refine ⟨.inl ⟨rfl, xs, SqL.of hx⟩, h ρ σ S1 H1 _ _ ⟨A, Λ, Φ, f1⟩ q2 fun u S2 H2 z2 d2 => ?_⟩
         have f2 := f1.ext z2
         obtain ⟨a', xs', g1, e1, hx', hw', nd1, in1, up⟩ := f2.at q0 q3 ev (wk.mono (z2.same f1.sub))
         cases e1
         obtain ⟨b, zs, rfl, hb, dz⟩ := den_lst.mp d2
         obtain ⟨na, ng⟩ := List.nodup_cons.mp nd1
         refine ⟨a, b, xs', zs, rfl, rfl, hx', cA z2.sub hb, ?_, ?_⟩
         ·rw [<- hw'.length, <- dz.length]; exact Nat.le_of_lt (Nat.lt_of_le_of_lt hl fv)
         ·refine k σ S2 _ (up (l ++ ds.map .sh) (xs' ++ zs) g1 (fun H' ne => ?_) nd1 fun b hb => .inl hb) (z1.sh.trans z2.sh)
          have := (hw'.mono (H' := H') (Same.refl _) fun b hb => ne b fun z => na (z ▸ hb)).append (oG (H := H') dz)
          rw [List.append_nil] at this
          exact this
        ·cases y
       | _ => cases y
@[simp] def pG (i : Nat) (p : XP) (ix e : XE) : XS := fun ρ => (e ρ).bind fun d => match ρ[i]? with
 | some (.ow o) => (p ρ).bind fun is => (ix ρ).bind fun k => match dn o is, k with
  | some (.lst l), .int k => (match shs l with | some ds => (ixN ds.length k).map fun j => .nx (ρ.set i (.ow (iK o is (.lst ((ds.set j d).map .sh))))) | none => none)
  | _, _ => none
 | _ => none
theorem ER {to te ti : TE} {i : Nat} {p : XP} {e ix : XE} (h : SE K te e) (hp : zK K to i p) (hi : SPk K ti ix) : SS K (uU te (Gq to ti Dh)) (pG i p ix e) := fun A Λ ρ σ S H E out r y k => by
 unfold pG at y
 cases q : e ρ with
 | none => rw [q] at y; cases y
 | some d =>
  rw [q] at y
  dsimp only [Option.bind] at y
  cases q0 : ρ[i]? with
  | none => rw [q0] at y; cases y
  | some s =>
   rw [q0] at y
   cases s with
   | un => cases y
   | lo => cases y
   | sh d => cases y
   | ow o =>
    dsimp only at y
    cases q1 : p ρ with
    | none => rw [q1] at y; cases y
    | some is =>
     rw [q1] at y
     dsimp only at y
     cases q2 : ix ρ with
     | none => rw [q2] at y; cases y
     | some dk =>
      rw [q2] at y
      dsimp only at y
      cases q3 : dn o is with
      | none => rw [q3] at y; cases y
      | some qo =>
       rw [q3] at y
       cases qo with
       | sh _ => cases y
       | dic _ => cases y
       | hd _ _ _ => cases y
       | tup _ => cases y
       | lst l =>
        cases dk with
        | int kk =>
         dsimp only at y
         cases q4 : shs l with
         | none => rw [q4] at y; cases y
         | some ds =>
          rw [q4] at y
          dsimp only at y
          cases q5 : ixN ds.length kk with
          | none => rw [q5] at y; cases y
          | some j =>
           rw [q5] at y
           cases y
           have ed := wz q4
           subst ed
           obtain ⟨Φ, f⟩ := r
           refine h ρ σ S H _ d ⟨A, Λ, Φ, f⟩ q fun u S0 H0 z0 d0 => ?_
           have f0 := f.ext z0
           refine hp ρ σ S0 H0 _ is o _ ⟨A, Λ, Φ, f0⟩ q0 q1 q3 fun v w S1 H1 ev z1 wk => ?_
           have f1 := f0.ext z1
           refine hi ρ σ S1 H1 _ _ ⟨A, Λ, Φ, f1⟩ q2 fun w2 S2 H2 z2 d2 => ?_
           have f2 := f1.ext z2
           obtain ⟨a', xs', g1, rfl, hx', hw', nd1, in1, up⟩ := f2.at q0 q3 ev (wk.mono (z2.same f1.sub))
           obtain ⟨hd, rfl⟩ := k8 hw'
           refine ⟨a', xs', kk, j, rfl, d2.int, hx', by rw [<- hd.length]; exact q5, ?_⟩
           exact k σ S2 _ (up ((ds.set j d).map .sh) (xs'.set j u) [] (fun H' ne => oG (hd.set j ((d0.mono z1.sh).mono z2.sh))) nd1 fun b hb => by cases hb) ((z0.sh.trans z1.sh).trans z2.sh)
        | _ => cases y
@[simp] def A1 (i : Nat) (e : XE) (f : D -> D -> Option D) : XS := fun ρ => match ρ[i]? with
 | some (.sh x) => (e ρ).bind fun y => (f x y).map fun z => .nx (ρ.set i (.sh z))
 | _ => none
theorem Fx {te : TE} {e : XE} {i : Nat} {ti : TIp} {f : D -> D -> Option D} (h : SPk K te e) (hr : SR2 K ti f) : SS K (Gy i te ti) (A1 i e f) := fun A Λ ρ σ S H E o r y k => by
 unfold A1 at y
 cases q0 : ρ[i]? with
 | none => rw [q0] at y; cases y
 | some s =>
  rw [q0] at y
  cases s with
  | un => cases y
  | lo => cases y
  | ow d => cases y
  | sh x =>
   dsimp only at y
   cases q : e ρ with
   | none => rw [q] at y; cases y
   | some d =>
    rw [q] at y
    dsimp only [Option.bind] at y
    cases q2 : f x d with
    | none => rw [q2] at y; cases y
    | some g =>
     rw [q2] at y
     cases y
     obtain ⟨v, h1, h2⟩ := r.sh i x q0
     refine ⟨v, h1, h ρ σ S H _ d r.toRl q fun w S1 H1 z1 d1 => ?_⟩
     exact hr S1 H1 v w x d g _ z1.sub (.inl (h2.mono z1.sh)) d1 q2 fun u S2 H2 z2 d2 => k _ S2 H2 ((r.ext (z1.trans z2)).set i d2) (z1.sh.trans z2.sh)
@[simp] def IU (e : XE) : XS := fun ρ => (e ρ).map fun _ => .nx ρ
end
section
variable {K : W.Frag} {S S' H H' : Hp}
def Walks (K : W.Frag) (J : It) (S : Hp) (l : List D) : Prop := ∀ S' H', Same S S' -> Same S' H' ->
 (∀ i d, l[i]? = some d -> J.go i H' /\ ∀ x H'', J.yld i H' x H'' -> H'' = H' /\ Den K S' d x) /\ J.stop l.length H'
def SI (K : W.Frag) (wi : TI) (e : XA) : Prop := ∀ ρ σ S H (R : It -> Hp -> Prop) l, Rl K ρ σ S H -> e ρ = some l -> (∀ J S' H', Ext S H S' H' -> Walks K J S' l -> R J H') -> wi σ H R
def mh : D -> Option (List D)
 | .lst l => some l | .tup l => some l | .scr l => some l | .mtp l => some l | _ => none
def Eu (K : W.Frag) (J : It) (S H : Hp) (l : List D) : Prop := ∀ S' H', Ext S H S' H' ->
 (∀ i d, l[i]? = some d -> J.go i H' /\ ∀ x H'', J.yld i H' x H'' -> H'' = H' /\ Den K S' d x) /\ J.stop l.length H'
def SIP (K : W.Frag) (wi : TI) (e : XA) : Prop := ∀ ρ σ S H (R : It -> Hp -> Prop) l, Rl K ρ σ S H -> e ρ = some l -> (∀ J S' H', Ext S H S' H' -> Eu K J S' H' l -> R J H') -> wi σ H R
theorem SI.p {wi : TI} {e : XA} (h : SI K wi e) : SIP K wi e := fun ρ σ S H R l r x k => h ρ σ S H R l r x fun J S' H' z w => k J S' H' z fun S2 H2 z2 => w S2 H2 z2.sh z2.sub
@[simp] def xIt (e : XE) : XA := fun ρ => (e ρ).bind mh
theorem FX {tl : TE} {e : XE} (h : SE K tl e) : SI K (Ep K tl) (xIt e) := fun ρ σ S H R l r x k => by
 unfold xIt at x
 cases q : e ρ with
 | none => rw [q] at x; cases x
 | some d =>
  rw [q] at x
  dsimp only [Option.bind] at x
  refine h ρ σ S H _ d r q fun v S1 H1 z1 d1 => ?_
  cases d with
  | lst l' =>
   cases x
   obtain ⟨p, xs, rfl, h1, h2⟩ := den_lst.mp d1
   refine ⟨p, rfl, .inl ⟨⟨xs, .inl (cA z1.sub h1)⟩, k _ S1 H1 z1 fun S' H' s1 s2 => ⟨fun i d hd => ?_, xs, .inl (cA (s1.trans s2) h1), Nat.le_of_eq h2.length.symm⟩⟩⟩
   obtain ⟨y, e1, e2⟩ := h2.get hd
   refine ⟨⟨xs, y, .inl (cA (s1.trans s2) h1), e1⟩, fun x H'' hy => ⟨hy.1, ?_⟩⟩
   have := hy.2 xs (.inl (cA (s1.trans s2) h1))
   rw [e1] at this
   cases this
   exact e2.mono s1
  | tup l' =>
   cases x
   obtain ⟨p, xs, rfl, h1, h2⟩ := gi d1
   refine ⟨p, rfl, .inr ⟨⟨xs, a7 z1.sub h1⟩, k _ S1 H1 z1 fun S' H' s1 s2 => ⟨fun i d hd => ?_, xs, a7 (s1.trans s2) h1, Nat.le_of_eq h2.length.symm⟩⟩⟩
   obtain ⟨y, e1, e2⟩ := h2.get hd
   refine ⟨⟨xs, y, a7 (s1.trans s2) h1, e1⟩, fun x H'' hy => ⟨hy.1, ?_⟩⟩
   have := hy.2 xs (a7 (s1.trans s2) h1)
   rw [e1] at this
   cases this
   exact e2.mono s1
  | mtp l' =>
   cases x
   obtain ⟨p, xs, rfl, h1, h2⟩ := den_mtp.mp d1
   refine ⟨p, rfl, .inr ⟨⟨xs, a7 z1.sub h1⟩, k _ S1 H1 z1 fun S' H' s1 s2 => ⟨fun i d hd => ?_, xs, a7 (s1.trans s2) h1, Nat.le_of_eq h2.length.symm⟩⟩⟩
   obtain ⟨y, e1, e2⟩ := h2.get hd
   refine ⟨⟨xs, y, a7 (s1.trans s2) h1, e1⟩, fun x H'' hy => ⟨hy.1, ?_⟩⟩
   have := hy.2 xs (a7 (s1.trans s2) h1)
   rw [e1] at this
   cases this
   exact e2.mono s1
  | scr l' =>
   cases x
   obtain ⟨p, xs, rfl, h1, h2⟩ := den_scr.mp d1
   refine ⟨p, rfl, .inl ⟨⟨xs, dm z1.sub h1⟩, k _ S1 H1 z1 fun S' H' s1 s2 => ⟨fun i d hd => ?_, xs, dm (s1.trans s2) h1, Nat.le_of_eq h2.length.symm⟩⟩⟩
   obtain ⟨y, e1, e2⟩ := h2.get hd
   refine ⟨⟨xs, y, dm (s1.trans s2) h1, e1⟩, fun x H'' hy => ⟨hy.1, ?_⟩⟩
   have := hy.2 xs (dm (s1.trans s2) h1)
   rw [e1] at this
   cases this
   exact e2.mono s1
  | _ => cases x
def ifC {α : Type} (p : Prop) (a b : α) : α := @ite α p (Classical.propDecidable p) a b
theorem cZ {α : Type} {p : Prop} {a b : α} (h : p) : ifC p a b = a := by unfold ifC; exact if_pos h
theorem gC {α : Type} {p : Prop} {a x : α} (h : ifC p (some a) none = some x) : p /\ a = x := by
 unfold ifC at h
 by_cases c : p
 ·rw [if_pos c] at h; exact ⟨c, Option.some.inj h⟩
 ·rw [if_neg c] at h; cases h
theorem ES {tl : TE} {e : XE} (h : SPk K tl e) : SIP K (Ep K tl) (xIt e) := fun ρ σ S H R l r x k => by
 unfold xIt at x
 cases q : e ρ with
 | none => rw [q] at x; cases x
 | some d =>
  rw [q] at x
  dsimp only [Option.bind] at x
  refine h ρ σ S H _ d r q fun v S1 H1 z1 d1 => ?_
  rcases d1 with d1 | ⟨l', p, xs, rfl, rfl, hx, dx⟩
  ·cases d with
   | lst l' =>
    cases x
    obtain ⟨p, xs, rfl, h1, h2⟩ := den_lst.mp d1
    refine ⟨p, rfl, .inl ⟨⟨xs, .inl (cA z1.sub h1)⟩, k _ S1 H1 z1 fun S' H' z2 => ⟨fun i d hd => ?_, xs, .inl (cA (z2.sh.trans z2.sub) h1), Nat.le_of_eq h2.length.symm⟩⟩⟩
    obtain ⟨y, e1, e2⟩ := h2.get hd
    refine ⟨⟨xs, y, .inl (cA (z2.sh.trans z2.sub) h1), e1⟩, fun x H'' hy => ⟨hy.1, ?_⟩⟩
    have := hy.2 xs (.inl (cA (z2.sh.trans z2.sub) h1))
    rw [e1] at this
    cases this
    exact e2.mono z2.sh
   | tup l' =>
    cases x
    obtain ⟨p, xs, rfl, h1, h2⟩ := gi d1
    refine ⟨p, rfl, .inr ⟨⟨xs, a7 z1.sub h1⟩, k _ S1 H1 z1 fun S' H' z2 => ⟨fun i d hd => ?_, xs, a7 (z2.sh.trans z2.sub) h1, Nat.le_of_eq h2.length.symm⟩⟩⟩
    obtain ⟨y, e1, e2⟩ := h2.get hd
    refine ⟨⟨xs, y, a7 (z2.sh.trans z2.sub) h1, e1⟩, fun x H'' hy => ⟨hy.1, ?_⟩⟩
    have := hy.2 xs (a7 (z2.sh.trans z2.sub) h1)
    rw [e1] at this
    cases this
    exact e2.mono z2.sh
   | mtp l' =>
    cases x
    obtain ⟨p, xs, rfl, h1, h2⟩ := den_mtp.mp d1
    refine ⟨p, rfl, .inr ⟨⟨xs, a7 z1.sub h1⟩, k _ S1 H1 z1 fun S' H' z2 => ⟨fun i d hd => ?_, xs, a7 (z2.sh.trans z2.sub) h1, Nat.le_of_eq h2.length.symm⟩⟩⟩
    obtain ⟨y, e1, e2⟩ := h2.get hd
    refine ⟨⟨xs, y, a7 (z2.sh.trans z2.sub) h1, e1⟩, fun x H'' hy => ⟨hy.1, ?_⟩⟩
    have := hy.2 xs (a7 (z2.sh.trans z2.sub) h1)
    rw [e1] at this
    cases this
    exact e2.mono z2.sh
   | scr l' =>
    cases x
    obtain ⟨p, xs, rfl, h1, h2⟩ := den_scr.mp d1
    refine ⟨p, rfl, .inl ⟨⟨xs, dm z1.sub h1⟩, k _ S1 H1 z1 fun S' H' z2 => ⟨fun i d hd => ?_, xs, dm (z2.sh.trans z2.sub) h1, Nat.le_of_eq h2.length.symm⟩⟩⟩
    obtain ⟨y, e1, e2⟩ := h2.get hd
    refine ⟨⟨xs, y, dm (z2.sh.trans z2.sub) h1, e1⟩, fun x H'' hy => ⟨hy.1, ?_⟩⟩
    have := hy.2 xs (dm (z2.sh.trans z2.sub) h1)
    rw [e1] at this
    cases this
    exact e2.mono z2.sh
   | _ => cases x
  ·cases x
   refine ⟨p, rfl, .inl ⟨⟨xs, SqL.of hx⟩, k _ S1 H1 z1 fun S' H' z2 => ?_⟩⟩
   have hx2 : H' p = some (.lst xs) := z2.same z1.sub _ _ hx
   refine ⟨fun i d hd => ?_, xs, SqL.of hx2, Nat.le_of_eq dx.length.symm⟩
   obtain ⟨y, e1, e2⟩ := dx.get hd
   refine ⟨⟨xs, y, SqL.of hx2, e1⟩, fun x H'' hy => ⟨hy.1, ?_⟩⟩
   have := hy.2 xs (SqL.of hx2)
   rw [e1] at this
   cases this
   exact e2.mono z2.sh
def fV (lo : Int) : Nat -> List D
 | 0 => []
 | n + 1 => .int lo :: fV (lo + 1) n
theorem mM : ∀ (n : Nat) (lo : Int) (i : Nat) (d : D), (fV lo n)[i]? = some d -> i < n /\ d = .int (lo + i)
 | 0, _, _, _, h => by simp [fV] at h
 | n + 1, lo, 0, d, h => by simp [fV] at h; exact ⟨Nat.succ_pos _, by rw [<- h]; simp⟩
 | n + 1, lo, i + 1, d, h => by
  obtain ⟨h1, h2⟩ := mM n (lo + 1) i d (by simpa [fV] using h)
  exact ⟨Nat.succ_lt_succ h1, by rw [h2]; congr 1; lia⟩
theorem mQ : ∀ (n : Nat) (lo : Int), (fV lo n).length = n
 | 0, _ => rfl
 | n + 1, lo => by rw [fV, List.length_cons, mQ n]
theorem yM (lo : Int) (n : Nat) : Walks K (Itr lo n) S (fV lo n) := fun S' H' _ _ => ⟨fun i d h => by
 obtain ⟨h1, rfl⟩ := mM n lo i d h
 exact ⟨h1, fun x H'' y => ⟨y.1, den_int.mpr y.2⟩⟩, by rw [mQ]; exact Nat.le_refl _⟩
def AM : List D -> Option (List D)
 | [.int j] => ifC (j < 1000000 /\ -1000000 < j) (some (fV 0 j.toNat)) none
 | [.int i, .int j] => ifC (j < 4000000000000000000 /\ -4000000000000000000 < i /\ i < 4000000000000000000 /\ -4000000000000000000 < j) (some (fV i (j - i).toNat)) none
 | _ => none
@[simp] def nz (a : XA) : XA := fun ρ => (a ρ).bind AM
theorem E1 {ta : TE} {a : XE} (h : SPk K ta a) : SI K (CV (jx ta pO)) (nz (ac a ap)) := fun ρ σ S H R l r x k => by
 unfold nz at x
 cases q : ac a ap ρ with
 | none => rw [q] at x; cases x
 | some ds =>
  rw [q] at x
  obtain ⟨d, e, qa, qb, rfl⟩ := lU q
  cases qb
  cases d with
  | int j =>
   have x' : ifC (j < 1000000 /\ -1000000 < j) (some (fV 0 j.toNat)) none = some l := x
   obtain ⟨hj, rfl⟩ := gC x'
   refine h ρ σ S H _ _ r qa fun v S1 H1 z1 d1 => ?_
   refine ⟨j, by rw [d1.int], ?_, ?_, k _ S1 H1 z1 (yM 0 _)⟩
   ·have : (2 : Int) ^ 62 = 4611686018427387904 := by decide
    lia
   ·have : (2 : Int) ^ 62 = 4611686018427387904 := by decide
    lia
  | _ => cases x
def A2 : Nat -> Nat -> List D
 | _, 0 => []
 | k, n + 1 => .int (2 * k) :: A2 (k + 1) n
def Fy : List D -> Option (List D)
 | [.int a, .int j, .int b] => ifC (a = 0 /\ b = 2 /\ 0 <= j /\ j < 1000000) (some (A2 0 ((j + 1) / 2).toNat)) none
 | _ => none
@[simp] def Il (a : XA) : XA := fun ρ => (a ρ).bind Fy
def eZ (g : XG) (m : XS) : List D -> Env -> Option Out
 | [], ρ => some (.nx ρ)
 | d :: l, ρ => (g d ρ).bind fun ρ1 => match m ρ1 with
  | some (.nx ρ2) => eZ g m l ρ2
  | some (.ct ρ2) => eZ g m l ρ2
  | some (.bk ρ2) => some (.nx ρ2)
  | some (.rt d) => some (.rt d)
  | some (.ro d) => some (.ro d)
  | none => none
@[simp] def eG (e : XA) (g : XG) (m : XS) : XS := fun ρ => (e ρ).bind fun l => eZ g m l ρ
theorem vB {l : List D} {i : Nat} {d : D} (h : l[i]? = some d) : l.drop i = d :: l.drop (i + 1) := by
 obtain ⟨h1, rfl⟩ := List.getElem?_eq_some_iff.mp h
 exact List.drop_eq_getElem_cons h1
theorem Ga {wi : TI} {g : TG} {tb : TS} {e : XA} {x : XG} {m : XS} (hi : SI K wi e) (hg : SG K g x) (hb : SS K tb m) : SS K (Fg wi g tb) (eG e x m) := fun A Λ ρ σ S H E o r y k => by
 unfold eG at y
 cases q : e ρ with
 | none => rw [q] at y; cases y
 | some l =>
  rw [q] at y
  dsimp only [Option.bind] at y
  refine hi ρ σ S H _ l r.toRl q fun J S1 H1 z1 wk => ?_
  have r1 := r.ext z1
  refine ⟨fun i n σ' H' => n = l.length - i /\ i <= l.length /\ ∃ ρ' S', RlA K A Λ ρ' σ' S' H' /\ Same S1 S' /\ eZ x m (l.drop i) ρ' = some o, ⟨_, rfl, Nat.zero_le _, ρ, S1, r1, Same.refl _, y⟩, ?_⟩
  rintro i n σ2 H2 ⟨rfl, hil, ρ2, S2, r2, s2, y2⟩
  obtain ⟨w1, w2⟩ := wk S2 H2 s2 r2.sub
  cases qd : l[i]? with
  | none =>
   have : l.length = i := by have := List.getElem?_eq_none_iff.mp qd; lia
   subst this
   rw [List.drop_of_length_le (Nat.le_refl _)] at y2
   cases y2
   exact .inl ⟨w2, k σ2 S2 H2 r2 (z1.sh.trans s2)⟩
  | some d =>
   obtain ⟨g1, g2⟩ := w1 i d qd
   have hlt := (List.getElem?_eq_some_iff.mp qd).1
   rw [vB qd] at y2
   unfold eZ at y2
   cases qx : x d ρ2 with
   | none => rw [qx] at y2; cases y2
   | some ρ3 =>
    rw [qx] at y2
    dsimp only [Option.bind] at y2
    refine .inr ⟨g1, fun σ' H' => ∃ ρ' S', RlA K A Λ ρ' σ' S' H' /\ Same S1 S' /\ eZ x m (l.drop (i + 1)) ρ' = some o, fun σ' H' ⟨ρ', S', a1, a2, a3⟩ => ⟨_, by lia, rfl, hlt, ρ', S', a1, a2, a3⟩, fun xv H3 hy => ?_⟩
    obtain ⟨rfl, dx⟩ := g2 xv H3 hy
    refine hg A Λ ρ2 σ2 S2 H3 xv d _ ρ3 r2 dx qx fun σ3 r3 => ?_
    cases qm : m ρ3 with
    | none => rw [qm] at y2; cases y2
    | some om =>
     rw [qm] at y2
     refine hb A Λ ρ3 σ3 S2 H3 _ om r3 qm ?_
     cases om with
     | nx ρ4 => exact fun σ4 S4 H4 r4 s4 => ⟨ρ4, S4, r4, s2.trans s4, y2⟩
     | ct ρ4 => exact fun σ4 S4 H4 r4 s4 => ⟨ρ4, S4, r4, s2.trans s4, y2⟩
     | bk ρ4 => cases y2; exact fun σ4 S4 H4 r4 s4 => k σ4 S4 H4 r4 ((z1.sh.trans s2).trans s4)
     | rt d4 => cases y2; exact fun v S4 H4 s4 => k v S4 H4 ((z1.sh.trans s2).trans s4)
     | ro d4 => cases y2; exact fun v fp S4 H4 s4 => k v fp S4 H4 ((z1.sh.trans s2).trans s4)
def bZ (c : XT) (m : XS) : Nat -> Env -> Option Out
 | 0, _ => none
 | n + 1, ρ => (c ρ).bind fun b => if b = true then (match m ρ with
  | some (.nx ρ2) => bZ c m n ρ2
  | some (.ct ρ2) => bZ c m n ρ2
  | some (.bk ρ2) => some (.nx ρ2)
  | some (.rt d) => some (.rt d)
  | some (.ro d) => some (.ro d)
  | none => none) else some (.nx ρ)
theorem jU (c : XT) (m : XS) : ∀ (n : Nat) (ρ : Env) (o : Out), bZ c m n ρ = some o -> bZ c m (n + 1) ρ = some o
 | 0, _, _, h => by cases h
 | n + 1, ρ, o, h => by
  unfold bZ at h ⊢
  cases qc : c ρ with
  | none => rw [qc] at h; cases h
  | some b =>
   rw [qc] at h
   dsimp only [Option.bind] at h ⊢
   cases b with
   | false => exact h
   | true =>
    rw [if_pos rfl] at h ⊢
    cases qm : m ρ with
    | none => rw [qm] at h; cases h
    | some om =>
     rw [qm] at h
     cases om with
     | nx ρ2 => exact jU c m n ρ2 o h
     | ct ρ2 => exact jU c m n ρ2 o h
     | bk ρ2 => exact h
     | rt d => exact h
     | ro d => exact h
theorem kW (c : XT) (m : XS) (n : Nat) (ρ : Env) (o : Out) (h : bZ c m n ρ = some o) : ∀ k, bZ c m (n + k) ρ = some o
 | 0 => h
 | k + 1 => jU c m (n + k) ρ o (kW c m n ρ o h k)
def lV (c : XT) (m : XS) : XS := fun ρ => by
 classical
 exact if h : ∃ o n, bZ c m n ρ = some o then some h.choose else none
def dM (c : XT) (m : XS) : XS := fun ρ => (bZ c m 64 ρ).or (lV c m ρ)
theorem pd {c : XT} {m : XS} {ρ : Env} {o o' : Out} {n k : Nat} (h : bZ c m n ρ = some o) (h' : bZ c m k ρ = some o') : o' = o := by
 have h3 := kW c m n ρ o h k
 have h4 := kW c m k ρ _ h' n
 rw [Nat.add_comm k n, h3] at h4
 exact (Option.some.inj h4).symm
theorem sd {c : XT} {m : XS} {n : Nat} {ρ : Env} {o : Out} (h : bZ c m n ρ = some o) : dM c m ρ = some o := by
 unfold dM
 cases q : bZ c m 64 ρ with
 | some o' => exact congrArg some (pd h q)
 | none =>
  have hx : ∃ o n, bZ c m n ρ = some o := ⟨o, n, h⟩
  show lV c m ρ = some o
  unfold lV
  rw [dif_pos hx]
  obtain ⟨n2, h2⟩ := hx.choose_spec
  exact congrArg some (pd h h2)
theorem sD {c : XT} {m : XS} {ρ : Env} {o : Out} (h : dM c m ρ = some o) : ∃ n, bZ c m n ρ = some o := by
 unfold dM at h
 cases q : bZ c m 64 ρ with
 | some o' => rw [q] at h; exact ⟨64, q.trans h⟩
 | none =>
  rw [q] at h
  have h : lV c m ρ = some o := h
  unfold lV at h
  split at h
  ·rename_i hx
   cases h
   exact hx.choose_spec
  ·cases h
theorem w6 {c : XT} {m : XS} {ρ : Env} (h : c ρ = some false) : dM c m ρ = some (.nx ρ) := sd (n := 1) (by unfold bZ; rw [h]; rfl)
theorem vj {c : XT} {m : XS} {ρ ρ2 : Env} {o : Out} (h : c ρ = some true) (hm : m ρ = some (.nx ρ2)) (k : dM c m ρ2 = some o) : dM c m ρ = some o := by
 obtain ⟨n, hn⟩ := sD k
 exact sd (n := n + 1) (by unfold bZ; rw [h, hm]; exact hn)
theorem B8 {tc : TT} {tb : TS} {c : XT} {m : XS} (hc : ST K tc c) (hb : SS K tb m) : SS K (Bu tc tb) (dM c m) := fun A Λ ρ σ S H E o r y k => by
 obtain ⟨n, hn⟩ := sD y
 refine ⟨fun n σ' H' => ∃ ρ' S', RlA K A Λ ρ' σ' S' H' /\ Same S S' /\ bZ c m n ρ' = some o, ⟨n, ρ, S, r, Same.refl _, hn⟩, ?_⟩
 rintro n σ1 H1 ⟨ρ1, S1, r1, s1, h1⟩
 cases n with
 | zero => cases h1
 | succ n =>
  unfold bZ at h1
  cases qc : c ρ1 with
  | none => rw [qc] at h1; cases h1
  | some b =>
   rw [qc] at h1
   dsimp only [Option.bind] at h1
   refine hc ρ1 σ1 S1 H1 _ b r1.toRl qc fun S2 H2 z2 => ?_
   have r2 := r1.ext z2
   cases b with
   | false =>
    rw [if_neg (by decide)] at h1
    cases h1
    exact wX (k σ1 S2 H2 r2 (s1.trans z2.sh))
   | true =>
    rw [if_pos rfl] at h1
    refine we ⟨fun σ' H' => ∃ ρ' S', RlA K A Λ ρ' σ' S' H' /\ Same S S' /\ bZ c m n ρ' = some o, fun σ' H' a => ⟨n, Nat.lt_succ_self _, a⟩, ?_⟩
    cases qm : m ρ1 with
    | none => rw [qm] at h1; cases h1
    | some om =>
     rw [qm] at h1
     refine hb A Λ ρ1 σ1 S2 H2 _ om r2 qm ?_
     cases om with
     | nx ρ4 => exact fun σ4 S4 H4 r4 s4 => ⟨ρ4, S4, r4, (s1.trans z2.sh).trans s4, h1⟩
     | ct ρ4 => exact fun σ4 S4 H4 r4 s4 => ⟨ρ4, S4, r4, (s1.trans z2.sh).trans s4, h1⟩
     | bk ρ4 => cases h1; exact fun σ4 S4 H4 r4 s4 => k σ4 S4 H4 r4 ((s1.trans z2.sh).trans s4)
     | rt d4 => cases h1; exact fun v S4 H4 s4 => k v S4 H4 ((s1.trans z2.sh).trans s4)
     | ro d4 => cases h1; exact fun v fp S4 H4 s4 => k v fp S4 H4 ((s1.trans z2.sh).trans s4)
@[simp] def uh (js : List (Option Nat)) (ρ : Env) : Env := js.map fun o => match o with | none => .un | some j => match ρ[j]? with | some (.sh d) => .sh d | _ => .un
def cR (g : XG) (c : XT) (e : XE) (ρ0 : Env) : List D -> Option (List D)
 | [] => some []
 | d :: l => (g d ρ0).bind fun ρ1 => (c ρ1).bind fun b => if b = true then (e ρ1).bind fun y => (cR g c e ρ0 l).map fun r => y :: r else cR g c e ρ0 l
@[simp] def cE (js : List (Option Nat)) (w : XA) (g : XG) (c : XT) (e : XE) : XA := fun ρ => (w ρ).bind fun l => if l.length <= LIM then cR g c e (uh js ρ) l else none
@[simp] def ez : XT := fun _ => some true
theorem Gb : ST K C6 ez := fun ρ σ S H Q b r x k => by cases x; exact k S H (Ext.refl r.sub)
theorem lF {js : List (Option Nat)} {ρ : Env} {i : Nat} {s : Sl} (h : (uh js ρ)[i]? = some s) : s = .un \/ ∃ d j, s = .sh d /\ js[i]? = some (some j) /\ ρ[j]? = some (.sh d) := by
 unfold uh at h
 rw [List.getElem?_map] at h
 cases q : js[i]? with
 | none => rw [q] at h; cases h
 | some o =>
  rw [q] at h
  cases o with
  | none => cases h; exact .inl rfl
  | some j =>
   simp only [Option.map_some] at h
   cases q2 : ρ[j]? with
   | none => rw [q2] at h; cases h; exact .inl rfl
   | some s2 =>
    rw [q2] at h
    cases s2 with
    | un => cases h; exact .inl rfl
    | lo => cases h; exact .inl rfl
    | ow l => cases h; exact .inl rfl
    | sh d => cases h; exact .inr ⟨d, j, rfl, rfl, q2⟩
def kA (S H : Hp) : Hp := fun b => match S b with | none => H b | some _ => none
theorem sI {S H : Hp} : Same (kA S H) H := fun b o h => by
 unfold kA at h
 cases q : S b with
 | none => rw [q] at h; exact h
 | some _ => rw [q] at h; cases h
theorem sf {S H : Hp} (b : Addr) : S b = none \/ kA S H b = none := by
 unfold kA
 cases q : S b with
 | none => exact .inl rfl
 | some _ => exact .inr rfl
theorem vx {S H : Hp} {b : Addr} {o : HO} (h : H b = some o) (n : S b = none) : kA S H b = some o := by
 unfold kA
 rw [n]
 exact h
theorem DZ {ρ : Env} {σ : St} (r : Rl K ρ σ S H) (js : List (Option Nat)) : RlA K (kA S H) (fun _ => none) (uh js ρ) (inn js σ) S H := by
 refine ⟨fun _ => [], ?_⟩
 exact {
  len := by unfold uh inn; rw [List.length_map, List.length_map]
  sub := r.sub
  sh := fun i d h => by
   rcases lF h with e | ⟨d', j, e, h1, h2⟩
   ·cases e
   ·cases e
    obtain ⟨v, k1, k2⟩ := r.sh j d h2
    refine ⟨v, ?_, k2⟩
    unfold inn
    rw [List.getElem?_map, h1]
    show some ((σ[j]?).join) = some (some v)
    rw [k1]
    rfl
  ow := fun i o h => by
   rcases lF h with e | ⟨d', j, e, h1, h2⟩
   ·cases e
   ·cases e
  dj := fun i j o o' _ h => by
   rcases lF h with e | ⟨d', j, e, h1, h2⟩
   ·cases e
   ·cases e
  lo := fun i h => by
   rcases lF h with e | ⟨d', j, e, h1, h2⟩
   ·cases e
   ·cases e
  asub := sI
  adis := sf }
theorem EK {js : List (Option Nat)} {wi : TI} {g : TG} {tt : TIf} {te : TE} {w : XA} {x : XG} {c : XT} {e : XE} (hi : SIP K wi w) (hg : SG K g x) (hc : ST K tt c) (he : SE K te e) : SF K (Bc js wi g tt te) (cE js w x c e) := fun ρ σ S H Q l r y k => by
 unfold cE at y
 cases q : w ρ with
 | none => rw [q] at y; cases y
 | some ds =>
  rw [q] at y
  dsimp only [Option.bind] at y
  split at y
  ·rename_i hlim
   refine hi ρ σ S H _ ds r q fun J S1 H1 z1 wk D hD => ?_
   have r1 := r.ext z1
   have hD0 : H D = none := (z1.same r.sub).free hD
   -- the word: what is told so far, what is still to be told
   refine ⟨fun i n H' => n = ds.length - i /\ i <= ds.length /\ ∃ S' done ys fR, Ext S1 H1 S' H' /\ Same S1 S' /\ H' D = some (.lst ys) /\ S' D = none /\ Dens K S' done ys /\ done.length <= i /\ cR x c e (uh js ρ) (ds.drop i) = some fR /\ l = done ++ fR,
    ⟨_, rfl, Nat.zero_le _, S1, [], [], l, Ext.own z1.sub hD, Same.refl _, aC, z1.sub.free hD, .nil, Nat.zero_le _, y, rfl⟩, ?_⟩
   rintro i n H2 ⟨rfl, hil, S2, done, ys, fR, z2, s2, hy, hSD, dy, hdl, y2, rfl⟩
   obtain ⟨w1, w2⟩ := wk S2 H2 z2
   cases qd : ds[i]? with
   | none =>
    have : ds.length = i := by have := List.getElem?_eq_none_iff.mp qd; lia
    subst this
    rw [List.drop_of_length_le (Nat.le_refl _)] at y2
    cases y2
    rw [List.append_nil] at k
    exact .inl ⟨w2, k D ys S2 H2 (z1.trans z2) hD0 hSD hy dy⟩
   | some d =>
    obtain ⟨g1, g2⟩ := w1 i d qd
    have hlt := (List.getElem?_eq_some_iff.mp qd).1
    rw [vB qd] at y2
    unfold cR at y2
    cases qx : x d (uh js ρ) with
    | none => rw [qx] at y2; cases y2
    | some ρ3 =>
     rw [qx] at y2
     dsimp only [Option.bind] at y2
     refine .inr ⟨g1, fun xv H3 hyl => ?_⟩
     obtain ⟨rfl, dx⟩ := g2 xv H3 hyl
     have ri := DZ (r1.ext z2) js
     refine hg _ _ _ _ S2 H3 xv d _ ρ3 ri dx qx fun σ3 r3 => ?_
     cases qc : c ρ3 with
     | none => rw [qc] at y2; cases y2
     | some b =>
      rw [qc] at y2
      dsimp only at y2
      refine hc ρ3 σ3 S2 H3 _ b r3.toRl qc fun S4 H4 z4 => ?_
      obtain ⟨al1, al2⟩ := z4.al D _ hy hSD
      cases b with
      | false =>
       rw [if_neg (by decide)] at y2
       exact wX ⟨_, by lia, rfl, hlt, S4, done, ys, fR, z2.trans z4, s2.trans z4.sh, al1, al2, dy.mono z4.sh, by lia, y2, rfl⟩
      | true =>
       rw [if_pos rfl] at y2
       cases qe : e ρ3 with
       | none => rw [qe] at y2; cases y2
       | some dv =>
        rw [qe] at y2
        dsimp only at y2
        cases qr : cR x c e (uh js ρ) (ds.drop (i + 1)) with
        | none => rw [qr] at y2; cases y2
        | some rest2 =>
         rw [qr] at y2
         cases y2
         refine we (he ρ3 σ3 S4 H4 _ dv (r3.toRl.ext z4) qe fun v S5 H5 z5 d5 => ?_)
         obtain ⟨b1, b2⟩ := z5.al D _ al1 al2
         refine ⟨ys, b1, ?_, _, by lia, rfl, hlt, S5, done ++ [dv], ys ++ [v], rest2, ?_, (s2.trans z4.sh).trans z5.sh, aC, b2, ((dy.mono z4.sh).mono z5.sh).append (.cons d5 .nil), by rw [List.length_append, List.length_singleton]; lia, qr, by rw [List.append_assoc]; rfl⟩
         ·rw [<- dy.length]
          exact Nat.lt_of_lt_of_le (Nat.lt_of_le_of_lt hdl hlt) (Nat.le_trans hlim (Nat.le_of_lt fv))
         ·have z6 := (z2.trans z4).trans z5
          exact ⟨z6.sh, fun b u hb => by rw [aB fun z => by subst z; rw [b2] at hb; cases hb]; exact z6.sub b u hb, fun b o hb hn => by
           obtain ⟨c1, c2⟩ := z6.al b o hb hn
           exact ⟨by rw [aB fun z => by subst z; rw [hD] at hb; cases hb]; exact c1, c2⟩⟩
  ·cases y
@[simp] def Iz (i : Nat) (g : XG) (m : XS) : XS := fun ρ => match ρ[i]? with
 | some (.ow (.lst os)) => (match shs os with
  | some l => (match eZ g m l (ρ.set i .lo) with
   | some (.nx ρ') => (match ρ'[i]? with | some .lo => some (.nx (ρ'.set i (.ow (.lst os)))) | _ => none)
   | some (.rt d) => some (.rt d)
   | _ => none)
  | none => none)
 | _ => none
def fnO (n : Nat) (x : XS) (ds : List D) : Option O := match x (ds.map .sh ++ List.replicate (n - ds.length) .un) with
 | some (.rt d) => some (.sh d)
 | some (.ro o) => some o
 | some (.nx _) => some (.sh .non)
 | _ => none
theorem zP {N : List Str} {ds : List D} {vs : List V} (s : Same S H) (h : Dens K S ds vs) : RlA K (kA S H) (fun _ => none) (ds.map .sh ++ List.replicate (N.length - ds.length) .un) (L2.a6 N vs) S H := by
 have hl := h.length
 have key : ∀ (i : Nat) t, (ds.map Sl.sh ++ List.replicate (N.length - ds.length) .un)[i]? = some t -> t = .un \/ ∃ d v, t = .sh d /\ (L2.a6 N vs)[i]? = some (some v) /\ Den K S d v := fun i t ht => by
  by_cases hi : i < ds.length
  ·rw [List.getElem?_append_left (by rw [List.length_map]; exact hi), List.getElem?_map] at ht
   cases q : ds[i]? with
   | none => rw [q] at ht; cases ht
   | some d =>
    rw [q] at ht
    cases ht
    obtain ⟨v, e1, e2⟩ := h.get q
    refine .inr ⟨d, v, rfl, ?_, e2⟩
    unfold L2.a6
    rw [List.getElem?_append_left (by rw [List.length_map]; lia), List.getElem?_map, e1]
    rfl
  ·rw [List.getElem?_append_right (by rw [List.length_map]; lia), List.getElem?_replicate] at ht
   split at ht
   ·cases ht; exact .inl rfl
   ·cases ht
 refine ⟨fun _ => [], ?_⟩
 exact {
  len := by unfold L2.a6; rw [List.length_append, List.length_append, List.length_map, List.length_map, List.length_replicate, List.length_replicate, hl]
  sub := s
  sh := fun i d hi => by
   rcases key i _ hi with e | ⟨d', v, e, h1, h2⟩
   ·cases e
   ·cases e; exact ⟨v, h1, h2⟩
  ow := fun i o hi => by
   rcases key i _ hi with e | ⟨d', v, e, h1, h2⟩
   ·cases e
   ·cases e
  dj := fun i j o o' _ hi => by
   rcases key i _ hi with e | ⟨d', v, e, h1, h2⟩
   ·cases e
   ·cases e
  lo := fun i hi => by
   rcases key i _ hi with e | ⟨d', v, e, h1, h2⟩
   ·cases e
   ·cases e
  asub := sI
  adis := sf }
theorem xP {t : TS} {x : XS} {N : List Str} {n k : Nat} {vs : List V} {H : Hp} {Q : VK} {E : XK} (hs : SS K t x) (hN : N.length = n) (h : dg K k (fnO n x) vs H Q E) :
  t { nx := fun _ H' => Q .non H', rt := Q } (L2.a6 N vs) H := by
 obtain ⟨_, S, ds, d, s, dd, y, q⟩ := h
 subst hN
 unfold fnO at y
 have r := zP (N := N) s dd
 have ex : ∀ {S' H' : Hp}, Same S S' -> Same S' H' -> Same (kA S H) H' -> (∀ b, S' b = none \/ kA S H b = none) -> Ext S H S' H' := fun s1 s2 s3 s4 => ⟨s1, s2, fun b o hb hn => by
  have ha := vx hb hn
  refine ⟨s3 b o ha, ?_⟩
  rcases s4 b with z | z
  ·exact z
  ·rw [ha] at z; cases z⟩
 cases qx : x (ds.map .sh ++ List.replicate (N.length - ds.length) .un) with
 | none => rw [qx] at y; cases y
 | some o =>
  rw [qx] at y
  refine hs _ _ _ _ S H _ o r qx ?_
  cases o with
  | rt d' =>
   cases y
   exact fun v S' H' s1 s2 s3 s4 dv => q v [] S' H' (ex s1 s2 s3 s4) (own_sh.mpr ⟨rfl, dv⟩) .nil fun b hb => by cases hb
  | ro o' =>
   cases y
   refine fun v fp S' H' s1 s2 s3 s4 ow nd n => q v fp S' H' (ex s1 s2 s3 s4) ow nd fun b hb => ⟨?_, (n b hb).1⟩
   cases qb : H b with
   | none => rfl
   | some u =>
    have := vx qb (s1.free (n b hb).1)
    rw [(n b hb).2] at this; cases this
  | nx ρ' =>
   cases y
   exact fun σ' S' H' r' s1 => q .non [] S' H' (ex s1 r'.sub r'.asub r'.adis) (own_sh.mpr ⟨rfl, den_non.mpr rfl⟩) .nil fun b hb => by cases hb
  | bk ρ' => cases y
  | ct ρ' => cases y
end
def dI (f : Int -> Int -> Option D) : D -> D -> Option D
 | .int i, .int j => f i j
 | _, _ => none
def tO : D -> D -> Option D := dI fun i j => ifC ((-18446744073709551616 < i /\ i < 18446744073709551616) \/ (-18446744073709551616 < j /\ j < 18446744073709551616)) (some (.int (i * j))) none
def mT : D -> D -> Option D := dI fun i j => ifC (0 < j /\ j < 1073741824) (some (.int (i / j))) none
def jc : D -> D -> Option D := dI fun i j => ifC (0 < j) (some (.int (i % j))) none
def u6 : D -> D -> Option D := dI fun i j => ifC (0 <= j /\ j <= 1000000 /\ i.natAbs < 18446744073709551616) (some (.int (i ^ j.toNat))) none
def k9 : D -> D -> Option D := dI fun i j => some (.int (i - j))
def dLt : D -> D -> Option D := dI fun i j => some (.bl (decide (i < j)))
def dLe : D -> D -> Option D := dI fun i j => some (.bl (decide (i <= j)))
def dGt : D -> D -> Option D := dI fun i j => some (.bl (decide (j < i)))
def dGe : D -> D -> Option D := dI fun i j => some (.bl (decide (j <= i)))
def fM : D -> Option D
 | .int i => some (.int (-i))
 | _ => none
section
variable {K : W.Frag}
theorem r_i {C : Int -> Int -> Prop} {g : Int -> Int -> V} {f : Int -> Int -> Option D} (h : ∀ i j d, f i j = some d -> C i j /\ m5 d = some (g i j)) : SR2 K (rI C g) (dI f) := fun S H x y d e z Q s dx dy q k => by
 cases d <;> cases e <;> try cases q
 rename_i i j
 obtain ⟨h1, h2⟩ := h i j z q
 exact ⟨i, j, dx.int, dy.int, h1, k _ S H (Ext.refl s) (lW h2)⟩
theorem zJ {g : Int -> Int -> V} {f : Int -> Int -> Option D} (h : ∀ i j d, f i j = some d -> m5 d = some (g i j)) : SR2 K (rI0 g) (dI f) := fun S H x y d e z Q s dx dy q k => by
 cases d <;> cases e <;> try cases q
 rename_i i j
 exact ⟨i, j, dx.int, dy.int, k _ S H (Ext.refl s) (lW (h i j z q))⟩
theorem Fl : SR2 K (rI CMul fun i j => .int (i * j)) tO := r_i fun i j d h => by
 obtain ⟨c, rfl⟩ := gC h
 refine ⟨?_, rfl⟩
 unfold CMul
 have : (2 : Int) ^ 64 = 18446744073709551616 := by decide
 rw [this]
 exact c
theorem FP : SR2 K (rI FE fun i j => .int (i / j)) mT := r_i fun i j d h => by
 obtain ⟨c, rfl⟩ := gC h
 exact ⟨c, rfl⟩
theorem Fs : SR2 K (rI (fun _ j => 0 < j) fun i j => .int (i % j)) jc := r_i fun i j d h => by
 obtain ⟨c, rfl⟩ := gC h
 exact ⟨c, rfl⟩
theorem F2 : SR2 K (rI Dt fun i j => .int (i ^ j.toNat)) u6 := r_i fun i j d h => by
 obtain ⟨c, rfl⟩ := gC h
 refine ⟨?_, rfl⟩
 unfold Dt
 have : (2 : Nat) ^ 64 = 18446744073709551616 := by decide
 rw [this]
 exact c
theorem F9 : SR2 K (rI0 fun i j => .int (i - j)) k9 := zJ fun i j d h => by cases h; rfl
theorem G3 : SR2 K (rI0 fun i j => .bl (decide (i < j))) dLt := zJ fun i j d h => by cases h; rfl
theorem Hz : SR2 K (rI0 fun i j => .bl (decide (i <= j))) dLe := zJ fun i j d h => by cases h; rfl
theorem G8 : SR2 K (rI0 fun i j => .bl (decide (j < i))) dGt := zJ fun i j d h => by cases h; rfl
theorem GV : SR2 K (rI0 fun i j => .bl (decide (j <= i))) dGe := zJ fun i j d h => by cases h; rfl
theorem Fn : SR1 K (rU fun i => .int (-i)) fM := fun S H x d g Q s dx q k => by
 cases d <;> try cases q
 rename_i i
 exact ⟨i, dx.int, k _ S H (Ext.refl s) (den_int.mpr rfl)⟩
end
def Dc : R2 := fun x y H Q => ∃ l b xs zs, x = .ref l /\ y = .ref b /\ Rd H l (.lst xs) /\ Rd H b (.lst zs) /\ xs.length + zs.length <= sizeLine /\ ∀ p, H p = none -> Q (.ref p) (upd H p (.lst (xs ++ zs)))
def C5 (K : W.Frag) : R2 := fun x y H Q => ∃ a b xs ys, x = .ref a /\ y = .ref b /\ SqT K H a xs /\ SqT K H b ys /\ xs.length + ys.length <= sizeLine /\
 (ys = [] -> Q (.ref a) H) /\ (xs = [] -> Q (.ref b) H) /\ ∀ p, H p = none -> Q (.ref p) (upd H p (.tup (xs ++ ys)))
def Db : R2 := fun x y H Q => ∃ i j, x = .str i /\ y = .str j /\ i.length + j.length <= sizeLine /\ Q (.str (i ++ j)) H
def CY (K : W.Frag) : R2 := fun x y H Q => (∃ i j, x = .int i /\ y = .int j /\ Q (.int (i + j)) H) \/ Dc x y H Q \/ C5 K x y H Q \/ Db x y H Q
def cO : D -> D -> Option D
 | .int i, .int j => some (.int (i + j))
 | .lst a, .lst b => if a.length + b.length <= LIM then some (.lst (a ++ b)) else none
 | .tup a, .tup b => if a.length + b.length <= LIM then some (.tup (a ++ b)) else none
 | .str a, .str b => if a.length + b.length <= LIM then some (.str (a ++ b)) else none
 | _, _ => none
section
variable {K : W.Frag}
theorem Dens.nil_iff {S : Hp} {ds : List D} {xs : List V} (h : Dens K S ds xs) : xs = [] ↔ ds = [] := by
 have := h.length
 cases ds <;> cases xs <;> simp_all
theorem oM {n : Nat} (h : n <= LIM) : n <= sizeLine := Nat.le_of_lt (Nat.lt_of_le_of_lt h fv)
theorem Fz : SR2 K (CY K) cO := fun S H x y d e z Q s dx dy q k => by
 cases d <;> cases e <;> try (cases q; done)
 ·rename_i i j
  cases q
  exact .inl ⟨i, j, dx.int, dy.int, k _ S H (Ext.refl s) (den_int.mpr rfl)⟩
 ·rename_i i j
  have q' : (if i.length + j.length <= LIM then some (D.str (i ++ j)) else none) = some z := q
  split at q'
  ·rename_i hl
   cases q'
   exact .inr (.inr (.inr ⟨i, j, dx.str, dy.str, oM hl, k _ S H (Ext.refl s) (den_str.mpr rfl)⟩))
  ·cases q'
 ·rename_i a b
  have q' : (if a.length + b.length <= LIM then some (D.lst (a ++ b)) else none) = some z := q
  split at q'
  ·rename_i hl
   cases q'
   obtain ⟨p, xs, rfl, h1, h2⟩ := dx.lst s
   obtain ⟨p', ys, rfl, h3, h4⟩ := dy.lst s
   refine .inr (.inl ⟨p, p', xs, ys, rfl, rfl, h1, h3, by rw [<- h2.length, <- h4.length]; exact oM hl, fun q hq => ?_⟩)
   have z := Ext.new (o := .lst (xs ++ ys)) s hq
   exact k _ _ _ z (den_lst.mpr ⟨q, _, rfl, .inl aC, (h2.append h4).mono z.sh⟩)
  ·cases q'
 ·rename_i a b
  have q' : (if a.length + b.length <= LIM then some (D.tup (a ++ b)) else none) = some z := q
  split at q'
  ·rename_i hl
   cases q'
   obtain ⟨p, xs, e1, h1, h2⟩ := dx.tup s
   obtain ⟨p', ys, e2, h3, h4⟩ := dy.tup s
   have dx' : Den K S (.tup a) x := dx.elim id fun ⟨_, _, _, e, _⟩ => by cases e
   have dy' : Den K S (.tup b) y := dy.elim id fun ⟨_, _, _, e, _⟩ => by cases e
   subst e1 e2
   refine .inr (.inr (.inl ⟨p, p', xs, ys, rfl, rfl, h1, h3, by rw [<- h2.length, <- h4.length]; exact oM hl, fun e => ?_, fun e => ?_, fun q hq => ?_⟩))
   ·have := h4.nil_iff.mp e
    subst this
    exact k _ S H (Ext.refl s) (by rw [List.append_nil]; exact dx')
   ·have := h2.nil_iff.mp e
    subst this
    exact k _ S H (Ext.refl s) (by rw [List.nil_append]; exact dy')
   ·have z := Ext.new (o := .tup (xs ++ ys)) s hq
    exact k _ _ _ z (den_tup.mpr ⟨q, _, rfl, TpA.of aC, (h2.append h4).mono z.sh⟩)
  ·cases q'
end
mutual
def eqD : D -> D -> Bool
 | .non, .non => true
 | .bl a, .bl b => a == b
 | .bl a, .int j => (if a then 1 else 0) == j
 | .int i, .bl b => i == (if b then 1 else 0)
 | .int i, .int j => i == j
 | .str x, .str y => x == y
 | .lst a, .lst b => eqDs a b
 | .tup a, .tup b => eqDs a b
 | _, _ => false
def eqDs : List D -> List D -> Bool
 | [], [] => true
 | x :: xs, y :: ys => eqD x y && eqDs xs ys
 | _, _ => false
end
mutual
def okD : Nat -> D -> Bool
 | _, .non => true
 | _, .bl _ => true
 | _, .int _ => true
 | _, .str x => PyData.strOk x
 | n + 1, .lst l => okDs n l
 | n + 1, .tup l => okDs n l
 | _, _ => false
def okDs : Nat -> List D -> Bool
 | _, [] => true
 | n, d :: l => okD n d && okDs n l
end
def Ej (K : W.Frag) (neg : Bool) : R2 := fun x y H Q => ∃ S d e, Same S H /\ DenP K S H d x /\ DenP K S H e y /\ okD 50 d = true /\ okD 50 e = true /\ Q (.bl (if neg then !eqD d e else eqD d e)) H
def dEq (neg : Bool) (d e : D) : Option D := if okD 50 d = true /\ okD 50 e = true then some (.bl (if neg then !eqD d e else eqD d e)) else none
section
variable {K : W.Frag}
theorem GU (neg : Bool) : SR2 K (Ej K neg) (dEq neg) := fun S H x y d e z Q s dx dy q k => by
 unfold dEq at q
 split at q
 ·rename_i c
  cases q
  exact ⟨S, d, e, s, dx, dy, c.1, c.2, k _ S H (Ext.refl s) (den_bl.mpr rfl)⟩
 ·cases q
end
def kl : D -> Bool
 | .non => true | _ => false
def Br (neg : Bool) (d e : D) : Option D := match e with | .non => some (.bl (if neg then !kl d else kl d)) | _ => none
section
variable {K : W.Frag}
theorem B4 {S H : Hp} {d : D} {v : V} (h : DenP K S H d v) : decide (v = .non) = kl d := by
 cases d with
 | non => rw [h.non]; rfl
 | bl b => rw [h.bl]; rfl
 | int b => rw [h.int]; rfl
 | str b => rw [h.str]; rfl
 | ty b => rw [h.ty]; rfl
 | lst l =>
  rcases h with h | ⟨_, p, _, _, e, _⟩
  ·obtain ⟨p, _, e, _⟩ := den_lst.mp h
   rw [e]; rfl
  ·rw [e]; rfl
 | tup l =>
  rcases h with h | ⟨_, p, _, _, e, _⟩
  ·obtain ⟨p, _, e, _⟩ := gi h
   rw [e]; rfl
  ·rw [e]; rfl
 | scr l =>
  rcases h with h | ⟨_, p, _, _, e, _⟩
  ·obtain ⟨p, _, e, _⟩ := den_scr.mp h
   rw [e]; rfl
  ·rw [e]; rfl
 | ins C ns l =>
  rcases h with h | ⟨_, p, _, _, e, _⟩
  ·obtain ⟨p, _, _, _, e, _⟩ := den_ins.mp h
   rw [e]; rfl
  ·rw [e]; rfl
 | dic ks =>
  rcases h with h | ⟨_, p, _, _, e, _⟩
  ·obtain ⟨p, e, _⟩ := den_dic.mp h
   rw [e]; rfl
  ·rw [e]; rfl
 | mtp l =>
  rcases h with h | ⟨_, p, _, _, e, _⟩
  ·obtain ⟨p, _, e, _⟩ := den_mtp.mp h
   rw [e]; rfl
  ·rw [e]; rfl
 | dif ks =>
  rcases h with h | ⟨_, p, _, _, e, _⟩
  ·obtain ⟨p, _, e, _⟩ := den_dif.mp h
   rw [e]; rfl
  ·rw [e]; rfl
theorem Gi : SR2 K HN (Br false) := fun S H x y d e z Q s dx dy q k => by
 cases e <;> try (cases q; done)
 cases q
 exact ⟨dy.non, by rw [B4 dx]; exact k _ S H (Ext.refl s) (den_bl.mpr rfl)⟩
end
def dIx : D -> D -> Option D
 | .lst l, .int i => atI l i
 | .tup l, .int i => atI l i
 | .scr l, .int i => atI l i
 | .str x, .int i => if x.length <= LIM then (atI x.cps.toList i).map fun c => .str ⟨#[c]⟩ else none
 | _, _ => none
section
variable {K : W.Frag}
theorem qg {S : Hp} {ds : List D} {xs : List V} {i : Int} {d : D} (h : Dens K S ds xs) (e : atI ds i = some d) : ∃ v, atI xs i = some v /\ Den K S d v := by
 unfold atI at e ⊢
 rw [<- h.length]
 cases q : ixN ds.length i with
 | none => rw [q] at e; cases e
 | some j =>
  rw [q] at e
  exact h.get e
theorem Hg : SR2 K (rIx K) dIx := fun S H x y d e z Q s dx dy q k => by
 cases d <;> cases e <;> try (cases q; done)
 ·rename_i x' i
  have q' : (if x'.length <= LIM then (atI x'.cps.toList i).map fun c => D.str ⟨#[c]⟩ else none) = some z := q
  split at q'
  ·rename_i hl
   cases qc : atI x'.cps.toList i with
   | none => rw [qc] at q'; cases q'
   | some c =>
    rw [qc] at q'
    cases q'
    exact .inr (.inr ⟨x', i, c, dx.str, dy.int, oM hl, qc, k _ S H (Ext.refl s) (den_str.mpr rfl)⟩)
  ·cases q'
 ·rename_i l i
  obtain ⟨p, xs, rfl, h1, h2⟩ := dx.lst s
  obtain ⟨v, h3, h4⟩ := qg h2 q
  exact .inl ⟨p, xs, i, v, rfl, dy.int, .inl h1, h3, k v S H (Ext.refl s) h4⟩
 ·rename_i l i
  obtain ⟨p, xs, rfl, h1, h2⟩ := dx.tup s
  obtain ⟨v, h3, h4⟩ := qg h2 q
  exact .inr (.inl ⟨p, xs, i, v, rfl, dy.int, h1, h3, k v S H (Ext.refl s) h4⟩)
 ·rename_i l i
  obtain ⟨p, xs, rfl, h1, h2⟩ := dx.scr s
  obtain ⟨v, h3, h4⟩ := qg h2 q
  exact .inl ⟨p, xs, i, v, rfl, dy.int, h1, h3, k v S H (Ext.refl s) h4⟩
end
def gW {α : Type} (xs : List α) (lo hi : Option Int) : List α := (xs.drop (HT.sIx xs.length 0 lo)).take (HT.sIx xs.length xs.length hi - HT.sIx xs.length 0 lo)
def Gm (K : W.Frag) : V -> Option Int -> Option Int -> Hp -> VK -> Prop := fun x lo hi H Q => Fp K x lo hi H Q \/
 ∃ a xs, x = .ref a /\ SqT K H a xs /\ (kU xs lo hi = xs -> Q (.ref a) H) /\ ∀ p, H p = none -> Q (.ref p) (upd H p (.tup (kU xs lo hi)))
abbrev XO := Env -> Option (Option Int)
def SO (K : W.Frag) (t : TO) (o : XO) : Prop := ∀ ρ σ S H (Q : Option Int -> Hp -> Prop) i, Rl K ρ σ S H -> o ρ = some i -> (∀ S' H', Ext S H S' H' -> Q i H') -> t σ H Q
@[simp] def tM : XO := fun _ => some none
@[simp] def tj (a : XE) : XO := fun ρ => (a ρ).bind fun d => match d with | .int i => some (some i) | _ => none
section
variable {K : W.Frag}
theorem AV : SO K xX tM := fun ρ σ S H Q i r x k => by cases x; exact k S H (Ext.refl r.sub)
theorem DI {ta : TE} {a : XE} (h : SPk K ta a) : SO K (C9 ta) (tj a) := fun ρ σ S H Q i r x k => by
 unfold tj at x
 cases q : a ρ with
 | none => rw [q] at x; cases x
 | some d =>
  rw [q] at x
  dsimp only [Option.bind] at x
  cases d <;> try (cases x; done)
  rename_i j
  cases x
  exact h ρ σ S H _ _ r q fun v S1 H1 z1 d1 => ⟨j, d1.int, k S1 H1 z1⟩
theorem mD {S : Hp} {ds : List D} {xs : List V} (h : Dens K S ds xs) (lo hi : Option Int) : Dens K S (gW ds lo hi) (kU xs lo hi) := by
 unfold gW kU
 rw [h.length]
 exact (h.drop _).take _
def dSl (d : D) (lo hi : Option Int) : Option D := match d with
 | .lst l => some (.lst (gW l lo hi))
 | .tup l => some (.tup (gW l lo hi))
 | .scr l => some (.lst (gW l lo hi))
 | _ => none
@[simp] def xSl (a : XE) (lo hi : XO) : XE := fun ρ => (a ρ).bind fun d => (lo ρ).bind fun l => (hi ρ).bind fun h => dSl d l h
theorem Hv {te : TE} {tl th : TO} {a : XE} {lo hi : XO} (ha : SPk K te a) (hl : SO K tl lo) (hh : SO K th hi) : SE K (tSl (Gm K) te tl th) (xSl a lo hi) := fun ρ σ S H Q g r x k => by
 unfold xSl at x
 cases q : a ρ with
 | none => rw [q] at x; cases x
 | some d =>
  rw [q] at x
  dsimp only [Option.bind] at x
  cases ql : lo ρ with
  | none => rw [ql] at x; cases x
  | some l =>
   rw [ql] at x
   dsimp only at x
   cases qh : hi ρ with
   | none => rw [qh] at x; cases x
   | some h =>
    rw [qh] at x
    dsimp only at x
    refine ha ρ σ S H _ d r q fun v S1 H1 z1 d1 => ?_
    have r1 := r.ext z1
    refine hl ρ σ S1 H1 _ l r1 ql fun S2 H2 z2 => ?_
    have r2 := r1.ext z2
    refine hh ρ σ S2 H2 _ h r2 qh fun S3 H3 z3 => ?_
    have z23 := z2.trans z3
    have d3 := d1.mono z23 r1.sub
    have s3 := (r2.ext z3).sub
    have z := z1.trans z23
    cases d <;> try (cases x; done)
    ·cases x
     obtain ⟨p, xs, rfl, h1, h2⟩ := d3.lst s3
     refine .inl ⟨p, xs, rfl, .inl h1, fun p' hp => ?_⟩
     have z4 := Ext.new (o := .lst (kU xs l h)) s3 hp
     exact k _ _ _ (z.trans z4) (den_lst.mpr ⟨p', _, rfl, .inl aC, (mD h2 l h).mono z4.sh⟩)
    ·rename_i ds
     cases x
     have d3' : Den K S3 (.tup ds) v := d3.elim id fun ⟨_, _, _, e, _⟩ => by cases e
     obtain ⟨p, xs, e, h1, h2⟩ := d3.tup s3
     subst e
     refine .inr ⟨p, xs, rfl, h1, fun e => k _ S3 H3 z ?_, fun p' hp => ?_⟩
     ·obtain ⟨p2, xs2, e2, h3, h4⟩ := den_tup.mp d3'
      cases e2
      have c := mD h2 l h
      rw [e] at c
      refine den_tup.mpr ⟨p, xs2, rfl, h3, ?_⟩
      have hlen := c.length
      have : gW ds l h = ds := by
       have hl2 : (gW ds l h).length = ds.length := by rw [c.length, h2.length]
       unfold gW at hl2 ⊢
       rw [List.length_take, List.length_drop] at hl2
       have a0 : HT.sIx ds.length 0 l = 0 \/ ds.length = 0 := by lia
       rcases a0 with a0 | a0
       ·rw [a0, List.drop_zero] at *
        exact List.take_of_length_le (by lia)
       ·have : ds = [] := List.length_eq_zero_iff.mp a0
        subst this
        simp
      rw [this]
      exact h4
     ·have z4 := Ext.new (o := .tup (kU xs l h)) s3 hp
      exact k _ _ _ (z.trans z4) (den_tup.mpr ⟨p', _, rfl, TpA.of aC, (mD h2 l h).mono z4.sh⟩)
    ·cases x
     obtain ⟨p, xs, rfl, h1, h2⟩ := d3.scr s3
     refine .inl ⟨p, xs, rfl, h1, fun p' hp => ?_⟩
     have z4 := Ext.new (o := .lst (kU xs l h)) s3 hp
     exact k _ _ _ (z.trans z4) (den_lst.mpr ⟨p', _, rfl, .inl aC, (mD h2 l h).mono z4.sh⟩)
def C4 (K : W.Frag) : List V -> Hp -> VK -> Prop := fun xs H Q => ∃ x n, xs = [x] /\ F5 K x H n /\ Q (.int n) H
def eF : List D -> Option D
 | [.lst l] => some (.int l.length)
 | [.tup l] => some (.int l.length)
 | [.scr l] => some (.int l.length)
 | [.str x] => if x.length <= LIM then some (.int x.length) else none
 | _ => none
theorem gw {S H : Hp} {d : D} {vs : List V} (h : DensP K S H [d] vs) : ∃ v, vs = [v] /\ DenP K S H d v := by
 cases h with
 | cons a b => cases b; exact ⟨_, rfl, a⟩
theorem wn {S H : Hp} {d e : D} {vs : List V} (h : DensP K S H [d, e] vs) : ∃ v w, vs = [v, w] /\ DenP K S H d v /\ DenP K S H e w := by
 cases h with
 | cons a b => cases b with
  | cons c b => cases b; exact ⟨_, _, rfl, a, c⟩
theorem FQ : SRB K (C4 K) eF := fun S H vs ds g Q s d q k => by
 unfold eF at q
 split at q
 ·rename_i l
  cases q
  obtain ⟨v, rfl, d1⟩ := gw d
  obtain ⟨p, xs, rfl, h1, h2⟩ := d1.lst s
  exact ⟨_, xs.length, rfl, .inl ⟨xs, .inl h1, rfl⟩, k _ S H (Ext.refl s) (den_int.mpr (by rw [h2.length]))⟩
 ·rename_i l
  cases q
  obtain ⟨v, rfl, d1⟩ := gw d
  obtain ⟨p, xs, rfl, h1, h2⟩ := d1.tup s
  exact ⟨_, xs.length, rfl, .inr ⟨xs, h1, rfl⟩, k _ S H (Ext.refl s) (den_int.mpr (by rw [h2.length]))⟩
 ·rename_i l
  cases q
  obtain ⟨v, rfl, d1⟩ := gw d
  obtain ⟨p, xs, rfl, h1, h2⟩ := d1.scr s
  exact ⟨_, xs.length, rfl, .inl ⟨xs, h1, rfl⟩, k _ S H (Ext.refl s) (den_int.mpr (by rw [h2.length]))⟩
 ·rename_i x
  split at q
  ·rename_i hl
   cases q
   obtain ⟨v, rfl, d1⟩ := gw d
   exact ⟨_, x.length, rfl, by rw [d1.str]; exact ⟨oM hl, rfl⟩, k _ S H (Ext.refl s) (den_int.mpr rfl)⟩
  ·cases q
 ·cases q
def fg : List D -> Option D
 | [.lst l] => some (.tup l)
 | [.tup l] => some (.tup l)
 | [.scr l] => some (.tup l)
 | _ => none
theorem BP : SRB K (D3 K) fg := fun S H vs ds g Q s d q k => by
 unfold fg at q
 split at q
 ·rename_i l
  cases q
  obtain ⟨v, rfl, d1⟩ := gw d
  obtain ⟨p, xs, rfl, h1, h2⟩ := d1.lst s
  refine ⟨p, xs, rfl, .inl ⟨.inl h1, fun q hq => ?_⟩⟩
  have z := Ext.new (o := .tup xs) s hq
  exact k _ _ _ z (den_tup.mpr ⟨q, _, rfl, TpA.of aC, h2.mono z.sh⟩)
 ·rename_i l
  cases q
  obtain ⟨v, rfl, d1⟩ := gw d
  have d' : Den K S (.tup l) v := d1.elim id fun ⟨_, _, _, e, _⟩ => by cases e
  obtain ⟨p, xs, rfl, h1, h2⟩ := d1.tup s
  exact ⟨p, xs, rfl, .inr ⟨h1, k _ S H (Ext.refl s) d'⟩⟩
 ·rename_i l
  cases q
  obtain ⟨v, rfl, d1⟩ := gw d
  obtain ⟨p, xs, rfl, h1, h2⟩ := d1.scr s
  refine ⟨p, xs, rfl, .inl ⟨h1, fun q hq => ?_⟩⟩
  have z := Ext.new (o := .tup xs) s hq
  exact k _ _ _ z (den_tup.mpr ⟨q, _, rfl, TpA.of aC, h2.mono z.sh⟩)
 ·cases q
def Bm : List D -> Option (List D)
 | [.lst l] => some l
 | [.tup l] => some l
 | [.scr l] => some l
 | _ => none
def nW : List D -> Option D
 | [.int i, .int j] => some (.int (if j > i then j else i))
 | _ => none
def nG : List D -> Option D
 | [.int i, .int j] => some (.int (if j < i then j else i))
 | _ => none
theorem DM : SRB K Gn nW := fun S H vs ds g Q s d q k => by
 unfold nW at q
 split at q
 ·rename_i i j
  cases q
  obtain ⟨v, w, rfl, d1, d2⟩ := wn d
  exact ⟨i, j, by rw [d1.int, d2.int], k _ S H (Ext.refl s) (den_int.mpr rfl)⟩
 ·cases q
theorem DJ : SRB K Fb nG := fun S H vs ds g Q s d q k => by
 unfold nG at q
 split at q
 ·rename_i i j
  cases q
  obtain ⟨v, w, rfl, d1, d2⟩ := wn d
  exact ⟨i, j, by rw [d1.int, d2.int], k _ S H (Ext.refl s) (den_int.mpr rfl)⟩
 ·cases q
def bG : List D -> Option (List Int)
 | [] => some []
 | .int i :: l => (bG l).map fun r => i :: r
 | _ => none
theorem iu {S : Hp} : ∀ {ds : List D} {xs : List V} {ns : List Int}, Dens K S ds xs -> bG ds = some ns -> xs = ns.map V.int /\ ds = ns.map D.int
 | [], xs, ns, h, e => by cases e; exact ⟨h.nil_of, rfl⟩
 | d :: ds, xs, ns, h, e => by
  obtain ⟨y, ys, rfl, h1, h2⟩ := h.cons_of
  cases d <;> try (cases e; done)
  rename_i i
  have e' : (bG ds).map (fun r => i :: r) = some ns := e
  cases q : bG ds with
  | none => rw [q] at e'; cases e'
  | some ms =>
   rw [q] at e'
   cases e'
   obtain ⟨k1, k2⟩ := iu h2 q
   rw [den_int.mp h1, k1]
   exact ⟨rfl, congrArg (D.int i :: ·) k2⟩
theorem jz : ∀ ns : List Int, bG (ns.map D.int) = some ns
 | [] => rfl
 | n :: ns => by rw [List.map_cons, bG, jz ns]; rfl
def Jr : List D -> Option D
 | [.lst l] => (bG l).map fun ns => .int ns.sum
 | _ => none
def vP : List D -> Option D
 | [.int i] => some (.int i)
 | [.bl b] => some (.int (if b then 1 else 0))
 | _ => none
theorem Fu : SRB K Gr vP := fun S H vs ds g Q s d q k => by
 unfold vP at q
 split at q
 ·rename_i i
  cases q
  obtain ⟨v, rfl, d1⟩ := gw d
  exact .inl ⟨i, by rw [d1.int], k _ S H (Ext.refl s) (den_int.mpr rfl)⟩
 ·rename_i i
  cases q
  obtain ⟨v, rfl, d1⟩ := gw d
  exact .inr ⟨i, by rw [d1.bl], k _ S H (Ext.refl s) (den_int.mpr rfl)⟩
 ·cases q
@[simp] def I0 (a : XE) : XA := fun ρ => (a ρ).bind fun d => match d with | .lst l => some l.reverse | _ => none
def tyD : D -> Option String
 | .non => some "NoneType" | .bl _ => some "bool" | .int _ => some "int" | .str _ => some "str" | .lst _ => some "list" | .tup _ => some "tuple" | _ => none
def BO (t T : String) : Bool := t == T || (t == "bool" && T == "int")
def tyM (K : W.Frag) (H : Hp) (x : V) (t : String) : Prop := match x with
 | .non => t = "NoneType" | .bl _ => t = "bool" | .int _ => t = "int" | .str _ => t = "str"
 | .ref p => (t = "list" /\ ∃ xs, Rd H p (.lst xs)) \/ (t = "tuple" /\ ∃ xs, SqT K H p xs)
 | _ => False
def F8 : List String := ["bool", "int", "str", "list", "tuple"]
def Dd (K : W.Frag) : List V -> Hp -> VK -> Prop := fun xs H Q => ∃ x T t, xs = [x, .ty T] /\ tyM K H x t /\ T ∈ F8 /\ Q (.bl (BO t T)) H
def o6 : List D -> Option D
 | [d, .ty T] => if T ∈ F8 then (tyD d).map fun t => .bl (BO t T) else none
 | _ => none
theorem FG {S H : Hp} {d : D} {v : V} {t : String} (s : Same S H) (h : DenP K S H d v) (e : tyD d = some t) : tyM K H v t := by
 cases d with
 | non => rw [h.non]; cases e; rfl
 | bl b => rw [h.bl]; cases e; rfl
 | int b => rw [h.int]; cases e; rfl
 | str b => rw [h.str]; cases e; rfl
 | lst l =>
  cases e
  obtain ⟨p, xs, rfl, h1, h2⟩ := h.lst s
  exact .inl ⟨rfl, xs, h1⟩
 | tup l =>
  cases e
  obtain ⟨p, xs, rfl, h1, h2⟩ := h.tup s
  exact .inr ⟨rfl, xs, h1⟩
 | _ => cases e
theorem Gp : SRB K (Dd K) o6 := fun S H vs ds g Q s d q k => by
 unfold o6 at q
 split at q
 ·rename_i d0 T
  split at q
  ·rename_i hT
   cases qt : tyD d0 with
   | none => rw [qt] at q; cases q
   | some t =>
    rw [qt] at q
    cases q
    obtain ⟨v, w, rfl, d1, d2⟩ := wn d
    exact ⟨v, T, t, by rw [d2.ty], FG s d1 qt, hT, k _ S H (Ext.refl s) (den_bl.mpr rfl)⟩
  ·cases q
 ·cases q
end
def rh (k : List Int) : D := .tup (k.map D.int)
def BS : D -> Option (List Int)
 | .tup l => if l.isEmpty then none else bG l
 | _ => none
def keys : List D -> Option (List (List Int))
 | [] => some []
 | d :: l => (BS d).bind fun k => (keys l).map fun r => k :: r
theorem vw : ∀ a b : List Int, HT.bR a b = true -> HT.bR b a = false
 | [], [], h => by cases h
 | [], _ :: _, _ => rfl
 | _ :: _, [], h => by cases h
 | x :: a, y :: b, h => by
  have h' : (if x = y then HT.bR a b else decide (x < y)) = true := h
  show (if y = x then HT.bR b a else decide (y < x)) = false
  by_cases e : x = y
  ·rw [if_pos e] at h'; rw [if_pos e.symm]; exact vw a b h'
  ·rw [if_neg e] at h'; rw [if_neg (fun z => e z.symm)]
   have := of_decide_eq_true h'
   exact decide_eq_false (by lia)
theorem se : ∀ a b : List Int, HT.bR a b = false -> HT.bR b a = false -> a = b
 | [], [], _, _ => rfl
 | [], _ :: _, h, _ => by cases h
 | _ :: _, [], _, h => by cases h
 | x :: a, y :: b, h, k => by
  have h' : (if x = y then HT.bR a b else decide (x < y)) = false := h
  have k' : (if y = x then HT.bR b a else decide (y < x)) = false := k
  by_cases e : x = y
  ·rw [if_pos e] at h'; rw [if_pos e.symm] at k'
   rw [e, se a b h' k']
  ·rw [if_neg e] at h'; rw [if_neg (fun z => e z.symm)] at k'
   have := of_decide_eq_false h'
   have := of_decide_eq_false k'
   lia
theorem sS : ∀ a b c : List Int, HT.bR a b = false -> HT.bR b c = false -> HT.bR a c = false
 | [], [], _, _, k => k
 | [], _ :: _, _, h, _ => by cases h
 | _ :: _, _, [], _, _ => rfl
 | _ :: _, [], _ :: _, _, k => by cases k
 | x :: a, y :: b, z :: c, h, k => by
  have h' : (if x = y then HT.bR a b else decide (x < y)) = false := h
  have k' : (if y = z then HT.bR b c else decide (y < z)) = false := k
  show (if x = z then HT.bR a c else decide (x < z)) = false
  by_cases e1 : x = y
  ·rw [if_pos e1] at h'
   subst e1
   by_cases e2 : x = z
   ·rw [if_pos e2] at k' ⊢; exact sS a b c h' k'
   ·rw [if_neg e2] at k' ⊢; exact k'
  ·rw [if_neg e1] at h'
   have g1 := of_decide_eq_false h'
   by_cases e2 : y = z
   ·subst e2
    rw [if_neg e1]; exact h'
   ·rw [if_neg e2] at k'
    have g2 := of_decide_eq_false k'
    rw [if_neg (by lia)]
    exact decide_eq_false (by lia)
def yY (x : List Int) : List (List Int) -> List (List Int)
 | [] => [x]
 | y :: l => if HT.bR y x = true then y :: yY x l else x :: y :: l
def fX (ks : List (List Int)) : List (List Int) := ks.foldr yY []
theorem rQ (x : List Int) (l : List (List Int)) : (yY x l).Perm (x :: l) := by
 induction l with
 | nil => exact .refl _
 | cons y l ih =>
  unfold yY
  split
  ·exact (ih.cons y).trans (.swap x y l)
  ·exact .refl _
def nF (ns : List Int) : List Int := ns.mergeSort fun a b => decide (a <= b)
theorem gA (ks : List (List Int)) : (fX ks).Perm ks := by
 induction ks with
 | nil => exact .refl _
 | cons x l ih => exact (rQ x (fX l)).trans (ih.cons x)
theorem ll (ns : List Int) : (nF ns).Perm ns := List.mergeSort_perm _ _
theorem Cd (x : List Int) (l : List (List Int)) (h : l.Pairwise fun a b => HT.bR b a = false) : (yY x l).Pairwise fun a b => HT.bR b a = false := by
 induction l with
 | nil => exact .cons (fun _ z => by cases z) .nil
 | cons y l ih =>
  have hy : ∀ z, z ∈ l -> HT.bR z y = false := fun z hz => List.rel_of_pairwise_cons h hz
  unfold yY
  cases q : HT.bR y x with
  | true =>
   refine .cons (fun z hz => ?_) (ih (List.Pairwise.of_cons h))
   rcases List.mem_cons.mp ((rQ x l).mem_iff.mp hz) with rfl | hz
   ·exact vw y _ q
   ·exact hy z hz
  | false =>
   refine .cons (fun z hz => ?_) h
   rcases List.mem_cons.mp hz with rfl | hz
   ·exact q
   ·exact sS z y x (hy z hz) q
theorem jC (ks : List (List Int)) : (fX ks).Pairwise fun a b => HT.bR b a = false := by
 induction ks with
 | nil => exact .nil
 | cons x l ih => exact Cd x (fX l) ih
theorem A5 (ns : List Int) : (nF ns).Pairwise (· <= ·) := by
 have h := List.pairwise_mergeSort (le := fun a b : Int => decide (a <= b)) (fun a b c h k => by
  have := of_decide_eq_true h; have := of_decide_eq_true k; exact decide_eq_true (by lia)) (fun a b => by
  by_cases h : a <= b
  ·simp [h]
  ·simp [show b <= a by lia]) ns
 exact h.imp fun {a b} e => of_decide_eq_true e
theorem xp {ks js : List (List Int)} (hp : js.Perm ks) (hw : js.Pairwise fun a b => HT.bR b a = false) : js = fX ks :=
 List.Perm.eq_of_pairwise (fun a b _ _ h k => se a b k h) hw (jC ks) (hp.trans (gA ks).symm)
theorem wR {ns ms : List Int} (hp : ms.Perm ns) (hw : ms.Pairwise (· <= ·)) : ms = nF ns :=
 List.Perm.eq_of_pairwise (fun a b _ _ h k => by lia) hw (A5 ns) (hp.trans (ll ns).symm)
def A4 (K : W.Frag) : List V -> Hp -> VK -> Prop := fun xs H Q => ∃ p, ∃ yks : List (V × List Int), xs = [.ref p] /\ SqL K H p (yks.map (·.1)) /\ yks.length < 30000 /\ (∀ yk ∈ yks, ∃ q, yk.1 = .ref q /\ SqT K H q (yk.2.map V.int) /\ yk.2 ≠ []) /\
 ∀ (zks : List (V × List Int)) l, zks.Perm yks -> zks.Pairwise (fun a b => HT.bR b.2 a.2 = false) -> H l = none -> Q (.ref l) (upd H l (.lst (zks.map (·.1))))
def uz (K : W.Frag) : List V -> Hp -> VK -> Prop := fun xs H Q => uC K xs H Q \/ A4 K xs H Q
def fJ : List D -> Option (List D)
 | [.lst l] => if l.length < 30000 then (match bG l with
  | some ns => some ((nF ns).map D.int)
  | none => (keys l).map fun ks => (fX ks).map rh) else none
 | _ => none
section
variable {K : W.Frag}
theorem Ct {d : D} {k : List Int} (h : BS d = some k) : d = rh k /\ k ≠ [] := by
 cases d <;> try (cases h; done)
 rename_i l
 have h' : (if l.isEmpty then none else bG l) = some k := h
 split at h'
 ·cases h'
 ·rename_i hne
  have key : ∀ (l : List D) (k : List Int), bG l = some k -> l = k.map D.int := by
   intro l
   induction l with
   | nil => intro k e; cases e; rfl
   | cons d l ih =>
    intro k e
    cases d <;> try (cases e; done)
    rename_i i
    have e' : (bG l).map (fun r => i :: r) = some k := e
    cases q : bG l with
    | none => rw [q] at e'; cases e'
    | some m => rw [q] at e'; cases e'; rw [ih m q]; rfl
  have e := key l k h'
  subst e
  exact ⟨rfl, fun z => by subst z; exact hne rfl⟩
theorem yi : ∀ {l : List D} {ks : List (List Int)}, keys l = some ks -> l = ks.map rh /\ ∀ k ∈ ks, k ≠ []
 | [], ks, h => by cases h; exact ⟨rfl, fun _ h => by cases h⟩
 | d :: l, ks, h => by
  have h' : ((BS d).bind fun k => (keys l).map fun r => k :: r) = some ks := h
  cases q : BS d with
  | none => rw [q] at h'; cases h'
  | some k =>
   rw [q] at h'
   dsimp only [Option.bind] at h'
   cases q2 : keys l with
   | none => rw [q2] at h'; cases h'
   | some r =>
    rw [q2] at h'
    cases h'
    obtain ⟨a, b⟩ := yi q2
    obtain ⟨c, d⟩ := Ct q
    refine ⟨by rw [List.map_cons, <- a, <- c], fun k hk => ?_⟩
    rcases List.mem_cons.mp hk with rfl | hk
    ·exact d
    ·exact b k hk
theorem pf : ∀ {S : Hp} {k : List Int} {xs : List V}, Dens K S (k.map D.int) xs -> xs = k.map V.int
 | S, [], xs, h => h.nil_of
 | S, i :: k, xs, h => by
  obtain ⟨y, ys, rfl, h1, h2⟩ := h.cons_of
  rw [den_int.mp h1, pf h2]
  rfl
theorem uZ {S : Hp} : ∀ {ks : List (List Int)} {xs : List V}, Dens K S (ks.map rh) xs -> (xs.zip ks).map (·.1) = xs /\ (xs.zip ks).map (·.2) = ks /\ (xs.zip ks).length = ks.length /\ ∀ yk ∈ xs.zip ks, Den K S (rh yk.2) yk.1
 | [], xs, h => by rw [h.nil_of]; exact ⟨rfl, rfl, rfl, fun _ h => by cases h⟩
 | k :: ks, xs, h => by
  obtain ⟨y, ys, rfl, h1, h2⟩ := h.cons_of
  obtain ⟨a, b, c, d⟩ := uZ h2
  refine ⟨by rw [List.zip_cons_cons, List.map_cons, a], by rw [List.zip_cons_cons, List.map_cons, b], by rw [List.zip_cons_cons, List.length_cons, c, List.length_cons], fun yk hm => ?_⟩
  rw [List.zip_cons_cons] at hm
  rcases List.mem_cons.mp hm with rfl | hm
  ·exact h1
  ·exact d yk hm
theorem kD {S : Hp} : ∀ {zks : List (V × List Int)}, (∀ yk ∈ zks, Den K S (rh yk.2) yk.1) -> Dens K S ((zks.map (·.2)).map rh) (zks.map (·.1))
 | [], _ => .nil
 | yk :: zks, h => .cons (h yk List.mem_cons_self) (kD fun z hz => h z (List.mem_cons_of_mem _ hz))
theorem zV : SRF K (uz K) fJ := fun S H vs ds g Q s d q k => by
 unfold fJ at q
 split at q
 ·rename_i l
  split at q
  ·rename_i hl
   obtain ⟨v, rfl, d1⟩ := gw d
   obtain ⟨p, xs, rfl, h1, h2⟩ := d1.lst s
   cases qi : bG l with
   | some ns =>
    rw [qi] at q
    cases q
    obtain ⟨e1, e2⟩ := iu h2 qi
    subst e1 e2
    refine .inl ⟨p, ns, rfl, .inl h1, by rw [List.length_map] at hl; exact hl, fun ms a pm pw ha => ?_⟩
    rw [wR pm pw]
    refine k a _ _ (Ext.own s ha) ha aC ?_
    have key : ∀ ns : List Int, Dens K S (ns.map D.int) (ns.map V.int) := by
     intro ns
     induction ns with
     | nil => exact .nil
     | cons n ns ih => exact .cons (den_int.mpr rfl) ih
    exact key _
   | none =>
    rw [qi] at q
    dsimp only at q
    cases qk : keys l with
    | none => rw [qk] at q; cases q
    | some ks =>
     rw [qk] at q
     cases q
     obtain ⟨e1, e2⟩ := yi qk
     subst e1
     obtain ⟨a, b, c, dd⟩ := uZ h2
     refine .inr ⟨p, xs.zip ks, rfl, by rw [a]; exact .inl h1, by rw [c]; rw [List.length_map] at hl; exact hl, fun yk hm => ?_, fun zks l pm pw hl => ?_⟩
     ·obtain ⟨q, ys, e, g1, g2⟩ := gi (dd yk hm)
      have := pf g2
      subst this
      refine ⟨q, e, a7 s g1, e2 _ ?_⟩
      rw [<- b]
      exact List.mem_map.mpr ⟨yk, hm, rfl⟩
     ·have e : zks.map (·.2) = fX ks := by
       refine xp ?_ ?_
       ·rw [<- b]; exact pm.map _
       ·rw [List.pairwise_map]; exact pw
      have dz : Dens K S ((zks.map (·.2)).map rh) (zks.map (·.1)) := kD fun yk hm => dd yk (pm.mem_iff.mp hm)
      rw [e] at dz
      exact k l _ _ (Ext.own s hl) hl aC dz
  ·cases q
 ·cases q
end
def rP : D -> D -> Option D := dI fun i j => some (.int (i + j))
section
variable {K : W.Frag}
theorem B3 : SR2 K (ipI fun i j => i + j) rP := zJ (g := fun i j => .int (i + j)) fun i j d h => by cases h; rfl
end
theorem Du {K : W.Frag} {ta : TE} {a : XE} (ha : SQ K ta a) : ST K (Hw K ta) (n6 a) := fun ρ σ S H Q b r x k => by
 unfold n6 at x
 cases qa : a ρ with
 | none => rw [qa] at x; cases x
 | some da =>
  rw [qa] at x
  exact ha ρ σ S H _ da r qa fun v S1 H1 z1 d1 => ⟨b, EE (Same.refl H1) (.inl d1) x, k S1 H1 z1⟩
theorem lm (g : XG) (m : XS) (d : D) (l : List D) (ρ : Env) : eZ g m (d :: l) ρ = (g d ρ).bind fun ρ1 => match m ρ1 with
  | some (.nx ρ2) => eZ g m l ρ2
  | some (.ct ρ2) => eZ g m l ρ2
  | some (.bk ρ2) => some (.nx ρ2)
  | some (.rt d) => some (.rt d)
  | some (.ro d) => some (.ro d)
  | none => none := rfl
theorem yD {α : Type} {g : XG} {m : XS} (enc : α -> D) (P : List α -> Env -> Prop) (R : D -> Prop) (B : Env -> Prop) (l : List α) (ρ0 : Env) (h0 : P [] ρ0)
  (step : ∀ pre a post ρ, l = pre ++ a :: post -> P pre ρ -> ∃ ρ1 o, g (enc a) ρ = some ρ1 /\ m ρ1 = some o /\ (match o with | .nx ρ2 => P (pre ++ [a]) ρ2 | .ct ρ2 => P (pre ++ [a]) ρ2 | .bk ρ2 => B ρ2 | .rt d => R d | .ro _ => False)) :
  ∃ o, eZ g m (l.map enc) ρ0 = some o /\ (match o with | .nx ρ' => P l ρ' \/ B ρ' | .rt d => R d | _ => False) := by
 have key : ∀ (post pre : List α) (ρ : Env), l = pre ++ post -> P pre ρ -> ∃ o, eZ g m (post.map enc) ρ = some o /\ (match o with | .nx ρ' => P l ρ' \/ B ρ' | .rt d => R d | _ => False) := by
  intro post
  induction post with
  | nil =>
   intro pre ρ e p
   rw [List.append_nil] at e
   subst e
   exact ⟨_, rfl, .inl p⟩
  | cons a post ih =>
   intro pre ρ e p
   obtain ⟨ρ1, o, h1, h2, h3⟩ := step pre a post ρ e p
   rw [List.map_cons, lm, h1]
   dsimp only [Option.bind]
   rw [h2]
   cases o with
   | nx ρ2 => exact ih (pre ++ [a]) ρ2 (by rw [e, List.append_assoc]; rfl) h3
   | ct ρ2 => exact ih (pre ++ [a]) ρ2 (by rw [e, List.append_assoc]; rfl) h3
   | bk ρ2 => exact ⟨_, rfl, .inr h3⟩
   | rt d => exact ⟨_, rfl, h3⟩
   | ro d => exact h3.elim
 exact key l [] ρ0 rfl h0
theorem a5 {α : Type} {g : XG} {m : XS} (enc : α -> D) (P : List α -> Env -> Prop) (l : List α) (ρ0 : Env) (h0 : P [] ρ0)
  (step : ∀ pre a post ρ, l = pre ++ a :: post -> P pre ρ -> ∃ ρ1 ρ2, g (enc a) ρ = some ρ1 /\ (m ρ1 = some (.nx ρ2) \/ m ρ1 = some (.ct ρ2)) /\ P (pre ++ [a]) ρ2) :
  ∃ ρ', eZ g m (l.map enc) ρ0 = some (.nx ρ') /\ P l ρ' := by
 obtain ⟨o, h1, h2⟩ := yD (g := g) (m := m) enc P (fun _ => False) (fun _ => False) l ρ0 h0 fun pre a post ρ e p => by
  obtain ⟨ρ1, ρ2, k1, k2, k3⟩ := step pre a post ρ e p
  rcases k2 with k2 | k2
  ·exact ⟨ρ1, _, k1, k2, k3⟩
  ·exact ⟨ρ1, _, k1, k2, k3⟩
 cases o with
 | nx ρ' => exact ⟨ρ', h1, h2.elim id False.elim⟩
 | rt d => exact h2.elim
 | ro d => exact h2.elim
 | bk ρ' => exact h2.elim
 | ct ρ' => exact h2.elim
def gR (g : XG) (c : XT) (e : XE) (ρ0 : Env) (d : D) : Option (Option D) := (g d ρ0).bind fun ρ1 => (c ρ1).bind fun b => if b = true then (e ρ1).map some else some none
theorem gx {α : Type} {g : XG} {c : XT} {e : XE} {ρ0 : Env} (enc : α -> D) (f : α -> Option D) : ∀ (l : List α), (∀ a ∈ l, gR g c e ρ0 (enc a) = some (f a)) -> cR g c e ρ0 (l.map enc) = some (l.filterMap f)
 | [], _ => rfl
 | a :: l, h => by
  have ih := gx (g := g) (c := c) (e := e) (ρ0 := ρ0) enc f l fun b hb => h b (List.mem_cons_of_mem _ hb)
  have h1 := h a List.mem_cons_self
  unfold gR at h1
  rw [List.map_cons, cR]
  cases q1 : g (enc a) ρ0 with
  | none => rw [q1] at h1; cases h1
  | some ρ1 =>
   rw [q1] at h1
   dsimp only [Option.bind] at h1 ⊢
   cases q2 : c ρ1 with
   | none => rw [q2] at h1; cases h1
   | some b =>
    rw [q2] at h1
    dsimp only at h1 ⊢
    cases b with
    | false =>
     rw [if_neg (by decide)] at h1 ⊢
     rw [ih, List.filterMap_cons]
     have : f a = none := (Option.some.inj h1).symm
     rw [this]
    | true =>
     rw [if_pos rfl] at h1 ⊢
     cases q3 : e ρ1 with
     | none => rw [q3] at h1; cases h1
     | some y =>
      rw [q3] at h1
      have : f a = some y := (Option.some.inj h1).symm
      rw [ih, List.filterMap_cons, this]
      rfl
theorem cL {α : Type} {g : XG} {e : XE} {ρ0 : Env} (enc : α -> D) (f : α -> D) (l : List α) (h : ∀ a ∈ l, gR g ez e ρ0 (enc a) = some (some (f a))) : cR g ez e ρ0 (l.map enc) = some (l.map f) := by
 rw [gx enc (fun a => some (f a)) l h]
 exact congrArg some (congrFun List.filterMap_eq_map' l)
theorem lf {c : XT} {m : XS} (P : Env -> Prop) (μ : Env -> Nat) (E : Env -> Prop) (step : ∀ ρ, P ρ -> (c ρ = some false /\ E ρ) \/ (c ρ = some true /\ ∃ ρ2, m ρ = some (.nx ρ2) /\ P ρ2 /\ μ ρ2 < μ ρ)) (ρ0 : Env) (h0 : P ρ0) : ∃ ρ', dM c m ρ0 = some (.nx ρ') /\ E ρ' := by
 have key : ∀ (n : Nat) (ρ : Env), μ ρ = n -> P ρ -> ∃ ρ', dM c m ρ = some (.nx ρ') /\ E ρ' := by
  intro n
  induction n using Nat.strongRecOn with
  | ind n ih =>
   intro ρ hn p
   rcases step ρ p with ⟨h1, h2⟩ | ⟨h1, ρ2, h2, h3, h4⟩
   ·exact ⟨ρ, w6 h1, h2⟩
   ·obtain ⟨ρ', k1, k2⟩ := ih (μ ρ2) (by lia) ρ2 rfl h3
    exact ⟨ρ', vj h1 h2 k1, k2⟩
 exact key _ ρ0 rfl h0
abbrev prD (p : Int × Int) : D := .tup [.int p.1, .int p.2]
abbrev cm (r : List (Int × Int)) : D := .tup (r.map prD)
abbrev yF (r : List (Int × Int)) : D := .lst (r.map prD)
@[simp] theorem e7 {α : Type} (l : List α) (x : α) : atI (l ++ [x]) (-1) = some x := by
 unfold atI ixN
 rw [if_neg (by decide), List.length_append, List.length_singleton, if_pos (by lia)]
 have : ((-1 : Int) + ((l.length + 1 : Nat) : Int)).toNat = l.length := by lia
 dsimp only [Option.bind]
 rw [this]
 simp
theorem cB {α : Type} {l : List α} {j : Nat} {x : α} (h : l[j]? = some x) : atI l (j : Int) = some x := by
 have := (List.getElem?_eq_some_iff.mp h).1
 unfold atI ixN
 rw [if_pos (by lia), if_pos (by lia)]
 dsimp only [Option.bind]
 rw [Int.toNat_natCast]
 exact h
@[simp] theorem rL (l : List O) (x : O) (f : O -> O) : p0 (l ++ [x]) (-1) f = l ++ [f x] := by
 unfold p0 ixN
 rw [if_neg (by decide), List.length_append, List.length_singleton, if_pos (by lia)]
 have : ((-1 : Int) + ((l.length + 1 : Nat) : Int)).toNat = l.length := by lia
 dsimp only
 rw [this]
 simp
@[simp] theorem E6 {α : Type} (l : List α) (a b : α) : atI (l ++ [a, b]) (-1) = some b := by
 have := e7 (l ++ [a]) b
 rw [List.append_assoc] at this
 exact this
@[simp] theorem GE {α : Type} (a : α) : atI [a] (-1) = some a := e7 [] a
@[simp] theorem Dv (l : List O) (a b : O) (f : O -> O) : p0 (l ++ [a, b]) (-1) f = l ++ [a, f b] := by
 have := rL (l ++ [a]) b f
 rw [List.append_assoc, List.append_assoc] at this
 exact this
@[simp] theorem Gv (a : O) (f : O -> O) : p0 [a] (-1) f = [f a] := rL [] a f
@[simp] theorem Fo (i : Int) : m5 (.int i) = some (.int i) := rfl
@[simp] theorem GP (i : Bool) : m5 (.bl i) = some (.bl i) := rfl
@[simp] theorem FR (i : Str) : m5 (.str i) = some (.str i) := rfl
@[simp] theorem FH : m5 .non = some .non := rfl
@[simp] theorem GJ (a b : O) (f : O -> O) : p0 [a, b] 1 f = [a, f b] := rfl
theorem ie {n : Nat} : ixN (n + 1) (-1) = some n := by
 unfold ixN
 rw [if_neg (by decide), if_pos (by lia)]
 congr 1
 lia
section
variable (i j : Int) (a b : List D) (neg : Bool) (ρ : Env)
@[simp] theorem IQ : k9 (.int i) (.int j) = some (.int (i - j)) := rfl
@[simp] theorem IV : cO (.int i) (.int j) = some (.int (i + j)) := rfl
@[simp] theorem Ho : rP (.int i) (.int j) = some (.int (i + j)) := rfl
@[simp] theorem JE : dLt (.int i) (.int j) = some (.bl (decide (i < j))) := rfl
@[simp] theorem Js : dLe (.int i) (.int j) = some (.bl (decide (i <= j))) := rfl
@[simp] theorem JF : dGt (.int i) (.int j) = some (.bl (decide (j < i))) := rfl
@[simp] theorem JB : dGe (.int i) (.int j) = some (.bl (decide (j <= i))) := rfl
@[simp] theorem Ih : fM (.int i) = some (.int (-i)) := rfl
@[simp] theorem Ha {i j : Int} (h : -18446744073709551616 < j /\ j < 18446744073709551616) : tO (.int i) (.int j) = some (.int (i * j)) := cZ (.inr h)
@[simp] theorem Hk {i j : Int} (h : -18446744073709551616 < i /\ i < 18446744073709551616) : tO (.int i) (.int j) = some (.int (i * j)) := cZ (.inl h)
@[simp] theorem Iu {i j : Int} (h : 0 < j /\ j < 1073741824) : mT (.int i) (.int j) = some (.int (i / j)) := cZ h
@[simp] theorem I9 {i j : Int} (h : 0 < j) : jc (.int i) (.int j) = some (.int (i % j)) := cZ h
@[simp] theorem Dp {i j : Int} (h : 0 <= j /\ j <= 1000000 /\ i.natAbs < 18446744073709551616) : u6 (.int i) (.int j) = some (.int (i ^ j.toNat)) := cZ h
@[simp] theorem Jc (d : D) : Br neg d .non = some (.bl (if neg then !kl d else kl d)) := rfl
@[simp] theorem Fq : kl .non = true := rfl
@[simp] theorem F6 : kl (.int i) = false := rfl
@[simp] theorem FS : kl (.tup a) = false := rfl
@[simp] theorem IP : dIx (.lst a) (.int i) = atI a i := rfl
@[simp] theorem IA : dIx (.tup a) (.int i) = atI a i := rfl
@[simp] theorem Ik : dIx (.scr a) (.int i) = atI a i := rfl
@[simp] theorem Hc : uD (.lst a) = some (!a.isEmpty) := rfl
@[simp] theorem Ib : uD (.tup a) = some (!a.isEmpty) := rfl
@[simp] theorem GW : uD (.scr a) = some (!a.isEmpty) := rfl
@[simp] theorem G4 (x : Bool) : uD (.bl x) = some x := rfl
@[simp] theorem HK : uD (.int i) = some (i != 0) := rfl
@[simp] theorem G5 : uD .non = some false := rfl
@[simp] theorem GT : eF [.lst a] = some (.int a.length) := rfl
@[simp] theorem HP : eF [.tup a] = some (.int a.length) := rfl
@[simp] theorem Ic : eF [.scr a] = some (.int a.length) := rfl
@[simp] theorem GZ : fg [.lst a] = some (.tup a) := rfl
@[simp] theorem HG : fg [.tup a] = some (.tup a) := rfl
@[simp] theorem HU : Bm [.lst a] = some a := rfl
@[simp] theorem G9 : Bm [.tup a] = some a := rfl
@[simp] theorem HS : Bm [.scr a] = some a := rfl
@[simp] theorem Ir : nW [.int i, .int j] = some (.int (if j > i then j else i)) := rfl
@[simp] theorem Ii : nG [.int i, .int j] = some (.int (if j < i then j else i)) := rfl
@[simp] theorem IK : vP [.int i] = some (.int i) := rfl
@[simp] theorem Hy (x : Bool) : vP [.bl x] = some (.int (if x then 1 else 0)) := rfl
@[simp] theorem HH : mh (.lst a) = some a := rfl
@[simp] theorem Hm : mh (.tup a) = some a := rfl
@[simp] theorem Hj : mh (.scr a) = some a := rfl
@[simp] theorem Jd (lo hi : Option Int) : dSl (.lst a) lo hi = some (.lst (gW a lo hi)) := rfl
@[simp] theorem Ie (lo hi : Option Int) : dSl (.tup a) lo hi = some (.tup (gW a lo hi)) := rfl
@[simp] theorem IR (lo hi : Option Int) : dSl (.scr a) lo hi = some (.lst (gW a lo hi)) := rfl
@[simp] theorem Jh (y : XGs) : aO y (.tup a) ρ = y a ρ := rfl
@[simp] theorem Jw (x : XG) (y : XGs) (d : D) : am x y (d :: a) ρ = (x d ρ).bind (y a) := rfl
@[simp] theorem Jo : aN [] ρ = some ρ := rfl
@[simp] theorem Hr : o6 [.int i, .ty "int"] = some (.bl true) := rfl
@[simp] theorem G0 : o6 [.int i, .ty "bool"] = some (.bl false) := rfl
@[simp] theorem Hn : o6 [.tup a, .ty "tuple"] = some (.bl true) := rfl
@[simp] theorem Ia : o6 [.lst a, .ty "list"] = some (.bl true) := rfl
@[simp] theorem GG (x : Bool) : o6 [.bl x, .ty "bool"] = some (.bl true) := rfl
end
abbrev owl (l : List D) : Sl := .ow (.lst (l.map O.sh))
@[simp] theorem FW (os : List O) : Bs (.ow (.lst os)) = (shs os).map D.lst := rfl
@[simp] theorem GI : shs [] = some [] := rfl
@[simp] theorem vz (d : D) (l : List O) : shs (.sh d :: l) = (shs l).map fun r => d :: r := rfl
@[simp] theorem Fw (l : List D) : shs (l.map O.sh) = some l := oA l
@[simp] theorem zO {α : Type} (f : α -> D) (l : List α) : shs (l.map (O.sh ∘ f)) = some (l.map f) := by rw [<- List.map_map]; exact oA _
@[simp] theorem Fd {α : Type} (f : α -> D) (l : List α) : shs (l.map fun a => O.sh (f a)) = some (l.map f) := zO f l
@[simp] theorem B1 : ∀ (a b : List O), shs (a ++ b) = (shs a).bind fun x => (shs b).map fun y => x ++ y
 | [], b => by cases h : shs b <;> simp [h]
 | .sh d :: a, b => by
  rw [List.cons_append, vz, vz, B1 a b]
  cases shs a with
  | none => rfl
  | some x => cases shs b <;> rfl
 | .dic _ :: _, _ => rfl
 | .hd _ _ _ :: _, _ => rfl
 | .lst _ :: a, b => rfl
 | .tup _ :: a, b => rfl
@[simp] theorem Gw (o : O) : dn o [] = some o := by unfold dn; rfl
@[simp] theorem Ff (l : List O) (k : Int) (r : List Int) : dn (.lst l) (k :: r) = (atI l k).bind fun o => dn o r := rfl
@[simp] theorem FK (l : List O) (k : Int) (r : List Int) : dn (.tup l) (k :: r) = (atI l k).bind fun o => dn o r := rfl
@[simp] theorem Gh (o q : O) : iK o [] q = q := by unfold iK; rfl
@[simp] theorem Gs (l : List O) (k : Int) (r : List Int) (q : O) : iK (.lst l) (k :: r) q = .lst (p0 l k fun o => iK o r q) := rfl
@[simp] theorem F1 (l : List O) (k : Int) (r : List Int) (q : O) : iK (.tup l) (k :: r) q = .tup (p0 l k fun o => iK o r q) := rfl
@[simp] theorem Hf (d : D) : O.d (.sh d) = d := by unfold O.d; rfl
@[simp] theorem GC (l : List O) : O.d (.lst l) = .lst (O.ds l) := by rw [O.d]
@[simp] theorem GF (l : List O) : O.d (.tup l) = .tup (O.ds l) := by rw [O.d]
@[simp] theorem FV : O.ds [] = [] := by rw [O.ds]
@[simp] theorem yB (o : O) (l : List O) : O.ds (o :: l) = o.d :: O.ds l := by rw [O.ds]
@[simp] theorem Af : ∀ (a b : List O), O.ds (a ++ b) = O.ds a ++ O.ds b
 | [], b => by simp
 | o :: a, b => by simp [Af a b]
@[simp] theorem uW : ∀ l : List D, O.ds (l.map O.sh) = l
 | [] => by simp
 | d :: l => by simp [uW l]
@[simp] theorem E7 {α : Type} (f : α -> D) (l : List α) : O.ds (l.map (O.sh ∘ f)) = l.map f := by rw [<- List.map_map]; exact uW _
@[simp] theorem Je {α : Type} (a b : α) : atI [a, b] 0 = some a := rfl
@[simp] theorem IH {α : Type} (a b : α) : atI [a, b] 1 = some b := rfl
@[simp] theorem Ix {α : Type} (a b c : α) : atI [a, b, c] 0 = some a := rfl
@[simp] theorem IC {α : Type} (a b c : α) : atI [a, b, c] 1 = some b := rfl
@[simp] theorem Ip {α : Type} (a b c : α) : atI [a, b, c] 2 = some c := rfl
theorem eL : LIM = 1000000 := by unfold LIM; rfl
@[simp] theorem Jy : (0 : Nat) <= LIM := Nat.zero_le _
@[simp] theorem Jf : (1 : Nat) <= LIM := by rw [eL]; decide
@[simp] theorem JA : (2 : Nat) <= LIM := by rw [eL]; decide
@[simp] theorem Jz : (3 : Nat) <= LIM := by rw [eL]; decide
@[simp] theorem Jj : (4 : Nat) <= LIM := by rw [eL]; decide
@[simp] theorem Jk : (5 : Nat) <= LIM := by rw [eL]; decide
@[simp] theorem Jn : (6 : Nat) <= LIM := by rw [eL]; decide
@[simp] theorem Jl : (7 : Nat) <= LIM := by rw [eL]; decide
@[simp] theorem JD : (8 : Nat) <= LIM := by rw [eL]; decide
@[simp] theorem JI : (9 : Nat) <= LIM := by rw [eL]; decide
@[simp] theorem Ig : (10 : Nat) <= LIM := by rw [eL]; decide
@[simp] theorem IB : (0 : Nat) < LIM := by rw [eL]; decide
theorem Ea (p q : Int × Int) : eqD (prD p) (prD q) = decide (p = q) := by
 obtain ⟨a, b⟩ := p
 obtain ⟨c, d⟩ := q
 simp [prD, eqD, eqDs, Prod.ext_iff]
 by_cases h1 : a = c <;> by_cases h2 : b = d <;> simp [h1, h2]
theorem uF : ∀ r t : List (Int × Int), eqDs (r.map prD) (t.map prD) = decide (r = t)
 | [], [] => rfl
 | [], _ :: _ => by simp [eqDs]
 | _ :: _, [] => by simp [eqDs]
 | p :: r, q :: t => by
  rw [List.map_cons, List.map_cons, eqDs, Ea, uF r t]
  by_cases h1 : p = q <;> by_cases h2 : r = t <;> simp [h1, h2]
theorem BZ (r t : List (Int × Int)) : eqD (cm r) (cm t) = decide (r = t) := by
 unfold cm
 rw [eqD, uF]
theorem qM (n : Nat) : ∀ r : List (Int × Int), okDs (n + 1) (r.map prD) = true
 | [] => by simp [okDs]
 | p :: r => by rw [List.map_cons, okDs, qM n r]; simp [prD, okD, okDs]
theorem xZ (r : List (Int × Int)) : okD 50 (cm r) = true := by
 unfold cm
 rw [okD]
 exact qM 48 r
theorem Cy (neg : Bool) (r t : List (Int × Int)) : dEq neg (cm r) (cm t) = some (.bl (if neg then !decide (r = t) else decide (r = t))) := by
 unfold dEq
 rw [if_pos ⟨xZ r, xZ t⟩, BZ]
@[simp] theorem GK (neg : Bool) (i j : Int) : dEq neg (.int i) (.int j) = some (.bl (if neg then !decide (i = j) else decide (i = j))) := by
 unfold dEq
 rw [if_pos ⟨by simp [okD], by simp [okD]⟩]
 have : eqD (.int i) (.int j) = decide (i = j) := by simp [eqD]; by_cases h : i = j <;> simp [h]
 rw [this]
@[simp] theorem GS (neg : Bool) (i j : Bool) : dEq neg (.bl i) (.bl j) = some (.bl (if neg then !decide (i = j) else decide (i = j))) := by
 unfold dEq
 rw [if_pos ⟨by simp [okD], by simp [okD]⟩]
 have : eqD (.bl i) (.bl j) = decide (i = j) := by simp [eqD]; by_cases h : i = j <;> simp [h]
 rw [this]
theorem sP {K : W.Frag} {S : Hp} : ∀ ns : List Int, Dens K S (ns.map D.int) (ns.map V.int)
 | [] => .nil
 | n :: ns => .cons (den_int.mpr rfl) (sP ns)
theorem yL {K : W.Frag} {H : Hp} {a : Addr} {ns : List Int} {m : List D -> Option O} {E : XK} (hS : SqL K H a (ns.map V.int)) (h : (m [.scr (ns.map D.int)]).map O.d = some (.bl true)) : dg K 1 m [.ref a] H (fun v _ => v = .bl true) E := by
 cases q : m [.scr (ns.map D.int)] with
 | none => rw [q] at h; cases h
 | some o =>
  rw [q] at h
  have e : o.d = .bl true := Option.some.inj h
  exact ⟨rfl, H, [.scr (ns.map D.int)], o, Same.refl _, .cons (den_scr.mpr ⟨a, _, rfl, hS, sP ns⟩) .nil, q, fun v fp S' H' z ow _ _ => by
   have dv := ow.denH z.sub
   rw [e] at dv
   exact den_bl.mp dv⟩
end M
namespace L2
open PySem PySem.Spec PyProof.Rows
theorem cV : bootBuiltins "len" = some (.builtin "len") := by decide +kernel
theorem kd : bootBuiltins "sorted" = some (.builtin "sorted") := by decide +kernel
theorem qw : bootBuiltins "max" = some (.builtin "max") := by decide +kernel
theorem tH : bootBuiltins "min" = some (.builtin "min") := by decide +kernel
theorem kt : bootBuiltins "isinstance" = some (.builtin "isinstance") := by decide +kernel
theorem dl : bootBuiltins "tuple" = some (.type "tuple") := by decide +kernel
theorem B7 : bootBuiltins "list" = some (.type "list") := by decide +kernel
theorem DT : bootBuiltins "int" = some (.type "int") := by decide +kernel
section
variable {X : Cx}
theorem ke {K : W.Frag} {t T : String} (ht : t ∈ ["NoneType", "bool", "int", "str", "list", "tuple"]) (hT : T ∈ ["bool", "int", "str", "list", "tuple"]) : W.kitOne K (.type t) (.type T) = some (M.BO t T) := by
 simp only [List.mem_cons, List.not_mem_nil, or_false] at ht hT
 rcases ht with rfl | rfl | rfl | rfl | rfl | rfl <;> rcases hT with rfl | rfl | rfl | rfl | rfl <;> kernel_rfl
theorem vt : ∀ a b : List Int, Srt.gq a b = HT.bR a b
 | [], [] => rfl
 | [], _ :: _ => rfl
 | _ :: _, [] => rfl
 | x :: xs, y :: ys => by
  rw [HT.wI, <- vt xs ys]
  rfl
end
end L2
namespace Rev
open PySem
section
variable {prog : Program} {w : World} {A : Around} {s : Shared} {R : Result -> Shared -> Prop} {I : Addr} {fp wr : List Addr} {G : Array GenState -> Array GenState -> Prop} {n : Nat} {P : Nat -> Value -> Prop} {St : Nat -> Shared -> Prop}
end
section
variable {prog : Program} {w : World} {A : Around} {E : Value -> Shared -> Prop} {s : Shared} {I : Addr} {fp wr : List Addr} {G : Array GenState -> Array GenState -> Prop} {n : Nat} {P : Nat -> Value -> Prop} {St : Nat -> Shared -> Prop}
end
end Rev
namespace L2
open PySem PySem.Spec PyProof.Rows
section
variable {X : Cx} {tg : Expr}
theorem bz {l : Expr} {tl : TE} (hl : PE X l tl) : PI X tg l (Ep X.K tl) := by
 intro pins s σ H R I h
 refine thn (hl pins s σ H _ I h) fun v s1 h1 => ?_
 obtain ⟨x, H1, I1, r1, a, e, q⟩ := h1
 subst e
 cases r1
 rcases q with ⟨⟨xs, hq⟩, q⟩ | ⟨⟨xs, hq⟩, q⟩
 ·obtain ⟨its, rv, p, hz⟩ := I1.list hq
  refine wpAny_pyIter_list p.isList ⟨s1.heap.objs.size, [s1.heap.objs.size], _, _, H1, rfl, I1.kept (t' := s1.toks) fun b o e => Heap.get?_push_of_some _ e, zM a _, ⟨_, Heap.get?_push_size _ rfl, rfl, rfl⟩, fun b hb => ?_, q⟩
  rw [List.mem_singleton.mp hb]
  exact I1.fpOk (Nat.le_refl _) I1.fresh
 ·obtain ⟨its, rv, p, hz⟩ := I1.tuple hq
  refine wpAny_pyIter_tuple (show s1.heap.IsTuple a its.toArray from p) ⟨s1.heap.objs.size, [s1.heap.objs.size], _, _, H1, rfl, I1.kept (t' := s1.toks) fun b o e => Heap.get?_push_of_some _ e, wd a _, ⟨_, Heap.get?_push_size _ rfl, rfl, rfl⟩, fun b hb => ?_, q⟩
  rw [List.mem_singleton.mp hb]
  exact I1.fpOk (Nat.le_refl _) I1.fresh
end
section
variable {X : Cx} {tg : Expr}
theorem r8 : ∀ {vs : List Value} {ns : List Int}, IntsAre vs ns -> Vals (ns.map V.int) vs
 | _, _, .nil => .nil
 | _, _, .cons n t h => .cons ⟨t, rfl⟩ (r8 h)
theorem call_sortedI : CallR X (.builtin "sorted") (uC X.K) := by
 intro pins s σ H xs us Q I r h
 obtain ⟨p, ns, rfl, hS, h64, k⟩ := h
 obtain ⟨u, rfl, ru⟩ := r.one
 cases ru
 obtain ⟨its, rv, pl, hz⟩ := I.list hS
 have hI : IntsAre its ns := pq rv
 have hl : its.length = ns.length := by have := rv.length; rw [List.length_map] at this; exact this.symm
 refine Srt.ur pl.isList hI (by rw [sizeLine_eq]; lia) fun out ms ho perm pw => ?_
 obtain ⟨e, at1⟩ := sortedAll_at s.heap its out
 have fresh : s.heap.objs.size <= s.heap.objs.size + 1 := Nat.le_succ _
 refine ⟨.ref (s.heap.objs.size + 1), upd H (s.heap.objs.size + 1) (.lst (ms.map V.int)), I.laid (t' := s.toks) (fun b o hb => sortedAll_old hb) fresh ?_, rfl, k ms _ perm pw (I.hok.fresh fresh)⟩
 exact ⟨by rw [List.length_map, perm.length_eq, sizeLine_eq]; lia, out.toList, e, r8 ho, by simpa using at1⟩
end
end L2
namespace HT
open PySem PySem.Spec PyProof.Rows
section
variable {prog : Program} {w : World} {A : Around} {E : Value -> Shared -> Prop} {s : Shared}
theorem kg {t sl : Addr} {items : Array Value} {vl vu : Value} {lo hi : Option Int} {Q : Value -> Shared -> Prop} (ht : IsTup s.heap t items) (hs : s.heap.IsSliceOf sl vl vu .none) (pl : IsPart vl lo) (pu : IsPart vu hi)
  (hw : sIx items.size 0 lo = 0 /\ sIx items.size items.size hi = items.size) (h : Q (.ref t) s) : wpAny (model prog w) A (getItem (.ref t) (.ref sl)) Q E s := by
 obtain ⟨os, hos, hcs, hds⟩ := id hs
 have hTs : s.TypeIs (.ref sl) "slice" := ⟨os, hos, hcs⟩
 unfold getItem
 try with_reducible refine wpAny_holding ?_
 first | refine wpAny_bind (wpAny_pure ?_) | skip
 refine wpAny_bind (wpAny_sequenceKey ht.typeIs (by decide) ?_)
 refine wpAny_bind (wpAny_callSpecial?_slot (name := Str.ofString "__getitem__") ht.typeIs PyProof.Rows.slot_tuple_getitem
  (wpAny_call_entry PyProof.Rows.slot_tuple_getitem ht.typeIs entry_tuple_getitem ?_ (args_tuple_getitem _ _)))
 show wpAny _ _ (Builtin.Tuple.tupleItemsOf (.ref t) >>= _) _ _ s
 refine wpAny_bind (tupleItemsOf_ ht ?_)
 refine wpAny_bind (wpAny_typeOf hTs ?_)
 rw [if_pos (by decide)]
 refine wpAny_bind (hJ hs pl pu ?_)
 have hyes : ((((sIx items.size 0 lo : Nat) : Int) == 0 && (1 : Int) == 1 && (sIx items.size items.size hi - sIx items.size 0 lo) == items.size) = true) := by
  rw [hw.1, hw.2]
  simp
 show wpAny _ _ (if (((sIx items.size 0 lo : Nat) : Int) == 0 && (1 : Int) == 1 && (sIx items.size items.size hi - sIx items.size 0 lo) == items.size) = true then _ else _) _ _ s
 rw [if_pos hyes]
 refine wpAny_bind (m := Builtin.Tuple.tupleIsExact _) (wpAny_bind (wpAny_typeOf ht.typeIs (wpAny_pure ?_)))
 rw [if_pos (by decide)]
 exact wpAny_bind (wpAny_rule (wpAny_pure ⟨_, rfl, wpAny_pure h⟩))
end
end HT
namespace L2
open PySem PySem.Spec PyProof.Rows M
theorem Inv.rdl {X : Cx} {pins : List (Addr × Obj)} {σ : St} {H : Hp} {s : Shared} {l : Addr} {xs : List V} (I : Inv X pins σ H s) (h : Rd H l (.lst xs)) : xs.length <= sizeLine /\ ∃ (its : List Value) (n : Nat), Vals xs its /\ xs.length = its.length /\ s.heap.get? l = some { cls := .type "list", data := .seq its.toArray n } := by
 obtain ⟨h1, its, n, r, e⟩ := (show ObjOk X.prog X.w H s.heap l (.lst xs) from h.ok I.hok)
 exact ⟨h1, its, n, r, r.length, e⟩
section
variable {X : Cx}
theorem op_catM : OpR X (binaryOp .Add) Dc := by
 intro pins s σ H x y v u Q I rx ry h
 obtain ⟨l, b, xs, zs, rfl, rfl, hH, hB, hz, q⟩ := h
 cases rx
 cases ry
 obtain ⟨z, its, n, r, hl, e⟩ := I.rdl hH
 obtain ⟨z2, its2, n2, r2, hl2, e2⟩ := I.rdl hB
 refine PySem.P.add_list e e2 ?_ (by rw [List.size_toArray, List.size_toArray]; lia)
 have ea : its.toArray ++ its2.toArray = (its ++ its2).toArray := by simp
 rw [ea]
 exact ⟨.ref _, _, I.lnew (t' := s.toks) (r.append r2) (by rw [List.length_append]; lia), rfl, q _ I.fresh⟩
theorem op_tupM : OpR X (binaryOp .Add) (C5 X.K) := by
 intro pins s σ H x y v u Q I rx ry h
 obtain ⟨a, b, xs, ys, rfl, rfl, ha, hb, hz, q1, q2, q⟩ := h
 cases rx
 cases ry
 obtain ⟨its, r1, p1, _⟩ := I.tuple ha
 obtain ⟨its2, r2, p2, _⟩ := I.tuple hb
 have hz2 : its.length + its2.length <= sizeLine := by rw [<- r1.length, <- r2.length]; exact hz
 by_cases hv : its = []
 ·have hx : xs = [] := r1.nil_iff.mp hv
  obtain ⟨⟨cls, dd, data, sl⟩, ho, hc, n, hd⟩ := id p1
  obtain ⟨⟨cls2, dd2, data2, sl2⟩, ho2, hc2, n2, hd2⟩ := id p2
  simp only at hc hd hc2 hd2; subst hc hd hc2 hd2
  exact concat_meets ⟨_, ho, rfl⟩ ⟨_, ho2, rfl⟩ noFill_tuple_add seq_tuple_add PySem.F.slot_tuple_add PySem.F.entry_tuple_add (PySem.F.args_tuple_add_2 (.ref a) (.ref b)) (tuple_addW0 a b its.toArray its2.toArray n n2 dd dd2 sl sl2 (by simp [hv])) ⟨ho, ho2, ⟨.ref b, H, I, rfl, q2 hx⟩⟩
 ·refine HT.CG p1 p2 hv (fun z => ⟨.ref a, H, I, rfl, q1 (r2.nil_iff.mp z)⟩) (fun z => ?_) hz2
  refine ⟨.ref s.heap.objs.size, _, I.laid (t' := s.toks) (o := .tup (xs ++ ys)) (fun b ob e => Heap.get?_push_of_some _ e) (Nat.le_refl _) ?_, rfl, q _ (I.hok.fresh (Nat.le_refl _))⟩
  exact ⟨by rw [List.length_append]; exact hz, _, r1.append r2, IsTup.new _ _⟩
theorem CJ : OpR X (binaryOp .Add) Db := xz
theorem aX : OpR X (binaryOp .Add) (CY X.K) := op_add.or (op_catM.or (op_tupM.or CJ))
mutual
def pyD : D -> PyData
 | .non => .none
 | .bl b => .bool b
 | .int i => .int i
 | .str x => .str x
 | .lst l => .list (pyDs l)
 | .tup l => .tuple (pyDs l)
 | _ => .none
def pyDs : List D -> List PyData
 | [] => []
 | d :: l => pyD d :: pyDs l
end
mutual
theorem pi : ∀ (n : Nat) (d : D), okD n d = true -> (pyD d).canLay0 = true /\ (pyD d).depth <= n
 | _, .non, _ => by simp [pyD, PyData.canLay0, PyData.depth]
 | _, .bl _, _ => by simp [pyD, PyData.canLay0, PyData.depth]
 | _, .int _, _ => by simp [pyD, PyData.canLay0, PyData.depth]
 | n, .str x, h => by
  have h' : PyData.strOk x = true := by cases n <;> simpa [okD] using h
  simp [pyD, PyData.canLay0, PyData.depth, h']
 | 0, .lst l, h => by simp [okD] at h
 | n + 1, .lst l, h => by
  obtain ⟨a, b⟩ := t0 n l (by simpa [okD] using h)
  simp only [pyD, PyData.canLay0, PyData.depth]
  exact ⟨a, by lia⟩
 | 0, .tup l, h => by simp [okD] at h
 | n + 1, .tup l, h => by
  obtain ⟨a, b⟩ := t0 n l (by simpa [okD] using h)
  simp only [pyD, PyData.canLay0, PyData.depth]
  exact ⟨a, by lia⟩
 | n, .ty _, h => by cases n <;> simp [okD] at h
 | n, .scr _, h => by cases n <;> simp [okD] at h
 | n, .ins _ _ _, h => by cases n <;> simp [okD] at h
theorem t0 : ∀ (n : Nat) (l : List D), okDs n l = true -> PyData.canLayAll0 (pyDs l) = true /\ PyData.depthAll (pyDs l) <= n
 | _, [], _ => by simp [pyDs, PyData.canLayAll0, PyData.depthAll]
 | n, d :: l, h => by
  rw [okDs, Bool.and_eq_true] at h
  obtain ⟨a, b⟩ := pi n d h.1
  obtain ⟨c, e⟩ := t0 n l h.2
  simp only [pyDs, PyData.canLayAll0, PyData.depthAll, a, c]
  exact ⟨rfl, by lia⟩
end
mutual
theorem wT : ∀ (n m : Nat) (d e : D), okD n d = true -> okD m e = true -> PyData.eqv (pyD d) (pyD e) = eqD d e
 | n, m, .non, e, _, he => by cases e <;> first | (simp [pyD, PyData.eqv, eqD]; done) | (cases m <;> simp [okD] at he)
 | n, m, .bl _, e, _, he => by cases e <;> first | (simp [pyD, PyData.eqv, eqD]; done) | (cases m <;> simp [okD] at he)
 | n, m, .int _, e, _, he => by cases e <;> first | (simp [pyD, PyData.eqv, eqD]; done) | (cases m <;> simp [okD] at he)
 | n, m, .str _, e, _, he => by cases e <;> first | (simp [pyD, PyData.eqv, eqD]; done) | (cases m <;> simp [okD] at he)
 | 0, m, .lst _, e, hd, he => by simp [okD] at hd
 | n + 1, m, .lst l, e, hd, he => by
  cases e with
  | lst l' =>
   cases m with
   | zero => simp [okD] at he
   | succ m =>
    simp only [pyD, PyData.eqv, eqD]
    exact eqvs_is n m l l' (by simpa [okD] using hd) (by simpa [okD] using he)
  | _ => first | (simp [pyD, PyData.eqv, eqD]; done) | (cases m <;> simp [okD] at he)
 | 0, m, .tup _, e, hd, he => by simp [okD] at hd
 | n + 1, m, .tup l, e, hd, he => by
  cases e with
  | tup l' =>
   cases m with
   | zero => simp [okD] at he
   | succ m =>
    simp only [pyD, PyData.eqv, eqD]
    exact eqvs_is n m l l' (by simpa [okD] using hd) (by simpa [okD] using he)
  | _ => first | (simp [pyD, PyData.eqv, eqD]; done) | (cases m <;> simp [okD] at he)
 | n, _, .ty _, _, h, _ => by cases n <;> simp [okD] at h
 | n, _, .scr _, _, h, _ => by cases n <;> simp [okD] at h
 | n, _, .ins _ _ _, _, h, _ => by cases n <;> simp [okD] at h
theorem eqvs_is : ∀ (n m : Nat) (l l' : List D), okDs n l = true -> okDs m l' = true -> PyData.eqvAll (pyDs l) (pyDs l') = eqDs l l'
 | _, _, [], [], _, _ => by simp [pyDs, PyData.eqvAll, eqDs]
 | _, _, [], _ :: _, _, _ => by simp [pyDs, PyData.eqvAll, eqDs]
 | _, _, _ :: _, [], _, _ => by simp [pyDs, PyData.eqvAll, eqDs]
 | n, m, d :: l, e :: l', hd, he => by
  rw [okDs, Bool.and_eq_true] at hd he
  rw [pyDs, pyDs, PyData.eqvAll, eqDs, wT n m d e hd.1 he.1, eqvs_is n m l l' hd.2 he.2]
end
mutual
theorem iA {pins : List (Addr × Obj)} {σ : St} {H : Hp} {s : Shared} (I : Inv X pins σ H s) : ∀ (n : Nat) {d : D} {x : V} {v : Value}, okD n d = true -> Den X.K H d x -> RelV x v -> ∃ as, Reads s.heap v (pyD d) as
 | _, .non, x, v, _, dx, r => by rw [den_non.mp dx] at r; cases r; exact ⟨_, .none⟩
 | _, .bl b, x, v, _, dx, r => by rw [den_bl.mp dx] at r; cases r; exact ⟨_, .bool b⟩
 | _, .int i, x, v, _, dx, r => by rw [den_int.mp dx] at r; obtain ⟨t, rfl⟩ := r; exact ⟨_, .int i t⟩
 | _, .str y, x, v, _, dx, r => by rw [den_str.mp dx] at r; obtain ⟨t, rfl⟩ := r; exact ⟨_, .str y t⟩
 | 0, .lst _, x, v, h, dx, r => by simp [okD] at h
 | n + 1, .lst l, x, v, h, dx, r => by
  obtain ⟨p, xs, rfl, hp, ds⟩ := den_lst.mp dx
  cases r
  obtain ⟨_, its, k, rv, _, e⟩ := I.rdl hp
  obtain ⟨as, ra⟩ := dens_reads I n (by simpa [okD] using h) ds rv
  exact ⟨_, .list e rfl rfl (by simpa using ra)⟩
 | 0, .tup _, x, v, h, dx, r => by simp [okD] at h
 | n + 1, .tup l, x, v, h, dx, r => by
  obtain ⟨p, xs, rfl, hp, ds⟩ := gi dx
  cases r
  obtain ⟨its, rv, ⟨o, e, c, k, d⟩, _⟩ := I.tuple hp
  obtain ⟨as, ra⟩ := dens_reads I n (by simpa [okD] using h) ds rv
  exact ⟨_, .tuple e c d (by simpa using ra)⟩
 | n, .ty _, _, _, h, _, _ => by cases n <;> simp [okD] at h
 | n, .scr _, _, _, h, _, _ => by cases n <;> simp [okD] at h
 | n, .ins _ _ _, _, _, h, _, _ => by cases n <;> simp [okD] at h
theorem dens_reads {pins : List (Addr × Obj)} {σ : St} {H : Hp} {s : Shared} (I : Inv X pins σ H s) : ∀ (n : Nat) {ds : List D} {xs : List V} {vs : List Value}, okDs n ds = true -> Dens X.K H ds xs -> Vals xs vs -> ∃ as, ReadsAll s.heap vs (pyDs ds) as
 | _, [], xs, vs, _, d, r => by
  rw [d.nil_of] at r
  cases r
  exact ⟨_, .nil⟩
 | n, d :: ds, xs, vs, h, dd, r => by
  rw [okDs, Bool.and_eq_true] at h
  obtain ⟨y, ys, rfl, a, b⟩ := dd.cons_of
  cases r with
  | cons r rr =>
   obtain ⟨as, ra⟩ := iA I n h.1 a r
   obtain ⟨bs, rb⟩ := dens_reads I n h.2 b rr
   exact ⟨_, .cons ra rb⟩
end
theorem gy (hu : X.A.units + 64 < cLine) : OpR X (compareOp .Eq) (Ej X.K false) := by
 intro pins s σ H x y v u Q I rx ry h
 obtain ⟨S, d, e, sm, dx, dy, cd, ce, q⟩ := h
 obtain ⟨as, ra⟩ := iA I 50 cd (pV sm dx) rx
 obtain ⟨bs, rb⟩ := iA I 50 ce (pV sm dy) ry
 obtain ⟨a1, a2⟩ := pi 50 d cd
 obtain ⟨b1, b2⟩ := pi 50 e ce
 have hm := Nat.min_le_left (pyD d).depth (pyD e).depth
 refine SeqAt.compareEq_reads ra rb a1 b1 (by lia) ⟨.bl _, H, I, rfl, ?_⟩
 rw [wT 50 50 d e cd ce]
 exact q
theorem jB (hu : X.A.units + 64 < cLine) : OpR X (compareOp .NotEq) (Ej X.K true) := by
 intro pins s σ H x y v u Q I rx ry h
 obtain ⟨S, d, e, sm, dx, dy, cd, ce, q⟩ := h
 obtain ⟨as, ra⟩ := iA I 50 cd (pV sm dx) rx
 obtain ⟨bs, rb⟩ := iA I 50 ce (pV sm dy) ry
 obtain ⟨a1, a2⟩ := pi 50 d cd
 obtain ⟨b1, b2⟩ := pi 50 e ce
 have hm := Nat.min_le_left (pyD d).depth (pyD e).depth
 refine SeqAt.compareNe_reads ra rb a1 b1 (by lia) ⟨.bl _, H, I, rfl, ?_⟩
 rw [wT 50 50 d e cd ce]
 exact q
theorem bc : CallR X (.builtin "len") (C4 X.K) := Ay
theorem rN : CallR X (.builtin "isinstance") (Dd X.K) := by
 intro pins s σ H xs us Q I r h
 obtain ⟨x, T, t, rfl, ht, hm, q⟩ := h
 obtain ⟨u, w', rfl, ru, rw'⟩ := r.two
 cases rw'
 have fin : ∀ tk : Nat, EP X pins σ Q (.bool (BO t T)) { s with toks := tk } := fun tk => ⟨.bl _, H, I.tok tk, rfl, q⟩
 cases x with
 | non => cases ht; exact jZ I ru .non (ke (by decide) hm) fin
 | bl b => cases ht; exact jZ I ru (.bl b) (ke (by decide) hm) fin
 | int i => cases ht; exact jZ I ru (.int i) (ke (by decide) hm) fin
 | str y => cases ht; exact jZ I ru (.str y) (ke (by decide) hm) fin
 | ref p =>
  cases ru
  rcases ht with ⟨rfl, xs, h⟩ | ⟨rfl, xs, h⟩
  ·obtain ⟨_, its, n, rv, _, e⟩ := I.rdl h
   exact W.kia_one W.kitx_list I.kIn ⟨_, e, rfl⟩ (ke (by decide) hm) (fun z => nomatch z) fin
  ·obtain ⟨its, rv, ⟨o, e, c, _⟩, _⟩ := I.tuple h
   exact W.kia_one W.kitx_tuple I.kIn ⟨o, e, c⟩ (ke (by decide) hm) (fun z => nomatch z) fin
 | _ => exact (show False from ht).elim
theorem tS : MtM X "list.extend" rExtM := by
 intro pins s σ H x vs v us Q I rx rv h
 obtain ⟨l, b, xs, zs, rfl, rfl, hH, hB, hz, q⟩ := h
 cases rx
 obtain ⟨u, rfl, ru⟩ := rv.one
 cases ru
 obtain ⟨z, its, n, r, hl, e⟩ := I.lstM hH
 obtain ⟨z2, its2, n2, r2, hl2, e2⟩ := I.rdl hB
 have hsz : its.toArray.size + its2.toArray.size <= sizeLine := by rw [List.size_toArray, List.size_toArray]; lia
 have hlong : ¬ (!its.toArray.isEmpty && Builtin.List.listTooLong (its.toArray.size + its2.toArray.size)) = true := by
  rw [zT hsz, Bool.and_false]
  exact Bool.false_ne_true
 refine call_meets F.slot_list_extend ⟨_, e, rfl⟩ F.entry_list_extend (F.args_list_extend_2 _ _)
  (AutoSeq1.list_extend_list_list_0 l its.toArray n b its2.toArray n2 hlong (by rw [List.size_toArray]; lia) (by lia)) ⟨e, e2, ?_⟩
 refine ⟨.non, _, I.lset (its' := its ++ its2) hH e (by simp) (r.append r2) ?_, rfl, q⟩
 rw [List.length_append]
 lia
theorem Ez : SlR X (Gm X.K) := by
 refine SlR.or BW ?_
 intro pins s σ H x v vl vu lo hi sl Q I rx hs pl pu h
 obtain ⟨a, xs, rfl, hx, q1, q2⟩ := h
 cases rx
 by_cases hw : HT.sIx xs.length 0 lo = 0 /\ HT.sIx xs.length xs.length hi = xs.length
 ·obtain ⟨its, r, ht, hz⟩ := I.tuple hx
  have hlen : its.toArray.size = xs.length := by rw [List.size_toArray]; exact r.length.symm
  have hcut : kU xs lo hi = xs := by
   unfold kU
   rw [hw.1, hw.2, List.drop_zero, Nat.sub_zero, List.take_of_length_le (Nat.le_refl _)]
  refine ⟨"tuple", _, PyProof.Rows.slot_tuple_getitem.lookup, ht.typeIs, ?_⟩
  exact HT.kg ht hs pl pu (by rw [hlen]; exact hw) ⟨.ref a, H, I, rfl, q1 hcut⟩
 ·exact DD pins s σ H (.ref a) (.ref a) vl vu lo hi sl Q I rfl hs pl pu ⟨a, xs, rfl, hx, hw, q2⟩
theorem wF : CallR X (.builtin "sorted") (A4 X.K) := by
 intro pins s σ H xs us Q I r h
 obtain ⟨p, yks, rfl, hS, h64, hk, k⟩ := h
 obtain ⟨u, rfl, ru⟩ := r.one
 cases ru
 obtain ⟨its, rv, pl, hz⟩ := I.list hS
 have hl : yks.length = its.length := by rw [<- rv.length, List.length_map]
 have atI : ∀ i, i < its.length -> ∃ yk, yks[i]? = some yk /\ yks.getD i (.non, []) = yk /\ RelV yk.1 (its.getD i Value.none) := fun i hi => by
  have ey : yks[i]? = some yks[i] := List.getElem?_eq_getElem (by lia)
  have ex : (yks.map (·.1))[i]? = some yks[i].1 := by rw [List.getElem?_map, ey]; rfl
  obtain ⟨v, ev, rl⟩ := rv.get ex
  exact ⟨_, ey, by rw [List.getD_eq_getElem?_getD, ey]; rfl, by rw [List.getD_eq_getElem?_getD, ev]; exact rl⟩
 have tup : ∀ i, i < its.length -> Srt.Gf s.heap (its.getD i Value.none) (yks.getD i (.non, [])).2 /\ (yks.getD i (.non, [])).2 ≠ [] := fun i hi => by
  obtain ⟨yk, e1, e2, rl⟩ := atI i hi
  obtain ⟨q, e3, e4, e5⟩ := hk _ (List.mem_of_getElem? e1)
  rw [e2]
  refine ⟨?_, e5⟩
  rw [e3] at rl
  have rl' : its.getD i Value.none = Value.ref q := rl
  obtain ⟨js, rj, ⟨o, ho, hc, n, hd⟩, _⟩ := I.tuple e4
  refine ⟨q, o, js.toArray, n, rl', ho, hc, hd, ?_⟩
  simpa using pq rj
 refine Srt.sR (Srt.Bg fun i => (yks.getD i (.non, [])).2) pl.isList (by rw [sizeLine_eq]; lia) (Srt.ww tup) fun q hq ha => ?_
 obtain ⟨pv, pw⟩ := Srt.xn (vs := its) (d := Value.none) hq ha
 rw [<- hl] at hq ha
 obtain ⟨py, wy⟩ := Srt.xn (vs := yks) (d := ((V.non, []) : V × List Int)) hq ha
 obtain ⟨e, at1⟩ := sortedAll_at s.heap its (Srt.jp its q)
 have hv : Vals ((q.toList.map fun i => yks.getD i (.non, [])).map (·.1)) (q.toList.map fun i => its.getD i Value.none) := by
  have hb : ∀ i ∈ q.toList, i < its.length := fun i hi => by
   have : i < yks.length := by simpa using (Array.perm_iff_toList_perm.mp hq).mem_iff.mp hi
   lia
  revert hb
  generalize q.toList = L
  induction L with
  | nil => exact fun _ => .nil
  | cons i L ih =>
   intro hb
   refine .cons ?_ (ih fun j hj => hb j (List.mem_cons_of_mem _ hj))
   obtain ⟨yk, _, e2, rl⟩ := atI i (hb i List.mem_cons_self)
   dsimp only
   rw [e2]
   exact rl
 have fresh : s.heap.objs.size <= s.heap.objs.size + 1 := Nat.le_succ _
 refine ⟨.ref (s.heap.objs.size + 1), upd H (s.heap.objs.size + 1) (.lst ((q.toList.map fun i => yks.getD i (.non, [])).map (·.1))), I.laid (t' := s.toks) (fun b o hb => sortedAll_old hb) fresh ?_, rfl, ?_⟩
 ·refine ⟨by rw [List.length_map, py.length_eq, sizeLine_eq]; lia, _, e, hv, at1⟩
 ·refine k _ _ py (wy _ fun i j _ _ h => ?_) (I.hok.fresh fresh)
  rw [<- vt]
  exact h
theorem fO : CallR X (.builtin "sorted") (uz X.K) := call_sortedI.or wF
end
end L2
namespace M
def FD (a : List Int) (k : Int) : List Int := if a.any (· == k) then a else a ++ [k]
def HJ (ns : List Int) : List Int := ns.foldl FD []
end M
namespace L2
open PySem
section
variable {X : Cx}
end
end L2
namespace M
open PySem L2
section
variable {K : W.Frag}
end
end M
namespace L2
open PySem M
end L2
namespace M
open PySem L2
@[simp] def GL (a : XE) : XE := fun ρ => (a ρ).bind fun d => match d with | .lst l => (bG l).bind fun ns => if ns.length < 4000 then some (.int ((HJ ns).length : Nat)) else none | _ => none
end M
namespace L2
open PySem
section
variable {X : Cx} {o e : Expr} {es : List Expr} {f m : Str} {pos apos p : Pos} {ta : TE} {t : TA} {Ns : List Str} {k : Nat} {g C : Addr} {fd : FuncData} {ps : List Str} {sp : Sp}
end
end L2
namespace M
open PySem L2
section
variable {K : W.Frag} {S S' H H' : Hp}
def FU : List Str -> List D -> Str -> Option D
 | n :: ns, d :: l, f => if f = n then some d else FU ns l f
 | _, _, _ => none
@[simp] def Jt (Ns : List Str) (f : Str) (e : XE) : XE := fun ρ => (e ρ).bind fun d => match d with | .ins N ns l => if Ns.contains N then FU ns l f else none | _ => none
@[simp] def IX (Ns : List Str) (m : Str) (g : List D -> Option D) (e : XE) (a : XA) : XE := fun ρ => (e ρ).bind fun d => match d with | .ins N ns l => if Ns.contains N && !ns.contains m then (a ρ).bind fun ds => g (.ins N ns l :: ds) else none | _ => none
@[simp] def Iv (N f : Str) (mi : List D -> Option D) (a : XA) : XE := fun ρ => ((a ρ).bind mi).map fun d => .ins N [f] [d]
end
end M
namespace M
end M
namespace L2
open PySem PySem.Spec PyProof.Rows
section
variable {prog : Program} {w : World} {A : Around} {E : Value -> Shared -> Prop} {s : Shared}
end
section
variable {X : Cx}
end
end L2
namespace M
open PySem L2
section
variable {K : W.Frag}
end
end M
namespace L2
open PySem
theorem gJ {XN : List Str} {sc scope : Scope} {N : List Str} {js : List (Option Nat)} (h1 : scope.kind = .function := by rfl) (h2 : ∀ y ∈ scope.names, y.2 ≠ .cell := by decide +kernel) (h3 : ∀ y ∈ scope.names, y.2 = .free -> sc.names.lookup y.1 = some .cell \/ sc.names.lookup y.1 = some .free := by decide +kernel)
  (h4 : ∀ y ∈ scope.names, y.2 = .local -> scope.names.lookup y.1 = some .local := by decide +kernel) (h5 : js.length = N.length := by rfl) (h6 : ((N.zip js).all fun p => match p.2 with | none => true | some j => decide (XN[j]? = some p.1) && decide (scope.names.lookup p.1 = some .free)) = true := by decide +kernel) : CmpOk XN sc scope N js := ⟨h1, h2, h3, h4, h5, h6⟩
end L2
namespace M
open PySem L2
def dIn (neg : Bool) : D -> D -> Option D
 | .int i, .lst l => (bG l).map fun ns => .bl (if neg then !ns.contains i else ns.contains i)
 | .int i, .tup l => (bG l).map fun ns => .bl (if neg then !ns.contains i else ns.contains i)
 | _, _ => none
@[simp] def He (m : List D -> Option D) (e : D) (a : XA) : XE := fun ρ => (a ρ).bind fun ds => m (ds ++ [e])
section
variable {K : W.Frag}
theorem oU (i : Int) : ∀ ns : List Int, inV (.int i) (ns.map V.int) = ns.contains i
 | [] => rfl
 | n :: ns => by
  have ih := oU i ns
  unfold inV at ih ⊢
  rw [List.map_cons, List.any_cons, ih, List.contains_cons]
  have : eqV (V.int n) (V.int i) = (i == n) := by
   show (n == i) = (i == n)
   rw [Bool.eq_iff_iff, beq_iff_eq, beq_iff_eq]
   exact ⟨Eq.symm, Eq.symm⟩
  rw [this]
theorem mX : ∀ ns : List Int, (ns.map V.int).all lY = true
 | [] => rfl
 | n :: ns => by rw [List.map_cons, List.all_cons, mX ns]; rfl
theorem HE (neg : Bool) : SR2 K (rIn K neg) (dIn neg) := fun S H x y d e z Q s dx dy q k => by
 unfold dIn at q
 split at q
 ·rename_i i l
  cases qi : bG l with
  | none => rw [qi] at q; cases q
  | some ns =>
   rw [qi] at q
   cases q
   obtain ⟨p, xs, rfl, h1, h2⟩ := dy.lst s
   obtain ⟨e, _⟩ := iu h2 qi
   subst e
   have ex := dx.int
   subst ex
   exact ⟨p, _, rfl, .inl (.inl h1), rfl, mX ns, by rw [oU]; exact k _ S H (Ext.refl s) (den_bl.mpr rfl)⟩
 ·rename_i i l
  cases qi : bG l with
  | none => rw [qi] at q; cases q
  | some ns =>
   rw [qi] at q
   cases q
   obtain ⟨p, xs, rfl, h1, h2⟩ := dy.tup s
   obtain ⟨e, _⟩ := iu h2 qi
   subst e
   have ex := dx.int
   subst ex
   exact ⟨p, _, rfl, .inr h1, rfl, mX ns, by rw [oU]; exact k _ S H (Ext.refl s) (den_bl.mpr rfl)⟩
 ·cases q
end
end M
namespace L2
open PySem
section
variable {P : Program} {w : World} {K : W.Frag} {mg : Str -> Option Value} {base : Heap}
end
end L2
namespace L2
open PySem PySem.Spec PyProof.Rows
section
variable {X : Cx} {pins : List (Addr × Obj)} {σ : St} {H : Hp} {s : Shared} {XN N : List Str} {sc scope : Scope} {js : List (Option Nat)}
variable {tg iter elt : Expr} {ifs : List Expr} {pos : Pos} {wi : TI} {g : TG} {tt : TIf} {te : TE}
end
end L2
namespace RevT
open PySem PySem.Calls PyProof.Rows
section
variable {prog : Program} {w : World} {A : Around} {E : Value -> Shared -> Prop} {s : Shared}
end
end RevT
namespace L2
open PySem PySem.Spec PyProof.Rows
section
variable {X : Cx} {tg : Expr}
end
end L2
namespace M
open PySem L2
section
variable {K : W.Frag} {S S' H H' : Hp}
def HI : List D -> Option (List D)
 | [.tup l] => some l.reverse | _ => none
@[simp] def IZ (a : XA) : XA := fun ρ => (a ρ).bind HI
end
end M
namespace L2
open PySem
section
variable {X : Cx} {e : Expr} {pos p p' : Pos} {ta : TE} {T : Addr} {N : Str} {ans : List (Str × Bool)}
end
end L2
namespace M
open PySem L2
section
variable {K : W.Frag} {S S' H H' : Hp}
@[simp] def IG (ans : List (Str × Bool)) (e : XE) : XE := fun ρ => (e ρ).bind fun d => match d with | .ins N _ _ => (ans.lookup N).map .bl | _ => none
end
end M
namespace L2
open PySem PySem.Spec PyProof.Rows Builtin Builtin.ObjectAttr Builtin.Getset_descriptor
section
variable {prog : Program} {w : World} {A : Around} {E : Value -> Shared -> Prop} {s : Shared} {K : W.Frag} {C a : Addr}
end
end L2
namespace L2
open PySem PySem.Spec PyProof.Rows
section
variable {H H' : Hp} {B h0 h h' : Heap} {fs : List Addr}
end
section
variable {X : Cx} {pins : List (Addr × Obj)} {σ : St} {H : Hp} {s : Shared} {E : XK} {B : Heap} {e : Addr} {cls a0 : Value}
end
section
variable {P : Program} {w : World} {K : W.Frag} {mg : Str -> Option Value} {base : Heap} {N : List Str} {qual : Str} {scope : Scope} {f : Addr} {cdv : Value} {A : Around} {outer : List Env} {s : Shared} {H : Hp} {E : XK}
end
section
variable {X : Cx} {E : XK} {x : Str} {e : Expr} {te : TE} {np cpos pos : Pos}
end
section
variable {X : Cx} {pins : List (Addr × Obj)} {σ : St} {H H' : Hp} {s s' : Shared} {e : Addr}
end
section
variable {X : Cx} {body suite : List Stmt} {b0 : Stmt} {x n : Str} {i : Nat} {L : List Str} {tb : XK -> TS} {ts : TS} {np hp pos : Pos}
end
section
variable {X : Cx} {e : Expr} {pos p p' : Pos} {i : Nat} {N : Str} {ans : List (Str × Bool)} {vv : V} {u : Value}
end
end L2
namespace M
open PySem L2
section
variable {K : W.Frag} {S S' H H' : Hp}
inductive RO where
 | rz (N : Str) | nx (ρ : Env)
abbrev XR := Env -> Option RO
variable {E : XK}
@[simp] def G2 : XR := fun ρ => some (.nx ρ)
@[simp] def GM (N : Str) : XR := fun _ => some (.rz N)
@[simp] def JJ (c : XT) (m n : XR) : XR := fun ρ => (c ρ).bind fun b => if b = true then m ρ else n ρ
@[simp] def IT (m n : XR) : XR := fun ρ => (m ρ).bind fun o => match o with | .nx ρ' => n ρ' | .rz N => some (.rz N)
@[simp] def GQ (m : XR) : XR := fun ρ => (m ρ).bind fun o => match o with | .nx _ => none | .rz N => some (.rz N)
@[simp] def xrE (m : Env -> Option Str) : XR := fun ρ => (m ρ).map .rz
@[simp] def G1 (m : List D -> Option Str) (a : XA) : Env -> Option Str := fun ρ => (a ρ).bind m
def C3 (N : Str) : List (List (Str × Bool)) -> Option (List Bool)
 | [] => some []
 | a :: l => (a.lookup N).bind fun b => (C3 N l).map fun bs => b :: bs
def C2 (i : Nat) (N : Str) : List (Nat × List (List (Str × Bool))) -> Env -> Option Env
 | [], ρ => some ρ
 | p :: l, ρ => if p.1 = i then none else (C3 N p.2).bind fun bs => if bs.length <= 1000 then C2 i N l (ρ.set p.1 (.sh (.lst (bs.map .bl)))) else none
@[simp] def Jx (L : List Str) (i : Nat) (m : XR) (l : List (Nat × List (List (Str × Bool)))) : XS := fun ρ => if i < ρ.length then (m ρ).bind fun o => match o with
 | .rz N => if L.contains N then (C2 i N l (ρ.map fun _ => .un)).map fun ρ' => .nx (ρ'.set i .un) else none
 | .nx ρ' => some (.nx ρ') else none
end
end M
namespace L2
open PySem PySem.Spec PyProof.Rows
section
variable {X : Cx} {tg : Expr}
end
end L2
namespace M
open PySem L2
section
variable {K : W.Frag} {S S' H H' : Hp}
def Hb : List D -> Option (List D)
 | [.int i, .int j] => some (fV i (j - i).toNat)
 | _ => none
@[simp] def IE (a : XA) : XA := fun ρ => (a ρ).bind Hb
end
end M
namespace L2
open PySem PySem.Spec PyProof.Rows
section
variable {X : Cx} {tg : Expr}
end
end L2
namespace M
open PySem L2
section
variable {K : W.Frag} {S S' H H' : Hp}
def D8 (x : Str) : List D := x.cps.toList.map fun c => D.str ⟨#[c]⟩
def sgD : D -> Option (List D)
 | .str x => some (D8 x)
 | _ => none
@[simp] def JK (e : XE) : XA := fun ρ => (e ρ).bind sgD
def Hu (d : D) (lo hi : Option Int) : Option D := match d with
 | .str x => if x.length <= LIM then some (.str (Txt.slice x lo hi)) else none
 | _ => none
@[simp] def Jp (a : XE) (lo hi : XO) : XE := fun ρ => (a ρ).bind fun d => (lo ρ).bind fun l => (hi ρ).bind fun h => Hu d l h
def fK : List D -> Option (List Bool)
 | [] => some []
 | .bl b :: l => (fK l).map fun r => b :: r
 | _ :: _ => none
theorem qY : ∀ {l : List D} {bs : List Bool}, fK l = some bs -> l = bs.map D.bl
 | [], bs, h => by cases h; rfl
 | d :: l, bs, h => by
  cases d <;> try (cases h; done)
  rename_i b
  have h : (fK l).map (fun r => b :: r) = some bs := h
  cases q : fK l with
  | none => rw [q] at h; cases h
  | some r => rw [q] at h; cases h; rw [qY q]; rfl
theorem vh : ∀ {bs : List Bool} {xs : List V}, Dens K S (bs.map D.bl) xs -> xs = bs.map V.bl
 | [], xs, h => h
 | b :: bs, xs, h => by
  obtain ⟨y, ys, rfl, a, r⟩ := h
  rw [den_bl.mp a, vh r]; rfl
end
end M
namespace L2
open PySem
end L2
namespace L2
open PySem PySem.Spec PyProof.Rows
section
variable {X : Cx}
inductive PJ (X : Cx) : List Expr -> List TE -> Prop
 | nil : PJ X [] []
 | cons {e : Expr} {t : TE} {es : List Expr} {ts : List TE} : PE X e t -> PJ X es ts -> PJ X (e :: es) (t :: ts)
end
end L2
namespace M
open PySem L2
section
variable {K : W.Frag} {S S' H H' : Hp}
def fvD : D -> Option D
 | .int i => if i.natAbs.log2 < 1920 then some (.str (toString i)) else none
 | .str y => if y.length <= LIM then some (.str y) else none
 | _ => none
@[simp] def xFv (e : XE) : XE := fun ρ => (e ρ).bind fvD
inductive SJ (K : W.Frag) : List TE -> List XE -> Prop
 | nil : SJ K [] []
 | cons {t : TE} {a : XE} {ts : List TE} {as : List XE} : SPk K t a -> SJ K ts as -> SJ K (t :: ts) (a :: as)
end
end M
namespace L2
open PySem PySem.Spec PyProof.Rows
section
variable {M : Model} {A : Around} {Ex : Value -> Shared -> Prop} {s : Shared}
end
section
variable {P : Program} {w : World} {K : W.Frag} {mg : Str -> Option Value} {base : Heap} {N : List Str} {qual : Str} {scope : Scope} {f : Addr} {cdv : Value} {A : Around} {outer : List Env} {s : Shared} {H : Hp} {E : XK}
end
section
variable {X : Cx} {pins : List (Addr × Obj)} {σ : St} {H : Hp} {s : Shared} {XN N : List Str} {sc scope : Scope} {js : List (Option Nat)}
variable {tg iter elt : Expr} {ifs : List Expr} {pos : Pos} {wi : TI} {g : TG} {tt : TIf} {te : TE} {E : XK}
end
section
variable {X : Cx}
end
end L2
namespace M
open PySem L2
section
variable {K : W.Frag} {S S' H H' : Hp} {E : XK}
@[simp] def Jv (m : XS) : XR := fun ρ => match m ρ with | some (.nx ρ') => some (.nx ρ') | _ => none
@[simp] def JC (n : Env -> Option Str) (m : XS) : XR := fun ρ => match n ρ with | some N => some (.rz N) | none => (match m ρ with | some (.nx ρ') => some (.nx ρ') | _ => none)
@[simp] def GX (m : Env -> Option Str) : Env -> Option Str := m
@[simp] def HF (e : XE) (m : Env -> Option Str) : Env -> Option Str := fun ρ => (e ρ).bind fun _ => m ρ
@[simp] def Jm (n : Env -> Option Str) (e : XE) (m : Env -> Option Str) : Env -> Option Str := fun ρ => match n ρ with | some N => some N | none => (e ρ).bind fun _ => m ρ
@[simp] def Ja (i : Nat) (m : Env -> Option Str) : Env -> Option Str := fun ρ => match ρ[i]? with | some (.ow (.lst _)) => m ρ | _ => none
def BC (g : XG) (c : XT) (e : XE) (n : Env -> Option Str) (ρ0 : Env) : List D -> Option Str
 | [] => none
 | d :: l => (g d ρ0).bind fun ρ1 => (c ρ1).bind fun b => if b = true then (match n ρ1 with | some N => some N | none => (e ρ1).bind fun _ => BC g c e n ρ0 l) else BC g c e n ρ0 l
@[simp] def G7 (js : List (Option Nat)) (w : XA) (g : XG) (c : XT) (e : XE) (n : Env -> Option Str) : Env -> Option Str := fun ρ => (w ρ).bind fun l => if l.length <= LIM then BC g c e n (uh js ρ) l else none
def C7 (g : XG) (m : XR) : List D -> Env -> Option RO
 | [], ρ => some (.nx ρ)
 | d :: l, ρ => (g d ρ).bind fun ρ1 => (m ρ1).bind fun o => match o with | .nx ρ2 => C7 g m l ρ2 | .rz N => some (.rz N)
@[simp] def Im (e : XA) (g : XG) (m : XR) : XR := fun ρ => (e ρ).bind fun l => C7 g m l ρ
end
end M
namespace L2
open PySem
structure Ak (CX : CXT) (n : Nat) (x : Str) (ps : List Str) (sp : W.Frag -> Sp) (P : Program) (w : World) (K : W.Frag) (mg : Str -> Option Value) (base : Heap) (f : Addr) (fd : FuncData) : Prop where
 G : FnOk P w K mg base CX n f fd ps (sp K)
 m : mg x = some (.ref f)
 k : W.keepIn K (.ref f) = true
 b : Binds K fd ps []
theorem usS {us : List Value} {n : Nat} (h : us.length = n + 1) : ∃ a v, us = a :: v /\ v.length = n := by
 cases us with
 | nil => cases h
 | cons a v => exact ⟨a, v, rfl, Nat.succ.inj h⟩
theorem us1 {us : List Value} (h : us.length = 1) : ∃ a0, us = [a0] := by
 obtain ⟨a0, v0, rfl, h0⟩ := usS h
 cases v0 with
 | nil => exact ⟨a0, rfl⟩
 | cons a v => cases h0
theorem us2 {us : List Value} (h : us.length = 2) : ∃ a0 a1, us = [a0, a1] := by
 obtain ⟨a0, v0, rfl, h0⟩ := usS h
 obtain ⟨a1, v1, rfl, h1⟩ := usS h0
 cases v1 with
 | nil => exact ⟨a0, a1, rfl⟩
 | cons a v => cases h1
theorem us3 {us : List Value} (h : us.length = 3) : ∃ a0 a1 a2, us = [a0, a1, a2] := by
 obtain ⟨a0, v0, rfl, h0⟩ := usS h
 obtain ⟨a1, v1, rfl, h1⟩ := usS h0
 obtain ⟨a2, v2, rfl, h2⟩ := usS h1
 cases v2 with
 | nil => exact ⟨a0, a1, a2, rfl⟩
 | cons a v => cases h2
end L2
namespace L2
open PySem PySem.Spec PyProof.Rows
section
variable {κ : Type} [DecidableEq κ]
def kh (kvs : List (κ × V)) (k : κ) : Option V := (kvs.find? fun kv => decide (kv.1 = k)).map (·.2)
def gF (kvs : List (κ × V)) (k : κ) (v : V) : List (κ × V) :=
 if (kvs.any fun kv => decide (kv.1 = k)) = true then kvs.map (fun kv => if kv.1 = k then (kv.1, v) else kv) else kvs ++ [(k, v)]
theorem mf {p : κ × V} {r : List (κ × V)} {k : κ} (e : p.1 = k) : kh (p :: r) k = some p.2 := by simp [kh, List.find?_cons, e]
theorem mI {p : κ × V} {r : List (κ × V)} {k : κ} (e : ¬ p.1 = k) : kh (p :: r) k = kh r k := by simp [kh, List.find?_cons, e]
theorem mv (k : κ) : ∀ kvs : List (κ × V), (kvs.any fun kv => decide (kv.1 = k)) = (kh kvs k).isSome
 | [] => rfl
 | p :: r => by
  rw [List.any_cons]
  by_cases e : p.1 = k
  ·simp only [mf e, decide_eq_true e, Bool.true_or, Option.isSome_some]
  ·rw [mI e, decide_eq_false e, Bool.false_or]; exact mv k r
theorem gM (kvs : List (κ × V)) (k : κ) (v : V) : (gF kvs k v).length <= kvs.length + 1 := by
 unfold gF
 split
 ·rw [List.length_map]; lia
 ·rw [List.length_append, List.length_cons, List.length_nil]; lia
theorem uT {kvs : List (κ × V)} {k : κ} (v : V) (h : kh kvs k = none) : gF kvs k v = kvs ++ [(k, v)] := by
 unfold gF
 rw [mv, h]
 exact if_neg (by decide)
theorem RelO.isSome_eq {o : Option V} {u : Option Value} (r : RelO o u) : o.isSome = u.isSome := by
 cases o with
 | none => cases u with
  | none => rfl
  | some _ => exact (show False from r).elim
 | some _ => cases u with
  | none => exact (show False from r).elim
  | some _ => rfl
theorem KV.val {kvs : List (κ × V)} {vs : List (κ × Value)} (r : KV kvs vs) (k : κ) : RelO (kh kvs k) (valueAt vs k) := by
 unfold KV at r
 induction r with
 | nil => exact True.intro
 | @cons p q ps qs h t ih =>
  obtain ⟨h1, h2⟩ := h
  by_cases e : p.1 = k
  ·have e' : q.1 = k := h1.symm.trans e
   have b : valueAt (q :: qs) k = some q.2 := by simp [valueAt, List.find?_cons, e']
   rw [mf e, b]; exact h2
  ·have e' : ¬ q.1 = k := fun z => e (h1.trans z)
   have b : valueAt (q :: qs) k = valueAt qs k := by simp [valueAt, List.find?_cons, e']
   rw [mI e, b]; exact ih
theorem KV.any {kvs : List (κ × V)} {vs : List (κ × Value)} (r : KV kvs vs) (k : κ) : (kvs.any fun kv => decide (kv.1 = k)) = vs.any fun kv => decide (kv.1 = k) := by
 unfold KV at r
 induction r with
 | nil => rfl
 | cons h t ih => rw [List.any_cons, List.any_cons, ih, h.1]
theorem KV.repl {kvs : List (κ × V)} {vs : List (κ × Value)} (r : KV kvs vs) (k : κ) {y : V} {u : Value} (ry : RelV y u) :
  KV (kvs.map fun kv => if kv.1 = k then (kv.1, y) else kv) (vs.map fun kv => if kv.1 = k then (kv.1, u) else kv) := by
 unfold KV at r ⊢
 induction r with
 | nil => exact .nil
 | @cons p q ps qs h t ih =>
  rw [List.map_cons, List.map_cons]
  refine .cons ?_ ih
  obtain ⟨h1, h2⟩ := h
  by_cases e : p.1 = k
  ·rw [if_pos e, if_pos (h1.symm.trans e)]; exact ⟨h1, ry⟩
  ·rw [if_neg e, if_neg (fun z => e (h1.trans z))]; exact ⟨h1, h2⟩
theorem KV.put {kvs : List (κ × V)} {vs : List (κ × Value)} (r : KV kvs vs) (k : κ) {y : V} {u : Value} (ry : RelV y u) : KV (gF kvs k y) (stored vs k u) := by
 unfold gF stored
 rw [r.any k]
 by_cases e : (vs.any fun kv => decide (kv.1 = k)) = true
 ·rw [if_pos e, if_pos e]; exact r.repl k ry
 ·rw [if_neg e, if_neg e]; exact Paired.snoc r ⟨rfl, ry⟩
theorem KV.length {kvs : List (κ × V)} {vs : List (κ × Value)} (r : KV kvs vs) : kvs.length = vs.length := Paired.length r
end
theorem yg {P : Program} {w : World} {k : Key} {u : Value} (r : RelV (kV k) u) : (bi P w).is k u = true := by
 cases k with
 | inl i => obtain ⟨t, e⟩ := (show ∃ t, u = Value.int i t from r); subst e; exact vW P w i t
 | inr x => obtain ⟨t, e⟩ := (show ∃ t, u = Value.str x t from r); subst e; exact uB P w x t
theorem sw {P : Program} {w : World} : ∀ {ks : List Key} {us : List Value}, Vals (ks.map kV) us -> ItemsAre (bi P w) ks us
 | [], _, r => by rw [List.map_nil] at r; cases r; exact .nil
 | k :: ks, _, r => by
  rw [List.map_cons] at r
  cases r with
  | cons h t => exact .cons (yg h) (sw t)
abbrev KT (H : Hp) : List (List Key × V) -> List (List Key × Addr × Value) -> Prop := Paired fun p q => p.1 = q.1 /\ H q.2.1 = some (.tup (p.1.map kV)) /\ RelV p.2 q.2.2
theorem KT.val {H : Hp} {kvs : List (List Key × V)} {xs : List (List Key × Addr × Value)} (r : KT H kvs xs) (k : List Key) : RelO (kh kvs k) ((atKey xs k).map (·.2)) := by
 induction r with
 | nil => exact True.intro
 | @cons p q ps qs h t ih =>
  obtain ⟨h1, _, h2⟩ := h
  by_cases e : p.1 = k
  ·have e' : q.1 = k := h1.symm.trans e
   have b : atKey (q :: qs) k = some q.2 := by simp [atKey, List.find?_cons, e']
   rw [mf e, b]; exact h2
  ·have e' : ¬ q.1 = k := fun z => e (h1.trans z)
   have b : atKey (q :: qs) k = atKey qs k := by simp [atKey, List.find?_cons, e']
   rw [mI e, b]; exact ih
theorem KT.repl {H : Hp} {kvs : List (List Key × V)} {xs : List (List Key × Addr × Value)} (r : KT H kvs xs) (k : List Key) {y : V} {u : Value} (ry : RelV y u) :
  KT H (kvs.map fun kv => if kv.1 = k then (kv.1, y) else kv) (xs.map (putAt k u)) := by
 induction r with
 | nil => exact .nil
 | @cons p q ps qs h t ih =>
  rw [List.map_cons, List.map_cons]
  refine .cons ?_ ih
  obtain ⟨h1, h2, h3⟩ := h
  unfold putAt
  by_cases e : p.1 = k
  ·rw [if_pos e, if_pos (h1.symm.trans e)]; exact ⟨h1, h2, ry⟩
  ·rw [if_neg e, if_neg (fun z => e (h1.trans z))]; exact ⟨h1, h2, h3⟩
theorem KT.put {H : Hp} {kvs : List (List Key × V)} {xs : List (List Key × Addr × Value)} (r : KT H kvs xs) (k : List Key) {b : Addr} {y : V} {u : Value} (hb : H b = some (.tup (k.map kV))) (ry : RelV y u) :
  KT H (gF kvs k y) (storedH xs k b u) := by
 have e : (kvs.any fun kv => decide (kv.1 = k)) = (atKey xs k).isSome := by
  rw [mv, (r.val k).isSome_eq, Option.isSome_map]
 unfold gF storedH
 rw [e]
 by_cases q : (atKey xs k).isSome = true
 ·rw [if_pos q, if_pos q]; exact r.repl k ry
 ·rw [if_neg q, if_neg q]; exact Paired.snoc r ⟨rfl, hb, ry⟩
theorem KT.keeps {H H' : Hp} {kvs : List (List Key × V)} {xs : List (List Key × Addr × Value)} (r : KT H kvs xs) (ht : ∀ b ys, H b = some (.tup ys) -> H' b = some (.tup ys)) : KT H' kvs xs :=
 Paired.mapP r fun _ _ z => ⟨z.1, ht _ _ z.2.1, z.2.2⟩
section
variable {P : Program} {w : World} {H : Hp} {h : Heap} {a : Addr}
theorem xP {u : HO} (ok : HOk P w H h) (e : Rd H a u) : ObjOk P w H h a u := e.ok ok
theorem Ax {kvs : List (Key × V)} (ok : HOk P w H h) (e : Rd H a (.dK kvs)) : kvs.length <= sizeLine /\ (a == sysModules) = false /\ ∃ vs, KV kvs vs /\ h.DictOf (bi P w) a vs :=
 show ObjOk P w H h a (.dK kvs) from xP ok e
theorem FL {kvs : List (Key × V)} (ok : HOk P w H h) (e : H a = some (.dK kvs)) : kvs.length <= sizeLine /\ (a == sysModules) = false /\ ∃ vs, KV kvs vs /\ h.DictOf (bi P w) a vs := Ax ok (.inl e)
theorem qS {ks : List Key} (ok : HOk P w H h) (e : H a = some (.tup (ks.map kV))) : (tupleKind (bi P w)).is h ks a := by
 obtain ⟨_, its, r, o, h1, h2, n, h3⟩ := (show ObjOk P w H h a (.tup (ks.map kV)) from ok a _ e)
 exact ⟨o, its.toArray, n, h1, h2, h3, by simpa using sw r⟩
theorem AL {kvs : List (List Key × V)} (ok : HOk P w H h) (e : Rd H a (.dT kvs)) : kvs.length <= sizeLine /\ (a == sysModules) = false /\
  ∃ xs, KT H kvs xs /\ h.DictOfH (tupleKind (bi P w)) a xs := by
 obtain ⟨z, y, xs, r, o, es, ep, h1, h2, h3, h4, h5⟩ := (show ObjOk P w H h a (.dT kvs) from xP ok e)
 refine ⟨z, y, xs, r, o, es, ep, h1, h2, h3, h4, fun x hx => ?_, h5⟩
 have all : ∀ {l : List (List Key × V)} {m : List (List Key × Addr × Value)}, KT H l m -> ∀ x ∈ m, (tupleKind (bi P w)).is h x.1 x.2.1 := by
  intro l m q
  induction q with
  | nil => intro x hx; exact nomatch hx
  | @cons p q ps qs hq t ih =>
   intro x hx
   rcases List.mem_cons.mp hx with e | hx
   ·subst e
    exact qS ok (by rw [<- hq.1]; exact hq.2.1)
   ·exact ih x hx
 exact all r x hx
theorem Bz {kvs : List (List Key × V)} (ok : HOk P w H h) (e : H a = some (.dT kvs)) : kvs.length <= sizeLine /\ (a == sysModules) = false /\
  ∃ xs, KT H kvs xs /\ h.DictOfH (tupleKind (bi P w)) a xs := AL ok (.inl e)
end
def Cs (H : Hp) (a : Addr) (y : V) (r : Option V) : Prop :=
 (∃ kvs k, Rd H a (.dK kvs) /\ y = kV k /\ r = kh kvs k) \/ ∃ kvs k b, Rd H a (.dT kvs) /\ y = .ref b /\ H b = some (.tup (k.map kV)) /\ r = kh kvs k
def Fc (H : Hp) (a : Addr) (y v : V) (H' : Hp) : Prop :=
 (∃ kvs k, H a = some (.dK kvs) /\ y = kV k /\ kvs.length < sizeLine /\ H' = upd H a (.dK (gF kvs k v))) \/
 ∃ kvs k b, H a = some (.dT kvs) /\ y = .ref b /\ H b = some (.tup (k.map kV)) /\ kvs.length < sizeLine /\ H' = upd H a (.dT (gF kvs k v))
section
variable {X : Cx} {pins : List (Addr × Obj)} {σ : St} {H : Hp} {s : Shared} {a : Addr} {y v : V} {u r : Value} {o : Option V} {A : Around} {E : Value -> Shared -> Prop}
theorem Inv.big (I : Inv X pins σ H s) : sysModules < s.heap.objs.size := by
 have h : mainGlobals < s.heap.objs.size := (I.mod.glob.keeps I.bk).lt
 exact Nat.lt_trans (by decide) h
theorem HQ {Q : Value -> Shared -> Prop} (hu : A.units + 1 < cLine) (I : Inv X pins σ H s) (g : Cs H a y o) (ry : RelV y u) (h : ∀ s', Inv X pins σ H s' -> Q (.bool o.isSome) s') :
  wpAny (model X.prog X.w) A (compareOp .In u (.ref a)) Q E s := by
 rcases g with ⟨kvs, k, e, ey, l⟩ | ⟨kvs, k, b, e, ey, eb, l⟩
 ·subst ey
  obtain ⟨z, hd, vs, rel, dd⟩ := Ax I.hok e
  refine wpAny_in_of (yg ry) hd dd.mapOf ?_
  rw [<- (rel.val k).isSome_eq, <- l]
  exact h _ (I.tok _)
 ·subst ey
  cases (show u = Value.ref b from ry)
  obtain ⟨z, hd, xs, rel, dd⟩ := AL I.hok e
  refine wpAny_in_heap (tupleKind_room_in1 hu) (qS I.hok eb) hd dd ?_
  have q := (rel.val k).isSome_eq
  rw [Option.isSome_map] at q
  rw [<- q, <- l]
  exact h _ (I.tok _)
theorem CI {Q : Value -> Shared -> Prop} (hu : A.units + 1 < cLine) (I : Inv X pins σ H s) (g : Cs H a y o) (ry : RelV y u) (h : ∀ s', Inv X pins σ H s' -> Q (.bool (!o.isSome)) s') :
  wpAny (model X.prog X.w) A (compareOp .NotIn u (.ref a)) Q E s := by
 rcases g with ⟨kvs, k, e, ey, l⟩ | ⟨kvs, k, b, e, ey, eb, l⟩
 ·subst ey
  obtain ⟨z, hd, vs, rel, dd⟩ := Ax I.hok e
  refine wpAny_notIn_of (yg ry) hd dd.mapOf ?_
  rw [<- (rel.val k).isSome_eq, <- l]
  exact h _ (I.tok _)
 ·subst ey
  cases (show u = Value.ref b from ry)
  obtain ⟨z, hd, xs, rel, dd⟩ := AL I.hok e
  refine wpAny_notIn_heap (tupleKind_room_in1 hu) (qS I.hok eb) hd dd ?_
  have q := (rel.val k).isSome_eq
  rw [Option.isSome_map] at q
  rw [<- q, <- l]
  exact h _ (I.tok _)
theorem oD {h' : Heap} {t' : Nat} {ob : HO} (I : Inv X pins σ H s) (mu : Mut (H a)) (hs : Heap.SameBut a s.heap h') (he : ∃ q, h'.get? a = some q) (new : ObjOk X.prog X.w (upd H a ob) h' a ob) :
  Inv X pins σ (upd H a ob) { s with heap := h', toks := t' } :=
 I.write (x := a) (e := a) mu (.inl rfl) (fun b q hb z => (hs.2 b hb).trans z) he new
theorem Eo {P : Program} {w : World} {H' : Hp} {h' : Heap} {kvs : List (Key × V)} {vs : List (Key × Value)} (z : kvs.length <= sizeLine) (hd : (a == sysModules) = false) (rel : KV kvs vs) (dd : h'.DictOf (bi P w) a vs) :
  ObjOk P w H' h' a (.dK kvs) := ⟨z, hd, vs, rel, dd⟩
theorem zL {H' : Hp} {Q : Unit -> Shared -> Prop} (hu : A.units + 1 < cLine) (I : Inv X pins σ H s) (g : Fc H a y v H') (ry : RelV y u) (rv : RelV v r) (h : ∀ s', Inv X pins σ H' s' -> Q () s') :
  wpAny (model X.prog X.w) A (setItem (.ref a) u r) Q E s := by
 rcases g with ⟨kvs, k, e, ey, l, eH⟩ | ⟨kvs, k, b, e, ey, eb, l, eH⟩
 ·subst ey eH
  obtain ⟨z, hd, vs, rel, dd⟩ := FL I.hok e
  have hz : vs.length <= sizeLine := by rw [<- rel.length]; exact z
  have hl : (gF kvs k v).length <= sizeLine := by have := gM kvs k v; lia
  refine wpAny_setItem_pairs (hsz := hz) (yg ry) dd fun h' dd' hs => h _ ?_
  have he : ∃ q, h'.get? a = some q := let ⟨q, _, _, hq, _⟩ := dd'; ⟨q, hq⟩
  exact oD I (by rw [e]; exact True.intro) hs he (Eo hl hd (rel.put k rv) dd')
 ·subst ey eH
  cases (show u = Value.ref b from ry)
  obtain ⟨z, hd, xs, rel, dd⟩ := Bz I.hok e
  have hz : xs.length <= sizeLine := by rw [<- Paired.length rel]; exact z
  have hl : (gF kvs k v).length <= sizeLine := by have := gM kvs k v; lia
  refine wpAny_setItem_heap (hsz := hz) (tupleKind_room_in1 hu) (qS I.hok eb) dd fun h' dd' hs => h _ ?_
  obtain ⟨q, es, ep, hq, h2, h3, h4, _, h5⟩ := dd'
  refine oD I (by rw [e]; exact True.intro) hs ⟨q, hq⟩ ⟨hl, hd, _, (rel.put k eb rv).keeps fun c ys ec => ?_, q, es, ep, hq, h2, h3, h4, h5⟩
  rw [aB (vf ec e (fun z => nomatch z))]
  exact ec
end
section
variable {X : Cx} {pins : List (Addr × Obj)} {σ : St} {H : Hp} {s : Shared} {a : Addr} {kvs : List (Key × V)} {k : Key} {u : Value} {A : Around} {E : Value -> Shared -> Prop}
end
def FO (ty td : TE) : TE := fun σ H Q => ty σ H fun y H1 => td σ H1 fun x H2 => ∃ a o, x = .ref a /\ Cs H2 a y o /\ Q (.bl o.isSome) H2
def ye (ty td : TE) : TE := fun σ H Q => ty σ H fun y H1 => td σ H1 fun x H2 => ∃ a o, x = .ref a /\ Cs H2 a y o /\ Q (.bl (!o.isSome)) H2
def CZ (td ty tv : TE) : TS := fun D σ H => tv σ H fun v H1 => td σ H1 fun x H2 => ty σ H2 fun y H3 => ∃ a H4, x = .ref a /\ Fc H3 a y v H4 /\ D.nx σ H4
section
variable {X : Cx} {o i e value : Expr} {pos pos' tpos : Pos} {td ty tv : TE}
theorem EC (hu : X.A.units + 1 < cLine) (hi : PE X i ty) (ho : PE X o td) : PC X .In i o (FO ty td) := by
 intro pins s σ H Q I h
 refine thn (hi pins s σ H _ I h) fun iv s1 ⟨y, H1, I1, ry, q1⟩ => thn (ho pins s1 σ H1 _ I1 q1) fun u s2 hpt9 => ?_
 obtain ⟨x, H2, I2, rx, a, ov, ex, g, q2⟩ := hpt9
 subst ex
 obtain rfl : u = Value.ref a := rx
 exact HQ hu I2 g ry fun s3 I3 => ⟨.bl ov.isSome, H2, I3, rfl, q2⟩
theorem rT (hu : X.A.units + 1 < cLine) (hi : PE X i ty) (ho : PE X o td) : PC X .NotIn i o (ye ty td) := by
 intro pins s σ H Q I h
 refine thn (hi pins s σ H _ I h) fun iv s1 ⟨y, H1, I1, ry, q1⟩ => thn (ho pins s1 σ H1 _ I1 q1) fun u s2 hpt9 => ?_
 obtain ⟨x, H2, I2, rx, a, ov, ex, g, q2⟩ := hpt9
 subst ex
 obtain rfl : u = Value.ref a := rx
 exact CI hu I2 g ry fun s3 I3 => ⟨.bl (!ov.isSome), H2, I3, rfl, q2⟩
theorem Co (hu : X.A.units + 1 < cLine) (ho : PE X o td) (hi : PE X i ty) (hv : PE X value tv) (hs : swapsWith value (some (.Subscript o i pos')) pos.line X.env = pure false) :
  PS X (.Assign [.Subscript o i pos'] value pos) (CZ td ty tv) := by
 intro pins s σ H D I h
 refine wpAny_Assign_Subscript (thn (hv pins s σ H _ I h) fun r s1 ⟨v, H1, I1, rv, q1⟩ => thn (ho pins s1 σ H1 _ I1 q1) fun u s2 ⟨x, H2, I2, rx, q2⟩ => thn (hi pins s2 σ H2 _ I2 q2) fun iv s3 hpt9 => ?_) hs
 obtain ⟨y, H3, I3, ry, a, H4, ex, g, q3⟩ := hpt9
 subst ex
 obtain rfl : u = Value.ref a := rx
 exact zL hu I3 g ry rv fun s4 I4 => ⟨σ, H4, I4, q3⟩
end
theorem pk {P : Program} {w : World} {H : Hp} (h : Heap) (hb : sysModules < h.objs.size) : ObjOk P w H (h.push { cls := .type "dict", data := .dict #[] }) h.objs.size (.dT []) :=
 ⟨Nat.zero_le _, beq_eq_false_iff_ne.mpr (Ne.symm (Nat.ne_of_lt hb)), [], .nil, _, #[], 0, Heap.get?_push_size _ rfl, ⟨rfl, rfl, rfl⟩, rfl, rfl, List.nodup_nil⟩
def Bl : TE := fun _ H Q => ∀ p, H p = none -> Q (.ref p) (upd H p (.dT []))
section
variable {X : Cx} {pos : Pos}
theorem AH : PE X (.Dict [] [] pos) Bl := fun pins s σ H Q I h =>
 wpAny_Dict_empty ⟨.ref s.heap.objs.size, _, I.laid (a := s.heap.objs.size) (o := .dT []) (t' := s.toks) (fun _ _ q => Heap.get?_push_of_some _ q) (Nat.le_refl _) (pk s.heap I.big), rfl, h _ (I.hok.fresh (Nat.le_refl _))⟩
end
def wj : List (TE × TE) -> St -> Hp -> (List (V × V) -> Hp -> Prop) -> Prop
 | [], _, H, Q => Q [] H
 | (tk, tv) :: r, σ, H, Q => tk σ H fun x H1 => tv σ H1 fun y H2 => wj r σ H2 fun ps H3 => Q ((x, y) :: ps) H3
abbrev VV : List (V × V) -> List (Value × Value) -> Prop := Paired fun p q => RelV p.1 q.1 /\ RelV p.2 q.2
def PPs (X : Cx) (pos : Pos) (keys : List (Option Expr)) (values : List Expr) (trs : List (TE × TE)) : Prop :=
 ∀ (pins : List (Addr × Obj)) (s : Shared) (σ : St) (H : Hp) (Q : List (V × V) -> Hp -> Prop), Inv X pins σ H s -> wj trs σ H Q ->
  wpAny (model X.prog X.w) X.A (evalPairs (pairTrees keys values X.env pos)) (fun vs s' => ∃ ps H', Inv X pins σ H' s' /\ VV ps vs /\ Q ps H') X.xe s
theorem CK {X : Cx} {pos : Pos} : PPs X pos [] [] [] := fun pins s σ H Q I h => pairTrees_nil_walk ⟨[], H, I, .nil, h⟩
theorem AZ {X : Cx} {pos : Pos} {k v : Expr} {ks : List (Option Expr)} {vs : List Expr} {tk tv : TE} {trs : List (TE × TE)} (hk : PE X k tk) (hv : PE X v tv) (hr : PPs X pos ks vs trs) :
  PPs X pos (some k :: ks) (v :: vs) ((tk, tv) :: trs) := fun pins s σ H Q I h =>
 pairTrees_cons_walk (thn (hk pins s σ H _ I h) fun u s1 ⟨x, H1, I1, rx, q1⟩ => thn (hv pins s1 σ H1 _ I1 q1) fun w2 s2 ⟨y, H2, I2, ry, q2⟩ =>
  thn (hr pins s2 σ H2 _ I2 q2) fun ws s3 ⟨ps, H3, I3, rel, q3⟩ => ⟨(x, y) :: ps, H3, I3, .cons ⟨rx, ry⟩ rel, q3⟩)
structure M2 (X : Cx) (o : Expr) (m : Str) (apos : Pos) (e f : Expr) (cpos : Pos) : Prop where
 base : attributeBase o m X.env (eval o X.env) = eval o X.env
 few : ((backTo cpos (starEach [e, f] X.env)).all (fun x => !x.1) && (backToKw cpos (keywordEach [] X.env)).all (fun x => x.1.isSome)
  && decide (([e, f] : List Expr).length + ([] : List Keyword).length + (if ([] : List Keyword).isEmpty then 0 else 1) < 30)) = true
 line : (apos.endLine == cpos.line) = true
 trees : backTo cpos (starEach [e, f] X.env) = [(false, eval e X.env), (false, eval f X.env)]
section
variable {X : Cx} {pins : List (Addr × Obj)} {σ : St} {H : Hp} {s : Shared} {a : Addr} {y d : V} {u r : Value} {o : Option V} {A : Around} {E : Value -> Shared -> Prop}
end
section
variable {X : Cx} {o e f : Expr} {apos cpos : Pos} {td ty tx : TE}
end
end L2
namespace PySem
namespace DX
theorem tL : typeLookup (.type "list") "keys" = pure none := by rw [typeLookup_type, builtinLookup_eq_fast]; kernel_rfl
theorem wK : typeLookup (.type "list") "__getattr__" = pure none := by rw [typeLookup_type, builtinLookup_eq_fast]; kernel_rfl
theorem kH : isSubtype (.type "AttributeError") (.type "AttributeError") = pure true := by rw [isSubtype_type]; kernel_rfl
theorem xy : ((Manifest.find? "AttributeError").elim false fun t => t.mro.contains "StopIteration" || t.mro.contains "SystemExit") = false := by first | rfl | kernel_rfl | decide +kernel
section
variable {prog : Program} {w : World} {A : Around} {E : Value -> Shared -> Prop} {s : Shared} {a : Addr} {its : Array Value} {n : Nat} {α : Type}
theorem zo {msg nm : Str} {Q : α -> Shared -> Prop} (hh : A.handled = none) (hm : msg.length <= sizeLine) (hq : ∀ h' tk' e oe, (∀ b o, s.heap.get? b = some o -> h'.get? b = some o) -> h'.get? e = some oe -> oe.cls = .type "AttributeError" -> E (.ref e) { s with heap := h', toks := tk' }) :
  wpAny (model prog w) A (raiseAttrError (.ref a) nm msg : Sem α) Q E s := by
 unfold raiseAttrError
 refine wpAny_bind (wpAny_mkStr (wpAny_bind ?_) hm)
 unfold newExc newTuple
 refine wpAny_bind (wpAny_newObj_type ?_ (by size_fits))
 refine wpAny_bind (m := firstArgMember _ _) (wpAny_of_eq (a := Value.none) (by simp only [firstArgMember, xy]; rfl) ?_)
 refine wpAny_newObj_type ?_ (by size_fits)
 refine wpAny_bind (wpAny_mkText ?_)
 refine wpAny_bind ?_
 have f1 := kH
 unfold noteAttr lacksNameAndObj
 have ho := Heap.get?_push_size (s.heap.push { cls := .type "tuple", data := .seq [Value.str msg s.toks].toArray }) (o := { cls := .type "AttributeError", data := .fields (#[.ref s.heap.objs.size, .none, .none, .none, .bool false, .none] ++ ownMembersOf (.type "AttributeError") [Value.str msg s.toks]) }) rfl
 have hT : ({ s with heap := (s.heap.push { cls := .type "tuple", data := .seq [Value.str msg s.toks].toArray }).push { cls := .type "AttributeError", data := .fields (#[.ref s.heap.objs.size, .none, .none, .none, .bool false, .none] ++ ownMembersOf (.type "AttributeError") [Value.str msg s.toks]) } } : Shared).TypeIs (.ref (s.heap.push { cls := .type "tuple", data := .seq [Value.str msg s.toks].toArray }).objs.size) "AttributeError" := ⟨_, ho, rfl⟩
 repeat (any_goals (first | assumption | wp_step))
 unfold raiseNew
 refine wpAny_bind (wpAny_handled ?_)
 rw [hh]
 first
  | refine wpAny_throw ?_
  | refine wpAny_bind (wpAny_pure (wpAny_throw ?_))
 have hu := Heap.get?_update_self (Obj.mapFields fun vs => vs.extract 0 6 ++ #[Value.str nm s.toks, .ref a]) ho (Obj.isFreed_of_fields (Obj.data_mapFields rfl _))
 refine hq _ _ _ _ (fun b o hb => ?_) (Heap.get?_update_self _ ho (Obj.isFreed_of_fields (Obj.data_mapFields rfl _))) (Obj.cls_mapFields _ _)
 rw [Heap.get?_update_other _ _ (Nat.ne_of_gt (Nat.lt_of_lt_of_le (Heap.lt_size hb) (by simp)))]
 exact Heap.get?_push_of_some _ (Heap.get?_push_of_some _ hb)
theorem oi {tk : Tok} {Q : Fin -> Shared -> Prop} (hh : A.handled = none) (hx : s.heap.get? a = some { cls := .type "list", data := .seq its n }) (hq : ∀ h' tk' e oe, (∀ b o, s.heap.get? b = some o -> h'.get? b = some o) -> h'.get? e = some oe -> oe.cls = .type "AttributeError" -> E (.ref e) { s with heap := h', toks := tk' }) :
  wpAny (model prog w) A (Builtin.«object.__getattribute__» ⟨[.ref a, .str "keys" tk], []⟩) Q E s := by
 obtain ⟨h, g, d, t, os⟩ := s
 have hT : (⟨h, g, d, t, os⟩ : Shared).TypeIs (.ref a) "list" := ⟨_, hx, rfl⟩
 have f4 := tL
 repeat (any_goals (first | assumption | wp_step))
 all_goals (try dsimp only)
 repeat (any_goals (first | assumption | wp_step))
 exact zo hh (by rw [sizeLine_eq]; decide +kernel) hq
theorem sg {Q : Option Value -> Shared -> Prop} (hh : A.handled = none) (hx : s.heap.get? a = some { cls := .type "list", data := .seq its n }) (hq : ∀ h' tk', (∀ b o, s.heap.get? b = some o -> h'.get? b = some o) -> Q none { s with heap := h', toks := tk' }) :
  wpAny (model prog w) A (getAttr? (.ref a) "keys") Q E s := by
 obtain ⟨h, g, d, t, os⟩ := s
 have hT : (⟨h, g, d, t, os⟩ : Shared).TypeIs (.ref a) "list" := ⟨_, hx, rfl⟩
 have f2 := F.slot_list_getattribute.lookup
 have f3 := F.slot_list_getattribute.bind (.ref a)
 have f5 := wK
 have f6 := kH
 unfold getAttr? getAttrBy? getAttrBy getAttrByItsOwn callGetattribute boundAndCalled
 repeat (any_goals (first | assumption | wp_step))
 refine codeAny_call_builtin F.slot_list_getattribute.plain F.entry_list_ga (F.slot_list_getattribute.check _ _ _ _ _ _ _ _ hT (F.args_list_getattribute_2 _ _) (oi (by exact hh) hx fun h' tk' e oe hk he hc => ?_))
 have hTe : (⟨h', g, d, tk', os⟩ : Shared).TypeIs (.ref e) "AttributeError" := ⟨oe, he, hc⟩
 dsimp only
 unfold getattributeRaised
 refine wpAny_bind (wpAny_isInstance (T := "AttributeError") (b := true) hTe f6 ?_)
 rw [if_pos rfl]
 refine wpAny_bind ?_
 unfold hookBehind
 rw [if_neg (by decide)]
 refine wpAny_of_eq f5 ?_
 unfold hookOrError
 dsimp only
 unfold attributeErrorLeaves
 simp only [Bool.not_false, if_true]
 first
  | refine wpAny_throw ?_
  | refine wpAny_bind (wpAny_throw ?_)
 refine wpAny_bind (wpAny_isInstance (T := "AttributeError") (b := true) hTe f6 ?_)
 rw [if_pos rfl]
 exact wpAny_pure (hq h' tk' hk)
end
theorem qN : entryFor table "dict.update.loop" = some Builtin.«dict.update.loop» := entryFor_of_tree (by kernel_rfl)
theorem fY : plainId "dict.update.loop" = true := by decide +kernel
end DX
end PySem
namespace L2
open PySem PySem.Spec PyProof.Rows
section
variable {X : Cx} {pins : List (Addr × Obj)} {σ : St} {H : Hp} {s : Shared} {a b : Addr} {kvs : List (List Key × V)} {k : List Key} {v : V} {r : Value} {A : Around} {E : Value -> Shared -> Prop}
theorem xW {Q : Unit -> Shared -> Prop} (hu : (tupleKind (bi X.prog X.w)).room A) (I : Inv X pins σ H s) (e : H a = some (.dT kvs)) (eb : H b = some (.tup (k.map kV))) (l : kvs.length < sizeLine) (rv : RelV v r)
  (h : ∀ s', Inv X pins σ (upd H a (.dT (gF kvs k v))) s' -> Q () s') : wpAny (model X.prog X.w) A (dictSet a (.ref b) r) Q E s := by
 obtain ⟨z, hd, xs, rel, dd⟩ := Bz I.hok e
 have hz : xs.length <= sizeLine := by rw [<- Paired.length rel]; exact z
 have hl : (gF kvs k v).length <= sizeLine := by have := gM kvs k v; lia
 refine wpAny_dictSet_heap (hsz := hz) hu (qS I.hok eb) dd fun h' dd' hs => h _ ?_
 obtain ⟨q, es, ep, hq, h2, h3, h4, _, h5⟩ := dd'
 refine oD I (by rw [e]; exact True.intro) hs ⟨q, hq⟩ ⟨hl, hd, _, (rel.put k eb rv).keeps fun c ys ec => ?_, q, es, ep, hq, h2, h3, h4, h5⟩
 rw [aB (vf ec e (fun z => nomatch z))]
 exact ec
end
def Bf (tk tv : TE) : TE := fun σ H Q => ∀ p, H p = none -> wj [(tk, tv)] σ (upd H p (.dT [])) fun ps H2 => ∃ b ks y, ps = [(V.ref b, y)] /\ H2 b = some (.tup (ks.map kV)) /\ H2 p = some (.dT []) /\ Q (.ref p) (upd H2 p (.dT [(ks, y)]))
theorem Aa {X : Cx} {pos : Pos} {k v : Expr} {tk tv : TE} (hu : (tupleKind (bi X.prog X.w)).room X.A) (hk : PE X k tk) (hv : PE X v tv) : PE X (.Dict [some k] [v] pos) (Bf tk tv) := by
 intro pins s σ H Q I q
 have hn := I.hok.fresh (Nat.le_refl s.heap.objs.size)
 have I1 := I.laid (a := s.heap.objs.size) (o := .dT []) (h' := s.heap.push { cls := .type "dict", data := .dict #[] }) (t' := s.toks) (fun _ _ q => Heap.get?_push_of_some _ q) (Nat.le_refl _) (pk s.heap I.big)
 have hne : pairTrees [some k] [v] X.env pos ≠ [] := fun e => by
  have := pairTrees_length [some k] [v] X.env pos rfl rfl
  rw [e] at this
  cases this
 have hlen : (pairTrees [some k] [v] X.env pos).length <= 15 := by rw [pairTrees_length [some k] [v] X.env pos rfl rfl]; show 1 <= 15; decide
 rw [arm_eval_Dict, zip_pairTrees [some k] [v] X.env pos rfl rfl, dictDisplay_pairs _ hne (by lia)]
 refine wpAny_bind (wpAny_standAt (wpAny_bind ?_))
 unfold subDict
 refine wpAny_bind (wpAny_alloc ?_)
 refine wpAny_bind (wpAny_holding ?_)
 rw [if_pos hlen]
 refine wpAny_bind (thn (AZ hk hv CK pins _ σ _ _ I1 (q _ hn)) fun ws s2 h2 => ?_)
 obtain ⟨ps, H2, I2, rel, b, ks, y, rfl, eb, ep, q2⟩ := h2
 cases rel with
 | @cons _ u _ _ r1 r2 =>
  cases r2
  obtain ⟨u1, u2⟩ := u
  cases (show u1 = Value.ref b from r1.1)
  refine wpAny_holding ?_
  refine wpAny_bind ?_
  rw [List.forIn_cons]
  refine wpAny_bind (wpAny_bind (xW hu I2 ep eb (by show 0 < sizeLine; rw [sizeLine_eq]; decide) r1.2 fun s' I' => wpAny_pure ?_))
  dsimp only
  rw [List.forIn_nil]
  refine wpAny_pure (wpAny_pure (wpAny_pure (wpAny_pure ⟨.ref s.heap.objs.size, _, I', rfl, ?_⟩)))
  have : gF ([] : List (List Key × V)) ks y = [(ks, y)] := uT y rfl
  rw [this]
  exact q2
def jb (kvs : List (List Key × V)) (es : List (List Key × V)) : List (List Key × V) := es.foldl (fun acc kv => gF acc kv.1 kv.2) kvs
def rUpd : V -> List V -> Hp -> VK -> Prop := fun x vs H Q => ∃ a l kvs, ∃ es : List (Addr × Addr × List Key × V), x = .ref a /\ vs = [.ref l] /\ H a = some (.dT kvs) /\ H l = some (.lst (es.map fun e => .ref e.1)) /\ (∀ e ∈ es, H e.1 = some (.tup [.ref e.2.1, e.2.2.2]) /\ H e.2.1 = some (.tup (e.2.2.1.map kV))) /\
 kvs.length + es.length < sizeLine /\ Q .non (upd H a (.dT (jb kvs (es.map fun e => (e.2.2.1, e.2.2.2)))))
section
variable {X : Cx} {pins : List (Addr × Obj)} {σ : St} {A : Around} {a l it : Addr} {xs : List V}
theorem qV {R : Result -> Shared -> Prop} (hu : (tupleKind (bi X.prog X.w)).room A.in1) (hh : A.in1.handled = none) : ∀ (es : List (Addr × Addr × List Key × V)) (i : Nat) (kvs : List (List Key × V)) (H : Hp) (s : Shared), Inv X pins σ H s -> H a = some (.dT kvs) ->
  qW X pins H it -> s.heap.IsListIter it l i -> H l = some (.lst xs) -> xs.drop i = es.map (fun e => V.ref e.1) -> (∀ e ∈ es, H e.1 = some (.tup [.ref e.2.1, e.2.2.2]) /\ H e.2.1 = some (.tup (e.2.2.1.map kV))) -> kvs.length + es.length < sizeLine ->
  (∀ s', Inv X pins σ (upd H a (.dT (jb kvs (es.map fun e => (e.2.2.1, e.2.2.2))))) s' -> R (.ok (.ret .none)) s') ->
  codeAny (model X.prog X.w) A (.builtin "dict.update.loop" ⟨[.ref a, .ref it, rawInt i, .none], []⟩) R s
 | [], i, kvs, H, s, I, ea, fo, hit, el, hd, _, _, hR => by
  obtain ⟨its, rl, pl, _⟩ := I.list (.inl (.inl el))
  have hx : its.toArray[i]? = none := by
   have h1 : xs.length <= i := by
    have := congrArg List.length hd
    rw [List.length_drop] at this
    simpa [Nat.sub_eq_zero_iff_le] using this
   have := rl.length
   simp
   lia
  refine codeAny_builtin DX.qN ?_
  rw [Around.under_plainId DX.fY _]
  show wpAny _ A.in1 (pyNext (.ref it) >>= _) _ _ s
  refine wpAny_bind (wpAny_pyNext_list_end hh hit pl.isList hx fun h' he => ?_)
  show wpAny _ A.in1 (Builtin.Dict.addKeywords a [] >>= _) _ _ _
  refine wpAny_bind (wpAny_pure (wpAny_pure (hR _ ?_)))
  have e0 : upd H a (.dT (jb kvs (([] : List (Addr × Addr × List Key × V)).map fun e => (e.2.2.1, e.2.2.2)))) = H := by
   funext c
   unfold upd
   split
   ·rename_i z; rw [z, ea]; rfl
   ·rfl
  rw [e0]
  exact I.turned (t' := s.toks) (it := it) (fun b o hb e => he b o hb e) fo.1 fo.2.1 fo.2.2.2.1 fo.2.2.2.2.1 fo.2.2.2.2.2
 | e :: es, i, kvs, H, s, I, ea, fo, hit, el, hd, he, hl, hR => by
  obtain ⟨its, rl, pl, _⟩ := I.list (.inl (.inl el))
  obtain ⟨e1, e2⟩ := he e List.mem_cons_self
  have hxi : xs[i]? = some (V.ref e.1) := by
   have := congrArg (fun l : List V => l[0]?) hd
   simpa [List.getElem?_drop] using this
  obtain ⟨u, hui, ru⟩ := rl.get hxi
  cases (show u = Value.ref e.1 from ru)
  refine codeAny_builtin DX.qN ?_
  rw [Around.under_plainId DX.fY _]
  show wpAny _ A.in1 (pyNext (.ref it) >>= _) _ _ s
  refine wpAny_bind (wpAny_pyNext_list_item hit pl.isList (x := .ref e.1) (by simpa using hui) fun h' hit' hs => ?_)
  have I1 : Inv X pins σ H { s with heap := h' } := I.turned (t' := s.toks) (it := it) (fun b o hb e => hs.extBut b o hb e) fo.1 fo.2.1 fo.2.2.2.1 fo.2.2.2.2.1 fo.2.2.2.2.2
  have P1 := I1.pinned (fp := [it]) (fun b hb => by rw [List.mem_singleton.mp hb]; exact fo) (fun b hb => by
   rw [List.mem_singleton.mp hb]
   obtain ⟨o, ho, _, hd⟩ := hit'
   exact ⟨o, ho, fun v z => by rw [hd] at z; cases z⟩)
  obtain ⟨its2, rl2, pl2, _⟩ := I1.tuple (.inl (.inl e1))
  obtain ⟨u1, u2, e3, r1, r2⟩ := Vals.two rl2
  subst e3
  cases (show u1 = Value.ref e.2.1 from r1)
  have body : wpAny (model X.prog X.w) A.in1 (dictSet a (.ref e.2.1) u2) (fun _ s' => Inv X (pins ++ mZ [it] h') σ (upd H a (.dT (gF kvs e.2.2.1 e.2.2.2))) s') (fun e s' => R (.error e) s') { s with heap := h' } :=
   xW hu P1 ea e2 (by rw [List.length_cons] at hl; lia) r2 fun s' I' => I'
  refine wpAny_bind (wpAny_holding (wpAny_bind ?_))
  refine wpAny_tryCatch (m := Builtin.Dict.pairItems (.ref e.1)) ?_
  obtain ⟨ot, hot, hct, nt, hdt⟩ := pl2
  unfold Builtin.Dict.pairItems
  refine wpAny_bind (wpAny_typeOf (T := "tuple") ⟨ot, hot, hct⟩ ?_)
  rw [if_pos (by decide)]
  refine wpAny_bind (wpAny_seqItems hot hdt (wpAny_pure ?_))
  show wpAny _ A.in1 (holding [.ref e.2.1, u2] (dictSet a (.ref e.2.1) u2)) _ _ _
  refine wpAny_holding (wpAny_mono body (fun _ s' I' => ?_) fun _ _ z => z)
  have na : it ≠ a := fun z => by have f0 := fo.1; rw [z, ea] at f0; cases f0
  have nl : l ≠ a := vf el ea (fun z => nomatch z)
  refine wpAny_pure ⟨plainId_quiet DX.fY _, ?_⟩
  show codeAny (model X.prog X.w) A (.builtin "dict.update.loop" ⟨[.ref a, .ref it, rawInt ((i + 1 : Nat) : Int), .none], []⟩) R s'
  have tn : ∀ c ys, H c = some (.tup ys) -> upd H a (.dT (gF kvs e.2.2.1 e.2.2.2)) c = some (.tup ys) := fun c ys z => by rw [aB (vf z ea (fun z => nomatch z))]; exact z
  refine qV hu hh es (i + 1) (gF kvs e.2.2.1 e.2.2.2) _ s' I'.unpinned aC ⟨by rw [aB na]; exact fo.1, fo.2⟩ ?_ (by rw [aB nl]; exact el) ?_ (fun e' h' => ?_) ?_ fun s2 I2 => hR s2 ?_
  ·obtain ⟨o, ho, hc2, hd2⟩ := hit'
   exact ⟨o, (I'.pin (it, o) (List.mem_append_right _ (List.mem_append_right _ (fW (List.mem_singleton.mpr rfl) ho)))).1, hc2, hd2⟩
  ·have := congrArg List.tail hd
   rw [List.tail_drop] at this
   exact this
  ·obtain ⟨z1, z2⟩ := he e' (List.mem_cons_of_mem _ h')
   exact ⟨tn _ _ z1, tn _ _ z2⟩
  ·have := gM kvs e.2.2.1 e.2.2.2
   rw [List.length_cons] at hl
   lia
  ·rw [xM] at I2
   exact I2
theorem yO (hu : (tupleKind (bi X.prog X.w)).room X.A.in1) (hc : X.calm = true) : MtR X "dict.update" rUpd := by
 intro pins s σ H x vs v us Q I rx rv h
 obtain ⟨a, l, kvs, es, rfl, rfl, ea, el, he, hl, q⟩ := h
 cases (show v = Value.ref a from rx)
 obtain ⟨u, rfl, ru⟩ := rv.one
 cases (show u = Value.ref l from ru)
 obtain ⟨z, hd, xs, rel, dd⟩ := Bz I.hok ea
 obtain ⟨oa, esd, epd, hoa, hxa, _⟩ := id dd
 have hTa : s.TypeIs (.ref a) "dict" := ⟨oa, hoa, hxa.1⟩
 obtain ⟨hll, its, n, rl, hol⟩ := (show ObjOk X.prog X.w H s.heap l (.lst (es.map fun e => V.ref e.1)) from I.hok l _ el)
 have hTl : s.TypeIs (.ref l) "list" := ⟨_, hol, rfl⟩
 have hh : X.A.in1.handled = none := I.ok.hd hc
 refine wpAny_call (codeAny_call_builtin F.slot_dict_update.plain F.entry_dict_update (F.slot_dict_update.check _ _ _ _ _ _ _ _ hTa (F.args_dict_update_2 _ _) ?_))
 unfold Builtin.«dict.update»
 refine wpAny_bind ?_
 unfold Builtin.Dict.selfAndRest
 refine wpAny_bind (wpAny_notOrdered_dict hTa ?_)
 show wpAny _ _ (pure (a, [Value.ref l])) _ _ s
 refine wpAny_pure ?_
 show wpAny _ _ (Builtin.Dict.updateFrom "dict.update" a (.ref l) [] .none) _ _ s
 unfold Builtin.Dict.updateFrom
 refine wpAny_bind (wpAny_typeOf hTl ?_)
 rw [if_pos (by decide)]
 refine wpAny_bind (DX.sg hh hol fun h' tk' hk => ?_)
 rw [if_pos (show (none : Option Value).isNone = true from rfl)]
 refine wpAny_bind (wpAny_rule ?_)
 have I1 : Inv X pins σ H { s with heap := h', toks := tk' } := I.kept (t' := tk') hk
 obtain ⟨its1, rl1, pl1, _⟩ := I1.list (.inl (.inl el))
 refine wpAny_bind (wpAny_pyIter_list pl1.isList ?_)
 have I2 : Inv X pins σ H { s with heap := h'.push { cls := .type "list_iterator", data := .fields #[.ref l, .int 0 0] }, toks := tk' } := I1.kept (t' := tk') fun b o e => Heap.get?_push_of_some _ e
 refine wpAny_pure ⟨plainId_quiet DX.fY _, ?_⟩
 refine qV (xs := es.map fun e => V.ref e.1) (pins := pins) (σ := σ) hu hh es 0 kvs H _ I2 ea (I1.fpOk (Nat.le_refl _) (I1.hok.fresh (Nat.le_refl _))) ⟨_, Heap.get?_push_size _ rfl, rfl, rfl⟩ el (by rw [List.drop_zero]) he hl fun s' I' => ?_
 exact ⟨.non, _, I', rfl, q⟩
end
theorem un1 {A : Around} (h : A.units + 64 < cLine) : A.units + 1 < cLine := Nat.lt_of_le_of_lt (Nat.add_le_add_left (by decide) _) h
theorem DV {P : Program} {w : World} {A : Around} (h : A.units + 64 < cLine) : (tupleKind (bi P w)).room A := Nat.lt_of_succ_lt (un1 h)
theorem Cl {P : Program} {w : World} {A : Around} (h : A.units + 64 < cLine) : (tupleKind (bi P w)).room A.in1 := tupleKind_room_in1 (un1 h)
end L2
namespace M
open PySem L2
section
variable {K : W.Frag} {S S' H H' : Hp}
theorem zU {l : List D} {v : V} (h : Den K S (.tup l) v) : ∃ p xs, v = .ref p /\ S p = some (.tup xs) /\ Dens K S l xs := by
 obtain ⟨p, xs, e, h1, h2⟩ := den_tup.mp h
 exact ⟨p, xs, e, h1, h2⟩
def kyD : D -> Option (List Int)
 | .tup l => bG l
 | _ => none
abbrev kI (k : List Int) : List Key := k.map Sum.inl
theorem G6 (k : List Int) : (kI k).map kV = k.map V.int := by rw [List.map_map]; rfl
theorem EY {a b : List Int} (h : kI a = kI b) : a = b := by
 induction a generalizing b with
 | nil => cases b with
  | nil => rfl
  | cons _ _ => cases h
 | cons x a ih => cases b with
  | nil => cases h
  | cons y b =>
   injection h with h1 h2
   injection h1 with h1
   rw [h1, ih h2]
theorem pK {d : D} {k : List Int} {v : V} (h : Den K S d v) (e : kyD d = some k) : ∃ p, v = .ref p /\ S p = some (.tup ((kI k).map kV)) := by
 cases d <;> try (cases e; done)
 obtain ⟨p, xs, rfl, h1, h2⟩ := zU h
 obtain ⟨rfl, _⟩ := iu h2 e
 exact ⟨p, rfl, by rw [G6]; exact h1⟩
theorem lJ (q : List Int) : ∀ ks : List (List Int), (kh (bL ks) (kI q)).isSome = ks.contains q
 | [] => rfl
 | k :: ks => by
  have ih := lJ q ks
  by_cases h : k = q
  ·subst h
   show (kh ((kI k, V.bl true) :: bL ks) (kI k)).isSome = _
   rw [mf rfl]
   simp
  ·show (kh ((kI k, V.bl true) :: bL ks) (kI q)).isSome = _
   rw [mI (fun z => h (EY z)), ih]
   rw [List.contains_cons]
   have : (q == k) = false := by simpa using fun z => h z.symm
   rw [this, Bool.false_or]
def ic (ks : List (List Int)) (q : List Int) : List (List Int) := if ks.contains q then ks else ks ++ [q]
theorem AQ (a b : List (List Int)) : bL (a ++ b) = bL a ++ bL b := by unfold bL; rw [List.map_append]
theorem xG (ks : List (List Int)) (q : List Int) : gF (bL ks) (kI q) (.bl true) = bL (ic ks q) := by
 unfold ic
 cases h : ks.contains q with
 | false =>
  have hv : kh (bL ks) (kI q) = none := by
   have := lJ q ks
   rw [h] at this
   cases z : kh (bL ks) (kI q) with
   | none => rfl
   | some _ => rw [z] at this; cases this
  rw [uT _ hv, if_neg (by decide), AQ]
  rfl
 | true =>
  rw [if_pos rfl]
  have ha : ((bL ks).any fun kv => decide (kv.1 = kI q)) = true := by rw [mv, lJ, h]
  unfold gF
  rw [if_pos ha]
  unfold bL
  rw [List.map_map]
  refine List.map_congr_left fun k _ => ?_
  show (if kI k = kI q then (kI k, V.bl true) else (kI k, V.bl true)) = _
  split <;> rfl
theorem kL : ∀ (qs ks : List (List Int)), jb (bL ks) (qs.map fun q => (kI q, V.bl true)) = bL (qs.foldl ic ks)
 | [], ks => rfl
 | q :: qs, ks => by
  show jb (gF (bL ks) (kI q) (.bl true)) (qs.map fun q => (kI q, V.bl true)) = _
  rw [xG, kL qs]
  rfl
theorem vA (ks : List (List Int)) : (bL ks).length = ks.length := List.length_map _
theorem Ext.setOwn {S1 H1 : Hp} {p : Addr} {o : HO} (z : Ext S H S1 H1) (hp : H p = none) (hs : S1 p = none) : Ext S H S1 (upd H1 p o) :=
 ⟨z.sh, fun b u hb => by rw [aB fun e => by subst e; rw [hs] at hb; cases hb]; exact z.sub b u hb, fun b u hb hn => by
  obtain ⟨c1, c2⟩ := z.al b u hb hn
  exact ⟨by rw [aB fun e => by subst e; rw [hp] at hb; cases hb]; exact c1, c2⟩⟩
@[simp] def vY (k : XE) : Env -> Option O := fun ρ => (k ρ).bind fun d => (kyD d).map fun q => .dic [q]
theorem Dq {tk : TE} {k : XE} (h : SE K tk k) : STr K (Bf tk (tC (.bl true))) (vY k) := fun ρ σ S H Q o r x c => by
 unfold vY at x
 cases qk : k ρ with
 | none => rw [qk] at x; cases x
 | some d =>
  rw [qk] at x
  dsimp only [Option.bind] at x
  cases qd : kyD d with
  | none => rw [qd] at x; cases x
  | some q =>
   rw [qd] at x
   cases x
   intro p hp
   have z : Ext S H S (upd H p (.dT [])) := Ext.own r.sub hp
   refine h ρ σ S _ _ d (r.ext z) qk fun v S1 H1 z1 d1 => ?_
   obtain ⟨b, rfl, hb⟩ := pK d1 qd
   obtain ⟨a1, a2⟩ := z1.al p _ aC (r.sub.free hp)
   refine ⟨b, kI q, .bl true, rfl, z1.sub b _ hb, a1, ?_⟩
   exact c (.ref p) [p] S1 _ ((z.trans z1).setOwn hp a2) (own_dic.mpr ⟨p, rfl, rfl, aC⟩) (List.nodup_cons.mpr ⟨by simp, List.nodup_nil⟩) fun c' hc => by rw [List.mem_singleton.mp hc]; exact ⟨hp, a2⟩
@[simp] def Dk : Env -> Option O := fun _ => some (.dic [])
theorem EI : STr K Bl Dk := fun ρ σ S H Q o r x c => by
 cases x
 intro p hp
 exact c (.ref p) [p] S _ (Ext.own r.sub hp) (own_dic.mpr ⟨p, rfl, rfl, aC⟩) (List.nodup_cons.mpr ⟨by simp, List.nodup_nil⟩) fun c' hc => by rw [List.mem_singleton.mp hc]; exact ⟨hp, r.sub.free hp⟩
def nS (ρ : Env) (i : Nat) : Option (List (List Int)) := match ρ[i]? with
 | some (.ow (.dic ks)) => some ks
 | some (.sh (.dic ks)) => some ks
 | some (.sh (.dif ks)) => some ks
 | some (.ow (.hd _ ks [])) => some ks
 | _ => none
theorem An {ρ : Env} {σ : St} {i : Nat} {ks : List (List Int)} (r : Rl K ρ σ S H) (h : nS ρ i = some ks) : ∃ a, σ[i]? = some (some (.ref a)) /\ Rd H a (.dT (bL ks)) := by
 unfold nS at h
 split at h
 ·rename_i ks' q
  cases h
  obtain ⟨v, fp, e, ow, _⟩ := r.ow i _ q
  obtain ⟨a, rfl, _, ha⟩ := own_dic.mp ow
  exact ⟨a, e, .inl ha⟩
 ·rename_i ks' q
  cases h
  obtain ⟨v, e, dv⟩ := r.sh i _ q
  obtain ⟨a, rfl, ha⟩ := den_dic.mp dv
  exact ⟨a, e, cA r.sub ha⟩
 ·rename_i ks' q
  cases h
  obtain ⟨v, e, dv⟩ := r.sh i _ q
  obtain ⟨a, o, rfl, ha⟩ := den_dif.mp dv
  exact ⟨a, e, .inr ⟨o, r.sub _ _ ha⟩⟩
 ·rename_i p ks' q
  cases h
  obtain ⟨v, fp, e, ow, _⟩ := r.ow i _ q
  obtain ⟨xs, f, rfl, _, ha, ho⟩ := own_hd.mp ow
  rw [ho.nil_of.1] at e
  exact ⟨p, e, .inl ha⟩
 ·cases h
@[simp] def lD (neg : Bool) (k : XE) (i : Nat) : XE := fun ρ => (k ρ).bind fun d => (kyD d).bind fun q => (nS ρ i).map fun ks => .bl (if neg then !(ks.contains q) else ks.contains q)
theorem zX {tk : TE} {k : XE} {i : Nat} (h : SE K tk k) : SE K (ye tk (qJ i)) (lD true k i) := fun ρ σ S H Q g r x c => by
 unfold lD at x
 cases qk : k ρ with
 | none => rw [qk] at x; cases x
 | some d =>
  rw [qk] at x
  dsimp only [Option.bind] at x
  cases qd : kyD d with
  | none => rw [qd] at x; cases x
  | some q =>
   rw [qd] at x
   dsimp only at x
   cases qi : nS ρ i with
   | none => rw [qi] at x; cases x
   | some ks =>
    rw [qi] at x
    cases x
    refine h ρ σ S H _ d r qk fun v S1 H1 z1 d1 => ?_
    obtain ⟨b, rfl, hb⟩ := pK d1 qd
    obtain ⟨a, e1, ha⟩ := An (r.ext z1) qi
    refine ⟨.ref a, e1, a, _, rfl, .inr ⟨_, kI q, b, ha, rfl, z1.sub b _ hb, rfl⟩, c _ S1 H1 z1 ?_⟩
    rw [lJ]
    exact den_bl.mpr rfl
theorem Gu {tk : TE} {k : XE} {i : Nat} (h : SE K tk k) : SE K (FO tk (qJ i)) (lD false k i) := fun ρ σ S H Q g r x c => by
 unfold lD at x
 cases qk : k ρ with
 | none => rw [qk] at x; cases x
 | some d =>
  rw [qk] at x
  dsimp only [Option.bind] at x
  cases qd : kyD d with
  | none => rw [qd] at x; cases x
  | some q =>
   rw [qd] at x
   dsimp only at x
   cases qi : nS ρ i with
   | none => rw [qi] at x; cases x
   | some ks =>
    rw [qi] at x
    cases x
    refine h ρ σ S H _ d r qk fun v S1 H1 z1 d1 => ?_
    obtain ⟨b, rfl, hb⟩ := pK d1 qd
    obtain ⟨a, e1, ha⟩ := An (r.ext z1) qi
    refine ⟨.ref a, e1, a, _, rfl, .inr ⟨_, kI q, b, ha, rfl, z1.sub b _ hb, rfl⟩, c _ S1 H1 z1 ?_⟩
    rw [lJ]
    exact den_bl.mpr rfl
theorem RlF.dic {A : Hp} {Λ : Nat -> Option Addr} {Φ : Nat -> List Addr} {ρ : Env} {σ : St} {i : Nat} {ks : List (List Int)} (f : RlF K A Λ Φ ρ σ S H) (h : ρ[i]? = some (.ow (.dic ks))) :
  ∃ a, σ[i]? = some (some (.ref a)) /\ H a = some (.dT (bL ks)) /\ ∀ ks', RlA K A Λ (ρ.set i (.ow (.dic ks'))) σ S (upd H a (.dT (bL ks'))) := by
 obtain ⟨v, ev, ow, nd, n⟩ := f.ow i _ h
 obtain ⟨a, rfl, hfp, ha⟩ := own_dic.mp ow
 have ain : a ∈ Φ i := by rw [hfp]; exact List.mem_cons_self
 refine ⟨a, ev, ha, fun ks' => ?_⟩
 have ne : ∀ b, b ≠ a -> upd H a (.dT (bL ks')) b = H b := fun b hb => aB hb
 have sub' : Same S (upd H a (.dT (bL ks'))) := fun b u e => by rw [ne b fun z => by subst z; rw [(n b ain).1] at e; cases e]; exact f.sub b u e
 have asub' : Same A (upd H a (.dT (bL ks'))) := fun b u e => by rw [ne b fun z => by subst z; rw [(n b ain).2] at e; cases e]; exact f.asub b u e
 have fin := f.put (H' := upd H a (.dT (bL ks'))) i sub' asub' (own_dic.mpr ⟨a, rfl, rfl, aC⟩) (List.nodup_cons.mpr ⟨by simp, List.nodup_nil⟩) (fun b hb => by rw [List.mem_singleton.mp hb]; exact n a ain) fun j o' hj e1 b hb => by
  have nb : b ∉ Φ i := fun z => f.dj j i o' _ hj e1 h b hb z
  exact ⟨ne b fun z => nb (z ▸ ain), fun z => nb (by rw [List.mem_singleton.mp z]; exact ain)⟩
 rw [pe ev] at fin
 exact ⟨_, fin⟩
@[simp] def As (i : Nat) (k : XE) : XS := fun ρ => match ρ[i]? with
 | some (.ow (.dic ks)) => (k ρ).bind fun d => (kyD d).bind fun q => if ks.length < LIM then some (.nx (ρ.set i (.ow (.dic (ic ks q))))) else none
 | _ => none
theorem DH {tk : TE} {k : XE} {i : Nat} (h : SE K tk k) : SS K (CZ (qJ i) tk (tC (.bl true))) (As i k) := fun A Λ ρ σ S H E o r x c => by
 unfold As at x
 split at x <;> try (cases x; done)
 rename_i ks q0
 cases qk : k ρ with
 | none => rw [qk] at x; cases x
 | some d =>
  rw [qk] at x
  dsimp only [Option.bind] at x
  cases qd : kyD d with
  | none => rw [qd] at x; cases x
  | some q =>
   rw [qd] at x
   dsimp only at x
   split at x <;> try (cases x; done)
   rename_i hl
   cases x
   obtain ⟨Φ, f⟩ := r
   obtain ⟨a, ev, _, _⟩ := f.dic q0
   refine ⟨.ref a, ev, h ρ σ S H _ d ⟨A, Λ, Φ, f⟩ qk fun v S1 H1 z1 d1 => ?_⟩
   obtain ⟨b, rfl, hb⟩ := pK d1 qd
   obtain ⟨a', ev', ha, up⟩ := (f.ext z1).dic q0
   rw [ev] at ev'
   cases ev'
   refine ⟨a, _, rfl, .inr ⟨_, kI q, b, ha, rfl, z1.sub b _ hb, ?_, rfl⟩, ?_⟩
   ·rw [vA]; exact Nat.lt_trans hl fv
   ·rw [xG]
    exact c σ S1 _ (up _) z1.sh
def fj : List D -> Option (List (List Int))
 | [] => some []
 | .tup [d, .bl true] :: l => (kyD d).bind fun q => (fj l).map fun qs => q :: qs
 | _ => none
theorem pR {S H : Hp} (s : Same S H) : ∀ {l : List D} {xs : List V} {qs : List (List Int)}, Dens K S l xs -> fj l = some qs ->
  ∃ es : List (Addr × Addr × List Key × V), xs = es.map (fun e => V.ref e.1) /\ (∀ e ∈ es, H e.1 = some (.tup [.ref e.2.1, e.2.2.2]) /\ H e.2.1 = some (.tup (e.2.2.1.map kV))) /\ es.map (fun e => (e.2.2.1, e.2.2.2)) = qs.map fun q => (kI q, V.bl true)
 | [], xs, qs, h, e => by
  cases e
  exact ⟨[], h.nil_of, (fun e he => by cases he), rfl⟩
 | d :: l, xs, qs, h, e => by
  obtain ⟨y, ys, rfl, h1, h2⟩ := h.cons_of
  unfold fj at e
  split at e <;> try (cases e; done)
  ·rename_i hh; cases hh
  ·rename_i d0 l0 hh
   injection hh with hh1 hh2
   subst hh1 hh2
   cases qd : kyD d0 with
   | none => rw [qd] at e; cases e
   | some q =>
    rw [qd] at e
    dsimp only [Option.bind] at e
    cases ql : fj l with
    | none => rw [ql] at e; cases e
    | some qs' =>
     rw [ql] at e
     cases e
     obtain ⟨es, e1, e2, e3⟩ := pR s h2 ql
     obtain ⟨t, zs, rfl, ht, hz⟩ := zU h1
     obtain ⟨y1, r1, rfl, k1, hz⟩ := hz.cons_of
     obtain ⟨y2, r2, rfl, k2, hz⟩ := hz.cons_of
     have := hz.nil_of
     subst this
     obtain ⟨b, rfl, hb⟩ := pK k1 qd
     have := den_bl.mp k2
     subst this
     refine ⟨(t, b, kI q, .bl true) :: es, by rw [e1]; rfl, fun e he => ?_, by rw [List.map_cons, e3]; rfl⟩
     rcases List.mem_cons.mp he with rfl | he
     ·exact ⟨s t _ ht, s b _ hb⟩
     ·exact e2 e he
@[simp] def yr (i : Nat) (e : XA) : XS := fun ρ => match ρ[i]? with
 | some (.ow (.dic ks)) => (e ρ).bind fun l => (fj l).bind fun qs => if ks.length + l.length < LIM then some (.nx (ρ.set i (.ow (.dic (qs.foldl ic ks))))) else none
 | _ => none
theorem Eh {te : TE} {e : XA} {i : Nat} (h : SF K te e) : SS K (yu (tBM K "dict" rUpd (qJ i) (jx te pO))) (yr i e) := fun A Λ ρ σ S H E o r x c => by
 unfold yr at x
 split at x <;> try (cases x; done)
 rename_i ks q0
 cases qe : e ρ with
 | none => rw [qe] at x; cases x
 | some l =>
  rw [qe] at x
  dsimp only [Option.bind] at x
  cases qp : fj l with
  | none => rw [qp] at x; cases x
  | some qs =>
   rw [qp] at x
   dsimp only at x
   split at x <;> try (cases x; done)
   rename_i hl
   cases x
   obtain ⟨Φ, f⟩ := r
   obtain ⟨a, ev, ha0, _⟩ := f.dic q0
   refine ⟨.ref a, ev, .inr (.inr (.inl ⟨rfl, .inr ⟨_, ha0⟩⟩)), h ρ σ S H _ l ⟨A, Λ, Φ, f⟩ qe fun p xs S1 H1 z1 hp hs1 hp1 d1 => ?_⟩
   obtain ⟨es, e1, e2, e3⟩ := pR z1.sub d1 qp
   obtain ⟨a', ev', ha, up⟩ := (f.ext z1).dic q0
   rw [ev] at ev'
   cases ev'
   refine ⟨a, p, _, es, rfl, rfl, ha, by rw [<- e1]; exact hp1, e2, ?_, ?_⟩
   ·have := d1.length
    rw [vA]
    have e4 : es.length = xs.length := by rw [e1, List.length_map]
    exact Nat.lt_trans (by lia) fv
   ·rw [e3, kL]
    exact c σ S1 _ (up _) z1.sh
theorem HX {t : TE} {e : XE} (h : SE K t e) : ST K (tB t) (xB e) := fun ρ σ S H Q b r x c => by
 unfold xB at x
 cases q : e ρ with
 | none => rw [q] at x; cases x
 | some d =>
  rw [q] at x
  cases d <;> try (cases x; done)
  cases x
  refine h ρ σ S H _ _ r q fun v S1 H1 z1 d1 => ?_
  exact ⟨_, den_bl.mp d1, c S1 H1 z1⟩
end
end M
namespace L2
open PySem PySem.Spec PyProof.Rows M
section
variable {X : Cx}
end
end L2
namespace M
open PySem L2
section
variable {K : W.Frag}
end
end M
namespace L2
open PySem PySem.Spec PyProof.Rows
def E2 (a c : Int) (n : Nat) : It := ⟨fun i _ => i < n, fun i H x H' => H' = H /\ x = .int (a + i * c), fun i _ => n <= i⟩
def CW (ta : TA) : TI := fun σ H R => ta σ H fun vs H1 => ∃ a j c : Int, vs = [.int a, .int j, .int c] /\ c ≠ 0 /\ (-1000000 < c /\ c < 1000000) /\ Builtin.Range.small a j c = true /\ R (E2 a c (Builtin.Range.rangeSize a j c).toNat) H1
section
variable {X : Cx} {tg : Expr}
theorem zE {P : Program} {w : World} {K : W.Frag} (it : Addr) (a c : Int) (n : Nat) : Turn P w K tg (E2 a c n) [it] it (fun i h => IsRangeIter h it (a + (i : Nat) * c) ((n : Int) - (i : Nat)) c) where
 mem := by simp
 obj := fun i h st b hb => by
  rw [List.mem_singleton.mp hb]
  exact ⟨_, st, fun v z => by have z' : Data.fields _ = Data.cell v := z; cases z'⟩
 keep := fun i h h' st k => k it (by simp) _ st
 item := by
  intro X hP hw hK hc i pins s σ H E I hf st hg
  subst hP hw hK
  obtain ⟨f0, f1, f2, f3, f4, f5⟩ := hf it (by simp)
  refine (Walks.range (prog := X.prog) (w := X.w) (I.ok.hd hc) it a c n).item i s _ _ hg st fun v h' tk hv st' kk => ?_
  obtain ⟨t, rfl⟩ := hv
  have I1 : Inv X pins σ H { s with heap := h', toks := tk } := I.turned (fun b o hb e => kk b o (fun z => hb (List.mem_singleton.mp z)) e) f0 f1 f3 f4 f5
  exact ⟨_, rfl, xS (s := { s with heap := h', toks := tk }) (n := "range_iterator") st' rfl rfl (by decide) ⟨.int (a + i * c), H, I1, ⟨t, rfl⟩, ⟨rfl, rfl⟩, st', fun b hb => (hf b hb).1⟩⟩
 done := by
  intro X hP hw hK hc i pins s σ H E I hf st hg
  subst hP hw hK
  obtain ⟨f0, f1, f2, f3, f4, f5⟩ := hf it (by simp)
  exact wpAny_pyNext_range_end (I.ok.hd hc) st (by have : n <= i := hg; lia) fun h' eb => ⟨rfl, I.turned (t' := s.toks) (fun b o hb e => eb b o hb e) f0 f1 f3 f4 f5⟩
 self := fun _ _ _ _ _ st h => wpAny_pyIter_rangeiter st h
theorem B0 {pins : List (Addr × Obj)} {σ : St} {H : Hp} {s : Shared} {R : It -> Hp -> Prop} {E : Value -> Shared -> Prop} {a j c : Int} {t u v : Tok} {tk : Nat} (I : Inv X pins σ H s) (hs : Builtin.Range.small a j c = true) (q : R (E2 a c (Builtin.Range.rangeSize a j c).toNat) H) :
  wpAny (model X.prog X.w) X.A (pyIter (.ref s.heap.objs.size)) (PIE X pins σ tg R) E { s with heap := s.heap.push { cls := .type "range", data := .fields #[.int a t, .int j u, .int c v] }, toks := tk } := by
 refine wpAny_pyIter_range (IsRange.new ..) hs ?_
 have I1 : Inv X pins σ H { s with heap := s.heap.push { cls := .type "range", data := .fields #[.int a t, .int j u, .int c v] }, toks := tk } := I.kept fun b o e => Heap.get?_push_of_some _ e
 refine ⟨(s.heap.push { cls := .type "range", data := .fields #[.int a t, .int j u, .int c v] }).objs.size, [(s.heap.push { cls := .type "range", data := .fields #[.int a t, .int j u, .int c v] }).objs.size], _, _, H, rfl, I1.kept (t' := tk) fun b o e => Heap.get?_push_of_some _ e, zE _ a c (Builtin.Range.rangeSize a j c).toNat, ?_, fun b hb => ?_, q⟩
 ·have e1 : a + ((0 : Nat) : Int) * c = a := by simp
  have e2 : (((Builtin.Range.rangeSize a j c).toNat : Nat) : Int) - ((0 : Nat) : Int) = Builtin.Range.rangeSize a j c := by rw [<- rangeSize_toNat]; simp
  show IsRangeIter _ _ (a + ((0 : Nat) : Int) * c) ((((Builtin.Range.rangeSize a j c).toNat : Nat) : Int) - ((0 : Nat) : Int)) c
  rw [e1, e2]
  exact Heap.get?_push_size _ rfl
 ·rw [List.mem_singleton.mp hb]
  exact I1.fpOk (Nat.le_refl _) I1.fresh
theorem zj {a b c : Expr} {ta : TA} {p pos : Pos} (hg : Gl X "range") (hm : X.mg "range" = none) (ha : PA X [a, b, c] ta) (hs : starEach [a, b, c] X.env = (false, eval a X.env) :: starEach [b, c] X.env := by rfl)
  (hp : (backTo pos (starEach [b, c] X.env)).any (·.1) = false := by rfl) : PI X tg (.Call (.Name "range" p) [a, b, c] [] pos) (CW ta) := by
 intro pins s σ H R I h
 refine Call_ (nj I hg hm boot_range (PyProof.Rows.callWith_type1 (thn (ha pos pins s σ H _ I h) fun us s1 h1 => ?_) hs hp))
 obtain ⟨vs, H1, I1, r1, x, j, y, rfl, q1, ⟨q3, q4⟩, q2, q⟩ := h1
 cases r1 with
 | cons r rr =>
  cases rr with
  | cons r' rr =>
   cases rr with
   | cons r'' rr =>
    cases rr
    obtain ⟨t, rfl⟩ := r
    obtain ⟨t', rfl⟩ := r'
    obtain ⟨t'', rfl⟩ := r''
    exact call_range_3 q1 (B0 I1 q2 q)
end
end L2
namespace M
open PySem L2
section
variable {K : W.Frag} {S H : Hp}
def o3 (a c : Int) (n : Nat) : List D := (List.range n).map fun i : Nat => D.int (a + (i : Int) * c)
def Bo : List D -> Option (List D)
 | [.int a, .int j, .int c] => ifC (c ≠ 0 /\ (-1000000 < c /\ c < 1000000) /\ Builtin.Range.small a j c = true) (some (o3 a c (Builtin.Range.rangeSize a j c).toNat)) none
 | _ => none
@[simp] def ym (a : XA) : XA := fun ρ => (a ρ).bind Bo
theorem Eg {t : TA} {a : XA} (h : SAP K t a) : SI K (CW t) (ym a) := fun ρ σ S H R l r x k => by
 unfold ym at x
 cases q : a ρ with
 | none => rw [q] at x; cases x
 | some ds =>
  rw [q] at x
  dsimp only [Option.bind] at x
  unfold Bo at x
  split at x
  ·rename_i aa j bb
   obtain ⟨⟨h1, h3, h2⟩, rfl⟩ := gC x
   refine h ρ σ S H _ _ r q fun vs S1 H1 z1 d1 => ?_
   cases d1 with
   | cons a1 d1 => cases d1 with
    | cons a2 d1 => cases d1 with
     | cons a3 d1 =>
      cases d1
      refine ⟨aa, j, bb, by rw [a1.int, a2.int, a3.int], h1, h3, h2, k _ S1 H1 z1 fun S' H' _ _ => ⟨fun i d h => ?_, by unfold o3; rw [List.length_map, List.length_range]; exact Nat.le_refl _⟩⟩
      unfold o3 at h
      rw [List.getElem?_map] at h
      cases qi : (List.range (Builtin.Range.rangeSize aa j bb).toNat)[i]? with
      | none => rw [qi] at h; cases h
      | some i' =>
       rw [qi] at h
       cases h
       obtain ⟨hi, e⟩ := List.getElem?_eq_some_iff.mp qi
       rw [List.getElem_range] at e
       subst e
       rw [List.length_range] at hi
       exact ⟨hi, fun x H'' y => ⟨y.1, den_int.mpr y.2⟩⟩
  ·cases x
end
end M
namespace L2
open PySem PySem.Spec PyProof.Rows
def De (ta : TA) : TE := fun σ H Q => ta σ H fun vs H1 => ∃ j : Int, vs = [.int j] /\ 0 <= j /\ j < 1000000 /\ ∀ p, H1 p = none -> Q (.ref p) (upd H1 p (.rng 0 j))
def rM (n : Nat) : List V := (List.range n).map fun i : Nat => V.int (i : Int)
def Be : List V -> Hp -> VK -> Prop := fun xs H Q => ∃ p j, xs = [.ref p] /\ H p = some (.rng 0 j) /\ 0 <= j /\ j < 1000000 /\ ∀ l, H l = none -> Q (.ref l) (upd H l (.lst (rM j.toNat)))
theorem jH : ∀ (us : List Value) (k : Nat), (∀ (j : Nat) v, us[j]? = some v -> ∃ t, v = .int ((k + j : Nat) : Int) t) -> Vals ((List.range' k us.length).map fun i : Nat => V.int (i : Int)) us
 | [], _, _ => .nil
 | u :: us, k, h => by
  obtain ⟨t, rfl⟩ := h 0 u rfl
  refine .cons ⟨t, rfl⟩ (jH us (k + 1) fun j v e => ?_)
  obtain ⟨t', rfl⟩ := h (j + 1) v (by simpa using e)
  exact ⟨t', by congr 2; lia⟩
section
variable {X : Cx}
theorem zp {a : Expr} {ta : TA} {p pos : Pos} (hg : Gl X "range") (hm : X.mg "range" = none) (ha : PA X [a] ta) (hs : starEach [a] X.env = [(false, eval a X.env)] := by rfl) : PE X (.Call (.Name "range" p) [a] [] pos) (De ta) := by
 intro pins s σ H Q I h
 refine Call_ (nj I hg hm boot_range (PyProof.Rows.callWith_type1 (thn (ha pos pins s σ H _ I h) fun us s1 h1 => ?_) hs rfl))
 obtain ⟨vs, H1, I1, r1, j, rfl, q1, q2, q⟩ := h1
 cases r1 with
 | cons r rr =>
  cases rr
  obtain ⟨t, rfl⟩ := r
  refine call_range_1 ⟨.ref s1.heap.objs.size, _, I1.laid (a := s1.heap.objs.size) (o := .rng 0 j) (fun _ _ q => Heap.get?_push_of_some _ q) (Nat.le_refl _) ?_, rfl, q _ (I1.hok.fresh (Nat.le_refl _))⟩
  exact ⟨_, _, _, Heap.get?_push_size _ rfl⟩
theorem wv (hc : X.calm = true) : CallR X (.type "list") Be := by
 intro pins s σ H xs us Q I r h
 obtain ⟨p, j, rfl, hp, h0, h1, q⟩ := h
 obtain ⟨u, rfl, ru⟩ := r.one
 cases (show u = Value.ref p from ru)
 obtain ⟨t, tu, tv, hr⟩ := (show ObjOk X.prog X.w H s.heap p (.rng 0 j) from I.hok p _ hp)
 have e1 : Builtin.Range.rangeSize 0 j 1 = (j.toNat : Int) := by rw [rangeSize_one]; split <;> lia
 have hs : Builtin.Range.small 0 j 1 = true := by
  unfold Builtin.Range.small
  rw [e1]
  simp only [Builtin.Range.rangeFitsLong, Bool.and_eq_true, Bool.or_eq_true, decide_eq_true_eq, beq_iff_eq, show (1 : Int) > 0 by decide, if_true]
  have e : (2 : Int) ^ 63 = 9223372036854775808 := by decide
  lia
 refine call_list_range (I.ok.hd hc) hr hs e1 (by have : (2 : Nat) ^ 24 = 16777216 := by decide
                                                  lia) fun h' tk acc c' hk hl hi => ?_
 have vv : Vals (rM j.toNat) acc.toList := by
  have := jH acc.toList 0 fun i v e => by
   obtain ⟨t', rfl⟩ := hi.2 i v (by simpa using e)
   exact ⟨t', by congr 1; simp⟩
  rw [Array.length_toList, hi.1, <- List.range_eq_range'] at this
  exact this
 refine ⟨.ref s.heap.objs.size, _, I.laid (a := s.heap.objs.size) (o := .lst (rM j.toNat)) hk (Nat.le_refl _) ⟨?_, acc.toList, c', vv, by simpa using hl⟩, rfl, q _ (I.hok.fresh (Nat.le_refl _))⟩
 unfold rM
 rw [List.length_map, List.length_range, sizeLine_eq]
 lia
end
end L2
namespace M
open PySem L2
section
variable {K : W.Frag}
def Fi : D -> Option (List D)
 | .int j => ifC (0 <= j /\ j < 1000000) (some ((List.range j.toNat).map fun i : Nat => D.int (i : Int))) none
 | _ => none
@[simp] def oT (a : XE) : XA := fun ρ => (a ρ).bind Fi
theorem zq {S : Hp} (l : List Nat) : Dens K S (l.map fun i : Nat => D.int (i : Int)) (l.map fun i : Nat => V.int (i : Int)) := by
 induction l with
 | nil => exact .nil
 | cons i l ih => exact .cons (den_int.mpr rfl) ih
theorem CL {t : TE} {a : XE} (h : SPk K t a) : SF K (tCB Be (jx (De (jx t pO)) pO)) (oT a) := fun ρ σ S H Q l r x k => by
 unfold oT at x
 cases q : a ρ with
 | none => rw [q] at x; cases x
 | some d =>
  rw [q] at x
  dsimp only [Option.bind] at x
  cases d <;> try (cases x; done)
  rename_i j
  obtain ⟨hj, rfl⟩ := gC x
  refine h ρ σ S H _ _ r q fun v S1 H1 z1 d1 => ?_
  refine ⟨j, by rw [d1.int], hj.1, hj.2, fun p hp => ⟨p, j, rfl, aC, hj.1, hj.2, fun b hb => ?_⟩⟩
  have z2 : Ext S1 H1 S1 (upd H1 p (.rng 0 j)) := Ext.own z1.sub hp
  have z3 : Ext S1 (upd H1 p (.rng 0 j)) S1 (upd (upd H1 p (.rng 0 j)) b (.lst (rM j.toNat))) := Ext.own z2.sub hb
  refine k b (rM j.toNat) S1 _ ((z1.trans z2).trans z3) ?_ ?_ aC (zq _)
  ·exact ((z1.trans z2).same r.sub).free hb
  ·exact z2.sub.free hb
end
end M
namespace L2
open PySem PySem.Spec PyProof.Rows
section
variable {X : Cx} {pins : List (Addr × Obj)} {σ : List (Option V)} {H H' : Hp} {s : Shared} {h' : Heap}
end
section
variable {X : Cx}
end
end L2
namespace M
open PySem L2
section
variable {K : W.Frag} {S S' H H' : Hp}
def enL (k : Nat) : List D -> List D
 | [] => []
 | d :: l => .tup [.int (k : Int), d] :: enL (k + 1) l
@[simp] def Jg (a : XE) : XA := fun ρ => (a ρ).bind fun d => match d with | .lst l => some (enL 0 l) | _ => none
end
end M
namespace L2
open PySem PySem.Spec PyProof.Rows M
section
variable {X : Cx}
end
end L2
namespace M
open PySem L2
section
variable {K : W.Frag}
end
section
variable {K : W.Frag} {S S' H H' : Hp}
@[simp] def Jq (i : Nat) (p : XP) : XA := fun ρ => match ρ[i]? with
 | some (.ow o) => (p ρ).bind fun is => match dn o is with | some (.lst l) => shs l | _ => none
 | _ => none
end
end M
namespace TL
open PySem PyProof.Rows
section
variable {prog : Program} {w : World} {A : Around} {E : Value -> Shared -> Prop} {s : Shared}
end
end TL
namespace L2
open PySem PySem.Spec PyProof.Rows
section
variable {X : Cx}
end
end L2
namespace M
open PySem L2
section
variable {K : W.Frag}
end
end M
namespace L2
open PySem PySem.Spec PyProof.Rows
theorem EA : bootBuiltins "any" = some (.builtin "any") := by decide +kernel
def FZ (K : W.Frag) : List V -> Hp -> VK -> Prop := fun xs H Q => ∃ p, ∃ bs : List Bool, xs = [.ref p] /\ SqL K H p (bs.map V.bl) /\ Q (.bl (bs.any id)) H
section
variable {X : Cx}
theorem zN (bs : List Bool) : (List.range bs.length).any (fun i => bs.getD i true) = bs.any id := by
 rw [Bool.eq_iff_iff, List.any_eq_true, List.any_eq_true]
 constructor
 ·rintro ⟨i, hi, h⟩
  have hi := List.mem_range.mp hi
  exact ⟨bs[i], List.getElem_mem hi, by simpa [hi] using h⟩
 ·rintro ⟨b, hb, h⟩
  obtain ⟨i, hi, rfl⟩ := List.getElem_of_mem hb
  exact ⟨i, List.mem_range.mpr hi, by simpa [hi] using h⟩
theorem yZ (hc : X.calm = true) : CallR X (.builtin "any") (FZ X.K) := by
 intro pins s σ H xs us Q I r h
 obtain ⟨p, bs, rfl, hS, q⟩ := h
 obtain ⟨u, rfl, ru⟩ := r.one
 cases ru
 obtain ⟨its, rv, pl, hz⟩ := I.list hS
 have hl := pl.isList
 have hlen : bs.length = its.length := by have := rv.length; simpa using this
 refine call_any_walk (wpAny_pyIter_list hl ?_)
 have hne : p ≠ s.heap.objs.size := Nat.ne_of_lt pl.lt
 refine ⟨_, _, _, _, _, _, fun i => bs.getD i true, rfl, Walks.list (A := X.A.in1) (I.ok.hd hc) _ p hne its.toArray, ⟨⟨_, Heap.get?_push_size _ rfl, rfl, rfl⟩, hl.push _⟩, ?_, ?_⟩
 ·intro i v s' Q' E' hv hQ
  have hv : its[i]? = some v := by simpa using hv
  have hi : i < bs.length := by
   rw [hlen]
   exact (List.getElem?_eq_some_iff.mp hv).1
  obtain ⟨u, hu, ru⟩ := rv.get (i := i) (x := .bl (bs[i])) (by simp [hi])
  rw [hu] at hv
  cases hv
  cases ru
  have e : bs.getD i true = bs[i] := by simp [hi]
  dsimp only at hQ
  rw [e] at hQ
  exact wpAny_truthy_bool hQ
 ·intro h' tk hk
  rw [List.size_toArray, <- hlen, zN]
  exact ⟨.bl _, H, I.kept (old_kept hk), rfl, q⟩
end
end L2
namespace M
open PySem L2
section
variable {K : W.Frag}
def yT : List D -> Option D
 | [.lst l] => (fK l).map fun bs => .bl (bs.any id)
 | _ => none
theorem Ft : SRB K (FZ K) yT := fun S H vs ds g Q s h x k => by
 unfold yT at x
 split at x
 ·rename_i l
  obtain ⟨v, rfl, d1⟩ := gw h
  cases q : fK l with
  | none => rw [q] at x; cases x
  | some bs =>
   rw [q] at x
   cases x
   obtain ⟨p, xs, rfl, h1, h2⟩ := d1.lst s
   have e := qY q
   subst e
   have e := vh h2
   subst e
   exact ⟨p, bs, rfl, .inl h1, k _ S H (Ext.refl s) (den_bl.mpr rfl)⟩
 ·cases x
end
end M
namespace TL
open PySem PyProof.Rows
section
variable {prog : Program} {w : World} {A : Around} {R : Result -> Shared -> Prop} {I : Addr} {fp wr : List Addr} {n : Nat} {P : Nat -> Value -> Prop} {St : Nat -> Heap -> Prop} {h0 : Heap}
end
section
variable {prog : Program} {w : World} {A : Around} {E : Value -> Shared -> Prop} {s : Shared}
end
end TL
namespace L2
open PySem PySem.Spec PyProof.Rows
section
variable {X : Cx}
end
end L2
namespace M
open PySem L2
section
variable {K : W.Frag}
end
section
variable {K : W.Frag} {S S' H H' : Hp}
end
section
variable {K : W.Frag}
@[simp] def wq (f g : D -> D -> Option D) (a b c : XE) : XE := fun ρ => (a ρ).bind fun x => (b ρ).bind fun y => (f x y).bind fun z => match z with
 | .bl true => (c ρ).bind fun w => g y w
 | .bl false => some (.bl false)
 | _ => none
theorem CM {r r' : R2} {f g : D -> D -> Option D} {ta tb tc : TE} {a b c : XE} (hr : SR2 K r f) (hr' : SR2 K r' g) (ha : SPk K ta a) (hb : SPk K tb b) (hc : SPk K tc c) : SE K (AY r r' ta tb tc) (wq f g a b c) := fun ρ σ S H Q d rl x k => by
 unfold wq at x
 cases qa : a ρ with
 | none => rw [qa] at x; cases x
 | some da =>
  rw [qa] at x
  dsimp only [Option.bind] at x
  cases qb : b ρ with
  | none => rw [qb] at x; cases x
  | some db =>
   rw [qb] at x
   dsimp only at x
   cases qf : f da db with
   | none => rw [qf] at x; cases x
   | some z =>
    rw [qf] at x
    dsimp only at x
    refine ha ρ σ S H _ da rl qa fun v S1 H1 z1 d1 => ?_
    have r1 := rl.ext z1
    refine hb ρ σ S1 H1 _ db r1 qb fun w S2 H2 z2 d2 => ?_
    have r2 := r1.ext z2
    refine hr S2 H2 v w da db z _ z2.sub (d1.mono z2 r1.sub) d2 qf fun u S3 H3 z3 d3 => ?_
    have r3 := r2.ext z3
    cases z <;> try (cases x; done)
    rename_i t
    refine ⟨t, den_bl.mp d3, ?_⟩
    cases t with
    | false =>
     cases x
     exact wX (k _ S3 H3 ((z1.trans z2).trans z3) (den_bl.mpr rfl))
    | true =>
     dsimp only at x
     cases qc : c ρ with
     | none => rw [qc] at x; cases x
     | some dc =>
      rw [qc] at x
      refine we (hc ρ σ S3 H3 _ dc r3 qc fun y S4 H4 z4 d4 => ?_)
      exact hr' S4 H4 w y db dc d Q z4.sub ((d2.mono z3 r2.sub).mono z4 r3.sub) d4 x fun u' S5 H5 z5 d5 => k u' S5 H5 ((((z1.trans z2).trans z3).trans z4).trans z5) d5
end
end M
namespace L2
open PySem
section
variable {X : Cx}
end
end L2
namespace M
open PySem L2
section
variable {K : W.Frag}
end
end M
namespace DL
open PySem
section
variable {prog : Program} {w : World} {A : Around} {E : Value -> Shared -> Prop} {s : Shared}
end
end DL
namespace L2
open PySem
section
variable {X : Cx}
end
end L2
namespace M
open PySem L2
section
variable {K : W.Frag}
@[simp] def Jb (i : Nat) : XE := fun ρ => (nS ρ i).map fun ks => .int (ks.length : Nat)
end
end M
namespace DY
open PySem
section
variable {prog : Program} {w : World} {K : Type} [DecidableEq K] {knd : HeapKind prog w K} {A : Around} {E : Value -> Shared -> Prop} {s : Shared}
end
end DY
namespace L2
open PySem PySem.Spec PyProof.Rows
section
variable {X : Cx} {pins : List (Addr × Obj)} {σ : St} {H : Hp} {s : Shared} {a b : Addr} {kvs : List (List Key × V)} {k : List Key} {v : V} {A : Around} {E : Value -> Shared -> Prop}
end
section
variable {X : Cx} {pins : List (Addr × Obj)} {σ : St} {H : Hp} {s : Shared} {a : Addr} {o : Obj} {kvs : List (List Key × V)}
theorem Dw (I : Inv X pins σ H s) (e : H a = some (.dT kvs)) : ∃ o, s.heap.get? a = some o /\ Inv X pins σ (upd H a (.frz o (.dT kvs))) s := by
 obtain ⟨z, hd, xs, rel, o, es, ep, ho, h2, h3, h4, h5⟩ := (show ObjOk X.prog X.w H s.heap a (.dT kvs) from I.hok a _ e)
 refine ⟨o, ho, ?_⟩
 have := oD (t' := s.toks) (h' := s.heap) (ob := .frz o (.dT kvs)) I (by rw [e]; exact True.intro) ⟨rfl, fun _ _ => rfl⟩ ⟨o, ho⟩ ⟨ho, z, hd, xs, Paired.mapP rel fun p q y => ⟨y.1, by rw [aB (vf y.2.1 e (fun z => nomatch z))]; exact y.2.1, y.2.2⟩, o, es, ep, ho, h2, h3, h4, h5⟩
 exact this
theorem Inv.thaw {u : HO} (I : Inv X pins σ H s) (e : H a = some (.frz o u)) (hn : ∀ o' u', X.H₀ a ≠ some (.frz o' u')) (hu : (∀ x, u ≠ .own x) /\ (∀ xs, u ≠ .tup xs)) : Inv X pins σ (upd H a u) s := by
 have ne : ∀ b x, H b = x -> (∀ o' u', x ≠ some (.frz o' u')) -> b ≠ a := fun b x hb hx z => by subst z; rw [e] at hb; exact hx _ _ hb.symm
 have n0 : ∀ b, H b = none -> upd H a u b = none := fun b hb => by rw [aB (ne b _ hb fun _ _ z => by cases z)]; exact hb
 exact {
  ok := I.ok
  os := I.os
  bare := I.bare
  base := ⟨I.base.keep, I.base.slot, fun b ob q n hx => n0 b (I.base.free b ob q n hx), I.base.there, fun b xs q => by rw [aB (ne b _ (I.base.tups b xs q) fun _ _ z => by cases z)]; exact I.base.tups b xs q,
   fun b o' u' q => by rw [aB fun z => hn o' u' (by rw [<- z]; exact q)]; exact I.base.frzs b o' u' q, fun b ps q => by
    obtain ⟨m, em⟩ := I.base.tbls b ps q
    exact ⟨m, by rw [aB (ne b _ em fun _ _ z => by cases z)]; exact em⟩⟩
  loc := I.loc
  cell := I.cell
  free := n0 _ I.free
  freeC := fun x c q => n0 _ (I.freeC x c q)
  pin := fun p hp => by
   obtain ⟨q1, q2, q3⟩ := I.pin p hp
   exact ⟨q1, n0 _ q2, q3⟩
  hok := fun b w hb => by
   have st : ∀ w', ObjOk X.prog X.w H s.heap b w' -> ObjOk X.prog X.w (upd H a u) s.heap b w' := fun w' ok => ok.stay (fun _ _ _ z => z) (fun c hc => by rw [aB (ne c _ hc fun _ _ z => by cases z)]; exact hc) fun c xs hc => by rw [aB (ne c _ hc fun _ _ z => by cases z)]; exact hc
   by_cases hba : b = a
   ·subst hba
    rw [aC] at hb
    cases hb
    exact st _ (I.hok b _ e).2
   ·rw [aB hba] at hb
    exact st w (I.hok b w hb)
  len := I.len }
end
def Df (i : Nat) (t : TE) : TE := fun σ H Q => ∃ a kvs, σ[i]? = some (some (.ref a)) /\ H a = some (.dT kvs) /\ ∀ o, t σ (upd H a (.frz o (.dT kvs))) fun v H2 => H2 a = some (.frz o (.dT kvs)) /\ Q v (upd H2 a (.dT kvs))
theorem BV {X : Cx} {e : Expr} {t : TE} (i : Nat) (h : PE X e t) : PE X e (Df i t) := by
 intro pins s σ H Q I q
 obtain ⟨a, kvs, _, ea, q⟩ := q
 obtain ⟨o, ho, I1⟩ := Dw I ea
 refine thn (h pins s σ _ _ I1 (q o)) fun v s1 h1 => ?_
 obtain ⟨x, H2, I2, r2, e2, q2⟩ := h1
 refine ⟨x, _, I2.thaw e2 (fun o' u' z => ?_) ⟨fun _ z => (nomatch z), fun _ z => (nomatch z)⟩, r2, q2⟩
 have := I.base.frzs a o' u' z
 rw [ea] at this
 cases this
def Di : List V -> Hp -> VK -> Prop := fun vs H Q => ∃ l, ∃ es : List (Addr × Addr × List Key × V), vs = [.ref l] /\ H l = some (.lst (es.map fun e => .ref e.1)) /\ (∀ e ∈ es, H e.1 = some (.tup [.ref e.2.1, e.2.2.2]) /\ H e.2.1 = some (.tup (e.2.2.1.map kV))) /\
 es.length < sizeLine /\ ∀ p, H p = none -> Q (.ref p) (upd H p (.dT (jb [] (es.map fun e => (e.2.2.1, e.2.2.2)))))
theorem BL {P : Program} {w : World} {A : Around} (h : A.units + 64 < cLine) : (tupleKind (bi P w)).room A.in1.in1 := tupleKind_room_in1 (show A.units + 1 + 1 < cLine from Nat.lt_of_le_of_lt (by lia) h)
theorem wB {X : Cx} (hu : (tupleKind (bi X.prog X.w)).room X.A.in1.in1) (hc : X.calm = true) : CallR X (.type "dict") Di := by
 intro pins s σ H xs us Q I r h
 obtain ⟨l, es, rfl, el, he, hl, q⟩ := h
 obtain ⟨u, rfl, ru⟩ := r.one
 cases (show u = Value.ref l from ru)
 have hn := I.hok.fresh (Nat.le_refl s.heap.objs.size)
 have I1 := I.laid (a := s.heap.objs.size) (o := .dT []) (h' := s.heap.push { cls := .type "dict", data := .dict #[] }) (t' := s.toks) (fun _ _ q => Heap.get?_push_of_some _ q) (Nat.le_refl _) (pk s.heap I.big)
 have nl : l ≠ s.heap.objs.size := a9 el hn
 have ek : ∀ {b u}, H b = some u -> upd H s.heap.objs.size (.dT []) b = some u := fun {b u} z => by rw [aB (a9 z hn)]; exact z
 obtain ⟨hll, its, n, rl, hol⟩ := (show ObjOk X.prog X.w (upd H s.heap.objs.size (.dT [])) (s.heap.push { cls := .type "dict", data := .dict #[] }) l (.lst (es.map fun e => V.ref e.1)) from I1.hok l _ (ek el))
 refine callType_codes (Q₁ := fun obj s₁ => obj = .ref s.heap.objs.size /\ s₁ = { s with heap := s.heap.push { cls := .type "dict", data := .dict #[] } }) F.kt_called_dict (F.kt_typeCall_dict_1 _) F.entry_dict_init (kt_code_dict_new _ ⟨rfl, rfl⟩) ?_
 rintro obj s₁ ⟨rfl, rfl⟩
 have hTa : ({ s with heap := s.heap.push { cls := .type "dict", data := .dict #[] } } : Shared).TypeIs (.ref s.heap.objs.size) "dict" := ⟨_, Heap.get?_push_size _ rfl, rfl⟩
 have hTl : ({ s with heap := s.heap.push { cls := .type "dict", data := .dict #[] } } : Shared).TypeIs (.ref l) "list" := ⟨_, hol, rfl⟩
 have hh : X.A.in1.handled = none := I.ok.hd hc
 refine ⟨hTa, F.args_dict_init_2 _ _, ?_⟩
 unfold Builtin.«dict.__init__»; refine wpAny_bind ?_
 unfold Builtin.Dict.selfAndRest; refine wpAny_bind (wpAny_notOrdered_dict hTa ?_)
 show wpAny _ _ (pure (s.heap.objs.size, [Value.ref l])) _ _ _; refine wpAny_pure ?_
 show wpAny _ _ (Builtin.Dict.updateFrom "dict.__init__" s.heap.objs.size (.ref l) [] .none) _ _ _
 unfold Builtin.Dict.updateFrom; refine wpAny_bind (wpAny_typeOf hTl ?_); rw [if_pos (by decide)]
 refine wpAny_bind (DX.sg hh hol fun h' tk' hk => ?_)
 rw [if_pos (show (none : Option Value).isNone = true from rfl)]; refine wpAny_bind (wpAny_rule ?_)
 have I2 : Inv X pins σ (upd H s.heap.objs.size (.dT [])) { s with heap := h', toks := tk' } := I1.kept (t' := tk') hk
 obtain ⟨its1, rl1, pl1, _⟩ := I2.list (.inl (.inl (ek el)))
 refine wpAny_bind (wpAny_pyIter_list pl1.isList ?_)
 have I3 : Inv X pins σ (upd H s.heap.objs.size (.dT [])) { s with heap := h'.push { cls := .type "list_iterator", data := .fields #[.ref l, .int 0 0] }, toks := tk' } := I2.kept (t' := tk') fun b o e => Heap.get?_push_of_some _ e
 refine wpAny_pure ⟨plainId_quiet DX.fY _, ?_⟩
 refine qV (A := X.A.in1) (xs := es.map fun e => V.ref e.1) (pins := pins) (σ := σ) hu hh es 0 [] _ _ I3 aC (I2.fpOk (Nat.le_refl _) (I2.hok.fresh (Nat.le_refl _))) ⟨_, Heap.get?_push_size _ rfl, rfl, rfl⟩ (ek el) (by rw [List.drop_zero]) (fun e h' => ?_) (by simpa using hl) fun s' I' => ?_
 ·obtain ⟨z1, z2⟩ := he e h'
  exact ⟨ek z1, ek z2⟩
 ·rw [xM] at I'
  exact ⟨rfl, .ref s.heap.objs.size, _, I', rfl, q _ hn⟩
end L2
namespace M
open PySem L2
section
variable {K : W.Frag} {S S' H H' : Hp}
mutual
def jF : D -> Bool
 | .dic _ => false
 | .dif _ => false
 | .lst l => noDics l
 | .tup l => noDics l
 | .scr l => noDics l
 | .mtp l => noDics l
 | .ins _ _ l => noDics l
 | _ => true
def noDics : List D -> Bool
 | [] => true
 | d :: l => jF d && noDics l
end
mutual
theorem Den.less {a : Addr} {o : Obj} {kvs : List (List Key × V)} (hs : ∀ b, b ≠ a -> S' b = S b) (ha : S a = some (.frz o (.dT kvs))) : ∀ {d : D} {v : V}, jF d = true -> Den K S d v -> Den K S' d v
 | .dic _, _, n, _ => by unfold jF at n; cases n
 | .dif _, _, n, _ => by unfold jF at n; cases n
 | .non, _, _, h => by unfold Den at *; exact h
 | .bl _, _, _, h => by unfold Den at *; exact h
 | .int _, _, _, h => by unfold Den at *; exact h
 | .str _, _, _, h => by unfold Den at *; exact h
 | .ty _, _, _, h => by unfold Den at *; exact h
 | .lst l, _, n, h => by
  unfold jF at n
  obtain ⟨p, xs, e, h1, h2⟩ := den_lst.mp h
  refine den_lst.mpr ⟨p, xs, e, ?_, Dens.less hs ha n h2⟩
  rcases h1 with h1 | ⟨q, h1⟩
  ·exact .inl (by rw [hs p fun z => by subst z; rw [ha] at h1; cases h1]; exact h1)
  ·exact .inr ⟨q, by rw [hs p fun z => by subst z; rw [ha] at h1; cases h1]; exact h1⟩
 | .tup l, _, n, h => by
  unfold jF at n
  obtain ⟨p, xs, e, h1, h2⟩ := den_tup.mp h
  exact den_tup.mpr ⟨p, xs, e, (show S' p = some (.tup xs) by rw [hs p fun z => by subst z; rw [show S p = some (.tup xs) from h1] at ha; cases ha]; exact h1), Dens.less hs ha n h2⟩
 | .scr l, _, n, h => by
  unfold jF at n
  obtain ⟨p, xs, e, h1, h2⟩ := den_scr.mp h
  refine den_scr.mpr ⟨p, xs, e, ?_, Dens.less hs ha n h2⟩
  rcases h1 with (h1 | ⟨q, h1⟩) | h1
  ·exact .inl (.inl (by rw [hs p fun z => by subst z; rw [ha] at h1; cases h1]; exact h1))
  ·exact .inl (.inr ⟨q, by rw [hs p fun z => by subst z; rw [ha] at h1; cases h1]; exact h1⟩)
  ·exact .inr h1
 | .mtp l, _, n, h => by
  unfold jF at n
  obtain ⟨p, xs, e, h1, h2⟩ := den_mtp.mp h
  refine den_mtp.mpr ⟨p, xs, e, ?_, Dens.less hs ha n h2⟩
  rcases h1 with (h1 | ⟨q, h1⟩) | h1
  ·exact .inl (.inl (by rw [hs p fun z => by subst z; rw [ha] at h1; cases h1]; exact h1))
  ·exact .inl (.inr ⟨q, by rw [hs p fun z => by subst z; rw [ha] at h1; cases h1]; exact h1⟩)
  ·exact .inr h1
 | .ins _ _ l, _, n, h => by
  unfold jF at n
  obtain ⟨p, C, dx, fs, e, h0, h1, h2, h3⟩ := den_ins.mp h
  exact den_ins.mpr ⟨p, C, dx, fs, e, h0, by rw [hs p fun z => by subst z; rw [ha] at h1; cases h1]; exact h1, h2, Dens.less hs ha n h3⟩
theorem Dens.less {a : Addr} {o : Obj} {kvs : List (List Key × V)} (hs : ∀ b, b ≠ a -> S' b = S b) (ha : S a = some (.frz o (.dT kvs))) : ∀ {ds : List D} {xs : List V}, noDics ds = true -> Dens K S ds xs -> Dens K S' ds xs
 | [], _, _, h => by rw [h.nil_of]; exact .nil
 | _ :: _, _, n, h => by
  unfold noDics at n
  obtain ⟨n1, n2⟩ := Bool.and_eq_true_iff.mp n
  obtain ⟨y, ys, rfl, a, b⟩ := h.cons_of
  exact .cons (Den.less hs ha n1 a) (Dens.less hs ha n2 b)
end
def ksO : Sl -> Option (List (List Int))
 | .ow (.dic ks) => some ks
 | .ow (.hd _ ks []) => some ks
 | _ => none
def reD (ks : List (List Int)) : Sl -> Sl
 | .ow (.dic _) => .ow (.dic ks)
 | .ow (.hd p _ []) => .ow (.hd p ks [])
 | s => s
@[simp] theorem Cj (ks : List (List Int)) : ksO (.ow (.dic ks)) = some ks := rfl
@[simp] theorem Hx (p : Addr) (ks : List (List Int)) : ksO (.ow (.hd p ks [])) = some ks := rfl
@[simp] theorem GH (ks ks' : List (List Int)) : reD ks (.ow (.dic ks')) = .ow (.dic ks) := rfl
@[simp] theorem HB (p : Addr) (ks ks' : List (List Int)) : reD ks (.ow (.hd p ks' [])) = .ow (.hd p ks []) := rfl
theorem CA {s : Sl} {ks : List (List Int)} (h : ksO s = some ks) : ∃ o, s = .ow o /\ (∀ S H v fp, Own K S H o v fp -> ∃ a, v = .ref a /\ fp = [a] /\ H a = some (.dT (bL ks))) /\ (∀ S H v fp, Own K S H o v fp -> ∀ a, v = .ref a -> ∀ (S' H' : Hp) ks', H' a = some (.dT (bL ks')) -> ∃ o', reD ks' s = .ow o' /\ Own K S' H' o' (.ref a) [a]) := by
 unfold ksO at h
 split at h
 ·cases h
  refine ⟨_, rfl, fun S H v fp ow => own_dic.mp ow, fun S H v fp ow a e S' H' ks' hh => ⟨_, rfl, own_dic.mpr ⟨a, rfl, rfl, hh⟩⟩⟩
 ·cases h
  refine ⟨_, rfl, fun S H v fp ow => ?_, fun S H v fp ow a e S' H' ks' hh => ⟨_, rfl, ?_⟩⟩
  ·obtain ⟨xs, f, e, e2, h1, h2⟩ := own_hd.mp ow
   obtain ⟨rfl, rfl⟩ := h2.nil_of
   exact ⟨_, e, e2, h1⟩
  ·obtain ⟨xs, f, e1, e2, h1, h2⟩ := own_hd.mp ow
   obtain ⟨rfl, rfl⟩ := h2.nil_of
   rw [e] at e1
   cases e1
   exact own_hd.mpr ⟨[], [], rfl, rfl, hh, .nil⟩
 ·cases h
section
variable {A : Hp} {Λ : Nat -> Option Addr} {Φ : Nat -> List Addr} {ρ : Env} {σ : St} {i : Nat} {s : Sl} {ks : List (List Int)}
theorem RlF.dicO (f : RlF K A Λ Φ ρ σ S H) (h : ρ[i]? = some s) (hk : ksO s = some ks) : ∃ a, σ[i]? = some (some (.ref a)) /\ H a = some (.dT (bL ks)) /\ S a = none /\ A a = none /\ (∀ (j : Nat) o', j ≠ i -> ρ[j]? = some (.ow o') -> a ∉ Φ j) /\
  ∀ ks', RlF K A Λ Φ (ρ.set i (reD ks' s)) σ S (upd H a (.dT (bL ks'))) := by
 obtain ⟨o, rfl, w1, w2⟩ := CA (K := K) hk
 obtain ⟨v, ev, ow, nd, n⟩ := f.ow i _ h
 obtain ⟨a, rfl, hfp, ha⟩ := w1 _ _ _ _ ow
 have ain : a ∈ Φ i := by rw [hfp]; exact List.mem_cons_self
 have oth : ∀ (j : Nat) o', j ≠ i -> ρ[j]? = some (.ow o') -> a ∉ Φ j := fun j o' hj e1 z => f.dj j i o' _ hj e1 h a z ain
 refine ⟨a, ev, ha, (n a ain).1, (n a ain).2, oth, fun ks' => ?_⟩
 obtain ⟨o2, e2, ow2⟩ := w2 _ _ _ _ ow a rfl S (upd H a (.dT (bL ks'))) ks' aC
 rw [e2]
 have ne : ∀ b, b ≠ a -> upd H a (.dT (bL ks')) b = H b := fun b hb => aB hb
 have fin := f.put (H' := upd H a (.dT (bL ks'))) i (fun b u e => by rw [ne b fun z => by subst z; rw [(n b ain).1] at e; cases e]; exact f.sub b u e) (fun b u e => by rw [ne b fun z => by subst z; rw [(n b ain).2] at e; cases e]; exact f.asub b u e) ow2 (by simp) (fun b hb => by rw [List.mem_singleton.mp hb]; exact n a ain) fun j o' hj e1 b hb => by
  have nb : b ≠ a := fun z => oth j o' hj e1 (by rw [<- z]; exact hb)
  exact ⟨ne b nb, fun z => nb (List.mem_singleton.mp z)⟩
 rw [pe ev] at fin
 have hΦ : (fun j => if j = i then [a] else Φ j) = Φ := by
  funext j
  by_cases hj : j = i
  ·rw [if_pos hj, hj, hfp]
  ·rw [if_neg hj]
 rw [hΦ] at fin
 exact fin
theorem RlF.melt (f : RlF K A Λ Φ ρ σ S H) (h : ρ[i]? = some s) (hk : ksO s = some ks) : ∃ a, σ[i]? = some (some (.ref a)) /\ H a = some (.dT (bL ks)) /\ S a = none /\
  ∀ o, RlF K A Λ Φ (ρ.set i (.sh (.dif ks))) σ (upd S a (.frz o (.dT (bL ks)))) (upd H a (.frz o (.dT (bL ks)))) := by
 obtain ⟨a, ev, ha, sa, aa, oth, _⟩ := f.dicO h hk
 refine ⟨a, ev, ha, sa, fun o => ?_⟩
 have s1 : Same S (upd S a (.frz o (.dT (bL ks)))) := fun b u e => by rw [aB (a9 e sa)]; exact e
 exact {
  len := by rw [List.length_set]; exact f.len
  sub := fun b u e => by
   by_cases hb : b = a
   ·subst hb; rw [aC] at e ⊢; exact e
   ·rw [aB hb] at e ⊢; exact f.sub b u e
  sh := fun j d hj => by
   rcases bq hj with ⟨rfl, e, _⟩ | ⟨hij, hj⟩
   ·cases e
    exact ⟨_, ev, den_dif.mpr ⟨a, o, rfl, aC⟩⟩
   ·obtain ⟨v, e1, e2⟩ := f.sh j d hj
    exact ⟨v, e1, e2.mono s1⟩
  ow := fun j o' hj => by
   rcases bq hj with ⟨rfl, e, _⟩ | ⟨hij, hj⟩
   ·cases e
   ·obtain ⟨v, e1, e2, e3, e4⟩ := f.ow j o' hj
    have nb : ∀ b ∈ Φ j, b ≠ a := fun b hb z => oth j o' (Ne.symm hij) hj (by rw [<- z]; exact hb)
    exact ⟨v, e1, e2.mono s1 fun b hb => aB (nb b hb), e3, fun b hb => ⟨by rw [aB (nb b hb)]; exact (e4 b hb).1, (e4 b hb).2⟩⟩
  dj := fun j k o1 o2 hjk g1 g2 => by
   rcases bq g1 with ⟨rfl, e, _⟩ | ⟨_, g1⟩
   ·cases e
   ·rcases bq g2 with ⟨rfl, e, _⟩ | ⟨_, g2⟩
    ·cases e
    ·exact f.dj j k o1 o2 hjk g1 g2
  lo := fun j hj => by
   rcases bq hj with ⟨rfl, e, _⟩ | ⟨_, hj⟩
   ·cases e
   ·exact f.lo j hj
  asub := fun b u e => by rw [aB fun z => by subst z; rw [aa] at e; cases e]; exact f.asub b u e
  adis := fun b => by
   by_cases hb : b = a
   ·subst hb; exact .inr aa
   ·rw [aB hb]; exact f.adis b }
end
theorem zw {a : Addr} {o : Obj} {kvs : List (List Key × V)} (s : Same S H) (sa : S a = none) (ha : H a = some (.dT kvs)) (z : Ext (upd S a (.frz o (.dT kvs))) (upd H a (.frz o (.dT kvs))) S' H') :
  S' a = some (.frz o (.dT kvs)) /\ H' a = some (.frz o (.dT kvs)) /\ Ext S H (fun b => if b = a then none else S' b) (upd H' a (.dT kvs)) := by
 have e1 := z.sh a _ aC
 refine ⟨e1, z.sub a _ e1, fun b u e => ?_, fun b u e => ?_, fun b u e n => ?_⟩
 ·have hb := a9 e sa
  rw [if_neg hb]
  exact z.sh b u (by rw [aB hb]; exact e)
 ·by_cases hb : b = a
  ·rw [if_pos hb] at e; cases e
  ·rw [if_neg hb] at e
   rw [aB hb]
   exact z.sub b u e
 ·by_cases hb : b = a
  ·subst hb
   rw [aC, if_pos rfl, <- ha]
   exact ⟨e, rfl⟩
  ·rw [aB hb, if_neg hb]
   exact z.al b u (by rw [aB hb]; exact e) (by rw [aB hb]; exact n)
@[simp] def IW (i : Nat) (e : XE) : XE := fun ρ => ((ρ[i]?).bind ksO).bind fun ks => (e (ρ.set i (.sh (.dif ks)))).bind fun d => if jF d = true then some d else none
theorem bind_some {α β : Type} {x : Option α} {f : α -> Option β} {b : β} (h : x.bind f = some b) : ∃ a, x = some a /\ f a = some b := Option.bind_eq_some_iff.mp h
@[simp] def m8 (i : Nat) (e : XA) : XA := fun ρ => ((ρ[i]?).bind ksO).bind fun ks => (e (ρ.set i (.sh (.dif ks)))).bind fun l => if noDics l = true then some l else none
theorem Cb {t : TE} {e : XA} (i : Nat) (h : SF K t e) : SF K (Df i t) (m8 i e) := fun ρ σ S H Q l r x k => by
 obtain ⟨ks, x1, x⟩ := bind_some x
 obtain ⟨s, qs, hk⟩ := bind_some x1
 obtain ⟨d', qe, x⟩ := bind_some x
 split at x
 ·rename_i hn
  cases x
  obtain ⟨A, Λ, Φ, f⟩ := r
  obtain ⟨a, ev, ha, sa, up⟩ := f.melt qs hk
  refine ⟨a, _, ev, ha, fun o => h _ σ _ _ _ l ⟨A, Λ, Φ, up o⟩ qe fun b xs S1 H1 z1 h1 h2 h3 d1 => ?_⟩
  obtain ⟨e1, e2, z⟩ := zw f.sub sa ha z1
  have hb : b ≠ a := fun z => by subst z; rw [aC] at h1; cases h1
  exact ⟨e2, k b xs _ _ z (by rw [aB hb] at h1; exact h1) (by show (if b = a then none else S1 b) = none; rw [if_neg hb]; exact h2) (by rw [aB hb]; exact h3) (d1.less (fun b hb => if_neg hb) e1 hn)⟩
 ·cases x
def HL (ks : List (List Int)) (q : List Int) : List (List Int) := ks.filter fun k => decide (k ≠ q)
@[simp] def II (i : Nat) (k : XE) : XS := fun ρ => (ρ[i]?).bind fun s => (ksO s).bind fun ks => (k ρ).bind fun d => (kyD d).bind fun q => if ks.contains q = true then some (.nx (ρ.set i (reD (HL ks q) s))) else none
@[simp] def ub (e : XA) : Env -> Option O := fun ρ => (e ρ).bind fun l => (fj l).bind fun qs => if l.length < LIM then some (.dic (qs.foldl ic [])) else none
theorem Ck {te : TE} {e : XA} (h : SF K te e) : STr K (tCB Di (jx te pO)) (ub e) := fun ρ σ S H Q o r x c => by
 obtain ⟨l, qe, x⟩ := bind_some x
 obtain ⟨qs, qp, x⟩ := bind_some x
 split at x
 ·rename_i hl
  cases x
  refine h ρ σ S H _ l r qe fun p xs S1 H1 z1 hp hs1 hp1 d1 => ?_
  obtain ⟨es, e1, e2, e3⟩ := pR z1.sub d1 qp
  refine ⟨p, es, rfl, by rw [<- e1]; exact hp1, e2, ?_, fun a ha => ?_⟩
  ·have := d1.length
   have e4 : es.length = xs.length := by rw [e1, List.length_map]
   exact Nat.lt_trans (by lia) fv
  ·rw [e3, show ([] : List (List Key × V)) = bL [] from rfl, kL]
   have h0 : H a = none := (z1.same r.sub).free ha
   have z2 : Ext S1 H1 S1 (upd H1 a (.dT (bL (qs.foldl ic [])))) := Ext.own z1.sub ha
   exact c (.ref a) [a] S1 _ (z1.trans z2) (own_dic.mpr ⟨a, rfl, rfl, aC⟩) (by simp) fun b hb => by rw [List.mem_singleton.mp hb]; exact ⟨h0, z1.sub.free ha⟩
 ·cases x
end
section
variable {K : W.Frag} {S S' H H' : Hp}
@[simp] def JG (i : Nat) : XA := fun ρ => match ρ[i]? with | some (.sh (.dif ks)) => some (ks.map fun k => .tup (k.map .int)) | _ => none
abbrev HM := Addr -> List (List Int) -> List D -> Option (O × List (List Int))
@[simp] def IJ (j : Nat) : XS := fun ρ => match ρ[j]?, (ρ[0]? : Option Sl) with
 | some (.ow o), some (.ow (.hd p ks [])) => if j = 0 then none else some (.ro (.hd p ks [o]))
 | _, _ => none
def HR (m : HM) (ks : List (List Int)) (ds : List D) : Option (O × List (List Int)) := by
 classical exact if h : ∃ r, ∀ p, m p ks ds = some r then some h.choose else none
@[simp] def Ij (j i : Nat) (m : HM) (a : XA) : XS := fun ρ => match ρ[j]? with
 | some (.ow (.lst l)) => (ρ[i]?).bind fun s => (ksO s).bind fun ks => (a ρ).bind fun ds => (HR m ks ds).bind fun r => match r with
  | (.lst l', ks') => (shs l').bind fun ds' => if l.length + l'.length <= LIM then some (.nx ((ρ.set i (reD ks' s)).set j (.ow (.lst (l ++ ds'.map .sh))))) else none
  | _ => none
 | _ => none
end
end M
namespace L2
open PySem
theorem CH : bootBuiltins "dict" = some (.type "dict") := by decide +kernel
end L2
namespace M
open PySem L2
end M
namespace Rw
abbrev R := List (Int × Int)
def Mem (r : R) (x : Int) : Prop := ∃ p ∈ r, p.1 <= x /\ x <= p.2
def Ok (r : R) : Prop := ∀ p ∈ r, p.1 <= p.2
def bp (r : R) : Prop := Ok r /\ r.Pairwise fun p q => p.2 + 2 <= q.1
theorem bw (x : Int) : ¬ Mem [] x := by rintro ⟨p, h, _⟩; cases h
theorem mem_cons (p : Int × Int) (r : R) (x : Int) : Mem (p :: r) x ↔ (p.1 <= x /\ x <= p.2) \/ Mem r x := by
 constructor
 ·rintro ⟨q, h, e⟩
  rcases List.mem_cons.mp h with rfl | h
  ·exact .inl e
  ·exact .inr ⟨q, h, e⟩
 ·rintro (e | ⟨q, h, e⟩)
  ·exact ⟨p, List.mem_cons_self, e⟩
  ·exact ⟨q, List.mem_cons_of_mem _ h, e⟩
theorem mem_append (r t : R) (x : Int) : Mem (r ++ t) x ↔ Mem r x \/ Mem t x := by
 constructor
 ·rintro ⟨q, h, e⟩
  rcases List.mem_append.mp h with h | h
  ·exact .inl ⟨q, h, e⟩
  ·exact .inr ⟨q, h, e⟩
 ·rintro (⟨q, h, e⟩ | ⟨q, h, e⟩)
  ·exact ⟨q, List.mem_append_left _ h, e⟩
  ·exact ⟨q, List.mem_append_right _ h, e⟩
theorem A6 {r t : R} (h : r.Perm t) (x : Int) : Mem r x ↔ Mem t x :=
 ⟨fun ⟨q, m, e⟩ => ⟨q, h.mem_iff.mp m, e⟩, fun ⟨q, m, e⟩ => ⟨q, h.mem_iff.mpr m, e⟩⟩
theorem mem_filter (r : R) (x : Int) : Mem (r.filter fun p => decide (p.1 <= p.2)) x ↔ Mem r x := by
 constructor
 ·rintro ⟨q, m, e⟩
  exact ⟨q, (List.mem_filter.mp m).1, e⟩
 ·rintro ⟨q, m, e⟩
  exact ⟨q, List.mem_filter.mpr ⟨m, by simp; lia⟩, e⟩
theorem cM : bp [] := ⟨fun _ h => (by cases h), .nil⟩
theorem canon_cons {p : Int × Int} {r : R} : bp (p :: r) ↔ p.1 <= p.2 /\ (∀ q ∈ r, p.2 + 2 <= q.1) /\ bp r := by
 constructor
 ·rintro ⟨h1, h2⟩
  have h3 := List.pairwise_cons.mp h2
  exact ⟨h1 p List.mem_cons_self, h3.1, fun q hq => h1 q (List.mem_cons_of_mem _ hq), h3.2⟩
 ·rintro ⟨h1, h2, h3, h4⟩
  refine ⟨fun q hq => ?_, List.pairwise_cons.mpr ⟨h2, h4⟩⟩
  rcases List.mem_cons.mp hq with rfl | hq
  ·exact h1
  ·exact h3 q hq
theorem cT {p : Int × Int} {r : R} (c : bp (p :: r)) {x : Int} (h : Mem r x) : p.2 + 2 <= x := by
 obtain ⟨q, m, e, _⟩ := h
 have := (canon_cons.mp c).2.1 q m
 lia
theorem sr {p : Int × Int} {r : R} (c : bp (p :: r)) {x : Int} (h : Mem (p :: r) x) : p.1 <= x := by
 rcases (mem_cons p r x).mp h with h | h
 ·exact h.1
 ·have := cT c h
  have := (canon_cons.mp c).1
  lia
theorem Bw : ∀ {r t : R}, bp r -> bp t -> (∀ x, Mem r x ↔ Mem t x) -> r = t
 | [], [], _, _, _ => rfl
 | [], q :: t, _, ct, h => by
  have := (h q.1).mpr ((mem_cons ..).mpr (.inl ⟨Int.le_refl _, (canon_cons.mp ct).1⟩))
  exact (bw _ this).elim
 | p :: r, [], cr, _, h => by
  have := (h p.1).mp ((mem_cons ..).mpr (.inl ⟨Int.le_refl _, (canon_cons.mp cr).1⟩))
  exact (bw _ this).elim
 | p :: r, q :: t, cr, ct, h => by
  have hp := (canon_cons.mp cr).1
  have hq := (canon_cons.mp ct).1
  have a1 : q.1 <= p.1 := sr ct ((h p.1).mp ((mem_cons ..).mpr (.inl ⟨Int.le_refl _, hp⟩)))
  have a2 : p.1 <= q.1 := sr cr ((h q.1).mpr ((mem_cons ..).mpr (.inl ⟨Int.le_refl _, hq⟩)))
  have e1 : p.1 = q.1 := by lia
  have n1 : ¬ Mem (p :: r) (p.2 + 1) := fun m => by
   rcases (mem_cons ..).mp m with m | m
   ·lia
   ·have := cT cr m; lia
  have n2 : ¬ Mem (q :: t) (q.2 + 1) := fun m => by
   rcases (mem_cons ..).mp m with m | m
   ·lia
   ·have := cT ct m; lia
  have e2 : p.2 = q.2 := by
   by_cases l1 : p.2 < q.2
   ·exact (n1 ((h _).mpr ((mem_cons ..).mpr (.inl ⟨by lia, by lia⟩)))).elim
   ·by_cases l2 : q.2 < p.2
    ·exact (n2 ((h _).mp ((mem_cons ..).mpr (.inl ⟨by lia, by lia⟩)))).elim
    ·lia
  have e : p = q := by
   obtain ⟨a, b⟩ := p
   obtain ⟨c, d⟩ := q
   simp only at e1 e2
   rw [e1, e2]
  subst e
  have ih : r = t := Bw (canon_cons.mp cr).2.2 (canon_cons.mp ct).2.2 fun x => by
   constructor
   ·intro m
    rcases (mem_cons ..).mp ((h x).mp ((mem_cons ..).mpr (.inr m))) with k | k
    ·have := cT cr m; lia
    ·exact k
   ·intro m
    rcases (mem_cons ..).mp ((h x).mpr ((mem_cons ..).mpr (.inr m))) with k | k
    ·have := cT ct m; lia
    ·exact k
  rw [ih]
def step (acc : R) (p : Int × Int) : R :=
 match acc.getLast? with
 | none => [p]
 | some q => if p.1 <= q.2 + 1 then acc.dropLast ++ [(q.1, if p.2 > q.2 then p.2 else q.2)] else acc ++ [p]
def lH (l : R) : R := l.foldl step []
theorem qO (p : Int × Int) : step [] p = [p] := rfl
theorem fU (t : R) (q p : Int × Int) : step (t ++ [q]) p = if p.1 <= q.2 + 1 then t ++ [(q.1, if p.2 > q.2 then p.2 else q.2)] else t ++ [q] ++ [p] := by
 unfold step
 simp
theorem canon_snoc {t : R} {q : Int × Int} : bp (t ++ [q]) ↔ bp t /\ q.1 <= q.2 /\ ∀ p ∈ t, p.2 + 2 <= q.1 := by
 constructor
 ·rintro ⟨h1, h2⟩
  have h3 := List.pairwise_append.mp h2
  exact ⟨⟨fun p hp => h1 p (List.mem_append_left _ hp), h3.1⟩, h1 q (List.mem_append_right _ List.mem_cons_self), fun p hp => h3.2.2 p hp q List.mem_cons_self⟩
 ·rintro ⟨⟨h1, h2⟩, h3, h4⟩
  refine ⟨fun p hp => ?_, List.pairwise_append.mpr ⟨h2, .cons (fun _ h => (by cases h)) .nil, fun p hp x hx => ?_⟩⟩
  ·rcases List.mem_append.mp hp with hp | hp
   ·exact h1 p hp
   ·rw [List.mem_singleton.mp hp]; exact h3
  ·rw [List.mem_singleton.mp hx]; exact h4 p hp
theorem xR {acc : R} {p : Int × Int} (c : bp acc) (hp : p.1 <= p.2) (lo : ∀ q ∈ acc, q.1 <= p.1) :
  bp (step acc p) /\ (∀ x, Mem (step acc p) x ↔ Mem acc x \/ (p.1 <= x /\ x <= p.2)) /\ (∀ q ∈ step acc p, q.1 <= p.1) := by
 rcases List.eq_nil_or_concat acc with rfl | ⟨t, q, rfl⟩
 ·rw [qO]
  refine ⟨canon_cons.mpr ⟨hp, fun _ h => (by cases h), cM⟩, fun x => ?_, fun q hq => ?_⟩
  ·rw [mem_cons]
   constructor
   ·rintro (h | h)
    ·exact .inr h
    ·exact .inl h
   ·rintro (h | h)
    ·exact .inr h
    ·exact .inl h
  ·rw [List.mem_singleton.mp hq]; exact Int.le_refl _
 ·rw [List.concat_eq_append] at *
  obtain ⟨ct, hq, ht⟩ := canon_snoc.mp c
  have lq : q.1 <= p.1 := lo q (List.mem_append_right _ List.mem_cons_self)
  rw [fU]
  by_cases h : p.1 <= q.2 + 1
  ·rw [if_pos h]
   have m : ∀ z, (if p.2 > q.2 then p.2 else q.2) = z -> q.2 <= z /\ p.2 <= z /\ (z = p.2 \/ z = q.2) := fun z e => by
    split at e <;> lia
   obtain ⟨m1, m2, m3⟩ := m _ rfl
   generalize (if p.2 > q.2 then p.2 else q.2) = z at *
   refine ⟨canon_snoc.mpr ⟨ct, by dsimp only; lia, ht⟩, fun x => ?_, fun s hs => ?_⟩
   ·rw [mem_append, mem_append, mem_cons, mem_cons]
    dsimp only
    constructor
    ·rintro (k | k | k)
     ·exact .inl (.inl k)
     ·by_cases hx : x <= q.2
      ·exact .inl (.inr (.inl ⟨k.1, hx⟩))
      ·right; lia
     ·exact (bw _ k).elim
    ·rintro ((k | k | k) | k)
     ·exact .inl k
     ·right; left; lia
     ·exact (bw _ k).elim
     ·right; left; lia
   ·rcases List.mem_append.mp hs with hs | hs
    ·exact lo s (List.mem_append_left _ hs)
    ·rw [List.mem_singleton.mp hs]; exact lq
  ·rw [if_neg h]
   refine ⟨canon_snoc.mpr ⟨c, hp, fun s hs => ?_⟩, fun x => ?_, fun s hs => ?_⟩
   ·rcases List.mem_append.mp hs with hs | hs
    ·have := ht s hs; lia
    ·rw [List.mem_singleton.mp hs]; lia
   ·rw [mem_append, mem_cons]
    constructor
    ·rintro (k | k | k)
     ·exact .inl k
     ·exact .inr k
     ·exact (bw _ k).elim
    ·rintro (k | k)
     ·exact .inl k
     ·exact .inr (.inl k)
   ·rcases List.mem_append.mp hs with hs | hs
    ·exact lo s hs
    ·rw [List.mem_singleton.mp hs]; exact Int.le_refl _
theorem yv : ∀ (l : R) (acc : R), bp acc -> Ok l -> l.Pairwise (fun p q => p.1 <= q.1) -> (∀ q ∈ acc, ∀ p ∈ l, q.1 <= p.1) ->
  bp (l.foldl step acc) /\ ∀ x, Mem (l.foldl step acc) x ↔ Mem acc x \/ Mem l x
 | [], acc, c, _, _, _ => ⟨c, fun x => ⟨fun h => .inl h, fun h => h.elim id fun k => (bw _ k).elim⟩⟩
 | p :: l, acc, c, o, w, lo => by
  obtain ⟨w1, w2⟩ := List.pairwise_cons.mp w
  obtain ⟨c1, m1, l1⟩ := xR c (o p List.mem_cons_self) fun q hq => lo q hq p List.mem_cons_self
  obtain ⟨c2, m2⟩ := yv l (step acc p) c1 (fun q hq => o q (List.mem_cons_of_mem _ hq)) w2 fun q hq s hs => by
   have := l1 q hq
   have := w1 s hs
   lia
  refine ⟨c2, fun x => ?_⟩
  show Mem (l.foldl step (step acc p)) x ↔ _
  rw [m2, m1, mem_cons, or_assoc]
def Dm (ps r : R) : Prop := bp r /\ ∀ x, Mem r x ↔ Mem ps x
theorem Bb {l ps : R} (o : Ok l) (w : l.Pairwise fun p q => p.1 <= q.1) (h : ∀ x, Mem l x ↔ Mem ps x) : Dm ps (lH l) := by
 obtain ⟨c, m⟩ := yv l [] cM o w fun _ h => (by cases h)
 exact ⟨c, fun x => by
  show Mem (l.foldl step []) x ↔ _
  rw [m x, <- h x]
  exact ⟨fun k => k.elim (fun z => (bw _ z).elim) id, .inr⟩⟩
end Rw
namespace Rw
def c0 : R -> R -> R
 | [], _ => []
 | _ :: _, [] => []
 | p :: s, q :: t => (if max p.1 q.1 <= min p.2 q.2 then [(max p.1 q.1, min p.2 q.2)] else []) ++ (if p.2 < q.2 then c0 s (q :: t) else c0 (p :: s) t)
termination_by s t => s.length + t.length
theorem cS (s : R) : c0 s [] = [] := by cases s <;> simp [c0]
theorem dA (t : R) : c0 [] t = [] := by simp [c0]
theorem xU : ∀ (n : Nat) (s t : R), s.length + t.length = n -> ∀ r ∈ c0 s t, (∃ p ∈ s, p.1 <= r.1 /\ r.2 <= p.2) /\ (∃ q ∈ t, q.1 <= r.1 /\ r.2 <= q.2) /\ r.1 <= r.2 := by
 intro n
 induction n using Nat.strongRecOn with
 | ind n ih =>
  intro s t hn r hr
  match s, t with
  | [], t => rw [dA] at hr; cases hr
  | p :: s, [] => rw [cS] at hr; cases hr
  | p :: s, q :: t =>
   rw [c0] at hr
   rcases List.mem_append.mp hr with hr | hr
   ·split at hr
    ·rename_i h
     rw [List.mem_singleton.mp hr]
     refine ⟨⟨p, List.mem_cons_self, ?_, ?_⟩, ⟨q, List.mem_cons_self, ?_, ?_⟩, h⟩ <;> dsimp only <;> lia
    ·cases hr
   ·split at hr
    ·obtain ⟨⟨p', h1, h2⟩, h3⟩ := ih (s.length + (q :: t).length) (by simp at hn ⊢; lia) s (q :: t) rfl r hr
     exact ⟨⟨p', List.mem_cons_of_mem _ h1, h2⟩, h3⟩
    ·obtain ⟨h1, ⟨q', h2, h3⟩, h4⟩ := ih ((p :: s).length + t.length) (by simp at hn ⊢; lia) (p :: s) t rfl r hr
     exact ⟨h1, ⟨q', List.mem_cons_of_mem _ h2, h3⟩, h4⟩
theorem BA : ∀ (n : Nat) (s t : R), s.length + t.length = n -> bp s -> bp t -> ∀ x, Mem (c0 s t) x ↔ Mem s x /\ Mem t x := by
 intro n
 induction n using Nat.strongRecOn with
 | ind n ih =>
  intro s t hn cs ct x
  match s, t with
  | [], t => rw [dA]; exact ⟨fun h => (bw _ h).elim, fun h => (bw _ h.1).elim⟩
  | p :: s, [] => rw [cS]; exact ⟨fun h => (bw _ h).elim, fun h => (bw _ h.2).elim⟩
  | p :: s, q :: t =>
   have hp := (canon_cons.mp cs).1
   have hq := (canon_cons.mp ct).1
   have cs' := (canon_cons.mp cs).2.2
   have ct' := (canon_cons.mp ct).2.2
   have first : Mem (if max p.1 q.1 <= min p.2 q.2 then [(max p.1 q.1, min p.2 q.2)] else []) x ↔ (p.1 <= x /\ x <= p.2) /\ (q.1 <= x /\ x <= q.2) := by
    split
    ·rw [mem_cons]
     constructor
     ·rintro (h | h)
      ·dsimp only at h; lia
      ·exact (bw _ h).elim
     ·intro h
      left
      dsimp only
      lia
    ·constructor
     ·intro h; exact (bw _ h).elim
     ·intro h; lia
   rw [c0, mem_append, first]
   split
   ·rename_i hlt
    rw [ih (s.length + (q :: t).length) (by simp at hn ⊢; lia) s (q :: t) rfl cs' ct x, mem_cons p s, mem_cons q t]
    constructor
    ·rintro (h | ⟨h1, h2⟩)
     ·exact ⟨.inl h.1, .inl h.2⟩
     ·exact ⟨.inr h1, h2⟩
    ·rintro ⟨h1 | h1, h2 | h2⟩
     ·exact .inl ⟨h1, h2⟩
     ·have := cT ct h2; lia
     ·exact .inr ⟨h1, .inl h2⟩
     ·exact .inr ⟨h1, .inr h2⟩
   ·rename_i hge
    rw [ih ((p :: s).length + t.length) (by simp at hn ⊢; lia) (p :: s) t rfl cs ct' x, mem_cons p s, mem_cons q t]
    constructor
    ·rintro (h | ⟨h1, h2⟩)
     ·exact ⟨.inl h.1, .inl h.2⟩
     ·exact ⟨h1, .inr h2⟩
    ·rintro ⟨h1 | h1, h2 | h2⟩
     ·exact .inl ⟨h1, h2⟩
     ·exact .inr ⟨.inl h1, h2⟩
     ·have := cT cs h1; lia
     ·exact .inr ⟨.inr h1, h2⟩
theorem wu : ∀ (n : Nat) (s t : R), s.length + t.length = n -> bp s -> bp t -> bp (c0 s t) := by
 intro n
 induction n using Nat.strongRecOn with
 | ind n ih =>
  intro s t hn cs ct
  match s, t with
  | [], t => rw [dA]; exact cM
  | p :: s, [] => rw [cS]; exact cM
  | p :: s, q :: t =>
   have cs' := (canon_cons.mp cs).2.2
   have ct' := (canon_cons.mp ct).2.2
   rw [c0]
   have fR : bp (if p.2 < q.2 then c0 s (q :: t) else c0 (p :: s) t) /\ ∀ r ∈ (if p.2 < q.2 then c0 s (q :: t) else c0 (p :: s) t), min p.2 q.2 + 2 <= r.1 := by
    split
    ·rename_i hlt
     refine ⟨ih (s.length + (q :: t).length) (by simp at hn ⊢; lia) s (q :: t) rfl cs' ct, fun r hr => ?_⟩
     obtain ⟨⟨p', h1, h2, _⟩, _⟩ := xU _ s (q :: t) rfl r hr
     have := (canon_cons.mp cs).2.1 p' h1
     lia
    ·rename_i hge
     refine ⟨ih ((p :: s).length + t.length) (by simp at hn ⊢; lia) (p :: s) t rfl cs ct', fun r hr => ?_⟩
     obtain ⟨_, ⟨q', h1, h2, _⟩, _⟩ := xU _ (p :: s) t rfl r hr
     have := (canon_cons.mp ct).2.1 q' h1
     lia
   split
   ·rename_i h
    exact canon_cons.mpr ⟨h, fR.2, fR.1⟩
   ·rw [List.nil_append]; exact fR.1
theorem uR : ∀ (n : Nat) (s t : R), s.length + t.length = n -> (c0 s t).length <= s.length + t.length := by
 intro n
 induction n using Nat.strongRecOn with
 | ind n ih =>
  intro s t hn
  match s, t with
  | [], t => rw [dA]; simp
  | p :: s, [] => rw [cS]; simp
  | p :: s, q :: t =>
   rw [c0, List.length_append]
   have h1 : (if max p.1 q.1 <= min p.2 q.2 then [(max p.1 q.1, min p.2 q.2)] else []).length <= 1 := by split <;> simp
   have h2 : (if p.2 < q.2 then c0 s (q :: t) else c0 (p :: s) t).length + 1 <= (p :: s).length + (q :: t).length := by
    split
    ·have := ih (s.length + (q :: t).length) (by simp at hn ⊢; lia) s (q :: t) rfl
     simp at this ⊢; lia
    ·have := ih ((p :: s).length + t.length) (by simp at hn ⊢; lia) (p :: s) t rfl
     simp at this ⊢; lia
   lia
def Ds : List Int -> R
 | a :: b :: t => (a, b - 1) :: Ds t
 | _ => []
def EF (r t u : R) : Prop := bp u /\ ∀ x, Mem u x ↔ (Mem r x /\ Mem t x)
end Rw
namespace P
open PySem L2 M
def mE : XS := aL (xIf (xB (xOp (dEq false) (xCB eF (ac (ag 0) ap)) (xC (.int 0)))) (cN (aP (ac (xOp jc (ag 1) (xC (.int 5))) (ac (xOp jc (xOp mT (ag 1) (xC (.int 5))) (xC (.int 5))) ap)))) dB) (aL (bN (xOp dIx (ag 0) (xOp jc (ag 1) (xCB eF (ac (ag 0) ap)))) (aO (am (ad 2) (am (ad 3) (am (ad 4) aN))))) (cN (xOp dIx (xL (fw (ac (aP (ac (aq 3) (ac (aq 2) ap))) (ac (aP (ac (aq 4) (ac (aq 2) ap))) (ac (aP (ac (aq 3) (ac (aq 2) ap))) (ac (aP (ac (aq 4) (ac (aq 2) ap))) (ac (aP (ac (xOp cO (ag 4) (xC (.int 1))) (ac (aq 2) ap))) (ac (aP (ac (aq 3) (ac (xOp cO (ag 2) (xC (.int 1))) ap))) ap)))))))) (xOp jc (xOp mT (ag 1) (xC (.int 64))) (xC (.int 6))))))
def lB : List D -> Option O := fnO 5 mE
def oB : List D -> Option D := fun ds => (lB ds).map O.d
def gu : XS := aL (xIf (xB (xOp dLt (ag 1) (xCB eF (ac (ag 0) ap)))) (cN (xOp dIx (ag 0) (ag 1))) dB) (cN (xC (.int 0)))
def gP : List D -> Option O := fnO 2 gu
def cU : List D -> Option D := fun ds => (gP ds).map O.d
def bC : XS := xIf (xOr (xB (xOp (dEq false) (xCB eF (ac (ag 1) ap)) (xC (.int 0)))) (xB (xOp (dEq true) (xOp dIx (xOp dIx (ag 1) (xUn fM (xC (.int 1)))) (xC (.int 0))) (ag 2)))) (ge 1 xPv (xSh (aP (ac (aq 2) (ac (aP (ac (aP (ac (aq 3) (ac (aq 3) ap))) ap)) ap))))) (aL (bN (xOp dIx (xOp dIx (xOp dIx (ag 1) (xUn fM (xC (.int 1)))) (xC (.int 1))) (xUn fM (xC (.int 1)))) (aO (am (ad 4) (am (ad 5) aN)))) (xIf (xB (xOp dGt (ag 3) (xOp cO (ag 5) (xC (.int 1))))) (pG 1 xPv (xUn fM (xC (.int 1))) (aP (ac (aq 2) (ac (xOp cO (xOp dIx (xOp dIx (ag 1) (xUn fM (xC (.int 1)))) (xC (.int 1))) (aP (ac (aP (ac (aq 3) (ac (aq 3) ap))) ap))) ap)))) (pG 1 xPv (xUn fM (xC (.int 1))) (aP (ac (aq 2) (ac (xOp cO (xSl (xOp dIx (xOp dIx (ag 1) (xUn fM (xC (.int 1)))) (xC (.int 1))) tM (tj (xUn fM (xC (.int 1))))) (aP (ac (aP (ac (aq 4) (ac (xCB nW (ac (ag 5) (ac (ag 3) ap))) ap))) ap))) ap))))))
def e9 : XS := aL (fD (fw ap) 1) (aL (eG (xIt (xL (yJ fJ (ac (xL (cE [none, none] (xIt (ag 0)) (aO (am (ad 0) (am (ad 1) aN))) ez (aP (ac (aq 1) (ac (aq 0) ap))))) ap)))) (aO (am (ad 2) (am (ad 3) aN))) (bC)) (cN (xCB fg (ac (ag 1) ap))))
def lM : List D -> Option O := fnO 6 e9
def nY : List D -> Option D := fun ds => (lM ds).map O.d
def bg : XS := xIf (qT (xB (xOp dGt (xCB eF (ac (ag 1) ap)) (xC (.int 0)))) (xB (xOp (dEq false) (xOp dIx (xOp dIx (ag 1) (xUn fM (xC (.int 1)))) (xC (.int 0))) (ag 2)))) (pG 1 xPv (xUn fM (xC (.int 1))) (aP (ac (aq 2) (ac (xOp cO (xOp dIx (xOp dIx (ag 1) (xUn fM (xC (.int 1)))) (xC (.int 1))) (aP (ac (aP (ac (aq 3) (ac (aq 4) ap))) ap))) ap)))) (ge 1 xPv (xSh (aP (ac (aq 2) (ac (aP (ac (aP (ac (aq 3) (ac (aq 4) ap))) ap)) ap)))))
def dH : XS := aL (fD (fw ap) 1) (aL (eG (xIt (xL (yJ fJ (ac (ag 0) ap)))) (aO (am (ad 2) (am (ad 3) (am (ad 4) aN)))) (bg)) (cN (xCB fg (ac (ag 1) ap))))
def eK : List D -> Option O := fnO 5 dH
def ft : List D -> Option D := fun ds => (eK ds).map O.d
def jN : XS := aL (bN (xC (.int 1)) (ad 5)) (aL (xIf (n6 (ag 2)) (bN (xOp dIx (xL (fw (ac (xC (.int 1)) (ac (xC (.int 2)) (ac (xC (.int 1)) (ac (xOp u6 (xC (.int 10)) (xC (.int 40))) (ac (xC (.int 1)) (ac (xC (.int 1)) (ac (xC (.int 3)) (ac (xC (.int 2)) ap)))))))))) (ag 4)) (ad 5)) dB) (aL (xIf (xB (xOp (dEq false) (xOp jc (ag 0) (xC (.int 2))) (xC (.int 1)))) (xIf (qT (xB (xOp dGt (xCB eF (ac (ag 3) ap)) (xC (.int 0)))) (xB (xOp (dEq false) (xOp dIx (xOp dIx (ag 3) (xUn fM (xC (.int 1)))) (xC (.int 1))) (xOp k9 (ag 1) (xC (.int 1)))))) (pG 3 xPv (xUn fM (xC (.int 1))) (aP (ac (xOp dIx (xOp dIx (ag 3) (xUn fM (xC (.int 1)))) (xC (.int 0))) (ac (xOp k9 (xOp cO (ag 1) (ag 5)) (xC (.int 1))) ap)))) (ge 3 xPv (xSh (aP (ac (aq 1) (ac (xOp k9 (xOp cO (ag 1) (ag 5)) (xC (.int 1))) ap)))))) dB) (aL (bN (xOp mT (ag 0) (xC (.int 2))) (ad 0)) (bN (xOp cO (ag 1) (ag 5)) (ad 1)))))
def ui : XS := aL (fD (fw ap) 3) (aL (eG (nz (ac (xC (.int 8)) ap)) (ad 4) (jN)) (cN (xCB fg (ac (ag 3) ap))))
def t5 : List D -> Option O := fnO 6 ui
def xo : List D -> Option D := fun ds => (t5 ds).map O.d
def hE : XS := aL (xIf (xB (xOp dLt (ag 0) (xC (.int 0)))) (cN (xOp k9 (xC (.int 0)) (xOp jc (xOp k9 (xC (.int 0)) (ag 0)) (ag 1)))) dB) (cN (xOp jc (ag 0) (ag 1)))
def i8 : List D -> Option O := fnO 2 hE
def iw : List D -> Option D := fun ds => (i8 ds).map O.d
def eo : XS := ge 1 xPv (xSh (aP (ac (aq 2) (ac (aq 4) (ac (aq 5) ap)))))
def dZ : XS := eG (xIt (aq 3)) (aO (am (ad 4) (am (ad 5) aN))) (eo)
def fH : XS := aL (fD (fw ap) 1) (aL (eG (xIt (aq 0)) (aO (am (ad 2) (am (ad 3) aN))) (dZ)) (pD 1))
def gY : List D -> Option O := fnO 6 fH
def i0 : List D -> Option D := fun ds => (gY ds).map O.d
def h9 : XS := aL (xIf (qT (xB (xOp (dEq true) (xOp dIx (ag 0) (xC (.int 0))) (xOp cO (xOp dIx (ag 1) (xC (.int 0))) (xC (.int 1))))) (xB (xOp (dEq true) (xOp dIx (ag 1) (xC (.int 0))) (xOp cO (xOp dIx (ag 0) (xC (.int 0))) (xC (.int 1)))))) (cN (xC (.bl false))) dB) (cN (xI (xOp dLe (xOp dIx (ag 0) (xC (.int 1))) (xOp cO (xOp dIx (ag 1) (xC (.int 2))) (xC (.int 1)))) (xOp dLe (xOp dIx (ag 1) (xC (.int 1))) (xOp cO (xOp dIx (ag 0) (xC (.int 2))) (xC (.int 1))))))
def iC : List D -> Option O := fnO 2 h9
def jE : List D -> Option D := fun ds => (iC ds).map O.d
def cF : XT := xB (xOp dLt (ag 2) (ag 3))
def cG : XS := aL (bN (xOp mT (xOp cO (ag 2) (ag 3)) (xC (.int 2))) (ad 4)) (xIf (xB (xOp dLe (xOp dIx (xOp dIx (ag 0) (ag 4)) (xC (.int 0))) (ag 1))) (bN (xOp cO (ag 4) (xC (.int 1))) (ad 2)) (bN (aq 4) (ad 3)))
def eW : XS := aL (bN (xC (.int 0)) (ad 2)) (aL (bN (xCB eF (ac (ag 0) ap)) (ad 3)) (aL (dM (cF) (cG)) (cN (aq 2))))
def gc : List D -> Option O := fnO 5 eW
def cK : List D -> Option D := fun ds => (gc ds).map O.d
def cf : XT := qT (xB (xOp dLt (ag 3) (xCB eF (ac (ag 0) ap)))) (xB (xOp dLt (ag 4) (xCB eF (ac (ag 1) ap))))
def bH : XS := aL (bN (xCB nW (ac (xOp dIx (xOp dIx (ag 0) (ag 3)) (xC (.int 0))) (ac (xOp dIx (xOp dIx (ag 1) (ag 4)) (xC (.int 0))) ap))) (ad 5)) (aL (bN (xCB nG (ac (xOp dIx (xOp dIx (ag 0) (ag 3)) (xC (.int 1))) (ac (xOp dIx (xOp dIx (ag 1) (ag 4)) (xC (.int 1))) ap))) (ad 6)) (aL (xIf (xB (xOp dLe (ag 5) (ag 6))) (ge 2 xPv (xSh (aP (ac (aq 5) (ac (aq 6) ap))))) dB) (xIf (xB (xOp dLt (xOp dIx (xOp dIx (ag 0) (ag 3)) (xC (.int 1))) (xOp dIx (xOp dIx (ag 1) (ag 4)) (xC (.int 1))))) (A1 3 (xC (.int 1)) rP) (A1 4 (xC (.int 1)) rP))))
def fQ : XS := aL (fD (fw ap) 2) (aL (bN (xC (.int 0)) (ad 3)) (aL (bN (xC (.int 0)) (ad 4)) (aL (dM (cf) (bH)) (cN (xCB fg (ac (ag 2) ap))))))
def gS : List D -> Option O := fnO 7 fQ
def fF : List D -> Option D := fun ds => (gS ds).map O.d
def dP : XS := xIf (qT (n6 (ag 1)) (xB (xOp dLe (ag 2) (xOp cO (xOp dIx (xOp dIx (ag 1) (xUn fM (xC (.int 1)))) (xC (.int 1))) (xC (.int 1)))))) (pG 1 xPv (xUn fM (xC (.int 1))) (aP (ac (xOp dIx (xOp dIx (ag 1) (xUn fM (xC (.int 1)))) (xC (.int 0))) (ac (xCB nW (ac (xOp dIx (xOp dIx (ag 1) (xUn fM (xC (.int 1)))) (xC (.int 1))) (ac (ag 3) ap))) ap)))) (ge 1 xPv (xSh (aP (ac (aq 2) (ac (aq 3) ap)))))
def mH : XS := aL (fD (fw ap) 1) (aL (eG (xIt (xL (yJ fJ (ac (xL (cE [none, none] (xIt (ag 0)) (aO (am (ad 0) (am (ad 1) aN))) (xB (xOp dLe (ag 0) (ag 1))) (aP (ac (aq 0) (ac (aq 1) ap))))) ap)))) (aO (am (ad 2) (am (ad 3) aN))) (dP)) (cN (xCB fg (ac (ag 1) ap))))
def nr : List D -> Option O := fnO 4 mH
def lN : List D -> Option D := fun ds => (nr ds).map O.d
def cQ : XS := cN (xCB fg (ac (xL (cE [none, none] (xIt (ag 0)) (aO (am (ad 0) (am (ad 1) aN))) (xB (xOp (dEq true) (ag 1) (aP ap))) (aP (ac (aq 0) (ac (aq 1) ap))))) ap))
def dQ : List D -> Option O := fnO 1 cQ
def eg : List D -> Option D := fun ds => (dQ ds).map O.d
def c8 : XS := vp 1 xPv (xL (cE [none, none, some 2] (xIt (ag 3)) (aO (am (ad 0) (am (ad 1) aN))) ez (aP (ac (aq 2) (ac (aq 0) (ac (aq 1) ap))))))
def d6 : XS := aL (fD (fw ap) 1) (aL (eG (xIt (aq 0)) (aO (am (ad 2) (am (ad 3) aN))) (c8)) (pD 1))
def dG : List D -> Option O := fnO 4 d6
def bK : List D -> Option D := fun ds => (dG ds).map O.d
def cz : XS := xIf (qT (xB (xOp (dEq false) (xOp dIx (xOp dIx (ag 0) (ag 6)) (xC (.int 0))) (ag 5))) (xB (wq dLe dLe (xOp dIx (xOp dIx (ag 0) (ag 6)) (xC (.int 1))) (ag 4) (xOp dIx (xOp dIx (ag 0) (ag 6)) (xC (.int 2)))))) (ge 3 xPv (xSh (xOp dIx (ag 1) (ag 6)))) dB
def eD : XS := eG (nz (ac (xCB eF (ac (ag 0) ap)) ap)) (ad 6) (cz)
def iI : XS := aL (fD (fw ap) 3) (aL (eG (xIt (aq 2)) (aO (am (ad 4) (am (ad 5) aN))) (eD)) (CT 3 (cN (aK ft (ac (xL (cE [none, some 0, some 3, some 1] (nz (ac (xCB eF (ac (ag 0) ap)) ap)) (ad 0) (xB (xOp (dIn false) (xOp dIx (ag 3) (ag 0)) (ag 2))) (xOp dIx (ag 1) (ag 0)))) ap)))))
def jT : List D -> Option O := fnO 7 iI
def gf : List D -> Option D := fun ds => (jT ds).map O.d
def dL : XS := xIf (qT (xB (xOp (dEq true) (xOp dIx (ag 1) (ag 3)) (xOp dIx (ag 1) (ag 2)))) (n6 (aK jE (ac (xOp dIx (ag 0) (ag 3)) (ac (xOp dIx (ag 0) (ag 2)) ap))))) (aL (bN (xCB nG (ac (xOp dIx (ag 1) (ag 3)) (ac (xOp dIx (ag 1) (ag 2)) ap))) (ad 4)) (aL (bN (xCB nW (ac (xOp dIx (ag 1) (ag 3)) (ac (xOp dIx (ag 1) (ag 2)) ap))) (ad 5)) (bN (xL (cE [none, some 4, some 5] (xIt (ag 1)) (ad 0) ez (xOp dIx (xL (fw (ac (aq 0) (ac (aq 1) ap)))) (xCB vP (ac (xOp (dEq false) (ag 0) (ag 2)) ap))))) (ad 1)))) dB
def gD : XS := eG (nz (ac (ag 2) ap)) (ad 3) (dL)
def jL : XS := aL (bN (xL (oT (xCB eF (ac (ag 0) ap)))) (ad 1)) (aL (eG (nz (ac (xCB eF (ac (ag 0) ap)) ap)) (ad 2) (gD)) (cN (aq 1)))
def nA : List D -> Option O := fnO 6 jL
def qG : List D -> Option D := fun ds => (nA ds).map O.d
def d9 : XS := bN (xOp cO (ag 6) (xOp jc (xOp tO (xC (.int 5)) (xOp dIx (ag 0) (ag 7))) (xC (.int 256)))) (ad 6)
def et : XS := aL (bN (xOp mT (xOp jc (xOp tO (xOp dIx (ag 0) (xOp cO (xC (.int 1)) (ag 5))) (xC (.int 48271))) (xC (.int 2147483647))) (xC (.int 37))) (ad 6)) (aL (eG (ym (ac (xOp cO (xC (.int 21)) (ag 5)) (ac (xCB nG (ac (xCB eF (ac (ag 0) ap)) (ac (xC (.int 99)) ap))) (ac (xC (.int 20)) ap)))) (ad 7) (d9)) (aL (bN (aK xo (ac (aq 6) (ac (aq 2) (ac (xOp (dEq false) (xOp jc (ag 1) (xC (.int 3))) (xC (.int 1))) ap)))) (ad 8)) (xIf (xB (xOp dGt (xCB eF (ac (ag 8) ap)) (xC (.int 0)))) (ge 4 xPv (xSh (aP (ac (xOp cO (ag 3) (ag 5)) (ac (aq 8) ap))))) dB)))
def iM : XS := aL (bN (aK cU (ac (aq 0) (ac (xC (.int 0)) ap))) (ad 1)) (aL (bN (aK iw (ac (xOp mT (ag 1) (xC (.int 12))) (ac (xOp dIx (xL (fw (ac (xC (.int 9)) (ac (xOp u6 (xC (.int 10)) (xC (.int 58))) ap)))) (xOp jc (xOp mT (ag 1) (xC (.int 3))) (xC (.int 2)))) ap))) (ad 2)) (aL (bN (aK iw (ac (xOp mT (ag 1) (xC (.int 24))) (ac (xOp dIx (xL (fw (ac (xC (.int 9)) (ac (xOp u6 (xC (.int 10)) (xC (.int 58))) ap)))) (xOp jc (xOp mT (ag 1) (xC (.int 6))) (xC (.int 2)))) ap))) (ad 3)) (aL (fD (fw ap) 4) (aL (eG (nz (ac (xCB nG (ac (xC (.int 20)) (ac (xOp k9 (xCB eF (ac (ag 0) ap)) (xC (.int 1))) ap))) ap)) (ad 5) (et)) (cN (xCB fg (ac (ag 4) ap)))))))
def jR : List D -> Option O := fnO 9 iM
def kT : List D -> Option D := fun ds => (jR ds).map O.d
def dD : XS := cN (xSl (ag 0) (tj (xCB nW (ac (xC (.int 0)) (ac (xOp k9 (aK cK (ac (aq 0) (ac (aq 1) ap))) (xC (.int 1))) ap)))) (tj (aK cK (ac (aq 0) (ac (aq 2) ap)))))
def eJ : List D -> Option O := fnO 3 dD
def fm : List D -> Option D := fun ds => (eJ ds).map O.d
def bF : XS := aL (xIf (xOr (Ah (n6 (xY 1))) (xB (xOp (dEq true) (xFl (xOp dIx (xOp dIx (xY 1) (xUn fM (xC (.int 1)))) (xC (.int 0)))) (ag 2)))) (ge 1 xPv (AF (ud (xSh (aq 2)) (ud (AC A0) A0)))) dB) (ge 1 (xPi (xPi xPv (xUn fM (xC (.int 1)))) (xC (.int 1))) (xSh (aP (ac (aq 3) (ac (aq 4) ap)))))
def fP : XS := aL (fD (fw ap) 1) (aL (eG (xIt (xL (yJ fJ (ac (xL (cE [none, none, none] (xIt (ag 0)) (aO (am (ad 0) (am (ad 1) (am (ad 2) aN)))) (xB (xOp dLe (ag 1) (ag 2))) (aP (ac (aq 0) (ac (aq 1) (ac (aq 2) ap)))))) ap)))) (aO (am (ad 2) (am (ad 3) (am (ad 4) aN)))) (bF)) (CT 1 (cN (xCB fg (ac (xL (cE [none, none] (xIt (aq 1)) (aO (am (ad 0) (am (ad 1) aN))) ez (aP (ac (aq 0) (ac (aK lN (ac (aq 1) ap)) ap))))) ap)))))
def gT : List D -> Option O := fnO 5 fP
def i4 : List D -> Option D := fun ds => (gT ds).map O.d
def ig : XS := aL (bN (aK cK (ac (aq 0) (ac (aq 1) ap))) (ad 2)) (aL (xIf (qT (xB (xOp dGt (ag 2) (xC (.int 0)))) (xB (xOp (dEq false) (xOp dIx (xOp dIx (ag 0) (xOp k9 (ag 2) (xC (.int 1)))) (xC (.int 0))) (ag 1)))) (cN (xOp dIx (xOp dIx (ag 0) (xOp k9 (ag 2) (xC (.int 1)))) (xC (.int 1)))) dB) (cN (aP ap)))
def hU : List D -> Option O := fnO 3 ig
def fe : List D -> Option D := fun ds => (hU ds).map O.d
def l8 : XS := cN (aK eg (ac (xL (cE [none, none, some 1] (xIt (ag 0)) (aO (am (ad 0) (am (ad 1) aN))) ez (aP (ac (aq 0) (ac (aK fF (ac (aq 1) (ac (aK fe (ac (aq 2) (ac (aq 0) ap))) ap))) ap))))) ap))
def mY : List D -> Option O := fnO 2 l8
def ir : List D -> Option D := fun ds => (mY ds).map O.d
def bJ : XS := cN (aK i4 (ac (xL (cE [none, none, none, none] (xIt (ag 0)) (aO (am (ad 0) (am (ad 1) (am (ad 2) (am (ad 3) aN))))) ez (aP (ac (aq 0) (ac (aq 1) (ac (aq 2) ap)))))) ap))
def b9 : List D -> Option O := fnO 1 bJ
def aW : List D -> Option D := fun ds => (b9 ds).map O.d
def c7 : XS := aL (bN (aK fe (ac (aq 0) (ac (aq 2) ap))) (ad 3)) (aL (bN (aK cK (ac (aq 3) (ac (aq 1) ap))) (ad 4)) (aL (xIf (qT (xB (xOp dGt (ag 4) (xC (.int 0)))) (xB (xOp dLe (ag 1) (xOp dIx (xOp dIx (ag 3) (xOp k9 (ag 4) (xC (.int 1)))) (xC (.int 1)))))) (cN (xOp cO (aP (ac (aq 2) ap)) (xOp dIx (ag 3) (xOp k9 (ag 4) (xC (.int 1)))))) dB) (cN (xC .non))))
def dw : List D -> Option O := fnO 5 c7
def aY : List D -> Option D := fun ds => (dw ds).map O.d
def bV : XS := vp 5 xPv (xL (cE [none, none, some 6, some 3] (xIt (aK fm (ac (aK fe (ac (aq 0) (ac (aq 6) ap))) (ac (aq 3) (ac (aq 4) ap))))) (aO (am (ad 0) (am (ad 1) aN))) (xB (xOp dGe (ag 1) (ag 3))) (aP (ac (aq 2) (ac (aq 0) (ac (aq 1) ap))))))
def iQ : XS := aL (bN (xOp k9 (xOp dIx (ag 1) (xC (.int 1))) (ag 2)) (ad 3)) (aL (bN (xOp cO (xOp dIx (ag 1) (xC (.int 2))) (ag 2)) (ad 4)) (aL (fD (fw ap) 5) (aL (eG (xIt (aP (ac (xOp k9 (xOp dIx (ag 1) (xC (.int 0))) (xC (.int 1))) (ac (xOp cO (xOp dIx (ag 1) (xC (.int 0))) (xC (.int 1))) ap)))) (ad 6) (bV)) (pD 5))))
def jV : List D -> Option O := fnO 7 iQ
def i9 : List D -> Option D := fun ds => (jV ds).map O.d
def cI : XT := xB (xOp dLt (ag 5) (xCB eF (ac (ag 3) ap)))
def cH : XS := xIf (xB (lD true (aq 6) 4)) (aL (As 4 (aq 6)) (ge 3 xPv (xSh (xOp cO (ag 6) (aP (ac (aq 5) ap)))))) dB
def dt : XS := aL (eG (xIt (aK i9 (ac (aq 0) (ac (xOp dIx (ag 3) (ag 5)) (ac (aq 2) ap))))) (ad 6) (cH)) (A1 5 (xC (.int 1)) rP)
def fc : XS := aL (fD (fw (ac (xOp cO (ag 1) (aP (ac (xC .non) ap))) ap)) 3) (aL (n5 (vY (aq 1)) 4) (aL (bN (xC (.int 0)) (ad 5)) (aL (dM (cI) (dt)) (pD 3))))
def iV : List D -> Option O := fnO 7 fc
def bX : List D -> Option D := fun ds => (iV ds).map O.d
def cW : XS := xIf (xB (lD true (aq 4) 3)) (aL (ge 2 xPv (xSh (aK bX (ac (aq 0) (ac (aq 4) (ac (aq 1) ap)))))) (yr 3 (cE [none, none, none, none] (xIt (xOp dIx (ag 2) (xUn fM (xC (.int 1))))) (aO (am (ad 0) (am (ad 1) (am (ad 2) (am (ad 3) aN))))) ez (aP (ac (aP (ac (aq 0) (ac (aq 1) (ac (aq 2) ap)))) (ac (xC (.bl true)) ap)))))) dB
def fN : XS := aL (fD (fw ap) 2) (aL (n5 Dk 3) (aL (eG (xIt (aK bK (ac (aq 0) ap))) (ad 4) (cW)) (pD 2)))
def gZ : List D -> Option O := fnO 5 fN
def je : List D -> Option D := fun ds => (gZ ds).map O.d
def f8 : XS := aL (bN (aK aY (ac (aq 0) (ac (aq 1) (ac (aq 2) ap)))) (ad 3)) (aL (xIf (xB (xOp (Br false) (ag 3) (xC .non))) (cN (aP ap)) dB) (cN (aK aW (ac (aK bX (ac (aq 0) (ac (aq 3) (ac (xC (.int (1))) ap)))) ap))))
def gL : List D -> Option O := fnO 4 f8
def iL : List D -> Option D := fun ds => (gL ds).map O.d
def mr : XS := cN (aK je (ac (aq 0) (ac (xC (.int (1))) ap)))
def m7 : List D -> Option O := fnO 1 mr
def jX : List D -> Option D := fun ds => (m7 ds).map O.d
def dU : XS := xIf (n6 (xCB yT (ac (xL (m8 2 (cE [none, none, none, none, some 2] (xIt (ag 4)) (aO (am (ad 0) (am (ad 1) (am (ad 2) (am (ad 3) aN))))) ez (lD false (aP (ac (aq 0) (ac (aq 1) (ac (aq 2) ap)))) 4)))) ap))) (vp 3 xPv (aq 4)) dB
def hV : XS := aL (n5 (ub (cE [none, none, none, some 0] (xIt (aK bK (ac (aK ir (ac (aq 0) (ac (aq 1) ap))) ap))) (aO (am (ad 0) (am (ad 1) (am (ad 2) aN)))) ez (aP (ac (aK aY (ac (aq 3) (ac (aq 1) (ac (aq 0) ap)))) (ac (xC (.bl true)) ap))))) 2) (aL (fD (fw ap) 3) (aL (eG (xIt (aK jX (ac (aq 0) ap))) (ad 4) (dU)) (CT 3 (cN (aK aW (ac (aq 3) ap))))))
def pI : List D -> Option O := fnO 5 hV
def iB : List D -> Option D := fun ds => (pI ds).map O.d
def lS : XS := aL (bN (aK oB (ac (aq 2) (ac (xOp cO (xOp mT (xOp jc (xOp tO (aK cU (ac (aq 0) (ac (aq 5) ap))) (xC (.int 39373))) (xC (.int 2147483629))) (xC (.int 37))) (ag 5)) ap))) (aO (am (ad 6) (am (ad 7) aN)))) (aL (bN (aK iL (ac (aq 1) (ac (aq 6) (ac (aq 7) ap)))) (ad 8)) (aL (xIf (xOr (Ah (n6 (xCB o6 (ac (ag 8) (ac (xC (.ty "tuple")) ap))))) (xB (xOp (dEq true) (ag 8) (aK gf (ac (aq 2) (ac (aq 3) (ac (xL (fw (ac (aP (ac (aq 6) (ac (aq 7) ap))) ap))) ap))))))) (cN (xC (.bl false))) dB) (ge 4 xPv (xSh (aP (ac (aq 6) (ac (aq 7) ap)))))))
def yq : XS := aL (bN (aK kT (ac (aq 0) ap)) (ad 1)) (aL (bN (aK i0 (ac (aq 1) ap)) (ad 2)) (aL (bN (aK qG (ac (aq 2) ap)) (ad 3)) (aL (fD (fw ap) 4) (aL (eG (nz (ac (xC (.int 4)) ap)) (ad 5) (lS)) (aL (bN (xSl (ag 4) tM (tj (xOp cO (xC (.int 1)) (xOp jc (aK cU (ac (aq 0) (ac (xC (.int 1)) ap))) (xC (.int 3)))))) (ad 9)) (aL (bN (aK iB (ac (aq 1) (ac (aK nY (ac (aq 9) ap)) ap))) (ad 8)) (aL (xIf (xOr (Ah (n6 (xCB o6 (ac (ag 8) (ac (xC (.ty "tuple")) ap))))) (xB (xOp (dEq true) (ag 8) (aK gf (ac (aq 2) (ac (aq 3) (ac (aq 9) ap))))))) (cN (xC (.bl false))) dB) (cN (xI (xOp (dEq false) (aK iB (ac (aq 1) (ac (aP ap) ap))) (aP ap)) (xOp (dEq false) (aK iB (ac (aq 1) (ac (aq 1) ap))) (ag 1)))))))))))
def wH : List D -> Option O := fnO 10 yq
def Dj : List D -> Option D := fun ds => (wH ds).map O.d
local macro_rules | `(tactic| and_intros) => `(tactic| repeat' first | (with_reducible first | exact Ft | exact Fu | exact Gp | exact FQ | exact DM | exact DJ | exact zV | exact BP | exact EV _ | exact FT | exact Dy | exact E8 _ | exact Fz | exact FP | exact GU _ | exact GV | exact G8 | exact HE _ | exact B3 | exact Gi | exact Hg | exact Hz | exact G3 | exact Fs | exact Fl | exact Fn | exact F2 | exact F9 | exact EI | exact EN | exact AV | exact Ef _ | exact FJ _ | exact D9 _ | exact DK _ | exact Gb | exact Eb | exact DG | exact DC | apply SE.t | apply SF.e | apply SF.t | apply SQ.fl | apply STr.e | apply Ek | apply Gx | apply E1 | apply Eg | apply FX | apply ES | apply B2 | apply GR | apply F3 | apply Em | apply DB | apply FY | apply DW | apply Bj | apply Fx | apply HC | apply Gg | apply CM | apply EK | apply Dq | apply Ck | apply Ee | apply Ga | apply F7 | apply HW | apply Gu | apply CL | apply Fj | apply Dz | apply Cb | apply FN | apply zX | apply HV | apply Fe | apply Hi | apply DI | apply DH | apply FI | apply FB | apply ER | apply Hv | apply HX | apply s_test | apply Du | apply Go | apply Er | apply Hl | apply Eh | apply B8 | apply BQ | apply Cv | apply Ce | apply SE.p | apply SPk.q | apply SI.p) | exact s_c rfl | apply BD | exact fun _ _ h => Cr h | refine' EH (E := E0) ?_ ?_)
abbrev uE (K : W.Frag) : Sp := dg K 2 lB
def AE (K : W.Frag) : { t : TS // SS K t mE } := ⟨_, by delta mE; and_intros⟩
abbrev nX (K : W.Frag) : Sp := dg K 2 gP
def wa (K : W.Frag) : { t : TS // SS K t gu } := ⟨_, by delta gu; and_intros⟩
abbrev mz (K : W.Frag) : Sp := dg K 1 lM
def uj (K : W.Frag) : { t : TS // SS K t e9 } := ⟨_, by delta e9 bC; and_intros⟩
abbrev g9 (K : W.Frag) : Sp := dg K 1 eK
def nc (K : W.Frag) : { t : TS // SS K t dH } := ⟨_, by delta dH bg; and_intros⟩
abbrev yj (K : W.Frag) : Sp := dg K 3 t5
def CF (K : W.Frag) : { t : TS // SS K t ui } := ⟨_, by delta ui jN; and_intros⟩
abbrev oQ (K : W.Frag) : Sp := dg K 2 i8
def wD (K : W.Frag) : { t : TS // SS K t hE } := ⟨_, by delta hE; and_intros⟩
abbrev kr (K : W.Frag) : Sp := dg K 1 gY
def rm (K : W.Frag) : { t : TS // SS K t fH } := ⟨_, by delta fH dZ eo; and_intros⟩
abbrev tD (K : W.Frag) : Sp := dg K 2 iC
def yR (K : W.Frag) : { t : TS // SS K t h9 } := ⟨_, by delta h9; and_intros⟩
abbrev jS (K : W.Frag) : Sp := dg K 2 gc
def pZ (K : W.Frag) : { t : TS // SS K t eW } := ⟨_, by delta eW cG cF; and_intros⟩
abbrev kG (K : W.Frag) : Sp := dg K 2 gS
def rK (K : W.Frag) : { t : TS // SS K t fQ } := ⟨_, by delta fQ bH cf; and_intros⟩
abbrev r9 (K : W.Frag) : Sp := dg K 1 nr
def zz (K : W.Frag) : { t : TS // SS K t mH } := ⟨_, by delta mH dP; and_intros⟩
abbrev f9 (K : W.Frag) : Sp := dg K 1 dQ
def kY (K : W.Frag) : { t : TS // SS K t cQ } := ⟨_, by delta cQ; and_intros⟩
abbrev jk (K : W.Frag) : Sp := dg K 1 dG
def oq (K : W.Frag) : { t : TS // SS K t d6 } := ⟨_, by delta d6 c8; and_intros⟩
abbrev nI (K : W.Frag) : Sp := dg K 3 jT
def uV (K : W.Frag) : { t : TS // SS K t iI } := ⟨_, by delta iI eD cz; and_intros⟩
abbrev rX (K : W.Frag) : Sp := dg K 1 nA
def ze (K : W.Frag) : { t : TS // SS K t jL } := ⟨_, by delta jL gD dL; and_intros⟩
abbrev nK (K : W.Frag) : Sp := dg K 1 jR
def uH (K : W.Frag) : { t : TS // SS K t iM } := ⟨_, by delta iM et d9; and_intros⟩
abbrev im (K : W.Frag) : Sp := dg K 3 eJ
def mJ (K : W.Frag) : { t : TS // SS K t dD } := ⟨_, by delta dD; and_intros⟩
abbrev kw (K : W.Frag) : Sp := dg K 1 gT
def rG (K : W.Frag) : { t : TS // SS K t fP } := ⟨_, by delta fP bF; and_intros⟩
abbrev sX (K : W.Frag) : Sp := dg K 2 hU
def zH (K : W.Frag) : { t : TS // SS K t ig } := ⟨_, by delta ig; and_intros⟩
abbrev sC (K : W.Frag) : Sp := dg K 2 mY
def yK (K : W.Frag) : { t : TS // SS K t l8 } := ⟨_, by delta l8; and_intros⟩
abbrev fE (K : W.Frag) : Sp := dg K 1 b9
def ki (K : W.Frag) : { t : TS // SS K t bJ } := ⟨_, by delta bJ; and_intros⟩
abbrev kE (K : W.Frag) : Sp := dg K 3 dw
def qZ (K : W.Frag) : { t : TS // SS K t c7 } := ⟨_, by delta c7; and_intros⟩
abbrev nJ (K : W.Frag) : Sp := dg K 3 jV
def uJ (K : W.Frag) : { t : TS // SS K t iQ } := ⟨_, by delta iQ bV; and_intros⟩
abbrev lI (K : W.Frag) : Sp := dg K 3 iV
def tU (K : W.Frag) : { t : TS // SS K t fc } := ⟨_, by delta fc dt cH cI; and_intros⟩
abbrev ko (K : W.Frag) : Sp := dg K 2 gZ
def rF (K : W.Frag) : { t : TS // SS K t fN } := ⟨_, by delta fN cW; and_intros⟩
abbrev nL (K : W.Frag) : Sp := dg K 3 gL
def vQ (K : W.Frag) : { t : TS // SS K t f8 } := ⟨_, by delta f8; and_intros⟩
abbrev sU (K : W.Frag) : Sp := dg K 1 m7
def zb (K : W.Frag) : { t : TS // SS K t mr } := ⟨_, by delta mr; and_intros⟩
abbrev qq (K : W.Frag) : Sp := dg K 2 pI
def w9 (K : W.Frag) : { t : TS // SS K t hV } := ⟨_, by delta hV dU; and_intros⟩
abbrev t6 (K : W.Frag) : Sp := dg K 1 wH
def E4 (K : W.Frag) : { t : TS // SS K t yq } := ⟨_, by delta yq lS; and_intros⟩
end P
namespace P
open PySem L2 M Rw
def pE (p : Int × Int) : List Int := [p.1, p.2]
theorem uM : ∀ r : R, keys (r.map prD) = some (r.map pE)
 | [] => rfl
 | p :: r => by
  rw [List.map_cons, keys, uM r]
  rfl
theorem zZ : ∀ {r : R}, r ≠ [] -> bG (r.map prD) = none
 | [], h => absurd rfl h
 | p :: r, _ => rfl
def yp : List Int -> Int × Int
 | [a, b] => (a, b)
 | _ => (0, 0)
def jM (ps : R) : R := (fX (ps.map pE)).map yp
theorem lg (ps : R) : (jM ps).map pE = fX (ps.map pE) := by
 unfold jM
 rw [List.map_map]
 have h : ∀ k ∈ fX (ps.map pE), (pE ∘ yp) k = k := fun k hk => by
  have := (gA _).mem_iff.mp hk
  obtain ⟨p, _, rfl⟩ := List.mem_map.mp this
  rfl
 rw [List.map_congr_left h, List.map_id']
theorem f7 (ps : R) : (jM ps).Perm ps := by
 have h := (gA (ps.map pE)).map yp
 rw [List.map_map] at h
 have e : (yp ∘ pE) = id := rfl
 rw [e, List.map_id] at h
 exact h
theorem Aj (ps : R) : (jM ps).Pairwise fun p q => p.1 <= q.1 := by
 have h := jC (ps.map pE)
 rw [<- lg, List.pairwise_map] at h
 refine h.imp fun {p q} e => ?_
 have e' : (if q.1 = p.1 then HT.bR [q.2] [p.2] else decide (q.1 < p.1)) = false := e
 by_cases hq : q.1 = p.1
 ·lia
 ·rw [if_neg hq] at e'
  have := of_decide_eq_false e'
  lia
theorem nR (ps : R) (h : ps.length < 30000) : fJ [yF ps] = some ((jM ps).map prD) := by
 show (if (ps.map prD).length < 30000 then _ else _) = _
 rw [if_pos (by rw [List.length_map]; exact h)]
 by_cases e : ps = []
 ·subst e
  have e0 : jM [] = [] := List.length_eq_zero_iff.mp (by rw [(f7 []).length_eq]; rfl)
  have e1 : nF [] = [] := List.length_eq_zero_iff.mp (by rw [(ll []).length_eq]; rfl)
  show some ((nF []).map D.int) = _
  rw [e0, e1]
  rfl
 ·rw [zZ e]
  dsimp only
  rw [uM]
  have : (jM ps).map prD = (fX (ps.map pE)).map rh := by
   rw [<- lg, List.map_map]
   rfl
  rw [this]
  rfl
def rH (p : Int × Int) : Bool := decide (p.1 <= p.2)
def sv (ps : R) : R := lH (jM (ps.filter rH))
theorem gQ (ps : R) : Dm ps (sv ps) := by
 refine Bb ?_ (Aj _) fun x => ?_
 ·intro p hp
  have := (f7 _).mem_iff.mp hp
  simpa [rH] using (List.mem_filter.mp this).2
 ·rw [A6 (f7 _)]
  exact mem_filter ps x
theorem vD (acc : R) (p : Int × Int) : (step acc p).length <= acc.length + 1 := by
 rcases List.eq_nil_or_concat acc with rfl | ⟨t, q, rfl⟩
 ·simp [Rw.step]
 ·rw [List.concat_eq_append, fU]
  split <;> simp
theorem sT : ∀ (l acc : R), (l.foldl step acc).length <= acc.length + l.length
 | [], acc => by simp
 | p :: l, acc => by
  have h1 := sT l (step acc p)
  have h2 := vD acc p
  rw [List.foldl_cons, List.length_cons]
  lia
theorem aS {n : Nat} (h : n <= 100000) : n <= LIM := Nat.le_trans h (by rw [eL]; decide)
theorem df {n : Nat} (h : n <= 100000) : n < LIM := Nat.lt_of_le_of_lt h (by rw [eL]; decide)
theorem m6 (a b : Int) : D.tup [.int a, .int b] = prD (a, b) := rfl
theorem tf : ∀ ps : R, ps.filterMap (fun p => if p.1 <= p.2 then some (prD p) else none) = (ps.filter rH).map prD
 | [] => rfl
 | p :: t => by
  rw [List.filterMap_cons, List.filter_cons, tf t]
  by_cases h : p.1 <= p.2
  ·simp [rH, h]
  ·simp [rH, h]
theorem yQ (ps : R) : cR (aO (am (ad 0) (am (ad 1) aN))) (xB (xOp dLe (ag 0) (ag 1))) (aP (ac (aq 0) (ac (aq 1) ap))) [.un, .un] (ps.map prD) = some ((ps.filter rH).map prD) := by
 rw [gx prD (fun p => if p.1 <= p.2 then some (prD p) else none) ps, tf]
 intro p _
 by_cases h : p.1 <= p.2 <;> simp [gR, h]
theorem xr (pre : R) (p : Int × Int) : lH (pre ++ [p]) = step (lH pre) p := by
 unfold lH
 rw [List.foldl_append]
 rfl
theorem Ac (pre : R) : (lH pre).length <= pre.length := by
 have := sT pre []
 unfold lH
 simpa using this
theorem fT {α : Type} {l : List α} {i : Nat} {x : α} (h : l[i]? = some x) : l.drop i = x :: l.drop (i + 1) := by
 obtain ⟨h1, rfl⟩ := List.getElem?_eq_some_iff.mp h
 exact List.drop_eq_getElem_cons h1
theorem Au {r : R} {i : Nat} {p : Int × Int} (h : r[i]? = some p) : atI (r.map prD) (i : Int) = some (prD p) := cB (by rw [List.getElem?_map, h]; rfl)
theorem y8 (p q : Int × Int) (s t : R) : c0 (p :: s) (q :: t) = (if max p.1 q.1 <= min p.2 q.2 then [(max p.1 q.1, min p.2 q.2)] else []) ++ (if p.2 < q.2 then c0 s (q :: t) else c0 (p :: s) t) := by rw [c0]
theorem mx (a b : Int) : (if b > a then b else a) = max a b := by split <;> lia
theorem mn (a b : Int) : (if b < a then b else a) = min a b := by split <;> lia
theorem mO {r t : R} (cr : bp r) (ct : bp t) : EF r t (c0 r t) := ⟨wu _ r t rfl cr ct, fun x => BA _ r t rfl cr ct x⟩
theorem qC (n : Nat) : fV 0 n = (List.range n).map fun k : Nat => D.int (k : Int) := by
 apply List.ext_getElem?
 intro i
 cases q : (fV 0 n)[i]? with
 | none =>
  have := List.getElem?_eq_none_iff.mp q
  rw [mQ] at this
  rw [List.getElem?_eq_none (by rw [List.length_map, List.length_range]; exact this)]
 | some d =>
  obtain ⟨h1, rfl⟩ := mM n 0 i d q
  rw [List.getElem?_map, List.getElem?_range h1]
  simp
theorem xD {α β : Type} (f : α -> β) (xs : List α) (lo hi : Option Int) : gW (xs.map f) lo hi = (gW xs lo hi).map f := by
 unfold gW
 rw [List.length_map, <- List.map_drop, <- List.map_take]
theorem Ad {α : Type} (xs : List α) (lo hi : Option Int) : (gW xs lo hi).length <= xs.length := by
 exact Nat.le_trans (List.length_take_le' _ _) (by rw [List.length_drop]; exact Nat.sub_le _ _)
theorem cP {m n : XS} {ρ ρ' : M.Env} (h : m ρ = some (.nx ρ')) : aL m n ρ = n ρ' := by unfold aL; rw [h]
theorem C0 {n : Nat} {x : XS} {ds : List D} {d : D} (h : x (ds.map .sh ++ List.replicate (n - ds.length) .un) = some (.rt d)) : (fnO n x ds).map O.d = some d := by unfold fnO; rw [h]; simp
theorem xA {n d : Nat} {v : Int} (h : 0 <= v) : HT.sIx n d (some v) = min v.toNat n := by
 show (if v < 0 then _ else _) = _
 rw [if_neg (by lia)]
theorem vK (s0 : Sl) (acc : R) (a b : Int) (h : acc.length <= 30000) : dP [s0, owl (acc.map prD), .sh (.int a), .sh (.int b)] = some (.nx [s0, owl ((step acc (a, b)).map prD), .sh (.int a), .sh (.int b)]) := by
 rcases List.eq_nil_or_concat acc with rfl | ⟨t, q, rfl⟩
 ·simp [dP, Rw.step, prD]
 ·rw [List.concat_eq_append] at *
  rw [fU]
  have hl : t.length + 1 <= 30000 := by simpa using h
  have hlim : t.length + 1 < LIM := df (by lia)
  have at1 : atI (t.map prD ++ [prD q]) (-1) = some (prD q) := e7 _ _
  by_cases hc : a <= q.2 + 1
  ·simp [dP, at1, hc, ie, m6]
  ·simp [dP, at1, hc, hlim, m6]
theorem uY (ps : R) (h : ps.length < 30000) : lN [yF ps] = some (cm (sv ps)) := by
 have hf := List.length_filter_le rH ps
 have hs := (f7 (ps.filter rH)).length_eq
 have key : ∃ ρ', eZ (aO (am (ad 2) (am (ad 3) aN))) dP ((jM (ps.filter rH)).map prD) [.sh (yF ps), .ow (.lst []), .un, .un] = some (.nx ρ') /\ ∃ va vb, ρ' = [.sh (yF ps), owl ((sv ps).map prD), va, vb] := by
  refine a5 prD (fun pre ρ => ∃ va vb, ρ = [.sh (yF ps), owl ((lH pre).map prD), va, vb]) _ _ ⟨_, _, rfl⟩ ?_
  rintro pre p post _ e ⟨va, vb, rfl⟩
  have hp : pre.length <= 30000 := by
   have := congrArg List.length e
   rw [List.length_append] at this
   lia
  refine ⟨_, _, rfl, .inl (vK _ (lH pre) p.1 p.2 (by have := Ac pre; lia)), .sh (.int p.1), .sh (.int p.2), by rw [xr]⟩
 obtain ⟨ρ', k1, va, vb, rfl⟩ := key
 have hc := yQ ps
 have hb := nR (ps.filter rH) (by lia)
 have hl : ps.length <= LIM := aS (by lia)
 simp [lN, nr, fnO, mH, hl, hc, hb, k1]
abbrev Tri := Int × Int × Int
abbrev av (t : Tri) : D := .tup [.int t.1, .int t.2.1, .int t.2.2]
abbrev Pic := List (Int × R)
abbrev pyD (q : Int × R) : D := .tup [.int q.1, cm q.2]
abbrev aw (p : Pic) : D := .tup (p.map pyD)
def jt (ts : List Tri) (x y : Int) : Prop := ∃ t ∈ ts, t.1 = y /\ t.2.1 <= x /\ x <= t.2.2
def eA (p : Pic) (x y : Int) : Prop := ∃ q ∈ p, q.1 = y /\ Mem q.2 x
def aH (p : Pic) : Prop := (∀ q ∈ p, bp q.2 /\ q.2 ≠ []) /\ p.Pairwise fun a b => a.1 < b.1
theorem dr (x y : Int) : ¬ eA [] x y := by rintro ⟨_, h, _⟩; cases h
theorem bm (q : Int × R) (p : Pic) (x y : Int) : eA (q :: p) x y ↔ (q.1 = y /\ Mem q.2 x) \/ eA p x y := by
 constructor
 ·rintro ⟨s, h, e⟩
  rcases List.mem_cons.mp h with rfl | h
  ·exact .inl e
  ·exact .inr ⟨s, h, e⟩
 ·rintro (e | ⟨s, h, e⟩)
  ·exact ⟨q, List.mem_cons_self, e⟩
  ·exact ⟨s, List.mem_cons_of_mem _ h, e⟩
theorem dX (p q : Pic) (x y : Int) : eA (p ++ q) x y ↔ eA p x y \/ eA q x y := by
 constructor
 ·rintro ⟨s, h, e⟩
  rcases List.mem_append.mp h with h | h
  ·exact .inl ⟨s, h, e⟩
  ·exact .inr ⟨s, h, e⟩
 ·rintro (⟨s, h, e⟩ | ⟨s, h, e⟩)
  ·exact ⟨s, List.mem_append_left _ h, e⟩
  ·exact ⟨s, List.mem_append_right _ h, e⟩
theorem tE (t : Tri) (ts : List Tri) (x y : Int) : jt (t :: ts) x y ↔ (t.1 = y /\ t.2.1 <= x /\ x <= t.2.2) \/ jt ts x y := by
 constructor
 ·rintro ⟨s, h, e⟩
  rcases List.mem_cons.mp h with rfl | h
  ·exact .inl e
  ·exact .inr ⟨s, h, e⟩
 ·rintro (e | ⟨s, h, e⟩)
  ·exact ⟨t, List.mem_cons_self, e⟩
  ·exact ⟨s, List.mem_cons_of_mem _ h, e⟩
theorem gK (a b : List Tri) (x y : Int) : jt (a ++ b) x y ↔ jt a x y \/ jt b x y := by
 constructor
 ·rintro ⟨s, h, e⟩
  rcases List.mem_append.mp h with h | h
  ·exact .inl ⟨s, h, e⟩
  ·exact .inr ⟨s, h, e⟩
 ·rintro (⟨s, h, e⟩ | ⟨s, h, e⟩)
  ·exact ⟨s, List.mem_append_left _ h, e⟩
  ·exact ⟨s, List.mem_append_right _ h, e⟩
theorem zD {a b : List Tri} (h : a.Perm b) (x y : Int) : jt a x y ↔ jt b x y :=
 ⟨fun ⟨q, m, e⟩ => ⟨q, h.mem_iff.mp m, e⟩, fun ⟨q, m, e⟩ => ⟨q, h.mem_iff.mpr m, e⟩⟩
theorem iP : aH [] := ⟨fun _ h => (by cases h), .nil⟩
theorem pcanon_cons {q : Int × R} {p : Pic} : aH (q :: p) ↔ (bp q.2 /\ q.2 ≠ []) /\ (∀ s ∈ p, q.1 < s.1) /\ aH p := by
 constructor
 ·rintro ⟨h1, h2⟩
  have h3 := List.pairwise_cons.mp h2
  exact ⟨h1 q List.mem_cons_self, h3.1, fun s hs => h1 s (List.mem_cons_of_mem _ hs), h3.2⟩
 ·rintro ⟨h1, h2, h3, h4⟩
  refine ⟨fun s hs => ?_, List.pairwise_cons.mpr ⟨h2, h4⟩⟩
  rcases List.mem_cons.mp hs with rfl | hs
  ·exact h1
  ·exact h3 s hs
theorem gI {r : R} (c : bp r) (h : r ≠ []) : ∃ x, Mem r x := by
 cases r with
 | nil => exact absurd rfl h
 | cons p r => exact ⟨p.1, (mem_cons ..).mpr (.inl ⟨Int.le_refl _, (canon_cons.mp c).1⟩)⟩
theorem yA : ∀ {p q : Pic}, aH p -> aH q -> (∀ x y, eA p x y ↔ eA q x y) -> p = q
 | [], [], _, _, _ => rfl
 | [], b :: q, _, cq, h => by
  obtain ⟨⟨c1, c2⟩, _⟩ := pcanon_cons.mp cq
  obtain ⟨x, hx⟩ := gI c1 c2
  exact (dr _ _ ((h x b.1).mpr ((bm ..).mpr (.inl ⟨rfl, hx⟩)))).elim
 | a :: p, [], cp, _, h => by
  obtain ⟨⟨c1, c2⟩, _⟩ := pcanon_cons.mp cp
  obtain ⟨x, hx⟩ := gI c1 c2
  exact (dr _ _ ((h x a.1).mp ((bm ..).mpr (.inl ⟨rfl, hx⟩)))).elim
 | a :: p, b :: q, cp, cq, h => by
  obtain ⟨⟨ca, na⟩, la, cp'⟩ := pcanon_cons.mp cp
  obtain ⟨⟨cb, nb⟩, lb, cq'⟩ := pcanon_cons.mp cq
  obtain ⟨xa, ha⟩ := gI ca na
  obtain ⟨xb, hb⟩ := gI cb nb
  have ey : a.1 = b.1 := by
   have h1 : b.1 <= a.1 := by
    rcases (bm ..).mp ((h xa a.1).mp ((bm ..).mpr (.inl ⟨rfl, ha⟩))) with ⟨e, _⟩ | ⟨s, hs, e, _⟩
    ·lia
    ·have := lb s hs; lia
   have h2 : a.1 <= b.1 := by
    rcases (bm ..).mp ((h xb b.1).mpr ((bm ..).mpr (.inl ⟨rfl, hb⟩))) with ⟨e, _⟩ | ⟨s, hs, e, _⟩
    ·lia
    ·have := la s hs; lia
   lia
  have er : a.2 = b.2 := Bw ca cb fun x => by
   have hx := h x a.1
   rw [bm, bm] at hx
   have n1 : ¬ eA p x a.1 := by rintro ⟨s, hs, e, _⟩; have := la s hs; lia
   have n2 : ¬ eA q x a.1 := by rintro ⟨s, hs, e, _⟩; have := lb s hs; lia
   constructor
   ·intro hm
    rcases hx.mp (.inl ⟨rfl, hm⟩) with z | z
    ·exact z.2
    ·exact absurd z n2
   ·intro hm
    rcases hx.mpr (.inl ⟨ey.symm, hm⟩) with z | z
    ·exact z.2
    ·exact absurd z n1
  have eab : a = b := by
   obtain ⟨a1, a2⟩ := a
   obtain ⟨b1, b2⟩ := b
   simp only at ey er
   rw [ey, er]
  subst eab
  have ih : p = q := yA cp' cq' fun x y => by
   have hx := h x y
   rw [bm, bm] at hx
   constructor
   ·intro hm
    rcases hx.mp (.inr hm) with z | z
    ·obtain ⟨s, hs, e, _⟩ := hm; have := la s hs; lia
    ·exact z
   ·intro hm
    rcases hx.mpr (.inr hm) with z | z
    ·obtain ⟨s, hs, e, _⟩ := hm; have := lb s hs; lia
    ·exact z
  rw [ih]
def bf (t : Tri) : List Int := [t.1, t.2.1, t.2.2]
def tG : List Int -> Tri
 | [a, b, c] => (a, b, c)
 | _ => (0, 0, 0)
theorem sZ : ∀ r : List Tri, keys (r.map av) = some (r.map bf)
 | [] => rfl
 | p :: r => by rw [List.map_cons, keys, sZ r]; rfl
theorem yS : ∀ {r : List Tri}, r ≠ [] -> bG (r.map av) = none
 | [], h => absurd rfl h
 | _ :: _, _ => rfl
def du (ts : List Tri) : List Tri := (fX (ts.map bf)).map tG
theorem kM (ts : List Tri) : (du ts).map bf = fX (ts.map bf) := by
 unfold du
 rw [List.map_map]
 have h : ∀ k ∈ fX (ts.map bf), (bf ∘ tG) k = k := fun k hk => by
  have := (gA _).mem_iff.mp hk
  obtain ⟨p, _, rfl⟩ := List.mem_map.mp this
  rfl
 rw [List.map_congr_left h, List.map_id']
theorem b8 (ts : List Tri) : (du ts).Perm ts := by
 have h := (gA (ts.map bf)).map tG
 rw [List.map_map] at h
 have e : (tG ∘ bf) = id := rfl
 rw [e, List.map_id] at h
 exact h
theorem uP (ts : List Tri) : (du ts).Pairwise fun p q => p.1 <= q.1 := by
 have h := jC (ts.map bf)
 rw [<- kM, List.pairwise_map] at h
 refine h.imp fun {p q} e => ?_
 have e' : (if q.1 = p.1 then HT.bR [q.2.1, q.2.2] [p.2.1, p.2.2] else decide (q.1 < p.1)) = false := e
 by_cases hq : q.1 = p.1
 ·lia
 ·rw [if_neg hq] at e'
  have := of_decide_eq_false e'
  lia
theorem lO (ts : List Tri) (h : ts.length < 30000) : fJ [.lst (ts.map av)] = some ((du ts).map av) := by
 show (if (ts.map av).length < 30000 then _ else _) = _
 rw [if_pos (by rw [List.length_map]; exact h)]
 by_cases e : ts = []
 ·subst e
  have e0 : du [] = [] := List.length_eq_zero_iff.mp (by rw [(b8 []).length_eq]; rfl)
  have e1 : nF [] = [] := List.length_eq_zero_iff.mp (by rw [(ll []).length_eq]; rfl)
  show some ((nF []).map D.int) = _
  rw [e0, e1]
  rfl
 ·rw [yS e]
  dsimp only
  rw [sZ]
  have : (du ts).map av = (fX (ts.map bf)).map rh := by
   rw [<- kM, List.map_map]
   rfl
  rw [this]
  rfl
def dh (t : Tri) : Bool := decide (t.2.1 <= t.2.2)
theorem vq (ts : List Tri) (x y : Int) : jt (ts.filter dh) x y ↔ jt ts x y := by
 constructor
 ·rintro ⟨q, m, e⟩
  exact ⟨q, (List.mem_filter.mp m).1, e⟩
 ·rintro ⟨q, m, e⟩
  exact ⟨q, List.mem_filter.mpr ⟨m, by simp [dh]; lia⟩, e⟩
theorem oO : ∀ ps : List Tri, ps.filterMap (fun p => if p.2.1 <= p.2.2 then some (av p) else none) = (ps.filter dh).map av
 | [] => rfl
 | p :: t => by
  rw [List.filterMap_cons, List.filter_cons, oO t]
  by_cases h : p.2.1 <= p.2.2
  ·simp [dh, h]
  ·simp [dh, h]
theorem wm (ps : List Tri) : cR (aO (am (ad 0) (am (ad 1) (am (ad 2) aN)))) (xB (xOp dLe (ag 1) (ag 2))) (aP (ac (aq 0) (ac (aq 1) (ac (aq 2) ap)))) [.un, .un, .un] (ps.map av) = some ((ps.filter dh).map av) := by
 rw [gx av (fun p => if p.2.1 <= p.2.2 then some (av p) else none) ps, oO]
 intro p _
 by_cases h : p.2.1 <= p.2.2 <;> simp [gR, h]
def gG (gs : Pic) (t : Tri) : Pic := match gs.getLast? with
 | none => [(t.1, [t.2])]
 | some g => if g.1 = t.1 then gs.dropLast ++ [(g.1, g.2 ++ [t.2])] else gs ++ [(t.1, [t.2])]
theorem tw (t : Tri) : gG [] t = [(t.1, [t.2])] := rfl
theorem gk (gs : Pic) (g : Int × R) (t : Tri) : gG (gs ++ [g]) t = if g.1 = t.1 then gs ++ [(g.1, g.2 ++ [t.2])] else gs ++ [g] ++ [(t.1, [t.2])] := by
 unfold gG
 simp
def aV (ts : List Tri) : Pic := ts.foldl gG []
theorem iR (pre : List Tri) (t : Tri) : aV (pre ++ [t]) = gG (aV pre) t := by
 unfold aV
 rw [List.foldl_append]
 rfl
structure GOk (gs : Pic) (ts : List Tri) : Prop where
 ne : ∀ g ∈ gs, g.2 ≠ [] /\ Ok g.2
 up : gs.Pairwise fun a b => a.1 < b.1
 mem : ∀ x y, eA gs x y ↔ jt ts x y
 le : ∀ g ∈ gs, ∃ t ∈ ts, g.1 = t.1
 len : (gs.map fun g => g.2.length).sum = ts.length
theorem Ai {gs : Pic} {ts : List Tri} {t : Tri} (o : GOk gs ts) (ht : t.2.1 <= t.2.2) (hb : ∀ s ∈ ts, s.1 <= t.1) : GOk (gG gs t) (ts ++ [t]) := by
 have tm : ∀ x y, jt (ts ++ [t]) x y ↔ jt ts x y \/ (t.1 = y /\ t.2.1 <= x /\ x <= t.2.2) := fun x y => by
  rw [gK, tE]
  constructor
  ·rintro (h | h | ⟨_, h, _⟩)
   ·exact .inl h
   ·exact .inr h
   ·cases h
  ·rintro (h | h)
   ·exact .inl h
   ·exact .inr (.inl h)
 have okt : Ok [t.2] := fun p hp => by rw [List.mem_singleton.mp hp]; exact ht
 rcases List.eq_nil_or_concat gs with rfl | ⟨gs0, g, rfl⟩
 ·rw [tw]
  have e0 : ts = [] := List.length_eq_zero_iff.mp (by have := o.len; simpa using this.symm)
  subst e0
  refine ⟨fun g hg => ?_, List.pairwise_singleton _ _, fun x y => ?_, fun g hg => ⟨t, by simp, by rw [List.mem_singleton.mp hg]⟩, by simp⟩
  ·rw [List.mem_singleton.mp hg]; exact ⟨by simp, okt⟩
  ·rw [tm, bm, mem_cons]
   constructor
   ·rintro (⟨h1, h2 | h2⟩ | h)
    ·exact .inr ⟨h1, h2⟩
    ·exact (bw _ h2).elim
    ·exact (dr _ _ h).elim
   ·rintro (⟨_, h, _⟩ | h)
    ·cases h
    ·exact .inl ⟨h.1, .inl h.2⟩
 ·rw [List.concat_eq_append] at *
  have up := List.pairwise_append.mp o.up
  rw [gk]
  have glast : g.1 <= t.1 := by
   obtain ⟨s, hs, e⟩ := o.le g (by simp)
   have := hb s hs
   lia
  by_cases h : g.1 = t.1
  ·rw [if_pos h]
   refine ⟨fun q hq => ?_, ?_, fun x y => ?_, fun q hq => ?_, ?_⟩
   ·rcases List.mem_append.mp hq with hq | hq
    ·exact o.ne q (List.mem_append_left _ hq)
    ·rw [List.mem_singleton.mp hq]
     refine ⟨by simp, fun p hp => ?_⟩
     rcases List.mem_append.mp hp with hp | hp
     ·exact (o.ne g (by simp)).2 p hp
     ·exact okt p hp
   ·refine List.pairwise_append.mpr ⟨up.1, List.pairwise_singleton _ _, fun a ha b hb => ?_⟩
    rw [List.mem_singleton.mp hb]
    exact up.2.2 a ha g (by simp)
   ·rw [tm, <- o.mem, dX, dX, bm, bm]
    dsimp only
    rw [mem_append, mem_cons]
    have n0 := dr x y
    have n1 := bw x
    constructor
    ·rintro (k | ⟨k1, k2 | k2 | k2⟩ | k)
     ·exact .inl (.inl k)
     ·exact .inl (.inr (.inl ⟨k1, k2⟩))
     ·exact .inr ⟨by lia, k2⟩
     ·exact absurd k2 n1
     ·exact absurd k n0
    ·rintro ((k | ⟨k1, k2⟩ | k) | ⟨k1, k2⟩)
     ·exact .inl k
     ·exact .inr (.inl ⟨k1, .inl k2⟩)
     ·exact absurd k n0
     ·exact .inr (.inl ⟨by lia, .inr (.inl k2)⟩)
   ·rcases List.mem_append.mp hq with hq | hq
    ·obtain ⟨s, hs, e⟩ := o.le q (List.mem_append_left _ hq)
     exact ⟨s, List.mem_append_left _ hs, e⟩
    ·rw [List.mem_singleton.mp hq]
     exact ⟨t, by simp, h⟩
   ·have := o.len
    simp only [List.map_append, List.sum_append, List.map_cons, List.map_nil, List.sum_cons, List.sum_nil, List.length_append, List.length_cons, List.length_nil] at this ⊢
    lia
  ·rw [if_neg h]
   refine ⟨fun q hq => ?_, ?_, fun x y => ?_, fun q hq => ?_, ?_⟩
   ·rcases List.mem_append.mp hq with hq | hq
    ·exact o.ne q hq
    ·rw [List.mem_singleton.mp hq]; exact ⟨by simp, okt⟩
   ·refine List.pairwise_append.mpr ⟨o.up, List.pairwise_singleton _ _, fun a ha b hb' => ?_⟩
    rw [List.mem_singleton.mp hb']
    rcases List.mem_append.mp ha with ha | ha
    ·have := up.2.2 a ha g (by simp)
     dsimp only
     lia
    ·rw [List.mem_singleton.mp ha]; dsimp only; lia
   ·rw [tm, <- o.mem, dX, bm]
    dsimp only
    rw [mem_cons]
    have n0 := dr x y
    have n1 := bw x
    constructor
    ·rintro (k | ⟨k1, k2 | k2⟩ | k)
     ·exact .inl k
     ·exact .inr ⟨k1, k2⟩
     ·exact absurd k2 n1
     ·exact absurd k n0
    ·rintro (k | ⟨k1, k2⟩)
     ·exact .inl k
     ·exact .inr (.inl ⟨k1, .inl k2⟩)
   ·rcases List.mem_append.mp hq with hq | hq
    ·obtain ⟨s, hs, e⟩ := o.le q hq
     exact ⟨s, List.mem_append_left _ hs, e⟩
    ·rw [List.mem_singleton.mp hq]
     exact ⟨t, by simp, rfl⟩
   ·have := o.len
    simp only [List.map_append, List.sum_append, List.map_cons, List.map_nil, List.sum_cons, List.sum_nil, List.length_append, List.length_cons, List.length_nil] at this ⊢
    lia
theorem u8 : ∀ (post pre : List Tri), (∀ t ∈ pre ++ post, t.2.1 <= t.2.2) -> (pre ++ post).Pairwise (fun p q => p.1 <= q.1) -> GOk (aV pre) pre -> GOk (aV (pre ++ post)) (pre ++ post)
 | [], pre, _, _, o => by rw [List.append_nil]; exact o
 | t :: post, pre, h1, h2, o => by
  have e : pre ++ t :: post = (pre ++ [t]) ++ post := by simp
  rw [e] at h1 h2 ⊢
  refine u8 post (pre ++ [t]) h1 h2 ?_
  rw [iR]
  have h3 := List.pairwise_append.mp h2
  have h4 := List.pairwise_append.mp h3.1
  exact Ai o (h1 t (by simp)) fun s hs => h4.2.2 s hs t (by simp)
theorem j8 {ts : List Tri} (h1 : ∀ t ∈ ts, t.2.1 <= t.2.2) (h2 : ts.Pairwise fun p q => p.1 <= q.1) : GOk (aV ts) ts :=
 u8 ts [] h1 h2 ⟨fun _ h => (by cases h), .nil, fun x y => ⟨fun h => (dr _ _ h).elim, fun ⟨_, h, _⟩ => by cases h⟩, fun _ h => (by cases h), rfl⟩
def il (ts : List Tri) : Pic := (aV (du (ts.filter dh))).map fun g => (g.1, sv g.2)
theorem nU (ts : List Tri) : GOk (aV (du (ts.filter dh))) (du (ts.filter dh)) := j8 (fun t ht => by
 have := (b8 _).mem_iff.mp ht
 simpa [dh] using (List.mem_filter.mp this).2) (uP _)
theorem AG {ps : R} (h : ps ≠ []) (o : Ok ps) : sv ps ≠ [] := fun e => by
 cases ps with
 | nil => exact h rfl
 | cons p ps =>
  have := ((gQ (p :: ps)).2 p.1).mpr ((mem_cons ..).mpr (.inl ⟨Int.le_refl _, o p List.mem_cons_self⟩))
  rw [e] at this
  exact bw _ this
theorem wc (ts : List Tri) : aH (il ts) /\ ∀ x y, eA (il ts) x y ↔ jt ts x y := by
 have o := nU ts
 refine ⟨⟨fun q hq => ?_, ?_⟩, fun x y => ?_⟩
 ·obtain ⟨g, hg, rfl⟩ := List.mem_map.mp hq
  obtain ⟨h1, h2⟩ := o.ne g hg
  exact ⟨(gQ g.2).1, AG h1 h2⟩
 ·unfold il
  rw [List.pairwise_map]
  exact o.up
 ·rw [<- vq ts, <- zD (b8 _), <- o.mem]
  constructor
  ·rintro ⟨q, hq, e, hm⟩
   obtain ⟨g, hg, rfl⟩ := List.mem_map.mp hq
   exact ⟨g, hg, e, ((gQ g.2).2 x).mp hm⟩
  ·rintro ⟨g, hg, e, hm⟩
   exact ⟨_, List.mem_map.mpr ⟨g, hg, rfl⟩, e, ((gQ g.2).2 x).mpr hm⟩
def ah (p : Pic) : List Tri := p.flatMap fun q => q.2.map fun s => (q.1, s)
theorem bx (q : Int × R) (p : Pic) : ah (q :: p) = (q.2.map fun s => (q.1, s)) ++ ah p := rfl
theorem eB (p : Pic) (x y : Int) : jt (ah p) x y ↔ eA p x y := by
 constructor
 ·rintro ⟨t, ht, e, h⟩
  obtain ⟨q, hq, hs⟩ := List.mem_flatMap.mp ht
  obtain ⟨s, hs2, rfl⟩ := List.mem_map.mp hs
  exact ⟨q, hq, e, s, hs2, h⟩
 ·rintro ⟨q, hq, e, s, hs, h⟩
  exact ⟨(q.1, s), List.mem_flatMap.mpr ⟨q, hq, List.mem_map.mpr ⟨s, hs, rfl⟩⟩, e, h⟩
theorem oZ {ts : List Tri} {p : Pic} (c : aH p) (h : ∀ x y, jt ts x y ↔ eA p x y) : il ts = p :=
 yA (wc ts).1 c fun x y => ((wc ts).2 x y).trans (h x y)
theorem zA {p : Pic} (c : aH p) : il (ah p) = p := oZ c (eB p)
mutual
theorem uO : ∀ (n : Nat) (d : D), okD n d = true -> eqD d d = true
 | _, .non, _ => by simp [eqD]
 | _, .bl _, _ => by simp [eqD]
 | _, .int _, _ => by simp [eqD]
 | _, .str _, _ => by simp [eqD]
 | 0, .lst _, h => by simp [okD] at h
 | n + 1, .lst l, h => by rw [eqD]; exact eqDs_refl n l (by simpa [okD] using h)
 | 0, .tup _, h => by simp [okD] at h
 | n + 1, .tup l, h => by rw [eqD]; exact eqDs_refl n l (by simpa [okD] using h)
 | n, .ty _, h => by cases n <;> simp [okD] at h
 | n, .scr _, h => by cases n <;> simp [okD] at h
 | n, .ins _ _ _, h => by cases n <;> simp [okD] at h
 | n, .dic _, h => by cases n <;> simp [okD] at h
theorem eqDs_refl : ∀ (n : Nat) (l : List D), okDs n l = true -> eqDs l l = true
 | _, [], _ => by simp [eqDs]
 | n, d :: l, h => by
  rw [okDs, Bool.and_eq_true] at h
  rw [eqDs, uO n d h.1, eqDs_refl n l h.2]
  rfl
end
theorem vd {α : Type} {n : Nat} {f : α -> D} : ∀ (l : List α), (∀ a ∈ l, okD n (f a) = true) -> okDs n (l.map f) = true
 | [], _ => by simp [okDs]
 | a :: l, h => by rw [List.map_cons, okDs, h a List.mem_cons_self, vd l fun b hb => h b (List.mem_cons_of_mem _ hb)]; rfl
theorem mG {d : D} (neg : Bool) (h : okD 50 d = true) : dEq neg d d = some (.bl (!neg)) := by
 unfold dEq
 rw [if_pos ⟨h, h⟩, uO 50 d h]
 cases neg <;> rfl
theorem CQ (p : Pic) : okD 50 (aw p) = true := by
 rw [okD]
 refine vd p fun q _ => ?_
 simp only [okD, okDs]
 rw [qM 46 q.2]
 rfl
def grO (g : Int × R) : O := .tup [.sh (.int g.1), .lst (g.2.map (O.sh ∘ prD))]
def grD (g : Int × R) : D := .tup [.int g.1, yF g.2]
theorem Gd (g : Int × R) : (grO g).d = grD g := by simp [grO, grD]
theorem Dl : ∀ gs : Pic, O.ds (gs.map grO) = gs.map grD
 | [] => by simp
 | g :: gs => by rw [List.map_cons, yB, Gd, Dl gs]; rfl
theorem yI (gs : Pic) (t : Tri) : (gG gs t).length <= gs.length + 1 := by
 rcases List.eq_nil_or_concat gs with rfl | ⟨gs0, g, rfl⟩
 ·simp [gG]
 ·rw [List.concat_eq_append, gk]
  split <;> simp
theorem mW : ∀ ts : List Tri, (aV ts).length <= ts.length := by
 intro ts
 have key : ∀ (l : List Tri) (gs : Pic), (l.foldl gG gs).length <= gs.length + l.length := by
  intro l
  induction l with
  | nil => intro gs; simp
  | cons t l ih =>
   intro gs
   have h1 := ih (gG gs t)
   have h2 := yI gs t
   rw [List.foldl_cons, List.length_cons]
   lia
 have := key ts []
 unfold aV
 simpa using this
theorem t8 (s0 : Sl) (gs : Pic) (t : Tri) (h : gs.length <= 30000) (hg : ∀ g ∈ gs, g.2.length <= 30000) : bF [s0, .ow (.lst (gs.map grO)), .sh (.int t.1), .sh (.int t.2.1), .sh (.int t.2.2)] = some (.nx [s0, .ow (.lst ((gG gs t).map grO)), .sh (.int t.1), .sh (.int t.2.1), .sh (.int t.2.2)]) := by
 rcases List.eq_nil_or_concat gs with rfl | ⟨gs0, g, rfl⟩
 ·simp [bF, gG, grO]
 ·rw [List.concat_eq_append] at *
  rw [gk]
  have hl : gs0.length + 1 <= 30000 := by simpa using h
  have hlim : gs0.length + 1 < LIM := df (by lia)
  have hg2 : g.2.length < LIM := df (by have := hg g (by simp); lia)
  by_cases hc : g.1 = t.1
  ·simp [bF, hc, hg2, grO]
  ·simp [bF, hc, hlim, grO]
theorem iX : ∀ {l : List Nat} {n : Nat}, n ∈ l -> n <= l.sum
 | [], _, h => by cases h
 | m :: l, n, h => by
  rw [List.sum_cons]
  rcases List.mem_cons.mp h with rfl | h
  ·lia
  ·have := iX h; lia
theorem jj (ts : List Tri) (h : ts.length < 30000) : i4 [.lst (ts.map av)] = some (aw (il ts)) := by
 have hf := List.length_filter_le dh ts
 have hs := (b8 (ts.filter dh)).length_eq
 have og := nU ts
 have key : ∃ ρ', eZ (aO (am (ad 2) (am (ad 3) (am (ad 4) aN)))) bF ((du (ts.filter dh)).map av) [.sh (.lst (ts.map av)), .ow (.lst []), .un, .un, .un] = some (.nx ρ') /\ ∃ va vb vc, ρ' = [.sh (.lst (ts.map av)), .ow (.lst ((aV (du (ts.filter dh))).map grO)), va, vb, vc] := by
  refine a5 av (fun pre ρ => ∃ va vb vc, ρ = [.sh (.lst (ts.map av)), .ow (.lst ((aV pre).map grO)), va, vb, vc]) _ _ ⟨_, _, _, rfl⟩ ?_
  rintro pre t post _ e ⟨va, vb, vc, rfl⟩
  have hp : pre.length <= 30000 := by
   have := congrArg List.length e
   rw [List.length_append] at this
   lia
  have gl := mW pre
  have gp : GOk (aV pre) pre := by
   refine j8 (fun s hs => ?_) ?_
   ·have := (b8 _).mem_iff.mp (show s ∈ du (ts.filter dh) by rw [e]; simp [hs])
    simpa [dh] using (List.mem_filter.mp this).2
   ·have := uP (ts.filter dh)
    rw [e] at this
    exact (List.pairwise_append.mp this).1
  have gg : ∀ g ∈ aV pre, g.2.length <= 30000 := fun g hg => by
   have h1 := gp.len
   have h2 : g.2.length <= ((aV pre).map fun g => g.2.length).sum := iX (List.mem_map.mpr ⟨g, hg, rfl⟩)
   lia
  refine ⟨_, _, rfl, .inl (t8 _ (aV pre) t (by lia) gg), .sh (.int t.1), .sh (.int t.2.1), .sh (.int t.2.2), by rw [iR]⟩
 obtain ⟨ρ', k1, va, vb, vc, rfl⟩ := key
 have hc := wm ts
 have hb := lO (ts.filter dh) (by lia)
 have hl : ts.length <= LIM := aS (by lia)
 have gl := mW (du (ts.filter dh))
 have hl2 : (aV (du (ts.filter dh))).length <= LIM := aS (by lia)
 have c2 : cR (aO (am (ad 0) (am (ad 1) aN))) ez (aP (ac (aq 0) (ac (aK lN (ac (aq 1) ap)) ap))) [.un, .un] ((aV (du (ts.filter dh))).map grD) = some ((il ts).map pyD) := by
  rw [cL grD (fun g => pyD (g.1, sv g.2))]
  ·unfold il
   rw [List.map_map]
   rfl
  ·intro g hg
   have h1 : g.2.length < 30000 := by
    have h2 : g.2.length <= ((aV (du (ts.filter dh))).map fun g => g.2.length).sum := iX (List.mem_map.mpr ⟨g, hg, rfl⟩)
    have := og.len
    lia
   have h3 := uY g.2 h1
   simp [gR, grD, h3]
 simp [i4, gT, fnO, fP, hl, hc, hb, k1, frz, Dl, hl2, c2]
theorem fG (p q : Pic) : ah (p ++ q) = ah p ++ ah q := by unfold ah; rw [List.flatMap_append]
theorem eY {p : Pic} {q : Int × R} (h : q ∈ p) : q.2.length <= (ah p).length := by
 induction p with
 | nil => cases h
 | cons s p ih =>
  rw [bx, List.length_append, List.length_map]
  rcases List.mem_cons.mp h with rfl | h
  ·lia
  ·have := ih h; lia
theorem kS (p : Pic) (h : (ah p).length <= 100000) : dG [aw p] = some (.lst ((ah p).map (O.sh ∘ av))) := by
 obtain ⟨ρ', k1, v2, v3, rfl⟩ := a5 (g := aO (am (ad 2) (am (ad 3) aN))) (m := c8) pyD (fun pre ρ => ∃ v2 v3, ρ = [.sh (aw p), .ow (.lst ((ah pre).map (O.sh ∘ av))), v2, v3]) p [.sh (aw p), .ow (.lst []), .un, .un] ⟨_, _, rfl⟩ (by
  rintro pre q post _ e ⟨v2, v3, rfl⟩
  have hlen : (ah pre).length + q.2.length <= 100000 := by
   rw [e, fG, bx, List.length_append, List.length_append, List.length_map] at h
   lia
  have hl : (ah pre).length + q.2.length <= LIM := aS hlen
  have hl2 : q.2.length <= LIM := aS (by lia)
  have hc : cR (aO (am (ad 0) (am (ad 1) aN))) ez (aP (ac (aq 2) (ac (aq 0) (ac (aq 1) ap)))) [.un, .un, .sh (.int q.1)] (q.2.map prD) = some (q.2.map fun s => av (q.1, s)) := cL prD _ q.2 fun s _ => by simp [gR]
  refine ⟨_, [.sh (aw p), .ow (.lst ((ah (pre ++ [q])).map (O.sh ∘ av))), .sh (.int q.1), .sh (cm q.2)], rfl, .inl ?_, _, _, rfl⟩
  have es : ah (pre ++ [q]) = ah pre ++ q.2.map fun s => (q.1, s) := by rw [fG, bx]; simp [ah]
  rw [es]
  simp [c8, hl, hl2, hc])
 simp [dG, fnO, d6, k1]
theorem gO (p : Pic) (h : (ah p).length <= 100000) : bK [aw p] = some (.lst ((ah p).map av)) := by
 unfold bK
 rw [kS p h]
 simp
theorem c5 {α : Type} (l : List α) (k : α -> Int) (enc : α -> D) (x : Int) (he : ∀ a, dIx (enc a) (.int 0) = some (.int (k a))) (hl : l.length <= 100000) (pw : l.Pairwise fun a b => k a < k b) :
  ∃ n : Nat, n <= l.length /\ cK [.tup (l.map enc), .int x] = some (.int n) /\ ∀ (i : Nat) a, l[i]? = some a -> (k a <= x ↔ i < n) := by
 have lt : ∀ (i j : Nat) a b, l[i]? = some a -> l[j]? = some b -> i < j -> k a < k b := fun i j a b hi hj hij => by
  obtain ⟨h1, rfl⟩ := List.getElem?_eq_some_iff.mp hi
  obtain ⟨h2, rfl⟩ := List.getElem?_eq_some_iff.mp hj
  exact List.pairwise_iff_getElem.mp pw i j h1 h2 hij
 obtain ⟨ρ', k1, n, v3, v4, rfl, h1, h2⟩ := lf (c := cF) (m := cG)
  (fun ρ => ∃ (lo hi : Nat) (v4 : Sl), ρ = [.sh (.tup (l.map enc)), .sh (.int x), .sh (.int lo), .sh (.int hi), v4] /\ lo <= hi /\ hi <= l.length /\ (∀ (i : Nat) a, l[i]? = some a -> i < lo -> k a <= x) /\ ∀ (i : Nat) a, l[i]? = some a -> hi <= i -> x < k a)
  (fun ρ => match ρ with | [_, _, .sh (.int lo), .sh (.int hi), _] => (hi - lo).toNat | _ => 0)
  (fun ρ => ∃ (n : Nat) (v3 v4 : Sl), ρ = [.sh (.tup (l.map enc)), .sh (.int x), .sh (.int n), v3, v4] /\ n <= l.length /\ ∀ (i : Nat) a, l[i]? = some a -> (k a <= x ↔ i < n))
  (by
   rintro _ ⟨lo, hi, v4, rfl, h1, h2, h3, h4⟩
   by_cases hc : lo < hi
   ·right
    have hc' : (lo : Int) < hi := by lia
    obtain ⟨a, ha⟩ : ∃ a, l[(lo + hi) / 2]? = some a := ⟨_, List.getElem?_eq_getElem (by lia)⟩
    have em : ((lo : Int) + hi) / 2 = (((lo + hi) / 2 : Nat) : Int) := by lia
    have ea : atI (l.map enc) (((lo : Int) + hi) / 2) = some (enc a) := by rw [em]; exact cB (by rw [List.getElem?_map, ha]; rfl)
    refine ⟨by simp [cF, hc'], ?_⟩
    by_cases ck : k a <= x
    ·refine ⟨[.sh (.tup (l.map enc)), .sh (.int x), .sh (.int (((lo + hi) / 2 + 1 : Nat) : Int)), .sh (.int hi), .sh (.int (((lo : Int) + hi) / 2))], ?_, ⟨(lo + hi) / 2 + 1, hi, _, rfl, by lia, h2, fun i b hb hi' => ?_, h4⟩, by dsimp only; lia⟩
     ·simp [cG, ea, he, ck]
     ·by_cases z : i = (lo + hi) / 2
      ·subst z; rw [ha] at hb; cases hb; exact ck
      ·have := lt i _ b a hb ha (by lia); lia
    ·refine ⟨[.sh (.tup (l.map enc)), .sh (.int x), .sh (.int lo), .sh (.int (((lo + hi) / 2 : Nat) : Int)), .sh (.int (((lo : Int) + hi) / 2))], ?_, ⟨lo, (lo + hi) / 2, _, rfl, by lia, by lia, h3, fun i b hb hi' => ?_⟩, by dsimp only; lia⟩
     ·simp [cG, ea, he, ck]
     ·by_cases z : i = (lo + hi) / 2
      ·subst z; rw [ha] at hb; cases hb; lia
      ·have := lt _ i a b ha hb (by lia); lia
   ·left
    have hc' : ¬ (lo : Int) < hi := by lia
    have e : lo = hi := by lia
    subst e
    refine ⟨by simp [cF], lo, _, _, rfl, h2, fun i a ha => ⟨fun hk => ?_, fun hi' => h3 i a ha hi'⟩⟩
    by_cases z : i < lo
    ·exact z
    ·have := h4 i a ha (by lia); lia)
  [.sh (.tup (l.map enc)), .sh (.int x), .sh (.int 0), .sh (.int l.length), .un]
  ⟨0, l.length, _, rfl, Nat.zero_le _, Nat.le_refl _, fun i a _ h => absurd h (Nat.not_lt_zero _), fun i a ha h => by have := (List.getElem?_eq_some_iff.mp ha).1; lia⟩
 refine ⟨n, h1, ?_, h2⟩
 simp [cK, gc, fnO, eW, k1]
def bo (p : Pic) (y : Int) : R := match p.find? fun q => decide (q.1 = y) with | some q => q.2 | none => []
theorem iy {p : Pic} (c : aH p) {q : Int × R} (hq : q ∈ p) : bo p q.1 = q.2 := by
 unfold bo
 cases e : p.find? fun s => decide (s.1 = q.1) with
 | none =>
  have := List.find?_eq_none.mp e q hq
  simp at this
 | some s =>
  have h1 := List.find?_some e
  have h2 := List.mem_of_find?_eq_some e
  have h3 : s.1 = q.1 := of_decide_eq_true h1
  have : s = q := by
   obtain ⟨i, hi⟩ := List.getElem?_of_mem h2
   obtain ⟨j, hj⟩ := List.getElem?_of_mem hq
   obtain ⟨li, ei⟩ := List.getElem?_eq_some_iff.mp hi
   obtain ⟨lj, ej⟩ := List.getElem?_eq_some_iff.mp hj
   have pw := List.pairwise_iff_getElem.mp c.2
   by_cases z : i < j
   ·have := pw i j li lj z; rw [ei, ej] at this; lia
   ·by_cases z2 : j < i
    ·have := pw j i lj li z2; rw [ei, ej] at this; lia
    ·have : i = j := by lia
     subst this
     rw [hi] at hj; exact Option.some.inj hj
  rw [this]
theorem gn {p : Pic} {y : Int} (h : ∀ q ∈ p, q.1 ≠ y) : bo p y = [] := by
 unfold bo
 have : p.find? (fun q => decide (q.1 = y)) = none := List.find?_eq_none.mpr fun q hq => by simpa using h q hq
 rw [this]
theorem fb {p : Pic} (c : aH p) (y : Int) : bp (bo p y) := by
 by_cases h : ∃ q ∈ p, q.1 = y
 ·obtain ⟨q, hq, rfl⟩ := h
  rw [iy c hq]; exact (c.1 q hq).1
 ·rw [gn fun q hq e => h ⟨q, hq, e⟩]; exact cM
theorem sW {p : Pic} (c : aH p) (x y : Int) : Mem (bo p y) x ↔ eA p x y := by
 constructor
 ·intro h
  by_cases k : ∃ q ∈ p, q.1 = y
  ·obtain ⟨q, hq, rfl⟩ := k
   rw [iy c hq] at h
   exact ⟨q, hq, rfl, h⟩
  ·rw [gn fun q hq e => k ⟨q, hq, e⟩] at h
   exact (bw _ h).elim
 ·rintro ⟨q, hq, rfl, h⟩
  rw [iy c hq]; exact h
theorem jJ (p : Pic) (y : Int) (c : aH p) (h : p.length <= 100000) : fe [aw p, .int y] = some (cm (bo p y)) := by
 obtain ⟨n, h1, h2, h3⟩ := c5 p (·.1) pyD y (fun a => by simp) h c.2
 by_cases hn : n = 0
 ·subst hn
  have e : bo p y = [] := gn fun q hq e => by
   obtain ⟨j, ej⟩ := List.getElem?_of_mem hq
   exact absurd ((h3 j q ej).mp (by lia)) (Nat.not_lt_zero _)
  simp at h2
  simp [fe, hU, fnO, ig, h2, e]
 ·obtain ⟨q, hq⟩ : ∃ q, p[n - 1]? = some q := ⟨_, List.getElem?_eq_getElem (by lia)⟩
  have en : (n : Int) - 1 = ((n - 1 : Nat) : Int) := by lia
  have ea : atI (p.map pyD) ((n : Int) - 1) = some (pyD q) := by rw [en]; exact cB (by rw [List.getElem?_map, hq]; rfl)
  have hn' : (0 : Int) < n := by lia
  have hn2 : 0 < n := by lia
  by_cases hy : q.1 = y
  ·have e : bo p y = q.2 := by rw [<- hy]; exact iy c (List.mem_of_getElem? hq)
   simp [fe, hU, fnO, ig, h2, hn, hn', hn2, ea, hy, e]
  ·have e : bo p y = [] := gn fun s hs e => by
    obtain ⟨j, ej⟩ := List.getElem?_of_mem hs
    have hj := (h3 j s ej).mp (by lia)
    by_cases z : j = n - 1
    ·subst z; rw [hq] at ej; cases ej; exact hy e
    ·obtain ⟨l1, e1⟩ := List.getElem?_eq_some_iff.mp ej
     obtain ⟨l2, e2⟩ := List.getElem?_eq_some_iff.mp hq
     have := List.pairwise_iff_getElem.mp c.2 j (n - 1) l1 l2 (by lia)
     rw [e1, e2] at this
     have := (h3 _ _ hq).mpr (by lia)
     lia
   simp [fe, hU, fnO, ig, h2, hn, hn', hn2, ea, hy, e]
theorem ox (r t : R) (h : r.length + t.length <= 30000) : fF [cm r, cm t] = some (cm (c0 r t)) := by
 have hlen := uR _ r t rfl
 have key : ∃ ρ', dM cf bH [.sh (cm r), .sh (cm t), .ow (.lst []), .sh (.int 0), .sh (.int 0), .un, .un] = some (.nx ρ') /\ ∃ v3 v4 v5 v6, ρ' = [.sh (cm r), .sh (cm t), owl ((c0 r t).map prD), v3, v4, v5, v6] := by
  refine lf (fun ρ => ∃ (acc : R) (i j : Nat) (v5 v6 : Sl), ρ = [.sh (cm r), .sh (cm t), owl (acc.map prD), .sh (.int i), .sh (.int j), v5, v6] /\ i <= r.length /\ j <= t.length /\ acc ++ c0 (r.drop i) (t.drop j) = c0 r t)
   (fun ρ => match ρ with | [_, _, _, .sh (.int i), .sh (.int j), _, _] => (r.length + t.length - i - j).toNat | _ => 0) _ ?_ _ ⟨[], 0, 0, .un, .un, rfl, Nat.zero_le _, Nat.zero_le _, rfl⟩
  rintro _ ⟨acc, i, j, v5, v6, rfl, hi, hj, e⟩
  have hacc : acc.length <= 30000 := by
   have := congrArg List.length e
   rw [List.length_append] at this
   lia
  have hlim : acc.length < LIM := df (by lia)
  cases qi : r[i]? with
  | none =>
   have hi' : i = r.length := by have := List.getElem?_eq_none_iff.mp qi; lia
   subst hi'
   rw [List.drop_of_length_le (Nat.le_refl _), dA, List.append_nil] at e
   subst e
   exact .inl ⟨by simp [cf], _, _, _, _, rfl⟩
  | some p =>
   have hi' := (List.getElem?_eq_some_iff.mp qi).1
   have ei : (i : Int) < r.length := by lia
   cases qj : t[j]? with
   | none =>
    have hj' : j = t.length := by have := List.getElem?_eq_none_iff.mp qj; lia
    subst hj'
    rw [List.drop_of_length_le (Nat.le_refl _), cS, List.append_nil] at e
    subst e
    exact .inl ⟨by simp [cf, ei], _, _, _, _, rfl⟩
   | some q =>
    have hj' := (List.getElem?_eq_some_iff.mp qj).1
    have ej : (j : Int) < t.length := by lia
    have a1 := Au qi
    have a2 := Au qj
    rw [fT qi, fT qj, y8] at e
    refine .inr ⟨by simp [cf, ei, ej], ?_⟩
    by_cases c1 : max p.1 q.1 <= min p.2 q.2
    ·rw [if_pos c1] at e
     by_cases c2 : p.2 < q.2
     ·rw [if_pos c2, <- fT qj] at e
      exact ⟨[.sh (cm r), .sh (cm t), owl ((acc ++ [(max p.1 q.1, min p.2 q.2)]).map prD), .sh (.int ((i + 1 : Nat) : Int)), .sh (.int j), .sh (.int (max p.1 q.1)), .sh (.int (min p.2 q.2))], by simp [bH, a1, a2, mx, mn, c1, c2, hlim], ⟨_, i + 1, j, _, _, rfl, hi', hj, by rw [List.append_assoc]; exact e⟩, by dsimp only; lia⟩
     ·rw [if_neg c2, <- fT qi] at e
      exact ⟨[.sh (cm r), .sh (cm t), owl ((acc ++ [(max p.1 q.1, min p.2 q.2)]).map prD), .sh (.int i), .sh (.int ((j + 1 : Nat) : Int)), .sh (.int (max p.1 q.1)), .sh (.int (min p.2 q.2))], by simp [bH, a1, a2, mx, mn, c1, c2, hlim], ⟨_, i, j + 1, _, _, rfl, hi, hj', by rw [List.append_assoc]; exact e⟩, by dsimp only; lia⟩
    ·rw [if_neg c1, List.nil_append] at e
     by_cases c2 : p.2 < q.2
     ·rw [if_pos c2, <- fT qj] at e
      exact ⟨[.sh (cm r), .sh (cm t), owl (acc.map prD), .sh (.int ((i + 1 : Nat) : Int)), .sh (.int j), .sh (.int (max p.1 q.1)), .sh (.int (min p.2 q.2))], by simp [bH, a1, a2, mx, mn, c1, c2, hlim], ⟨_, i + 1, j, _, _, rfl, hi', hj, e⟩, by dsimp only; lia⟩
     ·rw [if_neg c2, <- fT qi] at e
      exact ⟨[.sh (cm r), .sh (cm t), owl (acc.map prD), .sh (.int i), .sh (.int ((j + 1 : Nat) : Int)), .sh (.int (max p.1 q.1)), .sh (.int (min p.2 q.2))], by simp [bH, a1, a2, mx, mn, c1, c2, hlim], ⟨_, i, j + 1, _, _, rfl, hi, hj', e⟩, by dsimp only; lia⟩
 obtain ⟨ρ', k1, v3, v4, v5, v6, rfl⟩ := key
 simp [fF, gS, fnO, fQ, k1]
def p7 (q : Int × R) : Bool := !decide (q.2 = [])
theorem uk : ∀ l : Pic, l.filterMap (fun q => if q.2 = [] then none else some (pyD q)) = (l.filter p7).map pyD
 | [] => rfl
 | q :: l => by
  by_cases h : q.2 = []
  ·simp [h, p7, <- uk l]
  ·simp [h, p7, <- uk l]
theorem jW (l : Pic) (h : l.length <= 30000) : eg [.lst (l.map pyD)] = some (aw (l.filter p7)) := by
 have hl : l.length <= LIM := aS (by lia)
 have hf := List.length_filter_le p7 l
 have hl2 : (l.filter p7).length <= LIM := aS (by lia)
 have hc : cR (aO (am (ad 0) (am (ad 1) aN))) (xB (xOp (dEq true) (ag 1) (aP ap))) (aP (ac (aq 0) (ac (aq 1) ap))) [.un, .un] (l.map pyD) = some ((l.filter p7).map pyD) := by
  rw [gx pyD (fun q => if q.2 = [] then none else some (pyD q)) l, uk]
  intro q _
  have d : dEq true (cm q.2) (.tup []) = some (.bl (!decide (q.2 = []))) := Cy true q.2 []
  by_cases hq : q.2 = []
  ·simp [hq] at d
   simp [gR, hq, d]
  ·simp [hq] at d
   simp [gR, hq, d]
 simp [eg, dQ, fnO, cQ, hl, hc, hl2]
def uL (f : R -> R -> R) (p q : Pic) : Pic := (p.map fun s => (s.1, f s.2 (bo q s.1))).filter p7
def cmP (p q : Pic) : Pic := uL c0 p q
theorem vE {f : R -> R -> R} {p q : Pic} (cp : aH p) (h : ∀ s ∈ p, bp (f s.2 (bo q s.1))) : aH (uL f p q) := by
 refine ⟨fun s hs => ?_, ?_⟩
 ·obtain ⟨h1, h2⟩ := List.mem_filter.mp hs
  obtain ⟨z, hz, rfl⟩ := List.mem_map.mp h1
  exact ⟨h z hz, by simpa [p7] using h2⟩
 ·refine List.Pairwise.filter _ ?_
  rw [List.pairwise_map]
  exact cp.2
theorem zI {f : R -> R -> R} {p q : Pic} (x y : Int) : eA (uL f p q) x y ↔ ∃ s ∈ p, s.1 = y /\ Mem (f s.2 (bo q s.1)) x := by
 constructor
 ·rintro ⟨s, hs, h1, h2⟩
  obtain ⟨z, hz, rfl⟩ := List.mem_map.mp (List.mem_filter.mp hs).1
  exact ⟨z, hz, h1, h2⟩
 ·rintro ⟨z, hz, h1, h2⟩
  refine ⟨(z.1, f z.2 (bo q z.1)), List.mem_filter.mpr ⟨List.mem_map.mpr ⟨z, hz, rfl⟩, ?_⟩, h1, h2⟩
  unfold p7
  rw [Bool.not_eq_true', decide_eq_false_iff_not]
  intro e
  dsimp only at e
  rw [e] at h2
  exact bw _ h2
theorem sQ {p q : Pic} (cp : aH p) (cq : aH q) : aH (cmP p q) := vE cp fun s hs => (mO (cp.1 s hs).1 (fb cq _)).1
theorem oJ {p q : Pic} (cp : aH p) (cq : aH q) (x y : Int) : eA (cmP p q) x y ↔ eA p x y /\ eA q x y := by
 unfold cmP
 rw [zI]
 constructor
 ·rintro ⟨s, hs, rfl, h2⟩
  rw [(mO (cp.1 s hs).1 (fb cq _)).2, sW cq] at h2
  exact ⟨⟨s, hs, rfl, h2.1⟩, h2.2⟩
 ·rintro ⟨⟨s, hs, rfl, h1⟩, h2⟩
  exact ⟨s, hs, rfl, by rw [(mO (cp.1 s hs).1 (fb cq _)).2, sW cq]; exact ⟨h1, h2⟩⟩
theorem ku {p : Pic} (y : Int) : (bo p y).length <= (ah p).length := by
 unfold bo
 cases h : p.find? fun q => decide (q.1 = y) with
 | none => exact Nat.zero_le _
 | some q => exact eY (List.mem_of_find?_eq_some h)
theorem uK {p q : Pic} (cq : aH q) (h1 : p.length <= 30000) (h2 : q.length <= 30000) (h : (ah p).length + (ah q).length <= 30000) : ir [aw p, aw q] = some (aw (cmP p q)) := by
 have hl : p.length <= LIM := aS (by lia)
 have hc : cR (aO (am (ad 0) (am (ad 1) aN))) ez (aP (ac (aq 0) (ac (aK fF (ac (aq 1) (ac (aK fe (ac (aq 2) (ac (aq 0) ap))) ap))) ap))) [.un, .un, .sh (aw q)] (p.map pyD) = some ((p.map fun s => (s.1, c0 s.2 (bo q s.1))).map pyD) := by
  rw [List.map_map]
  exact cL pyD (fun s => pyD (s.1, c0 s.2 (bo q s.1))) p fun s hs => by
   have a1 := jJ q s.1 cq (by lia)
   have a2 := ox s.2 (bo q s.1) (by have := eY hs; have := ku (p := q) s.1; lia)
   simp [gR, a1, a2]
 have hm := jW (p.map fun s => (s.1, c0 s.2 (bo q s.1))) (by rw [List.length_map]; exact h1)
 rw [List.map_map] at hm hc
 simp [ir, mY, fnO, l8, hl, hc, hm, cmP, uL]
theorem Cw {q : Int} (hq : 1 <= q) {k : Nat} (hk : k < 8) : ∃ s, 1 <= s /\ atI [D.int 1, .int 2, .int 1, .int q, .int 1, .int 1, .int 3, .int 2] (k : Int) = some (.int s) := by
 have : k = 0 \/ k = 1 \/ k = 2 \/ k = 3 \/ k = 4 \/ k = 5 \/ k = 6 \/ k = 7 := by lia
 rcases this with rfl | rfl | rfl | rfl | rfl | rfl | rfl | rfl
 ·exact ⟨1, by lia, rfl⟩
 ·exact ⟨2, by lia, rfl⟩
 ·exact ⟨1, by lia, rfl⟩
 ·exact ⟨q, hq, rfl⟩
 ·exact ⟨1, by lia, rfl⟩
 ·exact ⟨1, by lia, rfl⟩
 ·exact ⟨3, by lia, rfl⟩
 ·exact ⟨2, by lia, rfl⟩
theorem yW (bits x : Int) (wide : Bool) (acc : R) (k : Nat) (hk : k < 8) (v5 : Sl) (c : bp acc) (hx : ∀ p ∈ acc, p.2 <= x - 1) (hl : acc.length <= 100) :
  ∃ bits' x' acc' v5', jN [.sh (.int bits), .sh (.int x), .sh (.bl wide), owl (acc.map prD), .sh (.int k), v5] = some (.nx [.sh (.int bits'), .sh (.int x'), .sh (.bl wide), owl (acc'.map prD), .sh (.int k), v5']) /\ bp acc' /\ (∀ p ∈ acc', p.2 <= x' - 1) /\ acc'.length <= acc.length + 1 := by
 have hlim : acc.length < LIM := df (by lia)
 obtain ⟨q, hq1, hq⟩ : ∃ q : Int, 1 <= q /\ u6 (.int 10) (.int 40) = some (.int q) := ⟨_, by decide, Dp (by decide)⟩
 obtain ⟨s, hs, h1⟩ : ∃ s : Int, 1 <= s /\ ∀ (n : XS), aL (bN (xC (.int 1)) (ad 5)) (aL (xIf (n6 (ag 2)) (bN (xOp dIx (xL (fw (ac (xC (.int 1)) (ac (xC (.int 2)) (ac (xC (.int 1)) (ac (xOp u6 (xC (.int 10)) (xC (.int 40))) (ac (xC (.int 1)) (ac (xC (.int 1)) (ac (xC (.int 3)) (ac (xC (.int 2)) ap)))))))))) (ag 4)) (ad 5)) dB) n) [.sh (.int bits), .sh (.int x), .sh (.bl wide), owl (acc.map prD), .sh (.int k), v5] = n [.sh (.int bits), .sh (.int x), .sh (.bl wide), owl (acc.map prD), .sh (.int k), .sh (.int s)] := by
  cases wide with
  | false => exact ⟨1, by lia, fun n => by simp⟩
  | true =>
   obtain ⟨s, hs, e⟩ := Cw hq1 hk
   exact ⟨s, hs, fun n => by simp [hq, e]⟩
 unfold jN
 rw [h1]
 have hm : jc (.int bits) (.int 2) = some (.int (bits % 2)) := by simp
 by_cases hb : bits % 2 = 1
 ·rcases List.eq_nil_or_concat acc with rfl | ⟨t, p, rfl⟩
  ·refine ⟨bits / 2, x + s, [(x, x + s - 1)], .sh (.int s), ?_, canon_cons.mpr ⟨by dsimp only; lia, fun _ h => (by cases h), cM⟩, fun p hp => ?_, by simp⟩
   ·simp [hb, prD]
   ·rw [List.mem_singleton.mp hp]; dsimp only; lia
  ·rw [List.concat_eq_append] at *
   obtain ⟨ct, hp, ht⟩ := canon_snoc.mp c
   have at1 : atI (t.map prD ++ [prD p]) (-1) = some (prD p) := e7 _ _
   have hpx := hx p (by simp)
   have hlim' : t.length + 1 < LIM := by simpa using hlim
   by_cases he : p.2 = x - 1
   ·refine ⟨bits / 2, x + s, t ++ [(p.1, x + s - 1)], .sh (.int s), ?_, canon_snoc.mpr ⟨ct, by dsimp only; lia, ht⟩, fun r hr => ?_, by simp⟩
    ·have hpos : (0 : Int) < (t.length : Int) + 1 := by lia
     simp [hb, at1, he, ie, m6, hpos]
    ·rcases List.mem_append.mp hr with hr | hr
     ·have := hx r (by simp [hr]); lia
     ·rw [List.mem_singleton.mp hr]; dsimp only; lia
   ·refine ⟨bits / 2, x + s, t ++ [p] ++ [(x, x + s - 1)], .sh (.int s), ?_, canon_snoc.mpr ⟨c, by dsimp only; lia, fun r hr => ?_⟩, fun r hr => ?_, by simp⟩
    ·have hpos : (0 : Int) < (t.length : Int) + 1 := by lia
     simp [hb, at1, he, ie, m6, hpos, hlim']
    ·dsimp only
     rcases List.mem_append.mp hr with hr | hr
     ·have := ht r hr; lia
     ·rw [List.mem_singleton.mp hr]; lia
    ·rcases List.mem_append.mp hr with hr | hr
     ·have := hx r hr; lia
     ·rw [List.mem_singleton.mp hr]; dsimp only; lia
 ·exact ⟨bits / 2, x + s, acc, .sh (.int s), by simp [hb], c, fun p hp => by have := hx p hp; lia, by lia⟩
theorem tT (bits x : Int) (wide : Bool) : ∃ r : R, xo [.int bits, .int x, .bl wide] = some (cm r) /\ bp r /\ r.length <= 8 := by
 obtain ⟨ρ', k1, b', x', acc', v4, v5, rfl, c1, c2, c3⟩ := a5 (g := ad 4) (m := jN) (fun k : Nat => D.int (k : Int)) (fun pre ρ => ∃ b' x' acc' v4 v5, ρ = [.sh (.int b'), .sh (.int x'), .sh (.bl wide), owl (acc'.map prD), v4, v5] /\ bp acc' /\ (∀ p ∈ acc', p.2 <= x' - 1) /\ acc'.length <= pre.length) (List.range 8) [.sh (.int bits), .sh (.int x), .sh (.bl wide), .ow (.lst []), .un, .un]
  ⟨bits, x, [], _, _, rfl, cM, fun _ h => (by cases h), by simp⟩ (by
  rintro pre k post _ e ⟨b', x', acc', v4, v5, rfl, c1, c2, c3⟩
  have hk : k < 8 := List.mem_range.mp (by rw [e]; simp)
  have hl : pre.length <= 8 := by
   have := congrArg List.length e
   rw [List.length_range, List.length_append] at this
   lia
  obtain ⟨b2, x2, acc2, w5, e1, d1, d2, d3⟩ := yW b' x' wide acc' k hk v5 c1 c2 (by lia)
  exact ⟨_, _, rfl, .inl e1, b2, x2, acc2, _, _, rfl, d1, d2, by rw [List.length_append, List.length_singleton]; lia⟩)
 refine ⟨acc', ?_, c1, by simpa using c3⟩
 rw [<- qC] at k1
 have hr : AM [D.int 8] = some (fV 0 8) := cZ (by decide)
 simp [xo, t5, fnO, ui, hr, k1]
theorem eT (ns : List Int) (k : Nat) : ∃ f : Int, cU [.scr (ns.map D.int), .int k] = some (.int f) := by
 by_cases h : k < ns.length
 ·have h' : (k : Int) < ns.length := by lia
  have ea : atI (ns.map D.int) (k : Int) = some (.int ns[k]) := cB (by rw [List.getElem?_map, List.getElem?_eq_getElem h]; rfl)
  exact ⟨ns[k], by simp [cU, gP, fnO, gu, h, h', ea]⟩
 ·have h' : ¬ (k : Int) < ns.length := by lia
  exact ⟨0, by simp [cU, gP, fnO, gu, h, h']⟩
theorem jm (c m : Int) (h : 0 < m) : ∃ f : Int, iw [.int c, .int m] = some (.int f) := by
 by_cases hc : c < 0
 ·exact ⟨_, by simp [iw, i8, fnO, hE, h, hc]; rfl⟩
 ·exact ⟨_, by simp [iw, i8, fnO, hE, h, hc]; rfl⟩
theorem zc {a j : Int} (h0 : 0 <= a) (h1 : a < 1000000) (h2 : 0 <= j) (h3 : j < 1000000) : Builtin.Range.small a j 20 = true := by
 have e1 : 0 <= Builtin.Range.rangeSize a j 20 /\ Builtin.Range.rangeSize a j 20 < 1000000 := by
  unfold Builtin.Range.rangeSize
  rw [if_pos (by decide)]
  split <;> lia
 unfold Builtin.Range.small
 generalize Builtin.Range.rangeSize a j 20 = n at e1
 simp only [Builtin.Range.rangeFitsLong, Bool.and_eq_true, Bool.or_eq_true, decide_eq_true_eq, beq_iff_eq, show (20 : Int) > 0 by decide, if_true]
 have e : (2 : Int) ^ 63 = 9223372036854775808 := by decide
 lia
theorem wP (ns : List Int) (hn : ns.length <= 63) (k : Nat) (hk : k < 20) (s1 s2 s3 s4 v7 v8 : Sl) (bits : Int) : ∃ bits' v7', eG (ym (ac (xOp cO (xC (.int 21)) (ag 5)) (ac (xCB nG (ac (xCB eF (ac (ag 0) ap)) (ac (xC (.int 99)) ap))) (ac (xC (.int 20)) ap)))) (ad 7) (d9) [.sh (.scr (ns.map D.int)), s1, s2, s3, s4, .sh (.int k), .sh (.int bits), v7, v8] = some (.nx [.sh (.scr (ns.map D.int)), s1, s2, s3, s4, .sh (.int k), .sh (.int bits'), v7', v8]) := by
 have hr : Bo [.int (21 + (k : Int)), .int (ns.length : Int), .int 20] = some (o3 (21 + (k : Int)) 20 (Builtin.Range.rangeSize (21 + (k : Int)) ns.length 20).toNat) := cZ ⟨by decide, by decide, zc (by lia) (by lia) (by lia) (by lia)⟩
 have hmin : ¬ (99 : Int) < ns.length := by lia
 obtain ⟨ρ', k1, b', v', rfl⟩ := a5 (g := ad 7) (m := d9) (fun i : Nat => D.int (21 + (k : Int) + (i : Int) * 20)) (fun pre ρ => ∃ b' v', ρ = [.sh (.scr (ns.map D.int)), s1, s2, s3, s4, .sh (.int k), .sh (.int b'), v', v8]) (List.range (Builtin.Range.rangeSize (21 + (k : Int)) ns.length 20).toNat) [.sh (.scr (ns.map D.int)), s1, s2, s3, s4, .sh (.int k), .sh (.int bits), v7, v8] ⟨_, _, rfl⟩ (by
  rintro pre i post _ e ⟨b', v', rfl⟩
  have hi : i < (Builtin.Range.rangeSize (21 + (k : Int)) ns.length 20).toNat := List.mem_range.mp (by rw [e]; simp)
  have hb : 21 + k + i * 20 < ns.length := by
   unfold Builtin.Range.rangeSize at hi
   rw [if_pos (by decide)] at hi
   split at hi <;> lia
  have ea : atI (ns.map D.int) (21 + (k : Int) + (i : Int) * 20) = some (.int ns[21 + k + i * 20]) := by
   have := cB (l := ns.map D.int) (j := 21 + k + i * 20) (x := .int ns[21 + k + i * 20]) (by rw [List.getElem?_map, List.getElem?_eq_getElem hb]; rfl)
   rw [<- this]
   congr 1
  have hm : tO (.int 5) (.int ns[21 + k + i * 20]) = some (.int (5 * ns[21 + k + i * 20])) := cZ (.inl (by decide))
  exact ⟨[.sh (.scr (ns.map D.int)), s1, s2, s3, s4, .sh (.int k), .sh (.int b'), .sh (.int (21 + (k : Int) + (i : Int) * 20)), v8], [.sh (.scr (ns.map D.int)), s1, s2, s3, s4, .sh (.int k), .sh (.int (b' + 5 * ns[21 + k + i * 20] % 256)), .sh (.int (21 + (k : Int) + (i : Int) * 20)), v8], rfl, .inl (by simp [d9, ea, hm]), _, _, rfl⟩)
 refine ⟨b', v', ?_⟩
 unfold o3 at hr
 simp [hmin, hr, k1]
theorem l5 {n k : Nat} {pre post : List Nat} (e : List.range n = pre ++ k :: post) : k = pre.length /\ k < n := by
 have h1 : (List.range n)[pre.length]? = some k := by rw [e]; simp
 obtain ⟨h2, h3⟩ := List.getElem?_eq_some_iff.mp h1
 rw [List.getElem_range] at h3
 rw [List.length_range] at h2
 lia
theorem re (p : Pic) (q : Int × R) : (ah (p ++ [q])).length = (ah p).length + q.2.length := by
 unfold ah
 simp
theorem nB (ns : List Int) (hn : ns.length <= 63) : ∃ p : Pic, kT [.scr (ns.map D.int)] = some (aw p) /\ aH p /\ p.length <= 20 /\ (ah p).length <= 160 := by
 obtain ⟨f, hf⟩ := eT ns 0
 obtain ⟨q, hq1, hq⟩ : ∃ q : Int, 0 < q /\ u6 (.int 10) (.int 58) = some (.int q) := ⟨_, by decide, Dp (by decide)⟩
 have at2 : ∀ c : Int, ∃ m : Int, 0 < m /\ atI [D.int 9, .int q] (c % 2) = some (.int m) := fun c => by
  have : c % 2 = 0 \/ c % 2 = 1 := by lia
  rcases this with e | e <;> rw [e]
  ·exact ⟨9, by lia, rfl⟩
  ·exact ⟨q, hq1, rfl⟩
 obtain ⟨m1, h1, e1⟩ := at2 (f / 3)
 obtain ⟨m2, h2, e2⟩ := at2 (f / 6)
 obtain ⟨x, hx⟩ := jm (f / 12) m1 h1
 obtain ⟨y, hy⟩ := jm (f / 24) m2 h2
 obtain ⟨n, hn20, hr⟩ : ∃ n : Nat, n <= 20 /\ n <= ns.length - 1 /\ AM [.int (if (ns.length : Int) - 1 < 20 then (ns.length : Int) - 1 else 20)] = some ((List.range n).map fun k : Nat => D.int (k : Int)) := by
  refine ⟨(if (ns.length : Int) - 1 < 20 then (ns.length : Int) - 1 else 20).toNat, by split <;> lia, by split <;> lia, ?_⟩
  rw [<- qC]
  exact cZ (by split <;> lia)
 obtain ⟨hnl, hr⟩ := hr
 obtain ⟨ρ', k1, p, v5, v6, v7, v8, rfl, c1, c2, c3, c4⟩ := a5 (g := ad 5) (m := et) (fun k : Nat => D.int (k : Int)) (fun pre ρ => ∃ (p : Pic) (v5 v6 v7 v8 : Sl), ρ = [.sh (.scr (ns.map D.int)), .sh (.int f), .sh (.int x), .sh (.int y), owl (p.map pyD), v5, v6, v7, v8] /\ aH p /\ (∀ g ∈ p, g.1 < y + pre.length) /\ p.length <= pre.length /\ (ah p).length <= 8 * pre.length) (List.range n) [.sh (.scr (ns.map D.int)), .sh (.int f), .sh (.int x), .sh (.int y), .ow (.lst []), .un, .un, .un, .un]
  ⟨[], _, _, _, _, rfl, iP, fun _ h => (by cases h), by simp, by simp [ah]⟩ (by
  rintro pre k post _ e ⟨p, v5, v6, v7, v8, rfl, c1, c2, c3, c4⟩
  obtain ⟨hk, hkn⟩ := l5 e
  have hlim : p.length < LIM := df (by lia)
  have ea : atI (ns.map D.int) (1 + (k : Int)) = some (.int (ns[1 + k]'(by lia))) := by
   have := cB (l := ns.map D.int) (j := 1 + k) (x := .int (ns[1 + k]'(by lia))) (by rw [List.getElem?_map, List.getElem?_eq_getElem (by lia)]; rfl)
   rw [<- this]
   congr 1
  obtain ⟨b, v7', hin⟩ := wP ns hn k (by lia) (.sh (.int f)) (.sh (.int x)) (.sh (.int y)) (owl (p.map pyD)) v7 v8 (ns[1 + k]'(by lia) * 48271 % 2147483647 / 37)
  obtain ⟨r, hrow, cr, lr⟩ := tT b x (decide (f % 3 = 1))
  have step1 : ∀ n : XS, aL (bN (xOp mT (xOp jc (xOp tO (xOp dIx (ag 0) (xOp cO (xC (.int 1)) (ag 5))) (xC (.int 48271))) (xC (.int 2147483647))) (xC (.int 37))) (ad 6)) n [.sh (.scr (ns.map D.int)), .sh (.int f), .sh (.int x), .sh (.int y), owl (p.map pyD), .sh (.int k), v6, v7, v8] = n [.sh (.scr (ns.map D.int)), .sh (.int f), .sh (.int x), .sh (.int y), owl (p.map pyD), .sh (.int k), .sh (.int (ns[1 + k]'(by lia) * 48271 % 2147483647 / 37)), v7, v8] := fun n => by
   have hm : tO (.int (ns[1 + k]'(by lia))) (.int 48271) = some (.int (ns[1 + k]'(by lia) * 48271)) := cZ (.inr (by decide))
   simp [ea, hm]
  by_cases hr0 : r = []
  ·subst hr0
   refine ⟨[.sh (.scr (ns.map D.int)), .sh (.int f), .sh (.int x), .sh (.int y), owl (p.map pyD), .sh (.int k), v6, v7, v8], [.sh (.scr (ns.map D.int)), .sh (.int f), .sh (.int x), .sh (.int y), owl (p.map pyD), .sh (.int k), .sh (.int b), v7', .sh (cm [])], rfl, .inl ?_, p, _, _, _, _, rfl, c1, fun g hg => by have := c2 g hg; rw [List.length_append, List.length_singleton]; lia, by rw [List.length_append, List.length_singleton]; lia, by rw [List.length_append, List.length_singleton]; lia⟩
   unfold et
   rw [step1, cP hin]
   simp [hrow]
  ·have hpos : (0 : Int) < r.length := by have := List.length_pos_iff.mpr hr0; lia
   have hpos' : 0 < r.length := List.length_pos_iff.mpr hr0
   refine ⟨[.sh (.scr (ns.map D.int)), .sh (.int f), .sh (.int x), .sh (.int y), owl (p.map pyD), .sh (.int k), v6, v7, v8], [.sh (.scr (ns.map D.int)), .sh (.int f), .sh (.int x), .sh (.int y), owl ((p ++ [(y + k, r)]).map pyD), .sh (.int k), .sh (.int b), v7', .sh (cm r)], rfl, .inl ?_, p ++ [(y + k, r)], _, _, _, _, rfl, ⟨fun g hg => ?_, ?_⟩, fun g hg => ?_, ?_, ?_⟩
   ·unfold et
    rw [step1, cP hin]
    simp [hrow, hpos, hpos', hlim]
   ·rcases List.mem_append.mp hg with hg | hg
    ·exact c1.1 g hg
    ·rw [List.mem_singleton.mp hg]; exact ⟨cr, hr0⟩
   ·refine List.pairwise_append.mpr ⟨c1.2, List.pairwise_singleton _ _, fun a ha b hb => ?_⟩
    rw [List.mem_singleton.mp hb]
    have := c2 a ha
    dsimp only
    lia
   ·rw [List.length_append, List.length_singleton]
    rcases List.mem_append.mp hg with hg | hg
    ·have := c2 g hg; lia
    ·rw [List.mem_singleton.mp hg]; dsimp only; lia
   ·rw [List.length_append, List.length_append, List.length_singleton, List.length_singleton]; lia
   ·rw [re, List.length_append, List.length_singleton]; dsimp only; lia)
 rw [List.length_range] at c3 c4
 refine ⟨p, ?_, c1, by lia, by lia⟩
 have hf' : cU [D.scr (ns.map D.int), .int 0] = some (.int f) := hf
 simp [kT, jR, fnO, iM, hf', hq, e1, e2, hx, hy, hr, k1]
theorem qQ {α : Type} (p q : α -> Bool) : ∀ (r : List α) (a b : Nat), (∀ (i : Nat) x, r[i]? = some x -> q x = (decide (a <= i) && decide (i < b) && p x)) -> ((r.drop a).take (b - a)).filter p = r.filter q
 | [], a, b, _ => by simp
 | x :: r, 0, 0, h => by
  have : (x :: r).filter q = [] := List.filter_eq_nil_iff.mpr fun y hy => by
   obtain ⟨i, hi⟩ := List.getElem?_of_mem hy
   rw [h i y hi]
   simp
  rw [this]
  simp
 | x :: r, 0, b + 1, h => by
  have ih := qQ p q r 0 b fun i y hy => by
   have := h (i + 1) y hy
   rw [this]
   simp
  have h0 := h 0 x rfl
  have e : q x = p x := by rw [h0]; simp
  rw [List.drop_zero, Nat.sub_zero, List.take_succ_cons, List.filter_cons, List.filter_cons, e]
  rw [List.drop_zero, Nat.sub_zero] at ih
  rw [ih]
 | x :: r, a + 1, b, h => by
  have ih := qQ p q r a (b - 1) fun i y hy => by
   have := h (i + 1) y hy
   rw [this]
   by_cases h1 : a <= i <;> by_cases h2 : i + 1 < b
   ·rw [decide_eq_true (by lia : a + 1 <= i + 1), decide_eq_true h2, decide_eq_true h1, decide_eq_true (by lia : i < b - 1)]
   ·rw [decide_eq_true (by lia : a + 1 <= i + 1), decide_eq_false h2, decide_eq_true h1, decide_eq_false (by lia : ¬ i < b - 1)]
   ·rw [decide_eq_false (by lia : ¬ a + 1 <= i + 1), decide_eq_false h1]; rfl
   ·rw [decide_eq_false (by lia : ¬ a + 1 <= i + 1), decide_eq_false h1]; rfl
  have h0 := h 0 x rfl
  have e : q x = false := by rw [h0]; simp
  rw [List.drop_succ_cons, List.filter_cons, e, <- ih, show b - (a + 1) = b - 1 - a by lia]
  rfl
def xT (f l : Int) (p : Int × Int) : Bool := decide (p.1 <= l) && decide (f <= p.2)
theorem kO (r : R) (c : bp r) (h : r.length <= 100000) (f l : Int) (hfl : f <= l) : ∃ r' : R, fm [cm r, .int f, .int l] = some (cm r') /\ r'.length <= r.length /\ (r'.filter fun p => decide (f <= p.2)) = r.filter (xT f l) := by
 have pw : r.Pairwise fun a b => a.1 < b.1 := by
  refine List.Pairwise.imp_of_mem ?_ c.2
  intro p q hp _ h
  have := c.1 p hp
  lia
 obtain ⟨n1, a1, b1, c1⟩ := c5 r (·.1) prD f (fun a => by simp) h pw
 obtain ⟨n2, a2, b2, c2⟩ := c5 r (·.1) prD l (fun a => by simp) h pw
 refine ⟨gW r (some ((n1 - 1 : Nat) : Int)) (some (n2 : Int)), ?_, Ad _ _ _, ?_⟩
 ·have e1 : (if ((n1 : Int) - 1) > 0 then (n1 : Int) - 1 else 0) = ((n1 - 1 : Nat) : Int) := by split <;> lia
  have e1' : (if 1 < n1 then (n1 : Int) - 1 else 0) = ((n1 - 1 : Nat) : Int) := by split <;> lia
  have e1'' : (if (1 : Int) < (n1 : Int) then (n1 : Int) - 1 else 0) = ((n1 - 1 : Nat) : Int) := by split <;> lia
  simp [fm, eJ, fnO, dD, b1, b2, xD, e1, e1', e1'', dSl]
 ·unfold gW
  rw [xA (by lia), xA (by lia), Int.toNat_natCast, Int.toNat_natCast, Nat.min_eq_left (by lia : n1 - 1 <= r.length), Nat.min_eq_left a2]
  refine qQ _ _ r (n1 - 1) n2 fun i x hx => ?_
  unfold xT
  have h2 := c2 i x hx
  by_cases hi : n1 - 1 <= i
  ·rw [decide_eq_true hi, Bool.true_and]
   congr 1
   exact decide_eq_decide.mpr h2
  ·rw [decide_eq_false hi, Bool.false_and, Bool.false_and]
   have hi1 : i + 1 < n1 := by lia
   obtain ⟨y, hy⟩ : ∃ y, r[i + 1]? = some y := ⟨_, List.getElem?_eq_getElem (by lia)⟩
   have h3 := (c1 (i + 1) y hy).mpr hi1
   obtain ⟨l1, e1⟩ := List.getElem?_eq_some_iff.mp hx
   obtain ⟨l2, e2⟩ := List.getElem?_eq_some_iff.mp hy
   have h4 := List.pairwise_iff_getElem.mp c.2 i (i + 1) l1 l2 (by lia)
   rw [e1, e2] at h4
   rw [decide_eq_false (by lia : ¬ f <= x.2), Bool.and_false]
def gj (p : Pic) (s : Tri) (y : Int) : List Tri := ((bo p y).filter (xT (s.2.1 - 1) (s.2.2 + 1))).map fun q => (y, q)
def qB (p : Pic) (s : Tri) : List Tri := gj p s (s.1 - 1) ++ gj p s (s.1 + 1)
def Touch (s t : Tri) : Prop := (s.1 = t.1 + 1 \/ t.1 = s.1 + 1) /\ s.2.1 <= t.2.2 + 1 /\ t.2.1 <= s.2.2 + 1
theorem Touch.symm {s t : Tri} (h : Touch s t) : Touch t s := ⟨h.1.symm, h.2.2, h.2.1⟩
theorem j6 {p : Pic} (c : aH p) (y : Int) (q : Int × Int) : q ∈ bo p y ↔ ((y, q) : Tri) ∈ ah p := by
 constructor
 ·intro h
  by_cases k : ∃ g ∈ p, g.1 = y
  ·obtain ⟨g, hg, rfl⟩ := k
   rw [iy c hg] at h
   exact List.mem_flatMap.mpr ⟨g, hg, List.mem_map.mpr ⟨q, h, rfl⟩⟩
  ·rw [gn fun g hg e => k ⟨g, hg, e⟩] at h
   cases h
 ·intro h
  obtain ⟨g, hg, hs⟩ := List.mem_flatMap.mp h
  obtain ⟨z, hz, e⟩ := List.mem_map.mp hs
  cases e
  rw [iy c hg]
  exact hz
theorem vM {p : Pic} (c : aH p) (s t : Tri) : t ∈ qB p s ↔ t ∈ ah p /\ Touch s t := by
 have key : ∀ y : Int, t ∈ gj p s y ↔ t ∈ ah p /\ t.1 = y /\ s.2.1 <= t.2.2 + 1 /\ t.2.1 <= s.2.2 + 1 := fun y => by
  unfold gj xT
  constructor
  ·intro h
   obtain ⟨q, hq, rfl⟩ := List.mem_map.mp h
   obtain ⟨h1, h2⟩ := List.mem_filter.mp hq
   simp only [Bool.and_eq_true, decide_eq_true_eq] at h2
   exact ⟨(j6 c y q).mp h1, rfl, by dsimp only; lia, by dsimp only; lia⟩
  ·rintro ⟨h1, rfl, h2, h3⟩
   refine List.mem_map.mpr ⟨t.2, List.mem_filter.mpr ⟨(j6 c t.1 t.2).mpr h1, ?_⟩, rfl⟩
   simp only [Bool.and_eq_true, decide_eq_true_eq]
   lia
 unfold qB
 rw [List.mem_append, key, key]
 unfold Touch
 constructor
 ·rintro (⟨h1, h2, h3⟩ | ⟨h1, h2, h3⟩)
  ·exact ⟨h1, .inl (by lia), h3⟩
  ·exact ⟨h1, .inr (by lia), h3⟩
 ·rintro ⟨h1, h2 | h2, h3⟩
  ·exact .inl ⟨h1, by lia, h3⟩
  ·exact .inr ⟨h1, by lia, h3⟩
theorem mL {p : Pic} {n : Nat} (h : ∀ q ∈ p, q.2.length <= n) (y : Int) : (bo p y).length <= n := by
 unfold bo
 cases e : p.find? fun q => decide (q.1 = y) with
 | none => simp
 | some q => exact h q (List.mem_of_find?_eq_some e)
theorem o7 (p : Pic) (s : Tri) (y : Int) : (gj p s y).length <= (bo p y).length := by
 unfold gj
 rw [List.length_map]
 exact List.length_filter_le _ _
theorem xO (f : Int) (y : Int) : ∀ r : R, r.filterMap (fun p => if f <= p.2 then some (av (y, p)) else none) = ((r.filter fun p => decide (f <= p.2)).map fun q => ((y, q) : Tri)).map av
 | [] => rfl
 | p :: r => by
  rw [List.filterMap_cons, List.filter_cons, xO f y r]
  by_cases h : f <= p.2 <;> simp [h]
theorem qy (p : Pic) (c : aH p) (hp : p.length <= 1000) (hq : ∀ q ∈ p, q.2.length <= 1000) (s : Tri) (hs : s.2.1 <= s.2.2) (s1 s2 : Sl) (acc : List Tri) (ha : acc.length <= 1000) (y : Int) :
  bV [.sh (aw p), s1, s2, .sh (.int (s.2.1 - 1)), .sh (.int (s.2.2 + 1)), owl (acc.map av), .sh (.int y)] = some (.nx [.sh (aw p), s1, s2, .sh (.int (s.2.1 - 1)), .sh (.int (s.2.2 + 1)), owl ((acc ++ gj p s y).map av), .sh (.int y)]) := by
 have h1 := jJ p y c (by lia)
 have hl := mL hq y
 obtain ⟨r', h2, h3, h4⟩ := kO (bo p y) (fb c y) (by lia) (s.2.1 - 1) (s.2.2 + 1) (by lia)
 have h5 : r'.length <= LIM := aS (by lia)
 have hb := o7 p s y
 have h6 : acc.length + (gj p s y).length <= LIM := aS (by lia)
 have hc : cR (aO (am (ad 0) (am (ad 1) aN))) (xB (xOp dGe (ag 1) (ag 3))) (aP (ac (aq 2) (ac (aq 0) (ac (aq 1) ap)))) [.un, .un, .sh (.int y), .sh (.int (s.2.1 - 1))] (r'.map prD) = some ((gj p s y).map av) := by
  rw [gx prD (fun q => if s.2.1 - 1 <= q.2 then some (av (y, q)) else none) r', xO, h4]
  ·rfl
  ·intro q _
   by_cases h : s.2.1 - 1 <= q.2 <;> simp [gR, h]
 simp [bV, h1, h2, h5, hc, h6]
theorem rk (p : Pic) (c : aH p) (hp : p.length <= 400) (hq : ∀ q ∈ p, q.2.length <= 400) (s : Tri) (hs : s.2.1 <= s.2.2) (ds : List D) :
  i9 [aw p, .tup (.int s.1 :: .int s.2.1 :: .int s.2.2 :: ds), .int 1] = some (.lst ((qB p s).map av)) := by
 have a0 : atI (D.int s.1 :: .int s.2.1 :: .int s.2.2 :: ds) 0 = some (.int s.1) := cB (j := 0) rfl
 have a1 : atI (D.int s.1 :: .int s.2.1 :: .int s.2.2 :: ds) 1 = some (.int s.2.1) := cB (j := 1) rfl
 have a2 : atI (D.int s.1 :: .int s.2.1 :: .int s.2.2 :: ds) 2 = some (.int s.2.2) := cB (j := 2) rfl
 have t1 := qy p c (by lia) (fun q h => Nat.le_trans (hq q h) (by lia)) s hs (.sh (.tup (.int s.1 :: .int s.2.1 :: .int s.2.2 :: ds))) (.sh (.int 1)) [] (by simp) (s.1 - 1)
 have hb := o7 p s (s.1 - 1)
 have hl := mL hq (s.1 - 1)
 have t2 := qy p c (by lia) (fun q h => Nat.le_trans (hq q h) (by lia)) s hs (.sh (.tup (.int s.1 :: .int s.2.1 :: .int s.2.2 :: ds))) (.sh (.int 1)) ([] ++ gj p s (s.1 - 1)) (by rw [List.nil_append]; lia) (s.1 + 1)
 have hl2 : (2 : Nat) <= LIM := aS (by lia)
 rw [List.nil_append] at t1 t2
 have t1' : bV [.sh (aw p), .sh (.tup (.int s.1 :: .int s.2.1 :: .int s.2.2 :: ds)), .sh (.int 1), .sh (.int (s.2.1 - 1)), .sh (.int (s.2.2 + 1)), .ow (.lst []), .sh (.int (s.1 - 1))] = _ := t1
 have lp : eZ (ad 6) bV [.int (s.1 - 1), .int (s.1 + 1)] [.sh (aw p), .sh (.tup (.int s.1 :: .int s.2.1 :: .int s.2.2 :: ds)), .sh (.int 1), .sh (.int (s.2.1 - 1)), .sh (.int (s.2.2 + 1)), .ow (.lst []), .un] = some (.nx [.sh (aw p), .sh (.tup (.int s.1 :: .int s.2.1 :: .int s.2.2 :: ds)), .sh (.int 1), .sh (.int (s.2.1 - 1)), .sh (.int (s.2.2 + 1)), owl ((qB p s).map av), .sh (.int (s.1 + 1))]) := by
  rw [lm]
  show (match bV [.sh (aw p), .sh (.tup (.int s.1 :: .int s.2.1 :: .int s.2.2 :: ds)), .sh (.int 1), .sh (.int (s.2.1 - 1)), .sh (.int (s.2.2 + 1)), .ow (.lst []), .sh (.int (s.1 - 1))] with | some (.nx ρ2) => _ | some (.ct ρ2) => _ | some (.bk ρ2) => _ | some (.rt d) => _ | some (.ro d) => _ | none => _) = _
  rw [t1']
  dsimp only
  rw [lm]
  show (match bV [.sh (aw p), .sh (.tup (.int s.1 :: .int s.2.1 :: .int s.2.2 :: ds)), .sh (.int 1), .sh (.int (s.2.1 - 1)), .sh (.int (s.2.2 + 1)), owl ((gj p s (s.1 - 1)).map av), .sh (.int (s.1 + 1))] with | some (.nx ρ2) => _ | some (.ct ρ2) => _ | some (.bk ρ2) => _ | some (.rt d) => _ | some (.ro d) => _ | none => _) = _
  rw [t2]
  rfl
 simp [i9, jV, fnO, iQ, a0, a1, a2, hl2, lp]
inductive Con (S : List Tri) (s : Tri) : Tri -> Prop
 | refl : Con S s s
 | step {t u : Tri} : Con S s t -> Touch t u -> u ∈ S -> Con S s u
theorem Con.mem {S : List Tri} {s t : Tri} (hs : s ∈ S) (h : Con S s t) : t ∈ S := by
 cases h with
 | refl => exact hs
 | step _ _ h => exact h
theorem Con.trans {S : List Tri} {s t u : Tri} (a : Con S s t) (b : Con S t u) : Con S s u := by
 induction b with
 | refl => exact a
 | step _ h1 h2 ih => exact ih.step h1 h2
theorem Con.symm {S : List Tri} {s t : Tri} (hs : s ∈ S) (a : Con S s t) : Con S t s := by
 induction a with
 | refl => exact .refl
 | step h h1 h2 ih => exact (Con.refl.step h1.symm (h.mem hs)).trans ih
abbrev Wk := List (Tri × D)
abbrev bn (w : Tri × D) : D := .tup [.int w.1.1, .int w.1.2.1, .int w.1.2.2, w.2]
theorem nv {α : Type} [DecidableEq α] : ∀ {l m : List α}, l.Nodup -> (∀ a ∈ l, a ∈ m) -> l.length <= m.length
 | [], m, _, _ => Nat.zero_le _
 | a :: l, m, h, k => by
  obtain ⟨h1, h2⟩ := List.nodup_cons.mp h
  have ha := k a List.mem_cons_self
  have ih := nv (m := m.erase a) h2 fun b hb => (List.mem_erase_of_ne (fun e => h1 (by rw [<- e]; exact hb))).mpr (k b (List.mem_cons_of_mem _ hb))
  rw [List.length_erase_of_mem ha] at ih
  have := List.length_pos_of_mem ha
  rw [List.length_cons]
  lia
structure WOk (p : Pic) (s : Tri) (W : Wk) : Prop where
 nd : (W.map (·.1)).Nodup
 hd : ∃ d, W[0]? = some (s, d)
 con : ∀ w ∈ W, Con (ah p) s w.1
 pl : ∀ (k : Nat) w, W[k]? = some w -> (k = 0 /\ w.2 = .non) \/ ∃ (j : Nat) (w' : Tri × D), j < k /\ W[j]? = some w' /\ w.2 = .int (j : Int) /\ Touch w'.1 w.1
theorem CS {s t : Tri} (h : bf s = bf t) : s = t := by
 obtain ⟨a, b, c⟩ := s
 obtain ⟨d, e, f⟩ := t
 unfold bf at h
 simp at h
 obtain ⟨rfl, rfl, rfl⟩ := h
 rfl
theorem g6 {ts : List Tri} {t : Tri} : (ts.map bf).contains (bf t) = decide (t ∈ ts) := by
 by_cases h : t ∈ ts
 ·rw [decide_eq_true h, List.contains_iff_mem]
  exact List.mem_map.mpr ⟨t, h, rfl⟩
 ·rw [decide_eq_false h]
  cases q : (ts.map bf).contains (bf t) with
  | false => rfl
  | true =>
   obtain ⟨u, hu, e⟩ := List.mem_map.mp (List.contains_iff_mem.mp q)
   rw [CS e] at hu
   exact absurd hu h
theorem xh (t : Tri) : kyD (av t) = some (bf t) := rfl
theorem ul {c : XT} {m n : XS} {ρ : M.Env} (h : c ρ = some true) : xIf c m n ρ = m ρ := by unfold xIf; rw [h]; rfl
theorem tY {c : XT} {m n : XS} {ρ : M.Env} (h : c ρ = some false) : xIf c m n ρ = n ρ := by unfold xIf; rw [h]; rfl
theorem my {ρ : M.Env} {t : Tri} {ks : List (List Int)} {b : Bool} {i j : Nat} (h6 : ρ[j]? = some (.sh (av t))) (h4 : ρ[i]? = some (.ow (.dic ks))) (hc : ks.contains (bf t) = b) : xB (lD true (aq j) i) ρ = some (!b) := by
 unfold xB lD aq nS
 rw [h6, h4]
 dsimp only [Option.bind]
 rw [xh]
 dsimp only [Option.bind, Option.map]
 rw [hc]
 rfl
theorem WOk.snoc {p : Pic} {s : Tri} {W : Wk} (o : WOk p s W) {j : Nat} {w : Tri × D} (hj : W[j]? = some w) {t : Tri} (ht : t ∈ ah p) (k : Touch w.1 t) (hn : t ∉ W.map (·.1)) : WOk p s (W ++ [(t, .int (j : Int))]) where
 nd := by
  rw [List.map_append]
  refine List.nodup_append.mpr ⟨o.nd, by simp, fun a ha b hb => ?_⟩
  have hb' : b = t := by simpa using hb
  subst hb'
  intro e
  subst e
  exact hn ha
 hd := by
  obtain ⟨d, hd⟩ := o.hd
  exact ⟨d, by rw [List.getElem?_append_left (List.getElem?_eq_some_iff.mp hd).1]; exact hd⟩
 con := fun v hv => by
  rcases List.mem_append.mp hv with hv | hv
  ·exact o.con v hv
  ·rw [List.mem_singleton.mp hv]
   exact (o.con w (List.mem_of_getElem? hj)).step k ht
 pl := fun i v hv => by
  have hjl := (List.getElem?_eq_some_iff.mp hj).1
  by_cases hi : i < W.length
  ·rw [List.getElem?_append_left hi] at hv
   rcases o.pl i v hv with h | ⟨j', w', h1, h2, h3⟩
   ·exact .inl h
   ·exact .inr ⟨j', w', h1, by rw [List.getElem?_append_left (by lia)]; exact h2, h3⟩
  ·have hi' : i = W.length := by
    have := (List.getElem?_eq_some_iff.mp hv).1
    rw [List.length_append, List.length_singleton] at this
    lia
   subst hi'
   have : v = (t, .int (j : Int)) := by simpa using hv.symm
   subst this
   exact .inr ⟨j, w, hjl, by rw [List.getElem?_append_left hjl]; exact hj, rfl, k⟩
theorem WOk.le {p : Pic} {s : Tri} {W : Wk} (o : WOk p s W) (hs : s ∈ ah p) : W.length <= (ah p).length := by
 have := nv o.nd (m := ah p) fun t ht => by
  obtain ⟨w, hw, rfl⟩ := List.mem_map.mp ht
  exact (o.con w hw).mem hs
 simpa using this
theorem xc (p : Pic) (c : aH p) (s : Tri) (hs : s ∈ ah p) (hn : (ah p).length <= 400) (s1 s2 v6 : Sl) (W : Wk) (j : Nat) (w : Tri × D) (hj : W[j]? = some w) (o : WOk p s W) :
  ∃ (W' : Wk) (v6' : Sl), eZ (ad 6) cH ((qB p w.1).map av) [.sh (aw p), s1, s2, owl (W.map bn), .ow (.dic ((W.map (·.1)).map bf)), .sh (.int j), v6] = some (.nx [.sh (aw p), s1, s2, owl (W'.map bn), .ow (.dic ((W'.map (·.1)).map bf)), .sh (.int j), v6']) /\ WOk p s W' /\ (∃ Z, W' = W ++ Z) /\ ∀ t ∈ qB p w.1, t ∈ W'.map (·.1) := by
 obtain ⟨ρ', k1, W', v6', rfl, h1, h2, h3⟩ := a5 (g := ad 6) (m := cH) av (fun pre ρ => ∃ (W' : Wk) (v6' : Sl), ρ = [.sh (aw p), s1, s2, owl (W'.map bn), .ow (.dic ((W'.map (·.1)).map bf)), .sh (.int j), v6'] /\ WOk p s W' /\ (∃ Z, W' = W ++ Z) /\ ∀ t ∈ pre, t ∈ W'.map (·.1)) (qB p w.1) [.sh (aw p), s1, s2, owl (W.map bn), .ow (.dic ((W.map (·.1)).map bf)), .sh (.int j), v6]
  ⟨W, v6, rfl, o, ⟨[], by simp⟩, fun _ h => by cases h⟩ (by
  rintro pre t post _ e ⟨W', v6', rfl, h1, ⟨Z, rfl⟩, h3⟩
  have ht : t ∈ qB p w.1 := by rw [e]; simp
  obtain ⟨ht1, ht2⟩ := (vM c w.1 t).mp ht
  have hc := g6 (ts := (W ++ Z).map (·.1)) (t := t)
  have hle := h1.le hs
  by_cases hm : t ∈ (W ++ Z).map (·.1)
  ·rw [decide_eq_true hm] at hc
   refine ⟨[.sh (aw p), s1, s2, owl ((W ++ Z).map bn), .ow (.dic (((W ++ Z).map (·.1)).map bf)), .sh (.int j), .sh (av t)], [.sh (aw p), s1, s2, owl ((W ++ Z).map bn), .ow (.dic (((W ++ Z).map (·.1)).map bf)), .sh (.int j), .sh (av t)], rfl, .inl ?_, W ++ Z, _, rfl, h1, ⟨Z, rfl⟩, fun u hu => ?_⟩
   ·unfold cH
    rw [tY (my rfl rfl hc)]
    rfl
   ·rcases List.mem_append.mp hu with hu | hu
    ·exact h3 u hu
    ·rw [List.mem_singleton.mp hu]; exact hm
  ·rw [decide_eq_false hm] at hc
   have h4 : WOk p s ((W ++ Z) ++ [(t, D.int (j : Int))]) := h1.snoc (by rw [List.getElem?_append_left (List.getElem?_eq_some_iff.mp hj).1]; exact hj) ht1 ht2 hm
   have hl : ((W ++ Z).map (·.1)).length < LIM := df (by rw [List.length_map]; lia)
   have hl1 : ((W ++ Z).map bn).length < LIM := df (by rw [List.length_map]; lia)
   have hl4 : (3 + 1 : Nat) <= LIM := aS (by lia)
   refine ⟨[.sh (aw p), s1, s2, owl ((W ++ Z).map bn), .ow (.dic (((W ++ Z).map (·.1)).map bf)), .sh (.int j), .sh (av t)], [.sh (aw p), s1, s2, owl (((W ++ Z) ++ [(t, D.int (j : Int))]).map bn), .ow (.dic ((((W ++ Z) ++ [(t, D.int (j : Int))]).map (·.1)).map bf)), .sh (.int j), .sh (av t)], rfl, .inl ?_, (W ++ Z) ++ [(t, D.int (j : Int))], _, rfl, h4, ⟨Z ++ [(t, D.int (j : Int))], by simp⟩, fun u hu => ?_⟩
   ·have e1 : ic (((W ++ Z).map (·.1)).map bf) (bf t) = (((W ++ Z) ++ [(t, D.int (j : Int))]).map (·.1)).map bf := by
     unfold ic
     rw [hc, if_neg (by decide), List.map_append (l₁ := W ++ Z), List.map_append (l₁ := (W ++ Z).map (·.1))]
     rfl
    have e2 : ((W ++ Z) ++ [(t, D.int (j : Int))]).map bn = (W ++ Z).map bn ++ [.tup [.int t.1, .int t.2.1, .int t.2.2, .int j]] := by rw [List.map_append]; rfl
    rw [e2, <- e1]
    generalize (W ++ Z).map bn = es at hl1
    generalize (W ++ Z).map (·.1) = ts at hc hl
    have hl' : (ts.map bf).length < LIM := by rw [List.length_map]; exact hl
    have hl2 : (es.map O.sh).length < LIM := by rw [List.length_map]; exact hl1
    unfold cH
    rw [ul (my rfl rfl hc), cP (ρ' := [.sh (aw p), s1, s2, owl es, .ow (.dic (ic (ts.map bf) (bf t))), .sh (.int j), .sh (av t)]) (by
     show (if (ts.map bf).length < LIM then _ else _) = _
     rw [if_pos hl']
     rfl)]
    simp [cO, hl4, hl1]
   ·rw [List.map_append]
    rcases List.mem_append.mp hu with hu | hu
    ·exact List.mem_append_left _ (h3 u hu)
    ·rw [List.mem_singleton.mp hu]; simp)
 exact ⟨W', v6', k1, h1, h2, h3⟩
theorem cD {p : Pic} (c : aH p) {t : Tri} (h : t ∈ ah p) : t.2.1 <= t.2.2 := by
 obtain ⟨g, hg, hs⟩ := List.mem_flatMap.mp h
 obtain ⟨z, hz, rfl⟩ := List.mem_map.mp hs
 exact (c.1 g hg).1.1 z hz
structure IsWalk (p : Pic) (s : Tri) (W : Wk) : Prop extends WOk p s W where
 all : ∀ t, t ∈ W.map (·.1) ↔ Con (ah p) s t
theorem jG (p : Pic) (c : aH p) (hp : p.length <= 400) (hn : (ah p).length <= 400) (s : Tri) (hs : s ∈ ah p) : ∃ W : Wk, bX [aw p, av s, .int 1] = some (.lst (W.map bn)) /\ IsWalk p s W := by
 have hq : ∀ q ∈ p, q.2.length <= 400 := fun q hq => Nat.le_trans (eY hq) hn
 have hl4 : (3 + 1 : Nat) <= LIM := aS (by lia)
 obtain ⟨ρ', k1, W, v5, v6, rfl, o, hcl⟩ := lf (c := cI) (m := dt)
  (fun ρ => ∃ (W : Wk) (j : Nat) (v6 : Sl), ρ = [.sh (aw p), .sh (av s), .sh (.int 1), owl (W.map bn), .ow (.dic ((W.map (·.1)).map bf)), .sh (.int j), v6] /\ WOk p s W /\ j <= W.length /\ ∀ (i : Nat) w, i < j -> W[i]? = some w -> ∀ t ∈ qB p w.1, t ∈ W.map (·.1))
  (fun ρ => match ρ with | [_, _, _, _, _, .sh (.int j), _] => ((ah p).length - j).toNat | _ => 0)
  (fun ρ => ∃ (W : Wk) (v5 v6 : Sl), ρ = [.sh (aw p), .sh (av s), .sh (.int 1), owl (W.map bn), .ow (.dic ((W.map (·.1)).map bf)), v5, v6] /\ WOk p s W /\ ∀ w ∈ W, ∀ t ∈ qB p w.1, t ∈ W.map (·.1))
  (by
   rintro _ ⟨W, j, v6, rfl, o, hj, hcl⟩
   have hle := o.le hs
   by_cases hlt : j < W.length
   ·right
    have hlt' : (j : Int) < W.length := by lia
    have hw : W[j]? = some W[j] := List.getElem?_eq_getElem hlt
    have ea : atI (W.map bn) (j : Int) = some (bn W[j]) := cB (by rw [List.getElem?_map, hw]; rfl)
    obtain ⟨W', v6', h1, h2, ⟨Z, rfl⟩, h3⟩ := xc p c s hs hn (.sh (av s)) (.sh (.int 1)) v6 W j W[j] hw o
    have hwm := (o.con _ (List.mem_of_getElem? hw)).mem hs
    have ht := rk p c hp hq W[j].1 (cD c hwm) [W[j].2]
    refine ⟨by simp [cI, hlt, hlt'], [.sh (aw p), .sh (av s), .sh (.int 1), owl ((W ++ Z).map bn), .ow (.dic (((W ++ Z).map (·.1)).map bf)), .sh (.int ((j + 1 : Nat) : Int)), v6'], ?_, ⟨W ++ Z, j + 1, v6', rfl, h2, by rw [List.length_append]; lia, fun i w hi hw' t ht' => ?_⟩, by dsimp only; lia⟩
    ·unfold dt
     rw [cP (ρ' := [.sh (aw p), .sh (av s), .sh (.int 1), owl ((W ++ Z).map bn), .ow (.dic (((W ++ Z).map (·.1)).map bf)), .sh (.int j), v6']) (by
      have hcall : (xIt (aK i9 (ac (aq 0) (ac (xOp dIx (ag 3) (ag 5)) (ac (aq 2) ap))))) [.sh (aw p), .sh (av s), .sh (.int 1), owl (W.map bn), .ow (.dic ((W.map (·.1)).map bf)), .sh (.int j), v6] = some ((qB p W[j].1).map av) := by
       simp [ea, ht, mh]
      unfold eG
      rw [hcall]
      exact h1)]
     simp [rP, dI]
    ·by_cases hij : i < j
     ·rw [List.getElem?_append_left (by lia)] at hw'
      rw [List.map_append]
      exact List.mem_append_left _ (hcl i w hij hw' t ht')
     ·have : i = j := by lia
      subst this
      rw [List.getElem?_append_left hlt, hw] at hw'
      cases hw'
      exact h3 t ht'
   ·left
    have hlt' : ¬ (j : Int) < W.length := by lia
    refine ⟨by simp [cI, hlt, hlt'], W, _, _, rfl, o, fun w hw t ht => ?_⟩
    obtain ⟨i, hi⟩ := List.getElem?_of_mem hw
    exact hcl i w (by have := (List.getElem?_eq_some_iff.mp hi).1; lia) hi t ht)
  [.sh (aw p), .sh (av s), .sh (.int 1), owl ([(s, D.non)].map bn), .ow (.dic ((([(s, D.non)] : Wk).map (·.1)).map bf)), .sh (.int 0), .un]
  ⟨[(s, .non)], 0, .un, rfl, ⟨by simp, ⟨.non, rfl⟩, fun w hw => by rw [List.mem_singleton.mp hw]; exact .refl, fun k w hw => by
   have hk : k = 0 := by have := (List.getElem?_eq_some_iff.mp hw).1; simp at this; exact this
   subst hk
   cases hw
   exact .inl ⟨rfl, rfl⟩⟩, by simp, fun i _ hi => absurd hi (Nat.not_lt_zero _)⟩
 refine ⟨W, ?_, o, fun t => ⟨fun ht => ?_, fun ht => ?_⟩⟩
 ·have hd : vY (aq 1) [.sh (aw p), .sh (av s), .sh (.int 1), owl ([(s, D.non)].map bn), .un, .un, .un] = some (.dic [bf s]) := by
   simp only [vY, aq, List.getElem?_cons_succ, List.getElem?_cons_zero, Option.bind_some, xh, Option.map_some]
  have k1' : dM cI dt [.sh (aw p), .sh (av s), .sh (.int 1), owl ([(s, D.non)].map bn), .ow (.dic [bf s]), .sh (.int 0), .un] = _ := k1
  have h1 : fc [.sh (aw p), .sh (av s), .sh (.int 1), .un, .un, .un, .un] = some (.ro (.lst ((W.map bn).map O.sh))) := by
   unfold fc
   rw [cP (ρ' := [.sh (aw p), .sh (av s), .sh (.int 1), owl ([(s, D.non)].map bn), .un, .un, .un]) (by simp [cO, hl4]), cP (ρ' := [.sh (aw p), .sh (av s), .sh (.int 1), owl ([(s, D.non)].map bn), .ow (.dic [bf s]), .un, .un]) (by unfold n5; rw [hd]; rfl), cP (ρ' := [.sh (aw p), .sh (av s), .sh (.int 1), owl ([(s, D.non)].map bn), .ow (.dic [bf s]), .sh (.int 0), .un]) (by simp), cP k1']
   simp
  unfold bX iV fnO
  have h2 : ([aw p, av s, .int 1].map Sl.sh ++ List.replicate (7 - [aw p, av s, D.int 1].length) .un) = [.sh (aw p), .sh (av s), .sh (.int 1), .un, .un, .un, .un] := rfl
  rw [h2, h1]
  simp
 ·obtain ⟨w, hw, rfl⟩ := List.mem_map.mp ht
  exact o.con w hw
 ·induction ht with
  | refl =>
   obtain ⟨d, hd⟩ := o.hd
   exact List.mem_map.mpr ⟨_, List.mem_of_getElem? hd, rfl⟩
  | step h1 h2 h3 ih =>
   obtain ⟨w, hw, rfl⟩ := List.mem_map.mp ih
   exact hcl w hw _ ((vM c _ _).mpr ⟨h3, h2⟩)
instance (s t : Tri) : Decidable (Touch s t) := by unfold Touch; infer_instance
def sAt (S : List Tri) (i : Nat) : Tri := S.getD i (0, 0, 0)
theorem dF {S : List Tri} {i : Nat} (h : i < S.length) : S[i]? = some (sAt S i) := by
 unfold sAt
 rw [List.getD_eq_getElem?_getD, List.getElem?_eq_getElem h]
 rfl
theorem bT {S : List Tri} {i : Nat} (h : i < S.length) : sAt S i ∈ S := List.mem_of_getElem? (dF h)
theorem bD {S : List Tri} {t : Tri} (h : t ∈ S) : ∃ i, i < S.length /\ sAt S i = t := by
 obtain ⟨i, hi⟩ := List.getElem?_of_mem h
 have hl := (List.getElem?_eq_some_iff.mp hi).1
 rw [dF hl] at hi
 exact ⟨i, hl, Option.some.inj hi⟩
theorem qH (s t : Tri) : jE [av s, av t] = some (.bl (decide (Touch s t))) := by
 unfold Touch
 by_cases h1 : s.1 = t.1 + 1
 ·by_cases h3 : s.2.1 <= t.2.2 + 1 <;> by_cases h4 : t.2.1 <= s.2.2 + 1 <;> simp [jE, iC, fnO, h9, h1, h3, h4]
 ·by_cases h2 : t.1 = s.1 + 1
  ·by_cases h3 : s.2.1 <= t.2.2 + 1 <;> by_cases h4 : t.2.1 <= s.2.2 + 1 <;> simp [jE, iC, fnO, h9, h2, h3, h4]
  ·simp [jE, iC, fnO, h9, h1, h2]
structure MOk (S : List Tri) (E : Nat -> Nat -> Prop) (M : Nat -> Nat) : Prop where
 le : ∀ i, i < S.length -> M i <= i
 idem : ∀ i, i < S.length -> M (M i) = M i
 con : ∀ i, i < S.length -> Con S (sAt S i) (sAt S (M i))
 done : ∀ j k, E j k -> Touch (sAt S j) (sAt S k) -> M j = M k
theorem lz (n : Nat) (h : n <= 1000) : AM [D.int (n : Int)] = some ((List.range n).map fun i : Nat => D.int (i : Int)) := by
 rw [<- qC]
 exact cZ ⟨by lia, by lia⟩
theorem BE {s t : Tri} (h : Touch s t) : s ≠ t := fun e => by subst e; have := h.1; lia
theorem nw {S : List Tri} {M : Nat -> Nat} (nd : S.Nodup) (o : MOk S (fun j k => j < k /\ k < S.length) M) {i j : Nat} (hi : i < S.length) (hj : j < S.length) : M i = M j ↔ Con S (sAt S i) (sAt S j) := by
 constructor
 ·intro h
  have c1 := o.con i hi
  have c2 := o.con j hj
  rw [h] at c1
  exact c1.trans (c2.symm (bT hj))
 ·intro h
  have key : ∀ t, Con S (sAt S i) t -> ∀ l, l < S.length -> sAt S l = t -> M i = M l := by
   intro t ht
   induction ht with
   | refl =>
    intro l hl e
    have h1 := dF hl
    have h2 := dF hi
    rw [e, <- h2] at h1
    have : l = i := (List.getElem?_inj hl nd).mp h1
    rw [this]
   | @step t u h1 h2 h3 ih =>
    intro l hl e
    obtain ⟨m, hm, em⟩ := bD (h1.mem (bT hi))
    rw [ih m hm em]
    have hml : m ≠ l := fun z => BE h2 (by rw [<- em, <- e, z])
    by_cases hlt : m < l
    ·exact o.done m l ⟨hlt, hl⟩ (by rw [em, e]; exact h2)
    ·exact (o.done l m ⟨by lia, hm⟩ (by rw [em, e]; exact h2.symm)).symm
  exact key _ h j hj rfl
def iz (M : Nat -> Nat) (lo hi : Nat) : Nat -> Nat := fun i => if M i = hi then lo else M i
theorem MOk.join {S : List Tri} {E : Nat -> Nat -> Prop} {M : Nat -> Nat} (o : MOk S E M) {a b : Nat} (ha : a < S.length) (hb : b < S.length) (hlt : M a < M b) (ht : Touch (sAt S a) (sAt S b)) : MOk S E (iz M (M a) (M b)) /\ iz M (M a) (M b) a = iz M (M a) (M b) b := by
 have la := o.le a ha
 have ia := o.idem a ha
 have hla : M a < S.length := by lia
 have ca := o.con a ha
 have cb := o.con b hb
 refine ⟨⟨fun i hi => ?_, fun i hi => ?_, fun i hi => ?_, fun j k e t => ?_⟩, ?_⟩
 ·unfold iz
  have := o.le i hi
  split <;> lia
 ·unfold iz
  have := o.idem i hi
  by_cases h : M i = M b
  ·rw [if_pos h, ia, if_neg (by lia)]
  ·rw [if_neg h, this, if_neg h]
 ·unfold iz
  have ci := o.con i hi
  by_cases h : M i = M b
  ·rw [if_pos h]
   rw [h] at ci
   exact (ci.trans (cb.symm (bT hb))).trans ((Con.refl.step ht.symm (bT ha)).trans ca)
  ·rw [if_neg h]; exact ci
 ·unfold iz
  rw [o.done j k e t]
 ·unfold iz
  rw [if_neg (by lia), if_pos rfl]
theorem MOk.mono {S : List Tri} {E F : Nat -> Nat -> Prop} {M : Nat -> Nat} (o : MOk S E M) (h : ∀ j k, F j k -> Touch (sAt S j) (sAt S k) -> E j k \/ M j = M k) : MOk S F M :=
 ⟨o.le, o.idem, o.con, fun j k f t => (h j k f t).elim (fun e => o.done j k e t) id⟩
abbrev ba (n : Nat) (M : Nat -> Nat) : D := .lst ((List.range n).map fun i => D.int (M i : Int))
theorem wC (S : List Tri) (hS : S.length <= 400) (E : Nat -> Nat -> Prop) (M : Nat -> Nat) (o : MOk S E M) (j k : Nat) (hj : j < S.length) (hk : k < S.length) (v4 v5 : Sl) :
  ∃ (M' : Nat -> Nat) (v4' v5' : Sl), dL [.sh (.lst (S.map av)), .sh (ba S.length M), .sh (.int k), .sh (.int j), v4, v5] = some (.nx [.sh (.lst (S.map av)), .sh (ba S.length M'), .sh (.int k), .sh (.int j), v4', v5']) /\ MOk S (fun a b => E a b \/ (a = j /\ b = k)) M' := by
 have aj : atI ((List.range S.length).map fun i => D.int (M i : Int)) (j : Int) = some (.int (M j)) := cB (by rw [List.getElem?_map, List.getElem?_range hj]; rfl)
 have ak : atI ((List.range S.length).map fun i => D.int (M i : Int)) (k : Int) = some (.int (M k)) := cB (by rw [List.getElem?_map, List.getElem?_range hk]; rfl)
 have sj : atI (S.map av) (j : Int) = some (av (sAt S j)) := cB (by rw [List.getElem?_map, dF hj]; rfl)
 have sk : atI (S.map av) (k : Int) = some (av (sAt S k)) := cB (by rw [List.getElem?_map, dF hk]; rfl)
 have ht := qH (sAt S j) (sAt S k)
 have hl : S.length <= LIM := aS (by lia)
 by_cases he : M j = M k
 ·have he' : (M j : Int) = (M k : Int) := by lia
  refine ⟨M, v4, v5, by simp [dL, aj, ak, he, he'], o.mono fun a b f _ => f.elim .inl fun z => .inr (by rw [z.1, z.2]; exact he)⟩
 ·have he' : ¬ (M j : Int) = (M k : Int) := by lia
  by_cases hT : Touch (sAt S j) (sAt S k)
  ·rw [decide_eq_true hT] at ht
   obtain ⟨lo, hi, elo, ehi, ok⟩ : ∃ lo hi : Nat, (if (M k : Int) < (M j : Int) then (M k : Int) else (M j : Int)) = (lo : Int) /\ (if (M k : Int) > (M j : Int) then (M k : Int) else (M j : Int)) = (hi : Int) /\ MOk S (fun a b => E a b \/ (a = j /\ b = k)) (iz M lo hi) := by
    by_cases hlt : M j < M k
    ·obtain ⟨o1, o2⟩ := o.join hj hk hlt hT
     exact ⟨M j, M k, by split <;> lia, by split <;> lia, o1.mono fun a b f _ => f.elim .inl fun z => .inr (by rw [z.1, z.2]; exact o2)⟩
    ·obtain ⟨o1, o2⟩ := o.join hk hj (by lia) hT.symm
     exact ⟨M k, M j, by split <;> lia, by split <;> lia, o1.mono fun a b f _ => f.elim .inl fun z => .inr (by rw [z.1, z.2]; exact o2.symm)⟩
   have hc : cR (ad 0) ez (xOp dIx (xL (fw (ac (aq 0) (ac (aq 1) ap)))) (xCB vP (ac (xOp (dEq false) (ag 0) (ag 2)) ap))) [.un, .sh (.int lo), .sh (.int hi)] ((List.range S.length).map fun i => D.int (M i : Int)) = some ((List.range S.length).map fun i => D.int (iz M lo hi i : Int)) := by
    refine cL _ _ _ fun i _ => ?_
    have a0 : atI [D.int (M i : Int), .int lo] 0 = some (.int (M i)) := rfl
    have a1 : atI [D.int (M i : Int), .int lo] 1 = some (.int lo) := rfl
    by_cases h : M i = hi
    ·have h' : (M i : Int) = (hi : Int) := by lia
     simp [gR, iz, h, h', a0, a1, vP]
    ·have h' : ¬ (M i : Int) = (hi : Int) := by lia
     simp [gR, iz, h, h', a0, a1, vP]
   refine ⟨iz M lo hi, .sh (.int lo), .sh (.int hi), ?_, ok⟩
   have elo' : (if M k < M j then (M k : Int) else (M j : Int)) = (lo : Int) := by rw [<- elo]; split <;> split <;> lia
   have ehi' : (if M j < M k then (M k : Int) else (M j : Int)) = (hi : Int) := by rw [<- ehi]; split <;> split <;> lia
   simp [dL, aj, ak, he, he', sj, sk, ht, elo, ehi, elo', ehi', hl, hc]
  ·rw [decide_eq_false hT] at ht
   refine ⟨M, v4, v5, by simp [dL, aj, ak, he, he', sj, sk, ht], o.mono fun a b f t => f.elim .inl fun z => by rw [z.1, z.2] at t; exact absurd t hT⟩
theorem zR {a : XE} {ρ : M.Env} {n : Nat} (h : a ρ = some (.int n)) (hn : n <= 1000) : oT a ρ = some ((List.range n).map fun i : Nat => D.int (i : Int)) := by
 unfold oT
 rw [h]
 exact (cZ (by lia)).trans (by rw [Int.toNat_natCast])
theorem vV (S : List Tri) (hS : S.length <= 400) (M : Nat -> Nat) (k : Nat) (hkn : k < S.length) (o : MOk S (fun a b => a < b /\ b < k) M) (v3 v4 v5 : Sl) :
  ∃ (M2 : Nat -> Nat) (w3 w4 w5 : Sl), gD [.sh (.lst (S.map av)), .sh (ba S.length M), .sh (.int k), v3, v4, v5] = some (.nx [.sh (.lst (S.map av)), .sh (ba S.length M2), .sh (.int k), w3, w4, w5]) /\ MOk S (fun a b => a < b /\ b < k + 1) M2 := by
 obtain ⟨ρ2, k2, M2, w3, w4, w5, rfl, o2⟩ := a5 (g := ad 3) (m := dL) (fun k : Nat => D.int (k : Int)) (fun pre2 ρ => ∃ (M : Nat -> Nat) (v3 v4 v5 : Sl), ρ = [.sh (.lst (S.map av)), .sh (ba S.length M), .sh (.int k), v3, v4, v5] /\ MOk S (fun a b => (a < b /\ b < k) \/ (a < pre2.length /\ b = k)) M) (List.range k) [.sh (.lst (S.map av)), .sh (ba S.length M), .sh (.int k), v3, v4, v5]
  ⟨M, _, _, _, rfl, o.mono fun a b f _ => f.elim .inl fun z => absurd z.1 (Nat.not_lt_zero _)⟩ (by
  rintro pre2 j post2 _ e2 ⟨M2, w3, w4, w5, rfl, o2⟩
  obtain ⟨hj, hjk⟩ := l5 e2
  obtain ⟨M3, x4, x5, h1, h2⟩ := wC S hS _ M2 o2 j k (by lia) hkn w4 w5
  refine ⟨_, _, rfl, .inl h1, M3, _, _, _, rfl, h2.mono fun a b f _ => .inl ?_⟩
  rw [List.length_append, List.length_singleton] at f
  rcases f with f | f
  ·exact .inl (.inl f)
  ·by_cases z : a = j
   ·exact .inr ⟨z, f.2⟩
   ·exact .inl (.inr ⟨by lia, f.2⟩))
 have hr := lz k (by lia)
 refine ⟨M2, w3, w4, w5, ?_, o2.mono fun a b f _ => .inl ?_⟩
 ·unfold gD eG
  have e : nz (ac (ag 2) ap) [.sh (.lst (S.map av)), .sh (ba S.length M), .sh (.int k), v3, v4, v5] = some ((List.range k).map fun i : Nat => D.int (i : Int)) := hr
  rw [e]
  exact k2
 ·rw [List.length_range]
  by_cases z : b = k
  ·exact .inr ⟨by lia, z⟩
  ·exact .inl ⟨f.1, by lia⟩
theorem qz (S : List Tri) (hS : S.length <= 400) : ∃ M : Nat -> Nat, qG [.lst (S.map av)] = some (ba S.length M) /\ MOk S (fun j k => j < k /\ k < S.length) M := by
 obtain ⟨ρ', k1, M, v2, v3, v4, v5, rfl, o⟩ := a5 (g := ad 2) (m := gD) (fun k : Nat => D.int (k : Int)) (fun pre ρ => ∃ (M : Nat -> Nat) (v2 v3 v4 v5 : Sl), ρ = [.sh (.lst (S.map av)), .sh (ba S.length M), v2, v3, v4, v5] /\ MOk S (fun j k => j < k /\ k < pre.length) M) (List.range S.length) [.sh (.lst (S.map av)), .sh (ba S.length id), .un, .un, .un, .un]
  ⟨id, _, _, _, _, rfl, fun i _ => Nat.le_refl _, fun i _ => rfl, fun i _ => .refl, fun j k e => absurd e.2 (Nat.not_lt_zero _)⟩ (by
  rintro pre k post _ e ⟨M, v2, v3, v4, v5, rfl, o⟩
  obtain ⟨hk, hkn⟩ := l5 e
  obtain ⟨M2, w3, w4, w5, h1, h2⟩ := vV S hS M k hkn (by rw [hk]; exact o) v3 v4 v5
  exact ⟨_, _, rfl, .inl h1, M2, _, _, _, _, rfl, by rw [List.length_append, List.length_singleton, <- hk]; exact h2⟩)
 rw [List.length_range] at o
 refine ⟨M, ?_, o⟩
 have hr := lz S.length (by lia)
 have hX : jL [.sh (.lst (S.map av)), .un, .un, .un, .un, .un] = some (.rt (ba S.length M)) := by
  unfold jL
  have hb : xCB eF (ac (ag 0) ap) [.sh (.lst (S.map av)), .un, .un, .un, .un, .un] = some (.int S.length) := by simp
  rw [cP (ρ' := [.sh (.lst (S.map av)), .sh (ba S.length id), .un, .un, .un, .un]) (by
   unfold bN xL
   rw [zR hb (by lia)]
   rfl)]
  have hb2 : xCB eF (ac (ag 0) ap) [.sh (.lst (S.map av)), .sh (ba S.length id), .un, .un, .un, .un] = some (.int S.length) := by simp
  have e : nz (ac (xCB eF (ac (ag 0) ap)) ap) [.sh (.lst (S.map av)), .sh (ba S.length id), .un, .un, .un, .un] = some ((List.range S.length).map fun i : Nat => D.int (i : Int)) := by
   have e2 : ac (xCB eF (ac (ag 0) ap)) ap [.sh (.lst (S.map av)), .sh (ba S.length id), .un, .un, .un, .un] = some [.int S.length] := by simp
   unfold nz
   rw [e2]
   exact hr
  rw [cP (by unfold eG; rw [e]; exact k1)]
  rfl
 unfold qG nA fnO
 have h2 : ([D.lst (S.map av)].map Sl.sh ++ List.replicate (6 - [D.lst (S.map av)].length) .un) = [.sh (.lst (S.map av)), .un, .un, .un, .un, .un] := rfl
 rw [h2, hX]
 simp
theorem rn (ks : List (List Int)) (a q : List Int) : (ic ks a).contains q = (ks.contains q || q == a) := by
 unfold ic
 cases h : ks.contains a with
 | true =>
  rw [if_pos rfl]
  by_cases e : q = a
  ·subst e; rw [h]; rfl
  ·have : (q == a) = false := by simpa using e
   rw [this, Bool.or_false]
 | false =>
  rw [if_neg (by decide), List.contains_eq_any_beq, List.contains_eq_any_beq, List.any_append]
  simp
theorem gv (q : List Int) : ∀ (qs ks : List (List Int)), (qs.foldl ic ks).contains q = (ks.contains q || qs.contains q)
 | [], ks => by simp
 | a :: qs, ks => by rw [List.foldl_cons, gv q qs (ic ks a), rn, List.contains_cons, Bool.or_assoc]
theorem rO : ∀ (qs ks : List (List Int)), (qs.foldl ic ks).length <= ks.length + qs.length
 | [], ks => by simp
 | a :: qs, ks => by
  have h := rO qs (ic ks a)
  have h2 : (ic ks a).length <= ks.length + 1 := by unfold ic; split <;> simp
  rw [List.foldl_cons, List.length_cons]
  lia
theorem qP : ∀ W : Wk, fj (W.map fun w => D.tup [av w.1, .bl true]) = some ((W.map (·.1)).map bf)
 | [] => rfl
 | w :: W => by
  rw [List.map_cons, fj, xh, qP W]
  rfl
abbrev bE (W : Wk) : D := .lst (W.map bn)
def b6 (n : Nat) (M : Nat -> Nat) : List Nat := (List.range n).filter fun k => decide (M k = k)
theorem nZ (n : Nat) (M : Nat -> Nat) : b6 (n + 1) M = b6 n M ++ if M n = n then [n] else [] := by
 unfold b6
 rw [List.range_succ, List.filter_append]
 congr 1
 by_cases h : M n = n <;> simp [h]
theorem oj (p : Pic) (c : aH p) (hp : p.length <= 160) (hn : (ah p).length <= 160) (nd : (ah p).Nodup) (M : Nat -> Nat) (o : MOk (ah p) (fun j k => j < k /\ k < (ah p).length) M) (wk : Tri -> Wk)
  (hw : ∀ s ∈ ah p, bX [aw p, av s, .int 1] = some (bE (wk s)) /\ IsWalk p s (wk s)) :
  je [aw p, .int 1] = some (.lst ((b6 (ah p).length M).map fun k => bE (wk (sAt (ah p) k)))) := by
 have hS := gO p (by lia)
 obtain ⟨ρ', k1, ks, v4, rfl, _, _⟩ := a5 (g := ad 4) (m := cW) av (fun pre ρ => ∃ (ks : List (List Int)) (v4 : Sl), ρ = [.sh (aw p), .sh (.int 1), owl ((b6 pre.length M).map fun k => bE (wk (sAt (ah p) k))), .ow (.dic ks), v4] /\ ks.length <= 160 * pre.length /\
   ∀ t, ks.contains (bf t) = true ↔ ∃ k, k < pre.length /\ M k = k /\ Con (ah p) (sAt (ah p) k) t) (ah p) [.sh (aw p), .sh (.int 1), .ow (.lst []), .ow (.dic []), .un]
  ⟨[], _, rfl, by simp, fun t => ⟨fun h => by simp at h, fun ⟨k, h, _⟩ => absurd h (Nat.not_lt_zero _)⟩⟩ (by
  rintro pre s post _ e ⟨ks, v4, rfl, hk, hcon⟩
  have hlen : pre.length < (ah p).length := by rw [e]; simp
  have hs : sAt (ah p) pre.length = s := by
   have h1 := dF hlen
   have h2 : (ah p)[pre.length]? = some s := by rw [e]; simp
   rw [h1] at h2
   exact Option.some.inj h2
  have hsm : s ∈ ah p := by rw [e]; simp
  have el : (pre ++ [s]).length = pre.length + 1 := by rw [List.length_append]; rfl
  have hwalked : ks.contains (bf s) = true ↔ M pre.length ≠ pre.length := by
   rw [hcon s]
   constructor
   ·rintro ⟨k, h1, h2, h3⟩ h4
    rw [<- hs] at h3
    have := (nw nd o (by lia) hlen).mpr h3
    lia
   ·intro h
    have h1 := o.le _ hlen
    refine ⟨M pre.length, by lia, o.idem _ hlen, ?_⟩
    have := o.con _ hlen
    rw [hs] at this
    exact this.symm hsm
  by_cases hm : M pre.length = pre.length
  ·have hc : ks.contains (bf s) = false := by
    cases q : ks.contains (bf s) with
    | false => rfl
    | true => exact absurd hm (hwalked.mp q)
   obtain ⟨w1, w2⟩ := hw s hsm
   have wl := w2.toWOk.le hsm
   have ef : b6 (pre ++ [s]).length M = b6 pre.length M ++ [pre.length] := by rw [el, nZ, if_pos hm]
   have fl : (b6 pre.length M).length <= pre.length := by
    have := List.length_filter_le (fun k => decide (M k = k)) (List.range pre.length)
    rw [List.length_range] at this
    exact this
   have hl1 : (((b6 pre.length M).map fun k => bE (wk (sAt (ah p) k))).map O.sh).length < LIM := df (by rw [List.length_map, List.length_map]; lia)
   have hl2 : (wk s).length <= LIM := aS (by lia)
   have hl3 : ks.length + (wk s).length < LIM := df (by lia)
   refine ⟨_, [.sh (aw p), .sh (.int 1), owl ((b6 (pre ++ [s]).length M).map fun k => bE (wk (sAt (ah p) k))), .ow (.dic ((((wk s).map (·.1)).map bf).foldl ic ks)), .sh (av s)], rfl, .inl ?_, _, _, rfl, ?_, fun t => ?_⟩
   ·unfold cW
    have e2 : ((b6 (pre ++ [s]).length M).map fun k => bE (wk (sAt (ah p) k))) = ((b6 pre.length M).map fun k => bE (wk (sAt (ah p) k))) ++ [bE (wk s)] := by rw [ef, List.map_append, List.map_singleton, hs]
    rw [e2]
    generalize ((b6 pre.length M).map fun k => bE (wk (sAt (ah p) k))) = es at hl1
    show xIf _ _ _ [.sh (aw p), .sh (.int 1), owl es, .ow (.dic ks), .sh (av s)] = _
    rw [ul (my rfl rfl hc), cP (ρ' := [.sh (aw p), .sh (.int 1), owl (es ++ [bE (wk s)]), .ow (.dic ks), .sh (av s)]) (by
     rw [List.length_map] at hl1
     simp [w1, hl1])]
    have hcomp : cE [none, none, none, none] (xIt (xOp dIx (ag 2) (xUn fM (xC (.int 1))))) (aO (am (ad 0) (am (ad 1) (am (ad 2) (am (ad 3) aN))))) ez (aP (ac (aP (ac (aq 0) (ac (aq 1) (ac (aq 2) ap)))) (ac (xC (.bl true)) ap))) [.sh (aw p), .sh (.int 1), owl (es ++ [bE (wk s)]), .ow (.dic ks), .sh (av s)] = some ((wk s).map fun w => D.tup [av w.1, .bl true]) := by
     have hc2 : cR (aO (am (ad 0) (am (ad 1) (am (ad 2) (am (ad 3) aN))))) ez (aP (ac (aP (ac (aq 0) (ac (aq 1) (ac (aq 2) ap)))) (ac (xC (.bl true)) ap))) [.un, .un, .un, .un] ((wk s).map bn) = some ((wk s).map fun w => D.tup [av w.1, .bl true]) := cL bn _ (wk s) fun w _ => by simp [gR]
     have at1 : atI (es ++ [bE (wk s)]) (-1) = some (bE (wk s)) := e7 _ _
     simp [at1, mh, hl2, hc2]
    unfold yr
    rw [hcomp]
    show ((fj ((wk s).map fun w => D.tup [av w.1, .bl true])).bind _) = _
    rw [qP]
    show (if ks.length + ((wk s).map fun w => D.tup [av w.1, .bl true]).length < LIM then _ else _) = _
    rw [List.length_map, if_pos hl3]
    rfl
   ·have := rO (((wk s).map (·.1)).map bf) ks
    rw [List.length_map, List.length_map] at this
    rw [el]
    lia
   ·rw [gv, Bool.or_eq_true, hcon t, g6, decide_eq_true_eq, w2.all t, el]
    constructor
    ·rintro (⟨k, h1, h2⟩ | h)
     ·exact ⟨k, by lia, h2⟩
     ·exact ⟨pre.length, by lia, hm, by rw [hs]; exact h⟩
    ·rintro ⟨k, h1, h2, h3⟩
     by_cases hk : k = pre.length
     ·subst hk
      rw [hs] at h3
      exact .inr h3
     ·exact .inl ⟨k, by lia, h2, h3⟩
  ·have hc : ks.contains (bf s) = true := hwalked.mpr hm
   have ef : b6 (pre ++ [s]).length M = b6 pre.length M := by rw [el, nZ, if_neg hm, List.append_nil]
   refine ⟨_, [.sh (aw p), .sh (.int 1), owl ((b6 (pre ++ [s]).length M).map fun k => bE (wk (sAt (ah p) k))), .ow (.dic ks), .sh (av s)], rfl, .inl ?_, ks, _, rfl, by rw [el]; lia, fun t => ?_⟩
   ·unfold cW
    rw [ef]
    show xIf _ _ _ [.sh (aw p), .sh (.int 1), owl ((b6 pre.length M).map fun k => bE (wk (sAt (ah p) k))), .ow (.dic ks), .sh (av s)] = _
    rw [tY (my rfl rfl hc)]
    rfl
   ·rw [hcon t, el]
    constructor
    ·rintro ⟨k, h1, h2⟩
     exact ⟨k, by lia, h2⟩
    ·rintro ⟨k, h1, h2, h3⟩
     by_cases hk : k = pre.length
     ·subst hk; exact absurd h2 hm
     ·exact ⟨k, by lia, h2, h3⟩)
 simp [je, gZ, fnO, fN, hS, mh, k1]
theorem vH (p : Pic) (c : aH p) (hp : p.length <= 160) (hn : (ah p).length <= 160) (nd : (ah p).Nodup) (M : Nat -> Nat) (o : MOk (ah p) (fun j k => j < k /\ k < (ah p).length) M) (wk : Tri -> Wk)
  (hw : ∀ s ∈ ah p, bX [aw p, av s, .int 1] = some (bE (wk s)) /\ IsWalk p s (wk s)) :
  jX [aw p] = some (.lst ((b6 (ah p).length M).map fun k => bE (wk (sAt (ah p) k)))) := by
 have h := oj p c hp hn nd M o wk hw
 simp [jX, m7, fnO, mr, h]
def Sep (s t : Tri) : Prop := s.1 < t.1 \/ (s.1 = t.1 /\ s.2.2 + 2 <= t.2.1)
theorem fk : ∀ {p : Pic}, aH p -> (ah p).Pairwise Sep
 | [], _ => .nil
 | q :: p, c => by
  obtain ⟨⟨h1, _⟩, h2, h3⟩ := pcanon_cons.mp c
  rw [bx]
  refine List.pairwise_append.mpr ⟨?_, fk h3, fun s hs t ht => ?_⟩
  ·rw [List.pairwise_map]
   exact h1.2.imp fun h => .inr ⟨rfl, h⟩
  ·obtain ⟨a, _, rfl⟩ := List.mem_map.mp hs
   obtain ⟨g, hg, hb⟩ := List.mem_flatMap.mp ht
   obtain ⟨b, _, rfl⟩ := List.mem_map.mp hb
   exact .inl (h2 g hg)
theorem tp {p : Pic} (c : aH p) : (ah p).Nodup := by
 refine List.Pairwise.imp_of_mem ?_ (fk c)
 intro s t hs _ h e
 subst e
 have := cD c hs
 rcases h with h | h <;> lia
theorem mN {S : List Tri} (w : S.Pairwise Sep) {i j : Nat} (hi : i < j) (hj : j < S.length) : Sep (sAt S i) (sAt S j) := by
 have h1 := dF (S := S) (show i < S.length by lia)
 have h2 := dF hj
 obtain ⟨l1, e1⟩ := List.getElem?_eq_some_iff.mp h1
 obtain ⟨l2, e2⟩ := List.getElem?_eq_some_iff.mp h2
 have := List.pairwise_iff_getElem.mp w i j l1 l2 hi
 rw [e1, e2] at this
 exact this
theorem xN : ∀ {l m : List Tri}, (∀ t ∈ l, t.2.1 <= t.2.2) -> l.Pairwise Sep -> m.Pairwise Sep -> (∀ t, t ∈ l ↔ t ∈ m) -> l = m
 | [], [], _, _, _, _ => rfl
 | [], b :: m, _, _, _, h => by have := (h b).mpr List.mem_cons_self; cases this
 | a :: l, [], _, _, _, h => by have := (h a).mp List.mem_cons_self; cases this
 | a :: l, b :: m, g, hl, hm, h => by
  obtain ⟨l1, l2⟩ := List.pairwise_cons.mp hl
  obtain ⟨m1, m2⟩ := List.pairwise_cons.mp hm
  have ga := g a List.mem_cons_self
  have gb : b.2.1 <= b.2.2 := g b ((h b).mpr List.mem_cons_self)
  have e : a = b := by
   rcases List.mem_cons.mp ((h a).mp List.mem_cons_self) with e | ha
   ·exact e
   ·rcases List.mem_cons.mp ((h b).mpr List.mem_cons_self) with e | hb
    ·exact e.symm
    ·have h1 := m1 a ha
     have h2 := l1 b hb
     unfold Sep at h1 h2
     lia
  subst e
  have ih : l = m := xN (fun t ht => g t (List.mem_cons_of_mem _ ht)) l2 m2 fun t => by
   constructor
   ·intro ht
    rcases List.mem_cons.mp ((h t).mp (List.mem_cons_of_mem _ ht)) with e | k
    ·subst e
     have := l1 t ht
     unfold Sep at this
     lia
    ·exact k
   ·intro ht
    rcases List.mem_cons.mp ((h t).mpr (List.mem_cons_of_mem _ ht)) with e | k
    ·subst e
     have := m1 t ht
     unfold Sep at this
     lia
    ·exact k
  rw [ih]
theorem zQ (ts : List Tri) : (du ts).Pairwise fun p q => p.1 < q.1 \/ (p.1 = q.1 /\ p.2.1 <= q.2.1) := by
 have h := jC (ts.map bf)
 rw [<- kM, List.pairwise_map] at h
 refine h.imp fun {p q} e => ?_
 have e' : (if q.1 = p.1 then (if q.2.1 = p.2.1 then HT.bR [q.2.2] [p.2.2] else decide (q.2.1 < p.2.1)) else decide (q.1 < p.1)) = false := e
 by_cases hq : q.1 = p.1
 ·rw [if_pos hq] at e'
  by_cases hr : q.2.1 = p.2.1
  ·exact .inr ⟨hq.symm, by lia⟩
  ·rw [if_neg hr] at e'
   have := of_decide_eq_false e'
   exact .inr ⟨hq.symm, by lia⟩
 ·rw [if_neg hq] at e'
  have := of_decide_eq_false e'
  exact .inl (by lia)
theorem AN {p : Pic} (c : aH p) {ts : List Tri} (nd : ts.Nodup) (h : ∀ t ∈ ts, t ∈ ah p) : (du ts).Pairwise Sep := by
 have h1 := zQ ts
 have h2 : (du ts).Nodup := (b8 ts).nodup_iff.mpr nd
 refine List.Pairwise.imp_of_mem ?_ (h1.and h2)
 intro s t hs ht k
 have hs' := h s ((b8 ts).mem_iff.mp hs)
 have ht' := h t ((b8 ts).mem_iff.mp ht)
 have gs := cD c hs'
 have gt := cD c ht'
 obtain ⟨i, hi, ei⟩ := bD hs'
 obtain ⟨j, hj, ej⟩ := bD ht'
 have hij : i ≠ j := fun z => k.2 (by rw [<- ei, <- ej, z])
 by_cases hlt : i < j
 ·have := mN (fk c) hlt hj
  rw [ei, ej] at this
  exact this
 ·have := mN (fk c) (show j < i by lia) hi
  rw [ei, ej] at this
  have k1 := k.1
  unfold Sep at this
  lia
theorem Cq {p : Pic} (c : aH p) {ts us : List Tri} (nd : ts.Nodup) (h : ∀ t, t ∈ ts ↔ t ∈ us) (hu : us.Pairwise Sep) (hs : ∀ t ∈ us, t ∈ ah p) : du ts = us := by
 refine xN (fun t ht => ?_) (AN c nd fun t ht => hs t ((h t).mp ht)) hu fun t => ?_
 ·exact cD c (hs t ((h t).mp ((b8 ts).mem_iff.mp ht)))
 ·rw [(b8 ts).mem_iff]
  exact h t
theorem zd {us : List Tri} (g : ∀ t ∈ us, t.2.1 <= t.2.2) (hu : us.Pairwise Sep) : us.Nodup := by
 refine List.Pairwise.imp_of_mem ?_ hu
 intro s t hs _ h e
 subst e
 have := g s hs
 rcases h with h | h <;> lia
theorem lc (p : Pic) (h : (ah p).length <= 1000) : i0 [aw p] = some (.lst ((ah p).map av)) := by
 obtain ⟨ρ', k1, v2, v3, v4, v5, rfl⟩ := a5 (g := aO (am (ad 2) (am (ad 3) aN))) (m := dZ) pyD (fun pre ρ => ∃ v2 v3 v4 v5, ρ = [.sh (aw p), owl ((ah pre).map av), v2, v3, v4, v5]) p [.sh (aw p), .ow (.lst []), .un, .un, .un, .un] ⟨_, _, _, _, rfl⟩ (by
  rintro pre q post _ e ⟨v2, v3, v4, v5, rfl⟩
  have hlen : (ah pre).length + q.2.length <= 1000 := by
   rw [e, fG, bx, List.length_append, List.length_append, List.length_map] at h
   lia
  obtain ⟨ρ2, k2, w4, w5, rfl⟩ := a5 (g := aO (am (ad 4) (am (ad 5) aN))) (m := eo) prD (fun pre2 ρ => ∃ v4 v5, ρ = [.sh (aw p), owl ((ah pre ++ pre2.map fun s => (q.1, s)).map av), .sh (.int q.1), .sh (cm q.2), v4, v5]) q.2 [.sh (aw p), owl ((ah pre).map av), .sh (.int q.1), .sh (cm q.2), v4, v5] ⟨v4, v5, by simp⟩ (by
   rintro pre2 s post2 _ e2 ⟨w4, w5, rfl⟩
   have hl : (ah pre ++ pre2.map fun s => (q.1, s)).length < LIM := df (by
    have := congrArg List.length e2
    rw [List.length_append] at this
    rw [List.length_append, List.length_map]
    lia)
   refine ⟨[.sh (aw p), owl ((ah pre ++ pre2.map fun s => (q.1, s)).map av), .sh (.int q.1), .sh (cm q.2), .sh (.int s.1), .sh (.int s.2)], [.sh (aw p), owl ((ah pre ++ (pre2 ++ [s]).map fun s => (q.1, s)).map av), .sh (.int q.1), .sh (cm q.2), .sh (.int s.1), .sh (.int s.2)], rfl, .inl ?_, _, _, rfl⟩
   have e3 : (ah pre ++ (pre2 ++ [s]).map fun s => (q.1, s)).map av = (ah pre ++ pre2.map fun s => (q.1, s)).map av ++ [av (q.1, s)] := by simp
   rw [e3]
   generalize (ah pre ++ pre2.map fun s => (q.1, s)) = ts at hl
   simp [eo, hl])
  have es : ah (pre ++ [q]) = ah pre ++ q.2.map fun s => (q.1, s) := by rw [fG, bx]; simp [ah]
  refine ⟨[.sh (aw p), owl ((ah pre).map av), .sh (.int q.1), .sh (cm q.2), v4, v5], [.sh (aw p), owl ((ah (pre ++ [q])).map av), .sh (.int q.1), .sh (cm q.2), w4, w5], rfl, .inl ?_, _, _, _, _, rfl⟩
  rw [es]
  generalize (ah pre ++ q.2.map fun s => (q.1, s)) = ts at k2
  simp [dZ, mh, k2])
 simp [i0, gY, fnO, fH, mh, k1]
theorem sF : ∀ (post pre : List Tri), (pre ++ post).Pairwise Sep -> (∀ t ∈ pre ++ post, t.2.1 <= t.2.2) -> (∀ g ∈ aV pre, bp g.2 /\ ∀ q ∈ g.2, ((g.1, q) : Tri) ∈ pre) -> ∀ g ∈ aV (pre ++ post), bp g.2 /\ ∀ q ∈ g.2, ((g.1, q) : Tri) ∈ pre ++ post
 | [], pre, _, _, h => by rw [List.append_nil]; exact h
 | t :: post, pre, w, gd, h => by
  have e : pre ++ t :: post = (pre ++ [t]) ++ post := by simp
  rw [e] at w gd ⊢
  refine sF post (pre ++ [t]) w gd fun g hg => ?_
  have w1 := (List.pairwise_append.mp (List.pairwise_append.mp w).1).2.2
  have gt := gd t (by simp)
  rw [iR] at hg
  rcases List.eq_nil_or_concat (aV pre) with e0 | ⟨gs, g0, e0⟩
  ·rw [e0, tw, List.mem_singleton] at hg
   subst hg
   refine ⟨canon_cons.mpr ⟨gt, fun _ h => (by cases h), cM⟩, fun q hq => ?_⟩
   rw [List.mem_singleton.mp hq]
   simp
  ·rw [List.concat_eq_append] at e0
   rw [e0] at hg h
   rw [gk] at hg
   by_cases hc : g0.1 = t.1
   ·rw [if_pos hc] at hg
    rcases List.mem_append.mp hg with hg | hg
    ·obtain ⟨k1, k2⟩ := h g (by simp [hg])
     exact ⟨k1, fun q hq => List.mem_append_left _ (k2 q hq)⟩
    ·rw [List.mem_singleton] at hg
     subst hg
     obtain ⟨k1, k2⟩ := h g0 (by simp)
     refine ⟨canon_snoc.mpr ⟨k1, gt, fun q hq => ?_⟩, fun q hq => ?_⟩
     ·have := w1 _ (k2 q hq) t (by simp)
      unfold Sep at this
      dsimp only at this
      lia
     ·rcases List.mem_append.mp hq with hq | hq
      ·exact List.mem_append_left _ (k2 q hq)
      ·rw [List.mem_singleton.mp hq, hc]
       simp
   ·rw [if_neg hc] at hg
    rcases List.mem_append.mp hg with hg | hg
    ·obtain ⟨k1, k2⟩ := h g hg
     exact ⟨k1, fun q hq => List.mem_append_left _ (k2 q hq)⟩
    ·rw [List.mem_singleton] at hg
     subst hg
     refine ⟨canon_cons.mpr ⟨gt, fun _ h => (by cases h), cM⟩, fun q hq => ?_⟩
     rw [List.mem_singleton.mp hq]
     simp
theorem BI {us : List Tri} (w : us.Pairwise Sep) (g : ∀ t ∈ us, t.2.1 <= t.2.2) : aH (aV us) /\ ∀ x y, eA (aV us) x y ↔ jt us x y := by
 have o := j8 g (w.imp fun {s t} h => by unfold Sep at h; lia)
 have k := sF us [] w g (fun g hg => by cases hg)
 exact ⟨⟨fun q hq => ⟨(k q hq).1, (o.ne q hq).1⟩, o.up⟩, o.mem⟩
theorem jQ {ts us : List Tri} (h : ∀ t, t ∈ ts ↔ t ∈ us) (w : us.Pairwise Sep) (g : ∀ t ∈ us, t.2.1 <= t.2.2) : il ts = aV us := by
 obtain ⟨c, m⟩ := BI w g
 refine oZ c fun x y => ?_
 rw [m x y]
 exact ⟨fun ⟨t, ht, k⟩ => ⟨t, (h t).mp ht, k⟩, fun ⟨t, ht, k⟩ => ⟨t, (h t).mpr ht, k⟩⟩
theorem Ba (s0 : Sl) (gs : Pic) (t : Tri) (h : gs.length <= 1000) (hg : ∀ g ∈ gs, g.2.length <= 1000) : bg [s0, owl (gs.map pyD), .sh (.int t.1), .sh (.int t.2.1), .sh (.int t.2.2)] = some (.nx [s0, owl ((gG gs t).map pyD), .sh (.int t.1), .sh (.int t.2.1), .sh (.int t.2.2)]) := by
 rcases List.eq_nil_or_concat gs with rfl | ⟨gs0, g, rfl⟩
 ·simp [bg, gG, prD]
 ·rw [List.concat_eq_append] at *
  rw [gk]
  have hl : gs0.length + 1 <= 1000 := by simpa using h
  have hlim : gs0.length + 1 < LIM := df (by lia)
  have hg2 : g.2.length + 1 <= LIM := aS (by have := hg g (by simp); lia)
  have at1 : atI (gs0.map pyD ++ [pyD g]) (-1) = some (pyD g) := e7 _ _
  have hpos : (0 : Int) < (gs0.length : Int) + 1 := by lia
  by_cases hc : g.1 = t.1
  ·simp [bg, at1, hc, hg2, hpos, ie, cO, m6]
  ·simp [bg, at1, hc, hlim, hpos, m6]
theorem ue {p : Pic} (c : aH p) (hn : (ah p).length <= 400) {us : List Tri} (hu : us.Pairwise Sep) (hs : ∀ t ∈ us, t ∈ ah p) : ft [.lst (us.map av)] = some (aw (aV us)) := by
 have g : ∀ t ∈ us, t.2.1 <= t.2.2 := fun t ht => cD c (hs t ht)
 have nd := zd g hu
 have hl := nv nd hs
 have e1 := Cq c nd (fun _ => Iff.rfl) hu hs
 have hb := lO us (by lia)
 rw [e1] at hb
 obtain ⟨ρ', k1, v2, v3, v4, rfl⟩ := a5 (g := aO (am (ad 2) (am (ad 3) (am (ad 4) aN)))) (m := bg) av (fun pre ρ => ∃ v2 v3 v4, ρ = [.sh (.lst (us.map av)), owl ((aV pre).map pyD), v2, v3, v4]) us [.sh (.lst (us.map av)), .ow (.lst []), .un, .un, .un] ⟨_, _, _, rfl⟩ (by
  rintro pre t post _ e ⟨v2, v3, v4, rfl⟩
  have hp : pre.length <= 400 := by
   have := congrArg List.length e
   rw [List.length_append] at this
   lia
  have gl := mW pre
  have gp : GOk (aV pre) pre := j8 (fun s hs => g s (by rw [e]; simp [hs])) (by
   rw [e] at hu
   exact (List.pairwise_append.mp hu).1.imp fun {s t} h => by unfold Sep at h; lia)
  have gg : ∀ g ∈ aV pre, g.2.length <= 1000 := fun g hg => by
   have h1 := gp.len
   have h2 : g.2.length <= ((aV pre).map fun g => g.2.length).sum := iX (List.mem_map.mpr ⟨g, hg, rfl⟩)
   lia
  exact ⟨_, _, rfl, .inl (Ba _ (aV pre) t (by lia) gg), .sh (.int t.1), .sh (.int t.2.1), .sh (.int t.2.2), by rw [iR]⟩)
 simp [ft, eK, fnO, dH, hb, mh, k1]
theorem pb (W : Wk) (h : W.length <= 400) : aW [bE W] = some (aw (il (W.map (·.1)))) := by
 have hl : W.length <= LIM := aS (by lia)
 have hp := jj (W.map (·.1)) (by rw [List.length_map]; lia)
 have hc : cR (aO (am (ad 0) (am (ad 1) (am (ad 2) (am (ad 3) aN))))) ez (aP (ac (aq 0) (ac (aq 1) (ac (aq 2) ap)))) [.un, .un, .un, .un] (W.map bn) = some ((W.map (·.1)).map av) := by
  rw [cL bn (fun w => av w.1) W fun w _ => by simp [gR], List.map_map]
  rfl
 simp only [List.map_map] at hp hc
 simp [aW, b9, fnO, bJ, mh, hl, hc, hp]
def In (t : Tri) (x y : Int) : Prop := t.1 = y /\ t.2.1 <= x /\ x <= t.2.2
instance (t : Tri) (x y : Int) : Decidable (In t x y) := by unfold In; infer_instance
theorem AI {S : List Tri} (w : S.Pairwise Sep) {i j : Nat} (hi : i < S.length) (hj : j < S.length) {x y : Int} (h1 : In (sAt S i) x y) (h2 : In (sAt S j) x y) : i = j := by
 have key : ∀ {i j : Nat}, i < j -> j < S.length -> In (sAt S i) x y -> In (sAt S j) x y -> False := fun hij hj h1 h2 => by
  have := mN w hij hj
  unfold Sep at this
  unfold In at h1 h2
  lia
 by_cases h : i = j
 ·exact h
 ·by_cases hlt : i < j
  ·exact (key hlt hj h1 h2).elim
  ·exact (key (by lia) hi h2 h1).elim
theorem jn (p : Pic) (c : aH p) (hp : p.length <= 400) (hn : (ah p).length <= 400) (x y : Int) :
  (∃ t ∈ ah p, In t x y /\ aY [aw p, .int x, .int y] = some (av t)) \/ ((∀ t ∈ ah p, ¬ In t x y) /\ aY [aw p, .int x, .int y] = some .non) := by
 have h1 := jJ p y c (by lia)
 have cr := fb c y
 have hl : (bo p y).length <= 400 := mL (fun q hq => Nat.le_trans (eY hq) hn) y
 have pw : (bo p y).Pairwise fun a b => a.1 < b.1 := by
  refine List.Pairwise.imp_of_mem ?_ cr.2
  intro p q hp _ h
  have := cr.1 p hp
  lia
 obtain ⟨n, a1, b1, c1⟩ := c5 (bo p y) (·.1) prD x (fun a => by simp) (by lia) pw
 have at_ : ∀ t ∈ ah p, In t x y -> ∃ i, (bo p y)[i]? = some t.2 /\ i < n := fun t ht hin => by
  have hm : t.2 ∈ bo p y := (j6 c y t.2).mpr (by rw [<- hin.1]; exact ht)
  obtain ⟨i, hi⟩ := List.getElem?_of_mem hm
  exact ⟨i, hi, (c1 i _ hi).mp hin.2.1⟩
 have h3 : (1 + 2 : Nat) <= LIM := aS (by lia)
 by_cases hn0 : n = 0
 ·refine .inr ⟨fun t ht hin => ?_, ?_⟩
  ·obtain ⟨i, _, hi⟩ := at_ t ht hin
   lia
  ·subst hn0
   simp [aY, dw, fnO, c7, h1, b1]
 ·have hlt : n - 1 < (bo p y).length := by lia
  obtain ⟨q, hq⟩ : ∃ q, (bo p y)[n - 1]? = some q := ⟨_, List.getElem?_eq_getElem hlt⟩
  have hpos : (0 : Int) < n := by lia
  have hposN : 0 < n := by lia
  have en : (n : Int) - 1 = ((n - 1 : Nat) : Int) := by lia
  have ea : atI ((bo p y).map prD) ((n : Int) - 1) = some (prD q) := by rw [en]; exact Au hq
  have hq1 := (c1 (n - 1) q hq).mpr (by lia)
  by_cases hx : x <= q.2
  ·refine .inl ⟨(y, q), (j6 c y q).mp (List.mem_of_getElem? hq), ⟨rfl, hq1, hx⟩, ?_⟩
   simp [aY, dw, fnO, c7, h1, b1, hpos, hposN, ea, hx, cO, h3]
  ·refine .inr ⟨fun t ht hin => ?_, ?_⟩
   ·obtain ⟨i, hi, hin2⟩ := at_ t ht hin
    by_cases e : i = n - 1
    ·subst e
     rw [hq] at hi
     cases hi
     exact hx hin.2.2
    ·obtain ⟨l1, e1⟩ := List.getElem?_eq_some_iff.mp hi
     obtain ⟨l2, e2⟩ := List.getElem?_eq_some_iff.mp hq
     have h4 := List.pairwise_iff_getElem.mp cr.2 i (n - 1) l1 l2 (by lia)
     rw [e1, e2] at h4
     have := hin.2.2
     lia
   ·simp [aY, dw, fnO, c7, h1, b1, hpos, hposN, ea, hx]
theorem rJ (S : List Tri) (hS : S.length <= 400) (c : Int) : ∃ x y : Int, oB [.lst (S.map av), .int c] = some (.tup [.int x, .int y]) := by
 by_cases h0 : S.length = 0
 ·exact ⟨_, _, by simp [oB, lB, fnO, mE, h0]; exact ⟨rfl, rfl⟩⟩
 ·have hpos : (0 : Int) < (S.length : Int) := by lia
  have hne : ¬ (S.length : Int) = 0 := by lia
  have e1 := Int.emod_nonneg c (show (S.length : Int) ≠ 0 by lia)
  have e2 := Int.emod_lt_of_pos c hpos
  obtain ⟨k, hk⟩ : ∃ k : Nat, c % (S.length : Int) = (k : Int) := ⟨(c % (S.length : Int)).toNat, by lia⟩
  have hkl : k < S.length := by lia
  have ea : atI (S.map av) (c % (S.length : Int)) = some (av (sAt S k)) := by
   rw [hk]
   exact cB (by rw [List.getElem?_map, dF hkl]; rfl)
  generalize sAt S k = t at ea
  have e6 : 0 <= c / 64 % 6 /\ c / 64 % 6 < 6 := by lia
  obtain ⟨j, hj⟩ : ∃ j : Nat, c / 64 % 6 = (j : Int) := ⟨(c / 64 % 6).toNat, by lia⟩
  have hj6 : j < 6 := by lia
  obtain ⟨x, y, hat⟩ : ∃ x y : Int, atI [D.tup [.int t.2.1, .int t.1], .tup [.int t.2.2, .int t.1], .tup [.int t.2.1, .int t.1], .tup [.int t.2.2, .int t.1], .tup [.int (t.2.2 + 1), .int t.1], .tup [.int t.2.1, .int (t.1 + 1)]] (c / 64 % 6) = some (.tup [.int x, .int y]) := by
   rw [hj]
   match j, hj6 with
   | 0, _ => exact ⟨_, _, rfl⟩
   | 1, _ => exact ⟨_, _, rfl⟩
   | 2, _ => exact ⟨_, _, rfl⟩
   | 3, _ => exact ⟨_, _, rfl⟩
   | 4, _ => exact ⟨_, _, rfl⟩
   | 5, _ => exact ⟨_, _, rfl⟩
  refine ⟨x, y, ?_⟩
  have hS0 : ¬ S = [] := fun e => h0 (by rw [e]; rfl)
  have hmod : jc (.int c) (.int S.length) = some (.int (c % (S.length : Int))) := cZ hpos
  simp [oB, lB, fnO, mE, h0, hne, hS0, hmod, ea, hat]
def eE (S : List Tri) (M : Nat -> Nat) (H : Nat -> Bool) : List Tri := ((List.range S.length).filter fun j => H (M j)).map (sAt S)
theorem dueH_mem {S : List Tri} {M : Nat -> Nat} {H : Nat -> Bool} {t : Tri} : t ∈ eE S M H ↔ ∃ j, j < S.length /\ H (M j) = true /\ sAt S j = t := by
 unfold eE
 rw [List.mem_map]
 constructor
 ·rintro ⟨j, hj, e⟩
  rw [List.mem_filter, List.mem_range] at hj
  exact ⟨j, hj.1, hj.2, e⟩
 ·rintro ⟨j, hj, h, e⟩
  exact ⟨j, by rw [List.mem_filter, List.mem_range]; exact ⟨hj, h⟩, e⟩
theorem l7 {S : List Tri} (w : S.Pairwise Sep) (M : Nat -> Nat) (H : Nat -> Bool) : (eE S M H).Pairwise Sep := by
 unfold eE
 rw [List.pairwise_map]
 refine List.Pairwise.imp_of_mem ?_ (List.Pairwise.sublist List.filter_sublist List.pairwise_lt_range)
 intro i j _ hj hij
 exact mN w hij (List.mem_range.mp (List.mem_filter.mp hj).1)
def eI (S : List Tri) (M : Nat -> Nat) (c : Int × Int) : List Nat := ((List.range S.length).filter fun k => decide (In (sAt S k) c.1 c.2)).map M
def cu (S : List Tri) (M : Nat -> Nat) (cs : R) (m : Nat) : Bool := decide (m ∈ cs.flatMap (eI S M))
theorem yP {S : List Tri} {M : Nat -> Nat} {cs : R} {m : Nat} : cu S M cs m = true ↔ ∃ c ∈ cs, ∃ k, k < S.length /\ In (sAt S k) c.1 c.2 /\ M k = m := by
 unfold cu eI
 rw [decide_eq_true_iff, List.mem_flatMap]
 constructor
 ·rintro ⟨c, hc, h⟩
  obtain ⟨k, hk, e⟩ := List.mem_map.mp h
  rw [List.mem_filter, List.mem_range] at hk
  exact ⟨c, hc, k, hk.1, of_decide_eq_true hk.2, e⟩
 ·rintro ⟨c, hc, k, hk, hi, e⟩
  exact ⟨c, hc, List.mem_map.mpr ⟨k, by rw [List.mem_filter, List.mem_range]; exact ⟨hk, decide_eq_true hi⟩, e⟩⟩
theorem D0 (t : Tri) : atI [D.int t.1, .int t.2.1, .int t.2.2] 0 = some (.int t.1) /\ atI [D.int t.1, .int t.2.1, .int t.2.2] 1 = some (.int t.2.1) /\ atI [D.int t.1, .int t.2.1, .int t.2.2] 2 = some (.int t.2.2) := ⟨rfl, rfl, rfl⟩
theorem rD (S : List Tri) (hS : S.length <= 400) (M : Nat -> Nat) (s2 : Sl) (hs : List Nat) (hl : hs.length <= 20000) (c : Int × Int) (v6 : Sl) :
  ∃ v6', eD [.sh (.lst (S.map av)), .sh (ba S.length M), s2, owl (hs.map fun m : Nat => D.int (m : Int)), .sh (.int c.1), .sh (.int c.2), v6] = some (.nx [.sh (.lst (S.map av)), .sh (ba S.length M), s2, owl ((hs ++ eI S M c).map fun m : Nat => D.int (m : Int)), .sh (.int c.1), .sh (.int c.2), v6']) := by
 have hr := lz S.length (by lia)
 obtain ⟨ρ', k1, v6', rfl⟩ := a5 (g := ad 6) (m := cz) (fun i : Nat => D.int (i : Int)) (fun pre ρ => ∃ v6' : Sl, ρ = [.sh (.lst (S.map av)), .sh (ba S.length M), s2, owl ((hs ++ (pre.filter fun k => decide (In (sAt S k) c.1 c.2)).map M).map fun m : Nat => D.int (m : Int)), .sh (.int c.1), .sh (.int c.2), v6']) (List.range S.length) [.sh (.lst (S.map av)), .sh (ba S.length M), s2, owl (hs.map fun m : Nat => D.int (m : Int)), .sh (.int c.1), .sh (.int c.2), v6] ⟨v6, by simp⟩ fun pre k post ρ e hpt0 => by
  obtain ⟨v6', hρ⟩ := hpt0
  subst hρ
  obtain ⟨hk, hkl⟩ := l5 e
  have ea : atI (S.map av) (k : Int) = some (av (sAt S k)) := cB (by rw [List.getElem?_map, dF hkl]; rfl)
  have em : atI ((List.range S.length).map fun i => D.int (M i : Int)) (k : Int) = some (.int (M k : Int)) := cB (by rw [List.getElem?_map, List.getElem?_range hkl]; rfl)
  have hpl : pre.length < S.length := by lia
  have hL : (hs ++ (pre.filter fun k => decide (In (sAt S k) c.1 c.2)).map M).length < LIM := by
   refine Nat.lt_of_lt_of_le (show _ < 100000 from ?_) (aS (Nat.le_refl _))
   have := List.length_filter_le (fun k => decide (In (sAt S k) c.1 c.2)) pre
   rw [List.length_append, List.length_map]
   lia
  have eh : hs ++ ((pre ++ [k]).filter fun k => decide (In (sAt S k) c.1 c.2)).map M = hs ++ (pre.filter fun k => decide (In (sAt S k) c.1 c.2)).map M ++ ([k].filter fun k => decide (In (sAt S k) c.1 c.2)).map M := by rw [List.filter_append, List.map_append, List.append_assoc]
  rw [eh]
  generalize hs ++ (pre.filter fun k => decide (In (sAt S k) c.1 c.2)).map M = zs at *
  obtain ⟨t1, t2, t3⟩ := D0 (sAt S k)
  have ef : ([k].filter fun k => decide (In (sAt S k) c.1 c.2)).map M = if In (sAt S k) c.1 c.2 then [M k] else [] := by
   by_cases z : In (sAt S k) c.1 c.2 <;> simp [z]
  rw [ef]
  clear ef eh
  generalize sAt S k = t at *
  by_cases hi : In t c.1 c.2
  ·refine ⟨_, _, rfl, .inl ?_, .sh (.int (k : Int)), rfl⟩
   obtain ⟨i1, i2, i3⟩ := id hi
   have hL2 : zs.length < LIM := hL
   simp [cz, ea, em, t1, t2, t3, i1, i2, i3, hL2, hi]
  ·refine ⟨_, _, rfl, .inl ?_, .sh (.int (k : Int)), rfl⟩
   rw [if_neg hi]
   unfold In at hi
   by_cases i1 : t.1 = c.2
   ·by_cases i2 : t.2.1 <= c.1
    ·have i3 : ¬ c.1 <= t.2.2 := fun z => hi ⟨i1, i2, z⟩
     simp [cz, ea, em, t1, t2, t3, i1, i2, i3]
    ·simp [cz, ea, em, t1, t2, t3, i1, i2]
   ·simp [cz, ea, em, t1, t2, t3, i1]
 refine ⟨v6', ?_⟩
 unfold eD
 have hb : nz (ac (xCB eF (ac (ag 0) ap)) ap) [.sh (.lst (S.map av)), .sh (ba S.length M), s2, owl (hs.map fun m : Nat => D.int (m : Int)), .sh (.int c.1), .sh (.int c.2), v6] = some ((List.range S.length).map fun i : Nat => D.int (i : Int)) := by
  simp [hr]
 unfold eG
 rw [hb]
 exact k1
theorem AW (S : List Tri) (M : Nat -> Nat) (c : Int × Int) : (eI S M c).length <= S.length := by
 unfold eI
 rw [List.length_map]
 have := List.length_filter_le (fun k => decide (In (sAt S k) c.1 c.2)) (List.range S.length)
 rw [List.length_range] at this
 exact this
theorem z9 (m : Int) (ns : List Int) : dIn false (.int m) (.lst (ns.map D.int)) = some (.bl (decide (m ∈ ns))) := by
 show (bG (ns.map D.int)).map _ = _
 rw [jz]
 show some (D.bl (ns.contains m)) = _
 by_cases h : m ∈ ns
 ·rw [decide_eq_true h, List.contains_iff_mem.mpr h]
 ·rw [decide_eq_false h]
  cases q : ns.contains m with
  | false => rfl
  | true => exact absurd (List.contains_iff_mem.mp q) h
theorem ii {p : Pic} (cp : aH p) (hn : (ah p).length <= 400) (M : Nat -> Nat) (cs : R) (hc : cs.length <= 20) : gf [.lst ((ah p).map av), ba (ah p).length M, .lst (cs.map prD)] = some (aw (aV (eE (ah p) M (cu (ah p) M cs)))) := by
 have hr := lz (ah p).length (by lia)
 have hput := ue cp hn (l7 (fk cp) M (cu (ah p) M cs)) fun t ht => by
  obtain ⟨j, hj, _, e⟩ := dueH_mem.mp ht
  rw [<- e]
  exact bT hj
 generalize ah p = S at *
 obtain ⟨ρ', k1, v4, v5, v6, rfl⟩ := a5 (g := aO (am (ad 4) (am (ad 5) aN))) (m := eD) prD (fun pre ρ => ∃ v4 v5 v6 : Sl, ρ = [.sh (.lst (S.map av)), .sh (ba S.length M), .sh (.lst (cs.map prD)), owl ((pre.flatMap (eI S M)).map fun m : Nat => D.int (m : Int)), v4, v5, v6]) cs [.sh (.lst (S.map av)), .sh (ba S.length M), .sh (.lst (cs.map prD)), .ow (.lst []), .un, .un, .un] ⟨.un, .un, .un, rfl⟩ fun pre c post ρ e hpt0 => by
  obtain ⟨v4, v5, v6, hρ⟩ := hpt0
  subst hρ
  have hpl : pre.length < cs.length := by rw [e, List.length_append, List.length_cons]; lia
  have hfl : ∀ l : R, (l.flatMap (eI S M)).length <= S.length * l.length := fun l => by
   induction l with
   | nil => simp
   | cons d l ih =>
    rw [List.flatMap_cons, List.length_append, List.length_cons, Nat.mul_succ]
    have := AW S M d
    lia
  have h1 := hfl pre
  have h2 : S.length * pre.length <= 400 * 20 := Nat.mul_le_mul hn (by lia)
  obtain ⟨v6', hb⟩ := rD S hn M (.sh (.lst (cs.map prD))) (pre.flatMap (eI S M)) (by lia) c v6
  refine ⟨_, _, rfl, .inl hb, .sh (.int c.1), .sh (.int c.2), v6', ?_⟩
  rw [List.flatMap_append]
  simp
 have hcc : cR (ad 0) (xB (xOp (dIn false) (xOp dIx (ag 3) (ag 0)) (ag 2))) (xOp dIx (ag 1) (ag 0)) [.un, .sh (.lst (S.map av)), .sh (.lst ((cs.flatMap (eI S M)).map fun m : Nat => D.int (m : Int))), .sh (ba S.length M)] ((List.range S.length).map fun i : Nat => D.int (i : Int)) = some ((eE S M (cu S M cs)).map av) := by
  have e1 : (eE S M (cu S M cs)).map av = (List.range S.length).filterMap fun j => if cu S M cs (M j) then some (av (sAt S j)) else none := by
   unfold eE
   generalize List.range S.length = l
   induction l with
   | nil => rfl
   | cons j l ih =>
    rw [List.filterMap_cons, List.filter_cons]
    cases cu S M cs (M j) <;> simp [ih]
  rw [e1]
  refine gx (fun i : Nat => D.int (i : Int)) _ _ fun k hk => ?_
  have hkl := List.mem_range.mp hk
  have ea : atI (S.map av) (k : Int) = some (av (sAt S k)) := cB (by rw [List.getElem?_map, dF hkl]; rfl)
  have em : atI ((List.range S.length).map fun i => D.int (M i : Int)) (k : Int) = some (.int (M k : Int)) := cB (by rw [List.getElem?_map, List.getElem?_range hkl]; rfl)
  have hd : dIn false (.int (M k : Int)) (.lst ((cs.flatMap (eI S M)).map fun m : Nat => D.int (m : Int))) = some (.bl (cu S M cs (M k))) := by
   have e2 : ((cs.flatMap (eI S M)).map fun m : Nat => D.int (m : Int)) = ((cs.flatMap (eI S M)).map fun m : Nat => (m : Int)).map D.int := by rw [List.map_map]; rfl
   rw [e2, z9]
   unfold cu
   congr 2
   rw [decide_eq_decide, List.mem_map]
   constructor
   ·rintro ⟨m, hm, e⟩
    rw [show m = M k by lia] at hm
    exact hm
   ·exact fun h => ⟨M k, h, rfl⟩
  cases q : cu S M cs (M k) <;> rw [q] at hd <;> simp [gR, ea, em, hd]
 have hL : S.length <= LIM := aS (by lia)
 have hLr : (List.range S.length).length <= LIM := by rw [List.length_range]; exact hL
 generalize (cs.flatMap (eI S M)).map (fun m : Nat => D.int (m : Int)) = Z at *
 simp [gf, jT, fnO, iI, mh, k1, frz, hr, hL, hcc, hput]
theorem qA : aV [] = [] := rfl
theorem vG {p : Pic} (c : aH p) {M : Nat -> Nat} (o : MOk (ah p) (fun j k => j < k /\ k < (ah p).length) M) {H : Nat -> Bool} {Q : Tri -> Prop} (hH : ∀ j, j < (ah p).length -> (H (M j) = true ↔ ∃ k, k < (ah p).length /\ M k = M j /\ Q (sAt (ah p) k))) (t : Tri) :
  t ∈ eE (ah p) M H ↔ ∃ s ∈ ah p, Q s /\ Con (ah p) s t := by
 have nd := tp c
 rw [dueH_mem]
 constructor
 ·rintro ⟨j, hj, h, e⟩
  obtain ⟨k, hk, hm, q⟩ := (hH j hj).mp h
  exact ⟨_, bT hk, q, by rw [<- e]; exact (nw nd o hk hj).mp hm⟩
 ·rintro ⟨s, hs, q, h⟩
  obtain ⟨k, hk, e⟩ := bD hs
  obtain ⟨j, hj, e2⟩ := bD (h.mem hs)
  refine ⟨j, hj, (hH j hj).mpr ⟨k, hk, ?_, by rw [e]; exact q⟩, e2⟩
  exact (nw nd o hk hj).mpr (by rw [e, e2]; exact h)
theorem u4 {S : List Tri} {M : Nat -> Nat} {cs : R} (j : Nat) : cu S M cs (M j) = true ↔ ∃ k, k < S.length /\ M k = M j /\ ∃ c ∈ cs, In (sAt S k) c.1 c.2 := by
 rw [yP]
 constructor
 ·rintro ⟨c, hc, k, hk, hi, e⟩
  exact ⟨k, hk, e, c, hc, hi⟩
 ·rintro ⟨k, hk, e, c, hc, hi⟩
  exact ⟨c, hc, k, hk, hi, e⟩
theorem ni {p : Pic} (c : aH p) (M : Nat -> Nat) (H : Nat -> Bool) : ∀ t ∈ eE (ah p) M H, t.2.1 <= t.2.2 := fun t ht => by
 obtain ⟨j, hj, _, e⟩ := dueH_mem.mp ht
 rw [<- e]
 exact cD c (bT hj)
theorem q9 (p : Pic) (c : aH p) (hp : p.length <= 160) (hn : (ah p).length <= 160) (M : Nat -> Nat) (o : MOk (ah p) (fun j k => j < k /\ k < (ah p).length) M) (x y : Int) :
  iL [aw p, .int x, .int y] = some (aw (aV (eE (ah p) M (cu (ah p) M [(x, y)])))) := by
 have hc := vG c o (H := cu (ah p) M [(x, y)]) (Q := fun t => In t x y) fun j hj => by
  rw [u4]
  simp
 rcases jn p c (by lia) (by lia) x y with ⟨s, hs, hin, e⟩ | ⟨hno, e⟩
 ·obtain ⟨W, hw, ow⟩ := jG p c (by lia) (by lia) s hs
  have hl := ow.toWOk.le hs
  have hpp := pb W (by lia)
  have hg : il (W.map (·.1)) = aV (eE (ah p) M (cu (ah p) M [(x, y)])) := jQ (fun t => by
   rw [ow.all t, hc t]
   constructor
   ·exact fun h => ⟨s, hs, hin, h⟩
   ·rintro ⟨s', hs', hin', h⟩
    obtain ⟨i, hi, ei⟩ := bD hs
    obtain ⟨i', hi', ei'⟩ := bD hs'
    have := AI (fk c) hi hi' (by rw [ei]; exact hin) (by rw [ei']; exact hin')
    subst this
    rw [<- ei, ei']
    exact h) (l7 (fk c) M _) (ni c M _)
  rw [hg] at hpp
  generalize aw (aV (eE (ah p) M (cu (ah p) M [(x, y)]))) = G at *
  have e' : aY [aw p, .int x, .int y] = some (.tup [.int s.1, .int s.2.1, .int s.2.2]) := e
  have hw' : bX [aw p, .tup [.int s.1, .int s.2.1, .int s.2.2], .int 1] = some (.lst (W.map bn)) := hw
  have hpp' : aW [.lst (W.map bn)] = some G := hpp
  generalize aw p = PP at *
  generalize W.map bn = WW at *
  simp [iL, gL, fnO, f8, e', Br, kl, hw', hpp']
 ·have h0 : eE (ah p) M (cu (ah p) M [(x, y)]) = [] := by
   refine List.eq_nil_iff_forall_not_mem.mpr fun t ht => ?_
   obtain ⟨s, hs, hin, _⟩ := (hc t).mp ht
   exact hno s hs hin
  rw [h0, qA]
  generalize aw p = PP at *
  have l0 : 0 <= LIM := Nat.zero_le _
  simp [iL, gL, fnO, f8, e, Br, kl]
theorem BJ (p q : Pic) : (ah (cmP p q)).length <= (ah p).length + p.length * (ah q).length := by
 have h1 : ∀ l : Pic, (ah (l.filter p7)).length <= (ah l).length := fun l => by
  induction l with
  | nil => exact Nat.le_refl _
  | cons g l ih =>
   rw [List.filter_cons]
   split
   ·rw [bx, bx, List.length_append, List.length_append]; lia
   ·rw [bx, List.length_append]; lia
 have h2 : ∀ l : Pic, (ah (l.map fun s => (s.1, c0 s.2 (bo q s.1)))).length <= (ah l).length + l.length * (ah q).length := fun l => by
  induction l with
  | nil => exact Nat.zero_le _
  | cons g l ih =>
   rw [List.map_cons, bx, bx, List.length_append, List.length_append, List.length_map, List.length_map, List.length_cons, Nat.succ_mul]
   have a1 := uR _ g.2 (bo q g.1) rfl
   have a2 := ku (p := q) g.1
   dsimp only
   lia
 unfold cmP uL
 exact Nat.le_trans (h1 _) (h2 p)
theorem z7 {p : Pic} (c : aH p) {s : Tri} (hs : s ∈ ah p) {a x y : Int} (hin : In s x y) (h : ∀ u, a <= u -> u <= x -> eA p u y) (hax : a <= x) : In s a y := by
 refine ⟨hin.1, ?_, Int.le_trans hax hin.2.2⟩
 by_cases hlt : s.2.1 <= a
 ·exact hlt
 ·obtain ⟨t, ht, e1, e2, e3⟩ := (eB p (s.2.1 - 1) y).mpr (h (s.2.1 - 1) (by lia) (by have := hin.2.1; lia))
  obtain ⟨i, hi, ei⟩ := bD hs
  obtain ⟨j, hj, ej⟩ := bD ht
  have hg := cD c hs
  have hy := hin.1
  by_cases hij : i = j
  ·subst hij
   rw [ei] at ej
   subst ej
   lia
  ·by_cases hl : i < j
   ·have := mN (fk c) hl hj
    rw [ei, ej] at this
    unfold Sep at this
    lia
   ·have := mN (fk c) (show j < i by lia) hi
    rw [ei, ej] at this
    unfold Sep at this
    lia
theorem ET {p q : Pic} (cp : aH p) (cq : aH q) (s : Tri) (hs : s ∈ ah p) : (∃ t ∈ ah (cmP p q), In s t.2.1 t.1) ↔ ∃ x y, In s x y /\ eA q x y := by
 have cc := sQ cp cq
 constructor
 ·rintro ⟨t, ht, hin⟩
  have hg := cD cc ht
  exact ⟨t.2.1, t.1, hin, ((oJ cp cq _ _).mp ((eB _ _ _).mp ⟨t, ht, rfl, Int.le_refl _, hg⟩)).2⟩
 ·rintro ⟨x, y, hin, hq⟩
  have hpm : eA p x y := (eB _ _ _).mp ⟨s, hs, hin.1, hin.2.1, hin.2.2⟩
  obtain ⟨t, ht, e1, e2, e3⟩ := (eB (cmP p q) x y).mpr ((oJ cp cq x y).mpr ⟨hpm, hq⟩)
  refine ⟨t, ht, ?_⟩
  rw [e1]
  exact z7 cp hs hin (fun u h1 h2 => ((oJ cp cq u y).mp ((eB _ _ _).mp ⟨t, ht, e1, h1, by lia⟩)).1) e2
theorem ka {a : XE} {b : XA} {ρ : M.Env} {x : D} {y : List D} (h : a ρ = some x) (k : b ρ = some y) : ac a b ρ = some (x :: y) := by
 show Option.bind (a ρ) _ = _
 rw [h]
 show Option.bind (b ρ) _ = _
 rw [k]
 rfl
theorem HY {e : XA} {ρ : M.Env} {l : List D} (h : e ρ = some l) : xL e ρ = some (.lst l) := by unfold xL; rw [h]; rfl
theorem oz {m : List D -> Option D} {a : XA} {ρ : M.Env} {ds : List D} {d : D} (h : a ρ = some ds) (k : m ds = some d) : aK m a ρ = some d := by unfold aK; rw [h]; exact k
theorem o5 (f : Tri -> Tri) : ∀ T : List Tri, fj (T.map fun t => D.tup [av (f t), .bl true]) = some ((T.map f).map bf)
 | [] => rfl
 | t :: T => by
  rw [List.map_cons, fj, o5 f T]
  rfl
theorem sn : ∀ bs : List Bool, fK (bs.map D.bl) = some bs
 | [] => rfl
 | b :: bs => by rw [List.map_cons, fK, sn bs]; rfl
theorem tz : ∀ bs : List Bool, noDics (bs.map D.bl) = true
 | [] => by simp [noDics]
 | b :: bs => by rw [List.map_cons, noDics, tz bs]; simp [jF]
theorem tI (W : Wk) (h : W.length < 30000) : aW [.lst (W.map bn)] = some (aw (il (W.map (·.1)))) := by
 have hl : W.length <= LIM := aS (by lia)
 have hp := jj (W.map (·.1)) (by rw [List.length_map]; lia)
 have hc : cR (aO (am (ad 0) (am (ad 1) (am (ad 2) (am (ad 3) aN))))) ez (aP (ac (aq 0) (ac (aq 1) (ac (aq 2) ap)))) [.un, .un, .un, .un] (W.map bn) = some ((W.map (·.1)).map av) := by
  rw [cL bn (fun w => av w.1) W fun w _ => by simp [gR], List.map_map]
  rfl
 simp only [List.map_map] at hp hc
 simp [aW, b9, fnO, bJ, mh, hl, hc, hp]
def t9 (ms : List Tri) (W : Wk) : Bool := (W.map fun w => decide (w.1 ∈ ms)).any id
theorem metB_iff {ms : List Tri} {W : Wk} : t9 ms W = true ↔ ∃ s ∈ W.map (·.1), s ∈ ms := by
 unfold t9
 rw [List.any_eq_true]
 constructor
 ·rintro ⟨b, hb, e⟩
  obtain ⟨w, hw, rfl⟩ := List.mem_map.mp hb
  exact ⟨w.1, List.mem_map.mpr ⟨w, hw, rfl⟩, of_decide_eq_true e⟩
 ·rintro ⟨s, hs, h⟩
  obtain ⟨w, hw, rfl⟩ := List.mem_map.mp hs
  exact ⟨true, List.mem_map.mpr ⟨w, hw, decide_eq_true h⟩, rfl⟩
theorem tW (s0 s1 : Sl) (ms : List Tri) (KS : List (List Int)) (hK : ∀ t, KS.contains (bf t) = decide (t ∈ ms)) (Z W : Wk) (hW : W.length <= 400) (hZ : Z.length <= 50000) :
  dU [s0, s1, .ow (.dic KS), owl (Z.map bn), .sh (bE W)] = some (.nx [s0, s1, .ow (.dic KS), owl ((Z ++ if t9 ms W then W else []).map bn), .sh (bE W)]) := by
 have l3 : 3 <= LIM := aS (by lia)
 have hl : W.length <= LIM := aS (by lia)
 have hZW : Z.length + W.length <= LIM := aS (by lia)
 have hc : cR (aO (am (ad 0) (am (ad 1) (am (ad 2) (am (ad 3) aN))))) ez (lD false (aP (ac (aq 0) (ac (aq 1) (ac (aq 2) ap)))) 4) [.un, .un, .un, .un, .sh (.dif KS)] (W.map bn) = some ((W.map fun w => decide (w.1 ∈ ms)).map D.bl) := by
  rw [List.map_map]
  refine cL bn _ W fun w _ => ?_
  have h := hK w.1
  have hy : kyD (.tup [.int w.1.1, .int w.1.2.1, .int w.1.2.2]) = some (bf w.1) := rfl
  unfold bf at h hy
  show gR _ _ _ _ _ = some (some (D.bl (decide (w.1 ∈ ms))))
  rw [<- h]
  simp [gR, l3, nS, hy]
 have hm : m8 2 (cE [none, none, none, none, some 2] (xIt (ag 4)) (aO (am (ad 0) (am (ad 1) (am (ad 2) (am (ad 3) aN))))) ez (lD false (aP (ac (aq 0) (ac (aq 1) (ac (aq 2) ap)))) 4)) [s0, s1, .ow (.dic KS), owl (Z.map bn), .sh (bE W)] = some ((W.map fun w => decide (w.1 ∈ ms)).map D.bl) := by
  have hx : cE [none, none, none, none, some 2] (xIt (ag 4)) (aO (am (ad 0) (am (ad 1) (am (ad 2) (am (ad 3) aN))))) ez (lD false (aP (ac (aq 0) (ac (aq 1) (ac (aq 2) ap)))) 4) [s0, s1, .sh (.dif KS), owl (Z.map bn), .sh (bE W)] = some ((W.map fun w => decide (w.1 ∈ ms)).map D.bl) := by
   unfold cE
   have hi : xIt (ag 4) [s0, s1, .sh (.dif KS), owl (Z.map bn), .sh (bE W)] = some (W.map bn) := rfl
   rw [hi]
   show (if (W.map bn).length <= LIM then _ else _) = _
   rw [if_pos (by rw [List.length_map]; exact hl)]
   exact hc
  unfold m8
  simp only [List.getElem?_cons_succ, List.getElem?_cons_zero, Option.bind_some, Cj, List.set_cons_succ, List.set_cons_zero]
  rw [hx]
  simp only [Option.bind_some]
  rw [if_pos (tz _)]
 have hany : n6 (xCB yT (ac (xL (m8 2 (cE [none, none, none, none, some 2] (xIt (ag 4)) (aO (am (ad 0) (am (ad 1) (am (ad 2) (am (ad 3) aN))))) ez (lD false (aP (ac (aq 0) (ac (aq 1) (ac (aq 2) ap)))) 4)))) ap)) [s0, s1, .ow (.dic KS), owl (Z.map bn), .sh (bE W)] = some (t9 ms W) := by
  have hb : yT [.lst ((W.map fun w => decide (w.1 ∈ ms)).map D.bl)] = some (.bl (t9 ms W)) := by
   show (fK _).map _ = _
   rw [sn]
   rfl
  have hcb : xCB yT (ac (xL (m8 2 (cE [none, none, none, none, some 2] (xIt (ag 4)) (aO (am (ad 0) (am (ad 1) (am (ad 2) (am (ad 3) aN))))) ez (lD false (aP (ac (aq 0) (ac (aq 1) (ac (aq 2) ap)))) 4)))) ap) [s0, s1, .ow (.dic KS), owl (Z.map bn), .sh (bE W)] = some (.bl (t9 ms W)) := by
   unfold xCB
   rw [ka (HY hm) (rfl : ap _ = some [])]
   exact hb
  unfold n6
  rw [hcb]
  rfl
 unfold dU
 cases q : t9 ms W with
 | true =>
  rw [q] at hany
  rw [ul hany]
  generalize hwW : W.map bn = WW at *
  have hlw : WW.length = W.length := by rw [<- hwW, List.length_map]
  have hZW' : Z.length + WW.length <= LIM := by rw [hlw]; exact hZW
  simp [hZW', hwW, bE]
 | false =>
  rw [q] at hany
  rw [tY hany]
  simp
theorem iY (p q : Pic) (cp : aH p) (cq : aH q) (hp : p.length <= 20) (hn : (ah p).length <= 160) (hq : q.length <= 160) (hqn : (ah q).length <= 160) (M : Nat -> Nat) (o : MOk (ah p) (fun j k => j < k /\ k < (ah p).length) M) (H : Nat -> Bool)
  (hH : ∀ j, j < (ah p).length -> (H (M j) = true ↔ ∃ k, k < (ah p).length /\ M k = M j /\ ∃ x y, In (sAt (ah p) k) x y /\ eA q x y)) :
  iB [aw p, aw q] = some (aw (aV (eE (ah p) M H))) := by
 have nd := tp cp
 have hdue := vG cp o (H := H) (Q := fun s => ∃ x y, In s x y /\ eA q x y) hH
 have cc := sQ cp cq
 have hcl := BJ p q
 have hcl2 : p.length * (ah q).length <= 20 * 160 := Nat.mul_le_mul hp hqn
 have hcom := uK (p := p) cq (by lia) (by lia) (by lia)
 have hstr := gO (cmP p q) (by lia)
 have hmet := fun s hs => ET cp cq s hs
 generalize hT : ah (cmP p q) = T at *
 have hpm : ∀ t ∈ T, ∃ s ∈ ah p, In s t.2.1 t.1 := fun t ht => by
  have hg : t.2.1 <= t.2.2 := cD cc (by rw [hT]; exact ht)
  have := ((oJ cp cq t.2.1 t.1).mp ((eB _ _ _).mp ⟨t, by rw [hT]; exact ht, rfl, Int.le_refl _, hg⟩)).1
  obtain ⟨s, hs, e1, e2, e3⟩ := (eB p _ _).mpr this
  exact ⟨s, hs, e1, e2, e3⟩
 have hex : ∀ t : Tri, ∃ s : Tri, t ∈ T -> s ∈ ah p /\ In s t.2.1 t.1 /\ aY [aw p, .int t.2.1, .int t.1] = some (av s) := fun t => by
  by_cases ht : t ∈ T
  ·rcases jn p cp (by lia) (by lia) t.2.1 t.1 with ⟨s, hs, hin, e⟩ | ⟨hno, _⟩
   ·exact ⟨s, fun _ => ⟨hs, hin, e⟩⟩
   ·obtain ⟨s, hs, hin⟩ := hpm t ht
    exact absurd hin (hno s hs)
  ·exact ⟨t, fun h => absurd h ht⟩
 obtain ⟨f, hf⟩ : ∃ f : Tri -> Tri, ∀ t ∈ T, f t ∈ ah p /\ In (f t) t.2.1 t.1 /\ aY [aw p, .int t.2.1, .int t.1] = some (av (f t)) := ⟨fun t => Classical.choose (hex t), fun t ht => Classical.choose_spec (hex t) ht⟩
 have hms : ∀ s ∈ ah p, s ∈ T.map f ↔ ∃ x y, In s x y /\ eA q x y := fun s hs => by
  rw [<- hmet s hs, List.mem_map]
  constructor
  ·rintro ⟨t, ht, rfl⟩
   exact ⟨t, ht, (hf t ht).2.1⟩
  ·rintro ⟨t, ht, hin⟩
   refine ⟨t, ht, ?_⟩
   obtain ⟨h1, h2, _⟩ := hf t ht
   obtain ⟨i, hi, ei⟩ := bD hs
   obtain ⟨j, hj, ej⟩ := bD h1
   have := AI (fk cp) hi hj (by rw [ei]; exact hin) (by rw [ej]; exact h2)
   subst this
   rw [<- ej, ei]
 have l2 : 2 <= LIM := aS (by lia)
 have hTL : T.length <= LIM := aS (by lia)
 have hTL' : T.length < LIM := Nat.lt_of_lt_of_le (show T.length < 100000 by lia) (aS (Nat.le_refl _))
 have c1 : cR (aO (am (ad 0) (am (ad 1) (am (ad 2) aN)))) ez (aP (ac (aK aY (ac (aq 3) (ac (aq 1) (ac (aq 0) ap)))) (ac (xC (.bl true)) ap))) [.un, .un, .un, .sh (aw p)] (T.map av) = some (T.map fun t => D.tup [av (f t), .bl true]) := cL av _ T fun t ht => by
  have e := (hf t ht).2.2
  generalize aw p = PP at *
  simp [gR, e, l2]
 obtain ⟨KS, hKS⟩ : ∃ KS, ((T.map f).map bf).foldl ic [] = KS := ⟨_, rfl⟩
 have hK : ∀ t, KS.contains (bf t) = decide (t ∈ T.map f) := fun t => by
  rw [<- hKS, gv, g6]
  simp
 have hd : ub (cE [none, none, none, some 0] (xIt (aK bK (ac (aK ir (ac (aq 0) (ac (aq 1) ap))) ap))) (aO (am (ad 0) (am (ad 1) (am (ad 2) aN)))) ez (aP (ac (aK aY (ac (aq 3) (ac (aq 1) (ac (aq 0) ap)))) (ac (xC (.bl true)) ap)))) [.sh (aw p), .sh (aw q), .un, .un, .un] = some (.dic KS) := by
  have hx : cE [none, none, none, some 0] (xIt (aK bK (ac (aK ir (ac (aq 0) (ac (aq 1) ap))) ap))) (aO (am (ad 0) (am (ad 1) (am (ad 2) aN)))) ez (aP (ac (aK aY (ac (aq 3) (ac (aq 1) (ac (aq 0) ap)))) (ac (xC (.bl true)) ap))) [.sh (aw p), .sh (aw q), .un, .un, .un] = some (T.map fun t => D.tup [av (f t), .bl true]) := by
   have hi : xIt (aK bK (ac (aK ir (ac (aq 0) (ac (aq 1) ap))) ap)) [.sh (aw p), .sh (aw q), .un, .un, .un] = some (T.map av) := by
    unfold xIt
    rw [oz (ka (oz (ka rfl (ka rfl rfl)) hcom) rfl) hstr]
    rfl
   unfold cE
   rw [hi]
   show (if (T.map av).length <= LIM then _ else _) = _
   rw [if_pos (by rw [List.length_map]; exact hTL)]
   exact c1
  have hpr := o5 f T
  unfold ub
  rw [hx]
  dsimp only [Option.bind]
  rw [hpr]
  dsimp only
  rw [List.length_map, if_pos hTL', hKS]
 -- the pieces
 have hwx : ∀ s : Tri, ∃ W : Wk, s ∈ ah p -> bX [aw p, av s, .int 1] = some (bE W) /\ IsWalk p s W := fun s => by
  by_cases hs : s ∈ ah p
  ·obtain ⟨W, h1, h2⟩ := jG p cp (by lia) (by lia) s hs
   exact ⟨W, fun _ => ⟨h1, h2⟩⟩
  ·exact ⟨[], fun h => absurd h hs⟩
 obtain ⟨wk, hw⟩ : ∃ wk : Tri -> Wk, ∀ s ∈ ah p, bX [aw p, av s, .int 1] = some (bE (wk s)) /\ IsWalk p s (wk s) := ⟨fun s => Classical.choose (hwx s), fun s hs => Classical.choose_spec (hwx s) hs⟩
 have hpie := vH p cp (by lia) hn nd M o wk hw
 obtain ⟨F, hF⟩ : ∃ F, b6 (ah p).length M = F := ⟨_, rfl⟩
 rw [hF] at hpie
 have hFm : ∀ k, k ∈ F ↔ k < (ah p).length /\ M k = k := fun k => by
  rw [<- hF]
  unfold b6
  rw [List.mem_filter, List.mem_range]
  simp
 have hFl : F.length <= 160 := by
  rw [<- hF]
  unfold b6
  have := List.length_filter_le (fun k => decide (M k = k)) (List.range (ah p).length)
  rw [List.length_range] at this
  lia
 have hwl : ∀ k ∈ F, (wk (sAt (ah p) k)).length <= 160 := fun k hk => by
  have h1 := (hFm k).mp hk
  have h2 := (hw _ (bT h1.1)).2.toWOk.le (bT h1.1)
  lia
 obtain ⟨take, htake⟩ : ∃ g : Nat -> Wk, ∀ k, g k = if t9 (T.map f) (wk (sAt (ah p) k)) then wk (sAt (ah p) k) else [] := ⟨_, fun _ => rfl⟩
 have htl : ∀ k ∈ F, (take k).length <= 160 := fun k hk => by
  rw [htake]
  split
  ·exact hwl k hk
  ·exact Nat.zero_le _
 have hfl : ∀ l : List Nat, (∀ k ∈ l, k ∈ F) -> (l.flatMap take).length <= 160 * l.length := fun l => by
  induction l with
  | nil => intro _; simp
  | cons d l ih =>
   intro h
   rw [List.flatMap_cons, List.length_append, List.length_cons, Nat.mul_succ]
   have h1 := htl d (h d List.mem_cons_self)
   have h2 := ih fun k hk => h k (List.mem_cons_of_mem _ hk)
   lia
 obtain ⟨ρ', k1, v4, rfl⟩ := a5 (g := ad 4) (m := dU) (fun k : Nat => bE (wk (sAt (ah p) k))) (fun pre ρ => ∃ v4 : Sl, ρ = [.sh (aw p), .sh (aw q), .ow (.dic KS), owl ((pre.flatMap take).map bn), v4]) F [.sh (aw p), .sh (aw q), .ow (.dic KS), .ow (.lst []), .un] ⟨.un, rfl⟩ fun pre k post ρ e hpt0 => by
  obtain ⟨v4, hρ⟩ := hpt0
  subst hρ
  have hpF : ∀ j ∈ pre, j ∈ F := fun j hj => by rw [e]; exact List.mem_append_left _ hj
  have hkF : k ∈ F := by rw [e]; exact List.mem_append_right _ List.mem_cons_self
  have h1 := hfl pre hpF
  have hpl : pre.length < F.length := by rw [e, List.length_append, List.length_cons]; lia
  have := tW (.sh (aw p)) (.sh (aw q)) (T.map f) KS hK (pre.flatMap take) (wk (sAt (ah p) k)) (by have := hwl k hkF; lia) (by lia)
  refine ⟨_, _, rfl, .inl this, .sh (bE (wk (sAt (ah p) k))), ?_⟩
  rw [List.flatMap_append, <- htake k]
  simp
 have hzl := hfl F fun k hk => hk
 have hpp := tI (F.flatMap take) (by lia)
 have hg : il ((F.flatMap take).map (·.1)) = aV (eE (ah p) M H) := jQ (fun t => by
  rw [hdue t]
  constructor
  ·intro h
   obtain ⟨w, hw1, rfl⟩ := List.mem_map.mp h
   obtain ⟨k, hk, hw2⟩ := List.mem_flatMap.mp hw1
   rw [htake] at hw2
   split at hw2
   ·rename_i hm
    obtain ⟨s, hs, hsm⟩ := metB_iff.mp hm
    have hkn := ((hFm k).mp hk).1
    have ow := (hw _ (bT hkn)).2
    have hs1 := (ow.all s).mp hs
    have ht1 := (ow.all w.1).mp (List.mem_map.mpr ⟨w, hw2, rfl⟩)
    have hsS := hs1.mem (bT hkn)
    exact ⟨s, hsS, (hms s hsS).mp hsm, (hs1.symm (bT hkn)).trans ht1⟩
   ·cases hw2
  ·rintro ⟨s, hs, hQ, hcon⟩
   obtain ⟨j, hj, ej⟩ := bD hs
   have hle := o.le j hj
   have hid := o.idem j hj
   have hcj := o.con j hj
   rw [ej] at hcj
   have hkF : M j ∈ F := (hFm _).mpr ⟨by lia, hid⟩
   have hkn : M j < (ah p).length := by lia
   have ow := (hw _ (bT hkn)).2
   have c1 : Con (ah p) (sAt (ah p) (M j)) s := hcj.symm hs
   have hs1 := (ow.all s).mpr c1
   have ht1 := (ow.all t).mpr (c1.trans hcon)
   have hm : t9 (T.map f) (wk (sAt (ah p) (M j))) = true := metB_iff.mpr ⟨s, hs1, (hms s hs).mpr hQ⟩
   obtain ⟨w, hw2, e2⟩ := List.mem_map.mp ht1
   exact List.mem_map.mpr ⟨w, List.mem_flatMap.mpr ⟨M j, hkF, by rw [htake, if_pos hm]; exact hw2⟩, e2⟩) (l7 (fk cp) M _) (ni cp M _)
 rw [hg] at hpp
 have hrun : hV [.sh (aw p), .sh (aw q), .un, .un, .un] = some (.rt (aw (aV (eE (ah p) M H)))) := by
  unfold hV
  rw [cP (ρ' := [.sh (aw p), .sh (aw q), .ow (.dic KS), .un, .un]) (by unfold n5; rw [hd]; rfl), cP (ρ' := [.sh (aw p), .sh (aw q), .ow (.dic KS), .ow (.lst []), .un]) (by simp)]
  have hfor : eG (xIt (aK jX (ac (aq 0) ap))) (ad 4) dU [.sh (aw p), .sh (aw q), .ow (.dic KS), .ow (.lst []), .un] = some (.nx [.sh (aw p), .sh (aw q), .ow (.dic KS), owl ((F.flatMap take).map bn), v4]) := by
   have hi : xIt (aK jX (ac (aq 0) ap)) [.sh (aw p), .sh (aw q), .ow (.dic KS), .ow (.lst []), .un] = some (F.map fun k => bE (wk (sAt (ah p) k))) := by
    unfold xIt
    rw [oz (ka rfl rfl) hpie]
    rfl
   unfold eG
   rw [hi]
   exact k1
  rw [cP hfor]
  have hfz : frz 3 [.sh (aw p), .sh (aw q), .ow (.dic KS), owl ((F.flatMap take).map bn), v4] = [.sh (aw p), .sh (aw q), .ow (.dic KS), .sh (.lst ((F.flatMap take).map bn)), v4] := by
   generalize (F.flatMap take).map bn = ZZ
   simp [frz]
  show cN (aK aW (ac (aq 3) ap)) (frz 3 _) = _
  rw [hfz]
  unfold cN
  rw [oz (ka rfl rfl) hpp]
  rfl
 exact C0 (n := 5) (ds := [aw p, aw q]) hrun
def n4 (gs : Pic) (t : Tri) : Pic := match gs.getLast? with
 | some g => if g.1 = t.1 then gs.dropLast ++ [(g.1, step g.2 t.2)] else gs ++ [(t.1, [t.2])]
 | none => [(t.1, [t.2])]
theorem zm (t : Tri) : n4 [] t = [(t.1, [t.2])] := rfl
theorem pH (gs : Pic) (g : Int × R) (t : Tri) : n4 (gs ++ [g]) t = if g.1 = t.1 then gs ++ [(g.1, step g.2 t.2)] else gs ++ [g] ++ [(t.1, [t.2])] := by
 unfold n4
 simp
def mq (ts : List Tri) : Pic := ts.foldl n4 []
theorem rY (pre : List Tri) (t : Tri) : mq (pre ++ [t]) = n4 (mq pre) t := by unfold mq; rw [List.foldl_append]; rfl
theorem Cc (acc : R) (p : Int × Int) : step acc p ≠ [] := by
 rcases List.eq_nil_or_concat acc with rfl | ⟨t, q, rfl⟩
 ·rw [qO]; simp
 ·rw [List.concat_eq_append, fU]
  split <;> simp
theorem uN {acc : R} {p q : Int × Int} (h : q ∈ step acc p) : q.1 = p.1 \/ ∃ q' ∈ acc, q'.1 = q.1 := by
 rcases List.eq_nil_or_concat acc with rfl | ⟨t, z, rfl⟩
 ·rw [qO, List.mem_singleton] at h
  subst h; exact .inl rfl
 ·rw [List.concat_eq_append] at h ⊢
  rw [fU] at h
  split at h
  ·rcases List.mem_append.mp h with h | h
   ·exact .inr ⟨q, List.mem_append_left _ h, rfl⟩
   ·rw [List.mem_singleton] at h
    subst h
    exact .inr ⟨z, by simp, rfl⟩
  ·rcases List.mem_append.mp h with h | h
   ·exact .inr ⟨q, h, rfl⟩
   ·rw [List.mem_singleton] at h
    subst h; exact .inl rfl
structure LOk (gs : Pic) (pre : List Tri) : Prop where
 can : aH gs
 mem : ∀ x y, eA gs x y ↔ jt pre x y
 fst : ∀ g ∈ gs, ∀ q ∈ g.2, ∃ t ∈ pre, t.1 = g.1 /\ t.2.1 = q.1
 row : ∀ g ∈ gs, ∃ t ∈ pre, t.1 = g.1
 len : gs.length <= pre.length
 lens : ∀ g ∈ gs, g.2.length <= pre.length
theorem oV (t : Tri) (x y : Int) : jt [t] x y ↔ t.1 = y /\ t.2.1 <= x /\ x <= t.2.2 := by
 rw [tE]
 constructor
 ·rintro (h | ⟨_, h, _⟩)
  ·exact h
  ·cases h
 ·exact .inl
theorem mt (q : Int × R) (x y : Int) : eA [q] x y ↔ q.1 = y /\ Mem q.2 x := by
 rw [bm]
 constructor
 ·rintro (h | h)
  ·exact h
  ·exact (dr _ _ h).elim
 ·exact .inl
theorem ya (p : Int × Int) (x : Int) : Mem [p] x ↔ p.1 <= x /\ x <= p.2 := by
 rw [mem_cons]
 constructor
 ·rintro (h | h)
  ·exact h
  ·exact (bw _ h).elim
 ·exact .inl
theorem rV {p : Int × Int} (h : p.1 <= p.2) : bp [p] := canon_cons.mpr ⟨h, fun _ h => (by cases h), cM⟩
theorem AO {gs : Pic} {pre : List Tri} {t : Tri} (o : LOk gs pre) (ht : t.2.1 <= t.2.2) (hb : ∀ s ∈ pre, s.1 < t.1 \/ (s.1 = t.1 /\ s.2.1 <= t.2.1)) : LOk (n4 gs t) (pre ++ [t]) := by
 have hle : ∀ g ∈ gs, g.1 <= t.1 := fun g hg => by
  obtain ⟨s, hs, e⟩ := o.row g hg
  have := hb s hs
  lia
 rcases List.eq_nil_or_concat gs with rfl | ⟨gs0, g, rfl⟩
 ·rw [zm]
  refine ⟨pcanon_cons.mpr ⟨⟨rV ht, by simp⟩, fun _ h => (by cases h), iP⟩, fun x y => ?_, fun g hg q hq => ?_, fun g hg => ?_, by simp, fun g hg => ?_⟩
  ·rw [mt, gK, <- o.mem, oV, ya]
   exact ⟨.inr, fun h => h.elim (fun h => (dr _ _ h).elim) id⟩
  ·rw [List.mem_singleton] at hg
   subst hg
   rw [List.mem_singleton] at hq
   subst hq
   exact ⟨t, by simp, rfl, rfl⟩
  ·rw [List.mem_singleton] at hg
   subst hg
   exact ⟨t, by simp, rfl⟩
  ·rw [List.mem_singleton] at hg
   subst hg
   simp
 ·rw [List.concat_eq_append] at o hle ⊢
  rw [pH]
  have hg0 : g ∈ gs0 ++ [g] := by simp
  have cg := o.can.1 g hg0
  have pw := List.pairwise_append.mp o.can.2
  by_cases c : g.1 = t.1
  ·rw [if_pos c]
   have lo : ∀ q ∈ g.2, q.1 <= t.2.1 := fun q hq => by
    obtain ⟨s, hs, e1, e2⟩ := o.fst g hg0 q hq
    have := hb s hs
    lia
   obtain ⟨s1, s2, s3⟩ := xR cg.1 (p := t.2) ht lo
   refine ⟨⟨fun q hq => ?_, ?_⟩, fun x y => ?_, fun g' hg q hq => ?_, fun g' hg => ?_, ?_, fun g' hg => ?_⟩
   ·rcases List.mem_append.mp hq with hq | hq
    ·exact o.can.1 q (List.mem_append_left _ hq)
    ·rw [List.mem_singleton] at hq
     subst hq
     exact ⟨s1, Cc _ _⟩
   ·refine List.pairwise_append.mpr ⟨pw.1, List.pairwise_singleton _ _, fun a ha b hb => ?_⟩
    rw [List.mem_singleton] at hb
    subst hb
    exact pw.2.2 a ha g (by simp)
   ·have := o.mem x y
    rw [dX, mt] at this
    rw [dX, mt, gK, <- this, oV]
    dsimp only
    rw [s2 x]
    constructor
    ·rintro (h | ⟨h1, h2 | h2⟩)
     ·exact .inl (.inl h)
     ·exact .inl (.inr ⟨h1, h2⟩)
     ·exact .inr ⟨c.symm.trans h1, h2⟩
    ·rintro ((h | ⟨h1, h2⟩) | ⟨h1, h2⟩)
     ·exact .inl h
     ·exact .inr ⟨h1, .inl h2⟩
     ·exact .inr ⟨c.trans h1, .inr h2⟩
   ·rcases List.mem_append.mp hg with hg | hg
    ·obtain ⟨s, hs, e⟩ := o.fst g' (List.mem_append_left _ hg) q hq
     exact ⟨s, List.mem_append_left _ hs, e⟩
    ·rw [List.mem_singleton] at hg
     subst hg
     rcases uN hq with e | ⟨q', hq', e⟩
     ·exact ⟨t, by simp, c.symm, e.symm⟩
     ·obtain ⟨s, hs, e1, e2⟩ := o.fst g hg0 q' hq'
      exact ⟨s, List.mem_append_left _ hs, e1, e2.trans e⟩
   ·rcases List.mem_append.mp hg with hg | hg
    ·obtain ⟨s, hs, e⟩ := o.row g' (List.mem_append_left _ hg)
     exact ⟨s, List.mem_append_left _ hs, e⟩
    ·rw [List.mem_singleton] at hg
     subst hg
     exact ⟨t, by simp, c.symm⟩
   ·have := o.len
    rw [List.length_append] at this ⊢
    rw [List.length_append]
    simp at this ⊢
    lia
   ·rw [List.length_append, List.length_singleton]
    rcases List.mem_append.mp hg with hg | hg
    ·have := o.lens g' (List.mem_append_left _ hg)
     lia
    ·rw [List.mem_singleton] at hg
     subst hg
     have := o.lens g hg0
     have := vD g.2 t.2
     dsimp only
     lia
  ·rw [if_neg c]
   have hlt : ∀ a ∈ gs0 ++ [g], a.1 < t.1 := fun a ha => by
    have h1 := hle g hg0
    rcases List.mem_append.mp ha with ha | ha
    ·have := pw.2.2 a ha g (by simp)
     lia
    ·rw [List.mem_singleton] at ha
     subst ha
     lia
   refine ⟨⟨fun q hq => ?_, ?_⟩, fun x y => ?_, fun g' hg q hq => ?_, fun g' hg => ?_, ?_, fun g' hg => ?_⟩
   ·rcases List.mem_append.mp hq with hq | hq
    ·exact o.can.1 q hq
    ·rw [List.mem_singleton] at hq
     subst hq
     exact ⟨rV ht, by simp⟩
   ·refine List.pairwise_append.mpr ⟨o.can.2, List.pairwise_singleton _ _, fun a ha b hb => ?_⟩
    rw [List.mem_singleton] at hb
    subst hb
    exact hlt a ha
   ·rw [dX, o.mem, mt, gK, oV, ya]
   ·rcases List.mem_append.mp hg with hg | hg
    ·obtain ⟨s, hs, e⟩ := o.fst g' hg q hq
     exact ⟨s, List.mem_append_left _ hs, e⟩
    ·rw [List.mem_singleton] at hg
     subst hg
     rw [List.mem_singleton] at hq
     subst hq
     exact ⟨t, by simp, rfl, rfl⟩
   ·rcases List.mem_append.mp hg with hg | hg
    ·obtain ⟨s, hs, e⟩ := o.row g' hg
     exact ⟨s, List.mem_append_left _ hs, e⟩
    ·rw [List.mem_singleton] at hg
     subst hg
     exact ⟨t, by simp, rfl⟩
   ·have := o.len
    rw [List.length_append, List.length_append (bs := [t])]
    simp at this ⊢
    lia
   ·rw [List.length_append, List.length_singleton]
    rcases List.mem_append.mp hg with hg | hg
    ·have := o.lens g' hg
     lia
    ·rw [List.mem_singleton] at hg
     subst hg
     simp
theorem yc : ∀ (post pre : List Tri), (∀ t ∈ pre ++ post, t.2.1 <= t.2.2) -> (pre ++ post).Pairwise (fun p q => p.1 < q.1 \/ (p.1 = q.1 /\ p.2.1 <= q.2.1)) -> LOk (mq pre) pre -> LOk (mq (pre ++ post)) (pre ++ post)
 | [], pre, _, _, o => by rw [List.append_nil]; exact o
 | t :: post, pre, h1, h2, o => by
  have e : pre ++ t :: post = (pre ++ [t]) ++ post := by simp
  rw [e] at h1 h2 ⊢
  refine yc post (pre ++ [t]) h1 h2 ?_
  rw [rY]
  refine AO o (h1 t (by simp)) fun s hs => ?_
  exact (List.pairwise_append.mp (List.pairwise_append.mp h2).1).2.2 s hs t (by simp)
theorem Cu : LOk (mq []) [] := ⟨iP, fun x y => ⟨fun h => (dr _ _ h).elim, fun ⟨_, h, _⟩ => (by cases h)⟩, fun _ h => (by cases h), fun _ h => (by cases h), Nat.le_refl _, fun _ h => (by cases h)⟩
theorem yN (ps : R) : (jM ps).Pairwise fun p q => p.1 < q.1 \/ (p.1 = q.1 /\ p.2 <= q.2) := by
 have h := jC (ps.map pE)
 rw [<- lg, List.pairwise_map] at h
 refine h.imp fun {p q} e => ?_
 have e' : (if q.1 = p.1 then (if q.2 = p.2 then false else decide (q.2 < p.2)) else decide (q.1 < p.1)) = false := e
 by_cases hq : q.1 = p.1
 ·rw [if_pos hq] at e'
  by_cases hr : q.2 = p.2
  ·exact .inr ⟨hq.symm, by lia⟩
  ·rw [if_neg hr] at e'
   have := of_decide_eq_false e'
   exact .inr ⟨hq.symm, by lia⟩
 ·rw [if_neg hq] at e'
  have := of_decide_eq_false e'
  exact .inl (by lia)
theorem Bq (l : List D) (z : D) : gW (l ++ [z]) none (some (-1)) = l := by
 have h1 : HT.sIx (l.length + 1) (l.length + 1) (some (-1)) = l.length := by
  unfold HT.sIx
  simp
  try lia
 have h0 : HT.sIx (l.length + 1) 0 none = 0 := rfl
 unfold gW
 rw [List.length_append, List.length_singleton, h0, h1]
 simp
theorem wQ (s0 v4 v5 : Sl) (gs : Pic) (c : Int × Int) (h : gs.length <= 1000) (hg : ∀ g ∈ gs, g.2.length <= 1000 /\ g.2 ≠ []) : ∃ w4 w5, bC [s0, owl (gs.map pyD), .sh (.int c.1), .sh (.int c.2), v4, v5] = some (.nx [s0, owl ((n4 gs (c.1, c.2, c.2)).map pyD), .sh (.int c.1), .sh (.int c.2), w4, w5]) := by
 have l1 : 1 <= LIM := aS (by lia)
 have l2 : 2 <= LIM := aS (by lia)
 rcases List.eq_nil_or_concat gs with rfl | ⟨gs0, g, rfl⟩
 ·exact ⟨v4, v5, by simp [bC, n4, l1, l2, prD]⟩
 ·rw [List.concat_eq_append] at *
  rw [pH]
  have hl : gs0.length + 1 <= 1000 := by simpa using h
  have hlim : gs0.length + 1 < LIM := df (by lia)
  obtain ⟨hgl, hgn⟩ := hg g (by simp)
  have hg2 : g.2.length + 1 <= LIM := aS (by lia)
  have at1 : atI (gs0.map pyD ++ [pyD g]) (-1) = some (pyD g) := e7 _ _
  have hne : ¬ (gs0.length : Int) + 1 = 0 := by lia
  obtain ⟨y, r⟩ := g
  dsimp only at hgl hgn hg2 at1 ⊢
  rcases List.eq_nil_or_concat r with rfl | ⟨r0, q, rfl⟩
  ·exact absurd rfl hgn
  rw [List.concat_eq_append] at *
  rw [fU]
  have at2 : atI (r0.map prD ++ [prD q]) (-1) = some (prD q) := e7 _ _
  have e0 : (pyD (y, r0 ++ [q])) = .tup [.int y, .tup (r0.map prD ++ [prD q])] := by simp
  by_cases hc : y = c.1
  ·by_cases hx : c.2 <= q.2 + 1
   ·have hx' : ¬ q.2 + 1 < c.2 := by lia
    have hr0 : r0.length + 1 <= LIM := aS (by rw [List.length_append] at hgl; simp at hgl; lia)
    refine ⟨.sh (.int q.1), .sh (.int q.2), ?_⟩
    rw [if_pos hc, if_pos hx]
    have cl := Bq (r0.map prD) (prD q)
    simp [bC, at1, at2, hc, hx', hne, l1, l2, dSl, cl, ie, cO, hr0]
   ·have hx' : q.2 + 1 < c.2 := by lia
    have hr0 : r0.length + 1 + 1 <= LIM := aS (by rw [List.length_append] at hgl; simp at hgl; lia)
    refine ⟨.sh (.int q.1), .sh (.int q.2), ?_⟩
    rw [if_pos hc, if_neg hx]
    simp [bC, at1, at2, hc, hx', hne, l1, l2, ie, cO, hr0]
  ·refine ⟨v4, v5, ?_⟩
   rw [if_neg hc]
   simp [bC, at1, hc, hlim, hne, l1, l2]
theorem yE {p : Pic} {n : Nat} (h : ∀ q ∈ p, q.2.length <= n) : (ah p).length <= p.length * n := by
 induction p with
 | nil => exact Nat.zero_le _
 | cons q p ih =>
  rw [bx, List.length_append, List.length_map, List.length_cons, Nat.succ_mul]
  have h1 := h q List.mem_cons_self
  have h2 := ih fun r hr => h r (List.mem_cons_of_mem _ hr)
  lia
theorem l4 (cs : R) (hl : cs.length <= 10) : ∃ q : Pic, nY [.lst (cs.map prD)] = some (aw q) /\ aH q /\ (∀ x y, eA q x y ↔ (x, y) ∈ cs) /\ q.length <= 10 /\ (ah q).length <= 100 := by
 have l2 : 2 <= LIM := aS (by lia)
 have hL : cs.length <= LIM := aS (by lia)
 have c1 : cR (aO (am (ad 0) (am (ad 1) aN))) ez (aP (ac (aq 1) (ac (aq 0) ap))) [.un, .un] (cs.map prD) = some ((cs.map fun c => (c.2, c.1)).map prD) := by
  rw [List.map_map]
  exact cL prD _ cs fun c _ => by simp [gR, l2]
 have hb := nR (cs.map fun c => (c.2, c.1)) (by rw [List.length_map]; lia)
 have hlex := yN (cs.map fun c => (c.2, c.1))
 have hperm := f7 (cs.map fun c => (c.2, c.1))
 generalize jM (cs.map fun c => (c.2, c.1)) = sp at *
 have hsl : sp.length <= 10 := by have := hperm.length_eq; rw [List.length_map] at this; lia
 have hok : ∀ pre post : R, sp = pre ++ post -> LOk (mq (pre.map fun c => (c.1, c.2, c.2))) (pre.map fun c => (c.1, c.2, c.2)) := fun pre post e => by
  have h2 : (pre.map fun c : Int × Int => ((c.1, c.2, c.2) : Tri)).Pairwise fun p q => p.1 < q.1 \/ (p.1 = q.1 /\ p.2.1 <= q.2.1) := by
   rw [List.pairwise_map]
   rw [e] at hlex
   exact (List.pairwise_append.mp hlex).1
  have := yc (pre.map fun c : Int × Int => ((c.1, c.2, c.2) : Tri)) [] (fun t ht => by
   rw [List.nil_append] at ht
   obtain ⟨c, _, rfl⟩ := List.mem_map.mp ht
   exact Int.le_refl _) (by rw [List.nil_append]; exact h2) Cu
  rw [List.nil_append] at this
  exact this
 obtain ⟨ρ', k1, v2, v3, v4, v5, rfl⟩ := a5 (g := aO (am (ad 2) (am (ad 3) aN))) (m := bC) prD (fun pre ρ => ∃ v2 v3 v4 v5 : Sl, ρ = [.sh (.lst (cs.map prD)), owl ((mq (pre.map fun c => (c.1, c.2, c.2))).map pyD), v2, v3, v4, v5]) sp [.sh (.lst (cs.map prD)), .ow (.lst []), .un, .un, .un, .un] ⟨.un, .un, .un, .un, rfl⟩ fun pre c post ρ e hpt0 => by
  obtain ⟨v2, v3, v4, v5, hρ⟩ := hpt0
  subst hρ
  have o := hok pre (c :: post) e
  have hpl : pre.length < sp.length := by rw [e, List.length_append, List.length_cons]; lia
  have hlen := o.len
  rw [List.length_map] at hlen
  obtain ⟨w4, w5, ht⟩ := wQ (.sh (.lst (cs.map prD))) v4 v5 (mq (pre.map fun c => (c.1, c.2, c.2))) c (by lia) fun g hg => ⟨by have := o.lens g hg; rw [List.length_map] at this; lia, (o.can.1 g hg).2⟩
  refine ⟨_, _, rfl, .inl ht, .sh (.int c.1), .sh (.int c.2), w4, w5, ?_⟩
  rw [List.map_append, List.map_cons, List.map_nil, rY]
 have o := hok sp [] (by simp)
 refine ⟨mq (sp.map fun c => (c.1, c.2, c.2)), ?_, o.can, fun x y => ?_, ?_, ?_⟩
 ·show _ = some (D.tup ((mq (sp.map fun c => (c.1, c.2, c.2))).map pyD))
  generalize (mq (sp.map fun c => (c.1, c.2, c.2))).map pyD = G at *
  have hb' : fJ [.lst ((cs.map fun c => (c.2, c.1)).map prD)] = some (sp.map prD) := hb
  generalize (cs.map fun c => (c.2, c.1)).map prD = CC at *
  generalize sp.map prD = SP at *
  have hrun : e9 [.sh (.lst (cs.map prD)), .un, .un, .un, .un, .un] = some (.rt (.tup G)) := by
   simp [e9, hL, c1, hb', mh, k1]
  exact C0 (n := 6) (ds := [.lst (cs.map prD)]) hrun
 ·rw [o.mem x y]
  constructor
  ·rintro ⟨t, ht, e1, e2, e3⟩
   obtain ⟨c, hc, rfl⟩ := List.mem_map.mp ht
   obtain ⟨d, hd, e4⟩ := List.mem_map.mp (hperm.mem_iff.mp hc)
   subst e4
   dsimp only at e1 e2 e3
   have : d = (x, y) := by
    obtain ⟨a, b⟩ := d
    dsimp only at e1 e2 e3
    rw [e1, show a = x by lia]
   rw [<- this]
   exact hd
  ·intro h
   exact ⟨(y, x, x), List.mem_map.mpr ⟨(y, x), hperm.mem_iff.mpr (List.mem_map.mpr ⟨(x, y), h, rfl⟩), rfl⟩, rfl, Int.le_refl _, Int.le_refl _⟩
 ·have := o.len
  rw [List.length_map] at this
  lia
 ·have h1 := o.len
  rw [List.length_map] at h1
  have h2 := yE (p := mq (sp.map fun c => (c.1, c.2, c.2))) (n := 10) fun q hq => by have := o.lens q hq; rw [List.length_map] at this; lia
  have h3 : (mq (sp.map fun c => (c.1, c.2, c.2))).length * 10 <= 10 * 10 := Nat.mul_le_mul_right _ (by lia)
  lia
theorem me (p : Pic) : okD 50 (aw p) = true := CQ p
theorem AS (ns : List Int) (p : Pic) (c : aH p) (hp : p.length <= 20) (hn : (ah p).length <= 160) (M : Nat -> Nat) (o : MOk (ah p) (fun j k => j < k /\ k < (ah p).length) M) (cs : R) (hc : cs.length < 100) (k : Nat) (v6 v7 v8 v9 : Sl) :
  ∃ (d : Int × Int) (w8 : Sl), lS [.sh (.scr (ns.map D.int)), .sh (aw p), .sh (.lst ((ah p).map av)), .sh (ba (ah p).length M), owl (cs.map prD), .sh (.int (k : Int)), v6, v7, v8, v9] = some (.nx [.sh (.scr (ns.map D.int)), .sh (aw p), .sh (.lst ((ah p).map av)), .sh (ba (ah p).length M), owl ((cs ++ [d]).map prD), .sh (.int (k : Int)), .sh (.int d.1), .sh (.int d.2), w8, v9]) := by
 obtain ⟨f, hf⟩ := eT ns k
 obtain ⟨x, y, hxy⟩ := rJ (ah p) (by lia) (f * 39373 % 2147483629 / 37 + k)
 have h1 := q9 p c (by lia) hn M o x y
 have h2 := ii c (by lia) M [(x, y)] (by show 1 <= 20; decide)
 have h2' : gf [.lst ((ah p).map av), ba (ah p).length M, .lst [.tup [.int x, .int y]]] = some (aw (aV (eE (ah p) M (cu (ah p) M [(x, y)])))) := h2
 have hd := mG true (me (aV (eE (ah p) M (cu (ah p) M [(x, y)]))))
 refine ⟨(x, y), .sh (aw (aV (eE (ah p) M (cu (ah p) M [(x, y)])))), ?_⟩
 have l1 : 1 <= LIM := aS (by lia)
 have l2 : 2 <= LIM := aS (by lia)
 have hL : cs.length < LIM := Nat.lt_of_lt_of_le (show cs.length < 100000 by lia) (aS (Nat.le_refl _))
 have ht : o6 [aw (aV (eE (ah p) M (cu (ah p) M [(x, y)]))), .ty "tuple"] = some (.bl true) := rfl
 generalize hMd : ba (ah p).length M = Md at *
 generalize (ah p).map av = Sd at *
 generalize aw (aV (eE (ah p) M (cu (ah p) M [(x, y)]))) = G at *
 generalize aw p = PP at *
 generalize D.scr (ns.map D.int) = SS at *
 simp [lS, hf, hxy, h1, h2', ht, hd, l1, l2, hL]
theorem BF (ns : List Int) (h : ns.length <= 63) : Dj [.scr (ns.map D.int)] = some (.bl true) := by
 obtain ⟨p, hp, c, hpl, hn⟩ := nB ns h
 have hS := lc p (by lia)
 obtain ⟨M, hM, o⟩ := qz (ah p) (by lia)
 obtain ⟨ρ', k1, cs, v5, v6, v7, v8, rfl, hcs⟩ := a5 (g := ad 5) (m := lS) (fun k : Nat => D.int (k : Int)) (fun pre ρ => ∃ (cs : R) (v5 v6 v7 v8 : Sl), ρ = [.sh (.scr (ns.map D.int)), .sh (aw p), .sh (.lst ((ah p).map av)), .sh (ba (ah p).length M), owl (cs.map prD), v5, v6, v7, v8, .un] /\ cs.length = pre.length) (List.range 4) [.sh (.scr (ns.map D.int)), .sh (aw p), .sh (.lst ((ah p).map av)), .sh (ba (ah p).length M), .ow (.lst []), .un, .un, .un, .un, .un] ⟨[], .un, .un, .un, .un, rfl, rfl⟩ (by
  rintro pre k post _ e ⟨cs, v5, v6, v7, v8, rfl, hcs⟩
  have hpl4 : pre.length < 4 := by
   have := congrArg List.length e
   rw [List.length_range, List.length_append, List.length_cons] at this
   lia
  obtain ⟨d, w8, hb⟩ := AS ns p c hpl hn M o cs (by lia) k v6 v7 v8 .un
  exact ⟨_, _, rfl, .inl hb, cs ++ [d], _, _, _, _, rfl, by rw [List.length_append, List.length_append, hcs]; rfl⟩)
 rw [List.length_range] at hcs
 have hr := lz 4 (by lia)
 have hr' : AM [D.int 4] = some ((List.range 4).map fun i : Nat => D.int (i : Int)) := hr
 obtain ⟨f, hf⟩ := eT ns 1
 have hf' : cU [.scr (ns.map D.int), .int 1] = some (.int f) := hf
 obtain ⟨ds, hds⟩ : ∃ ds, gW cs none (some (1 + f % 3)) = ds := ⟨_, rfl⟩
 have hdl : ds.length <= 4 := by rw [<- hds]; have := Ad cs none (some (1 + f % 3)); lia
 have hcut : gW (cs.map prD) none (some (1 + f % 3)) = ds.map prD := by rw [xD, hds]
 obtain ⟨q, hq, cq, hqm, hq1, hq2⟩ := l4 ds (by lia)
 have t1 := iY p q c cq hpl hn (by lia) (by lia) M o (cu (ah p) M ds) fun j hj => by
  rw [u4]
  constructor
  ·rintro ⟨k, hk, e, d, hd, hi⟩
   exact ⟨k, hk, e, d.1, d.2, hi, (hqm _ _).mpr hd⟩
  ·rintro ⟨k, hk, e, x, y, hi, hm⟩
   exact ⟨k, hk, e, (x, y), (hqm _ _).mp hm, hi⟩
 have t2 := ii c (by lia) M ds (by lia)
 have t3 := iY p [] c iP hpl hn (by decide) (by decide) M o (fun _ => false) fun j hj => by
  constructor
  ·intro z; cases z
  ·rintro ⟨_, _, _, x, y, _, hm⟩
   exact absurd hm (dr x y)
 have e3 : eE (ah p) M (fun _ => false) = [] := by unfold eE; simp
 rw [e3, qA] at t3
 have t3' : iB [aw p, .tup []] = some (.tup []) := t3
 have t4 := iY p p c c hpl hn (by lia) hn M o (fun _ => true) fun j hj => by
  refine ⟨fun _ => ⟨j, hj, rfl, (sAt (ah p) j).2.1, (sAt (ah p) j).1, ⟨rfl, Int.le_refl _, cD c (bT hj)⟩, (eB p _ _).mp ⟨_, bT hj, rfl, Int.le_refl _, cD c (bT hj)⟩⟩, fun _ => rfl⟩
 have e4 : aV (eE (ah p) M fun _ => true) = p := by
  rw [<- jQ (ts := ah p) (fun t => by
   rw [dueH_mem]
   constructor
   ·intro ht
    obtain ⟨j, hj, e⟩ := bD ht
    exact ⟨j, hj, rfl, e⟩
   ·rintro ⟨j, hj, _, e⟩
    rw [<- e]
    exact bT hj) (l7 (fk c) M _) (ni c M _)]
  exact zA c
 rw [e4] at t4
 have d1 := mG true (me (aV (eE (ah p) M (cu (ah p) M ds))))
 have d2 : dEq false (.tup []) (.tup []) = some (.bl true) := mG false (me [])
 have d3 := mG false (me p)
 have ht : o6 [aw (aV (eE (ah p) M (cu (ah p) M ds))), .ty "tuple"] = some (.bl true) := rfl
 generalize hMd : ba (ah p).length M = Md at *
 generalize (ah p).map av = Sd at *
 generalize aw (aV (eE (ah p) M (cu (ah p) M ds))) = G at *
 generalize aw p = PP at *
 generalize aw q = QQ at *
 generalize D.scr (ns.map D.int) = SS at *
 have l0 : 0 <= LIM := Nat.zero_le _
 simp [Dj, wH, fnO, yq, hp, hS, hM, hr', k1, hf', dSl, hcut, hq, t1, t2, ht, d1, t3', d2, t4, d3]
end P
namespace L2
open PySem PySem.Spec PyProof.Rows M
section
variable {X : Cx} {a b e : Expr} {es : List Expr} {ta tb te : TE} {t : TA} {p pos pos' : Pos} {x : Str}
theorem pgn (i : Nat) (hN : X.N.Nodup) (hi : X.N[i]? = some x := by rfl) (hx : Loc X.env.scope x := by exact .inl rfl) (hf : X.fn x = true \/ X.env.scope.names.lookup x = some .local := by first | exact .inl rfl | exact .inr rfl | assumption) : PG X (.Name x pos) (iE i) := mF hN hi hx hf
theorem pgc {N : List Str} {scope : Scope} {z : CxZ} (i : Nat) (hN : N.Nodup := by decide +kernel) (hi : (cxC X N scope z).N[i]? = some x := by rfl) (hx : Loc (cxC X N scope z).env.scope x := by exact .inl rfl) (hf : (cxC X N scope z).fn x = true \/ (cxC X N scope z).env.scope.names.lookup x = some .local := by first | exact .inl rfl | exact .inr rfl | assumption) : PG (cxC X N scope z) (.Name x pos) (iE i) := mF hN hi hx hf
theorem pst (i : Nat) (hN : X.N.Nodup) (he : PE X e te) (hi : X.N[i]? = some x := by rfl) (hx : Loc X.env.scope x := by exact .inl rfl) (hs : swapsWith e (some (.Name x pos')) pos.line X.env = pure false := by rfl) (hf : X.fn x = true \/ X.env.scope.names.lookup x = some .local := by first | exact .inl rfl | exact .inr rfl | assumption) :
  PS X (.Assign [.Name x pos'] e pos) (uU te (iE i)) := mV hN hi hx he hs hf
theorem pix (ha : PE X a ta) (hb : PE X b tb) (hs : yb b := by exact fun _ _ => rfl) : PE X (.Subscript a b pos) (tOp (rIx X.K) ta tb) := Gj EB ha hb hs
theorem ptc {op : CmpOp} {r : R2} (ho : OpR X (compareOp op) r) (ha : PE X a ta) (hb : PE X b tb) (hm : behindInMarks op b = false := by exact lh _) : PT X (.Compare a [op] [b] pos) (A8 (tOp r ta tb)) := yo ho ha hb hm
theorem pcl {n k : Nat} {ps : List Str} {sp : Sp} {f : Addr} {fd : FuncData} (F : FnOk X.prog X.w X.K X.mg X.base CX0 n f fd ps sp) (hr : Room k X.A) (hm : X.mg x = some (.ref f)) (hk : W.keepIn X.K (.ref f) = true) (hb : Binds X.K fd ps []) (ha : PA X (e :: es) t) (hn : n <= k := by decide) (hg : Gl X x := by rfl) (hdb : (x == ("__debug__" : Str)) = false := by decide)
  (he : starEach (e :: es) X.env = (false, eval e X.env) :: starEach es X.env := by rfl) (hpl : (backTo pos (starEach es X.env)).any (·.1) = false := by rfl) : PE X (.Call (.Name x p) (e :: es) [] pos) (xV sp [] E0 t) := BN F (hr.mono hn) hg hm hk hb .nil Fm ha hdb he hpl
end
theorem Fun.okk {P : Program} {w : World} {K : W.Frag} {mg : Str -> Option Value} {base : Heap} {x qual : Str} {st : Stmt} {f : Addr} {fd : FuncData} {N ps : List Str} {k n j : Nat} {y : XS} {t : TS} (F : Fun K x qual st f fd) (hs : SS K t y) (hN : N.length = n) (hj : ps.length = j) (S : FnScope N ps (aU st))
  (hb : N.Nodup -> ∀ (cdv : Value) (A : Around) (outer : List PySem.Env) (s : Shared) (H : Hp) (E : XK), Room k (A.deeper (envOfC qual (aU st) s.heap.objs.size f cdv)) ->
   ∃ t', PSs (wY CX0 P w K mg base N qual (aU st) f cdv A outer s H E).nox (kf st) t' /\ t' = t) : FnOk P w K mg base CX0 (k + 1) f fd ps (dg K j (fnO n y)) := by
 refine F.ok S (fun vs H Q E h => h.1.trans hj.symm) fun cdv A outer s H vs Q E hr h => ?_
 obtain ⟨t', h1, rfl⟩ := hb S.nd cdv A outer s H E hr
 exact ⟨_, h1, M.xP hs hN h⟩
end L2
namespace Lw
open PySem PySem.W L2 M P
set_option autoImplicit true
def top (i : Nat) : Stmt := PySem.Challenge.pw_shapethin_k44_the_piece_at_a_cell.main.body.getD i (.Pass ⟨0, 0, 0, 0⟩)
abbrev oS : Stmt := top 1
abbrev km : Stmt := top 2
abbrev ma : Stmt := top 3
abbrev fI : Stmt := top 5
abbrev gm : Stmt := top 6
abbrev vT : Stmt := top 7
abbrev eu : Stmt := top 8
abbrev pL : Stmt := top 9
abbrev jo : Stmt := top 11
abbrev lL : Stmt := top 14
abbrev kP : Stmt := top 15
abbrev nM : Stmt := top 16
abbrev iU : Stmt := top 17
abbrev uw : Stmt := top 18
abbrev dS : Stmt := top 19
abbrev pB : Stmt := top 20
abbrev j7 : Stmt := top 21
abbrev o8 : Stmt := top 23
abbrev sY : Stmt := top 24
abbrev Aq : Stmt := top 25
abbrev qv : Stmt := top 26
abbrev lw : Stmt := top 27
abbrev vR : Stmt := top 28
abbrev pj : Stmt := top 29
abbrev jh : Stmt := top 30
abbrev xJ : Stmt := top 31
abbrev jD : Stmt := top 32
abbrev kJ : Stmt := top 33
abbrev Dg : Stmt := top 34
structure Txt (K : Frag) (mg : Str -> Option Value) : Prop where
 any : mg "any" = none
 dict : mg "dict" = none
 int : mg "int" = none
 isinstance : mg "isinstance" = none
 len : mg "len" = none
 list : mg "list" = none
 max : mg "max" = none
 min : mg "min" = none
 range : mg "range" = none
 sorted : mg "sorted" = none
 tuple : mg "tuple" = none
 BY_EIGHT : ∃ t : Tok, mg "BY_EIGHT" = some (.int (1) t)
section
variable {P : Program} {w : World} {K : Frag} {mg : Str -> Option Value} {base : Heap}
local macro_rules | `(tactic| ac_rfl) => `(tactic| exact ⟨rfl, rfl, rfl, by decide +kernel, rfl, by decide +kernel, by decide +kernel⟩)
theorem AD (F : Fun K "_law_cell" "_law_cell" xJ f fd) (T : Txt K mg) : FnOk P w K mg base CX0 1 f fd ["_law_stretches_here", "_law_cell_here"] (uE K) := F.okk (N := ["_law_stretches_here", "_law_cell_here", "_law_y", "_law_low", "_law_high"]) (AE K).2 rfl rfl (by ac_rfl) fun nd _ _ _ _ _ _ hr => ⟨_, ao (cn (ptc (gy hr.units) (aI bc (by rfl) T.len cV (ab (pv 0) af)) ai) (ar (aQ (aD (ab (aE dY (pv 1) ai) (ab (aE dY (aE eU (pv 1) ai) ai) af))))) bA) (ao (jI (pix (pv 0) (aE dY (pv 1) (aI bc (by rfl) T.len cV (ab (pv 0) af)))) (bI rfl (au (pgn 2 nd) (au (pgn 3 nd) (au (pgn 4 nd) bd))))) (ar (aQ (pix (bM (ab (aD (ab (pv 3) (ab (pv 2) af))) (ab (aD (ab (pv 4) (ab (pv 2) af))) (ab (aD (ab (pv 3) (ab (pv 2) af))) (ab (aD (ab (pv 4) (ab (pv 2) af))) (ab (aD (ab (aE aX (pv 4) ai) (ab (pv 2) af))) (ab (aD (ab (pv 3) (ab (aE aX (pv 2) ai) af))) af))))))) (aE dY (aE eU (pv 1) ai) ai))))), rfl⟩
abbrev yd := Ak CX0 1 "_law_cell" ["_law_stretches_here", "_law_cell_here"] uE
theorem u9 (F : Fun K "_law_cell_at" "_law_cell_at" o8 f fd) (T : Txt K mg) : FnOk P w K mg base CX0 1 f fd ["_law_script", "_law_k"] (nX K) := F.okk (N := ["_law_script", "_law_k"]) (wa K).2 rfl rfl (by ac_rfl) fun nd _ _ _ _ _ _ hr => ⟨_, ao (cn (ptc o4 (pv 1) (aI bc (by rfl) T.len cV (ab (pv 0) af))) (ar (aQ (pix (pv 0) (pv 1)))) bA) (ar (aQ ai)), rfl⟩
abbrev kN := Ak CX0 1 "_law_cell_at" ["_law_script", "_law_k"] nX
theorem uq (F : Fun K "_law_of_cells" "_law_of_cells" jD f fd) (T : Txt K mg) : FnOk P w K mg base CX0 1 f fd ["_law_cells"] (mz K) := F.okk (N := ["_law_cells", "_law_rows", "_law_y", "_law_x", "_law_low", "_law_high"]) (uj K).2 rfl rfl (by ac_rfl) fun nd _ _ _ _ _ _ hr => ⟨_, ao (pst 1 nd (bM af)) (ao (cv PassesOwn.never rfl (bz (aI fO (by rfl) T.sorted kd (ab (c9 (show CmpOk ["_law_cells", "_law_rows", "_law_y", "_law_x", "_law_low", "_law_high"] (aU jD) _ ["_law_x", "_law_y"] [none, none] from gJ) (bz (pv 0)) (fun _ => bI rfl (au (pgc 0) (au (pgc 1) bd))) (fB (aJ aM (aJ aM dE az) az)) (fun _ => fS) (fun _ => aD (ab (pv 1) (ab (pv 0) af)))) af))) (bI rfl (au (pgn 2 nd) (au (pgn 3 nd) bd))) (ar (cn (PW.pt (xQ (ptc (gy hr.units) (aI bc (by rfl) T.len cV (ab (pv 1) af)) ai) (tK (ptc (jB hr.units) (pix (pix (pv 1) (dq b7 ai)) ai) (pv 2))))) (ar (bW (e8 PySem.F.plainAttrs_list PySem.F.slot_list_append PySem.F.type_list_append br (pv 1) (ab (aD (ab (pv 2) (ab (aD (ab (aD (ab (pv 3) (ab (pv 3) af))) af)) af))) af)))) (ao (jI (pix (pix (pix (pv 1) (dq b7 ai)) ai) (dq b7 ai)) (bI rfl (au (pgn 4 nd) (au (pgn 5 nd) bd)))) (ar (cn (ptc sE (pv 3) (aE aX (pv 5) ai)) (ar (jI (aD (ab (pv 2) (ab (aE aX (pix (pix (pv 1) (dq b7 ai)) ai) (aD (ab (aD (ab (pv 3) (ab (pv 3) af))) af))) af))) (ph (pv 1) (dq b7 ai) jv))) (ar (jI (aD (ab (pv 2) (ab (aE aX (oY Ez (pix (pix (pv 1) (dq b7 ai)) ai) (xK) (oI (dq b7 ai))) (aD (ab (aD (ab (pv 4) (ab (aI (iq rfl) (by rfl) T.max qw (ab (pv 5) (ab (pv 3) af))) af))) af))) af))) (ph (pv 1) (dq b7 ai) jv))))))))) (ar (aQ (cj bB (by rfl) T.tuple dl (ab (pv 1) af))))), rfl⟩
abbrev nT := Ak CX0 1 "_law_of_cells" ["_law_cells"] mz
theorem mS (F : Fun K "_law_put_together" "_law_put_together" jh f fd) (T : Txt K mg) : FnOk P w K mg base CX0 1 f fd ["_law_stretches_here"] (g9 K) := F.okk (N := ["_law_stretches_here", "_law_rows", "_law_y", "_law_low", "_law_high"]) (nc K).2 rfl rfl (by ac_rfl) fun nd _ _ _ _ _ _ hr => ⟨_, ao (pst 1 nd (bM af)) (ao (cv PassesOwn.never rfl (bz (aI fO (by rfl) T.sorted kd (ab (pv 0) af))) (bI rfl (au (pgn 2 nd) (au (pgn 3 nd) (au (pgn 4 nd) bd)))) (ar (cn (PW.pt (iW (ptc sE (aI bc (by rfl) T.len cV (ab (pv 1) af)) ai) (fL (ptc (gy hr.units) (pix (pix (pv 1) (dq b7 ai)) ai) (pv 2))))) (ar (jI (aD (ab (pv 2) (ab (aE aX (pix (pix (pv 1) (dq b7 ai)) ai) (aD (ab (aD (ab (pv 3) (ab (pv 4) af))) af))) af))) (ph (pv 1) (dq b7 ai) jv))) (ar (bW (e8 PySem.F.plainAttrs_list PySem.F.slot_list_append PySem.F.type_list_append br (pv 1) (ab (aD (ab (pv 2) (ab (aD (ab (aD (ab (pv 3) (ab (pv 4) af))) af)) af))) af))))))) (ar (aQ (cj bB (by rfl) T.tuple dl (ab (pv 1) af))))), rfl⟩
abbrev jq := Ak CX0 1 "_law_put_together" ["_law_stretches_here"] g9
theorem BR (F : Fun K "_law_row" "_law_row" Aq f fd) (T : Txt K mg) : FnOk P w K mg base CX0 1 f fd ["_law_bits", "_law_x", "_law_wide"] (yj K) := F.okk (N := ["_law_bits", "_law_x", "_law_wide", "_law_row_here", "_law_k", "_law_size"]) (CF K).2 rfl rfl (by ac_rfl) fun nd _ _ _ _ _ _ hr => ⟨_, ao (pst 3 nd (bM af)) (ao (cv PassesOwn.never rfl (eP (by rfl) T.range (ab ai af)) (pgn 4 nd) (ao (pst 5 nd ai) (ao (cn (gE (pv 2) (fun _ => rfl)) (ar (pst 5 nd (pix (bM (ab ai (ab ai (ab ai (ab (aE xt ai ai) (ab ai (ab ai (ab ai (ab ai af))))))))) (pv 4)))) bA) (ao (cn (ptc (gy hr.units) (aE dY (pv 0) ai) ai) (ar (cn (PW.pt (iW (ptc sE (aI bc (by rfl) T.len cV (ab (pv 3) af)) ai) (fL (ptc (gy hr.units) (pix (pix (pv 3) (dq b7 ai)) ai) (aE eN (pv 1) ai))))) (ar (jI (aD (ab (pix (pix (pv 3) (dq b7 ai)) ai) (ab (aE eN (aE aX (pv 1) (pv 5)) ai) af))) (ph (pv 3) (dq b7 ai) jv))) (ar (bW (e8 PySem.F.plainAttrs_list PySem.F.slot_list_append PySem.F.type_list_append br (pv 3) (ab (aD (ab (pv 1) (ab (aE eN (aE aX (pv 1) (pv 5)) ai) af))) af)))))) bA) (ao (pst 0 nd (aE eU (pv 0) ai)) (ar (pst 1 nd (aE aX (pv 1) (pv 5))))))))) (ar (aQ (cj bB (by rfl) T.tuple dl (ab (pv 3) af))))), rfl⟩
abbrev zY := Ak CX0 1 "_law_row" ["_law_bits", "_law_x", "_law_wide"] yj
theorem wf (F : Fun K "_law_signed" "_law_signed" sY f fd) (T : Txt K mg) : FnOk P w K mg base CX0 1 f fd ["_law_cell_here", "_law_most"] (oQ K) := F.okk (N := ["_law_cell_here", "_law_most"]) (wD K).2 rfl rfl (by ac_rfl) fun nd _ _ _ _ _ _ hr => ⟨_, ao (cn (ptc o4 (pv 0) ai) (ar (aQ (aE eN ai (aE dY (aE eN ai (pv 0)) (pv 1))))) bA) (ar (aQ (aE dY (pv 0) (pv 1)))), rfl⟩
abbrev su := Ak CX0 1 "_law_signed" ["_law_cell_here", "_law_most"] oQ
theorem rE (F : Fun K "_law_stretches" "_law_stretches" lw f fd) (T : Txt K mg) : FnOk P w K mg base CX0 1 f fd ["_law_picture_here"] (kr K) := F.okk (N := ["_law_picture_here", "_law_found", "_law_y", "_law_row_here", "_law_low", "_law_high"]) (rm K).2 rfl rfl (by ac_rfl) fun nd _ _ _ _ _ _ hr => ⟨_, ao (pst 1 nd (bM af)) (ao (cv PassesOwn.never rfl (bz (pv 0)) (bI rfl (au (pgn 2 nd) (au (pgn 3 nd) bd))) (ar (cv PassesOwn.never rfl (bz (pv 3)) (bI rfl (au (pgn 4 nd) (au (pgn 5 nd) bd))) (ar (bW (e8 PySem.F.plainAttrs_list PySem.F.slot_list_append PySem.F.type_list_append br (pv 1) (ab (aD (ab (pv 2) (ab (pv 4) (ab (pv 5) af)))) af))))))) (ar (aQ (pv 1)))), rfl⟩
abbrev lA := Ak CX0 1 "_law_stretches" ["_law_picture_here"] kr
theorem zG (F : Fun K "_law_touch" "_law_touch" vR f fd) (T : Txt K mg) : FnOk P w K mg base CX0 1 f fd ["_law_one", "_law_other"] (tD K) := F.okk (N := ["_law_one", "_law_other"]) (yR K).2 rfl rfl (by ac_rfl) fun nd _ _ _ _ _ _ hr => ⟨_, ao (cn (PW.pt (iW (ptc (jB hr.units) (pix (pv 0) ai) (aE aX (pix (pv 1) ai) ai)) (fL (ptc (jB hr.units) (pix (pv 1) ai) (aE aX (pix (pv 0) ai) ai))))) (ar (aQ pQ)) bA) (ar (aQ (AK (kb kF (pix (pv 0) ai) (aE aX (pix (pv 1) ai) ai) (lh _)) (Bn (kb kF (pix (pv 1) ai) (aE aX (pix (pv 0) ai) ai) (lh _)))))), rfl⟩
abbrev vi := Ak CX0 1 "_law_touch" ["_law_one", "_law_other"] tD
theorem pM (F : Fun K "count_up_to" "count_up_to" km f fd) (T : Txt K mg) : FnOk P w K mg base CX0 1 f fd ["pairs", "number"] (jS K) := F.okk (N := ["pairs", "number", "low", "high", "middle"]) (pZ K).2 rfl rfl (by ac_rfl) fun nd _ _ _ _ _ _ hr => ⟨_, ao (pst 2 nd ai) (ao (pst 3 nd (aI bc (by rfl) T.len cV (ab (pv 0) af))) (ao (qL PassesOwn.never (ptc o4 (pv 2) (pv 3)) (ao (pst 4 nd (aE eU (aE aX (pv 2) (pv 3)) ai)) (ar (cn (ptc kF (pix (pix (pv 0) (pv 4)) ai) (pv 1)) (ar (pst 2 nd (aE aX (pv 4) ai))) (ar (pst 3 nd (pv 4))))))) (ar (aQ (pv 2))))), rfl⟩
abbrev eV := Ak CX0 1 "count_up_to" ["pairs", "number"] jS
theorem rp (F : Fun K "row_common" "row_common" ma f fd) (T : Txt K mg) : FnOk P w K mg base CX0 1 f fd ["one", "other"] (kG K) := F.okk (N := ["one", "other", "shared", "here", "there", "a", "b"]) (rK K).2 rfl rfl (by ac_rfl) fun nd _ _ _ _ _ _ hr => ⟨_, ao (pst 2 nd (bM af)) (ao (pst 3 nd ai) (ao (pst 4 nd ai) (ao (qL PassesOwn.never (PW.pt (iW (ptc o4 (pv 3) (aI bc (by rfl) T.len cV (ab (pv 0) af))) (fL (ptc o4 (pv 4) (aI bc (by rfl) T.len cV (ab (pv 1) af)))))) (ao (pst 5 nd (aI (iq rfl) (by rfl) T.max qw (ab (pix (pix (pv 0) (pv 3)) ai) (ab (pix (pix (pv 1) (pv 4)) ai) af)))) (ao (pst 6 nd (aI (j5 rfl) (by rfl) T.min tH (ab (pix (pix (pv 0) (pv 3)) ai) (ab (pix (pix (pv 1) (pv 4)) ai) af)))) (ao (cn (ptc kF (pv 5) (pv 6)) (ar (bW (e8 PySem.F.plainAttrs_list PySem.F.slot_list_append PySem.F.type_list_append br (pv 2) (ab (aD (ab (pv 5) (ab (pv 6) af))) af)))) bA) (ar (cn (ptc o4 (pix (pix (pv 0) (pv 3)) ai) (pix (pix (pv 1) (pv 4)) ai)) (ar (wE (i := 3) nd rfl (.inl rfl) ai xm)) (ar (wE (i := 4) nd rfl (.inl rfl) ai xm)))))))) (ar (aQ (cj bB (by rfl) T.tuple dl (ab (pv 2) af))))))), rfl⟩
abbrev lG := Ak CX0 1 "row_common" ["one", "other"] kG
theorem y9 (F : Fun K "row_of" "row_of" oS f fd) (T : Txt K mg) : FnOk P w K mg base CX0 1 f fd ["pairs"] (r9 K) := F.okk (N := ["pairs", "stretches", "a", "b"]) (zz K).2 rfl rfl (by ac_rfl) fun nd _ _ _ _ _ _ hr => ⟨_, ao (pst 1 nd (bM af)) (ao (cv PassesOwn.never rfl (bz (aI fO (by rfl) T.sorted kd (ab (c9 (show CmpOk ["pairs", "stretches", "a", "b"] (aU oS) _ ["a", "b"] [none, none] from gJ) (bz (pv 0)) (fun _ => bI rfl (au (pgc 0) (au (pgc 1) bd))) (fB (aJ aM (aJ aM dE az) az)) (fun _ => mB (ptc kF (pv 0) (pv 1))) (fun _ => aD (ab (pv 0) (ab (pv 1) af)))) af))) (bI rfl (au (pgn 2 nd) (au (pgn 3 nd) bd))) (ar (cn (PW.pt (iW (gE (pv 1) (fun _ => rfl)) (fL (ptc kF (pv 2) (aE aX (pix (pix (pv 1) (dq b7 ai)) ai) ai))))) (ar (jI (aD (ab (pix (pix (pv 1) (dq b7 ai)) ai) (ab (aI (iq rfl) (by rfl) T.max qw (ab (pix (pix (pv 1) (dq b7 ai)) ai) (ab (pv 3) af))) af))) (ph (pv 1) (dq b7 ai) jv))) (ar (bW (e8 PySem.F.plainAttrs_list PySem.F.slot_list_append PySem.F.type_list_append br (pv 1) (ab (aD (ab (pv 2) (ab (pv 3) af))) af))))))) (ar (aQ (cj bB (by rfl) T.tuple dl (ab (pv 1) af))))), rfl⟩
abbrev uI := Ak CX0 1 "row_of" ["pairs"] r9
theorem ld (F : Fun K "rows_with_cells" "rows_with_cells" eu f fd) (T : Txt K mg) : FnOk P w K mg base CX0 1 f fd ["rows"] (f9 K) := F.okk (N := ["rows"]) (kY K).2 rfl rfl (by ac_rfl) fun nd _ _ _ _ _ _ hr => ⟨_, ar (aQ (cj bB (by rfl) T.tuple dl (ab (c9 (show CmpOk ["rows"] (aU eu) _ ["y", "row"] [none, none] from gJ) (bz (pv 0)) (fun _ => bI rfl (au (pgc 0) (au (pgc 1) bd))) (fB (aJ aM (aJ aM dE az) az)) (fun _ => mB (ptc (jB hr.units) (pv 1) (aD af))) (fun _ => aD (ab (pv 0) (ab (pv 1) af)))) af))), rfl⟩
abbrev gH := Ak CX0 1 "rows_with_cells" ["rows"] f9
theorem oh (F : Fun K "stretches_of" "stretches_of" gm f fd) (T : Txt K mg) : FnOk P w K mg base CX0 1 f fd ["picture"] (jk K) := F.okk (N := ["picture", "stretches", "y", "row"]) (oq K).2 rfl rfl (by ac_rfl) fun nd _ _ _ _ _ _ hr => ⟨_, ao (pst 1 nd (bM af)) (ao (cv PassesOwn.never rfl (bz (pv 0)) (bI rfl (au (mF (i := 2) nd rfl (.inr rfl)) (au (pgn 3 nd) bd))) (ar (bW (e8 PySem.F.plainAttrs_list PySem.F.slot_list_extend PySem.F.type_list_extend tS (pv 1) (ab (c9 (show CmpOk ["picture", "stretches", "y", "row"] (aU gm) _ ["a", "b", "y"] [none, none, some 2] from gJ) (bz (pv 3)) (fun _ => bI rfl (au (pgc 0) (au (pgc 1) bd))) (fB (aJ aM (aJ aM dE az) az)) (fun _ => fS) (fun _ => aD (ab (pv 2) (ab (pv 0) (ab (pv 1) af))))) af))))) (ar (aQ (pv 1)))), rfl⟩
abbrev gr := Ak CX0 1 "stretches_of" ["picture"] jk
theorem vO (F : Fun K "_law_classes" "_law_classes" kJ f fd) (T : Txt K mg) (bO : jq P w K mg base ji g7) : FnOk P w K mg base CX0 2 f fd ["_law_stretches_here", "_law_marks_here", "_law_cells"] (nI K) := F.okk (N := ["_law_stretches_here", "_law_marks_here", "_law_cells", "_law_held", "_law_x", "_law_y", "_law_k"]) (uV K).2 rfl rfl (by ac_rfl) fun nd _ _ _ _ _ _ hr => ⟨_, ao (mV (i := 3) nd rfl (.inr rfl) (bM af)) (ao (cv PassesOwn.never rfl (bz (pv 2)) (bI rfl (au (pgn 4 nd) (au (pgn 5 nd) bd))) (ar (cv PassesOwn.never rfl (eP (by rfl) T.range (ab (aI bc (by rfl) T.len cV (ab (pv 0) af)) af)) (pgn 6 nd) (ar (cn (PW.pt (iW (ptc (gy hr.units) (pix (pix (pv 0) (pv 6)) ai) (pv 5)) (fL (Al kF kF (pix (pix (pv 0) (pv 6)) ai) (pv 4) (pix (pix (pv 0) (pv 6)) ai))))) (ar (bW (e8 PySem.F.plainAttrs_list PySem.F.slot_list_append PySem.F.type_list_append br (pv 3) (ab (pix (pv 1) (pv 6)) af)))) bA))))) (ar (aQ (pcl bO.G hr bO.m bO.k bO.b (ab (c9 (show CmpOk ["_law_stretches_here", "_law_marks_here", "_law_cells", "_law_held", "_law_x", "_law_y", "_law_k"] (aU kJ) _ ["_law_k", "_law_stretches_here", "_law_held", "_law_marks_here"] [none, some 0, some 3, some 1] from gJ) (eP (by rfl) T.range (ab (aI bc (by rfl) T.len cV (ab (pv 0) af)) af)) (fun _ => pgc 0) aM (fun _ => mB (yo zf (pix (pv 3) (pv 0)) (pv 2) rfl)) (fun _ => pix (pv 1) (pv 0))) af))))), rfl⟩
abbrev o9 := Ak CX0 2 "_law_classes" ["_law_stretches_here", "_law_marks_here", "_law_cells"] nI
theorem zC (F : Fun K "_law_marks" "_law_marks" pj f fd) (T : Txt K mg) (ij : vi P w K mg base uX rZ) : FnOk P w K mg base CX0 2 f fd ["_law_stretches_here"] (rX K) := F.okk (N := ["_law_stretches_here", "_law_marks_here", "_law_k", "_law_j", "_law_low", "_law_high"]) (ze K).2 rfl rfl (by ac_rfl) fun nd _ _ _ _ _ _ hr => ⟨_, ao (pst 1 nd (cj (wv rfl) (by rfl) T.list B7 (ab (zp (by rfl) T.range (ab (aI bc (by rfl) T.len cV (ab (pv 0) af)) af)) af))) (ao (cv PassesOwn.never rfl (eP (by rfl) T.range (ab (aI bc (by rfl) T.len cV (ab (pv 0) af)) af)) (pgn 2 nd) (ar (cv PassesOwn.never rfl (eP (by rfl) T.range (ab (pv 2) af)) (pgn 3 nd) (ar (cn (PW.pt (iW (ptc (jB hr.units) (pix (pv 1) (pv 3)) (pix (pv 1) (pv 2))) (fL (gE (pcl ij.G hr ij.m ij.k ij.b (ab (pix (pv 0) (pv 3)) (ab (pix (pv 0) (pv 2)) af))) (fun _ => rfl))))) (ao (mV (i := 4) nd rfl (.inr rfl) (aI (j5 rfl) (by rfl) T.min tH (ab (pix (pv 1) (pv 3)) (ab (pix (pv 1) (pv 2)) af)))) (ao (mV (i := 5) nd rfl (.inr rfl) (aI (iq rfl) (by rfl) T.max qw (ab (pix (pv 1) (pv 3)) (ab (pix (pv 1) (pv 2)) af)))) (ar (B6 (i := 1) (hN := nd) (hi0 := rfl) (hx := Or.inl rfl) (ck := (show CmpOk ["_law_stretches_here", "_law_marks_here", "_law_k", "_law_j", "_law_low", "_law_high"] (aU pj) _ ["_law_mark", "_law_low", "_law_high"] [none, some 4, some 5] from gJ)) (hi := bz (pv 1)) (hg := fun _ => pgc 0) (hs := aM) (ht := fun _ => fS) (he := fun _ => pix (bM (ab (pv 0) (ab (pv 1) af))) (cj zg (by rfl) T.int DT (ab (kb (gy hr.units) (pv 0) (pv 2) (lh _)) af))))))) bA))))) (ar (aQ (pv 1)))), rfl⟩
abbrev vC := Ak CX0 2 "_law_marks" ["_law_stretches_here"] rX
theorem u3 (F : Fun K "_law_picture" "_law_picture" qv f fd) (T : Txt K mg) (aZ : kN P w K mg base kQ jA) (cJ : su P w K mg base sL p8) (nu : zY P w K mg base BH yl) : FnOk P w K mg base CX0 2 f fd ["_law_script"] (nK K) := F.okk (N := ["_law_script", "_law_first", "_law_x", "_law_y", "_law_rows", "_law_k", "_law_bits", "_law_j", "_law_row_here"]) (uH K).2 rfl rfl (by ac_rfl) fun nd _ _ _ _ _ _ hr => ⟨_, ao (pst 1 nd (pcl aZ.G hr aZ.m aZ.k aZ.b (ab (pv 0) (ab ai af)))) (ao (pst 2 nd (pcl cJ.G hr cJ.m cJ.k cJ.b (ab (aE eU (pv 1) ai) (ab (pix (bM (ab ai (ab (aE xt ai ai) af))) (aE dY (aE eU (pv 1) ai) ai)) af)))) (ao (pst 3 nd (pcl cJ.G hr cJ.m cJ.k cJ.b (ab (aE eU (pv 1) ai) (ab (pix (bM (ab ai (ab (aE xt ai ai) af))) (aE dY (aE eU (pv 1) ai) ai)) af)))) (ao (pst 4 nd (bM af)) (ao (cv PassesOwn.never rfl (eP (by rfl) T.range (ab (aI (j5 rfl) (by rfl) T.min tH (ab ai (ab (aE eN (aI bc (by rfl) T.len cV (ab (pv 0) af)) ai) af))) af)) (pgn 5 nd) (ao (pst 6 nd (aE eU (aE dY (aE xq (pix (pv 0) (aE aX ai (pv 5))) ai) ai) ai)) (ao (cv PassesOwn.never rfl (zj (by rfl) T.range (ab (aE aX ai (pv 5)) (ab (aI (j5 rfl) (by rfl) T.min tH (ab (aI bc (by rfl) T.len cV (ab (pv 0) af)) (ab ai af))) (ab ai af)))) (pgn 7 nd) (ar (pst 6 nd (aE aX (pv 6) (aE dY (aE xq ai (pix (pv 0) (pv 7))) ai))))) (ao (pst 8 nd (pcl nu.G hr nu.m nu.k nu.b (ab (pv 6) (ab (pv 2) (ab (kb (gy hr.units) (aE dY (pv 1) ai) ai (lh _)) af))))) (ar (cn (ptc sE (aI bc (by rfl) T.len cV (ab (pv 8) af)) ai) (ar (bW (e8 PySem.F.plainAttrs_list PySem.F.slot_list_append PySem.F.type_list_append br (pv 4) (ab (aD (ab (aE aX (pv 3) (pv 5)) (ab (pv 8) af))) af)))) bA)))))) (ar (aQ (cj bB (by rfl) T.tuple dl (ab (pv 4) af)))))))), rfl⟩
abbrev pJ := Ak CX0 2 "_law_picture" ["_law_script"] nK
theorem mR (F : Fun K "begun_between" "begun_between" jo f fd) (T : Txt K mg) (aA : eV P w K mg base eX ee) : FnOk P w K mg base CX0 2 f fd ["pairs", "first", "last"] (im K) := F.okk (N := ["pairs", "first", "last"]) (mJ K).2 rfl rfl (by ac_rfl) fun nd _ _ _ _ _ _ hr => ⟨_, ar (aQ (oY Ez (pv 0) (oI (aI (iq rfl) (by rfl) T.max qw (ab ai (ab (aE eN (pcl aA.G hr aA.m aA.k aA.b (ab (pv 0) (ab (pv 1) af))) ai) af)))) (oI (pcl aA.G hr aA.m aA.k aA.b (ab (pv 0) (ab (pv 2) af)))))), rfl⟩
abbrev jl := Ak CX0 2 "begun_between" ["pairs", "first", "last"] im
theorem rd (F : Fun K "picture_of" "picture_of" fI f fd) (T : Txt K mg) (ik : uI P w K mg base uG rR) : FnOk P w K mg base CX0 2 f fd ["stretches"] (kw K) := F.okk (N := ["stretches", "pairs_by_row", "y", "a", "b"]) (rG K).2 rfl rfl (by ac_rfl) fun nd _ _ _ _ _ _ hr => ⟨_, ao (pst 1 nd (bM af)) (ao (cv PassesOwn.never rfl (bz (aI fO (by rfl) T.sorted kd (ab (c9 (show CmpOk ["stretches", "pairs_by_row", "y", "a", "b"] (aU fI) _ ["y", "a", "b"] [none, none, none] from gJ) (bz (pv 0)) (fun _ => bI rfl (au (pgc 0) (au (pgc 1) (au (pgc 2) bd)))) (fB (aJ aM (aJ aM (aJ aM dE az) az) az)) (fun _ => mB (ptc kF (pv 1) (pv 2))) (fun _ => aD (ab (pv 0) (ab (pv 1) (ab (pv 2) af))))) af))) (bI rfl (au (pgn 2 nd) (au (pgn 3 nd) (au (pgn 4 nd) bd)))) (ao (cn (PW.pt (xQ (wS (gE (pv 1) (fun _ => rfl))) (tK (ptc (jB hr.units) (pix (pix (pv 1) (dq b7 ai)) ai) (pv 2))))) (ar (bW (e8 PySem.F.plainAttrs_list PySem.F.slot_list_append PySem.F.type_list_append br (pv 1) (ab (aD (ab (pv 2) (ab (bM af) af))) af)))) bA) (ar (bW (e8 PySem.F.plainAttrs_list PySem.F.slot_list_append PySem.F.type_list_append br (pix (pix (pv 1) (dq b7 ai)) ai) (ab (aD (ab (pv 3) (ab (pv 4) af))) af)))))) (ar (aQ (cj bB (by rfl) T.tuple dl (ab (c9 (show CmpOk ["stretches", "pairs_by_row", "y", "a", "b"] (aU fI) _ ["y", "pairs"] [none, none] from gJ) (bz (pv 1)) (fun _ => bI rfl (au (pgc 0) (au (pgc 1) bd))) (fB (aJ aM (aJ aM dE az) az)) (fun _ => fS) (fun _ => aD (ab (pv 0) (ab (pcl ik.G hr ik.m ik.k ik.b (ab (pv 1) af)) af)))) af))))), rfl⟩
abbrev l9 := Ak CX0 2 "picture_of" ["stretches"] kw
theorem y7 (F : Fun K "row_at" "row_at" vT f fd) (T : Txt K mg) (aA : eV P w K mg base eX ee) : FnOk P w K mg base CX0 2 f fd ["picture", "y"] (sX K) := F.okk (N := ["picture", "y", "begun"]) (zH K).2 rfl rfl (by ac_rfl) fun nd _ _ _ _ _ _ hr => ⟨_, ao (pst 2 nd (pcl aA.G hr aA.m aA.k aA.b (ab (pv 0) (ab (pv 1) af)))) (ao (cn (PW.pt (iW (ptc sE (pv 2) ai) (fL (ptc (gy hr.units) (pix (pix (pv 0) (aE eN (pv 2) ai)) ai) (pv 1))))) (ar (aQ (pix (pix (pv 0) (aE eN (pv 2) ai)) ai))) bA) (ar (aQ (aD af)))), rfl⟩
abbrev lR := Ak CX0 2 "row_at" ["picture", "y"] sX
theorem yG (F : Fun K "common" "common" pL f fd) (T : Txt K mg) (bt : gH P w K mg base gN gz) (cY : lG P w K mg base mw kq) (bj : lR P w K mg base ml kc) : FnOk P w K mg base CX0 3 f fd ["one", "other"] (sC K) := F.okk (N := ["one", "other"]) (yK K).2 rfl rfl (by ac_rfl) fun nd _ _ _ _ _ _ hr => ⟨_, ar (aQ (pcl bt.G hr bt.m bt.k bt.b (ab (c9 (show CmpOk ["one", "other"] (aU pL) _ ["y", "row", "other"] [none, none, some 1] from gJ) (bz (pv 0)) (fun _ => bI rfl (au (pgc 0) (au (pgc 1) bd))) (fB (aJ aM (aJ aM dE az) az)) (fun _ => fS) (fun _ => aD (ab (pv 0) (ab (pcl cY.G hr cY.m cY.k cY.b (ab (pv 1) (ab (pcl bj.G hr bj.m bj.k bj.b (ab (pv 2) (ab (pv 0) af))) af))) af)))) af))), rfl⟩
abbrev vZ := Ak CX0 3 "common" ["one", "other"] sC
theorem kj (F : Fun K "picture_of_piece" "picture_of_piece" dS f fd) (T : Txt K mg) (cX : l9 P w K mg base lQ kx) : FnOk P w K mg base CX0 3 f fd ["piece"] (fE K) := F.okk (N := ["piece"]) (ki K).2 rfl rfl (by ac_rfl) fun nd _ _ _ _ _ _ hr => ⟨_, ar (aQ (pcl cX.G hr cX.m cX.k cX.b (ab (c9 (show CmpOk ["piece"] (aU dS) _ ["y", "a", "b", "place"] [none, none, none, none] from gJ) (bz (pv 0)) (fun _ => bI rfl (au (pgc 0) (au (pgc 1) (au (pgc 2) (au (pgc 3) bd))))) (fB (aJ aM (aJ aM (aJ aM (aJ aM dE az) az) az) az)) (fun _ => fS) (fun _ => aD (ab (pv 0) (ab (pv 1) (ab (pv 2) af))))) af))), rfl⟩
abbrev dJ := Ak CX0 3 "picture_of_piece" ["piece"] fE
theorem rg (F : Fun K "stretch_at" "stretch_at" lL f fd) (T : Txt K mg) (bj : lR P w K mg base ml kc) (aA : eV P w K mg base eX ee) : FnOk P w K mg base CX0 3 f fd ["picture", "x", "y"] (kE K) := F.okk (N := ["picture", "x", "y", "row", "begun"]) (qZ K).2 rfl rfl (by ac_rfl) fun nd _ _ _ _ _ _ hr => ⟨_, ao (pst 3 nd (pcl bj.G hr bj.m bj.k bj.b (ab (pv 0) (ab (pv 2) af)))) (ao (pst 4 nd (pcl aA.G hr aA.m aA.k aA.b (ab (pv 3) (ab (pv 1) af)))) (ao (cn (PW.pt (iW (ptc sE (pv 4) ai) (fL (ptc kF (pv 1) (pix (pix (pv 3) (aE eN (pv 4) ai)) ai))))) (ar (aQ (aE aX (aD (ab (pv 2) af)) (pix (pv 3) (aE eN (pv 4) ai))))) bA) (ar (aQ (wJ))))), rfl⟩
abbrev ja := Ak CX0 3 "stretch_at" ["picture", "x", "y"] kE
theorem vL (F : Fun K "touching" "touching" kP f fd) (T : Txt K mg) (bQ : jl P w K mg base jg iG) (bj : lR P w K mg base ml kc) : FnOk P w K mg base CX0 3 f fd ["picture", "stretch", "reach"] (nJ K) := F.okk (N := ["picture", "stretch", "reach", "first", "last", "found", "y"]) (uJ K).2 rfl rfl (by ac_rfl) fun nd _ _ _ _ _ _ hr => ⟨_, ao (mV (i := 3) nd rfl (.inr rfl) (aE eN (pix (pv 1) ai) (pv 2))) (ao (pst 4 nd (aE aX (pix (pv 1) ai) (pv 2))) (ao (pst 5 nd (bM af)) (ao (cv PassesOwn.never rfl (bz (aD (ab (aE eN (pix (pv 1) ai) ai) (ab (aE aX (pix (pv 1) ai) ai) af)))) (mF (i := 6) nd rfl (.inr rfl)) (ar (bW (e8 PySem.F.plainAttrs_list PySem.F.slot_list_extend PySem.F.type_list_extend tS (pv 5) (ab (c9 (show CmpOk ["picture", "stretch", "reach", "first", "last", "found", "y"] (aU kP) _ ["a", "b", "y", "first"] [none, none, some 6, some 3] from gJ) (bz (pcl bQ.G hr bQ.m bQ.k bQ.b (ab (pcl bj.G hr bj.m bj.k bj.b (ab (pv 0) (ab (pv 6) af))) (ab (pv 3) (ab (pv 4) af))))) (fun _ => bI rfl (au (pgc 0) (au (pgc 1) bd))) (fB (aJ aM (aJ aM dE az) az)) (fun _ => mB (ptc GB (pv 1) (pv 3))) (fun _ => aD (ab (pv 2) (ab (pv 0) (ab (pv 1) af))))) af))))) (ar (aQ (pv 5)))))), rfl⟩
abbrev p9 := Ak CX0 3 "touching" ["picture", "stretch", "reach"] nJ
theorem uc (F : Fun K "walk_from" "walk_from" nM f fd) (T : Txt K mg) (eR : p9 P w K mg base oP nP) : FnOk P w K mg base CX0 4 f fd ["picture", "first", "reach"] (lI K) := F.okk (N := ["picture", "first", "reach", "walk", "walked", "place", "stretch"]) (tU K).2 rfl rfl (by ac_rfl) fun nd _ _ _ _ _ _ hr => ⟨_, ao (pst 3 nd (bM (ab (aE aX (pv 1) (aD (ab (wJ) af))) af))) (ao (pst 4 nd (Aa (DV hr.units) (pv 1) pQ)) (ao (pst 5 nd ai) (ao (qL PassesOwn.never (ptc o4 (pv 5) (aI bc (by rfl) T.len cV (ab (pv 3) af))) (ao (cv PassesOwn.never rfl (bz (pcl eR.G hr eR.m eR.k eR.b (ab (pv 0) (ab (pix (pv 3) (pv 5)) (ab (pv 2) af))))) (pgn 6 nd) (ar (cn (Az (rT (un1 hr.units) (pv 6) (pv 4))) (ao (Co (un1 hr.units) (pv 4) (pv 6) pQ (by rfl)) (ar (bW (e8 PySem.F.plainAttrs_list PySem.F.slot_list_append PySem.F.type_list_append br (pv 3) (ab (aE aX (pv 6) (aD (ab (pv 5) af))) af))))) bA))) (ar (wE (i := 5) nd rfl (.inl rfl) ai xm)))) (ar (aQ (pv 3)))))), rfl⟩
abbrev jY := Ak CX0 4 "walk_from" ["picture", "first", "reach"] lI
theorem rc (F : Fun K "classes_of" "classes_of" iU f fd) (T : Txt K mg) (aR : gr P w K mg base fZ fh) (bh : jY P w K mg base jO iH) : FnOk P w K mg base CX0 5 f fd ["picture", "reach"] (ko K) := F.okk (N := ["picture", "reach", "classes", "walked", "stretch"]) (rF K).2 rfl rfl (by ac_rfl) fun nd _ _ _ _ _ _ hr => ⟨_, ao (pst 2 nd (bM af)) (ao (pst 3 nd AH) (ao (cv PassesOwn.never rfl (bz (pcl aR.G hr aR.m aR.k aR.b (ab (pv 0) af))) (pgn 4 nd) (ar (cn (Az (rT (un1 hr.units) (pv 4) (pv 3))) (ao (bW (e8 PySem.F.plainAttrs_list PySem.F.slot_list_append PySem.F.type_list_append br (pv 2) (ab (pcl bh.G hr bh.m bh.k bh.b (ab (pv 0) (ab (pv 4) (ab (pv 1) af)))) af))) (ar (bW (e8 PySem.F.plainAttrs_dict PySem.F.slot_dict_update PySem.F.type_dict_update (yO (Cl hr.units) rfl) (pv 3) (ab (c9 (show CmpOk ["picture", "reach", "classes", "walked", "stretch"] (aU iU) _ ["y", "a", "b", "place"] [none, none, none, none] from gJ) (bz (pix (pv 2) (dq b7 ai))) (fun _ => bI rfl (au (pgc 0) (au (pgc 1) (au (pgc 2) (au (pgc 3) bd))))) (fB (aJ aM (aJ aM (aJ aM (aJ aM dE az) az) az) az)) (fun _ => fS) (fun _ => aD (ab (aD (ab (pv 0) (ab (pv 1) (ab (pv 2) af)))) (ab pQ af)))) af))))) bA))) (ar (aQ (pv 2))))), rfl⟩
abbrev l6 := Ak CX0 5 "classes_of" ["picture", "reach"] ko
theorem u7 (F : Fun K "piece_at" "piece_at" pB f fd) (T : Txt K mg) (a8 : ja P w K mg base i6 gX) (aF : dJ P w K mg base dR di) (bh : jY P w K mg base jO iH) : FnOk P w K mg base CX0 5 f fd ["picture", "x", "y"] (nL K) := F.okk (N := ["picture", "x", "y", "stretch"]) (vQ K).2 rfl rfl (by ac_rfl) fun nd _ _ _ _ _ _ hr => ⟨_, ao (pst 3 nd (pcl a8.G hr a8.m a8.k a8.b (ab (pv 0) (ab (pv 1) (ab (pv 2) af))))) (ao (cn (ptc Ev (pv 3) (wJ)) (ar (aQ (aD af))) bA) (ar (aQ (pcl aF.G hr aF.m aF.k aF.b (ab (pcl bh.G hr bh.m bh.k bh.b (ab (pv 0) (ab (pv 3) (ab (yw (v := .int (1)) (by rfl) T.BY_EIGHT.choose_spec ⟨_, rfl⟩) af)))) af))))), rfl⟩
abbrev pY := Ak CX0 5 "piece_at" ["picture", "x", "y"] nL
theorem zh (F : Fun K "pieces" "pieces" uw f fd) (T : Txt K mg) (c6 : l6 P w K mg base lX kB) : FnOk P w K mg base CX0 6 f fd ["picture"] (sU K) := F.okk (N := ["picture"]) (zb K).2 rfl rfl (by ac_rfl) fun nd _ _ _ _ _ _ hr => ⟨_, ar (aQ (pcl c6.G hr c6.m c6.k c6.b (ab (pv 0) (ab (yw (v := .int (1)) (by rfl) T.BY_EIGHT.choose_spec ⟨_, rfl⟩) af)))), rfl⟩
abbrev ve := Ak CX0 6 "pieces" ["picture"] sU
theorem wL (F : Fun K "touched" "touched" j7 f fd) (T : Txt K mg) (aR : gr P w K mg base fZ fh) (ip : vZ P w K mg base vm sH) (a8 : ja P w K mg base i6 gX) (hG : ve P w K mg base vn sG) (aF : dJ P w K mg base dR di) : FnOk P w K mg base CX0 7 f fd ["picture", "other"] (qq K) := F.okk (N := ["picture", "other", "met", "kept", "piece"]) (w9 K).2 rfl rfl (by ac_rfl) fun nd _ _ _ _ _ _ hr => ⟨_, ao (mV (i := 2) nd rfl (.inr rfl) (cj (wB (BL hr.units) rfl) (by rfl) T.dict CH (ab (c9 (show CmpOk ["picture", "other", "met", "kept", "piece"] (aU j7) _ ["y", "a", "b", "picture"] [none, none, none, some 0] from gJ) (bz (pcl aR.G hr aR.m aR.k aR.b (ab (pcl ip.G hr ip.m ip.k ip.b (ab (pv 0) (ab (pv 1) af))) af))) (fun _ => bI rfl (au (pgc 0) (au (pgc 1) (au (pgc 2) bd)))) (fB (aJ aM (aJ aM (aJ aM dE az) az) az)) (fun _ => fS) (fun _ => aD (ab (pcl a8.G hr a8.m a8.k a8.b (ab (pv 3) (ab (pv 1) (ab (pv 0) af)))) (ab pQ af)))) af))) (ao (pst 3 nd (bM af)) (ao (cv PassesOwn.never rfl (bz (pcl hG.G hr hG.m hG.k hG.b (ab (pv 0) af))) (pgn 4 nd) (ar (cn (gE (aI (yZ rfl) (by rfl) T.any EA (ab (BV 2 (c9 (show CmpOk ["picture", "other", "met", "kept", "piece"] (aU j7) _ ["y", "a", "b", "place", "met"] [none, none, none, none, some 2] from gJ) (bz (pv 4)) (fun _ => bI rfl (au (pgc 0) (au (pgc 1) (au (pgc 2) (au (pgc 3) bd))))) (fB (aJ aM (aJ aM (aJ aM (aJ aM dE az) az) az) az)) (fun _ => fS) (fun _ => E3 (EC (un1 hr.units) (aD (ab (pv 0) (ab (pv 1) (ab (pv 2) af)))) (pv 4))))) af)) (fun _ => rfl)) (ar (bW (e8 PySem.F.plainAttrs_list PySem.F.slot_list_extend PySem.F.type_list_extend tS (pv 3) (ab (pv 4) af)))) bA))) (ar (aQ (pcl aF.G hr aF.m aF.k aF.b (ab (pv 3) af)))))), rfl⟩
abbrev sO := Ak CX0 7 "touched" ["picture", "other"] qq
theorem EG (F : Fun K "law" "law" Dg f fd) (T : Txt K mg) (eM : pJ P w K mg base pS nH) (de : lA P w K mg base mm kn) (g8 : vC P w K mg base wb tq) (j9 : yd P w K mg base xH uy) (aZ : kN P w K mg base kQ jA) (eS : pY P w K mg base qR nV) (b5 : o9 P w K mg base qF nO) (bv : sO P w K mg base s9 pA) (dW : nT P w K mg base nD md) : FnOk P w K mg base CX0 8 f fd ["_law_script"] (t6 K) := F.okk (N := ["_law_script", "_law_picture_here", "_law_stretches_here", "_law_marks_here", "_law_cells", "_law_k", "_law_x", "_law_y", "_law_found", "_law_some"]) (E4 K).2 rfl rfl (by ac_rfl) fun nd _ _ _ _ _ _ hr => ⟨_, ao (pst 1 nd (pcl eM.G hr eM.m eM.k eM.b (ab (pv 0) af))) (ao (pst 2 nd (pcl de.G hr de.m de.k de.b (ab (pv 1) af))) (ao (pst 3 nd (pcl g8.G hr g8.m g8.k g8.b (ab (pv 2) af))) (ao (pst 4 nd (bM af)) (ao (cv PassesOwn.never rfl (eP (by rfl) T.range (ab ai af)) (pgn 5 nd) (ao (jI (pcl j9.G hr j9.m j9.k j9.b (ab (pv 2) (ab (aE aX (aE eU (aE dY (aE xq (pcl aZ.G hr aZ.m aZ.k aZ.b (ab (pv 0) (ab (pv 5) af))) ai) ai) ai) (pv 5)) af))) (bI rfl (au (pgn 6 nd) (au (pgn 7 nd) bd)))) (ao (pst 8 nd (pcl eS.G hr eS.m eS.k eS.b (ab (pv 1) (ab (pv 6) (ab (pv 7) af))))) (ao (cn (PW.pt (xQ (wS (gE (aI rN (by rfl) T.isinstance kt (ab (pv 8) (ab (yh (v := .ty "tuple") (by rfl) T.tuple dl rfl) af))) (fun _ => rfl))) (tK (ptc (jB hr.units) (pv 8) (pcl b5.G hr b5.m b5.k b5.b (ab (pv 2) (ab (pv 3) (ab (bM (ab (aD (ab (pv 6) (ab (pv 7) af))) af)) af)))))))) (ar (aQ pQ)) bA) (ar (bW (e8 PySem.F.plainAttrs_list PySem.F.slot_list_append PySem.F.type_list_append br (pv 4) (ab (aD (ab (pv 6) (ab (pv 7) af))) af)))))))) (ao (pst 9 nd (oY Ez (pv 4) (xK) (oI (aE aX ai (aE dY (pcl aZ.G hr aZ.m aZ.k aZ.b (ab (pv 0) (ab ai af))) ai))))) (ao (pst 8 nd (pcl bv.G hr bv.m bv.k bv.b (ab (pv 1) (ab (pcl dW.G hr dW.m dW.k dW.b (ab (pv 9) af)) af)))) (ao (cn (PW.pt (xQ (wS (gE (aI rN (by rfl) T.isinstance kt (ab (pv 8) (ab (yh (v := .ty "tuple") (by rfl) T.tuple dl rfl) af))) (fun _ => rfl))) (tK (ptc (jB hr.units) (pv 8) (pcl b5.G hr b5.m b5.k b5.b (ab (pv 2) (ab (pv 3) (ab (pv 9) af)))))))) (ar (aQ pQ)) bA) (ar (aQ (AK (kb (gy hr.units) (pcl bv.G hr bv.m bv.k bv.b (ab (pv 1) (ab (aD af) af))) (aD af) (lh _)) (Bn (kb (gy hr.units) (pcl bv.G hr bv.m bv.k bv.b (ab (pv 1) (ab (pv 1) af))) (pv 1) (lh _))))))))))))), rfl⟩
end
theorem EM {l : OpenLaw} {w : World} {K : Frag} {h : Heap} {mg : Str -> Option Value} {fa : Addr} (X : K.In h) (G : h.Ns mainGlobals mg) (hfa : mg "law" = some (.ref fa))
  (AX : nsIn K mainGlobals "row_of" = some (some (.ref uG)))
  (rC : nsIn K mainGlobals "count_up_to" = some (some (.ref eX)))
  (tJ : nsIn K mainGlobals "row_common" = some (some (.ref mw)))
  (ug : nsIn K mainGlobals "picture_of" = some (some (.ref lQ)))
  (pN : nsIn K mainGlobals "stretches_of" = some (some (.ref fZ)))
  (Aw : nsIn K mainGlobals "row_at" = some (some (.ref ml)))
  (mo : nsIn K mainGlobals "rows_with_cells" = some (some (.ref gN)))
  (BB : nsIn K mainGlobals "common" = some (some (.ref vm)))
  (n9 : nsIn K mainGlobals "begun_between" = some (some (.ref jg)))
  (tR : nsIn K mainGlobals "stretch_at" = some (some (.ref i6)))
  (xg : nsIn K mainGlobals "touching" = some (some (.ref oP)))
  (vX : nsIn K mainGlobals "walk_from" = some (some (.ref jO)))
  (uo : nsIn K mainGlobals "classes_of" = some (some (.ref lX)))
  (Ao : nsIn K mainGlobals "pieces" = some (some (.ref vn)))
  (kK : nsIn K mainGlobals "picture_of_piece" = some (some (.ref dR)))
  (xk : nsIn K mainGlobals "piece_at" = some (some (.ref qR)))
  (yX : nsIn K mainGlobals "touched" = some (some (.ref s9)))
  (wM : nsIn K mainGlobals "_law_cell_at" = some (some (.ref kQ)))
  (zt : nsIn K mainGlobals "_law_signed" = some (some (.ref sL)))
  (En : nsIn K mainGlobals "_law_row" = some (some (.ref BH)))
  (wt : nsIn K mainGlobals "_law_picture" = some (some (.ref pS)))
  (ua : nsIn K mainGlobals "_law_stretches" = some (some (.ref mm)))
  (Ap : nsIn K mainGlobals "_law_touch" = some (some (.ref uX)))
  (Av : nsIn K mainGlobals "_law_marks" = some (some (.ref wb)))
  (n8 : nsIn K mainGlobals "_law_put_together" = some (some (.ref ji)))
  (Cg : nsIn K mainGlobals "_law_cell" = some (some (.ref xH)))
  (uQ : nsIn K mainGlobals "_law_of_cells" = some (some (.ref nD)))
  (wV : nsIn K mainGlobals "_law_classes" = some (some (.ref qF)))
  (Gz : nsIn K mainGlobals "law" = some (some (.ref Fa)))
  (pr : Fun K "row_of" "row_of" oS uG rR)
  (gU : Fun K "count_up_to" "count_up_to" km eX ee)
  (jf : Fun K "row_common" "row_common" ma mw kq)
  (iT : Fun K "picture_of" "picture_of" fI lQ kx)
  (gB : Fun K "stretches_of" "stretches_of" gm fZ fh)
  (pp : Fun K "row_at" "row_at" vT ml kc)
  (d8 : Fun K "rows_with_cells" "rows_with_cells" eu gN gz)
  (qX : Fun K "common" "common" pL vm sH)
  (fA : Fun K "begun_between" "begun_between" jo jg iG)
  (iJ : Fun K "stretch_at" "stretch_at" lL i6 gX)
  (kR : Fun K "touching" "touching" kP oP nP)
  (jw : Fun K "walk_from" "walk_from" nM jO iH)
  (i7 : Fun K "classes_of" "classes_of" iU lX kB)
  (oX : Fun K "pieces" "pieces" uw vn sG)
  (dN : Fun K "picture_of_piece" "picture_of_piece" dS dR di)
  (lu : Fun K "piece_at" "piece_at" pB qR nV)
  (nk : Fun K "touched" "touched" j7 s9 pA)
  (ln : Fun K "_law_cell_at" "_law_cell_at" o8 kQ jA)
  (ny : Fun K "_law_signed" "_law_signed" sY sL p8)
  (wO : Fun K "_law_row" "_law_row" Aq BH yl)
  (k6 : Fun K "_law_picture" "_law_picture" qv pS nH)
  (iZ : Fun K "_law_stretches" "_law_stretches" lw mm kn)
  (pP : Fun K "_law_touch" "_law_touch" vR uX rZ)
  (pU : Fun K "_law_marks" "_law_marks" pj wb tq)
  (fi : Fun K "_law_put_together" "_law_put_together" jh ji g7)
  (uf : Fun K "_law_cell" "_law_cell" xJ xH uy)
  (ju : Fun K "_law_of_cells" "_law_of_cells" jD nD md)
  (kX : Fun K "_law_classes" "_law_classes" kJ qF nO)
  (C8 : Fun K "law" "law" Dg Fa D2)
  (z_any : nsIn K mainGlobals "any" = some none)
  (z_dict : nsIn K mainGlobals "dict" = some none)
  (z_int : nsIn K mainGlobals "int" = some none)
  (z_isinstance : nsIn K mainGlobals "isinstance" = some none)
  (z_len : nsIn K mainGlobals "len" = some none)
  (z_list : nsIn K mainGlobals "list" = some none)
  (z_max : nsIn K mainGlobals "max" = some none)
  (z_min : nsIn K mainGlobals "min" = some none)
  (z_range : nsIn K mainGlobals "range" = some none)
  (z_sorted : nsIn K mainGlobals "sorted" = some none)
  (z_tuple : nsIn K mainGlobals "tuple" = some none)
  (y_BY_EIGHT : nsIn K mainGlobals "BY_EIGHT" = some (some (.int (1) t_BY_EIGHT)))
  : ∃ fd : FuncData, (∀ (s : Shared) (v : Value), BindsTo s fd ⟨[v], []⟩ [("_law_script", v)]) /\ ∀ base : Heap, K.In base -> base.Ns mainGlobals mg -> FnOk l.prog w K mg base CX0 8 fa fd ["_law_script"] (t6 K) := by
 have e := hfa.symm.trans (mg_of X G Gz)
 cases e
 have T : Txt K mg := ⟨mg_none_of X G z_any, mg_none_of X G z_dict, mg_none_of X G z_int, mg_none_of X G z_isinstance, mg_none_of X G z_len, mg_none_of X G z_list, mg_none_of X G z_max, mg_none_of X G z_min, mg_none_of X G z_range, mg_none_of X G z_sorted, mg_none_of X G z_tuple, ⟨_, mg_of X G y_BY_EIGHT⟩⟩
 obtain ⟨_, _, _, _, _, _, _, _, _, hfd, _⟩ := C8.ex
 refine ⟨D2, fun s v => .of_eq (by rw [hfd]; rfl), fun base _ _ => ?_⟩
 have Cf : Binds K uy ["_law_stretches_here", "_law_cell_here"] [] := uf.binds fun _ _ _ _ _ _ us hl => by obtain ⟨_, _, rfl⟩ := us2 hl; rfl
 have j9 : yd l.prog w K mg base _ _ := ⟨AD uf T, mg_of X G Cg, uf.kp, Cf⟩
 have wZ : Binds K jA ["_law_script", "_law_k"] [] := ln.binds fun _ _ _ _ _ _ us hl => by obtain ⟨_, _, rfl⟩ := us2 hl; rfl
 have aZ : kN l.prog w K mg base _ _ := ⟨u9 ln T, mg_of X G wM, ln.kp, wZ⟩
 have uS : Binds K md ["_law_cells"] [] := ju.binds fun _ _ _ _ _ _ us hl => by obtain ⟨_, rfl⟩ := us1 hl; rfl
 have dW : nT l.prog w K mg base _ _ := ⟨uq ju T, mg_of X G uQ, ju.kp, uS⟩
 have ol : Binds K g7 ["_law_stretches_here"] [] := fi.binds fun _ _ _ _ _ _ us hl => by obtain ⟨_, rfl⟩ := us1 hl; rfl
 have bO : jq l.prog w K mg base _ _ := ⟨mS fi T, mg_of X G n8, fi.kp, ol⟩
 have E5 : Binds K yl ["_law_bits", "_law_x", "_law_wide"] [] := wO.binds fun _ _ _ _ _ _ us hl => by obtain ⟨_, _, _, rfl⟩ := us3 hl; rfl
 have nu : zY l.prog w K mg base _ _ := ⟨BR wO T, mg_of X G En, wO.kp, E5⟩
 have y3 : Binds K p8 ["_law_cell_here", "_law_most"] [] := ny.binds fun _ _ _ _ _ _ us hl => by obtain ⟨_, _, rfl⟩ := us2 hl; rfl
 have cJ : su l.prog w K mg base _ _ := ⟨wf ny T, mg_of X G zt, ny.kp, y3⟩
 have um : Binds K kn ["_law_picture_here"] [] := iZ.binds fun _ _ _ _ _ _ us hl => by obtain ⟨_, rfl⟩ := us1 hl; rfl
 have de : lA l.prog w K mg base _ _ := ⟨rE iZ T, mg_of X G ua, iZ.kp, um⟩
 have AU : Binds K rZ ["_law_one", "_law_other"] [] := pP.binds fun _ _ _ _ _ _ us hl => by obtain ⟨_, _, rfl⟩ := us2 hl; rfl
 have ij : vi l.prog w K mg base _ _ := ⟨zG pP T, mg_of X G Ap, pP.kp, AU⟩
 have rq : Binds K ee ["pairs", "number"] [] := gU.binds fun _ _ _ _ _ _ us hl => by obtain ⟨_, _, rfl⟩ := us2 hl; rfl
 have aA : eV l.prog w K mg base _ _ := ⟨pM gU T, mg_of X G rC, gU.kp, rq⟩
 have tV : Binds K kq ["one", "other"] [] := jf.binds fun _ _ _ _ _ _ us hl => by obtain ⟨_, _, rfl⟩ := us2 hl; rfl
 have cY : lG l.prog w K mg base _ _ := ⟨rp jf T, mg_of X G tJ, jf.kp, tV⟩
 have zS : Binds K rR ["pairs"] [] := pr.binds fun _ _ _ _ _ _ us hl => by obtain ⟨_, rfl⟩ := us1 hl; rfl
 have ik : uI l.prog w K mg base _ _ := ⟨y9 pr T, mg_of X G AX, pr.kp, zS⟩
 have mj : Binds K gz ["rows"] [] := d8.binds fun _ _ _ _ _ _ us hl => by obtain ⟨_, rfl⟩ := us1 hl; rfl
 have bt : gH l.prog w K mg base _ _ := ⟨ld d8 T, mg_of X G mo, d8.kp, mj⟩
 have pz : Binds K fh ["picture"] [] := gB.binds fun _ _ _ _ _ _ us hl => by obtain ⟨_, rfl⟩ := us1 hl; rfl
 have aR : gr l.prog w K mg base _ _ := ⟨oh gB T, mg_of X G pN, gB.kp, pz⟩
 have xu : Binds K nO ["_law_stretches_here", "_law_marks_here", "_law_cells"] [] := kX.binds fun _ _ _ _ _ _ us hl => by obtain ⟨_, _, _, rfl⟩ := us3 hl; rfl
 have b5 : o9 l.prog w K mg base _ _ := ⟨vO kX T bO, mg_of X G wV, kX.kp, xu⟩
 have Ae : Binds K tq ["_law_stretches_here"] [] := pU.binds fun _ _ _ _ _ _ us hl => by obtain ⟨_, rfl⟩ := us1 hl; rfl
 have g8 : vC l.prog w K mg base _ _ := ⟨zC pU T ij, mg_of X G Av, pU.kp, Ae⟩
 have wx : Binds K nH ["_law_script"] [] := k6.binds fun _ _ _ _ _ _ us hl => by obtain ⟨_, rfl⟩ := us1 hl; rfl
 have eM : pJ l.prog w K mg base _ _ := ⟨u3 k6 T aZ cJ nu, mg_of X G wt, k6.kp, wx⟩
 have oy : Binds K iG ["pairs", "first", "last"] [] := fA.binds fun _ _ _ _ _ _ us hl => by obtain ⟨_, _, _, rfl⟩ := us3 hl; rfl
 have bQ : jl l.prog w K mg base _ _ := ⟨mR fA T aA, mg_of X G n9, fA.kp, oy⟩
 have tF : Binds K kx ["stretches"] [] := iT.binds fun _ _ _ _ _ _ us hl => by obtain ⟨_, rfl⟩ := us1 hl; rfl
 have cX : l9 l.prog w K mg base _ _ := ⟨rd iT T ik, mg_of X G ug, iT.kp, tF⟩
 have Bp : Binds K kc ["picture", "y"] [] := pp.binds fun _ _ _ _ _ _ us hl => by obtain ⟨_, _, rfl⟩ := us2 hl; rfl
 have bj : lR l.prog w K mg base _ _ := ⟨y7 pp T aA, mg_of X G Aw, pp.kp, Bp⟩
 have Bd : Binds K sH ["one", "other"] [] := qX.binds fun _ _ _ _ _ _ us hl => by obtain ⟨_, _, rfl⟩ := us2 hl; rfl
 have ip : vZ l.prog w K mg base _ _ := ⟨yG qX T bt cY bj, mg_of X G BB, qX.kp, Bd⟩
 have k7 : Binds K di ["piece"] [] := dN.binds fun _ _ _ _ _ _ us hl => by obtain ⟨_, rfl⟩ := us1 hl; rfl
 have aF : dJ l.prog w K mg base _ _ := ⟨kj dN T cX, mg_of X G kK, dN.kp, k7⟩
 have t7 : Binds K gX ["picture", "x", "y"] [] := iJ.binds fun _ _ _ _ _ _ us hl => by obtain ⟨_, _, _, rfl⟩ := us3 hl; rfl
 have a8 : ja l.prog w K mg base _ _ := ⟨rg iJ T bj aA, mg_of X G tR, iJ.kp, t7⟩
 have wo : Binds K nP ["picture", "stretch", "reach"] [] := kR.binds fun _ _ _ _ _ _ us hl => by obtain ⟨_, _, _, rfl⟩ := us3 hl; rfl
 have eR : p9 l.prog w K mg base _ _ := ⟨vL kR T bQ bj, mg_of X G xg, kR.kp, wo⟩
 have vo : Binds K iH ["picture", "first", "reach"] [] := jw.binds fun _ _ _ _ _ _ us hl => by obtain ⟨_, _, _, rfl⟩ := us3 hl; rfl
 have bh : jY l.prog w K mg base _ _ := ⟨uc jw T eR, mg_of X G vX, jw.kp, vo⟩
 have tZ : Binds K kB ["picture", "reach"] [] := i7.binds fun _ _ _ _ _ _ us hl => by obtain ⟨_, _, rfl⟩ := us2 hl; rfl
 have c6 : l6 l.prog w K mg base _ _ := ⟨rc i7 T aR bh, mg_of X G uo, i7.kp, tZ⟩
 have wG : Binds K nV ["picture", "x", "y"] [] := lu.binds fun _ _ _ _ _ _ us hl => by obtain ⟨_, _, _, rfl⟩ := us3 hl; rfl
 have eS : pY l.prog w K mg base _ _ := ⟨u7 lu T a8 aF bh, mg_of X G xk, lu.kp, wG⟩
 have AB : Binds K sG ["picture"] [] := oX.binds fun _ _ _ _ _ _ us hl => by obtain ⟨_, rfl⟩ := us1 hl; rfl
 have hG : ve l.prog w K mg base _ _ := ⟨zh oX T c6, mg_of X G Ao, oX.kp, AB⟩
 have zl : Binds K pA ["picture", "other"] [] := nk.binds fun _ _ _ _ _ _ us hl => by obtain ⟨_, _, rfl⟩ := us2 hl; rfl
 have bv : sO l.prog w K mg base _ _ := ⟨wL nk T aR ip a8 hG aF, mg_of X G yX, nk.kp, zl⟩
 exact EG C8 T eM de g8 j9 aZ eS b5 bv dW
theorem walk {l : OpenLaw} {q : Program} {loose : List Str} {XP : (Str -> Option Value) -> Heap -> Prop} {YP : World -> Heap -> Prop} {d : DefRec} {K : Params -> Frag} (hn : l.most = some 63) (hdf : d.params.defaults = [])
  (hY : ∀ (w : World) (h : Heap), YP w h -> (K w.params).In h)
  (F : ∀ (w : World) (mg : Str -> Option Value) (fa : Addr) (h : Heap), (K w.params).In h -> h.Ns mainGlobals mg -> mg d.name = some (.ref fa) ->
   ∃ fd : FuncData, (∀ (s : Shared) (u : Value), BindsTo s fd ⟨[u], []⟩ [("_law_script", u)]) /\ ∀ base : Heap, (K w.params).In base -> base.Ns mainGlobals mg -> FnOk l.prog w (K w.params) mg base CX0 8 fa fd ["_law_script"] (t6 (K w.params))) :
  WalkO q loose XP YP l.row.toRowW d [] (fun f vs => PySem.call f vs) :=
 L2.BX (n := 63) (k := 8) (x := "_law_script") (CX := fun _ => CX0) (sp := fun w => t6 (K w.params)) hn (by decide) hdf ⟨rfl, by decide, by decide⟩ hY F (fun _ H a ns hl _ hS => M.yL hS (BF ns hl)) fun _ _ _ _ _ z => z
end Lw
open PySem PySem.W PyProof.Rows
set_option maxRecDepth 100000 in
set_option maxHeartbeats 0 in
theorem PySem.Challenge.cw_shapethin_k44_the_piece_at_a_cell_holds : PySem.Challenge.rw_shapethin_k44_the_piece_at_a_cell.Holds := by
 w_on; refine holds_law Hd.e2 fun said => ?_
 refine holds_open (q := Hd.q) (XP := XL Hd.q []) (YP := Hook.says Hd.H) (N := 100000) Hd.e1 (Hook.of Hd.H) (Hook.keeps Hd.H) (fun s e => xl_of s (Bool.and_eq_true_iff.mp e).1) XL.keeps (by rfl) (by rfl) (by rfl) (fun s e => recFacts_of (Bool.and_eq_true_iff.mp e).2) (by rfl) (by assumption) (by decide +kernel) ⟨rfl, rfl, rfl, rfl, rfl, by decide +kernel⟩ ?hw ?hc
 case hw => w_witness2
 refine Lw.walk (l := PySem.Challenge.rw_shapethin_k44_the_piece_at_a_cell) rfl rfl (fun w h Y => kIn_of Y) ?F
 case F =>
  intro w mg fa h KX G hmg
  refine' Lw.EM KX G hmg ?x0 ?x1 ?x2 ?x3 ?x4 ?x5 ?x6 ?x7 ?x8 ?x9 ?x10 ?x11 ?x12 ?x13 ?x14 ?x15 ?x16 ?x17 ?x18 ?x19 ?x20 ?x21 ?x22 ?x23 ?x24 ?x25 ?x26 ?x27 ?x28 ?x29 ?x30 ?x31 ?x32 ?x33 ?x34 ?x35 ?x36 ?x37 ?x38 ?x39 ?x40 ?x41 ?x42 ?x43 ?x44 ?x45 ?x46 ?x47 ?x48 ?x49 ?x50 ?x51 ?x52 ?x53 ?x54 ?x55 ?x56 ?x57 ?x58 ?x59 ?x60 ?x61 ?x62 ?x63 ?x64 ?x65 ?x66 ?x67 ?x68 ?x69
  case x0 | x1 | x2 | x3 | x4 | x5 | x6 | x7 | x8 | x9 | x10 | x11 | x12 | x13 | x14 | x15 | x16 | x17 | x18 | x19 | x20 | x21 | x22 | x23 | x24 | x25 | x26 | x27 | x28 => k_is
  case x29 | x30 | x31 | x32 | x33 | x34 | x35 | x36 | x37 | x38 | x39 | x40 | x41 | x42 | x43 | x44 | x45 | x46 | x47 | x48 | x49 | x50 | x51 | x52 | x53 | x54 | x55 | x56 | x57 => exact L2.EJ (by k_is) (by k_is) (by k_is)
  case x58 | x59 | x60 | x61 | x62 | x63 | x64 | x65 | x66 | x67 | x68 | x69 => k_is

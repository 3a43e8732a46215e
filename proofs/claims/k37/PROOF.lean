import PyProof.Rows.All
import Wide.All
import OpenK.AllK
import Wide.FinOn
import Lean
import PyProof.EqAt
import PyProof.EqKinds
import PyProof.TupleCall
import PySem.Challenge.RW_shapethin_k37_places_of_forms
set_option genSizeOf false
set_option bootstrap.genMatcherCode false
set_option compiler.extract_closed false
set_option Elab.async false
set_option linter.all false
set_option maxHeartbeats 4000000
set_option maxRecDepth 100000
def Pa := @if_pos
def Pb := @if_neg
def Pc := @PyProof.Rows.wpS_pure
def Pe := @PyProof.Rows.wpS_bind
def Pf := @PySem.wpAny_bind
def Pg := @List.mem_singleton
def Ph := @List.length_map
def Pi := @Nat.le_refl
def Pj := @List.length_append
def Pk := @List.mem_append
def Pl := @List.mem_cons_self
def Pm := @PySem.wpAny_pure
def Pn := @List.mem_cons_of_mem
def Po := @List.mem_append_left
def Pp := @List.mem_map
def Pq := @PySem.W.mg_of
def Pr := @List.mem_append_right
def Ps := @List.mem_cons
def Pt := @List.map_cons
def Pu := @List.length_cons
def Pv := @PySem.Heap.lt_size
def Pw := @List.getElem?_eq_some_iff
def Px := @PySem.Heap.get?_push_of_some
def Py := @List.size_toArray
def Pz := @Array.map_reverse
def PB := @Int.le_refl
def PC := @List.map_map
def PD := @List.getElem?_map
def PF := @PySem.PassesOwn.never
def PH := @congrArg
def PK := @Nat.ne_of_lt
def PL := @PyProof.Rows.wpS_mono
def PM := @PyProof.Rows.wpS_forRange
def PN := @decide_eq_false
def PP := @List.pairwise_append
def PQ := @List.append_assoc
def PR := @List.mem_filter
def PU := @Nat.le_trans
def PV := @PySem.Heap.get?_push_size
def PX := @Option.some.inj
def PY := @Nat.zero_le
def PZ := @Nat.lt_of_lt_of_le
def P0 := @Ne.symm
def P5 := @List.append_nil
def P6 := @PyProof.Rows.wpS_modify
def P7 := @List.eq_nil_or_concat
def P8 := @List.length_singleton
def P9 := @List.concat_eq_append
def Qa := @Array.length_toList
def Qb := @PySem.sizeLine_eq
def Qc := @List.map_append
def Qd := @PySem.F.plainAttrs_list
def Qe := @PySem.W.kia_one
def Qf := @List.getElem?_eq_getElem
def Qg := @PyProof.Rows.wpS_get
def Qh := @Nat.le_of_lt
def Qi := @List.nodup_cons
def Qj := @List.lookup_cons
def Qk := @List.getElem?_of_mem
def Ql := @of_decide_eq_false
def Qm := @Nat.add_mul
def Qn := @List.getElem?_set_ne
def Qo := @beq_iff_eq
def Qp := @Bool.and_eq_true
def Qq := @List.pairwise_map
def Qr := @List.sum_cons
def Qs := @PySem.F.slot_list_append
def Qt := @PySem.F.type_list_append
def Qu := @PySem.wpAny_mono
def Qv := @PySem.wpAny_newObj_type
def Qw := @decide_eq_true
def Qx := @Nat.mul_le_mul_right
def Qy := @Nat.le_of_eq
def Qz := @PySem.wpAny_rule
def QA := @Iff.rfl
def QB := @Nat.lt_of_le_of_lt
def QC := @PySem.W.mg_none_of
def QD := @Nat.lt_irrefl
def QE := @PySem.wpAny_field
def QF := @List.length_set
def QG := @Array.getElem?_toList
def QH := @List.pairwise_iff_getElem
def QI := @PyProof.Rows.wpS_lift
def QJ := @List.pairwise_singleton
def QK := @Array.map_push
def QL := @Nat.zero_add
def QM := @List.length_eq_zero_iff
def QN := @List.pairwise_cons
def QO := @List.length_filter_le
def QP := @List.filterMap_cons
def QQ := @PySem.wpAny_holding
def QR := @PySem.wpAny_passesOwn
def QS := @Bool.false_ne_true
def QT := @List.length_take
def QU := @decide_eq_true_eq
def QV := @Array.toList_append
def QW := @List.drop_of_length_le
def QX := @of_decide_eq_true
def QY := @PySem.wpAny_of_eq
def QZ := @List.getElem?_set_self
def Q0 := @Nat.lt_succ_self
def Q1 := @PySem.mem_of_lookup
def Q2 := @List.getElem?_append_right
def Q3 := @List.mem_of_getElem?
def Q4 := @PyProof.Rows.slot_tuple_getitem
def Q5 := @PySem.wpAny_call_entry
def Q6 := @Array.toList_push
def Q7 := @List.nodup_append
def Q8 := @PySem.typeLookup_type
def Q9 := @PySem.builtinLookup_eq_fast
def Ra := @PySem.isSubtype_type
def Rb := @Nat.mul_le_mul_left
def Rc := @PyProof.Rows.callWith_type1
def Re := @PySem.Heap.size_push
def Rf := @List.getElem?_append_left
def Rg := @Array.perm_iff_toList_perm
def Rh := @List.drop_eq_getElem_cons
def Ri := @Array.toList_extract
def Rj := @List.extract_eq_take_drop
def Rk := @List.getElem?_drop
def Rm := @List.ext_getElem?
def Ro := @List.zip_cons_cons
def Rp := @List.getElem?_eq_none_iff
def Rq := @List.mem_flatMap
def Rr := @beq_eq_false_iff_ne
def Rs := @PySem.wpAny_execs_nil
def Rt := @PySem.wpAny_Call_Name_kw
def Ru := @PySem.wpAny_callSpecial?_slot
def Rv := @Nat.lt_succ_of_lt
def Rx := @List.getElem?_take
def Ry := @List.mem_reverse
def Rz := @List.take_of_length_le
def RA := @PySem.Obj.data_mapFields
def RB := @List.length_range
def RC := @List.foldl_append
def RD := @List.length_flatMap
def RE := @Nat.le_mul_of_pos_left
def RF := @PySem.wpAny_pyNext_range_end
def RG := @PySem.wpAny_pyIter_rangeiter
def RH := @List.length_replicate
def RI := @PySem.F.slot_tuple_add
def RJ := @PySem.F.entry_tuple_add
def RK := @PySem.F.args_tuple_add_2
def RL := @PySem.Heap.get?_update_self
def RM := @List.take_append_drop
def RN := @List.pairwise_reverse
def RP := @List.getD_eq_getElem?_getD
def RQ := @List.getElem?_cons_succ
def RS := @List.getElem?_reverse
def RT := @List.filter_cons
def RU := @List.getElem?_eq_none
def RV := @List.Pairwise.filter
def RX := @decide_eq_false_iff_not
def RY := @List.reverse_reverse
noncomputable section
namespace Hd
open PySem PySem.W PySem.Calls PyProof.Rows
def FQ (stp : SharedT -> Thread -> Option (SharedT × Thread)) (ok : Thread -> Bool) : Nat -> SharedT -> Thread -> Option SharedT
 | 0, _, _ => none
 | n + 1, s, t => match through t with
  | true => some s
  | false => match ok t with
   | false => none
   | true => match stp s t with
    | some (s', t') => FQ stp ok n s' t'
    | none => none
theorem xE {tb : String -> Option Builtin} {p : Program} {w : World} {n₀ : Nat} {ann : Option Value} : ∀ (n : Nat) (s : SharedT) (t : Thread) (r : SharedT), FQ (stepT (denote tb) p w) (stepOk n₀ ann) n s t = some r -> topRun tb p w n₀ ann n s.abs t = some r.abs
 | 0, _, _, _, h => by cases h
 | n + 1, s, t, r, h => by
  unfold FQ at h
  unfold topRun
  cases ht : through t with
  | true => rw [ht] at h; cases h; rfl
  | false =>
   rw [ht] at h
   cases hk : stepOk n₀ ann t with
   | false => rw [hk] at h; cases h
   | true =>
    rw [hk] at h
    cases hs : stepT (denote tb) p w s t with
    | none => rw [hs] at h; cases h
    | some x =>
     obtain ⟨s', t'⟩ := x
     rw [hs] at h
     rw [stepT_spec hs]
     exact xE n s' t' r h
def GX : List Obj -> Nat -> BT -> BT
 | [], _, t => t
 | o :: l, n, t => GX l (n + 1) (t.ins n o)
def T0 (P : Params) : BT := GX (boot_heap P).objs.toList 0 .nil
theorem Lj (P : Params) : absHeap (T0 P) 11 (boot_heap P).life = boot_heap P := by kernel_rfl
theorem sz (P : Params) : ((boot_heap P).isNs mainGlobals, (boot_heap P).objs.size, (boot_heap P).nsMap mainGlobals "__annotations__") = (true, 11, some (.ref 6)) := by kernel_rfl
def S0 (w : World) (os : OsState) : SharedT := ⟨T0 w.params, 11, (boot_heap w.params).life, Array.mk [], boot_drawn, boot_toks, os⟩
theorem Hn {p q : Program} {loose : List Str} {Xt : Shared -> Bool} {α : Type} {Yf : Shared -> α} {Ya : World -> α} {N M : Nat} {g0 : Bool}
  (open_ : ∀ w : World, (fencedOpening treeTable p w N).map (fun s => (s.heap, s.gens, s.drawn, s.toks)) = some (boot_heap w.params, Array.mk [], boot_drawn, boot_toks)) (le : Nat.ble M N = true)
  (big : ∀ w : World, (fun os => (FQ (stepT (denote treeTable) p w) (stepOk 11 (some (.ref 6))) M (S0 w os) (topStub p)).map fun r => ((staticsOk (importedModules p.main.body) (boot_heap w.params) r.abs.heap && namesBound p r.abs.heap && gensDone r.abs && laidKept (boot_heap w.params) r.abs.heap),
    openSeen q loose (importedModules p.main.body) Xt g0 r.abs, Yf r.abs)) = fun _ => some (true, openGood q loose, Ya w)) : LeftO p q loose Xt Yf Ya N g0 := fun w => by
 obtain ⟨⟨h, gs, d, k, os⟩, e, e'⟩ := Option.map_eq_some_iff.mp (open_ w)
 obtain ⟨rfl, rfl, rfl, rfl⟩ : h = boot_heap w.params /\ gs = Array.mk [] /\ d = boot_drawn /\ k = boot_toks := by simpa using e'
 obtain ⟨z1, z2, z3⟩ : _ /\ _ /\ _ := by simpa only [Prod.mk.injEq] using sz w.params
 obtain ⟨r, hr, hb⟩ := Option.map_eq_some_iff.mp (congrFun (big w) os)
 obtain ⟨l1, l2, l3⟩ : _ /\ _ /\ _ := by simpa only [Prod.mk.injEq] using hb
 have ha : (S0 w os).abs = ⟨boot_heap w.params, Array.mk [], boot_drawn, boot_toks, os⟩ := by
  unfold S0 SharedT.abs
  dsimp only
  rw [Lj]
 have t := topRun_mono (N - M) _ _ _ _ (xE _ _ _ _ hr)
 rw [show M + (N - M) = N by have := Nat.le_of_ble_eq_true le; lia, ha] at t
 have t2 : topFrom treeTable p w N ⟨boot_heap w.params, Array.mk [], boot_drawn, boot_toks, os⟩ = some r.abs := by
  unfold topFrom
  dsimp only
  rw [z1, z2, z3, t]
  show (match staticsOk (importedModules p.main.body) (boot_heap w.params) r.abs.heap && namesBound p r.abs.heap && gensDone r.abs && laidKept (boot_heap w.params) r.abs.heap with | true => _ | false => _) = _
  rw [l1]
 unfold openEnds
 rw [e]
 show (topFrom treeTable p w N _).map _ = _
 rw [t2]
 exact PH some (Prod.ext l2 l3)
theorem Hx {p q : Program} {loose : List Str} {Xt : Shared -> Bool} {α : Type} {Yf : Shared -> α} {Ya : World -> α} {g0 : Bool}
  (open_ : ∀ w : World, (fencedOpening treeTable p w 100000).map (fun s => (s.heap, s.gens, s.drawn, s.toks)) = some (boot_heap w.params, Array.mk [], boot_drawn, boot_toks))
  (big : ∀ w : World, (fun os => (FQ (Fast.tw10156331382660048174 (Fast.tw11892475500146522536 Fast.tw14364793385576792824) p w) (Fast.tw6613529449190102663 11 (some (.ref 6))) 100000 (S0 w os) (topStub p)).map fun r => ((staticsOk (Fast.tw5923862056798008813 p.main.body) (boot_heap w.params) r.abs.heap && namesBound p r.abs.heap && gensDone r.abs && laidKept (boot_heap w.params) r.abs.heap),
    Fast.tw4187177175401517315 q loose (Fast.tw5923862056798008813 p.main.body) Xt g0 r.abs, Yf r.abs)) = fun _ => some (true, openGood q loose, Ya w)) : LeftO p q loose Xt Yf Ya 100000 g0 := by
 rw [<- Fast.te10156331382660048174, <- Fast.te11892475500146522536, <- Fast.te14364793385576792824, <- Fast.te6613529449190102663, <- Fast.te5923862056798008813, <- Fast.te4187177175401517315] at big
 exact Hn open_ rfl big
theorem HR {l : OpenLaw} (h : Fast.tw9446332074065402090 l = true) : l.wellSaid = true := by
 rw [Fast.te9446332074065402090]
 exact h
end Hd
section
open PySem PySem.W PyProof.Rows
def Hd.q : Program := view PySem.Challenge.pw_shapethin_k37_places_of_forms [0, 2, 3, 5, 6, 7, 8, 9, 10, 11, 13, 14, 15, 16, 17, 18, 19, 20, 21, 22, 23, 25, 26, 27, 29, 30, 31, 32, 33, 34, 35, 36, 37, 38, 39, 40, 41, 43, 44, 45, 46, 47, 48, 49, 50, 51, 52]
local macro_rules | `(tactic| o_head $_) => `(tactic| assumption)
set_option maxHeartbeats 0 in
theorem Hd.e0 : PySem.Challenge.rw_shapethin_k37_places_of_forms.row.Holds -> PySem.Challenge.rw_shapethin_k37_places_of_forms.row.Holds := by intro h; w_on; k_head
def Hd.as : List Addr := (Hd.e0.heap_1 { strHash := fun _ => 0, shareClass := fun _ => 0, mergeTok := id, idOf := fun _ => 0, idOfShared := fun _ _ => 0, followText := fun _ => true, idOfImm := fun _ => 0 }).map (·.1)
theorem Hd.ae (P : Params) : Hd.as = (Hd.e0.heap_1 P).map (·.1) := by kernel_rfl
abbrev Hd.H : Hook := kHook Hd.e0.heap_1 Hd.as Hd.ae
set_option maxHeartbeats 0 in
theorem Hd.e1 : LeftO PySem.Challenge.rw_shapethin_k37_places_of_forms.row.prog Hd.q [] (fun s => xlAt Hd.q [] s && recOk (RowW.records (OpenRow.toRowW (OpenLaw.row PySem.Challenge.rw_shapethin_k37_places_of_forms))) s) (Hook.obs Hd.H) (Hook.val Hd.H) 100000 := Hd.Hx (boot_open (by rfl) rfl (fun s => rfl)) (by intro w; kernel_rfl)
set_option maxHeartbeats 0 in
theorem Hd.e2 : PySem.Challenge.rw_shapethin_k37_places_of_forms.wellSaid = true := Hd.HR (by kernel_rfl)
end
namespace L2
open PySem PySem.Spec PyProof.Rows
abbrev Key := Sum Int Str
def IG : Key -> Value -> Bool
 | .inl k, v => Value.isInt k v
 | .inr x, v => Value.isStrOf x v
def MU (w : World) : Key -> Int
 | .inl k => hashInt k
 | .inr x => hashStr w x
theorem cJ : ∀ {k : Key} {v : Value}, IG k v = true -> (∃ i t, k = Sum.inl i /\ v = Value.int i t) \/ (∃ x t, k = Sum.inr x /\ v = Value.str x t)
 | .inl i, v, h => by
  obtain ⟨t, e⟩ := Value.isInt_shape (k := i) (v := v) h
  exact .inl ⟨i, t, rfl, e⟩
 | .inr x, v, h => by
  obtain ⟨t, e⟩ := Value.isStrOf_shape (x := x) (v := v) h
  exact .inr ⟨x, t, rfl, e⟩
theorem Kr (a b : Int) : decide ((Sum.inl a : Key) = Sum.inl b) = (a == b) := by
 by_cases e : a = b
 ·subst e; simp
 ·have h : ¬ (Sum.inl a : Key) = Sum.inl b := fun q => e (Sum.inl.inj q)
  rw [PN h]
  exact (Rr.mpr e).symm
theorem J4 (a b : Str) : decide ((Sum.inr a : Key) = Sum.inr b) = decide (a = b) := by
 by_cases e : a = b
 ·subst e; simp
 ·have h : ¬ (Sum.inr a : Key) = Sum.inr b := fun q => e (Sum.inr.inj q)
  rw [PN h, PN e]
theorem KF (a : Int) (b : Str) : decide ((Sum.inl a : Key) = Sum.inr b) = false := PN (fun q => nomatch q)
theorem KY (a : Str) (b : Int) : decide ((Sum.inr a : Key) = Sum.inl b) = false := PN (fun q => nomatch q)
def yY (prog : Program) (w : World) : PySem.KeyKind prog w Key where
 is := IG
 hash := MU w
 inj := fun v a b ha hb => by
  rcases cJ ha with ⟨i, t, rfl, rfl⟩ | ⟨x, t, rfl, rfl⟩
  ·rcases cJ hb with ⟨j, u, rfl, e⟩ | ⟨y, u, rfl, e⟩
   ·injection e with e1 _; rw [e1]
   ·exact nomatch e
  ·rcases cJ hb with ⟨j, u, rfl, e⟩ | ⟨y, u, rfl, e⟩
   ·exact nomatch e
   ·injection e with e1 _; rw [e1]
 byValue := fun k v h => by
  rcases cJ h with ⟨i, t, rfl, rfl⟩ | ⟨x, t, rfl, rfl⟩ <;> rfl
 pyHash := fun hv h => by
  rcases cJ hv with ⟨i, t, rfl, rfl⟩ | ⟨x, t, rfl, rfl⟩
  ·exact wpAny_pyHash_int h
  ·exact wpAny_pyHash_str h
 eqBool := fun hu hv h => by
  rcases cJ hu with ⟨i, t, rfl, rfl⟩ | ⟨x, t, rfl, rfl⟩
  ·rcases cJ hv with ⟨j, u, rfl, rfl⟩ | ⟨y, u, rfl, rfl⟩
   ·rw [Kr] at h; exact wpAny_eqBool_int h
   ·rw [KF] at h; exact SeqAt.EqAt.int_str i t y u _ _ _ _ h
  ·rcases cJ hv with ⟨j, u, rfl, rfl⟩ | ⟨y, u, rfl, rfl⟩
   ·rw [KY] at h; exact SeqAt.EqAt.str_int x t j u _ _ _ _ h
   ·rw [J4] at h; exact wpAny_eqBool_str h
 «strs» := fun k x t v h => by
  rcases cJ h with ⟨i, u, rfl, e⟩ | ⟨y, u, rfl, e⟩
  ·exact nomatch e
  ·injection e with e1 _
   subst e1
   cases v <;> rfl
inductive V where
 | non | bl (b : Bool) | int (i : Int) | str (x : Str) | byt (b : Array UInt8) | flt (b : UInt64) | ref (a : Addr) | ty (n : String)
 deriving DecidableEq
def RelV : V -> Value -> Prop
 | .non, u => u = Value.none
 | .bl b, u => u = Value.bool b
 | .int i, u => ∃ t, u = Value.int i t
 | .str x, u => ∃ t, u = Value.str x t
 | .byt b, u => ∃ t, u = Value.bytes b t
 | .flt b, u => ∃ t, u = Value.float b t
 | .ref a, u => u = Value.ref a
 | .ty n, u => u = Value.type n
abbrev Vals : List V -> List Value -> Prop := Paired RelV
theorem Vals.length {xs : List V} {us : List Value} (r : Vals xs us) : xs.length = us.length := Paired.length r
theorem Vals.get : ∀ {xs : List V} {us : List Value} {i : Nat} {x : V}, Vals xs us -> xs[i]? = some x -> ∃ u, us[i]? = some u /\ RelV x u
 | _, _, _, _, .nil, e => by simp at e
 | _, _, 0, _, .cons r _, e => by simp at e; subst e; exact ⟨_, rfl, r⟩
 | _, _, i + 1, x, .cons _ t, e => by
  obtain ⟨u, h1, h2⟩ := Vals.get (i := i) (x := x) t (by simpa using e)
  exact ⟨u, by simpa using h1, h2⟩
theorem Vals.set {x : V} {u : Value} (r : RelV x u) : ∀ {xs : List V} {us : List Value} (i : Nat), Vals xs us -> Vals (xs.set i x) (us.set i u)
 | _, _, _, .nil => .nil
 | _, _, 0, .cons _ t => .cons r t
 | _, _, i + 1, .cons q t => .cons q (Vals.set r i t)
theorem Vals.append : ∀ {xs ys : List V} {us ws : List Value}, Vals xs us -> Vals ys ws -> Vals (xs ++ ys) (us ++ ws)
 | _, _, _, _, .nil, s => s
 | _, _, _, _, .cons r t, s => .cons r (Vals.append t s)
theorem Vals.take : ∀ {xs : List V} {us : List Value} (n : Nat), Vals xs us -> Vals (xs.take n) (us.take n)
 | _, _, 0, _ => .nil
 | _, _, _ + 1, .nil => .nil
 | _, _, n + 1, .cons r t => .cons r (Vals.take n t)
theorem Vals.drop : ∀ {xs : List V} {us : List Value} (n : Nat), Vals xs us -> Vals (xs.drop n) (us.drop n)
 | _, _, 0, r => r
 | _, _, _ + 1, .nil => .nil
 | _, _, n + 1, .cons _ t => Vals.drop n t
def RelO : Option V -> Option Value -> Prop
 | some v, some u => RelV v u
 | none, none => True
 | _, _ => False
def KV {κ : Type} : List (κ × V) -> List (κ × Value) -> Prop := Paired fun (p : κ × V) (q : κ × Value) => p.1 = q.1 /\ RelV p.2 q.2
def kV : Key -> V
 | .inl i => .int i
 | .inr x => .str x
inductive HO where
  | lst (xs : List V)
  | tup (xs : List V)
  | dK (kvs : List (Key × V)) | dT (kvs : List (List Key × V))
  | set (S : Int -> Bool) (n : Nat)
  | ins (C dx : Addr) (fs : List (Str × V))
  | own (x : Addr)
  | xd (fs : List (Str × V))
  | met (f x : Addr)
  | rng (lo hi : Int)
  | frz (o : Obj) (u : HO)
  | tbl (ps : Array Value)
  | ext (φ : Heap -> Prop)
abbrev Hp := Addr -> Option HO
def upd (H : Hp) (a : Addr) (o : HO) : Hp := fun b => if b = a then some o else H b
theorem a6 {H : Hp} {a : Addr} {o : HO} : upd H a o a = some o := by unfold upd; rw [Pa rfl]
theorem a9 {H : Hp} {a b : Addr} {o : HO} (h : b ≠ a) : upd H a o b = H b := by unfold upd; rw [Pb h]
theorem bj {H : Hp} {a b : Addr} {o : HO} (h : H a = some o) (h' : H b = none) : a ≠ b := by
 intro e; subst e; rw [h] at h'; cases h'
section
variable (P : Program) (w : World)
def ObjOk (H : Hp) (h : Heap) (a : Addr) : HO -> Prop
 | .lst xs => xs.length <= sizeLine /\ ∃ (its : List Value) (n : Nat), Vals xs its /\ h.get? a = some { cls := .type "list", data := .seq its.toArray n }
 | .tup xs => xs.length <= sizeLine /\ ∃ its : List Value, Vals xs its /\ IsTup h a its.toArray
 | .dK kvs => kvs.length <= sizeLine /\ (a == sysModules) = false /\ ∃ vs, KV kvs vs /\ h.DictOf (yY P w) a vs
 | .dT kvs => kvs.length <= sizeLine /\ (a == sysModules) = false /\ ∃ xs : List (List Key × Addr × Value),
   Paired (fun (p : List Key × V) (q : List Key × Addr × Value) => p.1 = q.1 /\ H q.2.1 = some (.tup (p.1.map kV)) /\ RelV p.2 q.2.2) kvs xs /\
   ∃ o es ep, h.get? a = some o /\ o.ExactDict /\ o.data = .dict es ep /\ es.toList = xs.map (entryOfKey (tupleKind (yY P w))) /\ (xs.map (·.1)).Nodup
 | .set S n => h.SetOf (intKind P w) a S n
 | .ins C dx fs => H dx = some (.own a) /\ fs.length <= 1000 /\ dx ≠ a /\ h.get? a = some (W.instObj C dx) /\
   ∃ mA, h.Ns1 dx mA /\ (∀ f, RelO (fs.lookup f) (mA f)) /\ PySem.Within mA (fs.map (·.1))
 | .own _ => ∃ o, h.get? a = some o
 | .xd fs => ∃ mA, h.Ns1 a mA /\ ∀ f, RelO (fs.lookup f) (mA f)
 | .rng lo hi => ∃ t u v, h.get? a = some { cls := .type "range", data := .fields #[.int lo t, .int hi u, .int 1 v] }
 | .frz o u => h.get? a = some o /\ ObjOk H h a u
 | .tbl ps => h.get? a = some { cls := .none, data := .fields ps }
 | .met f x => h.get? a = some (W.methodObj (.ref f) (.ref x))
 | .ext φ => φ h /\ (∃ o, h.get? a = some o) /\ ∀ h1 h2 : Heap, φ h1 -> (∀ o, h1.get? a = some o -> h2.get? a = some o) -> φ h2
def HOk (H : Hp) (h : Heap) : Prop := ∀ a o, H a = some o -> ObjOk P w H h a o
end
section
variable {P : Program} {w : World} {H H' : Hp} {h h' : Heap} {a : Addr} {o : HO}
theorem ObjOk.lt (x : ObjOk P w H h a o) : a < h.objs.size := by
 cases o with
 | lst xs => obtain ⟨_, _, _, _, e⟩ := x; exact Pv e
 | tup xs => obtain ⟨_, _, _, p⟩ := x; exact p.lt
 | dK kvs => obtain ⟨_, _, _, _, o, _, _, e, _⟩ := x; exact Pv e
 | dT kvs => obtain ⟨_, _, _, _, o, _, _, e, _⟩ := x; exact Pv e
 | set S n => obtain ⟨o, _, _, _, e, _⟩ := x; exact Pv e
 | ins C dx fs => obtain ⟨_, _, _, e, _⟩ := x; exact Pv e
 | own y => obtain ⟨_, e⟩ := x; exact Pv e
 | xd fs => obtain ⟨_, ⟨_, _, _, e, _⟩, _⟩ := x; exact Pv e
 | rng lo hi => obtain ⟨_, _, _, e⟩ := x; exact Pv e
 | frz ob u => obtain ⟨e, _⟩ := x; exact Pv e
 | tbl ps => exact Pv (show h.get? a = some _ from x)
 | met f y => exact Pv (show h.get? a = some _ from x)
 | ext φ => obtain ⟨_, ⟨_, e⟩, _⟩ := x; exact Pv e
theorem Paired.mapP {α β : Type} {F G : α -> β -> Prop} : ∀ {l₁ : List α} {l₂ : List β}, Paired F l₁ l₂ -> (∀ a b, F a b -> G a b) -> Paired G l₁ l₂
 | _, _, .nil, _ => .nil
 | _, _, .cons r t, f => .cons (f _ _ r) (Paired.mapP t f)
theorem ObjOk.stay (x : ObjOk P w H h a o) (k : ∀ b u, (b = a \/ H b = some (.own a)) -> h.get? b = some u -> h'.get? b = some u)
  (ho : ∀ b, H b = some (.own a) -> H' b = some (.own a)) (ht : ∀ b xs, H b = some (.tup xs) -> H' b = some (.tup xs)) : ObjOk P w H' h' a o := by
 induction o with
 | lst xs => obtain ⟨z, its, n, r, e⟩ := x; exact ⟨z, its, n, r, k _ _ (.inl rfl) e⟩
 | tup xs => obtain ⟨z, its, r, ob, e, c⟩ := x; exact ⟨z, its, r, ob, k _ _ (.inl rfl) e, c⟩
 | dK kvs => obtain ⟨z, y, vs, r, ob, es, ep, e, c⟩ := x; exact ⟨z, y, vs, r, ob, es, ep, k _ _ (.inl rfl) e, c⟩
 | dT kvs =>
  obtain ⟨z, y, xs, r, ob, es, ep, e, c⟩ := x
  exact ⟨z, y, xs, Paired.mapP r fun p q z => ⟨z.1, ht _ _ z.2.1, z.2.2⟩, ob, es, ep, k _ _ (.inl rfl) e, c⟩
 | set S n => obtain ⟨ob, es, ep, t, e, c⟩ := x; exact ⟨ob, es, ep, t, k _ _ (.inl rfl) e, c⟩
 | ins C dx fs =>
  obtain ⟨d, z, ne, e, mA, ⟨od, es, ep, e2, c⟩, r⟩ := x
  exact ⟨ho _ d, z, ne, k _ _ (.inl rfl) e, mA, ⟨od, es, ep, k _ _ (.inr d) e2, c⟩, r⟩
 | own y => obtain ⟨ob, e⟩ := x; exact ⟨ob, k _ _ (.inl rfl) e⟩
 | xd fs => obtain ⟨mA, ⟨od, es, ep, e, c⟩, r⟩ := x; exact ⟨mA, ⟨od, es, ep, k _ _ (.inl rfl) e, c⟩, r⟩
 | rng lo hi => obtain ⟨t, u, v, e⟩ := x; exact ⟨t, u, v, k _ _ (.inl rfl) e⟩
 | frz ob u ih => obtain ⟨e, q⟩ := x; exact ⟨k _ _ (.inl rfl) e, ih q⟩
 | tbl ps =>
  have e : h.get? a = some { cls := .none, data := .fields ps } := x
  show h'.get? a = some { cls := .none, data := .fields ps }
  exact k a _ (.inl rfl) e
 | met f y =>
  have e : h.get? a = some (W.methodObj (.ref f) (.ref y)) := x
  show h'.get? a = some (W.methodObj (.ref f) (.ref y))
  exact k a _ (.inl rfl) e
 | ext φ => obtain ⟨p, ⟨o, e⟩, st⟩ := x; exact ⟨st _ _ p fun o q => k _ _ (.inl rfl) q, ⟨o, k _ _ (.inl rfl) e⟩, st⟩
theorem HOk.lt (x : HOk P w H h) (e : H a = some o) : a < h.objs.size := (x a o e).lt
theorem HOk.fresh (x : HOk P w H h) (e : h.objs.size <= a) : H a = none := by
 cases q : H a with
 | none => rfl
 | some u => exact absurd (PZ (x.lt q) e) (QD _)
theorem HOk.kept (x : HOk P w H h) (k : ∀ b u, h.get? b = some u -> h'.get? b = some u) : HOk P w H h' := fun a o e =>
 (x a o e).stay (fun b u _ q => k b u q) (fun _ q => q) fun _ _ q => q
theorem HOk.laid (x : HOk P w H h) (k : ∀ b u, h.get? b = some u -> h'.get? b = some u) (hp : h.objs.size <= a) (new : ObjOk P w (upd H a o) h' a o) : HOk P w (upd H a o) h' := fun b u e => by
 have hn := x.fresh hp
 by_cases hb : b = a
 ·subst hb; rw [a6] at e; cases e; exact new
 ·rw [a9 hb] at e
  exact (x b u e).stay (fun c v _ q => k c v q) (fun c q => by rw [a9 (bj q hn)]; exact q) fun c xs q => by rw [a9 (bj q hn)]; exact q
end
def Rd (H : Hp) (a : Addr) (u : HO) : Prop := H a = some u \/ ∃ o, H a = some (.frz o u)
theorem Rd.ok {P : Program} {w : World} {H : Hp} {h : Heap} {a : Addr} {u : HO} (r : Rd H a u) (x : HOk P w H h) : ObjOk P w H h a u := by
 rcases r with r | ⟨o, r⟩
 ·exact x a u r
 ·obtain ⟨_, q⟩ := x a _ r
  exact q
def Mut : Option HO -> Prop
 | some (.lst _) => True
 | some (.dK _) => True
 | some (.dT _) => True
 | some (.set _ _) => True
 | some (.ins _ _ _) => True
 | some (.ext _) => True
 | _ => False
section
variable {P : Program} {w : World} {H : Hp} {h h' : Heap} {x e : Addr} {o' : HO}
theorem HOk.write (ok : HOk P w H h) (mu : Mut (H x)) (he : e = x \/ H e = some (.own x)) (k : ∀ b u, b ≠ e -> h.get? b = some u -> h'.get? b = some u) (heo : ∃ u, h'.get? e = some u)
  (new : ObjOk P w (upd H x o') h' x o') : HOk P w (upd H x o') h' := fun b u q => by
 have nown : ∀ c y, H c = some (.own y) -> c ≠ x := fun c y r z => by subst z; rw [r] at mu; exact mu
 have ntup : ∀ c xs, H c = some (.tup xs) -> c ≠ x := fun c xs r z => by subst z; rw [r] at mu; exact mu
 by_cases hb : b = x
 ·subst hb; rw [a6] at q; cases q; exact new
 ·rw [a9 hb] at q
  by_cases hbe : b = e
  ·have q' : H b = some (.own x) := by
    rcases he with z | z
    ·exact absurd (hbe.trans z) hb
    ·rw [hbe]; exact z
   rw [q] at q'; cases q'
   obtain ⟨v, hv⟩ := heo
   exact ⟨v, by rw [hbe]; exact hv⟩
  ·refine (ok b u q).stay (fun c v hc r => k c v ?_ r) (fun c r => by rw [a9 (nown c b r)]; exact r) fun c xs r => by rw [a9 (ntup c xs r)]; exact r
   rcases hc with rfl | hc
   ·exact hbe
   ·rintro rfl
    rcases he with z | z
    ·exact nown c b hc z
    ·rw [hc] at z; cases z; exact hb rfl
end
structure Un (fs ex : List Addr) (H H' : Hp) (h h' : Heap) : Prop where
 keep : ∀ b o, h.get? b = some o -> H b = none -> b ∉ fs -> b ∉ ex -> h'.get? b = some o
 slot : ∀ b o, h.get? b = some o -> H b = none -> b ∈ fs -> b ∉ ex -> ∃ sl, h'.get? b = some { o with slots := sl }
 free : ∀ b o, h.get? b = some o -> H b = none -> b ∉ ex -> H' b = none
 there : ∀ b o, h.get? b = some o -> b ∉ ex -> ∃ o', h'.get? b = some o'
 tups : ∀ b xs, H b = some (.tup xs) -> H' b = some (.tup xs)
 frzs : ∀ b o u, H b = some (.frz o u) -> H' b = some (.frz o u)
 tbls : ∀ b ps, H b = some (.tbl ps) -> ∃ more, H' b = some (.tbl (ps ++ more))
section
variable {fs fs' ex ex' : List Addr} {H H1 H2 : Hp} {h h1 h2 h' : Heap} {a x e : Addr} {o : HO}
theorem Un.any (u : Un fs ex H H1 h h1) {b : Addr} {ob : Obj} (q : h.get? b = some ob) (n : H b = none) (hx : b ∉ ex) : ∃ sl, h1.get? b = some { ob with slots := sl } := by
 by_cases hb : b ∈ fs
 ·exact u.slot b ob q n hb hx
 ·exact ⟨ob.slots, u.keep b ob q n hb hx⟩
theorem Un.trans (a : Un fs ex H H1 h h1) (b : Un fs ex H1 H2 h1 h2) : Un fs ex H H2 h h2 where
 keep := fun c ob q n hc hx => b.keep c ob (a.keep c ob q n hc hx) (a.free c ob q n hx) hc hx
 slot := fun c ob q n hc hx => by
  obtain ⟨sl, e1⟩ := a.slot c ob q n hc hx
  obtain ⟨sl', e2⟩ := b.slot c _ e1 (a.free c ob q n hx) hc hx
  exact ⟨sl', e2⟩
 free := fun c ob q n hx => by
  obtain ⟨o', e1⟩ := a.there c ob q hx
  exact b.free c o' e1 (a.free c ob q n hx) hx
 there := fun c ob q hx => by
  obtain ⟨o', e1⟩ := a.there c ob q hx
  exact b.there c o' e1 hx
 tups := fun c xs q => b.tups c xs (a.tups c xs q)
 frzs := fun c ob xs q => b.frzs c ob xs (a.frzs c ob xs q)
 tbls := fun c ps q => by
  obtain ⟨m1, e1⟩ := a.tbls c ps q
  obtain ⟨m2, e2⟩ := b.tbls c _ e1
  exact ⟨m1 ++ m2, by rw [e2, Array.append_assoc]⟩
theorem Un.kept (k : ∀ b u, h.get? b = some u -> h'.get? b = some u) : Un fs ex H H h h' :=
 ⟨fun b ob q _ _ _ => k b ob q, fun b ob q _ _ _ => ⟨ob.slots, k b ob q⟩, fun _ _ _ n _ => n, fun b ob q _ => ⟨ob, k b ob q⟩, fun _ _ q => q, fun _ _ _ q => q, fun _ ps q => ⟨#[], by rw [q]; simp⟩⟩
theorem Un.refl : Un fs ex H H h h := Un.kept fun _ _ q => q
theorem Un.laid (k : ∀ b u, h.get? b = some u -> h'.get? b = some u) (hp : h.objs.size <= a) (hn : H a = none) : Un fs ex H (upd H a o) h h' where
 keep := fun b u q _ _ _ => k b u q
 slot := fun b u q _ _ _ => ⟨u.slots, k b u q⟩
 free := fun b u q n _ => by rw [a9 (PK (PZ (Pv q) hp))]; exact n
 there := fun b u q _ => ⟨u, k b u q⟩
 tups := fun b xs q => by rw [a9 (bj q hn)]; exact q
 frzs := fun b u xs q => by rw [a9 (bj q hn)]; exact q
 tbls := fun b ps q => ⟨#[], by rw [a9 (bj q hn), q]; simp⟩
theorem Un.write (mu : Mut (H x)) (he : e = x \/ H e = some (.own x)) (k : ∀ b u, b ≠ e -> h.get? b = some u -> h'.get? b = some u) (heo : ∃ u, h'.get? e = some u) : Un fs ex H (upd H x o) h h' := by
 have hx : ∀ b, H b = none -> b ≠ x := fun b n z => by subst z; rw [n] at mu; exact mu
 have hb : ∀ b, H b = none -> b ≠ e := fun b n z => by
  subst z
  rcases he with r | r
  ·exact hx b n r
  ·rw [n] at r; cases r
 have hm : ∀ b u, H b = some u -> ¬ Mut (some u) -> b ≠ x := fun b u q nm z => by subst z; rw [q] at mu; exact nm mu
 refine ⟨fun b u q n _ _ => k b u (hb b n) q, fun b u q n _ _ => ⟨u.slots, k b u (hb b n) q⟩, fun b u q n _ => by rw [a9 (hx b n)]; exact n, fun b u q _ => ?_,
  fun b xs q => by rw [a9 (hm b _ q fun z => z)]; exact q, fun b u xs q => by rw [a9 (hm b _ q fun z => z)]; exact q, fun b ps q => ⟨#[], by rw [a9 (hm b _ q fun z => z), q]; simp⟩⟩
 by_cases hbe : b = e
 ·subst hbe; exact heo
 ·exact ⟨u, k b u hbe q⟩
end
def trk (h : Heap) (H : Hp) : List Addr := (List.range h.objs.size).filter fun a => (H a).isSome
def yQ (h : Heap) (H : Hp) : Heap := W.hideAll h (trk h H)
theorem DI (h : Heap) (H : Hp) : (yQ h H).objs.size = h.objs.size := W.hideAll_size _ _
theorem G6 {h : Heap} {H : Hp} {b : Addr} {o : Obj} (e : h.get? b = some o) (n : H b = none) : (yQ h H).get? b = some o :=
 W.hideAll_get _ e fun hm => by
  have q : (H b).isSome = true := (PR.mp hm).2
  rw [n] at q; simp at q
theorem Ht {h : Heap} {H : Hp} {b : Addr} {o : Obj} (e : (yQ h H).get? b = some o) : h.get? b = some o /\ H b = none := by
 have e' : h.get? b = some o := W.of_hideAll (trk h H) e
 refine ⟨e', ?_⟩
 cases q : H b with
 | none => rfl
 | some x =>
  have hm : b ∈ trk h H := PR.mpr ⟨List.mem_range.mpr (Pv e'), by simp [q]⟩
  have z : (yQ h H).get? b = none := W.hideAll_none (trk h H) hm
  rw [z] at e; cases e
def Hv (g h : Heap) (L : Addr) : List (Addr × Obj) := (List.range h.objs.size).filterMap fun a => if a = L \/ (g.get? a).isSome = true then none else (h.get? a).map fun o => (a, o)
def rest (g h : Heap) (L d : Addr) : List (Addr × Obj) := (Hv g h L).filter fun p => decide (p.1 ≠ d)
structure Mod (K : W.Frag) (mg : Str -> Option Value) (base : Heap) : Prop where
 kin : K.In base
 glob : base.Ns mainGlobals mg
 blt : ∃ mb, base.Ns builtinsNs mb /\ ∀ x : Str, x ≠ "__name__" -> mb x = bootBuiltins x
 nolimit : base.NoLimit
structure Cx where
 prog : Program
 w : World
 K : W.Frag
 mg : Str -> Option Value
 base : Heap
 A : Around
 N : List Str
 s₀ : Shared
 H₀ : Hp
 env : Env
 outer : List Env
 stack : List Env
 ex : List Addr
 fn : Str -> Bool
 calm : Bool
 pn : List (Addr × Obj)
 xe : Value -> Shared -> Prop
def frs (l : List Env) : List Addr := l.filterMap (·.frame)
abbrev Cx.fs (X : Cx) : List Addr := frs X.outer
def Vis (sc : Scope) (x : Str) : Prop := sc.names.lookup x = some .local \/ sc.names.lookup x = some .cell \/ sc.names.lookup x = some .free
def Loc (sc : Scope) (x : Str) : Prop := sc.names.lookup x = some .local \/ sc.names.lookup x = some .cell
def M5 (env : Env) (h : Heap) (m : Str -> Option Value) (x : Str) (u : Value) : Prop :=
 (env.kindOf x = some .local /\ m x = some u) \/ ((env.kindOf x = some .cell \/ env.kindOf x = some .free) /\ ∃ c, env.cells.lookup x = some c /\ h.IsCell c (some u))
structure Cx.Ok (X : Cx) : Prop where
 mod : Mod X.K X.mg X.base
 kind : X.env.scope.kind = .function
 glob : X.env.globals = mainGlobals
 blt : X.env.builtins = builtinsNs
 above : X.s₀.heap.objs.size <= X.env.locals
 inj : ∀ x y c, X.env.cells.lookup x = some c -> X.env.cells.lookup y = some c -> x = y
 has : ∀ x, (X.env.kindOf x = some .cell \/ X.env.kindOf x = some .free) -> ∃ c, X.env.cells.lookup x = some c
 cab : ∀ x c, X.fn x = true -> X.env.cells.lookup x = some c -> X.s₀.heap.objs.size <= c
 hd : X.calm = true -> X.A.handled = none
 frames : X.A.frames = some X.stack
 stk : X.stack = X.outer \/ (X.stack = X.env :: X.outer /\ X.env.frame = some X.env.locals)
 exf : ∀ b ∈ X.ex, b ≠ X.env.locals /\ ∀ x c, X.env.cells.lookup x = some c -> c ≠ b
 bs : ∀ b o, X.base.get? b = some o -> X.s₀.heap.get? b = some o /\ X.H₀ b = none
 bsz : X.base.objs.size <= X.s₀.heap.objs.size
 noex : ∀ b o, X.base.get? b = some o -> b ∉ X.ex
 exfs : ∀ b ∈ X.ex, b ∉ X.fs
 funs : X.s₀.heap.FunFrames X.base X.outer
 frf : ∀ b ∈ X.fs, X.H₀ b = none
structure Inv (X : Cx) (pins : List (Addr × Obj)) (σ : List (Option V)) (H : Hp) (s : Shared) : Prop where
 ok : X.Ok
 os : s.os = X.s₀.os
 bare : AllBare s.gens
 base : Un X.fs X.ex X.H₀ H X.s₀.heap s.heap
 loc : ∃ m, s.heap.Ns X.env.locals m /\ ∀ (i : Nat) (x : Str) (v : V), X.N[i]? = some x -> σ[i]? = some (some v) -> Vis X.env.scope x -> ∃ u, RelV v u /\ M5 X.env s.heap m x u
 cell : ∀ x c, X.env.cells.lookup x = some c -> ∃ v, s.heap.IsCell c v
 free : H X.env.locals = none
 freeC : ∀ x c, X.env.cells.lookup x = some c -> H c = none
 pin : ∀ p ∈ X.pn ++ pins, s.heap.get? p.1 = some p.2 /\ H p.1 = none /\ p.1 ≠ X.env.locals /\ p.1 ∉ X.fs /\ ∀ v, p.2.data ≠ .cell v
 hok : HOk X.prog X.w H s.heap
 len : σ.length = X.N.length
section
variable {X : Cx} {pins : List (Addr × Obj)} {σ : List (Option V)} {H H' : Hp} {s : Shared} {h' : Heap}
theorem Cx.Ok.nofr (ok : X.Ok) {b : Addr} {o : Obj} (e : X.base.get? b = some o) : b ∉ X.fs := fun hb => by
 have := (ok.funs.mem hb).1
 rw [e] at this; cases this
theorem Inv.bs (I : Inv X pins σ H s) : ∀ b o, X.base.get? b = some o -> s.heap.get? b = some o /\ H b = none := fun b o e =>
 ⟨I.base.keep b o (I.ok.bs b o e).1 (I.ok.bs b o e).2 (I.ok.nofr e) (I.ok.noex b o e), I.base.free b o (I.ok.bs b o e).1 (I.ok.bs b o e).2 (I.ok.noex b o e)⟩
theorem Inv.bk (I : Inv X pins σ H s) : ∀ b o, X.base.get? b = some o -> s.heap.get? b = some o := fun b o e => (I.bs b o e).1
theorem Inv.mod (I : Inv X pins σ H s) : Mod X.K X.mg X.base := I.ok.mod
theorem Inv.kIn (I : Inv X pins σ H s) : X.K.In s.heap := I.ok.mod.kin.keeps I.bk
theorem Inv.fr (I : Inv X pins σ H s) : ∃ m, Fr X.base X.env.locals s.heap m :=
 let ⟨m, hn, _⟩ := I.loc
 ⟨m, hn, I.bk, PU I.ok.bsz I.ok.above⟩
theorem Inv.lt (I : Inv X pins σ H s) : X.env.locals < s.heap.objs.size := let ⟨_, hn, _⟩ := I.loc; hn.lt
theorem Inv.sz (I : Inv X pins σ H s) : X.s₀.heap.objs.size <= s.heap.objs.size := PU I.ok.above (Qh I.lt)
theorem Inv.nofs (I : Inv X pins σ H s) {a : Addr} (h : s.heap.objs.size <= a) : a ∉ X.fs := fun hb => by
 obtain ⟨_, o, ho, _⟩ := I.ok.funs.mem hb
 exact absurd (PZ (Pv ho) (PU I.sz h)) (QD _)
theorem Inv.cne (I : Inv X pins σ H s) : ∀ x c, X.env.cells.lookup x = some c -> c ≠ X.env.locals := fun x c e z => by
 obtain ⟨v, o, ho, hd⟩ := I.cell x c e
 obtain ⟨m, ⟨o', es, ep, ho', hd', _⟩, _⟩ := I.loc
 rw [z, ho'] at ho; cases ho; rw [hd'] at hd; cases hd
theorem Inv.funs (I : Inv X pins σ H s) : s.heap.FunFrames X.base X.outer := by
 have all : ∀ (l : List Env), (∀ b ∈ frs l, b ∈ X.fs) -> X.s₀.heap.FunFrames X.base l -> s.heap.FunFrames X.base l := by
  intro l
  induction l with
  | nil => intro _ _; trivial
  | cons env r ih =>
   intro hs hl
   obtain ⟨hk, ⟨L, o, hf, hn, ho, hd⟩, hr⟩ := hl
   have hL : L ∈ X.fs := hs L (by unfold frs; rw [QP, hf]; exact Pl)
   obtain ⟨sl, e⟩ := I.base.slot L o ho (I.ok.frf L hL) hL fun z => I.ok.exfs L z hL
   exact ⟨hk, ⟨L, _, hf, hn, e, hd⟩, ih (fun b hb => hs b (by unfold frs; rw [QP, hf]; exact Pn _ hb)) hr⟩
 exact all X.outer (fun _ hb => hb) I.ok.funs
theorem Inv.stack (I : Inv X pins σ H s) : s.heap.FunFrames X.base X.stack := by
 rcases I.ok.stk with e | ⟨e, hf⟩
 ·rw [e]; exact I.funs
 ·rw [e]
  obtain ⟨m, hn, _⟩ := I.loc
  refine .cons (by rw [I.ok.kind]; decide) hf hn ?_ I.funs
  exact Heap.get?_none_of_le (PU I.ok.bsz I.ok.above)
theorem Inv.stkSub (I : Inv X pins σ H s) : ∀ b ∈ frs X.stack, b ∈ X.env.locals :: X.fs := fun b hb => by
 rcases I.ok.stk with e | ⟨e, hf⟩
 ·rw [e] at hb; exact Pn _ hb
 ·rw [e] at hb
  unfold frs at hb
  rw [QP, hf] at hb
  exact hb
theorem Inv.stkFree (I : Inv X pins σ H s) : ∀ b ∈ frs X.stack, H b = none := fun b hb => by
 rcases Ps.mp (I.stkSub b hb) with e | hb
 ·rw [e]; exact I.free
 ·obtain ⟨_, o, ho, _⟩ := I.ok.funs.mem hb
  exact I.base.free b o ho (I.ok.frf b hb) fun z => I.ok.exfs b z hb
theorem Inv.step {g' : Array GenState} {t' : Nat} {d' : Drawn} {ch : List Addr} (I : Inv X pins σ H s)
  (hch : ∀ b ∈ ch, (b ∈ X.ex \/ X.s₀.heap.objs.size <= b) /\ b ≠ X.env.locals /\ (∀ x c, X.env.cells.lookup x = some c -> c ≠ b) /\ ∀ p ∈ X.pn ++ pins, p.1 ≠ b)
  (keep : ∀ b o, b ≠ X.env.locals -> b ∉ X.fs -> b ∉ ch -> s.heap.get? b = some o -> H b = none -> h'.get? b = some o)
  (slot : ∀ b o, b ≠ X.env.locals -> b ∈ X.fs -> b ∉ ch -> s.heap.get? b = some o -> H b = none -> ∃ sl, h'.get? b = some { o with slots := sl }) (free : ∀ b o, b ∉ ch -> s.heap.get? b = some o -> H b = none -> H' b = none)
  (there : ∀ b o, b ∉ ch -> s.heap.get? b = some o -> ∃ o', h'.get? b = some o')
  (tups : ∀ b xs, H b = some (.tup xs) -> H' b = some (.tup xs)) (frzs : ∀ b o u, H b = some (.frz o u) -> H' b = some (.frz o u)) (tbls : ∀ b ps, H b = some (.tbl ps) -> ∃ more, H' b = some (.tbl (ps ++ more)))
  (ns : ∀ m, s.heap.Ns X.env.locals m -> h'.Ns X.env.locals m) (hok : HOk X.prog X.w H' h') (hg : AllBare g') :
  Inv X pins σ H' { s with heap := h', gens := g', drawn := d', toks := t' } := by
 have neL : ∀ b o, X.s₀.heap.get? b = some o -> b ≠ X.env.locals := fun b o e => PK (PZ (Pv e) I.ok.above)
 have neC : ∀ b o, X.s₀.heap.get? b = some o -> b ∉ X.ex -> b ∉ ch := fun b o e hx hb => by
  rcases (hch b hb).1 with z | z
  ·exact hx z
  ·exact absurd (PZ (Pv e) z) (QD _)
 have cellK : ∀ x c, X.env.cells.lookup x = some c -> ∀ v, s.heap.IsCell c v -> h'.IsCell c v := fun x c e v hpt0 => by
  obtain ⟨o, ho, hd⟩ := hpt0
  have nch : c ∉ ch := fun z => (hch c z).2.2.1 x c e rfl
  by_cases hc : c ∈ X.fs
  ·obtain ⟨sl, q⟩ := slot c o (I.cne x c e) hc nch ho (I.freeC x c e)
   exact ⟨_, q, hd⟩
  ·exact ⟨o, keep c o (I.cne x c e) hc nch ho (I.freeC x c e), hd⟩
 refine ⟨I.ok, I.os, hg, ⟨fun b o e n hb hx => ?_, fun b o e n hb hx => ?_, fun b o e n hx => ?_, fun b o e hx => ?_, fun b xs e => tups b xs (I.base.tups b xs e), fun b o xs e => frzs b o xs (I.base.frzs b o xs e), fun b ps e => ?_⟩, ?_, fun x c e => ?_, ?_, fun x c e => ?_, fun p hp => ?_, hok, I.len⟩
 ·exact keep b o (neL b o e) hb (neC b o e hx) (I.base.keep b o e n hb hx) (I.base.free b o e n hx)
 ·obtain ⟨sl, e1⟩ := I.base.slot b o e n hb hx
  obtain ⟨sl', e2⟩ := slot b _ (neL b o e) hb (neC b o e hx) e1 (I.base.free b o e n hx)
  exact ⟨sl', e2⟩
 ·obtain ⟨o', e1⟩ := I.base.there b o e hx
  exact free b o' (neC b o e hx) e1 (I.base.free b o e n hx)
 ·obtain ⟨o', e1⟩ := I.base.there b o e hx
  exact there b o' (neC b o e hx) e1
 ·obtain ⟨m1, e1⟩ := I.base.tbls b ps e
  obtain ⟨m2, e2⟩ := tbls b _ e1
  exact ⟨m1 ++ m2, by rw [e2, Array.append_assoc]⟩
 ·obtain ⟨m, hn, hl⟩ := I.loc
  refine ⟨m, ns m hn, fun i x v e1 e2 e3 => ?_⟩
  obtain ⟨u, r, l⟩ := hl i x v e1 e2 e3
  refine ⟨u, r, ?_⟩
  rcases l with l | ⟨k, c, e, z⟩
  ·exact .inl l
  ·exact .inr ⟨k, c, e, cellK x c e _ z⟩
 ·obtain ⟨v, z⟩ := I.cell x c e
  exact ⟨v, cellK x c e v z⟩
 ·obtain ⟨m, ⟨o, _, _, ho, _⟩, _⟩ := I.loc
  exact free _ o (fun z => (hch _ z).2.1 rfl) ho I.free
 ·obtain ⟨v, o, ho, hd⟩ := I.cell x c e
  exact free c o (fun z => (hch c z).2.2.1 x c e rfl) ho (I.freeC x c e)
 ·obtain ⟨e, n, ne, nf, d⟩ := I.pin p hp
  have nch : p.1 ∉ ch := fun z => (hch p.1 z).2.2.2 p hp rfl
  exact ⟨keep p.1 p.2 ne nf nch e n, free p.1 p.2 nch e n, ne, nf, d⟩
theorem Inv.un {t' : Nat} (I : Inv X pins σ H s) (u : Un X.fs [] H H' s.heap h') (hok : HOk X.prog X.w H' h') : Inv X pins σ H' { s with heap := h', toks := t' } := by
 obtain ⟨m, ⟨o, es, ep, ho, r⟩, _⟩ := id I.loc
 obtain ⟨sl, hL⟩ := u.any ho I.free (by simp)
 exact I.step (g' := s.gens) (d' := s.drawn) (ch := []) (fun _ z => nomatch z) (fun b o _ hb _ e n => u.keep b o e n hb (by simp)) (fun b o _ hb _ e n => u.slot b o e n hb (by simp)) (fun b o _ e n => u.free b o e n (by simp)) (fun b o _ e => u.there b o e (by simp)) u.tups u.frzs u.tbls (fun m' hm => by
  obtain ⟨o', es', ep', ho', r'⟩ := hm
  rw [ho] at ho'; cases ho'
  exact ⟨_, es', ep', hL, r'⟩) hok I.bare
theorem Inv.call {g' : Array GenState} {t' : Nat} {d' : Drawn} {ch : List Addr} (I : Inv X pins σ H s) (u : Un (frs X.stack) ch H H' s.heap h') (hok : HOk X.prog X.w H' h') (hg : AllBare g')
  (hch : ∀ b ∈ ch, (b ∈ X.ex \/ X.s₀.heap.objs.size <= b) /\ b ≠ X.env.locals /\ (∀ x c, X.env.cells.lookup x = some c -> c ≠ b) /\ ∀ p ∈ X.pn ++ pins, p.1 ≠ b) :
  Inv X pins σ H' { s with heap := h', gens := g', drawn := d', toks := t' } := by
 obtain ⟨m, ⟨o, es, ep, ho, r⟩, _⟩ := id I.loc
 obtain ⟨sl, hL⟩ := u.any ho I.free fun z => (hch _ z).2.1 rfl
 exact I.step (ch := ch) hch (fun b o hL hb hc e n => u.keep b o e n (fun z => (Ps.mp (I.stkSub b z)).elim hL hb) hc) (fun b o _ _ hc e n => u.any e n hc) (fun b o hc e n => u.free b o e n hc) (fun b o hc e => u.there b o e hc) u.tups u.frzs u.tbls (fun m' hm => by
  obtain ⟨o', es', ep', ho', r'⟩ := hm
  rw [ho] at ho'; cases ho'
  exact ⟨_, es', ep', hL, r'⟩) hok hg
theorem Inv.turned {t' : Nat} {it : Addr} (I : Inv X pins σ H s) (k : ∀ b o, b ≠ it -> s.heap.get? b = some o -> h'.get? b = some o) (hn : H it = none) (hL : it ≠ X.env.locals)
  (h1 : it ∈ X.ex \/ X.s₀.heap.objs.size <= it) (h2 : ∀ x c, X.env.cells.lookup x = some c -> c ≠ it) (h3 : ∀ p ∈ X.pn ++ pins, p.1 ≠ it) : Inv X pins σ H { s with heap := h', toks := t' } := by
 have nit : ∀ b u, H b = some u -> b ≠ it := fun b u e z => by rw [z, hn] at e; cases e
 refine I.step (g' := s.gens) (d' := s.drawn) (ch := [it]) (fun b hb => ?_) (fun b o _ _ hc e _ => k b o (fun z => hc (by simp [z])) e) (fun b o _ _ hc e _ => ⟨o.slots, k b o (fun z => hc (by simp [z])) e⟩) (fun _ _ _ _ n => n)
  (fun b o hc e => ⟨o, k b o (fun z => hc (by simp [z])) e⟩) (fun _ _ e => e) (fun _ _ _ e => e) (fun b ps e => ⟨#[], by rw [e]; simp⟩) (fun m hm => ?_) (fun b u e => ?_) I.bare
 ·have e : b = it := by simpa using hb
  subst e
  exact ⟨h1, hL, h2, h3⟩
 ·obtain ⟨o, es, ep, ho, r⟩ := hm
  exact ⟨o, es, ep, k _ o (P0 hL) ho, r⟩
 ·refine (I.hok b u e).stay (fun c v hc q => k c v ?_ q) (fun _ q => q) fun _ _ q => q
  rcases hc with z | z
  ·rw [z]; exact nit b u e
  ·exact nit c _ z
theorem Inv.tok (I : Inv X pins σ H s) (t : Nat) : Inv X pins σ H { s with toks := t } := I.un (h' := s.heap) (t' := t) Un.refl I.hok
theorem Inv.kept {t' : Nat} (I : Inv X pins σ H s) (k : ∀ b u, s.heap.get? b = some u -> h'.get? b = some u) : Inv X pins σ H { s with heap := h', toks := t' } := I.un (Un.kept k) (I.hok.kept k)
theorem Inv.laid {a : Addr} {o : HO} {t' : Nat} (I : Inv X pins σ H s) (k : ∀ b u, s.heap.get? b = some u -> h'.get? b = some u) (hp : s.heap.objs.size <= a) (new : ObjOk X.prog X.w (upd H a o) h' a o) :
  Inv X pins σ (upd H a o) { s with heap := h', toks := t' } := I.un (Un.laid k hp (I.hok.fresh hp)) (I.hok.laid k hp new)
theorem Inv.write {x e : Addr} {o : HO} {t' : Nat} (I : Inv X pins σ H s) (mu : Mut (H x)) (he : e = x \/ H e = some (.own x)) (k : ∀ b u, b ≠ e -> s.heap.get? b = some u -> h'.get? b = some u) (heo : ∃ u, h'.get? e = some u)
  (new : ObjOk X.prog X.w (upd H x o) h' x o) : Inv X pins σ (upd H x o) { s with heap := h', toks := t' } := I.un (Un.write mu he k heo) (I.hok.write mu he k heo new)
theorem Inv.weak {σ' : List (Option V)} (I : Inv X pins σ H s) (hl : σ'.length = σ.length) (w : ∀ (i : Nat) v, σ'[i]? = some (some v) -> σ[i]? = some (some v)) : Inv X pins σ' H s :=
 ⟨I.ok, I.os, I.bare, I.base, let ⟨m, hn, hl'⟩ := I.loc; ⟨m, hn, fun i x v e1 e2 e3 => hl' i x v e1 (w i v e2) e3⟩, I.cell, I.free, I.freeC, I.pin, I.hok, hl.trans I.len⟩
theorem Inv.pins_of {pins' : List (Addr × Obj)} (I : Inv X pins σ H s) (h : ∀ p ∈ pins', s.heap.get? p.1 = some p.2 /\ H p.1 = none /\ p.1 ≠ X.env.locals /\ p.1 ∉ X.fs /\ ∀ v, p.2.data ≠ .cell v) : Inv X pins' σ H s :=
 ⟨I.ok, I.os, I.bare, I.base, I.loc, I.cell, I.free, I.freeC, fun p hp => (Pk.mp hp).elim (fun z => I.pin p (Po _ z)) (h p), I.hok, I.len⟩
theorem A8 {N : List Str} (hN : N.Nodup) {i j : Nat} {x : Str} (a : N[i]? = some x) (b : N[j]? = some x) : i = j := by
 obtain ⟨h1, e1⟩ := Pw.mp a
 obtain ⟨h2, e2⟩ := Pw.mp b
 exact (List.getElem_inj hN).mp (e1.trans e2.symm)
theorem Ef {M : Model} {A : Around} {E : Value -> Shared -> Prop} {i : Nat} {x : Str} {v : V} {u : Value} {Q : Unit -> Shared -> Prop} (I : Inv X pins σ H s) (hN : X.N.Nodup) (hi : X.N[i]? = some x) (hx : Loc X.env.scope x) (r : RelV v u)
  (h : ∀ s', Inv X pins (σ.set i (some v)) H s' -> (∃ a, Heap.SameBut a s.heap s'.heap /\ (a = X.env.locals \/ X.env.cells.lookup x = some a)) -> Q () s') (hf : X.fn x = true \/ X.env.scope.names.lookup x = some .local := by first | exact .inl rfl | exact .inr rfl | assumption) : wpAny M A (storeName X.env x u) Q E s := by
 obtain ⟨m, hn, hl⟩ := id I.loc
 have hcls : (X.env.scope.kind == .class || (X.env.scope.kind == .module && X.env.locals != X.env.globals)) = false := by rw [I.ok.kind]; rfl
 have hiσ : i < σ.length := by rw [I.len]; exact (Pw.mp hi).1
 have cne := I.cne
 have tracked : ∀ {a : Addr} {h' : Heap}, (∃ o, s.heap.get? a = some o /\ H a = none) -> Heap.SameBut a s.heap h' -> HOk X.prog X.w H h' := fun {a h'} ha hs b ob e => by
  obtain ⟨_, _, hfree⟩ := ha
  refine (I.hok b ob e).stay (fun c w' hc q => (hs.2 c ?_).trans q) (fun _ q => q) fun _ _ q => q
  rintro rfl
  rcases hc with rfl | hc
  ·rw [hfree] at e; cases e
  ·rw [hfree] at hc; cases hc
 rcases hx with hk | hk
 ·refine wpAny_storeName_local hk hn (fun h' hn' hs => ?_) hcls
  obtain ⟨oL, _, _, hoL, _⟩ := id hn
  refine h _ ⟨I.ok, I.os, I.bare, ⟨fun b o e n hb hx => ?_, fun b o e n hb hx => ?_, I.base.free, fun b o e hx => ?_, I.base.tups, I.base.frzs, I.base.tbls⟩, ⟨_, hn', fun j y v' e1 e2 e3 => ?_⟩, fun y c e => ?_, I.free, I.freeC, fun p hp => ?_, tracked ⟨oL, hoL, I.free⟩ hs, by simpa using I.len⟩ ⟨_, hs, .inl rfl⟩
  ·exact (hs.2 b (PK (PZ (Pv e) I.ok.above))).trans (I.base.keep b o e n hb hx)
  ·obtain ⟨sl, e1⟩ := I.base.slot b o e n hb hx
   exact ⟨sl, (hs.2 b (PK (PZ (Pv e) I.ok.above))).trans e1⟩
  ·obtain ⟨o', e1⟩ := I.base.there b o e hx
   exact ⟨o', (hs.2 b (PK (PZ (Pv e) I.ok.above))).trans e1⟩
  ·by_cases hj : j = i
   ·subst hj
    rw [hi] at e1; cases e1
    rw [QZ hiσ] at e2
    cases e2
    exact ⟨u, r, .inl ⟨hk, by simp⟩⟩
   ·rw [Qn (P0 hj)] at e2
    obtain ⟨u', r', q⟩ := hl j y v' e1 e2 e3
    refine ⟨u', r', ?_⟩
    rcases q with ⟨k, e⟩ | ⟨k, c, e, z⟩
    ·refine .inl ⟨k, ?_⟩
     have : y ≠ x := fun e => hj (A8 hN e1 (e ▸ hi))
     simp [this, e]
    ·exact .inr ⟨k, c, e, z.sameBut hs (cne y c e)⟩
  ·obtain ⟨w', z⟩ := I.cell y c e
   exact ⟨w', z.sameBut hs (cne y c e)⟩
  ·obtain ⟨e, n, ne, nf, d⟩ := I.pin p hp
   exact ⟨(hs.2 p.1 ne).trans e, n, ne, nf, d⟩
 ·have hfn : X.fn x = true := by
   rcases hf with z | z
   ·exact z
   ·rw [z] at hk; cases hk
  obtain ⟨c, hc⟩ := I.ok.has x (.inl hk)
  obtain ⟨w', z⟩ := I.cell x c hc
  refine wpAny_storeName_cell I.ok.kind hk hc z (fun h' hc' hs => ?_)
  obtain ⟨oc, hoc, hocd⟩ := id z
  refine h { s with heap := h' } ⟨I.ok, I.os, I.bare, ⟨fun b o e n hb hx => ?_, fun b o e n hb hx => ?_, I.base.free, fun b o e hx => ?_, I.base.tups, I.base.frzs, I.base.tbls⟩, ⟨m, hn.sameBut hs (P0 (cne x c hc)), fun j y v' e1 e2 e3 => ?_⟩, fun y c' e => ?_, I.free, I.freeC, fun p hp => ?_, tracked ⟨oc, hoc, I.freeC x c hc⟩ hs, by simpa using I.len⟩ ⟨c, hs, .inr hc⟩
  ·exact (hs.2 b (PK (PZ (Pv e) (I.ok.cab x c hfn hc)))).trans (I.base.keep b o e n hb hx)
  ·obtain ⟨sl, e1⟩ := I.base.slot b o e n hb hx
   exact ⟨sl, (hs.2 b (PK (PZ (Pv e) (I.ok.cab x c hfn hc)))).trans e1⟩
  ·obtain ⟨o', e1⟩ := I.base.there b o e hx
   exact ⟨o', (hs.2 b (PK (PZ (Pv e) (I.ok.cab x c hfn hc)))).trans e1⟩
  ·by_cases hj : j = i
   ·subst hj
    rw [hi] at e1; cases e1
    rw [QZ hiσ] at e2
    cases e2
    exact ⟨u, r, .inr ⟨.inl hk, c, hc, hc'⟩⟩
   ·rw [Qn (P0 hj)] at e2
    obtain ⟨u', r', q⟩ := hl j y v' e1 e2 e3
    refine ⟨u', r', ?_⟩
    rcases q with q | ⟨k, c', e, z'⟩
    ·exact .inl q
    ·refine .inr ⟨k, c', e, z'.sameBut hs ?_⟩
     rintro rfl
     exact hj (A8 hN e1 (I.ok.inj _ _ _ e hc ▸ hi))
  ·by_cases hcc : c' = c
   ·subst hcc; exact ⟨_, hc'⟩
   ·obtain ⟨w2, z2⟩ := I.cell y c' e
    exact ⟨w2, z2.sameBut hs hcc⟩
  ·obtain ⟨e, n, ne, nf, d⟩ := I.pin p hp
   refine ⟨(hs.2 p.1 ?_).trans e, n, ne, nf, d⟩
   intro q
   rw [q, hoc] at e
   have q' : oc = p.2 := PX e
   exact d w' (by rw [<- q']; exact hocd)
theorem uh {M : Model} {A : Around} {E : Value -> Shared -> Prop} {i : Nat} {x : Str} {v : V} {u : Value} {Q : Unit -> Shared -> Prop} (I : Inv X pins σ H s) (hN : X.N.Nodup) (hi : X.N[i]? = some x) (hx : Loc X.env.scope x) (r : RelV v u)
  (h : ∀ s', Inv X pins (σ.set i (some v)) H s' -> Q () s') (hf : X.fn x = true \/ X.env.scope.names.lookup x = some .local := by first | exact .inl rfl | exact .inr rfl | assumption) : wpAny M A (storeName X.env x u) Q E s :=
 Ef I hN hi hx r (fun s' I' _ => h s' I') hf
theorem Inv.call' {s' : Shared} {ch : List Addr} (I : Inv X pins σ H s) (ho : s'.os = s.os) (u : Un (frs X.stack) ch H H' s.heap s'.heap) (hok : HOk X.prog X.w H' s'.heap) (hg : AllBare s'.gens)
  (hch : ∀ b ∈ ch, (b ∈ X.ex \/ X.s₀.heap.objs.size <= b) /\ b ≠ X.env.locals /\ (∀ x c, X.env.cells.lookup x = some c -> c ≠ b) /\ ∀ p ∈ X.pn ++ pins, p.1 ≠ b) : Inv X pins σ H' s' := by
 obtain ⟨h', g', d', t', o'⟩ := s'
 have e : o' = s.os := ho
 subst e
 exact I.call (g' := g') (t' := t') (d' := d') u hok hg hch
end
abbrev XK := Value -> Option Addr -> Hp -> Prop
abbrev St := List (Option V)
abbrev VK := V -> Hp -> Prop
abbrev TE := St -> Hp -> VK -> Prop
abbrev TT := St -> Hp -> (Bool -> Hp -> Prop) -> Prop
abbrev TA := St -> Hp -> (List V -> Hp -> Prop) -> Prop
structure Ends where
 nx : St -> Hp -> Prop
 rt : VK
 bk : St -> Hp -> Prop := fun _ _ => False
 ct : St -> Hp -> Prop := fun _ _ => False
abbrev TS := Ends -> St -> Hp -> Prop
def EP (X : Cx) (pins : List (Addr × Obj)) (σ : St) (Q : VK) (u : Value) (s' : Shared) : Prop := ∃ v H', Inv X pins σ H' s' /\ RelV v u /\ Q v H'
def TP (X : Cx) (pins : List (Addr × Obj)) (σ : St) (Q : Bool -> Hp -> Prop) (b : Bool) (s' : Shared) : Prop := ∃ H', Inv X pins σ H' s' /\ Q b H'
def AP (X : Cx) (pins : List (Addr × Obj)) (σ : St) (Q : List V -> Hp -> Prop) (us : List Value) (s' : Shared) : Prop := ∃ vs H', Inv X pins σ H' s' /\ Vals vs us /\ Q vs H'
def SP (X : Cx) (pins : List (Addr × Obj)) (D : Ends) (f : Flow) (s' : Shared) : Prop :=
 match f with
 | .next => ∃ σ' H', Inv X pins σ' H' s' /\ D.nx σ' H'
 | .brk => ∃ σ' H', Inv X pins σ' H' s' /\ D.bk σ' H'
 | .cont => ∃ σ' H', Inv X pins σ' H' s' /\ D.ct σ' H'
 | .ret u => ∃ v σ' H', Inv X pins σ' H' s' /\ RelV v u /\ D.rt v H'
def PE (X : Cx) (e : Expr) (t : TE) : Prop :=
 ∀ (pins : List (Addr × Obj)) (s : Shared) (σ : St) (H : Hp) (Q : VK), Inv X pins σ H s -> t σ H Q -> wpAny (model X.prog X.w) X.A (eval e X.env) (EP X pins σ Q) X.xe s
def PT (X : Cx) (e : Expr) (t : TT) : Prop :=
 ∀ (pins : List (Addr × Obj)) (s : Shared) (σ : St) (H : Hp) (Q : Bool -> Hp -> Prop), Inv X pins σ H s -> t σ H Q -> wpAny (model X.prog X.w) X.A (isTrue e X.env (eval e X.env)) (TP X pins σ Q) X.xe s
def PW (X : Cx) (e : Expr) (t : TT) : Prop :=
 ∀ (whole : Sem Value) (pins : List (Addr × Obj)) (s : Shared) (σ : St) (H : Hp) (Q : Bool -> Hp -> Prop), Inv X pins σ H s -> t σ H Q -> wpAny (model X.prog X.w) X.A (isTrue e X.env whole) (TP X pins σ Q) X.xe s
theorem PW.pt {X : Cx} {e : Expr} {t : TT} (h : PW X e t) : PT X e t := h _
def PA (X : Cx) (es : List Expr) (t : TA) : Prop :=
 ∀ (pos : Pos) (pins : List (Addr × Obj)) (s : Shared) (σ : St) (H : Hp) (Q : List V -> Hp -> Prop), Inv X pins σ H s -> t σ H Q -> wpAny (model X.prog X.w) X.A (spliced (backTo pos (starEach es X.env))) (AP X pins σ Q) X.xe s
def PS (X : Cx) (st : Stmt) (t : TS) : Prop :=
 ∀ (pins : List (Addr × Obj)) (s : Shared) (σ : St) (H : Hp) (D : Ends), Inv X pins σ H s -> t D σ H -> wpAny (model X.prog X.w) X.A (exec st X.env) (SP X pins D) X.xe s
def PSs (X : Cx) (st : List Stmt) (t : TS) : Prop :=
 ∀ (pins : List (Addr × Obj)) (s : Shared) (σ : St) (H : Hp) (D : Ends), Inv X pins σ H s -> t D σ H -> wpAny (model X.prog X.w) X.A (execs st X.env) (SP X pins D) X.xe s
theorem thn {α : Type} {t : Sem α} {Q Q' : α -> Shared -> Prop} {M : Model} {A : Around} {E : Value -> Shared -> Prop} {s : Shared} (h : wpAny M A t Q E s) (hQ : ∀ a s, Q a s -> Q' a s) : wpAny M A t Q' E s := Qu h hQ fun _ _ x => x
section
variable {X : Cx}
def uw (i : Nat) : TE := fun σ H Q => ∃ v, σ[i]? = some (some v) /\ Q v H
def tC (v : V) : TE := fun _ H Q => Q v H
theorem JV {i : Nat} {x : Str} {pos : Pos} (hN : X.N[i]? = some x) (hv : Vis X.env.scope x) (hd : (x == ("__debug__" : Str)) = false := by decide) (hcd : (x == ("__classdict__" : Str)) = false := by decide) : PE X (.Name x pos) (uw i) := by
 intro pins s σ H Q I h
 obtain ⟨v, e, h⟩ := h
 obtain ⟨m, hn, hl⟩ := I.loc
 obtain ⟨u, r, l⟩ := hl i x v hN e hv
 have fin : EP X pins σ Q u s := ⟨v, H, I, r, h⟩
 rcases l with ⟨hk, hm⟩ | ⟨hk, c, hc, hcell⟩
 ·exact wpAny_Name (wpAny_loadName_local I.ok.kind hk hn hm fin) hd
 ·rcases hk with hk | hk
  ·exact wpAny_Name (wpAny_loadName_cell I.ok.kind hk hc hcell fin) hd
  ·exact wpAny_Name (wpAny_loadName_free I.ok.kind hk hc hcell fin hcd) hd
theorem ak {i j pos} : PE X (.Constant (.int i) j pos) (tC (.int i)) := fun _ _ _ H _ I h => wpAny_Constant_int ⟨.int i, H, I.tok _, ⟨_, rfl⟩, h⟩
theorem mJ {b j pos} : PE X (.Constant (.bool b) j pos) (tC (.bl b)) := fun _ _ _ H _ I h => Constant_bool ⟨.bl b, H, I, rfl, h⟩
theorem Jp {j pos} : PE X (.Constant .none j pos) (tC .non) := fun _ _ _ H _ I h => Constant_none ⟨.non, H, I, rfl, h⟩
def Gl (X : Cx) (x : Str) : Prop := X.env.kindOf x = some .globalImplicit
theorem y3 {E : Value -> Shared -> Prop} {pins : List (Addr × Obj)} {s : Shared} {σ : St} {H : Hp} {x : Str} {u : Value} {pos : Pos} {Q : Value -> Shared -> Prop} (I : Inv X pins σ H s) (hg : Gl X x) (hm : X.mg x = some u) (h : Q u s)
  (hd : (x == ("__debug__" : Str)) = false := by decide) : wpAny (model X.prog X.w) X.A (eval (.Name x pos) X.env) Q E s :=
 Calls.Name_function_global I.ok.kind hg (Calls.loadGlobal_global (by rw [I.ok.glob]; exact I.mod.glob.keeps I.bk) hm h) hd
theorem oS {E : Value -> Shared -> Prop} {pins : List (Addr × Obj)} {s : Shared} {σ : St} {H : Hp} {x : Str} {u : Value} {pos : Pos} {Q : Value -> Shared -> Prop} (I : Inv X pins σ H s) (hg : Gl X x) (hm : X.mg x = none) (hv : bootBuiltins x = some u) (h : Q u s)
  (hn : x ≠ "__name__" := by decide) (hd : (x == ("__debug__" : Str)) = false := by decide) : wpAny (model X.prog X.w) X.A (eval (.Name x pos) X.env) Q E s := by
 obtain ⟨mb, h1, h2⟩ := I.mod.blt
 exact Calls.Name_function_global I.ok.kind hg (Calls.loadGlobal_builtin (by rw [I.ok.glob]; exact I.mod.glob.keeps I.bk) hm (by rw [I.ok.blt]; exact h1.keeps I.bk) ((h2 x hn).trans hv) h) hd
theorem De {x : Str} {v : V} {u : Value} {pos : Pos} (hg : Gl X x) (hm : X.mg x = some u) (r : RelV v u) (hd : (x == ("__debug__" : Str)) = false := by decide) : PE X (.Name x pos) (tC v) :=
 fun _ _ _ H _ I h => y3 I hg hm ⟨v, H, I, r, h⟩ hd
theorem CS {x : Str} {v : V} {u : Value} {pos : Pos} (hg : Gl X x) (hm : X.mg x = none) (hv : bootBuiltins x = some u) (r : RelV v u) (hn : x ≠ "__name__" := by decide) (hd : (x == ("__debug__" : Str)) = false := by decide) : PE X (.Name x pos) (tC v) :=
 fun _ _ _ H _ I h => oS I hg hm hv ⟨v, H, I, r, h⟩ hn hd
variable {a b : Expr} {ta tb : TE} {pos : Pos}
def tB (t : TE) : TT := fun σ H Q => t σ H fun x H1 => ∃ c, x = .bl c /\ Q c H1
variable {tA tB' : TT} {rest : List Expr}
def LV (t u : TT) : TT := fun σ H Q => t σ H fun c H1 => if c = true then u σ H1 Q else Q false H1
def tOr (t u : TT) : TT := fun σ H Q => t σ H fun c H1 => if c = true then Q true H1 else u σ H1 Q
def Ly (t : TT) : TT := fun σ H Q => t σ H fun c H1 => Q (!c) H1
theorem jq (ha : PT X a tA) : PW X (.BoolOp .And [a] pos) tA := by
 intro wh pins s σ H Q I h
 refine isTrue_and (thn (ha pins s σ H Q I h) fun c s1 e => ?_)
 cases c with
 | true => exact isTrue_and_nil e
 | false => exact e
theorem Cu (ha : PT X a tA) : PW X (.BoolOp .Or [a] pos) tA := by
 intro wh pins s σ H Q I h
 refine isTrue_or (thn (ha pins s σ H Q I h) fun c s1 e => ?_)
 cases c with
 | false => exact isTrue_or_nil e
 | true => exact e
theorem iE (ha : PT X a tA) (hb : PW X (.BoolOp .And (b :: rest) pos) tB') : PW X (.BoolOp .And (a :: b :: rest) pos) (LV tA tB') := by
 intro wh pins s σ H Q I h
 refine isTrue_and (thn (ha pins s σ H _ I h) fun c s1 hpt9 => ?_)
 obtain ⟨H1, I1, q1⟩ := hpt9
 cases c with
 | true => exact hb wh pins s1 σ H1 Q I1 q1
 | false => exact ⟨H1, I1, q1⟩
theorem F4 (ha : PT X a tA) (hb : PW X (.BoolOp .Or (b :: rest) pos) tB') : PW X (.BoolOp .Or (a :: b :: rest) pos) (tOr tA tB') := by
 intro wh pins s σ H Q I h
 refine isTrue_or (thn (ha pins s σ H _ I h) fun c s1 hpt9 => ?_)
 obtain ⟨H1, I1, q1⟩ := hpt9
 cases c with
 | true => exact ⟨H1, I1, q1⟩
 | false => exact hb wh pins s1 σ H1 Q I1 q1
theorem tS (ha : PT X a tA) : PT X (.UnaryOp .Not a pos) (Ly tA) := by
 intro pins s σ H Q I h
 exact isTrue_not (ha pins s σ H (fun c H1 => Q (!c) H1) I h)
def IE (ta tb : TE) : TE := fun σ H Q => ta σ H fun x H1 => ∃ c, x = .bl c /\ if c = true then tb σ H1 Q else Q (.bl false) H1
theorem G1 {op} {t : TE} (h : PE X a t) : PE X (.BoolOp op [a] pos) t := fun pins s σ H Q I hw => BoolOp_one (h pins s σ H Q I hw)
theorem GM (ha : PE X a ta) (hb : PE X (.BoolOp .And (b :: rest) pos) tb) : PE X (.BoolOp .And (a :: b :: rest) pos) (IE ta tb) := by
 intro pins s σ H Q I h
 refine BoolOp_and (thn (ha pins s σ H _ I h) fun v s1 hpt9 => ?_)
 obtain ⟨x, H1, I1, r1, q1⟩ := hpt9
 obtain ⟨c, rfl, q1⟩ := q1
 cases r1
 refine wpAny_truthy_bool ?_
 cases c with
 | true => exact hb pins s1 σ H1 Q I1 q1
 | false => exact ⟨.bl false, H1, I1, rfl, q1⟩
end
def SqL (K : W.Frag) (H : Hp) (a : Addr) (xs : List V) : Prop :=
 Rd H a (.lst xs) \/
  ∃ (o : Obj) (its : Array Value) (n : Nat), K.lookup a = some o /\ o.cls = .type "list" /\ o.dict = none /\ o.data = .seq its n /\ its.size <= sizeLine /\ Vals xs its.toList
def SqT (K : W.Frag) (H : Hp) (a : Addr) (xs : List V) : Prop :=
 Rd H a (.tup xs) \/
  ∃ (o : Obj) (its : Array Value) (n : Nat), K.lookup a = some o /\ o.cls = .type "tuple" /\ o.data = .seq its n /\ its.size <= sizeLine /\ Vals xs its.toList
def Ni : Value -> Option V
 | .none => some .non
 | .bool b => some (.bl b)
 | .int i _ => some (.int i)
 | .str x _ => some (.str x)
 | .bytes b _ => some (.byt b)
 | .float b _ => some (.flt b)
 | .ref a => some (.ref a)
 | .type n => some (.ty n)
 | _ => none
theorem RelV.abs {x : V} {u : Value} (r : RelV x u) : Ni u = some x := by
 cases x with
 | non => cases r; rfl
 | bl _ => cases r; rfl
 | int _ => obtain ⟨t, rfl⟩ := r; rfl
 | str _ => obtain ⟨t, rfl⟩ := r; rfl
 | byt _ => obtain ⟨t, rfl⟩ := r; rfl
 | flt _ => obtain ⟨t, rfl⟩ := r; rfl
 | ref _ => cases r; rfl
 | ty _ => cases r; rfl
theorem RelV.inj {x y : V} {u : Value} (r : RelV x u) (q : RelV y u) : x = y := PX (r.abs.symm.trans q.abs)
theorem Vals.inj {xs ys : List V} {us : List Value} (h : Vals xs us) (k : Vals ys us) : xs = ys := by
 induction h generalizing ys with
 | nil => cases k; rfl
 | cons r t ih =>
  cases k with
  | cons r' t' => rw [r.inj r', ih t']
section
variable {X : Cx} {pins : List (Addr × Obj)} {σ : St} {H : Hp} {s : Shared} {a : Addr} {xs ys : List V}
theorem SqL.of {K : W.Frag} (h : H a = some (.lst xs)) : SqL K H a xs := .inl (.inl h)
theorem SqT.of {K : W.Frag} (h : H a = some (.tup xs)) : SqT K H a xs := .inl (.inl h)
theorem Inv.list (I : Inv X pins σ H s) (h : SqL X.K H a xs) : ∃ its : List Value, Vals xs its /\ PlainL s.heap a its.toArray /\ xs.length <= sizeLine := by
 rcases h with h | ⟨o, its, n, hk, hc, hd, hs, hz, r⟩
 ·obtain ⟨z, its, n, r, e⟩ := h.ok I.hok
  exact ⟨its, r, ⟨_, n, e, rfl, rfl, rfl⟩, z⟩
 ·refine ⟨its.toList, r, ⟨o, n, I.kIn a o hk, hc, hd, by simpa using hs⟩, ?_⟩
  have e := r.length
  simp only [Qa] at e
  lia
theorem Inv.tuple (I : Inv X pins σ H s) (h : SqT X.K H a xs) : ∃ its : List Value, Vals xs its /\ IsTup s.heap a its.toArray /\ xs.length <= sizeLine := by
 rcases h with h | ⟨o, its, n, hk, hc, hs, hz, r⟩
 ·obtain ⟨z, its, r, p⟩ := h.ok I.hok
  exact ⟨its, r, p, z⟩
 ·refine ⟨its.toList, r, ⟨o, I.kIn a o hk, hc, n, by simpa using hs⟩, ?_⟩
  have e := r.length
  simp only [Qa] at e
  lia
theorem Inv.list_inj (I : Inv X pins σ H s) (h : SqL X.K H a xs) (h' : SqL X.K H a ys) : xs = ys := by
 obtain ⟨its, r, ⟨o, n, e, _, _, d⟩, _⟩ := I.list h
 obtain ⟨its', r', ⟨o', n', e', _, _, d'⟩, _⟩ := I.list h'
 rw [e] at e'; cases e'
 rw [d] at d'
 injection d' with d1 _
 have : its = its' := by simpa using PH Array.toList d1
 subst this
 exact r.inj r'
theorem Inv.tuple_inj (I : Inv X pins σ H s) (h : SqT X.K H a xs) (h' : SqT X.K H a ys) : xs = ys := by
 obtain ⟨its, r, ⟨o, e, _, n, d⟩, _⟩ := I.tuple h
 obtain ⟨its', r', ⟨o', e', _, n', d'⟩, _⟩ := I.tuple h'
 rw [e] at e'; cases e'
 rw [d] at d'
 injection d' with d1 _
 have : its = its' := by simpa using PH Array.toList d1
 subst this
 exact r.inj r'
end
abbrev Cx.wish (X : Cx) (E : Value -> Shared -> Prop) : Cx := { X with xe := E }
abbrev Cx.nox (X : Cx) : Cx := X.wish fun _ _ => False
theorem Cx.Ok.wish {X : Cx} (ok : X.Ok) (E : Value -> Shared -> Prop) : (X.wish E).Ok :=
 ⟨ok.mod, ok.kind, ok.glob, ok.blt, ok.above, ok.inj, ok.has, ok.cab, ok.hd, ok.frames, ok.stk, ok.exf, ok.bs, ok.bsz, ok.noex, ok.exfs, ok.funs, ok.frf⟩
theorem Cx.Ok.unwish {X : Cx} {E : Value -> Shared -> Prop} (ok : (X.wish E).Ok) : X.Ok :=
 ⟨ok.mod, ok.kind, ok.glob, ok.blt, ok.above, ok.inj, ok.has, ok.cab, ok.hd, ok.frames, ok.stk, ok.exf, ok.bs, ok.bsz, ok.noex, ok.exfs, ok.funs, ok.frf⟩
section
variable {X : Cx} {pins : List (Addr × Obj)} {σ : St} {H : Hp} {s : Shared} {E : Value -> Shared -> Prop}
theorem Inv.wish (I : Inv X pins σ H s) (E : Value -> Shared -> Prop) : Inv (X.wish E) pins σ H s := ⟨I.ok.wish E, I.os, I.bare, I.base, I.loc, I.cell, I.free, I.freeC, I.pin, I.hok, I.len⟩
theorem Inv.unwish (I : Inv (X.wish E) pins σ H s) : Inv X pins σ H s := ⟨I.ok.unwish, I.os, I.bare, I.base, I.loc, I.cell, I.free, I.freeC, I.pin, I.hok, I.len⟩
theorem SP.unwish {D : Ends} {f : Flow} {s' : Shared} (h : SP (X.wish E) pins D f s') : SP X pins D f s' := by
 cases f with
 | next => obtain ⟨σ', H', I, q⟩ := h; exact ⟨σ', H', I.unwish, q⟩
 | brk => obtain ⟨σ', H', I, q⟩ := h; exact ⟨σ', H', I.unwish, q⟩
 | cont => obtain ⟨σ', H', I, q⟩ := h; exact ⟨σ', H', I.unwish, q⟩
 | ret u => obtain ⟨v, σ', H', I, r, q⟩ := h; exact ⟨v, σ', H', I.unwish, r, q⟩
theorem PSs.nox {st : List Stmt} {t : TS} (h : PSs X.nox st t) : PSs X st t := fun pins s σ H D I hw =>
 Qu (h pins s σ H D (I.wish _) hw) (fun _ _ q => q.unwish) fun _ _ z => False.elim z
end
section
variable {X : Cx} {st : Stmt} {rest : List Stmt} {t u : TS} {e : Expr} {te : TE} {pos : Pos}
def Ge : TS := fun D σ H => D.nx σ H
def J9 (t u : TS) : TS := fun D σ H => t { D with nx := u D } σ H
theorem cT : PSs X [] Ge := fun _ _ σ H _ I h => Rs ⟨σ, H, I, h⟩
theorem ao (h1 : PS X st t) (h2 : PSs X rest u) : PSs X (st :: rest) (J9 t u) := by
 intro pins s σ H D I h
 refine wpAny_execs_cons (thn (h1 pins s σ H { D with nx := u D } I h) fun f s1 q => ?_)
 cases f with
 | next =>
  obtain ⟨σ', H', I', q⟩ := q
  exact h2 pins s1 σ' H' D I' q
 | ret v => exact q
 | brk => exact q
 | cont => exact q
theorem ar (h1 : PS X st t) : PSs X [st] t := by
 intro pins s σ H D I h
 refine wpAny_execs_cons (thn (h1 pins s σ H D I h) fun f s1 q => ?_)
 cases f with
 | next => exact Rs q
 | ret v => exact q
 | brk => exact q
 | cont => exact q
theorem Inv.quiet {pins : List (Addr × Obj)} {σ : St} {H : Hp} {s : Shared} (I : Inv X pins σ H s) : interactive X.env = false := by simp [interactive, I.ok.kind]
def zz (te : TE) : TS := fun D σ H => te σ H fun _ H1 => D.nx σ H1
theorem dA (he : PE X e te) (hs : swapsWith e none pos.line X.env = pure false := by rfl) : PS X (.Expr e pos) (zz te) := by
 intro pins s σ H D I h
 exact wpAny_Expr_any (thn (he pins s σ H _ I h) fun v s1 ⟨x, H1, I1, r1, q1⟩ => ⟨σ, H1, I1, q1⟩) I.quiet hs
def JT (te : TE) : TS := fun D σ H => te σ H D.rt
theorem aN (he : PE X e te) : PS X (.Return (some e) pos) (JT te) := by
 intro pins s σ H D I h
 exact wpAny_Return_some (thn (he pins s σ H _ I h) fun v s1 ⟨x, H1, I1, r1, q1⟩ => ⟨x, σ, H1, I1, r1, q1⟩)
def Jk (c : TT) (t u : TS) : TS := fun D σ H => c σ H fun b H1 => if b = true then t D σ H1 else u D σ H1
theorem eo {c : Expr} {a b : List Stmt} {tc : TT} (hc : PT X c tc) (ha : PSs X a t) (hb : PSs X b u) : PS X (.If c a b pos) (Jk tc t u) := by
 intro pins s σ H D I h
 refine wpAny_If (thn (hc pins s σ H _ I h) fun d s1 hpt9 => ?_)
 obtain ⟨H1, I1, q1⟩ := hpt9
 cases d with
 | true => exact ha pins s1 σ H1 D I1 q1
 | false => exact hb pins s1 σ H1 D I1 q1
def F2 : TS := fun _ _ _ => False
theorem yi {sts : List Stmt} : PSs X sts F2 := fun _ _ _ _ _ _ h => h.elim
end
abbrev TG := V -> St -> Hp -> (St -> Hp -> Prop) -> Prop
abbrev TGs := List V -> St -> Hp -> (St -> Hp -> Prop) -> Prop
def PG (X : Cx) (target : Expr) (t : TG) : Prop :=
 ∀ (pins : List (Addr × Obj)) (s : Shared) (σ : St) (H : Hp) (v : V) (u : Value) (Q : St -> Hp -> Prop), Inv X pins σ H s -> RelV v u -> t v σ H Q ->
  wpAny (model X.prog X.w) X.A (assign target X.env u) (fun _ s' => ∃ σ' H', Inv X pins σ' H' s' /\ Q σ' H') X.xe s
def PGs (X : Cx) (ts : List Expr) (t : TGs) : Prop :=
 ∀ (pins : List (Addr × Obj)) (s : Shared) (σ : St) (H : Hp) (vs : List V) (us : List Value) (Q : St -> Hp -> Prop), Inv X pins σ H s -> Vals vs us -> t vs σ H Q ->
  wpAny (model X.prog X.w) X.A (assignInOrder ((assignEach ts X.env).map (·.2)) us) (fun _ s' => ∃ σ' H', Inv X pins σ' H' s' /\ Q σ' H') X.xe s
abbrev Jr := V -> V -> V -> Hp -> (Hp -> Prop) -> Prop
def LP (X : Cx) (t : Jr) : Prop :=
 ∀ (pins : List (Addr × Obj)) (s : Shared) (σ : St) (H : Hp) (o i v : V) (ov iv u : Value) (Q : Hp -> Prop), Inv X pins σ H s -> RelV o ov -> RelV i iv -> RelV v u -> t o i v H Q ->
  wpAny (model X.prog X.w) X.A (setItem ov iv u) (fun _ s' => ∃ H', Inv X pins σ H' s' /\ Q H') X.xe s
abbrev TIp := V -> V -> Hp -> VK -> Prop
def PIp (X : Cx) (op : Operator) (t : TIp) : Prop :=
 ∀ (pins : List (Addr × Obj)) (s : Shared) (σ : St) (H : Hp) (x y : V) (v u : Value) (Q : VK), Inv X pins σ H s -> RelV x v -> RelV y u -> t x y H Q ->
  wpAny (model X.prog X.w) X.A (inplaceOp op v u) (EP X pins σ Q) X.xe s
section
variable {X : Cx} {pos : Pos}
def jm (i : Nat) : TG := fun v σ H Q => Q (σ.set i (some v)) H
theorem tK {i : Nat} {x : Str} (hN : X.N.Nodup) (hi : X.N[i]? = some x) (hx : Loc X.env.scope x) (hf : X.fn x = true \/ X.env.scope.names.lookup x = some .local := by first | exact .inl rfl | exact .inr rfl | assumption) : PG X (.Name x pos) (jm i) := by
 intro pins s σ H v u Q I r h
 exact wpAny_assign_Name (uh I hN hi hx r (fun s' I' => ⟨_, H, I', h⟩) hf)
def J6 : TGs := fun vs σ H Q => vs = [] /\ Q σ H
def Hh (t : TG) (u : TGs) : TGs := fun vs σ H Q => ∃ v r, vs = v :: r /\ t v σ H fun σ' H' => u r σ' H' Q
theorem aV : PGs X [] J6 := by
 intro pins s σ H vs us Q I r h
 obtain ⟨e, h⟩ := h
 subst e
 cases r
 exact assignInOrder_nil ⟨σ, H, I, h⟩
theorem ap {e : Expr} {es : List Expr} {t : TG} {u : TGs} (h1 : PG X e t) (h2 : PGs X es u)
  (hs : (assignEach (e :: es) X.env).map (·.2) = assign e X.env :: (assignEach es X.env).map (·.2) := by rfl) : PGs X (e :: es) (Hh t u) := by
 intro pins s σ H vs us Q I r h
 obtain ⟨v, vr, e1, h⟩ := h
 subst e1
 cases r with
 | cons r rr =>
  rw [hs]
  refine assignInOrder_cons (thn (h1 pins s σ H _ _ _ I r h) fun _ s1 hpt9 => ?_)
  obtain ⟨σ1, H1, I1, q1⟩ := hpt9
  exact h2 pins s1 σ1 H1 _ _ Q I1 rr q1
def Kl (K : W.Frag) (n : Nat) (t : TGs) : TG := fun v σ H Q => ∃ a xs, v = .ref a /\ SqT K H a xs /\ xs.length = n /\ t xs σ H Q
theorem bn {es : List Expr} {k : Nat} {t : TGs} {n : Nat} (hc : X.calm = true) (h : PGs X es t)
  (hn : (assignEach es X.env).length = n := by rfl) (hst : (assignEach es X.env).findIdx? (·.1) = none := by rfl) : PG X (.Tuple es k pos) (Kl X.K n t) := by
 intro pins s σ H v u Q I r hw
 obtain ⟨a, xs, e1, hq, hl, hw⟩ := hw
 subst e1
 cases r
 obtain ⟨its, rv, ht, hz⟩ := I.tuple hq
 refine assign_Tuple_tuple (I.ok.hd hc) ht (by simp [hn, <- hl, rv.length]) hst fun h' hx => ?_
 have I1 : Inv X pins σ H { s with heap := h' } := I.kept (t' := s.toks) fun b o e => hx b o (PK (Pv e)) e
 exact h pins _ σ H xs _ Q I1 (by simpa using rv) hw
def L0 (to ti : TE) (t : Jr) : TG := fun v σ H Q => to σ H fun o H1 => ti σ H1 fun i H2 => t o i v H2 fun H3 => Q σ H3
theorem G7 {o i : Expr} {to ti : TE} {t : Jr} (ho : PE X o to) (hi : PE X i ti) (hs : LP X t)
  (ha : ∀ v, assign (.Subscript o i pos) X.env v = (do
   let ov ← holding [v] (eval o X.env)
   let iv ← holding [v, ov] (eval i X.env)
   standAt pos
   holding [v, ov, iv] (setItem ov iv v)
   release [v, ov, iv] []) := by intro _; rfl) : PG X (.Subscript o i pos) (L0 to ti t) := by
 intro pins s σ H v u Q I r h
 rw [ha]
 refine Pf (QQ (thn (ho pins s σ H _ I h) fun ov s1 hpt9 => ?_))
 obtain ⟨x, H1, I1, r1, q1⟩ := hpt9
 refine Pf (QQ (thn (hi pins s1 σ H1 _ I1 q1) fun iv s2 hpt9 => ?_))
 obtain ⟨y, H2, I2, r2, q2⟩ := hpt9
 refine Pf (wpAny_standAt (Pf (QQ (thn (hs pins s2 σ H2 x y v ov iv u _ I2 r1 r2 r q2) fun _ s3 hpt9 => ?_))))
 obtain ⟨H3, I3, q3⟩ := hpt9
 exact wpAny_release ⟨σ, H3, I3, q3⟩
def zn (te : TE) (g : TG) : TS := fun D σ H => te σ H fun x H1 => g x σ H1 D.nx
theorem GQ {tg e : Expr} {te : TE} {g : TG} (he : PE X e te) (hg : PG X tg g) (hs : swapsWithSole [tg] e pos.line X.env = pure false := by rfl) (hw : swappedStores [tg] e X.env = pure none := by rfl)
  (h1 : (assignEach [tg] X.env).map (·.2) = [assign tg X.env] := by rfl) : PS X (.Assign [tg] e pos) (zn te g) := by
 intro pins s σ H D I h
 refine wpAny_Assign_stores (thn (he pins s σ H _ I h) fun v s1 hpt9 => ?_) hs hw
 obtain ⟨x, H1, I1, r1, q1⟩ := hpt9
 rw [h1]
 exact thn (hg pins s1 σ H1 x v _ I1 r1 q1) fun _ s2 q => q
theorem Ca {i : Nat} {x : Str} {e : Expr} {te : TE} {pos' : Pos} (hN : X.N.Nodup) (hi : X.N[i]? = some x) (hx : Loc X.env.scope x) (he : PE X e te) (hs : swapsWith e (some (.Name x pos')) pos.line X.env = pure false := by rfl) (hf : X.fn x = true \/ X.env.scope.names.lookup x = some .local := by first | exact .inl rfl | exact .inr rfl | assumption) :
  PS X (.Assign [.Name x pos'] e pos) (zn te (jm i)) := by
 intro pins s σ H D I h
 refine wpAny_Assign_Name (thn (he pins s σ H _ I h) fun v s1 hpt9 => ?_) hs
 obtain ⟨y, H1, I1, r1, q1⟩ := hpt9
 exact uh I1 hN hi hx r1 (fun s2 I2 => ⟨_, H1, I2, q1⟩) hf
def LJ (i : Nat) (te : TE) (ti : TIp) : TS := fun D σ H => ∃ x, σ[i]? = some (some x) /\ te σ H fun y H1 => ti x y H1 fun z H2 => D.nx (σ.set i (some z)) H2
theorem yX {i : Nat} {x : Str} {e : Expr} {te : TE} {op : Operator} {ti : TIp} {pos' : Pos} (hN : X.N.Nodup) (hi : X.N[i]? = some x) (hx : Loc X.env.scope x) (he : PE X e te) (ho : PIp X op ti) (hf : X.fn x = true \/ X.env.scope.names.lookup x = some .local := by first | exact .inl rfl | exact .inr rfl | assumption) :
  PS X (.AugAssign (.Name x pos') op e pos) (LJ i te ti) := by
 intro pins s σ H D I h
 obtain ⟨v, e1, h⟩ := h
 obtain ⟨m, hn, hl⟩ := I.loc
 have vis : Vis X.env.scope x := by rcases hx with k | k; exact .inl k; exact .inr (.inl k)
 obtain ⟨u, r, l⟩ := hl i x v hi e1 vis
 refine wpAny_AugAssign_Name ?_
 have go : wpAny (model X.prog X.w) X.A (eval e X.env) (fun w s₂ => wpAny (model X.prog X.w) X.A (inplaceOp op u w) (fun r s₃ => wpAny (model X.prog X.w) X.A (storeName X.env x r) (fun _ => SP X pins D .next) X.xe s₃) X.xe s₂) X.xe s := by
  refine thn (he pins s σ H _ I h) fun w s1 hpt9 => ?_
  obtain ⟨y, H1, I1, r1, q1⟩ := hpt9
  refine thn (ho pins s1 σ H1 v y u w _ I1 r r1 q1) fun z s2 hpt9 => ?_
  obtain ⟨zv, H2, I2, r2, q2⟩ := hpt9
  exact uh I2 hN hi hx r2 (fun s3 I3 => ⟨_, H2, I3, q2⟩) hf
 rcases l with ⟨hk, hm⟩ | ⟨hk, c, hc, hcell⟩
 ·exact wpAny_loadName_local I.ok.kind hk hn hm go
 ·rcases hk with hk | hk
  ·exact wpAny_loadName_cell I.ok.kind hk hc hcell go
  ·rcases hx with k | k
   ·have : X.env.scope.names.lookup x = some .free := hk
    rw [k] at this; cases this
   ·have : X.env.scope.names.lookup x = some .free := hk
    rw [k] at this; cases this
def ipI (f : Int -> Int -> Int) : TIp := fun x y H Q => ∃ i j, x = .int i /\ y = .int j /\ Q (.int (f i j)) H
theorem zf : PIp X .Add (ipI fun i j => i + j) := by
 intro pins s σ H x y v u Q I r1 r2 h
 obtain ⟨i, j, e1, e2, q⟩ := h
 subst e1; subst e2
 obtain ⟨t, rfl⟩ := r1
 obtain ⟨t', rfl⟩ := r2
 exact iadd_int ⟨.int _, H, I.tok _, ⟨_, rfl⟩, q⟩
end
section
variable {X : Cx} {pos : Pos}
def Ga (c : TT) (tb : TS) : TS := fun D σ H => ∃ W : Nat -> St -> Hp -> Prop, (∃ m, W m σ H) /\ ∀ m σ H, W m σ H ->
 c σ H fun b H1 => if b = true then ∃ N : St -> Hp -> Prop, (∀ σ' H', N σ' H' -> ∃ m', m' < m /\ W m' σ' H') /\ tb { D with nx := N, ct := N, bk := D.nx } σ H1 else D.nx σ H1
theorem qA {c : Expr} {body : List Stmt} {tc : TT} {tb : TS} (hp : PassesOwn (model X.prog X.w) X.A X.env X.xe) (hc : PT X c tc) (hb : PSs X body tb) : PS X (.While c body [] pos) (Ga tc tb) := by
 intro pins s σ H D I h
 obtain ⟨W, ⟨m0, w0⟩, turn⟩ := h
 refine wpAny_While (codeAny_whileLoop (fun n s' => ∃ σ' H', Inv X pins σ' H' s' /\ W n σ' H') ?_ m0 ⟨σ, H, I, w0⟩)
 rintro n s1 ⟨σ1, H1, I1, w1⟩
 refine QR hp (thn (hc pins s1 σ1 H1 _ I1 (turn n σ1 H1 w1)) fun b s2 hpt9 => ?_)
 obtain ⟨H2, I2, q2⟩ := hpt9
 cases b with
 | true =>
  obtain ⟨N, hN, q2⟩ := q2
  rw [Pa rfl]
  refine QR hp (thn (hb pins s2 σ1 H2 _ I2 q2) fun f s3 q3 => ?_)
  cases f with
  | next =>
   obtain ⟨σ3, H3, I3, n3⟩ := q3
   obtain ⟨m', hm, w3⟩ := hN σ3 H3 n3
   exact ⟨m', hm, σ3, H3, I3, w3⟩
  | cont =>
   obtain ⟨σ3, H3, I3, n3⟩ := q3
   obtain ⟨m', hm, w3⟩ := hN σ3 H3 n3
   exact ⟨m', hm, σ3, H3, I3, w3⟩
  | brk => exact q3
  | ret v => exact q3
 | false =>
  rw [Pb QS]
  exact Rs ⟨σ1, H2, I2, q2⟩
end
structure It where
 go : Nat -> Hp -> Prop
 yld : Nat -> Hp -> V -> Hp -> Prop
 stop : Nat -> Hp -> Prop
def wx (X : Cx) (pins : List (Addr × Obj)) (H : Hp) (b : Addr) : Prop :=
 H b = none /\ b ≠ X.env.locals /\ b ∉ X.fs /\ (b ∈ X.ex \/ X.s₀.heap.objs.size <= b) /\ (∀ x c, X.env.cells.lookup x = some c -> c ≠ b) /\ ∀ p ∈ X.pn ++ pins, p.1 ≠ b
theorem Inv.fpOk {X : Cx} {pins : List (Addr × Obj)} {σ : St} {H H' : Hp} {s : Shared} {b : Addr} (I : Inv X pins σ H s) (hb : s.heap.objs.size <= b) (hn : H' b = none) : wx X pins H' b := by
 refine ⟨hn, Nat.ne_of_gt (PZ I.lt hb), I.nofs hb, .inr (PU I.sz hb), fun x c e z => ?_, fun p hp z => ?_⟩
 ·obtain ⟨v, q⟩ := I.cell x c e
  exact absurd (PZ q.lt (by rw [z]; exact hb)) (QD _)
 ·exact absurd (PZ (Pv (I.pin p hp).1) (by rw [z]; exact hb)) (QD _)
structure Turn (P : Program) (w : World) (K : W.Frag) (tg : Expr) (J : It) (fp : List Addr) (it : Addr) (tn : Nat -> Heap -> Prop) : Prop where
 mem : it ∈ fp
 obj : ∀ i h, tn i h -> ∀ b ∈ fp, ∃ o, h.get? b = some o /\ ∀ v, o.data ≠ .cell v
 keep : ∀ i h h', tn i h -> (∀ b ∈ fp, ∀ o, h.get? b = some o -> h'.get? b = some o) -> tn i h'
 item : ∀ (X : Cx), X.prog = P -> X.w = w -> X.K = K -> X.calm = true -> ∀ (i : Nat) (pins : List (Addr × Obj)) (s : Shared) (σ : St) (H : Hp) (E : Value -> Shared -> Prop), Inv X pins σ H s -> (∀ b ∈ fp, wx X pins H b) -> tn i s.heap -> J.go i H ->
  wpAny (model P w) X.A (pyNext (.ref it)) (fun r s1 => ∃ u, r = some u /\
   wpAny (model P w) X.A (letOwnedTupleGo tg (.ref it) u) (fun _ s2 => ∃ x H', Inv X pins σ H' s2 /\ RelV x u /\ J.yld i H x H' /\ tn (i + 1) s2.heap /\ ∀ b ∈ fp, H' b = none) E s1) E s
 done : ∀ (X : Cx), X.prog = P -> X.w = w -> X.K = K -> X.calm = true -> ∀ (i : Nat) (pins : List (Addr × Obj)) (s : Shared) (σ : St) (H : Hp) (E : Value -> Shared -> Prop), Inv X pins σ H s -> (∀ b ∈ fp, wx X pins H b) -> tn i s.heap -> J.stop i H ->
  wpAny (model P w) X.A (pyNext (.ref it)) (fun r s1 => r = none /\ Inv X pins σ H s1) E s
 self : ∀ (A : Around) (i : Nat) (s : Shared) (Q : Value -> Shared -> Prop) (E : Value -> Shared -> Prop), tn i s.heap -> Q (.ref it) s -> wpAny (model P w) A (pyIter (.ref it)) Q E s
abbrev TI := St -> Hp -> (It -> Hp -> Prop) -> Prop
def PIE (X : Cx) (pins : List (Addr × Obj)) (σ : St) (tg : Expr) (R : It -> Hp -> Prop) (itv : Value) (s2 : Shared) : Prop :=
 ∃ (it : Addr) (fp : List Addr) (tn : Nat -> Heap -> Prop) (J : It) (H' : Hp), itv = .ref it /\ Inv X pins σ H' s2 /\ Turn X.prog X.w X.K tg J fp it tn /\ tn 0 s2.heap /\ (∀ b ∈ fp, wx X pins H' b) /\ R J H'
def PI (X : Cx) (tg iter : Expr) (wi : TI) : Prop :=
 ∀ (pins : List (Addr × Obj)) (s : Shared) (σ : St) (H : Hp) (R : It -> Hp -> Prop), Inv X pins σ H s -> wi σ H R ->
  wpAny (model X.prog X.w) X.A (eval iter X.env) (fun v s1 => wpAny (model X.prog X.w) X.A (pyIter v) (PIE X pins σ tg R) X.xe s1) X.xe s
theorem xP {M : Model} {A : Around} {E : Value -> Shared -> Prop} {s : Shared} {tg : Expr} {it : Addr} {u : Value} {o : Obj} {n : String} {vs : Array Value} {Q : Unit -> Shared -> Prop} (ho : s.heap.get? it = some o) (hc : o.cls = .type n) (hd : o.data = .fields vs)
  (hn : ["enumerate", "zip", "dict_itemiterator", "dict_reverseitemiterator", "odict_iterator", "itertools.zip_longest", "itertools.pairwise"].contains n = false) (hQ : Q () s) : wpAny M A (letOwnedTupleGo tg (.ref it) u) Q E s := by
 unfold letOwnedTupleGo
 cases tg <;> first
  | exact Pm hQ
  | (cases u <;> first
    | exact Pm hQ
    | (refine Pf (wpAny_load ho ?_)
       rw [hc, hd]
       show wpAny M A (if (["enumerate", "zip", "dict_itemiterator", "dict_reverseitemiterator", "odict_iterator", "itertools.zip_longest", "itertools.pairwise"].contains n && vs[0]? == some (rawInt _)) = true then _ else _) Q E s
       rw [Pb (by intro h; rw [hn, Bool.false_and] at h; cases h)]
       exact Pm hQ))
def Itl (K : W.Frag) (a : Addr) : It :=
 ⟨fun i H => ∃ xs x, SqL K H a xs /\ xs[i]? = some x, fun i H x H' => H' = H /\ ∀ xs, SqL K H a xs -> xs[i]? = some x, fun i H => ∃ xs, SqL K H a xs /\ xs.length <= i⟩
def Itt (K : W.Frag) (a : Addr) : It :=
 ⟨fun i H => ∃ xs x, SqT K H a xs /\ xs[i]? = some x, fun i H x H' => H' = H /\ ∀ xs, SqT K H a xs -> xs[i]? = some x, fun i H => ∃ xs, SqT K H a xs /\ xs.length <= i⟩
def Itr (lo : Int) (n : Nat) : It := ⟨fun i _ => i < n, fun i H x H' => H' = H /\ x = .int (lo + i), fun i _ => n <= i⟩
theorem EO {P : Program} {w : World} {K : W.Frag} {tg : Expr} (a it : Addr) : Turn P w K tg (Itl K a) [it] it (fun i h => h.IsListIter it a i) where
 mem := by simp
 obj := fun i h st b hb => by
  have e : b = it := by simpa using hb
  subst e
  obtain ⟨o, e, c, d⟩ := st
  exact ⟨o, e, fun v z => by rw [d] at z; cases z⟩
 keep := fun i h h' st k => st.at fun o e => k it (by simp) o e
 item := by
  intro X hP hw hK hc i pins s σ H E I hf st hg
  subst hP hw hK
  obtain ⟨xs, x, hq, hx⟩ := hg
  obtain ⟨its, rv, p, hz⟩ := I.list hq
  obtain ⟨u, hu, ru⟩ := rv.get hx
  obtain ⟨f0, f1, f2, f3, f4, f5⟩ := hf it (by simp)
  refine wpAny_pyNext_list_item st p.isList (x := u) (by simpa using hu) fun h' st' sb => ?_
  have I1 : Inv X pins σ H { s with heap := h' } := I.turned (t' := s.toks) (fun b o hb e => (sb.2 b hb).trans e) f0 f1 f3 f4 f5
  obtain ⟨o, e, c, d⟩ := id st'
  exact ⟨u, rfl, xP (s := { s with heap := h' }) e c d (by decide) ⟨x, H, I1, ru, ⟨rfl, fun ys hy => by rw [I.list_inj hy hq]; exact hx⟩, st', fun b hb => (hf b hb).1⟩⟩
 done := by
  intro X hP hw hK hc i pins s σ H E I hf st hg
  subst hP hw hK
  obtain ⟨xs, hq, hx⟩ := hg
  obtain ⟨its, rv, p, hz⟩ := I.list hq
  obtain ⟨f0, f1, f2, f3, f4, f5⟩ := hf it (by simp)
  have hl := rv.length
  exact wpAny_pyNext_list_end (I.ok.hd hc) st p.isList (by simp; lia) fun h' eb => ⟨rfl, I.turned (t' := s.toks) (fun b o hb e => eb b o hb e) f0 f1 f3 f4 f5⟩
 self := fun _ _ _ _ _ st h => wpAny_pyIter_listiter st h
theorem Cn {P : Program} {w : World} {K : W.Frag} {tg : Expr} (a it : Addr) : Turn P w K tg (Itt K a) [it] it (fun i h => h.IsTupleIter it a i) where
 mem := by simp
 obj := fun i h st b hb => by
  have e : b = it := by simpa using hb
  subst e
  obtain ⟨o, e, c, d⟩ := st
  exact ⟨o, e, fun v z => by rw [d] at z; cases z⟩
 keep := fun i h h' st k => st.at fun o e => k it (by simp) o e
 item := by
  intro X hP hw hK hc i pins s σ H E I hf st hg
  subst hP hw hK
  obtain ⟨xs, x, hq, hx⟩ := hg
  obtain ⟨its, rv, p, hz⟩ := I.tuple hq
  obtain ⟨u, hu, ru⟩ := rv.get hx
  obtain ⟨f0, f1, f2, f3, f4, f5⟩ := hf it (by simp)
  refine wpAny_pyNext_tuple_item st (show s.heap.IsTuple a its.toArray from p) (x := u) (by simpa using hu) fun h' st' sb => ?_
  have I1 : Inv X pins σ H { s with heap := h' } := I.turned (t' := s.toks) (fun b o hb e => (sb.2 b hb).trans e) f0 f1 f3 f4 f5
  obtain ⟨o, e, c, d⟩ := id st'
  exact ⟨u, rfl, xP (s := { s with heap := h' }) e c d (by decide) ⟨x, H, I1, ru, ⟨rfl, fun ys hy => by rw [I.tuple_inj hy hq]; exact hx⟩, st', fun b hb => (hf b hb).1⟩⟩
 done := by
  intro X hP hw hK hc i pins s σ H E I hf st hg
  subst hP hw hK
  obtain ⟨xs, hq, hx⟩ := hg
  obtain ⟨its, rv, p, hz⟩ := I.tuple hq
  obtain ⟨f0, f1, f2, f3, f4, f5⟩ := hf it (by simp)
  have hl := rv.length
  exact wpAny_pyNext_tuple_end (I.ok.hd hc) st (show s.heap.IsTuple a its.toArray from p) (by simp; lia) fun h' eb => ⟨rfl, I.turned (t' := s.toks) (fun b o hb e => eb b o hb e) f0 f1 f3 f4 f5⟩
 self := fun _ _ _ _ _ st h => wpAny_pyIter_tupleiter st h
theorem Ck {P : Program} {w : World} {K : PySem.W.Frag} {tg : Expr} (it : Addr) (lo : Int) (n : Nat) : Turn P w K tg (Itr lo n) [it] it (fun i h => IsRangeIter h it (lo + (i : Nat) * 1) ((n : Int) - (i : Nat)) 1) where
 mem := by simp
 obj := fun i h st b hb => by
  have e : b = it := by simpa using hb
  subst e
  exact ⟨_, st, fun v z => by
   have z' : Data.fields _ = Data.cell v := z
   cases z'⟩
 keep := fun i h h' st k => k it (by simp) _ st
 item := by
  intro X hP hw hK hc i pins s σ H E I hf st hg
  subst hP hw hK
  obtain ⟨f0, f1, f2, f3, f4, f5⟩ := hf it (by simp)
  have W := Walks.range (prog := X.prog) (w := X.w) (I.ok.hd hc) it lo 1 n
  refine W.item i s _ _ hg st fun v h' tk hv st' kk => ?_
  obtain ⟨t, rfl⟩ := hv
  have I1 : Inv X pins σ H { s with heap := h', toks := tk } := I.turned (fun b o hb e => kk b o (by simpa using hb) e) f0 f1 f3 f4 f5
  refine ⟨_, rfl, xP (s := { s with heap := h', toks := tk }) (n := "range_iterator") st' rfl rfl (by decide) ⟨.int (lo + i), H, I1, ⟨t, ?_⟩, ⟨rfl, rfl⟩, st', fun b hb => (hf b hb).1⟩⟩
  rw [Int.mul_one]
 done := by
  intro X hP hw hK hc i pins s σ H E I hf st hg
  subst hP hw hK
  obtain ⟨f0, f1, f2, f3, f4, f5⟩ := hf it (by simp)
  exact RF (I.ok.hd hc) st (by have : n <= i := hg; lia) fun h' eb => ⟨rfl, I.turned (t' := s.toks) (fun b o hb e => eb b o hb e) f0 f1 f3 f4 f5⟩
 self := fun _ _ _ _ _ st h => RG st h
section
variable {X : Cx} {tg : Expr}
theorem GT {pins : List (Addr × Obj)} {σ : St} {H : Hp} {s : Shared} {R : It -> Hp -> Prop} {E : Value -> Shared -> Prop} {lo hi : Int} {t u v : Tok} {tk : Nat} (I : Inv X pins σ H s) (h1 : -(2 ^ 62) <= lo) (h2 : lo < 2 ^ 62) (h3 : -(2 ^ 62) <= hi) (h4 : hi < 2 ^ 62)
  (q : R (Itr lo (hi - lo).toNat) H) : wpAny (model X.prog X.w) X.A (pyIter (.ref s.heap.objs.size)) (PIE X pins σ tg R) E { s with heap := s.heap.push { cls := .type "range", data := .fields #[.int lo t, .int hi u, .int 1 v] }, toks := tk } := by
 refine wpAny_pyIter_range (IsRange.new ..) (small_one h1 h2 h3 h4) ?_
 have I1 : Inv X pins σ H { s with heap := s.heap.push { cls := .type "range", data := .fields #[.int lo t, .int hi u, .int 1 v] }, toks := tk } := I.kept fun b o e => Px _ e
 refine ⟨(s.heap.push { cls := .type "range", data := .fields #[.int lo t, .int hi u, .int 1 v] }).objs.size, [(s.heap.push { cls := .type "range", data := .fields #[.int lo t, .int hi u, .int 1 v] }).objs.size], _, _, H, rfl,
  I1.kept (t' := tk) fun b o e => Px _ e, Ck _ lo (hi - lo).toNat, ?_, fun b hb => ?_, q⟩
 ·have e1 : lo + ((0 : Nat) : Int) * 1 = lo := by simp
  have e2 : (((hi - lo).toNat : Nat) : Int) - ((0 : Nat) : Int) = Builtin.Range.rangeSize lo hi 1 := by rw [rangeSize_one]; split <;> lia
  show IsRangeIter _ _ (lo + ((0 : Nat) : Int) * 1) ((((hi - lo).toNat : Nat) : Int) - ((0 : Nat) : Int)) 1
  rw [e1, e2]
  exact PV _ rfl
 ·have e : b = (s.heap.push { cls := .type "range", data := .fields #[.int lo t, .int hi u, .int 1 v] }).objs.size := by simpa using hb
  subst e
  exact I1.fpOk (Pi _) (I1.hok.fresh (Pi _))
def Ja (ta : TA) : TI := fun σ H R => ta σ H fun vs H1 => ∃ j : Int, vs = [.int j] /\ -(2 ^ 62) <= j /\ j < 2 ^ 62 /\ R (Itr 0 j.toNat) H1
theorem E3 {a : Expr} {ta : TA} {p pos : Pos} (hg : Gl X "range") (hm : X.mg "range" = none) (ha : PA X [a] ta) (hs : starEach [a] X.env = [(false, eval a X.env)] := by rfl) : PI X tg (.Call (.Name "range" p) [a] [] pos) (Ja ta) := by
 intro pins s σ H R I h
 refine Call_ (oS I hg hm boot_range (Rc (thn (ha pos pins s σ H _ I h) fun us s1 hpt9 => ?_) hs rfl))
 obtain ⟨vs, H1, I1, r1, q1⟩ := hpt9
 obtain ⟨j, e, q1, q2, q⟩ := q1
 subst e
 cases r1 with
 | cons r rr =>
  cases rr
  obtain ⟨t, rfl⟩ := r
  exact call_range_1 (GT I1 (by lia) (by lia) q1 q2 (by simpa using q))
def Lv (wi : TI) (g : TG) (tb : TS) : TS := fun D σ H => wi σ H fun J H1 => ∃ W : Nat -> Nat -> St -> Hp -> Prop, (∃ m, W 0 m σ H1) /\ ∀ i m σ H, W i m σ H ->
 (J.stop i H /\ D.nx σ H) \/ (J.go i H /\ ∃ N : St -> Hp -> Prop, (∀ σ' H', N σ' H' -> ∃ m', m' < m /\ W (i + 1) m' σ' H') /\ ∀ x H', J.yld i H x H' -> g x σ H' fun σ2 H2 => tb { D with nx := N, ct := N, bk := D.nx } σ2 H2)
def uA (fp : List Addr) (h : Heap) : List (Addr × Obj) := fp.filterMap fun b => (h.get? b).map fun o => (b, o)
theorem kP {fp : List Addr} {h : Heap} {b : Addr} {o : Obj} (hb : b ∈ fp) (e : h.get? b = some o) : (b, o) ∈ uA fp h := List.mem_filterMap.mpr ⟨b, hb, by rw [e]; rfl⟩
theorem EW {fp : List Addr} {h : Heap} {p : Addr × Obj} (hp : p ∈ uA fp h) : p.1 ∈ fp /\ h.get? p.1 = some p.2 := by
 obtain ⟨b, hb, e⟩ := List.mem_filterMap.mp hp
 cases q : h.get? b with
 | none => rw [q] at e; cases e
 | some o =>
  rw [q] at e
  have e' : (b, o) = p := PX e
  subst e'
  exact ⟨hb, q⟩
theorem Inv.pinned {pins : List (Addr × Obj)} {σ : St} {H : Hp} {s : Shared} {fp : List Addr} (I : Inv X pins σ H s) (hf : ∀ b ∈ fp, wx X pins H b) (ho : ∀ b ∈ fp, ∃ o, s.heap.get? b = some o /\ ∀ v, o.data ≠ .cell v) : Inv X (pins ++ uA fp s.heap) σ H s :=
 I.pins_of fun p hp => (Pk.mp hp).elim (fun z => I.pin p (Pr _ z)) fun z => by
  obtain ⟨hb, e⟩ := EW z
  obtain ⟨f0, f1, f2, _⟩ := hf p.1 hb
  obtain ⟨o, e', d⟩ := ho p.1 hb
  rw [e] at e'; cases e'
  exact ⟨e, f0, f1, f2, d⟩
theorem Inv.unpinned {pins pl : List (Addr × Obj)} {σ : St} {H : Hp} {s : Shared} (I : Inv X (pins ++ pl) σ H s) : Inv X pins σ H s := I.pins_of fun p hp => I.pin p (Pr _ (Po _ hp))
theorem c0 {iter : Expr} {body : List Stmt} {wi : TI} {g : TG} {tb : TS} {pos : Pos} (hp : PassesOwn (model X.prog X.w) X.A X.env X.xe) (hc : X.calm = true) (hi : PI X tg iter wi) (hg : PG X tg g) (hb : PSs X body tb)
  (hs : ∀ x, foldedSetIterable iter X.env x = pure x := by intro _; rfl) : PS X (.For tg iter body [] pos) (Lv wi g tb) := by
 intro pins s σ H D I h
 refine wpAny_For (thn (hi pins s σ H _ I h) fun v s1 h1 => thn h1 fun itv s2 h2 => ?_) hs
 obtain ⟨it, fp, tn, J, H2, e, I2, T, st2, f2, W, ⟨m0, w0⟩, turn⟩ := h2
 subst e
 -- what stays true of the iterator's objects through the loop
 have stat : ∀ {H' : Hp}, (∀ b ∈ fp, H' b = none) -> ∀ b ∈ fp, wx X pins H' b := fun hn b hb => ⟨hn b hb, (f2 b hb).2⟩
 refine codeAny_forLoop_any (fun n s' => ∃ i σ' H', Inv X pins σ' H' s' /\ tn i s'.heap /\ (∀ b ∈ fp, H' b = none) /\ W i n σ' H') ?_ m0 ⟨0, σ, H2, I2, st2, fun b hb => (f2 b hb).1, w0⟩
 rintro n s3 ⟨i, σ3, H3, I3, st3, fr3, w3⟩
 rcases turn i n σ3 H3 w3 with ⟨stop, qn⟩ | ⟨go, N, hN, step⟩
 ·refine QR hp (thn (T.done X rfl rfl rfl hc i pins s3 σ3 H3 X.xe I3 (stat fr3) st3 stop) fun r s4 ⟨hr, I4⟩ => ?_)
  subst hr
  exact Rs ⟨σ3, H3, I4, qn⟩
 ·refine QR hp (thn (T.item X rfl rfl rfl hc i pins s3 σ3 H3 X.xe I3 (stat fr3) st3 go) fun r s4 ⟨u, hr, h4⟩ => ?_)
  subst hr
  refine QR hp (thn h4 fun _ s5 hpt9 => ?_)
  obtain ⟨x, H5, I5, r5, y5, st5, fr5⟩ := hpt9
  have I5' := I5.pinned (stat fr5) (T.obj _ _ st5)
  refine QR hp (thn (hg _ s5 σ3 H5 x u _ I5' r5 (step x H5 y5)) fun _ s6 hpt9 => ?_)
  obtain ⟨σ6, H6, I6, q6⟩ := hpt9
  refine QR hp (thn (hb _ s6 σ6 H6 _ I6 q6) fun f s7 q7 => ?_)
  have again : ∀ {σ7 : St} {H7 : Hp}, Inv X (pins ++ uA fp s5.heap) σ7 H7 s7 -> N σ7 H7 -> ∃ m, m < n /\ ∃ i σ' H', Inv X pins σ' H' s7 /\ tn i s7.heap /\ (∀ b ∈ fp, H' b = none) /\ W i m σ' H' := fun {σ7 H7} I7 n7 => by
   obtain ⟨m', hm, w7⟩ := hN σ7 H7 n7
   refine ⟨m', hm, i + 1, σ7, H7, I7.unpinned, T.keep _ _ _ st5 fun b hb o e => (I7.pin (b, o) (Pr _ (Pr _ (kP hb e)))).1, fun b hb => ?_, w7⟩
   obtain ⟨o, e, d⟩ := T.obj _ _ st5 b hb
   exact (I7.pin (b, o) (Pr _ (Pr _ (kP hb e)))).2.1
  cases f with
  | next => obtain ⟨σ7, H7, I7, n7⟩ := q7; exact again I7 n7
  | cont => obtain ⟨σ7, H7, I7, n7⟩ := q7; exact again I7 n7
  | brk => obtain ⟨σ7, H7, I7, q7⟩ := q7; exact ⟨σ7, H7, I7.unpinned, q7⟩
  | ret v => obtain ⟨x7, σ7, H7, I7, r7, q7⟩ := q7; exact ⟨x7, σ7, H7, I7.unpinned, r7, q7⟩
end
abbrev R2 := V -> V -> Hp -> VK -> Prop
def OpR (X : Cx) (f : Value -> Value -> Sem Value) (r : R2) : Prop :=
 ∀ (pins : List (Addr × Obj)) (s : Shared) (σ : St) (H : Hp) (x y : V) (v u : Value) (Q : VK), Inv X pins σ H s -> RelV x v -> RelV y u -> r x y H Q ->
  wpAny (model X.prog X.w) X.A (f v u) (EP X pins σ Q) X.xe s
def UnR (X : Cx) (f : Value -> Sem Value) (r : V -> Hp -> VK -> Prop) : Prop :=
 ∀ (pins : List (Addr × Obj)) (s : Shared) (σ : St) (H : Hp) (x : V) (v : Value) (Q : VK), Inv X pins σ H s -> RelV x v -> r x H Q ->
  wpAny (model X.prog X.w) X.A (f v) (EP X pins σ Q) X.xe s
def CallR (X : Cx) (f : Value) (r : List V -> Hp -> VK -> Prop) : Prop :=
 ∀ (pins : List (Addr × Obj)) (s : Shared) (σ : St) (H : Hp) (xs : List V) (us : List Value) (Q : VK), Inv X pins σ H s -> Vals xs us -> r xs H Q ->
  wpAny (model X.prog X.w) X.A (call f us) (EP X pins σ Q) X.xe s
def Nq (X : Cx) (r : V -> Hp -> (Bool -> Hp -> Prop) -> Prop) : Prop :=
 ∀ (pins : List (Addr × Obj)) (s : Shared) (σ : St) (H : Hp) (x : V) (v : Value) (Q : Bool -> Hp -> Prop), Inv X pins σ H s -> RelV x v -> r x H Q ->
  wpAny (model X.prog X.w) X.A (truthy v) (TP X pins σ Q) X.xe s
def tOp (r : R2) (ta tb : TE) : TE := fun σ H Q => ta σ H fun x H1 => tb σ H1 fun y H2 => r x y H2 Q
def tUn (r : V -> Hp -> VK -> Prop) (ta : TE) : TE := fun σ H Q => ta σ H fun x H1 => r x H1 Q
def rI (C : Int -> Int -> Prop) (g : Int -> Int -> V) : R2 := fun x y H Q => ∃ i j, x = .int i /\ y = .int j /\ C i j /\ Q (g i j) H
def rI0 (g : Int -> Int -> V) : R2 := fun x y H Q => ∃ i j, x = .int i /\ y = .int j /\ Q (g i j) H
def rU (g : Int -> V) : V -> Hp -> VK -> Prop := fun x H Q => ∃ i, x = .int i /\ Q (g i) H
section
variable {X : Cx} {a b c : Expr} {ta tb tc : TE} {pos : Pos}
theorem Ks (ha : PE X a ta) (hb : PE X b tb) {pins : List (Addr × Obj)} {s : Shared} {σ : St} {H : Hp} {R : V -> V -> Hp -> Prop} (I : Inv X pins σ H s)
  (h : ta σ H fun x H1 => tb σ H1 fun y H2 => R x y H2) {Q : Value -> Shared -> Prop} {f : Value -> Value -> Sem Value}
  (hf : ∀ v u s2 x y H2, Inv X pins σ H2 s2 -> RelV x v -> RelV y u -> R x y H2 -> wpAny (model X.prog X.w) X.A (f v u) Q X.xe s2) :
  wpAny (model X.prog X.w) X.A (eval a X.env) (fun v s₁ => wpAny (model X.prog X.w) X.A (eval b X.env) (fun u s₂ => wpAny (model X.prog X.w) X.A (f v u) Q X.xe s₂) X.xe s₁) X.xe s := by
 refine thn (ha pins s σ H _ I h) fun v s1 hpt9 => ?_
 obtain ⟨x, H1, I1, r1, q1⟩ := hpt9
 refine thn (hb pins s1 σ H1 _ I1 q1) fun u s2 hpt9 => ?_
 obtain ⟨y, H2, I2, r2, q2⟩ := hpt9
 exact hf v u s2 x y H2 I2 r1 r2 q2
theorem aD {op : Operator} {r : R2} (ho : OpR X (binaryOp op) r) (ha : PE X a ta) (hb : PE X b tb) : PE X (.BinOp a op b pos) (tOp r ta tb) := by
 intro pins s σ H Q I h
 exact wpAny_BinOp (Ks ha hb I h fun v u s2 x y H2 I2 rx ry q => ho pins s2 σ H2 x y v u Q I2 rx ry q)
theorem cO {op : UnaryOp} {r : V -> Hp -> VK -> Prop} (ho : UnR X (unaryOp op) r) (ha : PE X a ta) : PE X (.UnaryOp op a pos) (tUn r ta) := by
 intro pins s σ H Q I h
 exact UnaryOp_ (thn (ha pins s σ H _ I h) fun v s1 ⟨x, H1, I1, r1, q1⟩ => ho pins s1 σ H1 x v Q I1 r1 q1)
theorem opI {f : Value -> Value -> Sem Value} {C : Int -> Int -> Prop} {g : Int -> Int -> Int}
  (rule : ∀ (i j : Int) (t u : Tok) (s : Shared) (Q : Value -> Shared -> Prop) (E : Value -> Shared -> Prop), C i j -> Q (.int (g i j) s.toks) { s with toks := s.toks + 1 } -> wpAny (model X.prog X.w) X.A (f (.int i t) (.int j u)) Q E s) :
  OpR X f (rI C fun i j => .int (g i j)) := by
 intro pins s σ H x y v u Q I rx ry h
 obtain ⟨i, j, rfl, rfl, hc, q⟩ := h
 obtain ⟨t, rfl⟩ := rx
 obtain ⟨t', rfl⟩ := ry
 exact rule i j t t' s _ _ hc ⟨.int (g i j), H, I.tok _, ⟨_, rfl⟩, q⟩
theorem Ls {f : Value -> Value -> Sem Value} {g : Int -> Int -> Int}
  (rule : ∀ (i j : Int) (t u : Tok) (s : Shared) (Q : Value -> Shared -> Prop) (E : Value -> Shared -> Prop), Q (.int (g i j) s.toks) { s with toks := s.toks + 1 } -> wpAny (model X.prog X.w) X.A (f (.int i t) (.int j u)) Q E s) :
  OpR X f (rI0 fun i j => .int (g i j)) := by
 intro pins s σ H x y v u Q I rx ry h
 obtain ⟨i, j, rfl, rfl, q⟩ := h
 obtain ⟨t, rfl⟩ := rx
 obtain ⟨t', rfl⟩ := ry
 exact rule i j t t' s _ _ ⟨.int (g i j), H, I.tok _, ⟨_, rfl⟩, q⟩
theorem JC {f : Value -> Value -> Sem Value} {g : Int -> Int -> Bool}
  (rule : ∀ (i j : Int) (t u : Tok) (s : Shared) (Q : Value -> Shared -> Prop) (E : Value -> Shared -> Prop), Q (.bool (g i j)) s -> wpAny (model X.prog X.w) X.A (f (.int i t) (.int j u)) Q E s) :
  OpR X f (rI0 fun i j => .bl (g i j)) := by
 intro pins s σ H x y v u Q I rx ry h
 obtain ⟨i, j, rfl, rfl, q⟩ := h
 obtain ⟨t, rfl⟩ := rx
 obtain ⟨t', rfl⟩ := ry
 exact rule i j t t' s _ _ ⟨.bl (g i j), H, I, rfl, q⟩
def LH (i j : Int) : Prop := 0 < j /\ j < 1073741824
def KB (i j : Int) : Prop := 0 <= j /\ j <= 1000000 /\ i.natAbs < 2 ^ 64
def CMul (i j : Int) : Prop := (-(2 ^ 64) < i /\ i < 2 ^ 64) \/ (-(2 ^ 64) < j /\ j < 2 ^ 64)
theorem CMul.ok {i j : Int} (h : CMul i j) : IntMulOk i j := by
 rcases h with ⟨h1, h2⟩ | ⟨h1, h2⟩
 ·exact .of_left (intBits_le_64 h1 h2)
 ·exact .of_right (intBits_le_64 h1 h2)
theorem op_add : OpR X (binaryOp .Add) (rI0 fun i j => .int (i + j)) := Ls fun _ _ _ _ _ _ _ q => add_int q
theorem cc : OpR X (binaryOp .Sub) (rI0 fun i j => .int (i - j)) := Ls fun _ _ _ _ _ _ _ q => sub_int q
theorem jQ : OpR X (binaryOp .Mult) (rI CMul fun i j => .int (i * j)) := opI fun _ _ _ _ _ _ _ hc q => mul_int q hc.ok
theorem d6 : OpR X (binaryOp .FloorDiv) (rI LH fun i j => .int (i / j)) := opI fun i j _ _ _ _ _ hc q => by
 have h1 : (0 : Int) < j := hc.1
 have h2 : j < 1073741824 := hc.2
 exact floordiv_int (by lia) (by rw [Int.fdiv_eq_ediv_of_nonneg i (by lia)]; exact q) (.inl (PyProof.noPylong_small (by lia)))
theorem dX : OpR X (binaryOp .Mod) (rI (fun _ j => 0 < j) fun i j => .int (i % j)) := opI fun i j _ _ _ _ _ hc q => by
 have h1 : (0 : Int) < j := hc
 exact mod_int' (by lia) (by rw [Int.fmod_eq_emod_of_nonneg i (by lia)]; exact q)
theorem JM : OpR X (binaryOp .Pow) (rI KB fun i j => .int (i ^ j.toNat)) := opI fun _ _ _ _ _ _ _ hc q => pow_int_small hc.1 hc.2.1 hc.2.2 q
theorem unI {f : Value -> Sem Value} {g : Int -> Int}
  (rule : ∀ (i : Int) (t : Tok) (s : Shared) (Q : Value -> Shared -> Prop) (E : Value -> Shared -> Prop), Q (.int (g i) s.toks) { s with toks := s.toks + 1 } -> wpAny (model X.prog X.w) X.A (f (.int i t)) Q E s) :
  UnR X f (rU fun i => .int (g i)) := by
 intro pins s σ H x v Q I rx h
 obtain ⟨i, rfl, q⟩ := h
 obtain ⟨t, rfl⟩ := rx
 exact rule i t s _ _ ⟨.int (g i), H, I.tok _, ⟨_, rfl⟩, q⟩
theorem bC : UnR X (unaryOp .USub) (rU fun i => .int (-i)) := unI fun _ _ _ _ _ q => neg_int q
end
section
variable {X : Cx} {a b c : Expr} {ta tb tc : TE} {pos : Pos}
theorem sE : OpR X (compareOp .Lt) (rI0 fun i j => .bl (decide (i < j))) := JC fun _ _ _ _ _ _ _ q => lt_int q
theorem nV : OpR X (compareOp .LtE) (rI0 fun i j => .bl (decide (i <= j))) := JC fun _ _ _ _ _ _ _ q => le_int q
theorem GZ : OpR X (compareOp .Gt) (rI0 fun i j => .bl (decide (j < i))) := JC fun _ _ _ _ _ _ _ q => gt_int q
theorem OpR.or {f : Value -> Value -> Sem Value} {r r' : R2} (h : OpR X f r) (h' : OpR X f r') : OpR X f (fun x y H Q => r x y H Q \/ r' x y H Q) := by
 intro pins s σ H x y v u Q I rx ry q
 rcases q with q | q
 ·exact h pins s σ H x y v u Q I rx ry q
 ·exact h' pins s σ H x y v u Q I rx ry q
theorem rm (b : Expr) {op : CmpOp} (h : op ≠ .In := by decide) (h2 : op ≠ .NotIn := by decide) : behindInMarks op b = false := by
 have e1 : (op == CmpOp.In) = false := by cases op <;> first | rfl | exact absurd rfl h
 have e2 : (op == CmpOp.NotIn) = false := by cases op <;> first | rfl | exact absurd rfl h2
 cases b <;> simp [behindInMarks, e1, e2]
theorem yp {op : CmpOp} {r : R2} (ho : OpR X (compareOp op) r) (ha : PE X a ta) (hb : PE X b tb) (hm : behindInMarks op b = false) : PE X (.Compare a [op] [b] pos) (tOp r ta tb) := by
 intro pins s σ H Q I h
 exact wpAny_Compare1 (Ks ha hb I h fun v u s2 x y H2 I2 rx ry q => ho pins s2 σ H2 x y v u Q I2 rx ry q) hm
def FV (t : TE) : TT := fun σ H Q => t σ H fun x H' => ∃ k, x = .bl k /\ Q k H'
theorem yJ {op : CmpOp} {r : R2} (ho : OpR X (compareOp op) r) (ha : PE X a ta) (hb : PE X b tb) (hm : behindInMarks op b = false) : PT X (.Compare a [op] [b] pos) (FV (tOp r ta tb)) := by
 intro pins s σ H Q I h
 refine wpAny_isTrue_Compare1 (thn (ha pins s σ H _ I h) fun v s1 ⟨x, H1, I1, r1, q1⟩ => thn (hb pins s1 σ H1 _ I1 q1) fun u s2 ⟨y, H2, I2, r2, q2⟩ =>
  thn (ho pins s2 σ H2 x y v u _ I2 r1 r2 q2) fun c s3 ⟨z, H3, I3, r3, k, e, q3⟩ => ?_) hm
 subst e
 cases r3
 exact wpAny_truthy_bool ⟨H3, I3, q3⟩
def Hr (K : W.Frag) (x : V) (H : Hp) (k : Bool) : Prop :=
 match x with
 | .non => k = false
 | .bl b => k = b
 | .int i => k = (i != 0)
 | .str y => y.length <= sizeLine /\ k = ((y.length : Int) != 0)
 | .byt y => y.size <= sizeLine /\ k = ((y.size : Int) != 0)
 | .ref p => (∃ xs, SqL K H p xs /\ k = !xs.isEmpty) \/ (∃ xs, SqT K H p xs /\ k = !xs.isEmpty) \/ ∃ kvs, H p = some (.dK kvs) /\ k = !kvs.isEmpty
 | _ => False
theorem B5 {κ : Type} {kvs : List (κ × V)} {vs : List (κ × Value)} (r : KV kvs vs) : (!vs.isEmpty) = !kvs.isEmpty := by
 cases r <;> rfl
theorem uy {xs : List V} {its : List Value} (r : Vals xs its) : (!its.toArray.isEmpty) = !xs.isEmpty := by
 cases r <;> simp
theorem oI : (sizeLine : Nat) < 2 ^ 63 := by rw [Qb]; decide
theorem JZ : Nq X (fun x H Q => ∃ k, Hr X.K x H k /\ Q k H) := by
 intro pins s σ H x v Q I rx h
 obtain ⟨k, e, q⟩ := h
 have hl := oI
 have hs : sizeLine = 16777216 := Qb
 cases x with
 | non =>
  cases rx
  have e' : k = false := e
  subst e'
  exact truthy_none ⟨H, I, q⟩
 | bl b =>
  cases rx
  have e' : k = b := e
  subst e'
  exact wpAny_truthy_bool ⟨H, I, q⟩
 | int i =>
  obtain ⟨t, rfl⟩ := rx
  have e' : k = (i != 0) := e
  subst e'
  exact PySem.P.truthy_int ⟨H, I, q⟩
 | str y =>
  obtain ⟨t, rfl⟩ := rx
  obtain ⟨hy, e'⟩ : y.length <= sizeLine /\ k = ((y.length : Int) != 0) := e
  subst e'
  exact PySem.P.truthy_str (by lia) ⟨H, I.tok _, q⟩
 | byt y =>
  obtain ⟨t, rfl⟩ := rx
  obtain ⟨hy, e'⟩ : y.size <= sizeLine /\ k = ((y.size : Int) != 0) := e
  subst e'
  exact W.truthy_bytes (by lia) ⟨H, I.tok _, q⟩
 | ref p =>
  cases rx
  have e' : (∃ xs, SqL X.K H p xs /\ k = !xs.isEmpty) \/ (∃ xs, SqT X.K H p xs /\ k = !xs.isEmpty) \/ ∃ kvs, H p = some (.dK kvs) /\ k = !kvs.isEmpty := e
  rcases e' with ⟨xs, hx, e'⟩ | ⟨xs, hx, e'⟩ | ⟨kvs, hx, e'⟩
  ·subst e'
   obtain ⟨its, r, pl, hz⟩ := I.list hx
   have hlen := r.length
   exact wpAny_truthy_list pl.isList (by simp only [Py]; lia) ⟨H, I.tok _, by rw [uy r]; exact q⟩
  ·subst e'
   obtain ⟨its, r, pl, hz⟩ := I.tuple hx
   have hlen := r.length
   exact truthy_tuple pl (by simp only [Py]; lia) ⟨H, I.tok _, by rw [uy r]; exact q⟩
  ·subst e'
   obtain ⟨hz, hS, vs, r, m⟩ : kvs.length <= sizeLine /\ (p == sysModules) = false /\ ∃ vs, KV kvs vs /\ s.heap.DictOf (yY X.prog X.w) p vs := I.hok p _ hx
   have hlen : kvs.length = vs.length := Paired.length r
   exact wpAny_truthy_dict hS m (by lia) ⟨H, I.tok _, by rw [B5 r]; exact q⟩
 | _ => exact (show False from e).elim
theorem je (ha : PE X a ta) (he : ∀ whole, isTrue a X.env whole = (do let v ← whole; standAt a.pos; holding [v] (truthy v))) :
  PT X a (fun σ H Q => ta σ H fun x H' => ∃ k, Hr X.K x H' k /\ Q k H') := by
 intro pins s σ H Q I h
 exact isTrue_plain (thn (ha pins s σ H _ I h) fun v s1 ⟨x, H1, I1, r1, q1⟩ => JZ pins s1 σ H1 x v Q I1 r1 q1) (he _)
theorem BF : OpR X (binaryOp .Add) (fun x y H Q => ∃ i j, x = .str i /\ y = .str j /\ i.length + j.length <= sizeLine /\ Q (.str (i ++ j)) H) := by
 intro pins s σ H x y v u Q I rx ry h
 obtain ⟨i, j, rfl, rfl, hz, q⟩ := h
 obtain ⟨t, rfl⟩ := rx
 obtain ⟨t', rfl⟩ := ry
 exact add_str (fun t' tk => ⟨.str (i ++ j), H, I.tok _, ⟨_, rfl⟩, q⟩) hz
theorem Hg {x : V} {us : List Value} (r : Vals [x] us) : ∃ u, us = [u] /\ RelV x u := by
 cases r with
 | cons r1 r2 => cases r2; exact ⟨_, rfl, r1⟩
theorem I0 {x y : V} {us : List Value} (r : Vals [x, y] us) : ∃ u w', us = [u, w'] /\ RelV x u /\ RelV y w' := by
 cases r with
 | cons r1 r2 =>
  cases r2 with
  | cons r3 r4 => cases r4; exact ⟨_, _, rfl, r1, r3⟩
theorem mQ (hc : X.calm = true) : CallR X (.builtin "max") (fun xs H Q => ∃ i j, xs = [.int i, .int j] /\ Q (.int (if j > i then j else i)) H) := by
 intro pins s σ H xs us Q I r h
 obtain ⟨i, j, rfl, q⟩ := h
 obtain ⟨u, w', rfl, ⟨t, rfl⟩, ⟨t', rfl⟩⟩ := I0 r
 refine max_two_ints (I.ok.hd hc) fun h' tk k => ⟨_, H, I.kept k, ?_, q⟩
 by_cases hj : j > i
 ·rw [Pa hj, Pa hj]; exact ⟨_, rfl⟩
 ·rw [Pb hj, Pb hj]; exact ⟨_, rfl⟩
theorem qN (hc : X.calm = true) : CallR X (.builtin "min") (fun xs H Q => ∃ i j, xs = [.int i, .int j] /\ Q (.int (if j < i then j else i)) H) := by
 intro pins s σ H xs us Q I r h
 obtain ⟨i, j, rfl, q⟩ := h
 obtain ⟨u, w', rfl, ⟨t, rfl⟩, ⟨t', rfl⟩⟩ := I0 r
 refine min_two_ints (I.ok.hd hc) fun h' tk k => ⟨_, H, I.kept k, ?_, q⟩
 by_cases hj : j < i
 ·rw [Pa hj, Pa hj]; exact ⟨_, rfl⟩
 ·rw [Pb hj, Pb hj]; exact ⟨_, rfl⟩
def Lz (K : W.Frag) (x : V) (H : Hp) (n : Nat) : Prop :=
 match x with
 | .str y => y.length <= sizeLine /\ n = y.length
 | .byt y => y.size <= sizeLine /\ n = y.size
 | .ref p => (∃ xs, SqL K H p xs /\ n = xs.length) \/ ∃ xs, SqT K H p xs /\ n = xs.length
 | _ => False
theorem GG : CallR X (.builtin "len") (fun xs H Q => ∃ x n, xs = [x] /\ Lz X.K x H n /\ Q (.int n) H) := by
 intro pins s σ H xs us Q I r h
 obtain ⟨x, n, rfl, e, q⟩ := h
 obtain ⟨u, rfl, rx⟩ := Hg r
 have hl := oI
 have hs : sizeLine = 16777216 := Qb
 cases x with
 | str y =>
  obtain ⟨t, rfl⟩ := rx
  obtain ⟨hy, e'⟩ : y.length <= sizeLine /\ n = y.length := e
  subst e'
  exact len_str (by lia) ⟨.int _, H, I.tok _, ⟨_, rfl⟩, q⟩
 | byt y =>
  obtain ⟨t, rfl⟩ := rx
  obtain ⟨hy, e'⟩ : y.size <= sizeLine /\ n = y.size := e
  subst e'
  exact W.len_bytes (by lia) ⟨.int _, H, I.tok _, ⟨_, rfl⟩, q⟩
 | ref p =>
  cases rx
  have e' : (∃ xs, SqL X.K H p xs /\ n = xs.length) \/ ∃ xs, SqT X.K H p xs /\ n = xs.length := e
  rcases e' with ⟨xs, hx, e'⟩ | ⟨xs, hx, e'⟩
  ·subst e'
   obtain ⟨its, r', pl, hz⟩ := I.list hx
   have hlen := r'.length
   exact Calls.call_len_list pl.isList (by simp only [Py]; lia) ⟨.int xs.length, H, I.tok _, ⟨_, by simp only [Py]; rw [hlen]⟩, q⟩
  ·subst e'
   obtain ⟨its, r', pl, hz⟩ := I.tuple hx
   have hlen := r'.length
   exact len_tuple pl (by simp only [Py]; lia) ⟨.int xs.length, H, I.tok _, ⟨_, by simp only [Py]; rw [hlen]⟩, q⟩
 | _ => exact (show False from e).elim
end
structure ObjM (h : Heap) (x dx C : Addr) (mA : Str -> Option Value) : Prop where
 obj : h.get? x = some (W.instObj C dx)
 ns : h.Ns1 dx mA
 ne : dx ≠ x
theorem ET {h : Heap} {dx : Addr} {mA : Str -> Option Value} (n : h.Ns1 dx mA) : ∃ od, h.get? dx = some od /\ ∀ name, W.lookIn name od = some (mA name) := by
 obtain ⟨o, es, ep, ho, hd, hk, _, hm⟩ := n
 refine ⟨o, ho, fun name => ?_⟩
 have e := hm name
 unfold nsFind findBy at e
 rw [<- Array.find?_toList] at e
 unfold W.lookIn
 rw [hd]
 dsimp only
 split
 ·rename_i y q
  rw [q] at e
  exact PH some e
 ·rename_i q
  rw [q] at e
  have a : es.toList.any (·.refKey) = false := by
   rw [List.any_eq_false]
   intro y hy
   obtain ⟨z, t, hkey⟩ := hk y (Array.mem_toList_iff.mp hy)
   simp [DictEntry.refKey, hkey]
  have a' : ¬ es.toList.any (·.refKey) = true := by rw [a]; exact QS
  rw [Pb a']
  exact PH some e
theorem ObjM.look {h : Heap} {x dx C : Addr} {mA : Str -> Option Value} (I : ObjM h x dx C mA) : ∃ od, W.InstAt h x (W.instObj C dx) C (some od) /\ ∀ name, W.lookIn name od = some (mA name) :=
 let ⟨od, ho, hl⟩ := ET I.ns
 ⟨od, ⟨I.obj, rfl, rfl, ho⟩, hl⟩
section
variable {prog : Program} {w : World} {A : Around} {E : Value -> Shared -> Prop} {s : Shared} {K : W.Frag} {x dx C f : Addr} {mA : Str -> Option Value} {name : Str} {v : Value}
theorem HF {expr : Bool} {Q : Value -> Shared -> Prop} (X : K.In s.heap) (I : ObjM s.heap x dx C mA) (hg : W.plainGet K C name = true) (hh : W.hasDictIn K C = true)
  (ha : W.findIn K (.ref C) name = some none) (hv : mA name = some v) (hv' : W.handedIn v = true) (h : Q v { s with toks := s.toks + 1 }) :
  wpAny (model prog w) A (getAttr (.ref x) name expr) Q E s := by
 obtain ⟨od, J, hl⟩ := I.look
 exact W.get_value X J (W.plainGet_of hg).1 (W.findObj_own hh ha rfl (by rw [hl, hv])) hv' h
theorem F5 {pl : Sem Bool} {Q : Value × List Value -> Shared -> Prop} (X : K.In s.heap) (I : ObjM s.heap x dx C mA) (hg : W.plainGet K C name = true)
  (hf : W.findIn K (.ref C) name = some (some (.ref f))) (ht : W.isFn K (.ref f) = true) (hv : mA name = none) (h : Q (.ref f, [.ref x]) s) :
  wpAny (model prog w) A (getMethod (.ref x) name pl) Q E s := by
 obtain ⟨od, J, hl⟩ := I.look
 exact W.method_fn X J (W.plainGet_of hg).1 (W.plainGet_of hg).2 hf (Qo.mp ht) (by show (W.lookIn name od).map (·.isSome) = some false; rw [hl, hv]; rfl) h
theorem HV {ns : List Str} {Q : Unit -> Shared -> Prop} (X : K.In s.heap) (I : ObjM s.heap x dx C mA)
  (hs : W.findIn K (.ref C) "__setattr__" = some (some (.builtin "object.__setattr__"))) (hp : W.plainOver K C = true) (ht : W.takerIn K C name = some none) (hh : W.hasDictIn K C = true)
  (hw : PySem.Within mA ns) (hsz : ns.length <= sizeLine)
  (h : ∀ h', ObjM h' x dx C (fun y => if y = name then some v else mA y) -> Heap.SameBut dx s.heap h' -> Q () { s with heap := h', toks := s.toks + 2 }) :
  wpAny (model prog w) A (setAttr (.ref x) name v) Q E s := by
 obtain ⟨od, J, hl⟩ := I.look
 refine W.set_plain X J hs (W.osa_open (s := { s with toks := s.toks + 1 }) (r := none) X J hp ht fun b => ?_)
 obtain ⟨cd, hc, hd'⟩ := W.any_some hh
 have hx : s.heap.get? x = some ⟨.ref C, some dx, .plain, #[]⟩ := I.obj
 refine Pf (Pm (Pf (Pf (wpAny_loadPart hx (Pf (W.Looks.here (s := { s with toks := s.toks + 1 }) (W.looks_clsIn X hc) ?_))))))
 rw [hd']
 refine Pm (a := some dx) (Pf (Pm (Pf ?_)))
 refine wpAny_nsSet1 (s := { s with toks := s.toks + 1 }) I.ns fun h' hn2 hs2 => ?_
 obtain ⟨oD, esD, epD, hoD, hdD, hcD⟩ := hn2.count (PySem.Within.cons name v hw)
 refine Pf (wpAny_lookBehind hoD (by rw [hdD]; exact pastItsLine_dict (PU hcD (by rw [Pu]; lia))) ?_)
 exact Pm (h _ ⟨(hs2.2 _ (P0 I.ne)).trans I.obj, hn2, I.ne⟩ hs2)
theorem GK {R : Result -> Shared -> Prop} {vs : List Value} {kw : List (Str × Value)} (X : K.In s.heap) (hm : W.makesIn K C = true)
  (hi : W.findIn K (.ref C) "__init__" = some (some (.ref f))) (hf : W.typeIn K (.ref f) = some (.type "function"))
  (h : codeAny (model prog w) (A.under (.builtin "type.__call__" ⟨.ref C :: vs, kw⟩)) (.call (.ref f) ⟨.ref (s.heap.objs.size + 1) :: vs, kw⟩) (W.InitBack (s.heap.objs.size + 1) R)
   { s with heap := (s.heap.push W.emptyDict).push (W.instObj C s.heap.objs.size) }) :
  codeAny (model prog w) A (.call (.ref C) ⟨vs, kw⟩) R s := by
 obtain ⟨hh, g, d, t, os⟩ := s
 exact W.make_core (W.makes_of X hm) (W.looks_findIn X hi) (fun self => W.bind_fn X self hf) (.inl rfl) h
end
def nj (f : Str) (v : V) : List (Str × V) -> List (Str × V)
 | [] => [(f, v)]
 | (g, x) :: r => if g = f then (g, v) :: r else (g, x) :: nj f v r
theorem sv (f g : Str) (v : V) : ∀ fs : List (Str × V), (nj f v fs).lookup g = if g = f then some v else fs.lookup g
 | [] => by
  show List.lookup g [(f, v)] = _
  by_cases h : g = f
  ·have hb : (g == f) = true := Qo.mpr h
   simp only [List.lookup, hb, Pa h]
  ·have hb : (g == f) = false := Rr.mpr h
   simp only [List.lookup, hb, Pb h]
 | (k, x) :: r => by
  have ih := sv f g v r
  rw [show nj f v ((k, x) :: r) = (if k = f then (k, v) :: r else (k, x) :: nj f v r) from rfl]
  by_cases hk : k = f
  ·rw [Pa hk]
   by_cases h : g = k
   ·have hb : (g == k) = true := Qo.mpr h
    simp only [List.lookup, hb, Pa (h.trans hk)]
   ·have hb : (g == k) = false := Rr.mpr h
    simp only [List.lookup, hb, Pb (fun e : g = f => h (e.trans hk.symm))]
  ·rw [Pb hk]
   by_cases h : g = k
   ·have hb : (g == k) = true := Qo.mpr h
    simp only [List.lookup, hb, Pb (fun e : g = f => hk (h.symm.trans e))]
   ·have hb : (g == k) = false := Rr.mpr h
    simp only [List.lookup, hb]
    exact ih
theorem rE (f : Str) (v : V) : ∀ fs : List (Str × V), f ∈ (nj f v fs).map (·.1) /\ ∀ g, g ∈ fs.map (·.1) -> g ∈ (nj f v fs).map (·.1)
 | [] => ⟨by simp [nj], fun g h => by simp at h⟩
 | (k, x) :: r => by
  obtain ⟨i1, i2⟩ := rE f v r
  rw [show nj f v ((k, x) :: r) = (if k = f then (k, v) :: r else (k, x) :: nj f v r) from rfl]
  by_cases hk : k = f
  ·rw [Pa hk]
   subst hk
   exact ⟨by simp, fun g h => by simpa using h⟩
  ·rw [Pb hk]
   refine ⟨?_, fun g h => ?_⟩
   ·rw [Pt]
    exact Pn _ i1
   ·rw [Pt] at h ⊢
    rcases Ps.mp h with e | e
    ·exact Ps.mpr (.inl e)
    ·exact Pn _ (i2 g e)
theorem rZ (f : Str) (v : V) : ∀ fs : List (Str × V), (nj f v fs).length <= fs.length + 1
 | [] => by simp [nj]
 | (k, x) :: r => by
  have ih := rZ f v r
  rw [show nj f v ((k, x) :: r) = (if k = f then (k, v) :: r else (k, x) :: nj f v r) from rfl]
  by_cases hk : k = f
  ·rw [Pa hk, Pu, Pu]; lia
  ·rw [Pb hk, Pu, Pu]; lia
theorem RelO.some_of {v : V} {o : Option Value} (r : RelO (some v) o) : ∃ u, o = some u /\ RelV v u := by
 cases o with
 | none => exact (show False from r).elim
 | some u => exact ⟨u, rfl, r⟩
theorem RelO.none_of {o : Option Value} (r : RelO none o) : o = none := by
 cases o with
 | none => rfl
 | some u => exact (show False from r).elim
theorem Eo {v : V} {u : Value} (r : RelV v u) : W.handedIn u = true := by
 cases v with
 | non => cases (show u = Value.none from r); rfl
 | bl b => cases (show u = Value.bool b from r); rfl
 | int i => obtain ⟨t, e⟩ := (show ∃ t, u = Value.int i t from r); cases e; rfl
 | str x => obtain ⟨t, e⟩ := (show ∃ t, u = Value.str x t from r); cases e; rfl
 | byt b => obtain ⟨t, e⟩ := (show ∃ t, u = Value.bytes b t from r); cases e; rfl
 | flt b => obtain ⟨t, e⟩ := (show ∃ t, u = Value.float b t from r); cases e; rfl
 | ref a => cases (show u = Value.ref a from r); rfl
 | ty n => cases (show u = Value.type n from r); rfl
section
variable {P : Program} {w : World} {H H' : Hp} {h h' : Heap} {a C dx : Addr} {fs fs' : List (Str × V)}
theorem tz (hok : HOk P w H h) (e : H a = some (.ins C dx fs)) : ∃ mA, ObjM h a dx C mA /\ (∀ f, RelO (fs.lookup f) (mA f)) /\ PySem.Within mA (fs.map (·.1)) /\ fs.length <= 1000 /\ H dx = some (.own a) := by
 obtain ⟨d, z, ne, ob, mA, n, r, q⟩ := (show ObjOk P w H h a (.ins C dx fs) from hok a _ e)
 exact ⟨mA, ⟨ob, n, ne⟩, r, q, z, d⟩
end
structure Cls (K : W.Frag) (C : Addr) : Prop where
 pg : W.plainGet K C Str.empty = true
 hd : W.hasDictIn K C = true
 po : W.plainOver K C = true
 sa : W.findIn K (.ref C) "__setattr__" = some (some (.builtin "object.__setattr__"))
theorem Cls.get {K : W.Frag} {C : Addr} (c : Cls K C) (f : Str) : W.plainGet K C f = true := c.pg
def NoAttr (K : W.Frag) (C : Addr) (f : Str) : Prop := W.findIn K (.ref C) f = some none
theorem NoAttr.taker {K : W.Frag} {C : Addr} {f : Str} (n : NoAttr K C f) : W.takerIn K C f = some none := by
 unfold W.takerIn
 rw [show W.findIn K (.ref C) f = some none from n]
 rfl
structure Meth (K : W.Frag) (C : Addr) (m : Str) (f : Addr) : Prop where
 at_ : W.findIn K (.ref C) m = some (some (.ref f))
 fn : W.isFn K (.ref f) = true
 kp : W.keepIn K (.ref f) = true
section
variable {X : Cx} {pins : List (Addr × Obj)} {σ : St} {H : Hp} {s : Shared} {a C dx : Addr} {fs : List (Str × V)} {f : Str} {v : V} {A : Around} {E : Value -> Shared -> Prop}
theorem BP {b : Bool} {Q : Value -> Shared -> Prop} (I : Inv X pins σ H s) (e : H a = some (.ins C dx fs)) (c : Cls X.K C) (n : NoAttr X.K C f) (l : fs.lookup f = some v)
  (h : ∀ u s', Inv X pins σ H s' -> RelV v u -> Q u s') : wpAny (model X.prog X.w) A (getAttr (.ref a) f b) Q E s := by
 obtain ⟨mA, O, r, _, _, _⟩ := tz I.hok e
 obtain ⟨u, hu, ru⟩ := RelO.some_of (v := v) (o := mA f) (by rw [<- l]; exact r f)
 exact HF I.kIn O (c.get f) c.hd n hu (Eo ru) (h u _ (I.tok _) ru)
theorem vk {m : Str} {g : Addr} {pl : Sem Bool} {Q : Value × List Value -> Shared -> Prop} (I : Inv X pins σ H s) (e : H a = some (.ins C dx fs)) (c : Cls X.K C) (k : Meth X.K C m g) (l : fs.lookup m = none)
  (h : Q (.ref g, [.ref a]) s) : wpAny (model X.prog X.w) A (getMethod (.ref a) m pl) Q E s := by
 obtain ⟨mA, O, r, _, _, _⟩ := tz I.hok e
 have hn : mA m = none := RelO.none_of (by rw [<- l]; exact r m)
 exact F5 I.kIn O (c.get m) k.at_ k.fn hn h
theorem BG {y : V} {u : Value} {Q : Unit -> Shared -> Prop} (I : Inv X pins σ H s) (e : H a = some (.ins C dx fs)) (c : Cls X.K C) (n : NoAttr X.K C f) (hl : fs.length < 1000) (ry : RelV y u)
  (h : ∀ s', Inv X pins σ (upd H a (.ins C dx (nj f y fs))) s' -> Q () s') : wpAny (model X.prog X.w) A (setAttr (.ref a) f u) Q E s := by
 obtain ⟨mA, O, r, wi, _, ho⟩ := tz I.hok e
 have hz : (fs.map (·.1)).length <= sizeLine := by rw [Ph, Qb]; lia
 refine HV I.kIn O c.sa c.po n.taker c.hd wi hz fun h' O' sb => h _ ?_
 have hd : ∃ o, h'.get? dx = some o := let ⟨o, _, _, e', _⟩ := O'.ns; ⟨o, e'⟩
 refine I.write (x := a) (e := dx) (by rw [e]; exact True.intro) (.inr ho) (fun b q hb z => (sb.2 b hb).trans z) hd ?_
 refine ⟨by rw [a9 O.ne]; exact ho, ?_, O.ne, O'.obj, _, O'.ns, fun g => ?_, fun g hg => ?_⟩
 ·have := rZ f y fs; lia
 ·show RelO ((nj f y fs).lookup g) (if g = f then some u else mA g)
  rw [sv]
  by_cases q : g = f
  ·rw [Pa q, Pa q]; exact ry
  ·rw [Pb q, Pb q]; exact r g
 ·by_cases q : g = f
  ·rw [q]; exact (rE f y fs).1
  ·refine (rE f y fs).2 g (wi g fun z => hg ?_)
   show (if g = f then some u else mA g) = none
   rw [Pb q]; exact z
theorem Inv.made (I : Inv X pins σ H s) : Inv X pins σ (upd (upd H s.heap.objs.size (.own (s.heap.objs.size + 1))) (s.heap.objs.size + 1) (.ins C s.heap.objs.size []))
  { s with heap := (s.heap.push W.emptyDict).push (W.instObj C s.heap.objs.size) } := by
 have e1 : (s.heap.push W.emptyDict).get? s.heap.objs.size = some W.emptyDict := PV s.heap rfl
 have e2 : ((s.heap.push W.emptyDict).push (W.instObj C s.heap.objs.size)).get? (s.heap.objs.size + 1) = some (W.instObj C s.heap.objs.size) := by
  have := PV (s.heap.push W.emptyDict) (o := W.instObj C s.heap.objs.size) rfl
  rwa [Re] at this
 have e3 : (s.heap.push W.emptyDict).Ns s.heap.objs.size (fun _ => none) := ⟨W.emptyDict, #[], _, e1, rfl, (fun e he => absurd he (by simp)), fun _ => rfl⟩
 have I1 := I.laid (a := s.heap.objs.size) (o := .own (s.heap.objs.size + 1)) (h' := s.heap.push W.emptyDict) (t' := s.toks) (fun b u q => Px _ q) (Pi _) ⟨_, e1⟩
 refine I1.laid (a := s.heap.objs.size + 1) (o := .ins C s.heap.objs.size []) (t' := s.toks) (fun b u q => Px _ q) (Qy (Re _ _)) ?_
 have ne : s.heap.objs.size ≠ s.heap.objs.size + 1 := PK (Q0 _)
 refine ⟨by rw [a9 ne, a6], PY _, ne, e2, fun _ => none, (Heap.Ns1.of_empty e3).at fun o q => Px _ q, fun _ => True.intro, fun y hy => absurd rfl hy⟩
theorem Hy {prog : Program} {w : World} {env : Env} {e : Expr} {f : Str} {pos : Pos} {s : Shared} {Q : Value -> Shared -> Prop} (hb : attributeBase e f env (eval e env) = eval e env)
  (h : wpAny (model prog w) A (eval e env) (fun o s₁ => wpAny (model prog w) A (getAttr o f true) Q E s₁) E s) : wpAny (model prog w) A (eval (.Attribute e f pos) env) Q E s :=
 Attribute_any_ h (by rw [arm_eval_Attribute, hb])
end
def Lc (K : W.Frag) (ta tv : TE) (f : Str) : TS := fun D σ H => tv σ H fun y H1 => ta σ H1 fun x H2 => ∃ a C dx fs, x = .ref a /\ H2 a = some (.ins C dx fs) /\ Cls K C /\ NoAttr K C f /\ fs.length < 1000 /\
 D.nx σ (upd H2 a (.ins C dx (nj f y fs)))
section
variable {X : Cx} {o e value : Expr} {f : Str} {pos pos' tpos : Pos} {ta tv : TE}
theorem JI (ha : PE X o ta) (hv : PE X value tv) (hs : swapsWith value (some (.Attribute o f pos')) pos.line X.env = pure false) : PS X (.Assign [.Attribute o f pos'] value pos) (Lc X.K ta tv f) := by
 intro pins s σ H D I h
 refine plainObj_wpAny_Assign_Attribute (thn (hv pins s σ H _ I h) fun u s1 ⟨y, H1, I1, ry, q⟩ => thn (ha pins s1 σ H1 _ I1 q) fun ov s2 hpt9 => ?_) hs
 obtain ⟨x, H2, I2, rx, a, C, dx, fs, ex, ea, c, n, l, q2⟩ := hpt9
 subst ex
 obtain rfl : ov = Value.ref a := rx
 exact BG I2 ea c n l ry fun s3 I3 => ⟨σ, _, I3, q2⟩
end
section
variable {X : Cx} {pins : List (Addr × Obj)} {σ : St} {H : Hp} {s : Shared} {A : Around} {E : Value -> Shared -> Prop} {Q : Value -> Shared -> Prop} {c : Value} {b : Bool}
inductive TyOf (K : W.Frag) (H : Hp) : V -> Value -> Prop where
 | non : TyOf K H .non (.type "NoneType")
 | bl (x : Bool) : TyOf K H (.bl x) (.type "bool")
 | int (i : Int) : TyOf K H (.int i) (.type "int")
 | str (x : Str) : TyOf K H (.str x) (.type "str")
 | flt (x : UInt64) : TyOf K H (.flt x) (.type "float")
 | lst {a : Addr} {xs : List V} (e : H a = some (.lst xs)) : TyOf K H (.ref a) (.type "list")
 | frz {a : Addr} {o : Obj} {xs : List V} (e : H a = some (.frz o (.lst xs))) : TyOf K H (.ref a) (.type "list")
 | tup {a : Addr} {xs : List V} (e : H a = some (.tup xs)) : TyOf K H (.ref a) (.type "tuple")
 | dK {a : Addr} {kvs : List (Key × V)} (e : H a = some (.dK kvs)) : TyOf K H (.ref a) (.type "dict")
 | dT {a : Addr} {kvs : List (List Key × V)} (e : H a = some (.dT kvs)) : TyOf K H (.ref a) (.type "dict")
 | ins {a C dx : Addr} {fs : List (Str × V)} (e : H a = some (.ins C dx fs)) (cl : Cls K C) (ha : W.findIn K (.ref C) "__class__" = some (some (.builtin "object.__class__")))
   (hn : W.specialIn K (.builtin "object.__class__") "__get__" = some (some (.builtin "getset_descriptor.__get__"))) (htk : W.takesIn K (.builtin "object.__class__") = some true)
   (hm : W.mroIn K C (.type "object") = some true) : TyOf K H (.ref a) (.ref C)
theorem mS {x : V} {u t : Value} (I : Inv X pins σ H s) (rx : RelV x u) (ty : TyOf X.K H x t) (e : W.kitOne X.K t c = some b) (h : ∀ tk, Q (.bool b) { s with toks := tk }) :
  wpAny (model X.prog X.w) A (call (.builtin "isinstance") [u, c]) Q E s := by
 cases ty with
 | non => cases (show u = Value.none from rx); exact Qe W.kitx_none I.kIn True.intro e (fun z => nomatch z) h
 | bl y => cases (show u = Value.bool y from rx); exact Qe W.kitx_bool I.kIn True.intro e (fun z => nomatch z) h
 | int i => obtain ⟨t, q⟩ := (show ∃ t, u = Value.int i t from rx); cases q; exact Qe W.kitx_int I.kIn True.intro e (fun z => nomatch z) h
 | str y => obtain ⟨t, q⟩ := (show ∃ t, u = Value.str y t from rx); cases q; exact Qe W.kitx_str I.kIn True.intro e (fun z => nomatch z) h
 | flt y => obtain ⟨t, q⟩ := (show ∃ t, u = Value.float y t from rx); cases q; exact Qe W.kitx_float I.kIn True.intro e (fun z => nomatch z) h
 | @lst a xs ea =>
  cases (show u = Value.ref a from rx)
  obtain ⟨_, _, n, _, h1⟩ := (show ObjOk X.prog X.w H s.heap a (.lst xs) from I.hok a _ ea)
  exact Qe W.kitx_list I.kIn ⟨_, h1, rfl⟩ e (fun z => nomatch z) h
 | @frz a ob xs ea =>
  cases (show u = Value.ref a from rx)
  obtain ⟨_, _, _, n, _, h1⟩ := (show ObjOk X.prog X.w H s.heap a (.frz ob (.lst xs)) from I.hok a _ ea)
  exact Qe W.kitx_list I.kIn ⟨_, h1, rfl⟩ e (fun z => nomatch z) h
 | @tup a xs ea =>
  cases (show u = Value.ref a from rx)
  obtain ⟨_, _, _, p⟩ := (show ObjOk X.prog X.w H s.heap a (.tup xs) from I.hok a _ ea)
  obtain ⟨o, h1, h2, _⟩ := p
  exact Qe W.kitx_tuple I.kIn ⟨o, h1, h2⟩ e (fun z => nomatch z) h
 | @dK a kvs ea =>
  cases (show u = Value.ref a from rx)
  obtain ⟨_, _, vs, _, p⟩ := (show ObjOk X.prog X.w H s.heap a (.dK kvs) from I.hok a _ ea)
  obtain ⟨o, es, ep, h1, h2, _⟩ := p
  exact Qe W.kitx_dict I.kIn ⟨o, h1, h2.1⟩ e (fun z => nomatch z) h
 | @dT a kvs ea =>
  cases (show u = Value.ref a from rx)
  obtain ⟨_, _, xs, _, o, es, ep, h1, h2, _⟩ := (show ObjOk X.prog X.w H s.heap a (.dT kvs) from I.hok a _ ea)
  exact Qe W.kitx_dict I.kIn ⟨o, h1, h2.1⟩ e (fun z => nomatch z) h
 | @ins a C dx fs ea cl ha hn htk hm =>
  cases (show u = Value.ref a from rx)
  obtain ⟨mA, O, _⟩ := tz I.hok ea
  obtain ⟨od, J, _⟩ := O.look
  exact Qe (W.kitx_own (cl.get _) cl.hd ha hn htk hm) I.kIn J e (fun z => nomatch z) h
end
structure Room (k : Nat) (A : Around) : Prop where
 hd : A.handled = none
 dp : A.depth + 3 * k + 5 < recursionLimit
 un : A.units + 16 * k + 200 < cLine
theorem Room.mono {j k : Nat} {A : Around} (r : Room k A) (h : j <= k) : Room j A := ⟨r.hd, by have := r.dp; lia, by have := r.un; lia⟩
theorem Room.deeper {k : Nat} {A : Around} (r : Room (k + 1) A) (env : Env) : Room k (A.deeper env) :=
 ⟨r.hd, by have := r.dp; show A.depth + 1 + 3 * k + 5 < _; lia, by have := r.un; show A.units + 3 + 16 * k + 200 < _; lia⟩
theorem BN {A : Around} {C : Addr} {us : List Value} {kw : List (Str × Value)} : (A.under (.builtin "type.__call__" ⟨.ref C :: us, kw⟩)).depth = A.depth + 1 := by
 first | rfl | simp [Around.under, Code.weight, Code.isCreation, Code.isGuard, Code.isCaller, Code.frames, Code.isFrame, guardIds]
theorem Br {A : Around} {C : Addr} {us : List Value} {kw : List (Str × Value)} : (A.under (.builtin "type.__call__" ⟨.ref C :: us, kw⟩)).units = A.units + 1 := by
 first | rfl | simp [Around.under, Code.cUnits, Code.frames, Code.isFrame]
theorem Room.make {k : Nat} {A : Around} (r : Room (k + 1) A) (C : Addr) (us : List Value) (kw : List (Str × Value)) : Room k (A.under (.builtin "type.__call__" ⟨.ref C :: us, kw⟩)) :=
 ⟨r.hd, by have := r.dp; rw [BN]; lia, by have := r.un; rw [Br]; lia⟩
theorem Room.depth {k : Nat} {A : Around} (r : Room k A) : A.depth < recursionLimit := by have := r.dp; lia
theorem Room.units {k : Nat} {A : Around} (r : Room k A) : A.units + 64 < cLine := by have := r.un; lia
def uX : TA := fun _ H Q => Q [] H
def lH (ta : TE) (tr : TA) : TA := fun σ H Q => ta σ H fun x H1 => tr σ H1 fun xs H2 => Q (x :: xs) H2
section
variable {X : Cx} {e : Expr} {es : List Expr} {te : TE} {t : TA} {pos : Pos}
theorem ah : PA X [] uX := fun _ _ _ _ H Q I h => Calls.spliced_nil ⟨[], H, I, .nil, h⟩
theorem ab (ha : PE X e te) (hr : PA X es t) (hs : starEach (e :: es) X.env = (false, eval e X.env) :: starEach es X.env := by rfl) : PA X (e :: es) (lH te t) := by
 intro pos pins s σ H Q I h
 rw [hs]
 show wpAny _ _ (spliced ((false, eval e X.env) :: backTo pos (starEach es X.env))) _ _ s
 refine Calls.spliced_cons (thn (ha pins s σ H _ I h) fun u s1 hpt9 => ?_)
 obtain ⟨x, H1, I1, r1, q1⟩ := hpt9
 exact thn (hr pos pins s1 σ H1 _ I1 q1) fun us s2 ⟨xs, H2, I2, r2, q2⟩ => ⟨x :: xs, H2, I2, .cons r1 r2, q2⟩
def Jy (t : TA) : TE := fun σ H Q => t σ H fun xs H1 => xs.length <= sizeLine /\ ∀ p, H1 p = none -> Q (.ref p) (upd H1 p (.tup xs))
def KR (t : TA) : TE := fun σ H Q => t σ H fun xs H1 => xs.length <= sizeLine /\ ∀ p, H1 p = none -> Q (.ref p) (upd H1 p (.lst xs))
theorem aO {x1} (h : PA X es t) : PE X (.Tuple es x1 pos) (Jy t) := by
 intro pins s σ H Q I hq
 refine wpAny_Tuple_spliced (thn (h pos pins s σ H _ I hq) fun us s1 ⟨xs, H1, I1, r, z, q⟩ => ⟨by rw [<- r.length]; exact z, ?_⟩)
 have hf : H1 s1.heap.objs.size = none := I1.hok.fresh (Pi _)
 refine ⟨.ref s1.heap.objs.size, upd H1 s1.heap.objs.size (.tup xs), I1.laid (t' := s1.toks) (fun b u e => Px _ e) (Pi _) ?_, rfl, q _ hf⟩
 exact ⟨z, us, r, ⟨_, PV _ rfl, rfl, _, rfl⟩⟩
theorem eJ (h : PA X es t) : PE X (.List es pos) (KR t) := by
 intro pins s σ H Q I hq
 refine wpAny_List_spliced (thn (h pos pins s σ H _ I hq) fun us s1 ⟨xs, H1, I1, r, z, q⟩ => ⟨by rw [<- r.length]; exact z, ?_⟩)
 have hf : H1 s1.heap.objs.size = none := I1.hok.fresh (Pi _)
 refine ⟨.ref s1.heap.objs.size, upd H1 s1.heap.objs.size (.lst xs), I1.laid (t' := s1.toks) (fun b u e => Px _ e) (Pi _) ?_, rfl, q _ hf⟩
 exact ⟨z, us, 0, r, PV _ rfl⟩
end
abbrev Sp := List V -> Hp -> VK -> XK -> Prop
abbrev CXT := List Env -> Hp -> Shared -> XK -> Value -> Shared -> Prop
structure Env0 (P : Program) (w : World) (K : W.Frag) (mg : Str -> Option Value) (base : Heap) (A : Around) (outer : List Env) (s : Shared) (H : Hp) : Prop where
 frames : A.frames = some outer
 mod : Mod K mg base
 bs : ∀ b o, base.get? b = some o -> s.heap.get? b = some o /\ H b = none
 bsz : base.objs.size <= s.heap.objs.size
 funs : s.heap.FunFrames base outer
 frf : ∀ b ∈ frs outer, H b = none
 hok : HOk P w H s.heap
 bare : AllBare s.gens
def CE (outer : List Env) (P : Program) (w : World) (H : Hp) (s : Shared) (Q : VK) (u : Value) (s' : Shared) : Prop :=
 ∃ v H', s'.os = s.os /\ AllBare s'.gens /\ Un (frs outer) [] H H' s.heap s'.heap /\ HOk P w H' s'.heap /\ RelV v u /\ Q v H'
def CR (CX : CXT) (outer : List Env) (P : Program) (w : World) (H : Hp) (s : Shared) (Q : VK) (E : XK) (r : Result) (s' : Shared) : Prop :=
 match r with
 | .ok (.ret u) => CE outer P w H s Q u s'
 | .ok _ => False
 | .error e => CX outer H s E e s'
structure FnOk (P : Program) (w : World) (K : W.Frag) (mg : Str -> Option Value) (base : Heap) (CX : CXT) (k : Nat) (f : Addr) (fd : FuncData) (ps : List Str) (sp : Sp) : Prop where
 len : ∀ vs H Q E, sp vs H Q E -> vs.length = ps.length
 run : ∀ (A : Around) (outer : List Env) (s : Shared) (H : Hp) (args : Args) (us : List Value) (vs : List V) (Q : VK) (E : XK), Room k A -> Env0 P w K mg base A outer s H -> BindsTo s fd args (ps.zip us) -> Vals vs us -> sp vs H Q E ->
  codeAny (model P w) A (.call (.ref f) args) (CR CX outer P w H s Q E) s
theorem Env0.make {P : Program} {w : World} {K : W.Frag} {mg : Str -> Option Value} {base : Heap} {A : Around} {outer : List Env} {s : Shared} {H : Hp} (e : Env0 P w K mg base A outer s H) (C : Addr) (us : List Value) (kw : List (Str × Value)) :
  Env0 P w K mg base (A.under (.builtin "type.__call__" ⟨.ref C :: us, kw⟩)) outer s H := ⟨by first | exact e.frames | (simpa [Around.under, Code.envs, Code.isFrame, pushEnvs] using e.frames), e.mod, e.bs, e.bsz, e.funs, e.frf, e.hok, e.bare⟩
section
variable {X : Cx} {pins : List (Addr × Obj)} {σ : St} {H : Hp} {s s' : Shared}
theorem Inv.env0 (I : Inv X pins σ H s) : Env0 X.prog X.w X.K X.mg X.base X.A X.stack s H :=
 ⟨I.ok.frames, I.ok.mod, I.bs, PU I.ok.bsz I.sz, I.stack, I.stkFree, I.hok, I.bare⟩
theorem Inv.after {Q : VK} {u : Value} (I : Inv X pins σ H s) (h : CE X.stack X.prog X.w H s Q u s') : EP X pins σ Q u s' := by
 obtain ⟨v, H', os, bare, un, hok, r, q⟩ := h
 obtain ⟨hh, g, d, t, os'⟩ := s'
 obtain rfl : os' = s.os := os
 exact ⟨v, H', I.call (h' := hh) (g' := g) (d' := d) (t' := t) (ch := []) un hok bare (fun b z => absurd z (by simp)), r, q⟩
end
def uT (sp : Sp) (dvs : List V) (E : XK) (t : TA) : TE := fun σ H Q => t σ H fun vs H1 => sp (vs ++ dvs) H1 Q E
def Jb (C : Addr) (sp : Sp) (dvs : List V) (E : XK) (t : TA) : TE := fun σ H Q => t σ H fun vs H1 => ∀ x dx, H1 x = none -> H1 dx = none -> dx ≠ x ->
 sp (.ref x :: (vs ++ dvs)) (upd (upd H1 dx (.own x)) x (.ins C dx [])) (fun v H2 => v = .non /\ Q (.ref x) H2) E
def Binds (K : W.Frag) (fd : FuncData) (ps : List Str) (ds : List Value) : Prop :=
 ∀ (s : Shared) (us : List Value), K.In s.heap -> (us ++ ds).length = ps.length -> BindsTo s fd ⟨us, []⟩ (ps.zip (us ++ ds))
theorem Binds.all {K : W.Frag} {fd : FuncData} {ps : List Str} (h : ∀ us : List Value, us.length = ps.length -> bindArgs fd ⟨us, []⟩ = pure (ps.zip us)) : Binds K fd ps [] := fun s us _ hl => by
 rw [P5] at hl ⊢
 exact .of_eq (h us hl)
def kX (CX : CXT) (X : Cx) (E : XK) : Prop := ∀ (pins : List (Addr × Obj)) (σ : St) (H : Hp) (s : Shared) (e : Value) (s' : Shared), Inv X pins σ H s -> CX X.stack H s E e s' -> X.xe e s'
section
variable {X : Cx} {CX : CXT} {k : Nat} {f C : Addr} {fd : FuncData} {ps : List Str} {sp : Sp} {dvs : List V} {ds : List Value} {E : XK} {x m : Str} {p pos apos : Pos} {e o : Expr} {es : List Expr} {ta : TE} {t : TA}
theorem zh {pins : List (Addr × Obj)} {σ : St} {H : Hp} {s : Shared} {Q : VK} {us : List Value} {vs : List V} (F : FnOk X.prog X.w X.K X.mg X.base CX k f fd ps sp) (hr : Room k X.A) (hb : Binds X.K fd ps ds) (hd : Vals dvs ds) (hx : kX CX X E)
  (I : Inv X pins σ H s) (r : Vals vs us) (h : sp (vs ++ dvs) H Q E) : wpAny (model X.prog X.w) X.A (call (.ref f) us) (EP X pins σ Q) X.xe s := by
 have r2 : Vals (vs ++ dvs) (us ++ ds) := r.append hd
 have hl : (us ++ ds).length = ps.length := by rw [<- r2.length]; exact F.len _ _ _ _ h
 refine wpAny_call (codeAny_mono (F.run X.A X.stack s H ⟨us, []⟩ (us ++ ds) (vs ++ dvs) Q E hr I.env0 (hb s us I.kIn hl) r2 h) fun r s' hq => ?_)
 cases r with
 | error e => exact hx pins σ H s e s' I hq
 | ok fl =>
  cases fl with
  | ret u => exact I.after hq
  | next => exact False.elim hq
  | brk => exact False.elim hq
  | cont => exact False.elim hq
theorem Dm (F : FnOk X.prog X.w X.K X.mg X.base CX k f fd ps sp) (hr : Room k X.A) (hg : Gl X x) (hm : X.mg x = some (.ref f)) (hk : W.keepIn X.K (.ref f) = true) (hb : Binds X.K fd ps ds) (hd : Vals dvs ds) (hx : kX CX X E)
  (ha : PA X (e :: es) t) (hdb : (x == ("__debug__" : Str)) = false := by decide) (he : starEach (e :: es) X.env = (false, eval e X.env) :: starEach es X.env := by rfl) (hpl : (backTo pos (starEach es X.env)).any (·.1) = false := by rfl) :
  PE X (.Call (.Name x p) (e :: es) [] pos) (uT sp dvs E t) := by
 intro pins s σ H Q I h
 refine Rt (y3 I hg hm ?_ hdb)
 refine W.callWith_K (h₀ := X.base) I.ok.mod.kin hk (thn (ha pos pins s σ H _ I h) fun us s1 ⟨vs, H1, I1, r, q⟩ => ⟨I1.kIn, ?_⟩) he hpl
 exact zh F hr hb hd hx I1 r q
structure Mk (K : W.Frag) (C f : Addr) : Prop where
 makes : W.makesIn K C = true
 init : W.findIn K (.ref C) "__init__" = some (some (.ref f))
 fn : W.isFn K (.ref f) = true
 kp : W.keepIn K (.ref C) = true
theorem Gz {pins : List (Addr × Obj)} {σ : St} {H : Hp} {s : Shared} {Q : VK} {us : List Value} {vs : List V} (M : Mk X.K C f) (F : FnOk X.prog X.w X.K X.mg X.base CX k f fd ps sp) (hr : Room (k + 1) X.A) (hb : Binds X.K fd ps ds) (hd : Vals dvs ds)
  (hx : kX CX X E) (I : Inv X pins σ H s) (r : Vals vs us)
  (h : ∀ x dx, H x = none -> H dx = none -> dx ≠ x -> sp (.ref x :: (vs ++ dvs)) (upd (upd H dx (.own x)) x (.ins C dx [])) (fun v H2 => v = .non /\ Q (.ref x) H2) E) :
  wpAny (model X.prog X.w) X.A (call (.ref C) us) (EP X pins σ Q) X.xe s := by
 have hq := h (s.heap.objs.size + 1) s.heap.objs.size (I.hok.fresh (Nat.le_succ _)) (I.hok.fresh (Pi _)) (PK (Q0 _))
 have I2 := Inv.made (C := C) I
 have r2 : Vals (V.ref (s.heap.objs.size + 1) :: (vs ++ dvs)) (Value.ref (s.heap.objs.size + 1) :: (us ++ ds)) := .cons rfl (r.append hd)
 have hl : (Value.ref (s.heap.objs.size + 1) :: us ++ ds).length = ps.length := by
  have e := r2.length
  rw [F.len _ _ _ _ hq] at e
  exact e.symm
 refine wpAny_call (GK (f := f) I.kIn M.makes M.init (Qo.mp M.fn) (codeAny_mono (F.run _ X.stack _ _ ⟨Value.ref (s.heap.objs.size + 1) :: us, []⟩ (Value.ref (s.heap.objs.size + 1) :: (us ++ ds)) _ _ E (hr.make C us [])
  (I2.env0.make C us []) (hb _ (Value.ref (s.heap.objs.size + 1) :: us) I2.kIn hl) r2 hq) fun r s' hq' => ?_))
 cases r with
 | error e => exact hx pins σ _ _ e s' I2 hq'
 | ok fl =>
  cases fl with
  | ret u =>
   obtain ⟨v, H', I3, rv, ev, q3⟩ := I2.after hq'
   subst ev
   exact ⟨rv, ⟨V.ref (s.heap.objs.size + 1), H', I3, rfl, q3⟩⟩
  | next => exact False.elim hq'
  | brk => exact False.elim hq'
  | cont => exact False.elim hq'
theorem Ik (M : Mk X.K C f) (F : FnOk X.prog X.w X.K X.mg X.base CX k f fd ps sp) (hr : Room (k + 1) X.A) (hg : Gl X x) (hm : X.mg x = some (.ref C)) (hb : Binds X.K fd ps ds) (hd : Vals dvs ds) (hx : kX CX X E)
  (ha : PA X (e :: es) t) (hdb : (x == ("__debug__" : Str)) = false := by decide) (he : starEach (e :: es) X.env = (false, eval e X.env) :: starEach es X.env := by rfl) (hpl : (backTo pos (starEach es X.env)).any (·.1) = false := by rfl) :
  PE X (.Call (.Name x p) (e :: es) [] pos) (Jb C sp dvs E t) := by
 intro pins s σ H Q I h
 refine Rt (y3 I hg hm ?_ hdb)
 refine W.callWith_K (h₀ := X.base) I.ok.mod.kin M.kp (thn (ha pos pins s σ H _ I h) fun us s1 ⟨vs, H1, I1, r, q⟩ => ⟨I1.kIn, ?_⟩) he hpl
 exact Gz M F hr hb hd hx I1 r q
end
section
variable {X : Cx} {CX : CXT} {k : Nat} {f C : Addr} {fd : FuncData} {ps ks : List Str} {sp : Sp} {E : XK} {x m : Str} {p pos apos kpos : Pos} {e o : Expr} {es : List Expr} {kws : List Keyword} {te ta : TE} {t tk : TA} {nm : Option Str}
variable {g : List Value -> List Value -> List Value} {gV : List V -> List V -> List V}
end
structure FnScope (N P : List Str) (sc : Scope) : Prop where
 kind : sc.kind = .function
 co : sc.isCoroutine = false
 gen : sc.isGenerator = false
 nd : N.Nodup
 pre : N.take P.length = P
 par : ∀ x ∈ P, sc.names.lookup x = some .local \/ sc.names.lookup x = some .cell
 nofree : ∀ y ∈ sc.names, y.2 ≠ .free
theorem wU {kindOf : Str -> Option NameKind} {x : Str} : ∀ {binds : List (Str × Value)} {m : Str -> Option Value}, (∀ v, (x, v) ∉ binds) -> bindL kindOf binds m x = m x
 | [], _, _ => rfl
 | (n, v) :: r, m, h => by
  unfold bindL
  rw [wU fun w hw => h w (Pn _ hw)]
  split
  ·have : x ≠ n := by rintro rfl; exact h v Pl
   simp [this]
  ·rfl
theorem ye {kindOf : Str -> Option NameKind} {x : Str} : ∀ {binds : List (Str × Value)} {m : Str -> Option Value}, (∀ v, (x, v) ∉ binds) -> bindC kindOf binds m x = m x
 | [], _, _ => rfl
 | (n, v) :: r, m, h => by
  unfold bindC
  rw [ye fun w hw => h w (Pn _ hw)]
  split
  ·rfl
  ·have : x ≠ n := by rintro rfl; exact h v Pl
   simp [this]
theorem xG {kindOf : Str -> Option NameKind} {x : Str} {v : Value} : ∀ {P : List Str} {vs : List Value} {i : Nat} {m : Str -> Option Value}, P.Nodup -> P[i]? = some x -> vs[i]? = some v -> kindOf x = some .local ->
  bindL kindOf (P.zip vs) m x = some v
 | [], _, _, _, _, h, _, _ => by simp at h
 | _ :: _, [], _, _, _, _, h, _ => by simp at h
 | p :: P, w :: vs, 0, m, nd, h1, h2, hk => by
  simp at h1 h2; subst h1; subst h2
  show bindL kindOf ((p, w) :: P.zip vs) m p = _
  unfold bindL
  rw [wU fun v hv => (Qi.mp nd).1 (List.of_mem_zip hv).1, Pa hk]
  simp
 | p :: P, w :: vs, i + 1, m, nd, h1, h2, hk => by
  show bindL kindOf ((p, w) :: P.zip vs) m x = _
  unfold bindL
  exact xG (i := i) (Qi.mp nd).2 (by simpa using h1) (by simpa using h2) hk
theorem yl {kindOf : Str -> Option NameKind} {x : Str} {v : Value} : ∀ {P : List Str} {vs : List Value} {i : Nat} {m : Str -> Option Value}, P.Nodup -> P[i]? = some x -> vs[i]? = some v -> kindOf x ≠ some .local ->
  bindC kindOf (P.zip vs) m x = some v
 | [], _, _, _, _, h, _, _ => by simp at h
 | _ :: _, [], _, _, _, _, h, _ => by simp at h
 | p :: P, w :: vs, 0, m, nd, h1, h2, hk => by
  simp at h1 h2; subst h1; subst h2
  show bindC kindOf ((p, w) :: P.zip vs) m p = _
  unfold bindC
  rw [ye fun v hv => (Qi.mp nd).1 (List.of_mem_zip hv).1, Pb hk]
  simp
 | p :: P, w :: vs, i + 1, m, nd, h1, h2, hk => by
  show bindC kindOf ((p, w) :: P.zip vs) m x = _
  unfold bindC
  exact yl (i := i) (Qi.mp nd).2 (by simpa using h1) (by simpa using h2) hk
def bo (N : List Str) (vs : List V) : St := vs.map some ++ List.replicate (N.length - vs.length) none
def B9 (CX : CXT) (P : Program) (w : World) (K : W.Frag) (mg : Str -> Option Value) (base : Heap) (N : List Str) (qual : Str) (scope : Scope) (f : Addr) (cd : Value) (A : Around) (outer : List Env) (s : Shared) (H : Hp) (E : XK) : Cx where
 prog := P
 w := w
 K := K
 mg := mg
 base := base
 A := A.deeper (envOfC qual scope s.heap.objs.size f cd)
 N := N
 s₀ := s
 H₀ := H
 env := envOfC qual scope s.heap.objs.size f cd
 outer := outer
 stack := envOfC qual scope s.heap.objs.size f cd :: outer
 ex := []
 calm := true
 fn := fun _ => true
 pn := []
 xe := fun e s' => wpAny (model P w) (A.deeper (envOfC qual scope s.heap.objs.size f cd)) (leaving (envOfC qual scope s.heap.objs.size f cd) e) (fun _ s'' => CX outer H s E e s'') (fun e' s'' => CX outer H s E e' s'') s'
theorem zI {sc : Scope} {n : Nat} {x : Str} (h : sc.names.lookup x = some .cell) : ∃ c, (cellsFrom n sc.names []).lookup x = some c := by
 have q := W.cellsFrom_some sc.names n [] (.inl h)
 exact Option.isSome_iff_exists.mp q
theorem DU {CX : CXT} {P : Program} {w : World} {K : W.Frag} {mg : Str -> Option Value} {base : Heap} {N ps : List Str} {qual : Str} {scope : Scope} {f : Addr} {cd : Value} {A : Around} {outer : List Env} {s s1 : Shared} {H : Hp} {E : XK} {us : List Value} {vs : List V}
  (S : FnScope N ps scope) (hd : A.handled = none) (e0 : Env0 P w K mg base A outer s H) (hl : vs.length = ps.length) (r : Vals vs us)
  (x : InCallC s s.heap.objs.size (bindL (envOfC qual scope s.heap.objs.size f cd).kindOf (ps.zip us) fun _ => none) (cellsFrom (s.heap.objs.size + 1) scope.names []) (bindC (envOfC qual scope s.heap.objs.size f cd).kindOf (ps.zip us) fun _ => none) s1) :
  Inv (B9 CX P w K mg base N qual scope f cd A outer s H E) [] (bo N vs) H s1 := by
 have hpl : ps.length <= N.length := by have := PH List.length S.pre; rw [QT] at this; lia
 obtain ⟨h1, tk, rfl, hk⟩ := x.done
 have noA : ∀ b : Addr, b ∉ (B9 CX P w K mg base N qual scope f cd A outer s H E).ex := fun b z => absurd (show b ∈ ([] : List Addr) from z) (by simp)
 refine ⟨⟨e0.mod, S.kind, rfl, rfl, Pi _, fun y z c h1 h2 => ?_, fun y hy => ?_, fun y c _ h => ?_, fun _ => hd, Around.frames_deeper e0.frames, .inr ⟨rfl, rfl⟩, fun b z => absurd z (noA b), e0.bs, e0.bsz, fun b _ _ => noA b, fun b z => absurd z (noA b), e0.funs, e0.frf⟩,
  rfl, e0.bare, Un.kept hk, ⟨_, x.toInCall.ns, fun i y v h1 h2 h3 => ?_⟩, fun y c h => ⟨_, x.cell y c h⟩, e0.hok.fresh (Pi _), fun y c h => ?_, fun p hp => absurd (show p ∈ ([] : List (Addr × Obj)) from hp) (by simp), e0.hok.kept hk, ?_⟩
 ·exact name_of_addr x.apart (Q1 h1) (Q1 h2)
 ·have hy : scope.names.lookup y = some .cell \/ scope.names.lookup y = some .free := hy
  rcases hy with hy | hy
  ·exact zI hy
  ·exact absurd rfl (S.nofree _ (Q1 hy))
 ·exact Qh (x.above y c (Q1 h))
 ·have hi : i < vs.length := by
   unfold bo at h2
   by_cases hi : i < vs.length
   ·exact hi
   ·rw [Q2 (by simpa using hi)] at h2
    rw [List.getElem?_replicate] at h2
    split at h2 <;> cases h2
  have ha : vs[i]? = some v := by
   unfold bo at h2
   rw [Rf (by simpa using hi), PD] at h2
   cases e : vs[i]? with
   | none => rw [e] at h2; cases h2
   | some a => rw [e] at h2; cases h2; rfl
  obtain ⟨u, hu, rv⟩ := r.get ha
  have hp : ps[i]? = some y := by
   rw [<- S.pre, List.getElem?_take_of_lt (by lia)]; exact h1
  have ndP : ps.Nodup := by rw [<- S.pre]; exact S.nd.sublist (List.take_sublist _ _)
  refine ⟨u, rv, ?_⟩
  rcases S.par y (Q3 hp) with k | k
  ·exact .inl ⟨k, xG ndP hp hu k⟩
  ·obtain ⟨c, e⟩ := zI (n := s.heap.objs.size + 1) k
   refine .inr ⟨.inl k, c, e, ?_⟩
   have q := x.cell y c e
   rw [yl ndP hp hu (by show scope.names.lookup y ≠ _; rw [k]; decide)] at q
   exact q
 ·exact e0.hok.fresh (Qh (x.above y c (Q1 h)))
 ·unfold bo
  show _ = N.length
  rw [Pj, Ph, RH]
  lia
theorem LG {CX : CXT} {P : Program} {w : World} {K : W.Frag} {mg : Str -> Option Value} {base : Heap} {k : Nat} {f : Addr} {name qual : Str} {params : Arguments} {body : List Stmt} {scope : Scope} {dV kV doc pm cdv ct oc : Value} {an od : Option Addr}
  {osl : Array (Option Value)} {N ps : List Str} {sp : Sp} (lk : K.lookup f = some ⟨oc, od, .func (W.fnOf name qual params body scope dV kV doc pm an cdv ct), osl⟩) (hcd : W.codeIn K cdv qual = true) (S : FnScope N ps scope)
  (len : ∀ vs H Q E, sp vs H Q E -> vs.length = ps.length)
  (hbody : ∀ (A : Around) (outer : List Env) (s : Shared) (H : Hp) (vs : List V) (Q : VK) (E : XK), Room k (A.deeper (envOfC qual scope s.heap.objs.size f cdv)) -> sp vs H Q E ->
   ∃ t, PSs (B9 CX P w K mg base N qual scope f cdv A outer s H E) body t /\ t { nx := fun _ H' => Q .non H', rt := Q } (bo N vs) H) :
  FnOk P w K mg base CX (k + 1) f (W.fnOf name qual params body scope dV kV doc pm an cdv ct) ps sp := by
 refine ⟨len, fun A outer s H args us vs Q E hr e0 hb r hsp => ?_⟩
 have hl := len _ _ _ _ hsp
 have KX : K.In s.heap := e0.mod.kin.keeps fun b o e => (e0.bs b o e).1
 have lim : s.heap.NoLimit := e0.mod.nolimit.keeps fun b o e => (e0.bs b o e).1
 have hkind : ∀ y ∈ ps.zip us, scope.names.lookup y.1 = some .local \/ (scope.names.lookup y.1 = some .cell /\ ((cellsFrom (s.heap.objs.size + 1) scope.names []).lookup y.1).isSome = true) := fun hpt0 hy => by
  obtain ⟨n, v⟩ := hpt0
  rcases S.par n (List.of_mem_zip hy).1 with q | q
  ·exact .inl q
  ·exact .inr ⟨q, W.cellsFrom_some _ _ _ (.inl q)⟩
 refine codeAny_call_function hr.depth (KX _ _ lk) rfl S.co S.gen rfl (W.codeRec_of KX hcd) (hb _ _ _ _ ?_)
 refine wpAny_newFunctionEnv_cells S.kind hkind fun env he s1 x => ?_
 subst he
 refine ⟨lim.keeps x.toInCall.keep, codeAny_func ?_⟩
 obtain ⟨t, ht, hq⟩ := hbody A outer s H vs Q E (hr.deeper _) hsp
 have I : Inv (B9 CX P w K mg base N qual scope f cdv A outer s H E) [] (bo N vs) H s1 := DU S hr.hd e0 hl r x
 refine Qu (ht [] s1 (bo N vs) H _ I hq) (fun fl s' hs => ?_) fun e s' hs => hs
 have fin : ∀ {σ' : St} {H' : Hp} {v : V} {u : Value}, Inv (B9 CX P w K mg base N qual scope f cdv A outer s H E) [] σ' H' s' -> RelV v u -> Q v H' -> CE outer P w H s Q u s' :=
  fun {σ' H' v u} J rv q => ⟨v, H', J.os, J.bare, J.base, J.hok, rv, q⟩
 cases fl with
 | ret u =>
  obtain ⟨v, σ', H', J, rv, q⟩ := hs
  exact fin J rv q
 | next =>
  obtain ⟨σ', H', J, q⟩ := hs
  exact fin (v := V.non) (u := Value.none) J rfl q
 | brk =>
  obtain ⟨_, _, _, q⟩ := hs
  exact False.elim q
 | cont =>
  obtain ⟨_, _, _, q⟩ := hs
  exact False.elim q
section
variable {X : Cx} {x : Str} {p pos : Pos} {e : Expr} {es : List Expr} {t : TA} {id T : String} {r : List V -> Hp -> VK -> Prop}
def tCB (r : List V -> Hp -> VK -> Prop) (t : TA) : TE := fun σ H Q => t σ H fun vs H1 => r vs H1 Q
theorem a7 (hc : CallR X (.builtin id) r) (hg : Gl X x) (hm : X.mg x = none) (hv : bootBuiltins x = some (.builtin id)) (ha : PA X (e :: es) t) (hn : x ≠ "__name__" := by decide) (hdb : (x == ("__debug__" : Str)) = false := by decide)
  (he : starEach (e :: es) X.env = (false, eval e X.env) :: starEach es X.env := by rfl) (hpl : (backTo pos (starEach es X.env)).any (·.1) = false := by rfl) : PE X (.Call (.Name x p) (e :: es) [] pos) (tCB r t) := by
 intro pins s σ H Q I h
 refine Rt (oS I hg hm hv ?_ hn hdb)
 exact PyProof.Rows.callWith_builtin1 (thn (ha pos pins s σ H _ I h) fun us s1 ⟨vs, H1, I1, r1, q1⟩ => hc pins s1 σ H1 vs us Q I1 r1 q1) he hpl
theorem eT (hc : CallR X (.type T) r) (hg : Gl X x) (hm : X.mg x = none) (hv : bootBuiltins x = some (.type T)) (ha : PA X (e :: es) t) (hn : x ≠ "__name__" := by decide) (hdb : (x == ("__debug__" : Str)) = false := by decide)
  (he : starEach (e :: es) X.env = (false, eval e X.env) :: starEach es X.env := by rfl) (hpl : (backTo pos (starEach es X.env)).any (·.1) = false := by rfl) : PE X (.Call (.Name x p) (e :: es) [] pos) (tCB r t) := by
 intro pins s σ H Q I h
 refine Rt (oS I hg hm hv ?_ hn hdb)
 exact Rc (thn (ha pos pins s σ H _ I h) fun us s1 ⟨vs, H1, I1, r1, q1⟩ => hc pins s1 σ H1 vs us Q I1 r1 q1) he hpl
end
end L2
namespace HT
open PySem PyProof.Rows
def cK : List Int -> List Int -> Bool
 | [], [] => false
 | [], _ :: _ => true
 | _ :: _, [] => false
 | x :: xs, y :: ys => if x = y then cK xs ys else decide (x < y)
theorem B3 (x y : Int) (xs ys : List Int) : cK (x :: xs) (y :: ys) = if x = y then cK xs ys else decide (x < y) := rfl
section
open PySem.SeqAt
open PySem.AutoSeq1 (wpAny_loadPart')
open PySem.MeetsSeq PySem.MeetsSeq2 PySem.MeetsSeq3
end
section
variable {prog : Program} {w : World} {A : Around} {E : Value -> Shared -> Prop} {s : Shared}
theorem HL {t b : Addr} {vs ws : List Value} {Q : Value -> Shared -> Prop} (ht : IsTup s.heap t vs.toArray) (hb : IsTup s.heap b ws.toArray) (hv : vs ≠ [])
  (h1 : ws = [] -> Q (.ref t) s) (h2 : ws ≠ [] -> Q (.ref s.heap.objs.size) { s with heap := s.heap.push { cls := .type "tuple", data := .seq (vs ++ ws).toArray } })
  (hsz : vs.length + ws.length <= sizeLine) : wpAny (model prog w) A (binaryOp .Add (.ref t) (.ref b)) Q E s := by
 obtain ⟨⟨cls, dd, data, sl⟩, ho, hc, n, hd⟩ := id ht
 obtain ⟨⟨cls2, dd2, data2, sl2⟩, ho2, hc2, n2, hd2⟩ := id hb
 simp only at hc hd hc2 hd2
 subst hc hd hc2 hd2
 have e : vs.toArray ++ ws.toArray = (vs ++ ws).toArray := by simp
 by_cases hw : ws = []
 ·exact concat_meets ⟨_, ho, rfl⟩ ⟨_, ho2, rfl⟩ noFill_tuple_add seq_tuple_add RI RJ (RK _ _)
   (tuple_addW1 t b vs.toArray ws.toArray n n2 dd dd2 sl sl2 (by simpa using hv) (by simp [hw])) ⟨ho, ho2, h1 hw⟩
 ·refine concat_meets ⟨_, ho, rfl⟩ ⟨_, ho2, rfl⟩ noFill_tuple_add seq_tuple_add RI RJ (RK _ _)
   (tuple_addW2 t b vs.toArray ws.toArray n n2 dd dd2 sl sl2 (by simpa using hv) (by simpa using hw) (by rw [Py, Py]; exact hsz)) ⟨ho, ho2, ?_⟩
  rw [e]
  exact h2 hw
def sIx (n d : Nat) : Option Int -> Nat
 | none => d
 | some v => if v < 0 then (v + (n : Int)).toNat else min v.toNat n
theorem JJ (n d : Nat) (hd : d <= n) (o : Option Int) : sIx n d o <= n := by
 cases o with
 | none => exact hd
 | some v =>
  show (if v < 0 then (v + (n : Int)).toNat else min v.toNat n) <= n
  by_cases hv : v < 0
  ·rw [Pa hv]; lia
  ·rw [Pb hv]; exact Nat.min_le_right _ _
theorem C4 (v : Int) (n d : Nat) : (if v < 0 then max (v + (n : Int)) 0 else min v (n : Int)) = ((sIx n d (some v) : Nat) : Int) := by
 show (if v < 0 then max (v + (n : Int)) 0 else min v (n : Int)) = (((if v < 0 then (v + (n : Int)).toNat else min v.toNat n) : Nat) : Int)
 by_cases hv : v < 0
 ·simp only [Pa hv]; lia
 ·simp only [Pb hv]; lia
theorem BQ (lo hi : Option Int) (n : Nat) : Builtin.Slice.sliceAdjust lo hi 1 (n : Int) = (((sIx n 0 lo : Nat) : Int), ((sIx n n hi : Nat) : Int)) := by
 have h1 : ¬ ((1 : Int) < 0) := by lia
 unfold Builtin.Slice.sliceAdjust
 simp only [h1, if_false]
 refine Prod.ext ?_ ?_
 ·cases lo with
  | none => rfl
  | some v => exact C4 v n 0
 ·cases hi with
  | none => rfl
  | some v => exact C4 v n n
theorem Cf (i j : Nat) : Builtin.Slice.slicePlaces (i : Int) (j : Int) 1 = j - i := by
 unfold Builtin.Slice.slicePlaces
 have h1 : (1 : Int) > 0 := by lia
 simp only [h1, if_true, Int.ediv_one]
 split <;> lia
theorem uJ {v : Value} {o : Option Int} {Q : Option Int -> Shared -> Prop} (p : IsPart v o) (h : Q o s) : wpAny (model prog w) A (Builtin.Slice.slicePartIndex v) Q E s := by
 cases p with
 | none => exact slicePart_none h
 | int i t => exact slicePart_int h
theorem kh {sl : Addr} {vl vu : Value} {lo hi : Option Int} {n : Nat} {Q : Int × Int × Nat -> Shared -> Prop} (hs : s.heap.IsSliceOf sl vl vu .none) (pl : IsPart vl lo) (pu : IsPart vu hi)
  (h : Q (((sIx n 0 lo : Nat) : Int), 1, sIx n n hi - sIx n 0 lo) s) : wpAny (model prog w) A (Builtin.Slice.sliceApplied (.ref sl) (pure (n : Int))) Q E s := by
 obtain ⟨os, hos, hcs, hds⟩ := id hs
 unfold Builtin.Slice.sliceApplied Builtin.Slice.sliceFields
 refine Pf (Pf (QE hos hds (x := vl) rfl (Pf (QE hos hds (x := vu) rfl (Pf (QE hos hds (x := .none) rfl (Pm ?_)))))))
 refine Pf (slicePart_none ?_)
 show wpAny _ _ (if ((1 : Int) == 0) = true then _ else _) _ _ s
 rw [Pb (by decide)]
 refine Pf (uJ pl (Pf (uJ pu (Pf (Pm ?_)))))
 show wpAny _ _ (match Builtin.Slice.sliceAdjust lo hi 1 (n : Int) with | (lo, hi) => pure (lo, (1 : Int), Builtin.Slice.slicePlaces lo hi 1)) _ _ s
 rw [BQ lo hi n]
 show wpAny _ _ (pure (((sIx n 0 lo : Nat) : Int), (1 : Int), Builtin.Slice.slicePlaces ((sIx n 0 lo : Nat) : Int) ((sIx n n hi : Nat) : Int) 1)) _ _ s
 rw [Cf]
 exact Pm h
theorem Fu (xs : Array Value) (i k : Nat) : ((List.range k).filterMap fun (m : Nat) => xs[((i : Int) + (m : Int) * 1).toNat]?).toArray = ((xs.toList.drop i).take k).toArray := by
 have e : (fun (m : Nat) => xs[((i : Int) + (m : Int) * 1).toNat]?) = fun m => xs[i + m]? := by
  funext m
  have : ((i : Int) + (m : Int) * 1).toNat = i + m := by lia
  rw [this]
 rw [e]
 have := pick_run xs i k
 rw [List.filterMap_map] at this
 have e2 : ((fun x => xs[x]?) ∘ fun x => i + x) = fun m => xs[i + m]? := rfl
 rw [e2] at this
 rw [this]
theorem o9 {t sl : Addr} {items : Array Value} {vl vu : Value} {lo hi : Option Int} {Q : Value -> Shared -> Prop} (ht : IsTup s.heap t items) (hs : s.heap.IsSliceOf sl vl vu .none) (pl : IsPart vl lo) (pu : IsPart vu hi)
  (hw : ¬ (sIx items.size 0 lo = 0 /\ sIx items.size items.size hi = items.size))
  (h : Q (.ref s.heap.objs.size) { s with heap := s.heap.push { cls := .type "tuple", data := .seq ((items.toList.drop (sIx items.size 0 lo)).take (sIx items.size items.size hi - sIx items.size 0 lo)).toArray } })
  (hsz : items.size <= sizeLine) : wpAny (model prog w) A (getItem (.ref t) (.ref sl)) Q E s := by
 have htake : sizeOk (.seq ((items.toList.drop (sIx items.size 0 lo)).take (sIx items.size items.size hi - sIx items.size 0 lo)).toArray) := by
  show ((items.toList.drop (sIx items.size 0 lo)).take (sIx items.size items.size hi - sIx items.size 0 lo)).toArray.size <= sizeLine
  rw [Py, QT, List.length_drop, Qa]
  omega
 have hj : sIx items.size items.size hi <= items.size := JJ _ _ (Pi _) hi
 obtain ⟨os, hos, hcs, hds⟩ := id hs
 have hTs : s.TypeIs (.ref sl) "slice" := ⟨os, hos, hcs⟩
 unfold getItem
 try with_reducible refine QQ ?_
 first | refine Pf (Pm ?_) | skip
 refine Pf (wpAny_sequenceKey ht.typeIs (by decide) ?_)
 refine Pf (Ru (name := Str.ofString "__getitem__") ht.typeIs Q4
  (Q5 Q4 ht.typeIs entry_tuple_getitem ?_ (args_tuple_getitem _ _)))
 show wpAny _ _ (Builtin.Tuple.tupleItemsOf (.ref t) >>= _) _ _ s
 refine Pf (tupleItemsOf_ ht ?_)
 refine Pf (wpAny_typeOf hTs ?_)
 rw [Pa (by decide)]
 refine Pf (kh hs pl pu ?_)
 have hno : ¬ ((((sIx items.size 0 lo : Nat) : Int) == 0 && (1 : Int) == 1 && (sIx items.size items.size hi - sIx items.size 0 lo) == items.size) = true) := by
  intro q
  rw [Qp, Qp] at q
  have q1 : ((sIx items.size 0 lo : Nat) : Int) = 0 := eq_of_beq q.1.1
  have q2 : sIx items.size items.size hi - sIx items.size 0 lo = items.size := eq_of_beq q.2
  exact hw ⟨by omega, by omega⟩
 show wpAny _ _ (if (((sIx items.size 0 lo : Nat) : Int) == 0 && (1 : Int) == 1 && (sIx items.size items.size hi - sIx items.size 0 lo) == items.size) = true then _ else _) _ _ s
 rw [Pb hno, Fu]
 first
  | exact Pf (m := Builtin.Tuple.tupleExact _) (Qv (Pm ⟨_, rfl, Pm h⟩) htake)
  | exact Pf (m := Builtin.Tuple.tupleExact _) (Qv (Pf (Pm (Pm ⟨_, rfl, Pm h⟩))) htake)
  | exact Pf (Pf (m := Builtin.Tuple.tupleExact _) (Qv (Pm (Pm ⟨_, rfl, Pm h⟩)) htake))
  | exact Pf (Pf (m := Builtin.Tuple.tupleExact _) (Qv (Pm ⟨_, rfl, Pm h⟩) htake))
end
end HT
namespace L2
open PySem PySem.Spec PyProof.Rows
abbrev TO := St -> Hp -> (Option Int -> Hp -> Prop) -> Prop
def PO (X : Cx) (e : Option Expr) (t : TO) : Prop :=
 ∀ (pins : List (Addr × Obj)) (s : Shared) (σ : St) (H : Hp) (Q : Option Int -> Hp -> Prop), Inv X pins σ H s -> t σ H Q ->
  wpAny (model X.prog X.w) X.A (evalPart e X.env) (fun u s' => ∃ o H', Inv X pins σ H' s' /\ IsPart u o /\ Q o H') X.xe s
def C9 : TO := fun _ H Q => Q none H
def IU (t : TE) : TO := fun σ H Q => t σ H fun x H1 => ∃ i, x = .int i /\ Q (some i) H1
theorem kN {ns : List Int} : ∀ {us : List Value}, Vals (ns.map V.int) us -> IntsAre us ns := by
 induction ns with
 | nil => intro us r; rw [List.map_nil] at r; cases r; exact .nil
 | cons n ns ih =>
  intro us r
  rw [Pt] at r
  cases r with
  | cons r1 r2 =>
   obtain ⟨t, e⟩ := r1
   subst e
   exact .cons n t (ih r2)
section
variable {X : Cx} {e : Expr} {te : TE} {lo hi : Option Expr} {tl th : TO} {pos p2 : Pos}
theorem Hz : PO X none C9 := by
 intro pins s σ H Q I h
 rw [evalPart_none]
 exact Pm ⟨none, H, I, .none, h⟩
theorem o8 (h : PE X e te) : PO X (some e) (IU te) := by
 intro pins s σ H Q I hw
 rw [evalPart_some]
 refine thn (h pins s σ H _ I hw) fun u s1 hpt9 => ?_
 obtain ⟨x, H1, I1, r1, q1⟩ := hpt9
 obtain ⟨i, rfl, q⟩ := q1
 obtain ⟨t, rfl⟩ := r1
 exact ⟨some i, H1, I1, .int i t, q⟩
def SlR (X : Cx) (r : V -> Option Int -> Option Int -> Hp -> VK -> Prop) : Prop :=
 ∀ (pins : List (Addr × Obj)) (s : Shared) (σ : St) (H : Hp) (x : V) (v vl vu : Value) (lo hi : Option Int) (sl : Addr) (Q : VK), Inv X pins σ H s -> RelV x v -> s.heap.IsSliceOf sl vl vu .none -> IsPart vl lo -> IsPart vu hi -> r x lo hi H Q ->
  ∃ T id, typeLookup (.type T) "__getitem__" = pure (some (.builtin id)) /\ s.TypeIs v T /\ wpAny (model X.prog X.w) X.A (getItem v (.ref sl)) (EP X pins σ Q) X.xe s
theorem SlR.or {r r' : V -> Option Int -> Option Int -> Hp -> VK -> Prop} (h : SlR X r) (h' : SlR X r') : SlR X (fun x lo hi H Q => r x lo hi H Q \/ r' x lo hi H Q) := by
 intro pins s σ H x v vl vu lo hi sl Q I rx hs pl pu q
 rcases q with q | q
 ·exact h pins s σ H x v vl vu lo hi sl Q I rx hs pl pu q
 ·exact h' pins s σ H x v vl vu lo hi sl Q I rx hs pl pu q
def tSl (r : V -> Option Int -> Option Int -> Hp -> VK -> Prop) (te : TE) (tl th : TO) : TE := fun σ H Q => te σ H fun x H1 => tl σ H1 fun l H2 => th σ H2 fun u H3 => r x l u H3 Q
theorem u5 {r : V -> Option Int -> Option Int -> Hp -> VK -> Prop} (hr : SlR X r) (he : PE X e te) (hl : PO X lo tl) (hu : PO X hi th) : PE X (.Subscript e (.Slice lo hi none p2) pos) (tSl r te tl th) := by
 intro pins s σ H Q I h
 refine Subscript_ (thn (he pins s σ H _ I h) fun v s1 hpt9 => ?_)
 obtain ⟨x, H1, I1, r1, q1⟩ := hpt9
 refine wpAny_Slice (thn (hl pins s1 σ H1 _ I1 q1) fun vl s2 ⟨l, H2, I2, pl, q2⟩ => thn (hu pins s2 σ H2 _ I2 q2) fun vu s3 hpt9 => ?_)
 obtain ⟨u, H3, I3, pu, q3⟩ := hpt9
 rw [evalPart_none]
 refine Pm ?_
 have I4 : Inv X pins σ H3 { s3 with heap := s3.heap.push { cls := .type "slice", data := .fields #[vl, vu, .none] } } := I3.kept (t' := s3.toks) fun b ob q => Px _ q
 obtain ⟨T, id, hT, ht, hg⟩ := hr pins { s3 with heap := s3.heap.push { cls := .type "slice", data := .fields #[vl, vu, .none] } } σ H3 x v vl vu l u s3.heap.objs.size Q I4 r1 (Heap.IsSliceOf.new ..) pl pu q3
 show wpAny (model X.prog X.w) X.A (subscriptTail e (.Slice lo hi none p2) v (.ref s3.heap.objs.size)) (EP X pins σ Q) X.xe { s3 with heap := s3.heap.push { cls := .type "slice", data := .fields #[vl, vu, .none] } }
 exact tail_any (ops := [.ref s3.heap.objs.size, v]) ht hT hg (by with_unfolding_all rfl)
def oi (xs : List V) (lo hi : Option Int) : List V := (xs.drop (HT.sIx xs.length 0 lo)).take (HT.sIx xs.length xs.length hi - HT.sIx xs.length 0 lo)
theorem rY (xs : List V) (lo hi : Option Int) : (oi xs lo hi).length <= xs.length := by
 unfold oi
 rw [QT, List.length_drop]
 lia
def ND (K : W.Frag) : V -> Option Int -> Option Int -> Hp -> VK -> Prop := fun x lo hi H Q => ∃ a xs, x = .ref a /\ SqT K H a xs /\
 ¬ (HT.sIx xs.length 0 lo = 0 /\ HT.sIx xs.length xs.length hi = xs.length) /\ ∀ p, H p = none -> Q (.ref p) (upd H p (.tup (oi xs lo hi)))
theorem Ka : SlR X (ND X.K) := by
 intro pins s σ H x v vl vu lo hi sl Q I rx hs pl pu h
 obtain ⟨a, xs, rfl, hx, hw, q⟩ := h
 cases rx
 obtain ⟨its, r, ht, hz⟩ := I.tuple hx
 have hlen : its.toArray.size = xs.length := by rw [Py]; exact r.length.symm
 refine ⟨"tuple", _, Q4.lookup, ht.typeIs, ?_⟩
 refine HT.o9 ht hs pl pu (by rw [hlen]; exact hw) ?_ (by rw [hlen]; exact hz)
 rw [hlen]
 refine ⟨.ref s.heap.objs.size, _, I.laid (t' := s.toks) (o := .tup (oi xs lo hi)) (fun b ob q => Px _ q) (Pi _) ?_, rfl, q _ (I.hok.fresh (Pi _))⟩
 exact ⟨PU (rY xs lo hi) hz, _, (r.drop (HT.sIx xs.length 0 lo)).take (HT.sIx xs.length xs.length hi - HT.sIx xs.length 0 lo), IsTup.new _ _⟩
theorem Vals.nil_iff {xs : List V} {us : List Value} (r : Vals xs us) : us = [] ↔ xs = [] := by
 cases r with
 | nil => simp
 | cons _ _ => simp
end
def ixN (n : Nat) (i : Int) : Option Nat := if 0 <= i then (if i < n then some i.toNat else none) else if -(n : Int) <= i then some (i + n).toNat else none
def atI {α : Type} (xs : List α) (i : Int) : Option α := (ixN xs.length i).bind fun j => xs[j]?
theorem CU {n : Nat} {i : Int} {j : Nat} (h : ixN n i = some j) : seqIndex? i n = some j /\ j < n /\ -(n : Int) <= i /\ i < n := by
 unfold ixN at h
 by_cases h0 : 0 <= i
 ·rw [Pa h0] at h
  by_cases h1 : i < n
  ·rw [Pa h1] at h
   have e : i.toNat = j := PX h
   exact ⟨by rw [seqIndex_of h0 h1, e], by lia, by lia, h1⟩
  ·rw [Pb h1] at h; cases h
 ·rw [Pb h0] at h
  by_cases h1 : -(n : Int) <= i
  ·rw [Pa h1] at h
   have e : (i + n).toNat = j := PX h
   exact ⟨by rw [seqIndex_neg (by lia) h1, e], by lia, h1, by lia⟩
  ·rw [Pb h1] at h; cases h
theorem y9 {α : Type} {xs : List α} {i : Int} {v : α} (h : atI xs i = some v) : ∃ j, seqIndex? i xs.length = some j /\ xs[j]? = some v /\ j < xs.length /\ -(xs.length : Int) <= i /\ i < xs.length := by
 unfold atI at h
 cases e : ixN xs.length i with
 | none => rw [e] at h; cases h
 | some j =>
  rw [e] at h
  obtain ⟨h1, h2, h3, h4⟩ := CU e
  exact ⟨j, h1, h, h2, h3, h4⟩
def Dz (b : Expr) : Prop := ∀ o i, subscripted b false o i = operate [o, i] (getItem o i)
def IxR (X : Cx) (r : R2) : Prop :=
 ∀ (value slice : Expr) (pins : List (Addr × Obj)) (s : Shared) (σ : St) (H : Hp) (x y : V) (v u : Value) (Q : VK), Inv X pins σ H s -> RelV x v -> RelV y u -> r x y H Q ->
  subscripted slice false v u = operate [v, u] (getItem v u) -> wpAny (model X.prog X.w) X.A (subscriptTail value slice v u) (EP X pins σ Q) X.xe s
def MtR (X : Cx) (id : String) (r : V -> List V -> Hp -> VK -> Prop) : Prop :=
 ∀ (pins : List (Addr × Obj)) (s : Shared) (σ : St) (H : Hp) (x : V) (xs : List V) (v : Value) (us : List Value) (Q : VK), Inv X pins σ H s -> RelV x v -> Vals xs us -> r x xs H Q ->
  wpAny (model X.prog X.w) X.A (call (.builtin id) (v :: us)) (EP X pins σ Q) X.xe s
section
variable {X : Cx} {a b : Expr} {ta tb : TE} {pos : Pos}
theorem IxR.or {r r' : R2} (h : IxR X r) (h' : IxR X r') : IxR X (fun x y H Q => r x y H Q \/ r' x y H Q) := by
 intro value slice pins s σ H x y v u Q I rx ry q hs
 rcases q with q | q
 ·exact h value slice pins s σ H x y v u Q I rx ry q hs
 ·exact h' value slice pins s σ H x y v u Q I rx ry q hs
theorem Li {r : R2} (hr : IxR X r) (ha : PE X a ta) (hb : PE X b tb) (hs : Dz b) : PE X (.Subscript a b pos) (tOp r ta tb) := by
 intro pins s σ H Q I h
 exact Subscript_ (Ks ha hb I h fun v u s2 x y H2 I2 rx ry q => hr a b pins s2 σ H2 x y v u Q I2 rx ry q (hs _ _))
def LD (K : W.Frag) : R2 := fun x y H Q => ∃ p xs i v, x = .ref p /\ y = .int i /\ SqL K H p xs /\ atI xs i = some v /\ Q v H
def LF (K : W.Frag) : R2 := fun x y H Q => ∃ p xs i v, x = .ref p /\ y = .int i /\ SqT K H p xs /\ atI xs i = some v /\ Q v H
def Lu : R2 := fun x y H Q => ∃ z i c, x = .str z /\ y = .int i /\ z.length <= sizeLine /\ atI z.cps.toList i = some c /\ Q (.str ⟨#[c]⟩) H
theorem ix_list : IxR X (LD X.K) := by
 intro value slice pins s σ H x y v u Q I rx ry h hs
 obtain ⟨p, xs, i, z, rfl, rfl, hq, he, q⟩ := h
 cases rx
 obtain ⟨t, rfl⟩ := ry
 obtain ⟨its, r, pl, hz⟩ := I.list hq
 obtain ⟨j, h1, h2, h3, h4, h5⟩ := y9 he
 obtain ⟨w, ew, rw'⟩ := r.get h2
 have hl := r.length
 have hn := oI
 have fin : EP X pins σ Q w s := ⟨z, H, I, rw', q⟩
 by_cases h0 : 0 <= i
 ·have hj : i.toNat = j := by
   rw [seqIndex_of h0 h5] at h1
   exact PX h1
  exact item_listR pl.isList h0 (by lia) (by rw [hj]; simpa using ew) fin hs
 ·have hj : (i + (its.toArray.size : Int)).toNat = j := by
   rw [seqIndex_neg (by lia) h4] at h1
   rw [Py, <- hl]
   exact PX h1
  exact subscriptTail_builtinR (x := w) pl.isList.typeIs slot_list_getitem.lookup
   (wpAny_getItem_list_neg (Q := fun r s' => r = w /\ EP X pins σ Q r s') pl.isList (by lia) (by rw [Py] <;> lia) (by lia) (by rw [hj]; simpa using ew) ⟨rfl, fin⟩) hs
theorem ix_tup : IxR X (LF X.K) := by
 intro value slice pins s σ H x y v u Q I rx ry h hs
 obtain ⟨p, xs, i, z, rfl, rfl, hq, he, q⟩ := h
 cases rx
 obtain ⟨t, rfl⟩ := ry
 obtain ⟨its, r, pl, hz⟩ := I.tuple hq
 obtain ⟨j, h1, h2, h3, h4, h5⟩ := y9 he
 obtain ⟨w, ew, rw'⟩ := r.get h2
 have hl := r.length
 have hn := oI
 have fin : EP X pins σ Q w s := ⟨z, H, I, rw', q⟩
 exact subscriptTail_builtinR (x := w) pl.typeIs slot_tuple_getitem.lookup
  (getItem_tuple (j := j) (Q := fun r s' => r = w /\ EP X pins σ Q r s') pl (by lia) (by lia) (by rw [Py, <- hl]; exact h1) (by simpa using ew) ⟨rfl, fin⟩) hs
theorem Kc : IxR X Lu := by
 intro value slice pins s σ H x y v u Q I rx ry h hs
 obtain ⟨z, i, c, rfl, rfl, hz, he, q⟩ := h
 obtain ⟨t, rfl⟩ := rx
 obtain ⟨t', rfl⟩ := ry
 obtain ⟨j, h1, h2, h3, h4, h5⟩ := y9 he
 have hl : z.cps.toList.length = z.length := by simp [Str.length]
 rw [hl] at h1 h4 h5
 have hn := oI
 exact tail_any (typeIs_str s z t) slot_str_getitem.lookup (getItem_str (c := c) (by
  have e1 : decide (i < -(2 ^ 63 : Int)) = false := PN (by lia)
  have e2 : decide (i ≥ 2 ^ 63) = false := PN (by lia)
  rw [e1, e2, Bool.or_false]) (by rw [h1]; simpa using h2) ⟨.str ⟨#[c]⟩, H, I.tok _, ⟨_, rfl⟩, q⟩) hs
def rIx (K : W.Frag) : R2 := fun x y H Q => LD K x y H Q \/ LF K x y H Q \/ Lu x y H Q
theorem JY : IxR X (rIx X.K) := ix_list.or (ix_tup.or Kc)
theorem Ct (its : List Value) (n j : Nat) (u : Value) : Obj.mapSeq (·.setIfInBounds j u) { cls := .type "list", data := .seq its.toArray n } = { cls := .type "list", data := .seq (its.set j u).toArray n } := by
 simp [Obj.mapSeq]
theorem Inv.lst {pins : List (Addr × Obj)} {σ : St} {H : Hp} {s : Shared} {p : Addr} {xs : List V} (I : Inv X pins σ H s) (h : H p = some (.lst xs)) :
  ∃ (its : List Value) (n : Nat), Vals xs its /\ s.heap.get? p = some { cls := .type "list", data := .seq its.toArray n } /\ xs.length <= sizeLine := by
 obtain ⟨z, its, n, r, e⟩ := I.hok p _ h
 exact ⟨its, n, r, e, z⟩
theorem Inv.lstUpd {pins : List (Addr × Obj)} {σ : St} {H : Hp} {s : Shared} {p : Addr} {xs ys : List V} {its its' : List Value} {n n' : Nat} {f : Obj -> Obj} (I : Inv X pins σ H s) (h : H p = some (.lst xs))
  (ho : s.heap.get? p = some { cls := .type "list", data := .seq its.toArray n }) (hf : f { cls := .type "list", data := .seq its.toArray n } = { cls := .type "list", data := .seq its'.toArray n' }) (r : Vals ys its') (hz : ys.length <= sizeLine) (t : Nat) :
  Inv X pins σ (upd H p (.lst ys)) { s with heap := s.heap.update p f, toks := t } := by
 have e : (s.heap.update p f).get? p = some { cls := .type "list", data := .seq its'.toArray n' } := by
  rw [RL f ho (by rw [hf] <;> rfl), hf]
 refine I.write (x := p) (e := p) (by rw [h]; trivial) (.inl rfl) (fun b u hb q => (Heap.get?_update_other _ _ (P0 hb)).trans q) ⟨_, e⟩ ?_
 exact ⟨hz, its', n', r, e⟩
def Jh : V -> V -> V -> Hp -> (Hp -> Prop) -> Prop := fun o i v H Q => ∃ p xs k j, o = .ref p /\ i = .int k /\ H p = some (.lst xs) /\ ixN xs.length k = some j /\ Q (upd H p (.lst (xs.set j v)))
theorem A3 : LP X Jh := by
 intro pins s σ H o i v ov iv u Q I ro ri rv h
 obtain ⟨p, xs, k, j, rfl, rfl, hp, hj, q⟩ := h
 cases ro
 obtain ⟨t, rfl⟩ := ri
 obtain ⟨its, n, r, ho, hz⟩ := I.lst hp
 obtain ⟨h1, h2, h3, h4⟩ := CU hj
 have hl := r.length
 have hn := oI
 have I' : Inv X pins σ (upd H p (.lst (xs.set j v))) { s with heap := s.heap.update p (Obj.mapSeq (·.setIfInBounds j u)) } :=
  I.lstUpd hp ho (Ct its n j u) (r.set rv j) (by rw [QF]; exact hz) s.toks
 by_cases h0 : 0 <= k
 ·have hk : k.toNat = j := by
   rw [seqIndex_of h0 h4] at h1
   exact PX h1
  exact W.ki_setAt ho h0 (by lia) (by rw [Py, <- hl]; exact h4) (by rw [hk]; exact ⟨_, I', q⟩)
 ·have hk : (k + (its.toArray.size : Int)).toNat = j := by
   rw [seqIndex_neg (by lia) h3] at h1
   rw [Py, <- hl]
   exact PX h1
  exact W.ki_setBack ho (by lia) (by rw [Py, <- hl]; exact h3) (by lia) (by rw [hk]; exact ⟨_, I', q⟩)
theorem yq (lo hi : Option Int) (n : Nat) : (sliceBounds lo hi none n).1 = ((HT.sIx n 0 lo : Nat) : Int) /\ (sliceBounds lo hi none n).2.1 = ((HT.sIx n n hi : Nat) : Int) /\ (sliceBounds lo hi none n).2.2 = 1 := by
 refine ⟨?_, ?_, rfl⟩
 ·cases lo with
  | none => simp [sliceBounds, HT.sIx]
  | some i =>
   simp only [sliceBounds, HT.sIx, Option.getD_none, show (1 : Int) > 0 by decide, if_true]
   by_cases h : i < 0
   ·simp only [h, if_true] <;> lia
   ·simp only [h, if_false] <;> lia
 ·cases hi with
  | none => simp [sliceBounds, HT.sIx]
  | some i =>
   simp only [sliceBounds, HT.sIx, Option.getD_none, show (1 : Int) > 0 by decide, if_true]
   by_cases h : i < 0
   ·simp only [h, if_true] <;> lia
   ·simp only [h, if_false] <;> lia
theorem wd (its : List Value) (lo hi : Option Int) : slicePick its.toArray lo hi none = ((its.drop (HT.sIx its.length 0 lo)).take (HT.sIx its.length its.length hi - HT.sIx its.length 0 lo)).toArray := by
 obtain ⟨h1, h2, h3⟩ := yq lo hi its.toArray.size
 unfold slicePick
 rw [h1, h2, h3]
 simp only [sliceRange_one, pick_run, Py] <;> rfl
def L4 (K : W.Frag) : V -> Option Int -> Option Int -> Hp -> VK -> Prop := fun x lo hi H Q => ∃ a xs, x = .ref a /\ SqL K H a xs /\ ∀ p, H p = none -> Q (.ref p) (upd H p (.lst (oi xs lo hi)))
theorem HS : SlR X (L4 X.K) := by
 intro pins s σ H x v vl vu lo hi sl Q I rx hs pl pu h
 obtain ⟨a, xs, rfl, hx, q⟩ := h
 cases rx
 obtain ⟨its, r, ht, hz⟩ := I.list hx
 have hlen := r.length
 refine ⟨"list", _, slot_list_getitem.lookup, ht.isList.typeIs, ?_⟩
 refine wpAny_getItem_list_slice ht.isList hs pl pu .none (by simp) ?_ (by rw [Py] <;> lia)
 rw [wd, <- hlen]
 refine ⟨.ref s.heap.objs.size, _, I.laid (t' := s.toks) (o := .lst (oi xs lo hi)) (fun b ob q => Px _ q) (Pi _) ?_, rfl, q _ (I.hok.fresh (Pi _))⟩
 exact ⟨PU (rY xs lo hi) hz, _, 0, (r.drop (HT.sIx xs.length 0 lo)).take (HT.sIx xs.length xs.length hi - HT.sIx xs.length 0 lo), PV _ rfl⟩
theorem CallR.or {f : Value} {r r' : List V -> Hp -> VK -> Prop} (h : CallR X f r) (h' : CallR X f r') : CallR X f (fun xs H Q => r xs H Q \/ r' xs H Q) := by
 intro pins s σ H xs us Q I rs q
 rcases q with q | q
 ·exact h pins s σ H xs us Q I rs q
 ·exact h' pins s σ H xs us Q I rs q
theorem bN : CallR X (.type "tuple") (fun xs H Q => ∃ p ys, xs = [.ref p] /\ ((SqL X.K H p ys /\ ∀ l, H l = none -> Q (.ref l) (upd H l (.tup ys))) \/ (SqT X.K H p ys /\ Q (.ref p) H))) := by
 intro pins s σ H xs us Q I r h
 obtain ⟨p, ys, rfl, h⟩ := h
 obtain ⟨u, rfl, rx⟩ := Hg r
 cases rx
 rcases h with ⟨hq, q⟩ | ⟨hq, q⟩
 ·obtain ⟨its, r', pl, hz⟩ := I.list hq
  have hlen := r'.length
  refine call_tuple_list pl.isList (fun h' kp => ?_) (by simp only [Py] <;> lia)
  have I1 : Inv X pins σ H { s with heap := h' } := I.kept (t' := s.toks) kp
  have I2 : Inv X pins σ (upd H h'.objs.size (.tup ys)) { s with heap := h'.push { cls := .type "tuple", data := .seq its.toArray } } :=
   I1.laid (t' := s.toks) (fun b o e => Px _ e) (Pi _) (show ObjOk X.prog X.w _ _ _ (.tup ys) from ⟨hz, its, r', IsTup.new _ _⟩)
  exact ⟨.ref h'.objs.size, _, I2, rfl, q _ (I1.hok.fresh (Pi _))⟩
 ·obtain ⟨its, r', pl, hz⟩ := I.tuple hq
  exact call_tuple_same pl ⟨.ref p, H, I, rfl, q⟩
def tyV (K : W.Frag) (T : String) (x : V) (H : Hp) : Prop := match x with
 | .str _ => T = "str"
 | .int _ => T = "int"
 | .ref p => (T = "list" /\ ∃ xs, SqL K H p xs) \/ (T = "tuple" /\ ∃ o, K.lookup p = some o /\ o.cls = .type "tuple" /\ o.dict = none) \/
   (T = "dict" /\ ((∃ kvs, H p = some (.dK kvs)) \/ ∃ kvs, H p = some (.dT kvs))) \/ (T = "set" /\ ∃ S n, H p = some (.set S n))
 | _ => False
theorem FI {pins : List (Addr × Obj)} {σ : St} {H : Hp} {s : Shared} {T : String} {x : V} {v : Value} (I : Inv X pins σ H s) (r : RelV x v) (ty : tyV X.K T x H) :
  s.TypeIs v T /\ ∀ a, v = .ref a -> ∃ ob, s.heap.get? a = some ob /\ ob.dict = none := by
 cases x with
 | str z =>
  obtain ⟨t, rfl⟩ := r
  cases (show T = "str" from ty)
  exact ⟨typeIs_str s z t, fun _ e => nomatch e⟩
 | int i =>
  obtain ⟨t, rfl⟩ := r
  cases (show T = "int" from ty)
  exact ⟨typeIs_int s i t, fun _ e => nomatch e⟩
 | ref p =>
  cases r
  rcases ty with ⟨rfl, xs, hq⟩ | ⟨rfl, o, hk, hc, hd⟩ | ⟨rfl, hk⟩ | ⟨rfl, S, n, hk⟩
  ·obtain ⟨its, _, pl, _⟩ := I.list hq
   refine ⟨pl.isList.typeIs, fun a e => ?_⟩
   cases e
   obtain ⟨o, n, e, c, hd, _⟩ := pl
   exact ⟨o, e, hd⟩
  ·refine ⟨⟨o, I.kIn p o hk, hc⟩, fun a e => ?_⟩
   cases e
   exact ⟨o, I.kIn _ o hk, hd⟩
  ·have z : ∃ o, s.heap.get? p = some o /\ o.ExactDict := by
    rcases hk with ⟨kvs, hk⟩ | ⟨kvs, hk⟩
    ·obtain ⟨_, _, _, _, o, _, _, e, ex, _⟩ := I.hok p _ hk
     exact ⟨o, e, ex⟩
    ·obtain ⟨_, _, _, _, o, _, _, e, ex, _⟩ := I.hok p _ hk
     exact ⟨o, e, ex⟩
   obtain ⟨o, e, ex⟩ := z
   refine ⟨⟨o, e, ex.1⟩, fun a e2 => ?_⟩
   cases e2
   exact ⟨o, e, ex.2.1⟩
  ·obtain ⟨o, _, _, _, e, ex, _⟩ := I.hok p _ hk
   refine ⟨⟨o, e, ex.1⟩, fun a e2 => ?_⟩
   cases e2
   exact ⟨o, e, ex.2.1⟩
 | _ => exact False.elim ty
def LK (K : W.Frag) (T : String) (r : V -> List V -> Hp -> VK -> Prop) (to : TE) : TE := fun σ H Q => to σ H fun x H1 => tyV K T x H1 /\ r x [] H1 Q
def tBM (K : W.Frag) (T : String) (r : V -> List V -> Hp -> VK -> Prop) (to : TE) (t : TA) : TE := fun σ H Q => to σ H fun x H1 => tyV K T x H1 /\ t σ H1 fun xs H2 => r x xs H2 Q
variable {o e : Expr} {es : List Expr} {to : TE} {t : TA} {name : Str} {apos cpos : Pos} {T id : String} {r : V -> List V -> Hp -> VK -> Prop}
theorem JN (pa : PlainAttrs T) (slot : Slot T name id) (hty : typeOf (.builtin id) = pure (.type "method_descriptor")) (hm : MtR X id r) (ho : PE X o to)
  (hbase : attributeBase o name X.env (eval o X.env) = eval o X.env := by rfl) (hline : (apos.endLine == cpos.line) = true := by rfl) : PE X (.Call (.Attribute o name apos) [] [] cpos) (LK X.K T r to) := by
 intro pins s σ H Q I h
 refine wpAny_Call_method0_late hbase hline (thn (ho pins s σ H _ I h) fun v s1 hpt9 => ?_)
 obtain ⟨x, H1, I1, r1, ty, q1⟩ := hpt9
 obtain ⟨h1, h2⟩ := FI I1 r1 ty
 exact ⟨T, id, pa, slot, hty, h1, h2, Calls.callWith_builtin rfl (PySem.evalArgs_none (hm pins s1 σ H1 x [] v [] Q I1 r1 .nil q1))⟩
theorem ka (pa : PlainAttrs T) (slot : Slot T name id) (hty : typeOf (.builtin id) = pure (.type "method_descriptor")) (hm : MtR X id r) (ho : PE X o to) (ha : PA X (e :: es) t)
  (hbase : attributeBase o name X.env (eval o X.env) = eval o X.env := by rfl)
  (hfew : ((backTo cpos (starEach (e :: es) X.env)).all (fun x => !x.1) && (backToKw cpos (keywordEach [] X.env)).all (fun x => x.1.isSome)
   && decide ((e :: es).length + ([] : List Keyword).length + (if ([] : List Keyword).isEmpty then 0 else 1) < 30)) = true := by rfl)
  (hline : (apos.endLine == cpos.line) = true := by rfl) (hs : starEach (e :: es) X.env = (false, eval e X.env) :: starEach es X.env := by rfl) (hplain : (backTo cpos (starEach es X.env)).any (·.1) = false := by rfl) :
  PE X (.Call (.Attribute o name apos) (e :: es) [] cpos) (tBM X.K T r to t) := by
 intro pins s σ H Q I h
 refine wpAny_Call_method_late hbase hfew hline rfl (thn (ho pins s σ H _ I h) fun v s1 hpt9 => ?_)
 obtain ⟨x, H1, I1, r1, ty, q1⟩ := hpt9
 obtain ⟨h1, h2⟩ := FI I1 r1 ty
 refine ⟨T, id, pa, slot, hty, h1, h2, ?_⟩
 have hA := ha cpos pins s1 σ H1 _ I1 q1
 rw [hs] at hA ⊢
 refine Calls.callWith_builtin (by show (false || (backTo cpos (starEach es X.env)).any (·.1)) = false; rw [hplain] <;> rfl) (Calls.evalArgs_plain ?_)
 exact thn hA fun us s2 ⟨vs, H2, I2, r2, q2⟩ => hm pins s2 σ H2 x vs v us Q I2 r1 r2 q2
end
def MtM (X : Cx) (id : String) (r : V -> List V -> Hp -> VK -> Prop) : Prop :=
 ∀ (pins : List (Addr × Obj)) (s : Shared) (σ : St) (H : Hp) (x : V) (xs : List V) (v : Value) (us : List Value) (Q : VK), Inv X pins σ H s -> RelV x v -> Vals xs us -> r x xs H Q ->
  wpAny (model X.prog X.w) X.A (call (.builtin id) (v :: us)) (EP X pins σ Q) X.xe s
theorem Vals.one {x : V} {us : List Value} (h : Vals [x] us) : ∃ u, us = [u] /\ RelV x u := by
 cases h with
 | cons r t => cases t; exact ⟨_, rfl, r⟩
theorem Vals.two {x y : V} {us : List Value} (h : Vals [x, y] us) : ∃ u v, us = [u, v] /\ RelV x u /\ RelV y v := by
 cases h with
 | cons r t =>
  cases t with
  | cons q t => cases t; exact ⟨_, _, rfl, r, q⟩
theorem Vals.zero : ∀ {us : List Value}, Vals [] us -> us = []
 | _, .nil => rfl
theorem Vals.dropLast {xs : List V} {us : List Value} (h : Vals xs us) : Vals xs.dropLast us.dropLast := by
 induction h with
 | nil => exact .nil
 | cons r t ih =>
  cases t with
  | nil => exact .nil
  | cons q t' => exact .cons r ih
theorem CH {α : Type} (l : List α) : l.eraseIdx (l.length - 1) = l.dropLast := by
 induction l with
 | nil => rfl
 | cons a r ih =>
  cases r with
  | nil => rfl
  | cons b r =>
   have e : (a :: b :: r).length - 1 = ((b :: r).length - 1) + 1 := by
    have h1 : (a :: b :: r).length = r.length + 2 := rfl
    have h2 : (b :: r).length = r.length + 1 := rfl
    lia
   rw [e, List.eraseIdx_cons_succ, ih]
   all_goals rfl
section
variable {X : Cx} {pins : List (Addr × Obj)} {σ : St} {H : Hp} {s : Shared} {l b : Addr} {xs ys zs : List V}
theorem Inv.lset {its its' : List Value} {n : Nat} {f : Array Value -> Array Value} {t' : Nat} (I : Inv X pins σ H s) (hH : H l = some (.lst xs))
  (e : s.heap.get? l = some { cls := .type "list", data := .seq its.toArray n }) (hf : f its.toArray = its'.toArray) (hv : Vals ys its') (hz : ys.length <= sizeLine) :
  Inv X pins σ (upd H l (.lst ys)) { s with heap := s.heap.update l (Obj.mapSeq f), toks := t' } := by
 have q := PySem.IsL.update e f
 rw [hf] at q
 refine I.write (x := l) (e := l) (by rw [hH]; exact trivial) (.inl rfl) (fun b' u hb hu => (Heap.get?_update_other s.heap (Obj.mapSeq f) (P0 hb)).trans hu) ⟨_, q⟩ ?_
 exact ⟨hz, its', _, hv, q⟩
theorem Inv.lnew {its : List Value} {t' : Nat} (I : Inv X pins σ H s) (hv : Vals ys its) (hz : ys.length <= sizeLine) :
  Inv X pins σ (upd H s.heap.objs.size (.lst ys)) { s with heap := s.heap.push { cls := .type "list", data := .seq its.toArray }, toks := t' } :=
 I.laid (fun _ _ q => Px _ q) (Pi _) ⟨hz, its, 0, hv, PV _ rfl⟩
theorem Inv.fresh (I : Inv X pins σ H s) : H s.heap.objs.size = none := I.hok.fresh (Pi _)
theorem Inv.lstM (I : Inv X pins σ H s) (hH : H l = some (.lst xs)) : xs.length <= sizeLine /\ ∃ (its : List Value) (n : Nat), Vals xs its /\ xs.length = its.length /\ s.heap.get? l = some { cls := .type "list", data := .seq its.toArray n } := by
 obtain ⟨z, its, n, r, e⟩ := I.hok l _ hH
 exact ⟨z, its, n, r, r.length, e⟩
theorem Gs {n : Nat} (h : n <= sizeLine) : Builtin.List.listTooLong n = false := by
 unfold Builtin.List.listTooLong
 exact PN (by lia)
end
section
variable {X : Cx}
def rAppend : V -> List V -> Hp -> VK -> Prop := fun x vs H Q => ∃ l xs y, x = .ref l /\ vs = [y] /\ H l = some (.lst xs) /\ xs.length < sizeLine /\ Q .non (upd H l (.lst (xs ++ [y])))
theorem cI : MtM X "list.append" rAppend := by
 intro pins s σ H x vs v us Q I rx rv h
 obtain ⟨l, xs, y, rfl, rfl, hH, hz, q⟩ := h
 cases rx
 obtain ⟨u, rfl, ru⟩ := rv.one
 obtain ⟨z, its, n, r, hl, e⟩ := I.lstM hH
 refine call_meets F.slot_list_append ⟨_, e, rfl⟩ F.entry_list_append (F.args_list_append_2 _ _) (PySem.list_append l its.toArray n u (by rw [Py]; lia)) ⟨e, ?_⟩
 refine ⟨.non, _, I.lset (its' := its ++ [u]) hH e (by simp) (r.append (.cons ru .nil)) ?_, rfl, q⟩
 rw [Pj, P8]
 lia
def rPop : V -> List V -> Hp -> VK -> Prop := fun x vs H Q => ∃ l xs y, x = .ref l /\ vs = [] /\ H l = some (.lst xs) /\ xs[xs.length - 1]? = some y /\ Q y (upd H l (.lst xs.dropLast))
theorem KA : MtM X "list.pop" rPop := by
 intro pins s σ H x vs v us Q I rx rv h
 obtain ⟨l, xs, y, rfl, rfl, hH, hy, q⟩ := h
 cases rx
 have hus := rv.zero
 subst hus
 obtain ⟨z, its, n, r, hl, e⟩ := I.lstM hH
 obtain ⟨u, hu, ru⟩ := r.get hy
 have hy' : its.toArray[its.toArray.size - 1]? = some u := by
  show its.toArray[its.length - 1]? = some u
  rw [<- QG, <- hl]
  exact hu
 refine call_meets F.slot_list_pop ⟨_, e, rfl⟩ F.entry_list_pop (F.args_list_pop_1 _) (MeetsSeq.list_pop_last l its.toArray n u hy' (by rw [Py]; lia)) ⟨e, ?_⟩
 refine ⟨y, _, I.lset (its' := its.dropLast) hH e ?_ r.dropLast ?_, ru, q⟩
 ·show its.toArray.eraseIdxIfInBounds (its.toArray.size - 1) = its.dropLast.toArray
  rw [Py, List.eraseIdxIfInBounds_toArray, CH]
 ·rw [List.length_dropLast]
  lia
end
section
variable {prog : Program} {w : World} {A : Around} {E : Value -> Shared -> Prop} {s : Shared}
end
section
variable {X : Cx}
end
end L2
namespace Att
open PySem PySem.W PySem.Calls PyProof.Rows
theorem sJ {P : Params} {h : Heap} : ∀ (ns : List Int) (vs : List Value), WellAll P h vs (ns.map WData.int) -> IntsAre vs ns := by
 intro ns
 induction ns with
 | nil =>
  intro vs w
  rw [List.map_nil] at w
  cases w
  exact .nil
 | cons n ns ih =>
  intro vs w
  rw [Pt] at w
  cases w with
  | cons a b =>
   cases a
   exact .cons _ _ (ih _ b)
theorem E8 {l : OpenLaw} {n : Nat} (hn : l.most = some n) {P : Params} {h : Heap} {args : List WData} {vals : List Value}
  (hpre : l.row.toRowW.claim.pre args = true) (hwl : WellAll P h vals args) :
  ∃ a vs ns, vals = [Value.ref a] /\ args = [WData.list (ns.map WData.int)] /\ h.get? a = some { cls := .type "list", data := .seq vs.toArray } /\ IntsAre vs ns /\ ns.length <= n := by
 have hsh : WShape.hasAll [] args [.list .int] = true := (pre_splitW hpre).1
 have hc : l.pre.holds [] { args := args } = true := (pre_splitW hpre).2
 obtain ⟨d, r, rfl, h1, h2⟩ := hasAllW_cons hsh
 obtain rfl := hasAllW_nil h2
 obtain ⟨xs, rfl, h3⟩ := hasW_list h1
 obtain ⟨ns, rfl⟩ := items_int h3
 have hlen : ns.length <= n := by
  unfold OpenLaw.pre at hc
  have h4 : (WTm.not (.lt (.lit (.int (n : Int))) (.len (.arg 0)))).holds [] { args := [.list (ns.map .int)] } = true := by
   have h4 := (holds_andW hc).1
   rw [hn] at h4
   exact h4
  have h5 := condW_of h4 (w_not (w_lt w_lit (w_len_list (w_arg rfl))))
  rw [Ph] at h5
  refine Nat.le_of_not_lt fun q => ?_
  have q' : (n : Int) < ((ns.length : Nat) : Int) := by omega
  first
   | (rw [Qw q'] at h5; exact absurd h5 (by decide))
   | (simp at h5; omega)
 cases hwl with
 | cons w1 w2 =>
  cases w2
  cases w1 with
  | list ho hall => exact ⟨_, _, ns, rfl, rfl, ho, sJ ns _ hall, hlen⟩
theorem DJ (l : OpenLaw) (args : List WData) : l.row.toRowW.claim.post args (.bool true) args = true :=
 postW_of (r := l.row.toRowW) (X := (true == true))
  (show WShape.has [] (.bool true) .bool = true by first | rfl | decide | simp [WShape.has, WShape.arms, WShape.armsAll])
  (show (WTm.eq .res (.lit (.bool true))).value [] { args := args, res := some (.bool true), after := args } = some (.bool (true == true)) from w_eq_bool (w_res rfl) w_lit) rfl
theorem zS {l : OpenLaw} {n : Nat} {q : Program} {loose : List Str} {XP : (Str -> Option Value) -> Heap -> Prop} {YP : World -> Heap -> Prop} {d : DefRec}
  (hn : l.most = some n) (hdf : d.params.defaults = [])
  (call : ∀ (w : World) (s₀ s₁ : Shared) (mg mb : Str -> Option Value) (fa : Addr) (o : Obj) (pm cd doc : Value) (a : Addr) (vs : List Value) (ns : List Int),
   Ground q loose [] XP w s₀ mg mb s₁.heap -> YP w s₁.heap ->
   s₁.heap.get? fa = some o -> o.data = .func (docDef d.name d.params d.body d.scope pm cd doc) -> s₁.heap.CodeRec cd d.name -> mg d.name = some (.ref fa) ->
   s₁.heap.get? a = some { cls := .type "list", data := .seq vs.toArray } -> IntsAre vs ns -> ns.length <= n -> s₁.gens = #[] ->
   codeAny (model l.prog w) callerA (.call (.ref fa) ⟨[.ref a], []⟩) (fun r s' => r = .ok (.ret (.bool true)) /\ OldK s₁.heap s'.heap /\ s'.os = s₁.os /\ AllBare s'.gens) s₁) :
  WalkO q loose XP YP l.row.toRowW d [] (fun f vs => PySem.call f vs) := by
 intro w s₀ s₁ mg mb G Y fa o pm cd doc dV kV ho hd hcd hD hmg hg args vals as hpre hlay hrd hwl hlo
 obtain rfl : dV = .none := Dflts.none hD hdf
 obtain rfl : kV = .none := Dflts.noKw hD
 obtain ⟨a, vs, ns, rfl, rfl, hobj, hints, hlen⟩ := E8 hn hpre hwl
 refine enter_call (codeAny_mono (call w s₀ s₁ mg mb fa o pm cd doc a vs ns G Y ho (fd_plain hd) hcd hmg hobj hints hlen hg) fun r s' hq => ?_)
 obtain ⟨rfl, h2, h3, h4⟩ := hq
 exact ⟨.inl ⟨.bool true, .bool true, [], rfl, fun _ => rfl, .bool true, DJ l _, fun _ => ⟨List.Pairwise.nil, fun _ hm => (nomatch hm)⟩⟩, h2, h3, h4⟩
section
variable {prog : Program} {w : World} {A : Around} {E : Value -> Shared -> Prop} {s : Shared} {K : Frag}
end
end Att
namespace L2
open PySem PySem.Spec PyProof.Rows
theorem xg : ∀ {vs : List Value} {ns : List Int}, IntsAre vs ns -> Vals (ns.map V.int) vs
 | _, _, .nil => .nil
 | _, _, .cons n t h => .cons ⟨t, rfl⟩ (xg h)
def JD (H : Hp) : Prop := ∀ b, H b = none \/ ∃ o xs, H b = some (.frz o (.lst xs))
theorem Gc {P : Program} {w : World} {K : W.Frag} {mg mb : Str -> Option Value} {CX : CXT} {k : Nat} {fa a : Addr} {fd : FuncData} {x : Str} {sp : Sp} {s₁ : Shared} {vs : List Value} {ns : List Int}
  (KX : K.In s₁.heap) (hns : s₁.heap.Ns mainGlobals mg) (hb : s₁.heap.Ns builtinsNs mb) (hbb : ∀ x : Str, x ≠ "__name__" -> mb x = bootBuiltins x) (hlim : s₁.heap.NoLimit) (hg : s₁.gens = #[])
  (ha : s₁.heap.get? a = some { cls := .type "list", data := .seq vs.toArray }) (hi : IntsAre vs ns) (hl : ns.length <= sizeLine) (hr : Room k callerA)
  (F : ∀ base : Heap, K.In base -> base.Ns mainGlobals mg -> FnOk P w K mg base CX k fa fd [x] sp) (hbind : ∀ (s : Shared) (u : Value), BindsTo s fd ⟨[u], []⟩ [(x, u)])
  (hsp : ∀ H : Hp, JD H -> SqL K H a (ns.map V.int) -> sp [.ref a] H (fun v _ => v = .bl true) fun _ _ _ => False)
  (hCX : ∀ H e s', CX [] H s₁ (fun _ _ _ => False) e s' -> False) :
  codeAny (model P w) callerA (.call (.ref fa) ⟨[.ref a], []⟩) (fun r s' => r = .ok (.ret (.bool true)) /\ OldK s₁.heap s'.heap /\ s'.os = s₁.os /\ AllBare s'.gens) s₁ := by
 have rv := xg hi
 have lenV := hi.length
 -- from an abstract heap in which nothing but the script may be tracked
 have core : ∀ H : Hp, JD H -> SqL K H a (ns.map V.int) -> HOk P w H s₁.heap -> (∀ b, H b ≠ none -> b = a) -> (H a ≠ none -> K.lookup a = none) ->
   codeAny (model P w) callerA (.call (.ref fa) ⟨[.ref a], []⟩) (fun r s' => r = .ok (.ret (.bool true)) /\ OldK s₁.heap s'.heap /\ s'.os = s₁.os /\ AllBare s'.gens) s₁ := by
  intro H hO hS hok hA hK
  have base_of : ∀ {b : Addr} {o : Obj}, s₁.heap.get? b = some o -> H b = none -> (yQ s₁.heap H).get? b = some o := fun e n => G6 e n
  have noA : ∀ {b : Addr} {o : Obj} {es : Array DictEntry} {ep : Nat}, s₁.heap.get? b = some o -> o.data = .dict es ep -> H b = none := fun {b o es ep} e d => by
   cases q : H b with
   | none => rfl
   | some u =>
    have e' : b = a := hA b (by rw [q]; simp)
    subst e'
    rw [ha] at e; cases e
    have d' : Data.seq vs.toArray _ = Data.dict es ep := d
    cases d'
  have nsK : ∀ {b : Addr} {m : Str -> Option Value}, s₁.heap.Ns b m -> (yQ s₁.heap H).Ns b m := fun {b m} ⟨o, es, ep, e, d, r⟩ => ⟨o, es, ep, base_of e (noA e d), d, r⟩
  have hKb : K.In (yQ s₁.heap H) := fun b o e => base_of (KX b o e) (by
   cases q : H b with
   | none => rfl
   | some u =>
    have e' : b = a := hA b (by rw [q]; simp)
    subst e'
    rw [hK (by rw [q]; simp)] at e; cases e)
  have hM : Mod K mg (yQ s₁.heap H) := ⟨hKb, nsK hns, ⟨mb, nsK hb, hbb⟩, let ⟨mc, h1, h2⟩ := hlim; ⟨mc, nsK h1, h2⟩⟩
  have e0 : Env0 P w K mg (yQ s₁.heap H) callerA [] s₁ H := ⟨rfl, hM, fun b o e => Ht e, Qy (DI _ _), trivial, fun b hb => absurd (show b ∈ ([] : List Addr) from hb) (by simp), hok, .of_eq hg⟩
  refine codeAny_mono ((F _ hKb (nsK hns)).run callerA [] s₁ H ⟨[.ref a], []⟩ [.ref a] [.ref a] _ _ hr e0 (hbind s₁ (.ref a)) (.cons rfl .nil) (hsp H hO hS)) fun r s' h => ?_
  cases r with
  | error e => exact (hCX H e s' h).elim
  | ok fl =>
   cases fl with
   | next => exact False.elim h
   | brk => exact False.elim h
   | cont => exact False.elim h
   | ret u =>
    obtain ⟨v, H', os, bare, un, hok', r', q⟩ := h
    have q' : v = .bl true := q
    subst q'
    obtain rfl : u = Value.bool true := r'
    refine ⟨rfl, OldK.of_keep fun b o e => ?_, os, bare⟩
    cases q : H b with
    | none => exact un.keep b o e q (by intro z; exact absurd (show b ∈ ([] : List Addr) from z) (by simp)) (by simp)
    | some u =>
     rcases hO b with z | ⟨ob, xs, z⟩
     ·rw [q] at z; cases z
     ·have z2 := un.frzs b ob _ z
      obtain ⟨e1, _⟩ := hok b _ z
      obtain ⟨e2, _⟩ := hok' b _ z2
      rw [e] at e1; cases e1
      exact e2
 cases hk : K.lookup a with
 | some o =>
  -- the script is one of the module's own objects
  have e := KX a o hk
  rw [ha] at e
  cases e
  refine core (fun _ => none) (fun _ => .inl rfl) (.inr ⟨_, vs.toArray, _, hk, rfl, rfl, rfl, by rw [Py, lenV]; exact hl, by simpa using rv⟩) (fun b u z => by have z' : (none : Option HO) = some u := z; cases z') (fun b z => absurd rfl z) fun z => absurd rfl z
 | none =>
  refine core (fun b => if b = a then some (.frz { cls := .type "list", data := .seq vs.toArray } (.lst (ns.map V.int))) else none) (fun b => ?_) (.inl (.inr ⟨{ cls := .type "list", data := .seq vs.toArray }, Pa rfl⟩)) (fun b u z => ?_) (fun b z => ?_) fun _ => hk
  ·by_cases hb : b = a
   ·exact .inr ⟨_, _, Pa hb⟩
   ·exact .inl (Pb hb)
  ·by_cases hb : b = a
   ·have z' := (Pa hb).symm.trans z
    cases z'
    subst hb
    exact ⟨ha, by rw [Ph]; exact hl, vs, _, rv, ha⟩
   ·have z' := (Pb hb).symm.trans z
    cases z'
  ·by_cases hb : b = a
   ·exact hb
   ·exact absurd (Pb hb) z
theorem Ic {l : W.OpenLaw} {n k : Nat} {q : Program} {loose : List Str} {XP : (Str -> Option Value) -> Heap -> Prop} {YP : World -> Heap -> Prop} {d : DefRec} {K : Params -> W.Frag} {CX : World -> CXT} {sp : World -> Sp} {x : Str}
  (hn : l.most = some n) (hn2 : n <= sizeLine) (hdf : d.params.defaults = []) (hr : Room k callerA)
  (hY : ∀ (w : World) (h : Heap), YP w h -> (K w.params).In h)
  (F : ∀ (w : World) (mg : Str -> Option Value) (fa : Addr) (h : Heap), (K w.params).In h -> h.Ns mainGlobals mg -> mg d.name = some (.ref fa) ->
   ∃ fd : FuncData, (∀ (s : Shared) (u : Value), BindsTo s fd ⟨[u], []⟩ [(x, u)]) /\
    ∀ base : Heap, (K w.params).In base -> base.Ns mainGlobals mg -> FnOk l.prog w (K w.params) mg base (CX w) k fa fd [x] (sp w))
  (hsp : ∀ (w : World) (H : Hp) (a : Addr) (ns : List Int), ns.length <= n -> JD H -> SqL (K w.params) H a (ns.map V.int) -> sp w [.ref a] H (fun v _ => v = .bl true) fun _ _ _ => False)
  (hCX : ∀ (w : World) (H : Hp) (s : Shared) (e : Value) (s' : Shared), CX w [] H s (fun _ _ _ => False) e s' -> False) :
  W.WalkO q loose XP YP l.row.toRowW d [] (fun f vs => PySem.call f vs) := by
 refine Att.zS hn hdf fun w s₀ s₁ mg mb fa o pm cd doc a vs ns G Y ho hd hcd hmg hobj hints hlen hg => ?_
 have KX := hY w _ Y
 obtain ⟨fd, hb, hF⟩ := F w mg fa _ KX G.T.g hmg
 exact Gc KX G.T.g G.T.b G.T.builtins G.T.nolimit hg hobj hints (PU hlen hn2) hr hF hb (fun H hO hS => hsp w H a ns hlen hO hS) fun H e s' => hCX w H s₁ e s'
def nc (s : Stmt) (j : Nat) : Stmt := match s with
 | .ClassDef _ _ _ body _ _ _ _ _ _ _ => body.getD j (.Pass ⟨0, 0, 0, 0⟩)
 | _ => .Pass ⟨0, 0, 0, 0⟩
def tp (s : Stmt) : Arguments := match s with
 | .FunctionDef _ a _ _ _ _ _ _ _ _ => a
 | _ => { posonlyargs := [], args := [], vararg := none, kwonlyargs := [], kw_defaults := [], kwarg := none, defaults := [] }
def nh (s : Stmt) : List Stmt := match s with
 | .FunctionDef _ _ b _ _ _ _ _ _ _ => b
 | _ => []
def aK (s : Stmt) : Scope := match s with
 | .FunctionDef _ _ _ _ _ _ sc _ _ _ => sc
 | _ => { kind := .function, names := [], isGenerator := false, isCoroutine := false }
abbrev CX0 : CXT := fun _ _ _ _ _ _ => False
abbrev E0 : XK := fun _ _ _ => False
theorem jU {X : Cx} : kX CX0 X E0 := fun _ _ _ _ _ _ _ h => h.elim
structure Fun (K : W.Frag) (x qual : Str) (st : Stmt) (f : Addr) (fd : FuncData) : Prop where
 ex : ∃ (oc : Value) (od : Option Addr) (kV doc pm : Value) (an : Option Addr) (cdv ct : Value) (osl : Array (Option Value)),
  fd = W.fnOf x qual (tp st) (nh st) (aK st) .none kV doc pm an cdv ct /\ K.lookup f = some ⟨oc, od, .func fd, osl⟩ /\ W.codeIn K cdv qual = true
 kp : W.keepIn K (.ref f) = true
section
variable {P : Program} {w : World} {K : W.Frag} {mg : Str -> Option Value} {base : Heap}
theorem Fun.ok {x qual : Str} {st : Stmt} {f : Addr} {fd : FuncData} {N ps : List Str} {k : Nat} {sp : Sp} (F : Fun K x qual st f fd) (S : FnScope N ps (aK st)) (len : ∀ vs H Q E, sp vs H Q E -> vs.length = ps.length)
  (hbody : ∀ (cdv : Value) (A : Around) (outer : List Env) (s : Shared) (H : Hp) (vs : List V) (Q : VK) (E : XK), Room k (A.deeper (envOfC qual (aK st) s.heap.objs.size f cdv)) -> sp vs H Q E ->
   ∃ t, PSs (B9 CX0 P w K mg base N qual (aK st) f cdv A outer s H E).nox (nh st) t /\ t { nx := fun _ H' => Q .non H', rt := Q } (bo N vs) H) : FnOk P w K mg base CX0 (k + 1) f fd ps sp := by
 obtain ⟨oc, od, kV, doc, pm, an, cdv, ct, osl, rfl, lk, hcd⟩ := F.ex
 refine LG lk hcd S len fun A outer s H vs Q E hr hsp => ?_
 obtain ⟨t, h, q⟩ := hbody cdv A outer s H vs Q E hr hsp
 exact ⟨t, h.nox, q⟩
theorem Fun.binds {x qual : Str} {st : Stmt} {f : Addr} {fd : FuncData} {ps : List Str} (F : Fun K x qual st f fd)
  (h : ∀ (kV doc pm : Value) (an : Option Addr) (cdv ct : Value) (us : List Value), us.length = ps.length -> bindArgs (W.fnOf x qual (tp st) (nh st) (aK st) .none kV doc pm an cdv ct) ⟨us, []⟩ = pure (ps.zip us)) : Binds K fd ps [] := by
 obtain ⟨oc, od, kV, doc, pm, an, cdv, ct, osl, rfl, lk, hcd⟩ := F.ex
 exact .all (h kV doc pm an cdv ct)
theorem Kd {x qual : Str} {st : Stmt} {f : Addr} {oc : Value} {od an : Option Addr} {osl : Array (Option Value)} {kV doc pm cdv ct : Value} (l : K.lookup f = some ⟨oc, od, .func (W.fnOf x qual (tp st) (nh st) (aK st) .none kV doc pm an cdv ct), osl⟩)
  (c : W.codeIn K cdv qual = true) (k : W.keepIn K (.ref f) = true) : Fun K x qual st f (W.fnOf x qual (tp st) (nh st) (aK st) .none kV doc pm an cdv ct) := ⟨⟨oc, od, kV, doc, pm, an, cdv, ct, osl, rfl, l, c⟩, k⟩
end
section
variable {X : Cx}
theorem pv (i : Nat) {x : Str} {pos : Pos} (hN : X.N[i]? = some x := by rfl) (hv : Vis X.env.scope x := by first | exact Or.inl rfl | exact Or.inr (.inl rfl) | exact Or.inr (.inr rfl)) (hd : (x == ("__debug__" : Str)) = false := by decide)
  (hcd : (x == ("__classdict__" : Str)) = false := by decide) : PE X (.Name x pos) (uw i) := JV hN hv hd hcd
end
theorem DS {A B : Prop} (h : B) : if false = true then A else B := by
 rw [Pb QS]
 exact h
theorem DT {A B : Prop} (h : A) : if true = true then A else B := by
 rw [Pa rfl]
 exact h
def Same (H H' : Hp) : Prop := ∀ b o, H b = some o -> H' b = some o
theorem Same.refl (H : Hp) : Same H H := fun _ _ h => h
theorem Same.trans {H H1 H2 : Hp} (a : Same H H1) (b : Same H1 H2) : Same H H2 := fun c o h => b c o (a c o h)
theorem Same.free {H H' : Hp} (e : Same H H') {l : Addr} (h : H' l = Option.none) : H l = Option.none := by
 cases q : H l with
 | none => rfl
 | some o =>
  rw [e l o q] at h
  cases h
end L2
namespace L2
open PySem PySem.Spec PyProof.Rows
structure CmpOk (XN : List Str) (sc scope : Scope) (N : List Str) (js : List (Option Nat)) : Prop where
 kind : scope.kind = .function
 cell : ∀ y ∈ scope.names, y.2 ≠ .cell
 free : ∀ y ∈ scope.names, y.2 = .free -> sc.names.lookup y.1 = some .cell \/ sc.names.lookup y.1 = some .free
 loc : ∀ y ∈ scope.names, y.2 = .local -> scope.names.lookup y.1 = some .local
 len : js.length = N.length
 ix : ((N.zip js).all fun p => match p.2 with | none => true | some j => decide (XN[j]? = some p.1) && decide (scope.names.lookup p.1 = some .free)) = true
def mN (env : Env) : List (Str × NameKind) -> List (Str × Addr) -> List (Str × Addr)
 | [], cs => cs
 | (n, k) :: r, cs => mN env r (if k = .free then (match env.cells.lookup n with | some c => (n, c) :: cs | none => cs) else cs)
theorem A7 {env : Env} : ∀ {names : List (Str × NameKind)} {cs : List (Str × Addr)}, (∀ n c, cs.lookup n = some c -> env.cells.lookup n = some c) -> ∀ n c, (mN env names cs).lookup n = some c -> env.cells.lookup n = some c
 | [], _, h => h
 | (m, k) :: r, cs, h => by
  unfold mN
  refine A7 ?_
  split
  ·cases e : env.cells.lookup m with
   | none => exact h
   | some d =>
    intro n c hn
    dsimp only at hn
    rw [Qj] at hn
    cases q : n == m with
    | true =>
     rw [q] at hn
     have e1 : n = m := by simpa using q
     cases hn
     rw [e1]; exact e
    | false => rw [q] at hn; exact h n c hn
  ·exact h
theorem Av {env : Env} : ∀ {names : List (Str × NameKind)} {cs : List (Str × Addr)} {n : Str}, ((n, NameKind.free) ∈ names /\ (∃ c, env.cells.lookup n = some c)) \/ (∃ c, cs.lookup n = some c) -> ∃ c, (mN env names cs).lookup n = some c
 | [], _, _, h => h.elim (fun z => by cases z.1) id
 | (m, k) :: r, cs, n, h => by
  unfold mN
  refine Av ?_
  rcases h with ⟨hm, c, hc⟩ | ⟨c, hc⟩
  ·rcases Ps.mp hm with e | hm
   ·cases e
    right
    rw [Pa rfl, hc]
    exact ⟨c, by rw [Qj]; simp⟩
   ·exact .inl ⟨hm, c, hc⟩
  ·right
   split
   ·cases e : env.cells.lookup m with
    | none => exact ⟨c, hc⟩
    | some d =>
     dsimp only
     rw [Qj]
     cases q : n == m with
     | true => exact ⟨d, rfl⟩
     | false => exact ⟨c, hc⟩
   ·exact ⟨c, hc⟩
theorem uZ {env : Env} {scope : Scope} (h : ∀ y ∈ scope.names, y.2 = .free -> ∃ c, env.cells.lookup y.1 = some c) : closureFor scope env = pure (mN env scope.names []) := by
 have key : ∀ (names : List (Str × NameKind)) (cs : List (Str × Addr)), (∀ y ∈ names, y.2 = .free -> ∃ c, env.cells.lookup y.1 = some c) ->
   (forIn names cs (fun (x : Str × NameKind) r => if (x.2 == NameKind.free) = true then (do let a ← cellOf env x.1; pure (ForInStep.yield ((x.1, a) :: r))) else pure (ForInStep.yield r)) : Sem (List (Str × Addr))) = pure (mN env names cs) := by
  intro names
  induction names with
  | nil => intro cs _; rfl
  | cons y r ih =>
   intro cs hy
   obtain ⟨n, k⟩ := y
   rw [List.forIn_cons]
   unfold mN
   by_cases hk : k = .free
   ·subst hk
    obtain ⟨c, hc⟩ := hy _ Pl rfl
    have e1 : cellOf env n = pure c := by unfold cellOf; rw [hc]
    rw [Pa (by rfl)]
    rw [Pa rfl, hc]
    show ((cellOf env n >>= fun a => pure (ForInStep.yield ((n, a) :: cs))) >>= _) = _
    rw [e1]
    exact ih _ fun z hz => hy z (Pn _ hz)
   ·have hb : (k == NameKind.free) = false := by simpa using hk
    rw [Pb (by rw [hb]; decide), Pb hk]
    exact ih _ fun z hz => hy z (Pn _ hz)
 have k := key scope.names [] h
 unfold closureFor
 show (forIn scope.names ([] : List (Str × Addr)) _ >>= fun cs => pure cs) = _
 refine Eq.trans (PH (fun t => t >>= fun cs => pure cs) (Eq.trans ?_ k)) rfl
 congr 1
theorem uD {env : Env} : ∀ {names : List (Str × NameKind)} {x : Str}, names.lookup x = some .free ->
  (names.map fun (n, k) => if (k == NameKind.free && env.scope.kind == .function && env.kindOf n == some .cell) then (n, NameKind.cell) else (n, k)).lookup x = some .cell \/
  (names.map fun (n, k) => if (k == NameKind.free && env.scope.kind == .function && env.kindOf n == some .cell) then (n, NameKind.cell) else (n, k)).lookup x = some .free
 | [], _, h => by simp at h
 | (n, k) :: r, x, h => by
  have ih := @uD env r x
  rw [Pt]
  dsimp only
  cases q : x == n with
  | true =>
   rw [Qj, q] at h
   cases h
   split
   ·left; rw [Qj, q]
   ·right; rw [Qj, q]
  | false =>
   rw [Qj, q] at h
   split
   ·rw [Qj, q]; exact ih h
   ·rw [Qj, q]; exact ih h
theorem n5 {env : Env} : ∀ {names : List (Str × NameKind)} {x : Str} {j : NameKind}, (∀ y ∈ names, y.2 ≠ .cell) -> (j = .cell \/ j = .free) ->
  (names.map fun (n, k) => if (k == NameKind.free && env.scope.kind == .function && env.kindOf n == some .cell) then (n, NameKind.cell) else (n, k)).lookup x = some j -> (x, NameKind.free) ∈ names
 | [], _, _, _, _, h => by simp at h
 | (n, k) :: r, x, j, hc, hj, h => by
  have ih := @n5 env r x j (fun y hy => hc y (Pn _ hy)) hj
  rw [Pt] at h
  dsimp only at h
  cases q : x == n with
  | true =>
   have e : x = n := by simpa using q
   subst e
   split at h
   ·rename_i g
    have : k = .free := by
     simp only [Qp, Qo] at g
     exact g.1.1
    subst this
    exact Pl
   ·rw [Qj, q] at h
    cases h
    rcases hj with z | z
    ·exact absurd z (hc _ Pl)
    ·rw [z]; exact Pl
  | false =>
   refine Pn _ (ih ?_)
   split at h
   ·rw [Qj, q] at h; exact h
   ·rw [Qj, q] at h; exact h
def inn (js : List (Option Nat)) (σ : St) : St := js.map fun o => match o with | none => none | some j => (σ[j]?).join
structure CxZ where
 cl : List (Str × Addr)
 C : Addr
 s : Shared
 H : Hp
 fp : List Addr
 pins : List (Addr × Obj)
def cxC (X : Cx) (N : List Str) (scope : Scope) (z : CxZ) : Cx where
 prog := X.prog
 w := X.w
 K := X.K
 mg := X.mg
 base := X.base
 A := X.A
 N := N
 s₀ := z.s
 H₀ := z.H
 env := compEnvC scope z.cl z.C X.env
 outer := X.stack
 stack := X.stack
 ex := z.fp
 fn := fun _ => false
 calm := X.calm
 pn := X.pn ++ z.pins
 xe := fun _ _ => False
section
variable {X : Cx} {pins : List (Addr × Obj)} {σ : St} {H : Hp} {s : Shared} {XN N : List Str} {sc scope : Scope} {js : List (Option Nat)}
theorem FJ {h1 : Heap} {m : Str -> Option Value} {tk : Nat} {fp : List Addr} (ck : CmpOk XN sc scope N js) (hXN : X.N = XN) (hsc : X.env.scope = sc) (I : Inv X pins σ H s) (hf : ∀ b ∈ fp, wx X pins H b)
  (hfo : ∀ b ∈ fp, b < s.heap.objs.size) (hn : h1.Ns s.heap.objs.size m) (hk : ∀ b o, s.heap.get? b = some o -> h1.get? b = some o) :
  Inv (cxC X N scope ⟨mN X.env scope.names [], s.heap.objs.size, s, H, fp, pins⟩) [] (inn js σ) H { s with heap := h1, toks := tk } := by
 subst hXN hsc
 have sub : ∀ n c, (mN X.env scope.names []).lookup n = some c -> X.env.cells.lookup n = some c := A7 fun n c h => by simp at h
 have clt : ∀ n c, (mN X.env scope.names []).lookup n = some c -> c < s.heap.objs.size := fun n c h => by
  obtain ⟨v, q⟩ := I.cell n c (sub n c h)
  exact q.lt
 have has : ∀ x, (x, NameKind.free) ∈ scope.names -> ∃ c, (mN X.env scope.names []).lookup x = some c := fun x hx =>
  Av (.inl ⟨hx, I.ok.has x (ck.free _ hx rfl)⟩)
 refine ⟨⟨I.ok.mod, ck.kind, I.ok.glob, I.ok.blt, Pi _, fun x y c h1 h2 => I.ok.inj x y c (sub x c h1) (sub y c h2), fun x hx => ?has, fun x c hx => ?cab, I.ok.hd, I.ok.frames, .inl rfl, fun b hb => ?exf, I.bs, ?bsz, fun b o e hb => ?noex, fun b hb => ?exfs, I.stack, I.stkFree⟩,
  rfl, I.bare, Un.kept hk, ⟨m, hn, fun i x v h1 h2 h3 => ?loc⟩, fun x c h => ?cell, I.hok.fresh (Pi _), fun x c h => I.freeC x c (sub x c h), fun p hp => ?pin, I.hok.kept hk, ?len⟩
 case has =>
  rcases hx with hx | hx
  ·exact has x (n5 ck.cell (.inl rfl) hx)
  ·exact has x (n5 ck.cell (.inr rfl) hx)
 case cab => cases hx
 case exf =>
  obtain ⟨f0, f1, f2, f3, f4, f5⟩ := hf b hb
  exact ⟨PK (hfo b hb), fun x c e => f4 x c (sub x c e)⟩
 case bsz => exact PU I.ok.bsz I.sz
 case noex =>
  obtain ⟨f0, f1, f2, f3, f4, f5⟩ := hf b hb
  rcases f3 with f3 | f3
  ·exact I.ok.noex b o e f3
  ·exact absurd (PZ (Pv e) (PU I.ok.bsz f3)) (QD _)
 case exfs =>
  obtain ⟨f0, f1, f2, f3, f4, f5⟩ := hf b hb
  intro z
  rcases Ps.mp (I.stkSub b z) with e | e
  ·exact f1 e
  ·exact f2 e
 case loc =>
  have hl : N.length = js.length := ck.len.symm
  have hi : i < js.length := by
   have := (Pw.mp h1).1
   have e : (cxC X N scope ⟨mN X.env scope.names [], s.heap.objs.size, s, H, fp, pins⟩).N = N := rfl
   rw [e] at this
   lia
  have hN : N[i]? = some x := h1
  have hj : js[i]? = some js[i] := Qf hi
  unfold inn at h2
  rw [PD, hj] at h2
  cases q : js[i] with
  | none => rw [q] at h2; cases h2
  | some j =>
   rw [q] at h2 hj
   have h2' : (σ[j]?).join = some v := PX h2
   have hσ : σ[j]? = some (some v) := by
    cases e : σ[j]? with
    | none => rw [e] at h2'; cases h2'
    | some o => rw [e] at h2'; exact PH some h2'
   have hm : (x, some j) ∈ N.zip js := by
    refine Q3 (i := i) ?_
    rw [List.getElem?_zip_eq_some]
    exact ⟨hN, hj⟩
   have hc := List.all_eq_true.mp ck.ix _ hm
   simp only [Qp, QU] at hc
   obtain ⟨c1, c2⟩ := hc
   have hfr : (x, NameKind.free) ∈ scope.names := Q1 c2
   have hvis : X.env.scope.names.lookup x = some .cell \/ X.env.scope.names.lookup x = some .free := ck.free _ hfr rfl
   obtain ⟨m0, hn0, hl0⟩ := I.loc
   obtain ⟨u, r, l⟩ := hl0 j x v c1 hσ (hvis.elim (fun z => .inr (.inl z)) fun z => .inr (.inr z))
   refine ⟨u, r, .inr ⟨?_, ?_⟩⟩
   ·exact uD c2
   ·rcases l with ⟨k1, _⟩ | ⟨_, c, k1, k2⟩
    ·have k1' : X.env.scope.names.lookup x = some .local := k1
     rcases hvis with z | z
     ·rw [z] at k1'; cases k1'
     ·rw [z] at k1'; cases k1'
    ·obtain ⟨c', hc'⟩ := has x hfr
     have e := sub x c' hc'
     rw [k1] at e
     cases e
     obtain ⟨oc, ho, hd⟩ := k2
     exact ⟨c, hc', oc, hk _ _ ho, hd⟩
 case cell =>
  obtain ⟨v, oc, ho, hd⟩ := I.cell x c (sub x c h)
  exact ⟨v, oc, hk _ _ ho, hd⟩
 case pin =>
  have hp' : p ∈ X.pn ++ pins := by simpa [cxC] using hp
  obtain ⟨p1, p2, p3, p4, p5⟩ := I.pin p hp'
  refine ⟨hk _ _ p1, p2, PK (Pv p1), fun z => ?_, p5⟩
  rcases Ps.mp (I.stkSub _ z) with e | e
  ·exact p3 e
  ·exact p4 e
 case len =>
  show (inn js σ).length = N.length
  unfold inn
  rw [Ph]
  exact ck.len
abbrev TIf := St -> Hp -> (Bool -> Hp -> Prop) -> Prop
def PIf (X : Cx) (ifs : List Expr) (t : TIf) : Prop :=
 ∀ (pins : List (Addr × Obj)) (s : Shared) (σ : St) (H : Hp) (Q : Bool -> Hp -> Prop), Inv X pins σ H s -> t σ H Q ->
  wpAny (model X.prog X.w) X.A (forIn ifs true fun c r => if r = true then do let ok ← isTrue c X.env (eval c X.env); pure (ForInStep.yield ok) else pure (ForInStep.yield r)) (TP X pins σ Q) X.xe s
def IY : TIf := fun _ H Q => Q true H
theorem bI : PIf X [] IY := fun _ _ _ H _ I h => wpAny_tests_nil ⟨H, I, h⟩
theorem yA {c : Expr} {t : TT} (h : PT X c t) : PIf X [c] t := fun pins s σ H Q I q => wpAny_tests_one (h pins s σ H Q I q)
def Lev (σ σ' : St) : Prop := σ.length = σ'.length /\ ∀ (i : Nat) (v : V), σ[i]? = some (some v) -> σ'[i]? = some (some v)
theorem Lev.refl (σ : St) : Lev σ σ := ⟨rfl, fun _ _ h => h⟩
def Cw (js : List (Option Nat)) (g : TG) : Prop := ∀ (σ0 : St) (v : V) (σ : St) (H : Hp) (Q : St -> Hp -> Prop), Lev (inn js σ0) σ -> g v σ H Q -> g v σ H fun σ' H' => Lev (inn js σ0) σ' /\ Q σ' H'
def Dl (js : List (Option Nat)) (g : TGs) : Prop := ∀ (σ0 : St) (vs : List V) (σ : St) (H : Hp) (Q : St -> Hp -> Prop), Lev (inn js σ0) σ -> g vs σ H Q -> g vs σ H fun σ' H' => Lev (inn js σ0) σ' /\ Q σ' H'
theorem aI {i : Nat} (h : js[i]? = some none := by rfl) : Cw js (jm i) := fun σ0 v σ H Q l q => by
 refine ⟨⟨?_, fun j u e => ?_⟩, q⟩
 ·rw [QF]; exact l.1
 ·by_cases hij : i = j
  ·subst hij
   unfold inn at e
   rw [PD, h] at e
   cases e
  ·rw [Qn hij]
   exact l.2 j u e
theorem bH : Dl js J6 := fun σ0 vs σ H Q l q => ⟨q.1, l, q.2⟩
theorem aE {t : TG} {u : TGs} (h : Cw js t) (k : Dl js u) (mono : ∀ v σ H (Q Q' : St -> Hp -> Prop), (∀ a b, Q a b -> Q' a b) -> t v σ H Q -> t v σ H Q') : Dl js (Hh t u) := fun σ0 vs σ H Q l q => by
 obtain ⟨v, r, e, q⟩ := q
 exact ⟨v, r, e, mono _ _ _ _ _ (fun σ' H' z => k σ0 r σ' H' Q z.1 z.2) (h σ0 v σ H _ l q)⟩
theorem aw {i : Nat} : ∀ v σ H (Q Q' : St -> Hp -> Prop), (∀ a b, Q a b -> Q' a b) -> jm i v σ H Q -> jm i v σ H Q' := fun _ _ _ _ _ h q => h _ _ q
theorem cG {K : W.Frag} {n : Nat} {t : TGs} (h : Dl js t) : Cw js (Kl K n t) := fun σ0 v σ H Q l q => by
 obtain ⟨a, xs, e, hq, hl, q⟩ := q
 exact ⟨a, xs, e, hq, hl, h σ0 xs σ H Q l q⟩
def Fv (js : List (Option Nat)) (wi : TI) (g : TG) (tt : TIf) (te : TE) : TE := fun σ H Q => wi σ H fun J H1 => ∀ D, H1 D = none -> ∃ W : Nat -> Nat -> Hp -> Prop, (∃ m, W 0 m (upd H1 D (.lst []))) /\ ∀ i m H, W i m H ->
 (J.stop i H /\ Q (.ref D) H) \/ (J.go i H /\ ∀ x H', J.yld i H x H' -> g x (inn js σ) H' fun σ2 H2 => tt σ2 H2 fun b H3 =>
  if b = true then te σ2 H3 fun y H4 => ∃ ys, H4 D = some (.lst ys) /\ ys.length < sizeLine /\ ∃ m', m' < m /\ W (i + 1) m' (upd H4 D (.lst (ys ++ [y]))) else ∃ m', m' < m /\ W (i + 1) m' H3)
variable {tg iter elt : Expr} {ifs : List Expr} {pos : Pos} {wi : TI} {g : TG} {tt : TIf} {te : TE}
theorem EY {E : Value -> Shared -> Prop} {R : Result -> Shared -> Prop} {it D : Addr} {fp : List Addr} {tn : Nat -> Heap -> Prop} {J : It} {z : CxZ} {W : Nat -> Nat -> Hp -> Prop} {n : Nat}
  (hc : X.calm = true) (T : Turn X.prog X.w X.K tg J fp it tn) (hz : ∀ b ∈ fp, ∀ H', H' b = none -> wx (cxC X N scope z) [] H' b)
  (hg : PG (cxC X N scope z) tg g) (hs : Cw js g) (ht : PIf (cxC X N scope z) ifs tt) (he : PE (cxC X N scope z) elt te)
  (turn : ∀ i m H, W i m H -> (J.stop i H /\ ∀ s', Inv (cxC X N scope z) [] (inn js σ) H s' -> R (.ok .next) s') \/ (J.go i H /\ ∀ x H', J.yld i H x H' -> g x (inn js σ) H' fun σ2 H2 => tt σ2 H2 fun b H3 =>
   if b = true then te σ2 H3 fun y H4 => ∃ ys, H4 D = some (.lst ys) /\ ys.length < sizeLine /\ ∃ m', m' < m /\ W (i + 1) m' (upd H4 D (.lst (ys ++ [y]))) else ∃ m', m' < m /\ W (i + 1) m' H3))
  {s1 : Shared} {H1 : Hp} (I1 : Inv (cxC X N scope z) [] (inn js σ) H1 s1) (t1 : tn 0 s1.heap) (f1 : ∀ b ∈ fp, H1 b = none) (w1 : W 0 n H1) :
  codeAny (model X.prog X.w) X.A (.compLoop (.ListComp elt [⟨tg, iter, ifs, 0⟩] scope pos) 0 (.ref it) (.ref D) (compEnvC scope z.cl z.C X.env)) R s1 := by
 refine codeAny_loop (c := .compLoop (.ListComp elt [⟨tg, iter, ifs, 0⟩] scope pos) 0 (.ref it) (.ref D) (compEnvC scope z.cl z.C X.env)) rfl
  (fun k s' => ∃ i H', Inv (cxC X N scope z) [] (inn js σ) H' s' /\ tn i s'.heap /\ (∀ b ∈ fp, H' b = none) /\ W i k H') ?_ n ⟨0, H1, I1, t1, f1, w1⟩
 rintro k s2 ⟨i, H2, I2, t2, f2, w2⟩
 show wpAny (model X.prog X.w) X.A ((compTurn (.ListComp elt [⟨tg, iter, ifs, 0⟩] scope pos) 0 (.ref it) (.ref D) (compEnvC scope z.cl z.C X.env)).onRaise fun x => do noteFrame x (compEnvC scope z.cl z.C X.env); theTreesLotGoes x) _ _ s2
 refine wpAny_noted ?_
 rw [compTurn_list]
 refine Pf (wpAny_standAt ?_)
 rcases turn i k H2 w2 with ⟨stop, fin⟩ | ⟨go, step⟩
 ·refine Pf (thn (T.done (cxC X N scope z) rfl rfl rfl hc i [] s2 (inn js σ) H2 _ I2 (fun b hb => hz b hb H2 (f2 b hb)) t2 stop) fun r s3 h3 => ?_)
  obtain ⟨rfl, I3⟩ := h3
  exact Pm (fin s3 I3)
 ·refine Pf (thn (T.item (cxC X N scope z) rfl rfl rfl hc i [] s2 (inn js σ) H2 _ I2 (fun b hb => hz b hb H2 (f2 b hb)) t2 go) fun r s3 h3 => ?_)
  obtain ⟨u, rfl, h3⟩ := h3
  refine Pf (thn h3 fun _ s4 h4 => ?_)
  obtain ⟨x, H4, I4, r4, y4, t4, f4⟩ := h4
  have P4 := I4.pinned (fun b hb => hz b hb H4 (f4 b hb)) (T.obj _ _ t4)
  have ff : ∀ {e : Value} {s' : Shared}, (cxC X N scope z).xe e s' -> False := fun h => h
  refine Pf (Qu (hg _ s4 (inn js σ) H4 x u _ P4 r4 (hs σ x (inn js σ) H4 _ (Lev.refl _) (step x H4 y4))) (fun _ s5 h5 => ?_) fun _ _ h => (ff h).elim)
  obtain ⟨σ5, H5, I5, lev, q5⟩ := h5
  refine Pf (Qu (ht _ s5 σ5 H5 _ I5 q5) (fun ok s6 h6 => ?_) fun _ _ h => (ff h).elim)
  obtain ⟨H6, I6, q6⟩ := h6
  have again : ∀ {s7 : Shared} {H7 : Hp}, Inv (cxC X N scope z) ([] ++ uA fp s4.heap) σ5 H7 s7 -> (∃ m', m' < k /\ W (i + 1) m' H7) -> ∃ m, m < k /\ ∃ i H', Inv (cxC X N scope z) [] (inn js σ) H' s7 /\ tn i s7.heap /\ (∀ b ∈ fp, H' b = none) /\ W i m H' := fun {s7 H7} I7 h7 => by
   obtain ⟨m', hm, w7⟩ := h7
   refine ⟨m', hm, i + 1, H7, (I7.unpinned).weak lev.1 lev.2, T.keep _ _ _ t4 fun b hb o e => (I7.pin (b, o) (Pr _ (Pr _ (kP hb e)))).1, fun b hb => ?_, w7⟩
   obtain ⟨o, e, d⟩ := T.obj _ _ t4 b hb
   exact (I7.pin (b, o) (Pr _ (Pr _ (kP hb e)))).2.1
  cases ok with
  | false =>
   rw [Pb (by decide)] at q6
   exact Pm ⟨rfl, again I6 q6⟩
  | true =>
   rw [Pa rfl] at q6
   refine Pf (Pf (Qu (he _ s6 σ5 H6 _ I6 q6) (fun y s7 h7 => ?_) fun _ _ h => (ff h).elim))
   obtain ⟨vy, H7, I7, r7, ys, hD, hl, q7⟩ := h7
   refine Pf (Qu (cI (X := cxC X N scope z) _ s7 σ5 H7 (.ref D) [vy] (.ref D) [y] (fun _ H' => ∃ m', m' < k /\ W (i + 1) m' H') I7 rfl (.cons r7 .nil) ⟨D, ys, vy, rfl, rfl, hD, hl, q7⟩) (fun _ s8 h8 => ?_) fun _ _ h => (ff h).elim)
   obtain ⟨_, H8, I8, _, q8⟩ := h8
   exact Pm (Pm ⟨rfl, again I8 q8⟩)
theorem uP {E : Value -> Shared -> Prop} {RR : Value -> Addr -> Result -> Shared -> Prop} {Q : VK} {itv : Value} {s2 : Shared} (ck : CmpOk XN sc scope N js) (hXN : X.N = XN) (hsc : X.env.scope = sc) (hc : X.calm = true)
  (hg : ∀ z, PG (cxC X N scope z) tg g) (hs : Cw js g) (ht : ∀ z, PIf (cxC X N scope z) ifs tt) (he : ∀ z, PE (cxC X N scope z) elt te)
  (h2 : PIE X pins σ tg (fun J H1 => ∀ D, H1 D = none -> ∃ W : Nat -> Nat -> Hp -> Prop, (∃ m, W 0 m (upd H1 D (.lst []))) /\ ∀ i m H, W i m H ->
   (J.stop i H /\ Q (.ref D) H) \/ (J.go i H /\ ∀ x H', J.yld i H x H' -> g x (inn js σ) H' fun σ2 H2 => tt σ2 H2 fun b H3 =>
    if b = true then te σ2 H3 fun y H4 => ∃ ys, H4 D = some (.lst ys) /\ ys.length < sizeLine /\ ∃ m', m' < m /\ W (i + 1) m' (upd H4 D (.lst (ys ++ [y]))) else ∃ m', m' < m /\ W (i + 1) m' H3)) itv s2)
  (hRR : ∀ D C s' H' m o, Inv X (pins ++ [(C, o)]) σ H' s' -> s'.heap.Ns C m -> (X.s₀.heap.objs.size <= C /\ C ≠ X.env.locals /\ (∀ x c, X.env.cells.lookup x = some c -> c ≠ C) /\ ∀ p ∈ X.pn ++ pins, p.1 ≠ C) -> H' C = none -> Q (.ref D) H' -> RR (.ref D) C (.ok .next) s') :
  wpAny (model X.prog X.w) X.A (newList []) (fun acc s₃ => wpAny (model X.prog X.w) X.A (newFunctionEnv scope X.env.globals (mN X.env scope.names []) [] X.env.qual none .none (some X.env)) (fun cenv s₄ =>
   codeAny (model X.prog X.w) X.A (.compStart (.ListComp elt [⟨tg, iter, ifs, 0⟩] scope pos) 0 itv acc { cenv with scope := relabel scope X.env }) (RR acc cenv.locals) s₄) E s₃) E s2 := by
 obtain ⟨it, fp, tn, J, H2, rfl, I2, T, t2, f2, q2⟩ := h2
 have fo : ∀ b ∈ fp, b < s2.heap.objs.size := fun b hb => by
  obtain ⟨o, e, _⟩ := T.obj _ _ t2 b hb
  exact Pv e
 have hD : H2 s2.heap.objs.size = none := I2.fresh
 obtain ⟨W, ⟨n, w0⟩, turn⟩ := q2 _ hD
 refine Qv (wpAny_newFunctionEnv ck.cell (by intro y hy; simp at hy) (fun h1 hns hsb => ?_) ck.kind)
 have I3 : Inv X pins σ (upd H2 s2.heap.objs.size (.lst [])) { s2 with heap := s2.heap.push { cls := .type "list", data := .seq ([] : List Value).toArray }, toks := s2.toks } := I2.lnew (its := []) .nil (PY _)
 have f3 : ∀ b ∈ fp, wx X pins (upd H2 s2.heap.objs.size (.lst [])) b := fun b hb => by
  obtain ⟨g0, g1⟩ := f2 b hb
  exact ⟨by rw [a9 (PK (fo b hb))]; exact g0, g1⟩
 have sz : (s2.heap.push { cls := .type "list", data := .seq ([] : List Value).toArray }).objs.size = s2.heap.objs.size + 1 := Re _ _
 have kept : ∀ b o, (s2.heap.push { cls := .type "list", data := .seq ([] : List Value).toArray }).get? b = some o -> h1.get? b = some o := fun b o e =>
  hsb.extBut b o (PK (Pv e)) (Px _ e)
 have I4 := FJ (tk := s2.toks + ([] : List (Str × Value)).length) ck hXN hsc I3 f3 (fun b hb => by show b < (s2.heap.push _).objs.size; rw [sz]; exact Rv (fo b hb)) hns kept
 have t4 : tn 0 h1 := T.keep _ _ _ t2 fun b hb o e => kept b o (Px _ e)
 have fz : ∀ b ∈ fp, ∀ H', H' b = none -> wx (cxC X N scope ⟨mN X.env scope.names [], (s2.heap.push { cls := .type "list", data := .seq ([] : List Value).toArray }).objs.size, { s2 with heap := s2.heap.push { cls := .type "list", data := .seq ([] : List Value).toArray }, toks := s2.toks }, upd H2 s2.heap.objs.size (.lst []), fp, pins⟩) [] H' b := fun b hb H' hn => by
  obtain ⟨g0, g1, g2, g3, g4, g5⟩ := f3 b hb
  refine ⟨hn, (I4.ok.exf b hb).1, I4.ok.exfs b hb, .inl hb, (I4.ok.exf b hb).2, fun p hp => ?_⟩
  exact g5 p (by simpa [cxC] using hp)
 have loop := EY (X := X) (σ := σ) (N := N) (scope := scope) (js := js) (iter := iter) (pos := pos) (E := E) (R := RR (.ref s2.heap.objs.size) (s2.heap.push { cls := .type "list", data := .seq ([] : List Value).toArray }).objs.size) (D := s2.heap.objs.size) (W := W) (n := n)
  hc T fz (hg _) hs (ht _) (he _) (fun i m H w => (turn i m H w).imp (fun a => ⟨a.1, fun s' Y => ?_⟩) id) I4 t4 (fun b hb => (f3 b hb).1) w0
 ·exact codeAny_compStart_list loop (T.self _ 0 _ _ _ t4 loop)
 ·have bb := Y.base
  have J0 : Inv X pins σ H s' := I3.call' Y.os bb Y.hok Y.bare fun b hb => by
   obtain ⟨g0, g1, g2, g3, g4, g5⟩ := f3 b hb
   exact ⟨g3, g1, g4, g5⟩
  obtain ⟨mC, nC, _⟩ := Y.loc
  obtain ⟨oC, eC, dC⟩ : ∃ o, s'.heap.get? (s2.heap.push { cls := .type "list", data := .seq ([] : List Value).toArray }).objs.size = some o /\ ∀ v, o.data ≠ .cell v := by
   obtain ⟨o, es, ep, ho, hd, _⟩ := nC
   exact ⟨o, ho, fun v z => by rw [hd] at z; cases z⟩
  have lC : X.s₀.heap.objs.size <= (s2.heap.push { cls := .type "list", data := .seq ([] : List Value).toArray }).objs.size := I3.sz
  have cC : (s2.heap.push { cls := .type "list", data := .seq ([] : List Value).toArray }).objs.size ≠ X.env.locals := Nat.ne_of_gt I3.lt
  have kC : ∀ x c, X.env.cells.lookup x = some c -> c ≠ (s2.heap.push { cls := .type "list", data := .seq ([] : List Value).toArray }).objs.size := fun x c e => by
   obtain ⟨v, q⟩ := I3.cell x c e
   exact PK q.lt
  have pC : ∀ p ∈ X.pn ++ pins, p.1 ≠ (s2.heap.push { cls := .type "list", data := .seq ([] : List Value).toArray }).objs.size := fun p hp => PK (Pv (I3.pin p hp).1)
  have J1 : Inv X (pins ++ [((s2.heap.push { cls := .type "list", data := .seq ([] : List Value).toArray }).objs.size, oC)]) σ H s' := J0.pins_of fun p hp => by
   rcases Pk.mp hp with hp | hp
   ·exact J0.pin p (Pr _ hp)
   ·rw [Pg.mp hp]
    exact ⟨eC, Y.free, cC, I3.nofs (Pi _), dC⟩
  exact hRR _ _ s' H mC oC J1 nC ⟨lC, cC, kC, pC⟩ Y.free a.2
theorem bD (ck : CmpOk XN sc scope N js) (hi : PI X tg iter wi) (hg : ∀ z, PG (cxC X N scope z) tg g) (hs : Cw js g) (ht : ∀ z, PIf (cxC X N scope z) ifs tt) (he : ∀ z, PE (cxC X N scope z) elt te)
  (hXN : X.N = XN := by rfl) (hsc : X.env.scope = sc := by rfl) (hc : X.calm = true := by rfl) (hf : ∀ x, foldedSetIterable iter X.env x = pure x := by intro _; rfl) :
  PE X (.ListComp elt [⟨tg, iter, ifs, 0⟩] scope pos) (Fv js wi g tt te) := by
 intro pins s σ H Q I h
 rw [eval_ListComp]
 have hcl : closureFor scope X.env = pure (mN X.env scope.names []) := uZ fun y hy hk => I.ok.has y.1 (by
  have := ck.free y hy hk
  rw [<- hsc] at this
  exact this)
 refine wpAny_comprehension_free (use := none) rfl hf hcl ck.kind ck.loc (thn (hi pins s σ H _ I h) fun v s1 h1 => thn h1 fun itv s2 h2 => ?_)
 refine uP (RR := fun acc C => compPost (model X.prog X.w) X.A X.xe none (EP X pins σ Q) acc C) ck hXN hsc hc hg hs ht he h2 ?_
 intro D C s' H' m o J nC hC fC q
 refine ⟨m, nC, fun h' sb => ⟨.ref D, H', ?_, rfl, q⟩⟩
 have J0 : Inv X pins σ H' s' := J.unpinned
 exact J0.turned (t' := s'.toks) (it := C) (fun b o hb e => sb.extBut b o hb e) fC hC.2.1 (.inr hC.1) hC.2.2.1 hC.2.2.2
theorem Dg {i : Nat} {y : Str} {pos' spos : Pos} (ck : CmpOk XN sc scope N js) (hN : X.N.Nodup) (hi0 : X.N[i]? = some y) (hx : Loc X.env.scope y) (hi : PI X tg iter wi) (hg : ∀ z, PG (cxC X N scope z) tg g) (hs : Cw js g) (ht : ∀ z, PIf (cxC X N scope z) ifs tt) (he : ∀ z, PE (cxC X N scope z) elt te)
  (hsw : swapsWith (.ListComp elt [⟨tg, iter, ifs, 0⟩] scope pos) (some (.Name y pos')) spos.line X.env = pure true := by rfl)
  (hXN : X.N = XN := by rfl) (hsc : X.env.scope = sc := by rfl) (hc : X.calm = true := by rfl) (hf : ∀ x, foldedSetIterable iter X.env x = pure x := by intro _; rfl)
  (hfn : X.fn y = true \/ X.env.scope.names.lookup y = some .local := by first | exact .inl rfl | exact .inr rfl | assumption) :
  PS X (.Assign [.Name y pos'] (.ListComp elt [⟨tg, iter, ifs, 0⟩] scope pos) spos) (zn (Fv js wi g tt te) (jm i)) := by
 intro pins s σ H D I h
 rw [exec_Assign_Name_used _ _ _ _ hsw]
 have hcl : closureFor scope X.env = pure (mN X.env scope.names []) := uZ fun y hy hk => I.ok.has y.1 (by
  have := ck.free y hy hk
  rw [<- hsc] at this
  exact this)
 refine Pf (wpAny_standAt (Pf ?_))
 show wpAny (model X.prog X.w) X.A (comprehension (.ListComp elt [⟨tg, iter, ifs, 0⟩] scope pos) scope X.env _ (newList []) false (eval iter X.env) (some (assign (.Name y pos') X.env)) >>= fun _ => pure ()) _ _ s
 refine Pf (thn (wpAny_comprehension_free (use := some (assign (.Name y pos') X.env)) (Q := fun _ s' => SP X pins D .next s') rfl hf hcl ck.kind ck.loc (thn (hi pins s σ H _ I h) fun v s1 h1 => thn h1 fun itv s2 h2 => ?_)) fun _ s' q => Pm (Pm q))
 refine uP (RR := fun acc C => compPost (model X.prog X.w) X.A X.xe (some (assign (.Name y pos') X.env)) (fun _ s' => SP X pins D .next s') acc C) (Q := fun x H1 => jm i x σ H1 D.nx) ck hXN hsc hc hg hs ht he h2 ?_
 intro A C s' H' m o J nC hC fC q
 refine thn (tK hN hi0 hx hfn _ s' σ H' (.ref A) (.ref A) _ J rfl q) fun _ s3 h3 => ?_
 obtain ⟨σ3, H3, J3, q3⟩ := h3
 have pc := J3.pin (C, o) (Pr _ (Pr _ Pl))
 have oC : s'.heap.get? C = some o := (J.pin (C, o) (Pr _ (Pr _ Pl))).1
 refine ⟨m, nC.at' fun o' e => ?_, fun h' sb => ⟨σ3, H3, ?_, q3⟩⟩
 ·rw [oC] at e
  cases e
  exact pc.1
 ·have J0 : Inv X pins σ3 H3 s3 := J3.unpinned
  exact J0.turned (t' := s3.toks) (it := C) (fun b o hb e => sb.extBut b o hb e) pc.2.1 hC.2.1 (.inr hC.1) hC.2.2.1 hC.2.2.2
end
end L2
namespace Srt
open PySem PySem.W PyProof.Rows
section
variable {α β : Type} (lt : Nat -> Nat -> Bool) (n : Nat)
end
section
variable {lt : Nat -> Nat -> Bool} {le : Nat -> Nat -> Prop} {n : Nat} {p : Array Nat}
abbrev at' (p : Array Nat) (i : Nat) : Nat := p.getD i 0
theorem A6 {p q : Array Nat} {i j : Nat} (h : p[i]? = q[j]?) : at' p i = at' q j := by
 have e : ∀ (r : Array Nat) (k : Nat), at' r k = (r[k]?).getD 0 := fun r k => by simp [at']
 rw [e, e, h]
def Asc (le : Nat -> Nat -> Prop) (p : Array Nat) (m : Nat) : Prop := ∀ i j, i <= j -> j < m -> le (at' p i) (at' p j)
def Bel (n : Nat) (p : Array Nat) : Prop := ∀ k, at' p k < n
structure Ord (lt : Nat -> Nat -> Bool) (le : Nat -> Nat -> Prop) : Prop where
 tr : ∀ a b c, le a b -> le b c -> le a c
 rf : ∀ a, le a a
 yes : ∀ a b, lt a b = true -> le a b
 no : ∀ a b, lt a b = false -> le b a
theorem Ky (hn : 0 < n) (hp : p.Perm (List.range n).toArray) : Bel n p := fun k => by
 have e : at' p k = (p[k]?).getD 0 := by simp [at']
 rw [e]
 cases h : p[k]? with
 | none => exact hn
 | some v =>
  have hm : v ∈ p := Array.mem_of_getElem? h
  have := (Rg.mp hp).mem_iff.mp (Array.mem_toList_iff.mpr hm)
  simpa using this
theorem cH {i j : Nat} (hj : j <= p.size) (k : Nat) : at' (kas_rev p i j) k = if i <= k /\ k < j then at' p (i + j - 1 - k) else at' p k := by
 have e := getElem?_mirror_all (i := i) hj k
 by_cases h : i <= k /\ k < j
 ·rw [Pa h] at e ⊢; exact A6 e
 ·rw [Pb h] at e ⊢; exact A6 e
variable {z : Nat}
theorem rM {src d : Nat} (hs : src < p.size) (hd : d <= src) (k : Nat) : at' (bubble p src d) k = if k = src - d then at' p src else if src - d < k /\ k <= src then at' p (k - 1) else at' p k := by
 have e := getElem?_bubble hs d hd k
 by_cases h1 : k = src - d
 ·rw [Pa h1] at e ⊢; exact A6 e
 ·rw [Pb h1] at e ⊢
  by_cases h2 : src - d < k /\ k <= src
  ·rw [Pa h2] at e ⊢; exact A6 e
  ·rw [Pb h2] at e ⊢; exact A6 e
end
theorem Bn {α : Type} {le : Nat -> Nat -> Prop} {p : Array Nat} {vs : List α} {d : α} (hp : p.Perm (List.range vs.length).toArray) (ha : Asc le p vs.length) :
  (p.toList.map fun i => vs.getD i d).Perm vs /\ ∀ R : α -> α -> Prop, (∀ i j, i < vs.length -> j < vs.length -> le i j -> R (vs.getD i d) (vs.getD j d)) -> (p.toList.map fun i => vs.getD i d).Pairwise R := by
 have hl : p.toList.Perm (List.range vs.length) := by simpa using Rg.mp hp
 constructor
 ·have h1 : (p.toList.map fun i => vs.getD i d).Perm ((List.range vs.length).map fun i => vs.getD i d) := hl.map _
  have h2 : ((List.range vs.length).map fun i => vs.getD i d) = vs := by
   apply List.ext_getElem
   ·simp
   ·intro i h1 h2; simp at h1; simp [h1]
  rw [h2] at h1
  exact h1
 ·intro R hR
  rw [Qq, QH]
  intro i j hi hj hij
  have hs : p.toList.length = vs.length := by rw [hl.length_eq]; simp
  have m : ∀ k (hk : k < p.toList.length), p.toList[k] < vs.length := fun k hk => by simpa using hl.mem_iff.mp (List.getElem_mem hk)
  have a : ∀ k (hk : k < p.toList.length), at' p k = p.toList[k] := fun k hk => by
   have : k < p.size := by simpa using hk
   simp [at', Array.getD, this]
  refine hR _ _ (m i hi) (m j hj) ?_
  rw [<- a i hi, <- a j hj]
  exact ha i j (Qh hij) (by lia)
def Hl : Bool -> Keyed -> Array Keyed -> Nat -> Nat -> Nat -> StateT SortSt Sem (Option Nat) := sortPriv% PySem.Builtin.gallop
def GO : Array Keyed -> Array Keyed -> StateT SortSt Sem (Array Keyed) := sortPriv% PySem.Builtin.mergeLo
def He : Array Keyed -> Array Keyed -> StateT SortSt Sem (Array Keyed) := sortPriv% PySem.Builtin.mergeHi
section
variable {prog : Program} {w : World} {A : Around} {E : Value -> Shared -> Prop} {s : Shared} {κ : SortKind} {it : Array Keyed} {n : Nat} {lt : Nat -> Nat -> Bool} {le : Nat -> Nat -> Prop}
def vU (prog : Program) (w : World) (A : Around) (s : Shared) (κ : SortKind) (it : Array Keyed) (n : Nat) (lt : Nat -> Nat -> Bool) : Prop :=
 ∀ i j (C : Bool -> Shared -> Prop), i < n -> j < n -> C (lt i j) s -> kas_cmp prog w A κ it i j C s
theorem w_lt (hc : vU prog w A s κ it n lt) {i j : Nat} {Q : Option Bool -> SortSt -> Prop} {st : SortSt} (hk : kindOf st = κ) (hi : i < n) (hj : j < n) (h : Q (some (lt i j)) st) : wpS (model prog w) A E s (lt' (kas_item it i) (kas_item it j)) Q st := by
 rw [lt'_eq]
 refine Pe (Qg ?_)
 rw [hk]
 refine Pe (QI (wpAny_attempt (Qu (hc i j (fun c s' => s' = s /\ c = lt i j) hi hj ⟨rfl, rfl⟩) (fun c s' h' => ?_) fun _ _ hF => hF.elim)))
 obtain ⟨rfl, rfl⟩ := h'
 exact ⟨rfl, Pc h⟩
theorem aP {X : Array Nat} {k : Nat} {Q : Keyed -> SortSt -> Prop} {st : SortSt} (hk : k < X.size) (h : Q (kas_item it (at' X k)) st) : wpS (model prog w) A E s (elem' (X.map (kas_item it)) k) Q st := by
 rw [elem'_eq]
 have e : at' X k = X[k] := by simp [at', hk]
 rw [e] at h
 have e2 : (X.map (kas_item it))[k]? = some (kas_item it X[k]) := by simp [hk]
 rw [e2]
 exact Pc h
theorem cV (o : Ord lt le) (hc : vU prog w A s κ it n lt) {left : Bool} {key : Nat} {X : Array Nat} {base m hint : Nat} {Q : Option Nat -> SortSt -> Prop} {st : SortSt} (hk : kindOf st = κ) (hb : ∀ i, i < X.size -> at' X i < n) (hkey : key < n)
  (hz : base + m <= X.size) (hh : hint < m) (hs : ∀ i j, i <= j -> j < m -> le (at' X (base + i)) (at' X (base + j)))
  (h : ∀ k, k <= m -> (∀ i, i < k -> le (at' X (base + i)) key) -> (∀ i, k <= i -> i < m -> le key (at' X (base + i))) -> Q (some k) st) :
  wpS (model prog w) A E s (Hl left (kas_item it key) (X.map (kas_item it)) base m hint) Q st := by
 have bey : ∀ i, i < m -> ∀ (R : Option Bool -> SortSt -> Prop), (∀ c, (c = true -> le (at' X (base + i)) key) -> (c = false -> le key (at' X (base + i))) -> R (some c) st) -> wpS (model prog w) A E s (do
   let x ← elem' (X.map (kas_item it)) (base + i)
   if left = true then lt' x (kas_item it key) else do
    let r ← lt' (kas_item it key) x
    pure (Option.map (fun x => !x) r)) R st := fun i hi R hR => by
  refine Pe (aP (by lia) ?_)
  have hx := hb (base + i) (by lia)
  cases left with
  | true =>
   rw [Pa rfl]
   exact w_lt hc hk hx hkey (hR _ (o.yes _ _) (o.no _ _))
  | false =>
   rw [Pb (by decide)]
   refine Pe (w_lt hc hk hkey hx (Pc ?_))
   refine hR _ (fun e => o.no _ _ (by simpa using e)) (fun e => o.yes _ _ (by simpa using e))
 have lo' : ∀ k, k < m -> le (at' X (base + k)) key -> ∀ i, i <= k -> le (at' X (base + i)) key := fun k hk hl i hi => o.tr _ _ _ (hs i k hi hk) hl
 have hi' : ∀ k, k < m -> le key (at' X (base + k)) -> ∀ i, k <= i -> i < m -> le key (at' X (base + i)) := fun k hk hl i hi him => o.tr _ _ _ hl (hs k i hi him)
 refine Pe (bey hint hh _ fun c c1 c2 => ?_)
 dsimp only
 cases c with
 | true =>
  rw [Pa rfl]
  refine Pe (PL (PM (I := fun x c st' => st' = st /\ ∃ l f, c = (none, l, f) /\ x + 1 <= f /\ hint + l < m /\ le (at' X (base + (hint + l))) key)
   (Q := fun c st' => st' = st /\ ∃ l f, c = (none, l, f) /\ hint + l < m /\ le (at' X (base + (hint + l))) key /\ (f < m - hint -> le key (at' X (base + (hint + f))))) ?s1 ?f1 ?i1) ?p1)
  case i1 => exact ⟨rfl, 0, 1, rfl, by lia, by lia, c1 rfl⟩
  case f1 =>
   rintro c st' ⟨rfl, l, f, rfl, h1, h2, h3⟩
   exact ⟨rfl, l, f, rfl, h2, h3, fun _ => by lia⟩
  case s1 =>
   rintro x c st' _ hx ⟨rfl, l, f, rfl, h1, h2, h3⟩
   dsimp only
   by_cases hge : f ≥ m - hint
   ·rw [Pa hge]
    exact Pc ⟨rfl, l, f, rfl, h2, h3, fun _ => by lia⟩
   ·rw [Pb hge]
    refine Pe (bey (hint + f) (by lia) _ fun c d1 d2 => ?_)
    dsimp only
    cases c with
    | true => exact Pc ⟨rfl, f, 2 * f + 1, rfl, by lia, by lia, d1 rfl⟩
    | false => exact Pc ⟨rfl, l, f, rfl, h2, h3, fun _ => d2 rfl⟩
  case p1 =>
   rintro c st' ⟨rfl, l, f, rfl, h2, h3, h4⟩
   dsimp only
   have g1 : ∀ i, i < hint + l + 1 -> i < m -> le (at' X (base + i)) key := fun i hi _ => lo' _ h2 h3 i (by lia)
   have g2 : ∀ i, hint + min f (m - hint) <= i -> i < m -> le key (at' X (base + i)) := fun i hi him => hi' (hint + f) (by lia) (h4 (by lia)) i (by lia) him
   have g3 : hint + min f (m - hint) <= m := by lia
   generalize hint + l + 1 = L at g1 ⊢
   generalize hint + min f (m - hint) = H at g2 g3 ⊢
   refine Pe (PL (PM (I := fun x c st2 => st2 = st' /\ ∃ l h, c = (none, l, h) /\ h <= m /\ h - l <= m - x /\ (∀ i, i < l -> i < m -> le (at' X (base + i)) key) /\ (∀ i, h <= i -> i < m -> le key (at' X (base + i))))
    (Q := fun c st2 => st2 = st' /\ ∃ l h, c = (none, l, h) /\ h <= m /\ h <= l /\ (∀ i, i < l -> i < m -> le (at' X (base + i)) key) /\ (∀ i, h <= i -> i < m -> le key (at' X (base + i)))) ?s2 ?f2 ?i2) ?p2)
   case i2 => exact ⟨rfl, L, H, rfl, g3, by lia, g1, g2⟩
   case f2 =>
    rintro c st2 ⟨rfl, l, h, rfl, k1, k2, k3, k4⟩
    exact ⟨rfl, l, h, rfl, k1, by lia, k3, k4⟩
   case s2 =>
    rintro x c st2 _ hx ⟨rfl, l, h, rfl, k1, k2, k3, k4⟩
    dsimp only
    by_cases hge : l ≥ h
    ·rw [Pa hge]
     exact Pc ⟨rfl, l, h, rfl, k1, hge, k3, k4⟩
    ·rw [Pb hge]
     refine Pe (bey (l + (h - l) / 2) (by lia) _ fun c d1 d2 => ?_)
     dsimp only
     cases c with
     | true => exact Pc ⟨rfl, _, _, rfl, k1, by lia, fun i hi him => lo' _ (by lia) (d1 rfl) i (by lia), k4⟩
     | false => exact Pc ⟨rfl, _, _, rfl, by lia, by lia, k3, fun i hi him => hi' _ (by lia) (d2 rfl) i hi him⟩
   case p2 =>
    rintro c st2 ⟨rfl, l, h', rfl, k1, k2, k3, k4⟩
    exact Pc (h h' k1 (fun i hi => k3 i (by lia) (by lia)) k4)
 | false =>
  rw [Pb (by decide)]
  refine Pe (PL (PM (I := fun x c st' => st' = st /\ ∃ l f, c = (none, l, f) /\ x + 1 <= f /\ l <= hint /\ le key (at' X (base + (hint - l))))
   (Q := fun c st' => st' = st /\ ∃ l f, c = (none, l, f) /\ l <= hint /\ le key (at' X (base + (hint - l))) /\ (f < hint + 1 -> le (at' X (base + (hint - f))) key)) ?s1 ?f1 ?i1) ?p1)
  case i1 => exact ⟨rfl, 0, 1, rfl, by lia, by lia, c2 rfl⟩
  case f1 =>
   rintro c st' ⟨rfl, l, f, rfl, h1, h2, h3⟩
   exact ⟨rfl, l, f, rfl, h2, h3, fun _ => by lia⟩
  case s1 =>
   rintro x c st' _ hx ⟨rfl, l, f, rfl, h1, h2, h3⟩
   dsimp only
   by_cases hge : f ≥ hint + 1
   ·rw [Pa hge]
    exact Pc ⟨rfl, l, f, rfl, h2, h3, fun _ => by lia⟩
   ·rw [Pb hge]
    refine Pe (bey (hint - f) (by lia) _ fun c d1 d2 => ?_)
    dsimp only
    cases c with
    | true => exact Pc ⟨rfl, l, f, rfl, h2, h3, fun _ => d1 rfl⟩
    | false => exact Pc ⟨rfl, f, 2 * f + 1, rfl, by lia, by lia, d2 rfl⟩
  case p1 =>
   rintro c st' ⟨rfl, l, f, rfl, h2, h3, h4⟩
   dsimp only
   have g1 : ∀ i, i < hint + 1 - min f (hint + 1) -> i < m -> le (at' X (base + i)) key := fun i hi _ => lo' (hint - f) (by lia) (h4 (by lia)) i (by lia)
   have g2 : ∀ i, hint - l <= i -> i < m -> le key (at' X (base + i)) := fun i hi him => hi' (hint - l) (by lia) h3 i (by lia) him
   have g3 : hint - l <= m := by lia
   generalize hint + 1 - min f (hint + 1) = L at g1 ⊢
   generalize hint - l = H at g2 g3 ⊢
   refine Pe (PL (PM (I := fun x c st2 => st2 = st' /\ ∃ l h, c = (none, l, h) /\ h <= m /\ h - l <= m - x /\ (∀ i, i < l -> i < m -> le (at' X (base + i)) key) /\ (∀ i, h <= i -> i < m -> le key (at' X (base + i))))
    (Q := fun c st2 => st2 = st' /\ ∃ l h, c = (none, l, h) /\ h <= m /\ h <= l /\ (∀ i, i < l -> i < m -> le (at' X (base + i)) key) /\ (∀ i, h <= i -> i < m -> le key (at' X (base + i)))) ?s2 ?f2 ?i2) ?p2)
   case i2 => exact ⟨rfl, L, H, rfl, g3, by lia, g1, g2⟩
   case f2 =>
    rintro c st2 ⟨rfl, l, h, rfl, k1, k2, k3, k4⟩
    exact ⟨rfl, l, h, rfl, k1, by lia, k3, k4⟩
   case s2 =>
    rintro x c st2 _ hx ⟨rfl, l, h, rfl, k1, k2, k3, k4⟩
    dsimp only
    by_cases hge : l ≥ h
    ·rw [Pa hge]
     exact Pc ⟨rfl, l, h, rfl, k1, hge, k3, k4⟩
    ·rw [Pb hge]
     refine Pe (bey (l + (h - l) / 2) (by lia) _ fun c d1 d2 => ?_)
     dsimp only
     cases c with
     | true => exact Pc ⟨rfl, _, _, rfl, k1, by lia, fun i hi him => lo' _ (by lia) (d1 rfl) i (by lia), k4⟩
     | false => exact Pc ⟨rfl, _, _, rfl, by lia, by lia, k3, fun i hi him => hi' _ (by lia) (d2 rfl) i hi him⟩
   case p2 =>
    rintro c st2 ⟨rfl, l, h', rfl, k1, k2, k3, k4⟩
    exact Pc (h h' k1 (fun i hi => k3 i (by lia) (by lia)) k4)
end
end Srt
namespace Srt
section
variable {le : Nat -> Nat -> Prop} {tot out ra rb xs : List Nat}
def Inv (le : Nat -> Nat -> Prop) (tot out ra rb : List Nat) : Prop := (out ++ ra).Pairwise le /\ (out ++ rb).Pairwise le /\ (out ++ (ra ++ rb)).Perm tot
theorem Inv.symm (h : Inv le tot out ra rb) : Inv le tot out rb ra := ⟨h.2.1, h.1, (List.Perm.append_left _ List.perm_append_comm).trans h.2.2⟩
theorem Inv.block (h : Inv le tot out (xs ++ ra) rb) (k : ∀ x ∈ xs, ∀ y ∈ rb, le x y) : Inv le tot (out ++ xs) ra rb := by
 obtain ⟨h1, h2, h3⟩ := h
 refine ⟨by rw [PQ]; exact h1, ?_, by rw [PQ, <- PQ xs]; exact h3⟩
 rw [PP] at h1 h2
 rw [PQ, PP]
 obtain ⟨a1, a2, a3⟩ := h1
 obtain ⟨b1, b2, b3⟩ := h2
 rw [PP] at a2
 refine ⟨a1, PP.mpr ⟨a2.1, b2, k⟩, fun x hx y hy => ?_⟩
 rcases Pk.mp hy with hy | hy
 ·exact a3 x hx y (Po _ hy)
 ·exact b3 x hx y hy
theorem Inv.doneA (h : Inv le tot out ra []) : (out ++ ra).Pairwise le /\ (out ++ ra).Perm tot := ⟨h.1, by have := h.2.2; rwa [P5] at this⟩
theorem Inv.lastA {x : Nat} (h : Inv le tot out [x] rb) (k : ∀ y ∈ rb, le y x) : (out ++ (rb ++ [x])).Pairwise le /\ (out ++ (rb ++ [x])).Perm tot := by
 refine ⟨?_, (List.Perm.append_left _ List.perm_append_comm).trans h.2.2⟩
 obtain ⟨h1, h2, _⟩ := h
 rw [PP] at h1 h2
 rw [PP]
 refine ⟨h1.1, PP.mpr ⟨h2.2.1, QJ _ _, fun y hy z hz => ?_⟩, fun a ha b hb => ?_⟩
 ·rw [Pg] at hz; subst hz; exact k y hy
 ·rcases Pk.mp hb with hb | hb
  ·exact h2.2.2 a ha b hb
  ·exact h1.2.2 a ha b hb
end
section
variable {X Y O : Array Nat} {le : Nat -> Nat -> Prop} {tot : List Nat}
theorem Js {i : Nat} (h : i < X.size) : at' X i = X[i] := by simp [at', h]
theorem ku {i : Nat} (h : i < X.size) : X.toList[i]'(by simpa using h) = at' X i := by rw [Js h]; simp
theorem y7 {i : Nat} (h : i < X.size) : X.toList.drop i = at' X i :: X.toList.drop (i + 1) := by
 rw [Rh (by simpa using h), ku h]
theorem pj {i j : Nat} (h : i <= j) : X.toList.drop i = (X.extract i j).toList ++ X.toList.drop j := by
 rw [Ri, Rj]
 have e : X.toList.drop j = (X.toList.drop i).drop (j - i) := by rw [List.drop_drop]; congr 1; lia
 rw [e, RM]
theorem vz {i x : Nat} (h : x ∈ X.toList.drop i) : ∃ j, i <= j /\ j < X.size /\ at' X j = x := by
 obtain ⟨k, hk⟩ := Qk h
 rw [Rk] at hk
 obtain ⟨h1, h2⟩ := Pw.mp hk
 have h1' : i + k < X.size := by simpa using h1
 exact ⟨i + k, by lia, h1', by rw [<- ku h1']; exact h2⟩
theorem tj {i j x : Nat} (h : x ∈ (X.extract i j).toList) : ∃ k, i <= k /\ k < j /\ k < X.size /\ at' X k = x := by
 obtain ⟨k, hk⟩ := Qk h
 rw [Ri, Rj, Rx] at hk
 split at hk
 ·rw [Rk] at hk
  obtain ⟨h1, h2⟩ := Pw.mp hk
  have h1' : i + k < X.size := by simpa using h1
  exact ⟨i + k, by lia, by lia, h1', by rw [<- ku h1']; exact h2⟩
 ·cases hk
abbrev J (le : Nat -> Nat -> Prop) (tot : List Nat) (X Y O : Array Nat) (ia ib : Nat) : Prop := Inv le tot O.toList (X.toList.drop ia) (Y.toList.drop ib)
variable {ia ib : Nat}
theorem J.one (j : J le tot X Y O ia ib) (h : ia < X.size) (k : ∀ i, ib <= i -> i < Y.size -> le (at' X ia) (at' Y i)) : J le tot X Y (O.push (at' X ia)) (ia + 1) ib := by
 unfold J at j ⊢
 rw [y7 h] at j
 have := Inv.block (xs := [at' X ia]) j (fun x hx y hy => by
  rw [Pg] at hx
  subst hx
  obtain ⟨i, h1, h2, rfl⟩ := vz hy
  exact k i h1 h2)
 rwa [Q6]
theorem J.blk {m : Nat} (j : J le tot X Y O ia ib) (k : ∀ i l, ia <= i -> i < ia + m -> i < X.size -> ib <= l -> l < Y.size -> le (at' X i) (at' Y l)) : J le tot X Y (O ++ X.extract ia (ia + m)) (ia + m) ib := by
 unfold J at j ⊢
 rw [pj (j := ia + m) (by lia)] at j
 have := Inv.block j (fun x hx y hy => by
  obtain ⟨i, h1, h2, h3, rfl⟩ := tj hx
  obtain ⟨l, h4, h5, rfl⟩ := vz hy
  exact k i l h1 h2 h3 h4 h5)
 rwa [QV]
theorem J.sy (j : J le tot X Y O ia ib) : J le tot Y X O ib ia := Inv.symm j
abbrev lL (le : Nat -> Nat -> Prop) (tot : List Nat) (R : Array Nat) : Prop := R.toList.Pairwise le /\ R.toList.Perm tot
theorem J.done1 (j : J le tot X Y O ia ib) (h : Y.size <= ib) (h2 : ia <= X.size) : lL le tot (O ++ X.extract ia X.size ++ Y.extract ib Y.size) := by
 unfold J at j
 rw [QW (l := Y.toList) (by simpa using h)] at j
 have e : (Y.extract ib Y.size) = #[] := by simp; lia
 have e2 : X.toList.drop ia = (X.extract ia X.size).toList := by rw [pj h2]; simp
 rw [e, Array.append_empty]
 unfold lL
 rw [QV, <- e2]
 exact j.doneA
theorem J.done2 (j : J le tot X Y O ia ib) (h : X.size <= ia) (h2 : ib <= Y.size) : lL le tot (O ++ X.extract ia X.size ++ Y.extract ib Y.size) := by
 have e : (X.extract ia X.size) = #[] := by simp; lia
 have := j.sy.done1 h h2
 rw [e, Array.append_empty] at this ⊢
 exact this
theorem J.last (j : J le tot X Y O ia ib) (h : ia + 1 = X.size) (h2 : ib <= Y.size) (k : ∀ i, i < Y.size -> le (at' Y i) (at' X ia)) : lL le tot (O ++ Y.extract ib Y.size ++ X.extract ia X.size) := by
 unfold J at j
 rw [y7 (by lia), QW (l := X.toList) (i := ia + 1) (by simp; lia)] at j
 have := j.lastA fun y hy => by
  obtain ⟨i, h1, h2, rfl⟩ := vz hy
  exact k i h2
 have e : (X.extract ia X.size).toList = [at' X ia] := by
  have e2 : X.toList.drop ia = (X.extract ia X.size).toList := by rw [pj (j := X.size) (by lia)]; simp
  rw [<- e2, y7 (by lia), QW (l := X.toList) (i := ia + 1) (by simp; lia)]
 have e3 : Y.toList.drop ib = (Y.extract ib Y.size).toList := by rw [pj h2]; simp
 unfold lL
 rw [QV, QV, e, <- e3, PQ]
 exact this
end
end Srt
namespace Srt
open PySem PySem.W PyProof.Rows
section
variable {prog : Program} {w : World} {A : Around} {E : Value -> Shared -> Prop} {s : Shared} {κ : SortKind} {it : Array Keyed} {n : Nat} {lt : Nat -> Nat -> Bool} {le : Nat -> Nat -> Prop}
def Same (κ : SortKind) (st st' : SortSt) : Prop := kindOf st' = κ /\ arrOf st' = arrOf st /\ pendingOf st' = pendingOf st /\ failedOf st' = failedOf st
theorem Same.g {st st2 : SortSt} (h : Same κ st st2) (g : Nat) : Same κ st (SortSt.mk' (kindOf st2) (arrOf st2) (pendingOf st2) g (failedOf st2)) := h
theorem bW {σ α : Type} {M : Model} {c : Prop} [Decidable c] {a b : StateT σ Sem α} {Q : α -> σ -> Prop} {st : σ} (h1 : wpS M A E s a Q st) (h2 : wpS M A E s b Q st) : wpS M A E s (if c then a else b) Q st := by
 by_cases h : c
 ·rw [Pa h]; exact h1
 ·rw [Pb h]; exact h2
theorem exm (f : Nat -> Keyed) (Z : Array Nat) : (Z.map f).extract 0 Z.size = Z.map f := by
 have : Z.size = (Z.map f).size := by simp
 rw [this]; simp
theorem C7 {X : Array Nat} (h : ∀ i j, i <= j -> j < X.size -> le (at' X i) (at' X j)) : X.toList.Pairwise le := by
 rw [QH]
 intro i j hi hj hij
 have h2 : j < X.size := by simpa using hj
 rw [ku (by lia), ku h2]
 exact h i j (by lia) h2
theorem EN (o : Ord lt le) (hc : vU prog w A s κ it n lt) {X Y : Array Nat} {Q : Array Keyed -> SortSt -> Prop} {st : SortSt} (hk : kindOf st = κ) (hx : ∀ i, i < X.size -> at' X i < n) (hy : ∀ i, i < Y.size -> at' Y i < n)
  (x1 : 1 <= X.size) (y1 : 1 <= Y.size) (sx : ∀ i j, i <= j -> j < X.size -> le (at' X i) (at' X j)) (sy : ∀ i j, i <= j -> j < Y.size -> le (at' Y i) (at' Y j)) (hf : ∀ i, i < X.size -> le (at' Y 0) (at' X i)) (hl : ∀ i, i < Y.size -> le (at' Y i) (at' X (X.size - 1)))
  (h : ∀ R st', Same κ st st' -> lL le (X.toList ++ Y.toList) R -> Q (R.map (kas_item it)) st') :
  wpS (model prog w) A E s (GO (X.map (kas_item it)) (Y.map (kas_item it))) Q st := by
 have sm0 : Same κ st st := ⟨hk, rfl, rfl, rfl⟩
 have j0 : J le (X.toList ++ Y.toList) X Y #[] 0 0 := ⟨by simpa using C7 sx, by simpa using C7 sy, by simp⟩
 have j1 : J le (X.toList ++ Y.toList) X Y #[at' Y 0] 0 1 := (j0.sy.one (by lia) fun i _ h2 => hf i h2).sy
 refine Pe (QI (Qz ⟨rfl, ?_⟩))
 refine Pe (aP (by lia) ?_)
 dsimp only
 simp only [Array.size_map, Qo]
 by_cases e1 : 1 = Y.size
 ·rw [Pa e1]
  refine Pc ?_
  have := h _ st sm0 (j1.done1 (by lia) (by lia))
  simpa [exm] using this
 rw [Pb e1]
 by_cases e2 : 0 + 1 = X.size
 ·rw [Pa e2]
  refine Pc ?_
  have := h _ st sm0 (j1.last (by lia) (by lia) fun i hi => by have := hl i hi; rwa [show X.size - 1 = 0 by lia] at this)
  simpa [exm] using this
 rw [Pb e2]
 refine Pe (Qg ?_)
 refine Pe (PL (PM (I := fun x c st2 => Same κ st st2 /\ ∃ O ia ib g, c = (none, O.map (kas_item it), ia, ib, g) /\ ia + 1 < X.size /\ ib < Y.size /\ x + 1 <= ia + ib /\ J le (X.toList ++ Y.toList) X Y O ia ib)
  (Q := fun c st2 => ∃ R, c.1 = some (R.map (kas_item it)) /\ lL le (X.toList ++ Y.toList) R /\ Same κ st st2) ?s1 ?f1 ?i1) ?p1)
 case i1 => exact ⟨sm0, #[at' Y 0], 0, 1, _, by simp; rfl, by lia, by lia, by lia, j1⟩
 case f1 =>
  rintro c st2 ⟨sm, O, ia, ib, g, rfl, la, lb, ls, j⟩
  lia
 case p1 =>
  rintro ⟨c, c'⟩ st2 ⟨R, hc1, hR, sm⟩
  dsimp only at hc1
  subst hc1
  exact Pc (h R st2 sm hR)
 case s1 =>
  rintro x c st2 _ hx0 ⟨sm, O, ia, ib, g, rfl, la, lb, ls, j⟩
  dsimp only
  -- one by one
  refine Pe (PL (PM (I := fun y c st2 => Same κ st st2 /\ ∃ O ia ib a b, c = (none, O.map (kas_item it), ia, ib, a, b) /\ ia + 1 < X.size /\ ib < Y.size /\ x + 1 + y <= ia + ib /\ J le (X.toList ++ Y.toList) X Y O ia ib)
   (Q := fun c st2 => (∃ R, c.1 = some (R.map (kas_item it)) /\ lL le (X.toList ++ Y.toList) R /\ Same κ st st2) \/ (Same κ st st2 /\ ∃ O ia ib a b, c = (none, O.map (kas_item it), ia, ib, a, b) /\ ia + 1 < X.size /\ ib < Y.size /\ x + 1 + 1 <= ia + ib /\ J le (X.toList ++ Y.toList) X Y O ia ib)) ?s2 ?f2 ?i2) ?p2)
  case i2 => exact ⟨sm, O, ia, ib, 0, 0, rfl, la, lb, ls, j⟩
  case f2 =>
   rintro c st2 ⟨sm, O, ia, ib, a, b, rfl, la, lb, ls, j⟩
   lia
  case s2 =>
   clear la lb ls j sm
   rintro y c st2 _ hy0 ⟨sm, O, ia, ib, a, b, rfl, la, lb, ls, j⟩
   dsimp only
   refine Pe (aP lb ?_)
   refine Pe (aP (by lia) ?_)
   refine Pe (w_lt hc sm.1 (hy ib lb) (hx ia (by lia)) ?_)
   dsimp only
   cases cw : lt (at' Y ib) (at' X ia) with
   | true =>
    rw [Pa rfl]
    have l0 := o.yes _ _ cw
    have j2 : J le (X.toList ++ Y.toList) X Y (O.push (at' Y ib)) ia (ib + 1) := (j.sy.one lb fun i h1 h2 => o.tr _ _ _ l0 (sx _ _ h1 h2)).sy
    refine Pe (aP lb ?_)
    by_cases e3 : ib + 1 = Y.size
    ·rw [Pa e3]
     refine Pc (.inl ⟨(O.push (at' Y ib)) ++ X.extract ia X.size ++ Y.extract (ib + 1) Y.size, ?_, j2.done1 (by lia) (by lia), sm⟩)
     simp
    ·rw [Pb e3]
     refine bW ?_ ?_
     ·exact Pc (.inr ⟨sm, O.push (at' Y ib), ia, ib + 1, _, _, by rw [QK], by lia, by lia, by lia, j2⟩)
     ·exact Pc ⟨sm, O.push (at' Y ib), ia, ib + 1, _, _, by rw [QK], by lia, by lia, by lia, j2⟩
   | false =>
    rw [Pb (by decide)]
    have l0 := o.no _ _ cw
    have j2 := j.one (by lia) fun i h1 h2 => o.tr _ _ _ l0 (sy _ _ h1 h2)
    refine Pe (aP (by lia) ?_)
    by_cases e3 : ia + 1 + 1 = X.size
    ·rw [Pa e3]
     refine Pc (.inl ⟨(O.push (at' X ia)) ++ Y.extract ib Y.size ++ X.extract (ia + 1) X.size, ?_, j2.last (by lia) (by lia) (fun i hi => by have := hl i hi; rwa [show X.size - 1 = ia + 1 by lia] at this), sm⟩)
     simp
    ·rw [Pb e3]
     refine bW ?_ ?_
     ·exact Pc (.inr ⟨sm, O.push (at' X ia), ia + 1, ib, _, _, by rw [QK], by lia, by lia, by lia, j2⟩)
     ·exact Pc ⟨sm, O.push (at' X ia), ia + 1, ib, _, _, by rw [QK], by lia, by lia, by lia, j2⟩
  case p2 =>
   clear la lb ls j sm
   rintro ⟨c, c'⟩ st2 (⟨R, hc1, hR, sm⟩ | ⟨sm, O, ia, ib, a, b, hcc, la, lb, ls, j⟩)
   ·dsimp only at hc1
    subst hc1
    exact Pc ⟨R, rfl, hR, sm⟩
   cases hcc
   dsimp only
   refine Pe (QI (Qz ⟨rfl, ?_⟩))
   have hst : ∃ bo, bo = x + 1 + 1 := ⟨_, rfl⟩
   obtain ⟨bo, hst⟩ := hst
   rw [<- hst] at ls
   refine Pe (PL (PM (I := fun y c st2 => Same κ st st2 /\ ∃ O ia ib m a b, c = (none, O.map (kas_item it), ia, ib, m, a, b) /\ ia + 1 < X.size /\ ib < Y.size /\ bo <= ia + ib /\ J le (X.toList ++ Y.toList) X Y O ia ib)
    (Q := fun c st2 => (∃ R, c.1 = some (R.map (kas_item it)) /\ lL le (X.toList ++ Y.toList) R /\ Same κ st st2) \/ (Same κ st st2 /\ ∃ O ia ib m a b, c = (none, O.map (kas_item it), ia, ib, m, a, b) /\ ia + 1 < X.size /\ ib < Y.size /\ bo <= ia + ib /\ J le (X.toList ++ Y.toList) X Y O ia ib)) ?s3 ?f3 ?i3) ?p3)
   case i3 => exact ⟨sm, O, ia, ib, _, _, _, rfl, la, lb, ls, j⟩
   case f3 => exact fun c st2 h => .inr h
   case p3 =>
    clear la lb ls j sm
    rintro ⟨c, c'⟩ st2 (⟨R, hc1, hR, sm⟩ | ⟨sm, O, ia, ib, m, a, b, hcc, la, lb, ls, j⟩)
    ·dsimp only at hc1
     subst hc1
     exact Pc ⟨R, rfl, hR, sm⟩
    cases hcc
    dsimp only
    refine Pe (P6 (Pc ?_))
    exact ⟨sm.g _, O, ia, ib, _, rfl, la, lb, by lia, j⟩
   case s3 =>
    clear la lb ls j sm
    rintro y c st2 _ hy0 ⟨sm, O, ia, ib, m, a, b, rfl, la, lb, ls, j⟩
    dsimp only
    by_cases hm : m > 1
    ·rw [Pa hm]
     refine Pe (P6 ?_)
     replace sm := sm.g (m - 1)
     refine Pe (aP lb ?_)
     refine Pe (cV o hc sm.1 hx (hy ib lb) (by lia) (by lia) (fun i k h1 h2 => sx _ _ (by lia) (by lia)) fun k k1 k2 k3 => ?_)
     dsimp only
     have k2' : ∀ i, ia <= i -> i < ia + k -> le (at' X i) (at' Y ib) := fun i h1 h2 => by
      have := k2 (i - ia) (by lia)
      rwa [show ia + (i - ia) = i by lia] at this
     have ky : ∀ i, ia + k <= i -> i < X.size -> le (at' Y ib) (at' X i) := fun i h1 h2 => by
      have := k3 (i - ia) (by lia) (by lia)
      rwa [show ia + (i - ia) = i by lia] at this
     by_cases k0 : k > 0
     ·rw [Pa k0]
      replace j := j.blk (m := k) fun i l h1 h2 h3 h4 h5 => o.tr _ _ _ (k2' i h1 h2) (sy _ _ h4 h5)
      have eO : O.map (kas_item it) ++ (X.map (kas_item it)).extract ia (ia + k) = (O ++ X.extract ia (ia + k)).map (kas_item it) := by simp
      rw [eO]
      by_cases e1 : ia + k + 1 = X.size
      ·rw [Pa e1]
       refine Pc (.inl ⟨O ++ X.extract ia (ia + k) ++ Y.extract ib Y.size ++ X.extract (ia + k) X.size, ?_, j.last (by lia) (by lia) (fun i hi => by have := hl i hi; rwa [show X.size - 1 = ia + k by lia] at this), sm⟩)
       simp
      rw [Pb e1]
      by_cases e2 : ia + k = X.size
      ·rw [Pa e2]
       refine Pc (.inl ⟨O ++ X.extract ia (ia + k) ++ X.extract (ia + k) X.size ++ Y.extract ib Y.size, ?_, j.done2 (by lia) (by lia), sm⟩)
       simp
      rw [Pb e2]
      have la2 : ia + k + 1 < X.size := by lia
      have ls2 : bo <= ia + k + ib := by lia
      clear k2' k2 k3 eO e1 e2
      generalize O ++ X.extract ia (ia + k) = O at j ⊢
      generalize hia : ia + k = ia at j la2 ls2 ky ⊢
      clear la ls k1 hia
      rename_i ia0 _
      clear k0
      have la := la2
      have ls := ls2
      -- y0
      refine Pe (aP lb ?_)
      have j2 : J le (X.toList ++ Y.toList) X Y (O.push (at' Y ib)) ia (ib + 1) := (j.sy.one lb fun i h1 h2 => ky i h1 h2).sy
      by_cases e3 : ib + 1 = Y.size
      ·rw [Pa e3]
       refine Pc (.inl ⟨(O.push (at' Y ib)) ++ X.extract ia X.size ++ Y.extract (ib + 1) Y.size, ?_, j2.done1 (by lia) (by lia), sm⟩)
       simp
      ·rw [Pb e3]
       refine Pe (aP (by lia) ?_)
       refine Pe (cV o hc sm.1 hy (hx ia (by lia)) (by lia) (by lia) (fun i k h1 h2 => sy _ _ (by lia) (by lia)) fun k k1 k2 k3 => ?_)
       dsimp only
       have k2' : ∀ i, ib + 1 <= i -> i < ib + 1 + k -> le (at' Y i) (at' X ia) := fun i h1 h2 => by
        have := k2 (i - (ib + 1)) (by lia)
        rwa [show ib + 1 + (i - (ib + 1)) = i by lia] at this
       have k3' : ∀ i, ib + 1 + k <= i -> i < Y.size -> le (at' X ia) (at' Y i) := fun i h1 h2 => by
        have := k3 (i - (ib + 1)) (by lia) (by lia)
        rwa [show ib + 1 + (i - (ib + 1)) = i by lia] at this
       have j3 : J le (X.toList ++ Y.toList) X Y (O.push (at' Y ib) ++ Y.extract (ib + 1) (ib + 1 + k)) ia (ib + 1 + k) := (j2.sy.blk fun i l h1 h2 h3 h4 h5 => o.tr _ _ _ (k2' i h1 h2) (sx _ _ h4 h5)).sy
       by_cases k0 : k > 0
       ·rw [Pa k0]
        by_cases e4 : ib + 1 + k = Y.size
        ·rw [Pa e4]
         refine Pc (.inl ⟨(O.push (at' Y ib)) ++ Y.extract (ib + 1) (ib + 1 + k) ++ X.extract ia X.size ++ Y.extract (ib + 1 + k) Y.size, ?_, j3.done1 (by lia) (by lia), sm⟩)
         simp
        ·rw [Pb e4]
         refine Pe (aP (by lia) ?_)
         have j4 := j3.one (by lia) fun i h1 h2 => k3' i h1 h2
         by_cases e5 : ia + 1 + 1 = X.size
         ·rw [Pa e5]
          refine Pc (.inl ⟨(O.push (at' Y ib) ++ Y.extract (ib + 1) (ib + 1 + k)).push (at' X ia) ++ Y.extract (ib + 1 + k) Y.size ++ X.extract (ia + 1) X.size, ?_, j4.last (by lia) (by lia) (fun i hi => by have := hl i hi; rwa [show X.size - 1 = ia + 1 by lia] at this), sm⟩)
          simp
         ·rw [Pb e5]
          have fin : ∀ m c d, ∃ O' ia' ib' m' c' d', ((none, ((O.map (kas_item it)).push (kas_item it (at' Y ib)) ++ (Y.map (kas_item it)).extract (ib + 1) (ib + 1 + k)).push (kas_item it (at' X ia)), ia + 1, ib + 1 + k, m, c, d) : Option (Array Keyed) × Array Keyed × Nat × Nat × Nat × Nat × Nat) = (none, O'.map (kas_item it), ia', ib', m', c', d') /\ ia' + 1 < X.size /\ ib' < Y.size /\ bo <= ia' + ib' /\ J le (X.toList ++ Y.toList) X Y O' ia' ib' := fun m c d => ⟨_, _, _, m, c, d, by rw [show (((O.map (kas_item it)).push (kas_item it (at' Y ib)) ++ (Y.map (kas_item it)).extract (ib + 1) (ib + 1 + k)).push (kas_item it (at' X ia))) = ((O.push (at' Y ib) ++ Y.extract (ib + 1) (ib + 1 + k)).push (at' X ia)).map (kas_item it) by simp], by lia, by lia, by lia, j4⟩
          refine bW ?_ ?_
          ·exact Pc (.inr ⟨sm, fin _ _ _⟩)
          ·exact Pc ⟨sm, fin _ _ _⟩
       ·rw [Pb k0]
        have k00 : k = 0 := by lia
        subst k00
        have j3' : J le (X.toList ++ Y.toList) X Y (O.push (at' Y ib)) ia (ib + 1) := j2
        refine Pe (aP (by lia) ?_)
        have j4 := j3'.one (by lia) fun i h1 h2 => k3' i (by lia) h2
        by_cases e5 : ia + 1 + 1 = X.size
        ·rw [Pa e5]
         refine Pc (.inl ⟨(O.push (at' Y ib)).push (at' X ia) ++ Y.extract (ib + 1) Y.size ++ X.extract (ia + 1) X.size, ?_, j4.last (by lia) (by lia) (fun i hi => by have := hl i hi; rwa [show X.size - 1 = ia + 1 by lia] at this), sm⟩)
         simp
        ·rw [Pb e5]
         have fin : ∀ m c d, ∃ O' ia' ib' m' c' d', ((none, ((O.map (kas_item it)).push (kas_item it (at' Y ib))).push (kas_item it (at' X ia)), ia + 1, ib + 1, m, c, d) : Option (Array Keyed) × Array Keyed × Nat × Nat × Nat × Nat × Nat) = (none, O'.map (kas_item it), ia', ib', m', c', d') /\ ia' + 1 < X.size /\ ib' < Y.size /\ bo <= ia' + ib' /\ J le (X.toList ++ Y.toList) X Y O' ia' ib' := fun m c d => ⟨_, _, _, m, c, d, by rw [show ((O.map (kas_item it)).push (kas_item it (at' Y ib))).push (kas_item it (at' X ia)) = ((O.push (at' Y ib)).push (at' X ia)).map (kas_item it) by simp], by lia, by lia, by lia, j4⟩
         refine bW ?_ ?_
         ·exact Pc (.inr ⟨sm, fin _ _ _⟩)
         ·exact Pc ⟨sm, fin _ _ _⟩
     ·rw [Pb k0]
      have k00 : k = 0 := by lia
      subst k00
      replace ky : ∀ i, ia <= i -> i < X.size -> le (at' Y ib) (at' X i) := ky
      -- y0
      refine Pe (aP lb ?_)
      have j2 : J le (X.toList ++ Y.toList) X Y (O.push (at' Y ib)) ia (ib + 1) := (j.sy.one lb fun i h1 h2 => ky i h1 h2).sy
      by_cases e3 : ib + 1 = Y.size
      ·rw [Pa e3]
       refine Pc (.inl ⟨(O.push (at' Y ib)) ++ X.extract ia X.size ++ Y.extract (ib + 1) Y.size, ?_, j2.done1 (by lia) (by lia), sm⟩)
       simp
      ·rw [Pb e3]
       refine Pe (aP (by lia) ?_)
       refine Pe (cV o hc sm.1 hy (hx ia (by lia)) (by lia) (by lia) (fun i k h1 h2 => sy _ _ (by lia) (by lia)) fun k k1 k2 k3 => ?_)
       dsimp only
       have k2' : ∀ i, ib + 1 <= i -> i < ib + 1 + k -> le (at' Y i) (at' X ia) := fun i h1 h2 => by
        have := k2 (i - (ib + 1)) (by lia)
        rwa [show ib + 1 + (i - (ib + 1)) = i by lia] at this
       have k3' : ∀ i, ib + 1 + k <= i -> i < Y.size -> le (at' X ia) (at' Y i) := fun i h1 h2 => by
        have := k3 (i - (ib + 1)) (by lia) (by lia)
        rwa [show ib + 1 + (i - (ib + 1)) = i by lia] at this
       have j3 : J le (X.toList ++ Y.toList) X Y (O.push (at' Y ib) ++ Y.extract (ib + 1) (ib + 1 + k)) ia (ib + 1 + k) := (j2.sy.blk fun i l h1 h2 h3 h4 h5 => o.tr _ _ _ (k2' i h1 h2) (sx _ _ h4 h5)).sy
       by_cases k0 : k > 0
       ·rw [Pa k0]
        by_cases e4 : ib + 1 + k = Y.size
        ·rw [Pa e4]
         refine Pc (.inl ⟨(O.push (at' Y ib)) ++ Y.extract (ib + 1) (ib + 1 + k) ++ X.extract ia X.size ++ Y.extract (ib + 1 + k) Y.size, ?_, j3.done1 (by lia) (by lia), sm⟩)
         simp
        ·rw [Pb e4]
         refine Pe (aP (by lia) ?_)
         have j4 := j3.one (by lia) fun i h1 h2 => k3' i h1 h2
         by_cases e5 : ia + 1 + 1 = X.size
         ·rw [Pa e5]
          refine Pc (.inl ⟨(O.push (at' Y ib) ++ Y.extract (ib + 1) (ib + 1 + k)).push (at' X ia) ++ Y.extract (ib + 1 + k) Y.size ++ X.extract (ia + 1) X.size, ?_, j4.last (by lia) (by lia) (fun i hi => by have := hl i hi; rwa [show X.size - 1 = ia + 1 by lia] at this), sm⟩)
          simp
         ·rw [Pb e5]
          have fin : ∀ m c d, ∃ O' ia' ib' m' c' d', ((none, ((O.map (kas_item it)).push (kas_item it (at' Y ib)) ++ (Y.map (kas_item it)).extract (ib + 1) (ib + 1 + k)).push (kas_item it (at' X ia)), ia + 1, ib + 1 + k, m, c, d) : Option (Array Keyed) × Array Keyed × Nat × Nat × Nat × Nat × Nat) = (none, O'.map (kas_item it), ia', ib', m', c', d') /\ ia' + 1 < X.size /\ ib' < Y.size /\ bo <= ia' + ib' /\ J le (X.toList ++ Y.toList) X Y O' ia' ib' := fun m c d => ⟨_, _, _, m, c, d, by rw [show (((O.map (kas_item it)).push (kas_item it (at' Y ib)) ++ (Y.map (kas_item it)).extract (ib + 1) (ib + 1 + k)).push (kas_item it (at' X ia))) = ((O.push (at' Y ib) ++ Y.extract (ib + 1) (ib + 1 + k)).push (at' X ia)).map (kas_item it) by simp], by lia, by lia, by lia, j4⟩
          refine bW ?_ ?_
          ·exact Pc (.inr ⟨sm, fin _ _ _⟩)
          ·exact Pc ⟨sm, fin _ _ _⟩
       ·rw [Pb k0]
        have k00 : k = 0 := by lia
        subst k00
        have j3' : J le (X.toList ++ Y.toList) X Y (O.push (at' Y ib)) ia (ib + 1) := j2
        refine Pe (aP (by lia) ?_)
        have j4 := j3'.one (by lia) fun i h1 h2 => k3' i (by lia) h2
        by_cases e5 : ia + 1 + 1 = X.size
        ·rw [Pa e5]
         refine Pc (.inl ⟨(O.push (at' Y ib)).push (at' X ia) ++ Y.extract (ib + 1) Y.size ++ X.extract (ia + 1) X.size, ?_, j4.last (by lia) (by lia) (fun i hi => by have := hl i hi; rwa [show X.size - 1 = ia + 1 by lia] at this), sm⟩)
         simp
        ·rw [Pb e5]
         have fin : ∀ m c d, ∃ O' ia' ib' m' c' d', ((none, ((O.map (kas_item it)).push (kas_item it (at' Y ib))).push (kas_item it (at' X ia)), ia + 1, ib + 1, m, c, d) : Option (Array Keyed) × Array Keyed × Nat × Nat × Nat × Nat × Nat) = (none, O'.map (kas_item it), ia', ib', m', c', d') /\ ia' + 1 < X.size /\ ib' < Y.size /\ bo <= ia' + ib' /\ J le (X.toList ++ Y.toList) X Y O' ia' ib' := fun m c d => ⟨_, _, _, m, c, d, by rw [show ((O.map (kas_item it)).push (kas_item it (at' Y ib))).push (kas_item it (at' X ia)) = ((O.push (at' Y ib)).push (at' X ia)).map (kas_item it) by simp], by lia, by lia, by lia, j4⟩
         refine bW ?_ ?_
         ·exact Pc (.inr ⟨sm, fin _ _ _⟩)
         ·exact Pc ⟨sm, fin _ _ _⟩
    ·rw [Pb hm]
     refine Pe (P6 ?_)
     replace sm := sm.g (m)
     refine Pe (aP lb ?_)
     refine Pe (cV o hc sm.1 hx (hy ib lb) (by lia) (by lia) (fun i k h1 h2 => sx _ _ (by lia) (by lia)) fun k k1 k2 k3 => ?_)
     dsimp only
     have k2' : ∀ i, ia <= i -> i < ia + k -> le (at' X i) (at' Y ib) := fun i h1 h2 => by
      have := k2 (i - ia) (by lia)
      rwa [show ia + (i - ia) = i by lia] at this
     have ky : ∀ i, ia + k <= i -> i < X.size -> le (at' Y ib) (at' X i) := fun i h1 h2 => by
      have := k3 (i - ia) (by lia) (by lia)
      rwa [show ia + (i - ia) = i by lia] at this
     by_cases k0 : k > 0
     ·rw [Pa k0]
      replace j := j.blk (m := k) fun i l h1 h2 h3 h4 h5 => o.tr _ _ _ (k2' i h1 h2) (sy _ _ h4 h5)
      have eO : O.map (kas_item it) ++ (X.map (kas_item it)).extract ia (ia + k) = (O ++ X.extract ia (ia + k)).map (kas_item it) := by simp
      rw [eO]
      by_cases e1 : ia + k + 1 = X.size
      ·rw [Pa e1]
       refine Pc (.inl ⟨O ++ X.extract ia (ia + k) ++ Y.extract ib Y.size ++ X.extract (ia + k) X.size, ?_, j.last (by lia) (by lia) (fun i hi => by have := hl i hi; rwa [show X.size - 1 = ia + k by lia] at this), sm⟩)
       simp
      rw [Pb e1]
      by_cases e2 : ia + k = X.size
      ·rw [Pa e2]
       refine Pc (.inl ⟨O ++ X.extract ia (ia + k) ++ X.extract (ia + k) X.size ++ Y.extract ib Y.size, ?_, j.done2 (by lia) (by lia), sm⟩)
       simp
      rw [Pb e2]
      have la2 : ia + k + 1 < X.size := by lia
      have ls2 : bo <= ia + k + ib := by lia
      clear k2' k2 k3 eO e1 e2
      generalize O ++ X.extract ia (ia + k) = O at j ⊢
      generalize hia : ia + k = ia at j la2 ls2 ky ⊢
      clear la ls k1 hia
      rename_i ia0 _
      clear k0
      have la := la2
      have ls := ls2
      -- y0
      refine Pe (aP lb ?_)
      have j2 : J le (X.toList ++ Y.toList) X Y (O.push (at' Y ib)) ia (ib + 1) := (j.sy.one lb fun i h1 h2 => ky i h1 h2).sy
      by_cases e3 : ib + 1 = Y.size
      ·rw [Pa e3]
       refine Pc (.inl ⟨(O.push (at' Y ib)) ++ X.extract ia X.size ++ Y.extract (ib + 1) Y.size, ?_, j2.done1 (by lia) (by lia), sm⟩)
       simp
      ·rw [Pb e3]
       refine Pe (aP (by lia) ?_)
       refine Pe (cV o hc sm.1 hy (hx ia (by lia)) (by lia) (by lia) (fun i k h1 h2 => sy _ _ (by lia) (by lia)) fun k k1 k2 k3 => ?_)
       dsimp only
       have k2' : ∀ i, ib + 1 <= i -> i < ib + 1 + k -> le (at' Y i) (at' X ia) := fun i h1 h2 => by
        have := k2 (i - (ib + 1)) (by lia)
        rwa [show ib + 1 + (i - (ib + 1)) = i by lia] at this
       have k3' : ∀ i, ib + 1 + k <= i -> i < Y.size -> le (at' X ia) (at' Y i) := fun i h1 h2 => by
        have := k3 (i - (ib + 1)) (by lia) (by lia)
        rwa [show ib + 1 + (i - (ib + 1)) = i by lia] at this
       have j3 : J le (X.toList ++ Y.toList) X Y (O.push (at' Y ib) ++ Y.extract (ib + 1) (ib + 1 + k)) ia (ib + 1 + k) := (j2.sy.blk fun i l h1 h2 h3 h4 h5 => o.tr _ _ _ (k2' i h1 h2) (sx _ _ h4 h5)).sy
       by_cases k0 : k > 0
       ·rw [Pa k0]
        by_cases e4 : ib + 1 + k = Y.size
        ·rw [Pa e4]
         refine Pc (.inl ⟨(O.push (at' Y ib)) ++ Y.extract (ib + 1) (ib + 1 + k) ++ X.extract ia X.size ++ Y.extract (ib + 1 + k) Y.size, ?_, j3.done1 (by lia) (by lia), sm⟩)
         simp
        ·rw [Pb e4]
         refine Pe (aP (by lia) ?_)
         have j4 := j3.one (by lia) fun i h1 h2 => k3' i h1 h2
         by_cases e5 : ia + 1 + 1 = X.size
         ·rw [Pa e5]
          refine Pc (.inl ⟨(O.push (at' Y ib) ++ Y.extract (ib + 1) (ib + 1 + k)).push (at' X ia) ++ Y.extract (ib + 1 + k) Y.size ++ X.extract (ia + 1) X.size, ?_, j4.last (by lia) (by lia) (fun i hi => by have := hl i hi; rwa [show X.size - 1 = ia + 1 by lia] at this), sm⟩)
          simp
         ·rw [Pb e5]
          have fin : ∀ m c d, ∃ O' ia' ib' m' c' d', ((none, ((O.map (kas_item it)).push (kas_item it (at' Y ib)) ++ (Y.map (kas_item it)).extract (ib + 1) (ib + 1 + k)).push (kas_item it (at' X ia)), ia + 1, ib + 1 + k, m, c, d) : Option (Array Keyed) × Array Keyed × Nat × Nat × Nat × Nat × Nat) = (none, O'.map (kas_item it), ia', ib', m', c', d') /\ ia' + 1 < X.size /\ ib' < Y.size /\ bo <= ia' + ib' /\ J le (X.toList ++ Y.toList) X Y O' ia' ib' := fun m c d => ⟨_, _, _, m, c, d, by rw [show (((O.map (kas_item it)).push (kas_item it (at' Y ib)) ++ (Y.map (kas_item it)).extract (ib + 1) (ib + 1 + k)).push (kas_item it (at' X ia))) = ((O.push (at' Y ib) ++ Y.extract (ib + 1) (ib + 1 + k)).push (at' X ia)).map (kas_item it) by simp], by lia, by lia, by lia, j4⟩
          refine bW ?_ ?_
          ·exact Pc (.inr ⟨sm, fin _ _ _⟩)
          ·exact Pc ⟨sm, fin _ _ _⟩
       ·rw [Pb k0]
        have k00 : k = 0 := by lia
        subst k00
        have j3' : J le (X.toList ++ Y.toList) X Y (O.push (at' Y ib)) ia (ib + 1) := j2
        refine Pe (aP (by lia) ?_)
        have j4 := j3'.one (by lia) fun i h1 h2 => k3' i (by lia) h2
        by_cases e5 : ia + 1 + 1 = X.size
        ·rw [Pa e5]
         refine Pc (.inl ⟨(O.push (at' Y ib)).push (at' X ia) ++ Y.extract (ib + 1) Y.size ++ X.extract (ia + 1) X.size, ?_, j4.last (by lia) (by lia) (fun i hi => by have := hl i hi; rwa [show X.size - 1 = ia + 1 by lia] at this), sm⟩)
         simp
        ·rw [Pb e5]
         have fin : ∀ m c d, ∃ O' ia' ib' m' c' d', ((none, ((O.map (kas_item it)).push (kas_item it (at' Y ib))).push (kas_item it (at' X ia)), ia + 1, ib + 1, m, c, d) : Option (Array Keyed) × Array Keyed × Nat × Nat × Nat × Nat × Nat) = (none, O'.map (kas_item it), ia', ib', m', c', d') /\ ia' + 1 < X.size /\ ib' < Y.size /\ bo <= ia' + ib' /\ J le (X.toList ++ Y.toList) X Y O' ia' ib' := fun m c d => ⟨_, _, _, m, c, d, by rw [show ((O.map (kas_item it)).push (kas_item it (at' Y ib))).push (kas_item it (at' X ia)) = ((O.push (at' Y ib)).push (at' X ia)).map (kas_item it) by simp], by lia, by lia, by lia, j4⟩
         refine bW ?_ ?_
         ·exact Pc (.inr ⟨sm, fin _ _ _⟩)
         ·exact Pc ⟨sm, fin _ _ _⟩
     ·rw [Pb k0]
      have k00 : k = 0 := by lia
      subst k00
      replace ky : ∀ i, ia <= i -> i < X.size -> le (at' Y ib) (at' X i) := ky
      -- y0
      refine Pe (aP lb ?_)
      have j2 : J le (X.toList ++ Y.toList) X Y (O.push (at' Y ib)) ia (ib + 1) := (j.sy.one lb fun i h1 h2 => ky i h1 h2).sy
      by_cases e3 : ib + 1 = Y.size
      ·rw [Pa e3]
       refine Pc (.inl ⟨(O.push (at' Y ib)) ++ X.extract ia X.size ++ Y.extract (ib + 1) Y.size, ?_, j2.done1 (by lia) (by lia), sm⟩)
       simp
      ·rw [Pb e3]
       refine Pe (aP (by lia) ?_)
       refine Pe (cV o hc sm.1 hy (hx ia (by lia)) (by lia) (by lia) (fun i k h1 h2 => sy _ _ (by lia) (by lia)) fun k k1 k2 k3 => ?_)
       dsimp only
       have k2' : ∀ i, ib + 1 <= i -> i < ib + 1 + k -> le (at' Y i) (at' X ia) := fun i h1 h2 => by
        have := k2 (i - (ib + 1)) (by lia)
        rwa [show ib + 1 + (i - (ib + 1)) = i by lia] at this
       have k3' : ∀ i, ib + 1 + k <= i -> i < Y.size -> le (at' X ia) (at' Y i) := fun i h1 h2 => by
        have := k3 (i - (ib + 1)) (by lia) (by lia)
        rwa [show ib + 1 + (i - (ib + 1)) = i by lia] at this
       have j3 : J le (X.toList ++ Y.toList) X Y (O.push (at' Y ib) ++ Y.extract (ib + 1) (ib + 1 + k)) ia (ib + 1 + k) := (j2.sy.blk fun i l h1 h2 h3 h4 h5 => o.tr _ _ _ (k2' i h1 h2) (sx _ _ h4 h5)).sy
       by_cases k0 : k > 0
       ·rw [Pa k0]
        by_cases e4 : ib + 1 + k = Y.size
        ·rw [Pa e4]
         refine Pc (.inl ⟨(O.push (at' Y ib)) ++ Y.extract (ib + 1) (ib + 1 + k) ++ X.extract ia X.size ++ Y.extract (ib + 1 + k) Y.size, ?_, j3.done1 (by lia) (by lia), sm⟩)
         simp
        ·rw [Pb e4]
         refine Pe (aP (by lia) ?_)
         have j4 := j3.one (by lia) fun i h1 h2 => k3' i h1 h2
         by_cases e5 : ia + 1 + 1 = X.size
         ·rw [Pa e5]
          refine Pc (.inl ⟨(O.push (at' Y ib) ++ Y.extract (ib + 1) (ib + 1 + k)).push (at' X ia) ++ Y.extract (ib + 1 + k) Y.size ++ X.extract (ia + 1) X.size, ?_, j4.last (by lia) (by lia) (fun i hi => by have := hl i hi; rwa [show X.size - 1 = ia + 1 by lia] at this), sm⟩)
          simp
         ·rw [Pb e5]
          have fin : ∀ m c d, ∃ O' ia' ib' m' c' d', ((none, ((O.map (kas_item it)).push (kas_item it (at' Y ib)) ++ (Y.map (kas_item it)).extract (ib + 1) (ib + 1 + k)).push (kas_item it (at' X ia)), ia + 1, ib + 1 + k, m, c, d) : Option (Array Keyed) × Array Keyed × Nat × Nat × Nat × Nat × Nat) = (none, O'.map (kas_item it), ia', ib', m', c', d') /\ ia' + 1 < X.size /\ ib' < Y.size /\ bo <= ia' + ib' /\ J le (X.toList ++ Y.toList) X Y O' ia' ib' := fun m c d => ⟨_, _, _, m, c, d, by rw [show (((O.map (kas_item it)).push (kas_item it (at' Y ib)) ++ (Y.map (kas_item it)).extract (ib + 1) (ib + 1 + k)).push (kas_item it (at' X ia))) = ((O.push (at' Y ib) ++ Y.extract (ib + 1) (ib + 1 + k)).push (at' X ia)).map (kas_item it) by simp], by lia, by lia, by lia, j4⟩
          refine bW ?_ ?_
          ·exact Pc (.inr ⟨sm, fin _ _ _⟩)
          ·exact Pc ⟨sm, fin _ _ _⟩
       ·rw [Pb k0]
        have k00 : k = 0 := by lia
        subst k00
        have j3' : J le (X.toList ++ Y.toList) X Y (O.push (at' Y ib)) ia (ib + 1) := j2
        refine Pe (aP (by lia) ?_)
        have j4 := j3'.one (by lia) fun i h1 h2 => k3' i (by lia) h2
        by_cases e5 : ia + 1 + 1 = X.size
        ·rw [Pa e5]
         refine Pc (.inl ⟨(O.push (at' Y ib)).push (at' X ia) ++ Y.extract (ib + 1) Y.size ++ X.extract (ia + 1) X.size, ?_, j4.last (by lia) (by lia) (fun i hi => by have := hl i hi; rwa [show X.size - 1 = ia + 1 by lia] at this), sm⟩)
         simp
        ·rw [Pb e5]
         have fin : ∀ m c d, ∃ O' ia' ib' m' c' d', ((none, ((O.map (kas_item it)).push (kas_item it (at' Y ib))).push (kas_item it (at' X ia)), ia + 1, ib + 1, m, c, d) : Option (Array Keyed) × Array Keyed × Nat × Nat × Nat × Nat × Nat) = (none, O'.map (kas_item it), ia', ib', m', c', d') /\ ia' + 1 < X.size /\ ib' < Y.size /\ bo <= ia' + ib' /\ J le (X.toList ++ Y.toList) X Y O' ia' ib' := fun m c d => ⟨_, _, _, m, c, d, by rw [show ((O.map (kas_item it)).push (kas_item it (at' Y ib))).push (kas_item it (at' X ia)) = ((O.push (at' Y ib)).push (at' X ia)).map (kas_item it) by simp], by lia, by lia, by lia, j4⟩
         refine bW ?_ ?_
         ·exact Pc (.inr ⟨sm, fin _ _ _⟩)
         ·exact Pc ⟨sm, fin _ _ _⟩
end
section
variable {X Y O : Array Nat} {le : Nat -> Nat -> Prop} {tot : List Nat} {na nb : Nat}
theorem Dq {i : Nat} (h : i < X.size) : X.toList.take (i + 1) = X.toList.take i ++ [at' X i] := by
 rw [List.take_succ_eq_append_getElem (by simpa using h), ku h]
theorem lN {i j : Nat} (h : i <= j) : X.toList.take j = X.toList.take i ++ (X.extract i j).toList := by
 rw [Ri, Rj]
 have e : j = i + (j - i) := by lia
 conv => lhs; rw [e, List.take_add]
theorem vN {i x : Nat} (h : x ∈ X.toList.take i) : ∃ j, j < i /\ j < X.size /\ at' X j = x := by
 obtain ⟨k, hk⟩ := Qk h
 rw [Rx] at hk
 split at hk
 ·obtain ⟨h1, h2⟩ := Pw.mp hk
  have h1' : k < X.size := by simpa using h1
  exact ⟨k, by lia, h1', by rw [<- ku h1']; exact h2⟩
 ·cases hk
abbrev JH (le : Nat -> Nat -> Prop) (tot : List Nat) (X Y O : Array Nat) (na nb : Nat) : Prop := Inv (fun a b => le b a) tot O.toList (X.toList.take na).reverse (Y.toList.take nb).reverse
theorem JH.sy (j : JH le tot X Y O na nb) : JH le tot Y X O nb na := Inv.symm j
theorem JH.one (j : JH le tot X Y O na nb) (h : 1 <= na) (h2 : na <= X.size) (k : ∀ i, i < nb -> le (at' Y i) (at' X (na - 1))) : JH le tot X Y (O.push (at' X (na - 1))) (na - 1) nb := by
 unfold JH at j ⊢
 obtain ⟨m, rfl⟩ : ∃ m, na = m + 1 := ⟨na - 1, by lia⟩
 rw [Dq (by lia), List.reverse_append] at j
 rw [Nat.add_sub_cancel] at k ⊢
 have := Inv.block (xs := [at' X m]) j (fun x hx y hy => by
  rw [Pg] at hx
  subst hx
  obtain ⟨i, h1, h2, rfl⟩ := vN (Ry.mp hy)
  exact k i h1)
 rwa [Q6]
theorem JH.blk {m : Nat} (j : JH le tot X Y O na nb) (h : m <= na) (h2 : na <= X.size) (k : ∀ i l, m <= i -> i < na -> l < nb -> le (at' Y l) (at' X i)) : JH le tot X Y (O ++ (X.extract m na).reverse) m nb := by
 unfold JH at j ⊢
 rw [lN h, List.reverse_append] at j
 have := Inv.block j (fun x hx y hy => by
  obtain ⟨i, h1, h2, h3, rfl⟩ := tj (Ry.mp hx)
  obtain ⟨l, h4, h5, rfl⟩ := vN (Ry.mp hy)
  exact k i l h1 h2 h4)
 rwa [QV, Array.toList_reverse]
theorem AX {l r : List Nat} (h : l.Pairwise (fun a b => le b a) /\ l.Perm tot) (e : l = r.reverse) : r.Pairwise le /\ r.Perm tot := by
 subst e
 exact ⟨RN.mp h.1, (List.reverse_perm _).symm.trans h.2⟩
theorem KW (m : Nat) : (X.extract 0 m).toList = X.toList.take m := by rw [Ri, Rj]; simp
theorem JH.done1 (j : JH le tot X Y O na nb) (h : nb = 0) (h2 : na <= X.size) : lL le tot (X.extract 0 na ++ Y.extract 0 nb ++ O.reverse) := by
 subst h
 refine AX (l := O.toList ++ (X.toList.take na).reverse) (Inv.doneA (by unfold JH at j; simpa using j)) ?_
 simp [KW]
theorem JH.done2 (j : JH le tot X Y O na nb) (h : na = 0) (h2 : nb <= Y.size) : lL le tot (X.extract 0 na ++ Y.extract 0 nb ++ O.reverse) := by
 have := j.sy.done1 h h2
 subst h
 simpa using this
theorem JH.first (j : JH le tot X Y O na nb) (h : nb = 1) (y1 : 1 <= Y.size) (h2 : na <= X.size) (k : ∀ i, i < X.size -> le (at' Y 0) (at' X i)) : lL le tot (Y.extract 0 nb ++ X.extract 0 na ++ O.reverse) := by
 subst h
 have e : Y.toList.take 1 = [at' Y 0] := by rw [Dq (i := 0) (by lia)]; simp
 have j2 : Inv (fun a b => le b a) tot O.toList [at' Y 0] (X.toList.take na).reverse := by have := j.sy; unfold JH at this; rw [e] at this; exact this
 refine AX (j2.lastA fun y hy => ?_) ?_
 ·obtain ⟨i, h1, h2, rfl⟩ := vN (Ry.mp hy)
  exact k i h2
 ·rw [QV, QV, KW, KW, e]
  simp
end
section
variable {prog : Program} {w : World} {A : Around} {E : Value -> Shared -> Prop} {s : Shared} {κ : SortKind} {it : Array Keyed} {n : Nat} {lt : Nat -> Nat -> Bool} {le : Nat -> Nat -> Prop}
theorem EA (o : Ord lt le) (hc : vU prog w A s κ it n lt) {X Y : Array Nat} {Q : Array Keyed -> SortSt -> Prop} {st : SortSt} (hk : kindOf st = κ) (hx : ∀ i, i < X.size -> at' X i < n) (hy : ∀ i, i < Y.size -> at' Y i < n)
  (x1 : 1 <= X.size) (y1 : 1 <= Y.size) (sx : ∀ i j, i <= j -> j < X.size -> le (at' X i) (at' X j)) (sy : ∀ i j, i <= j -> j < Y.size -> le (at' Y i) (at' Y j)) (hf : ∀ i, i < X.size -> le (at' Y 0) (at' X i)) (hl : ∀ i, i < Y.size -> le (at' Y i) (at' X (X.size - 1)))
  (h : ∀ R st', Same κ st st' -> lL le (X.toList ++ Y.toList) R -> Q (R.map (kas_item it)) st') :
  wpS (model prog w) A E s (He (X.map (kas_item it)) (Y.map (kas_item it))) Q st := by
 have sm0 : Same κ st st := ⟨hk, rfl, rfl, rfl⟩
 have j0 : JH le (X.toList ++ Y.toList) X Y #[] X.size Y.size := by
  have ex : X.toList.take X.size = X.toList := Rz (by simp)
  have ey : Y.toList.take Y.size = Y.toList := Rz (by simp)
  unfold JH
  rw [ex, ey]
  exact ⟨by simpa using RN.mpr (C7 sx), by simpa using RN.mpr (C7 sy), by simpa using (List.reverse_perm X.toList).append (List.reverse_perm Y.toList)⟩
 have j1 : JH le (X.toList ++ Y.toList) X Y #[at' X (X.size - 1)] (X.size - 1) Y.size := j0.one x1 (Pi _) fun i h2 => hl i h2
 refine Pe (QI (Qz ⟨rfl, ?_⟩))
 dsimp only
 simp only [Array.size_map, Qo]
 refine Pe (aP (X := X) (by lia) ?_)
 by_cases e1 : X.size - 1 = 0
 ·rw [Pa e1]
  refine Pc ?_
  have := h _ st sm0 (j1.done2 e1 (by lia))
  simpa [exm] using this
 rw [Pb e1]
 by_cases e2 : Y.size = 1
 ·rw [Pa e2]
  refine Pc ?_
  have := h _ st sm0 (j1.first e2 (by lia) (by lia) hf)
  simpa [exm] using this
 rw [Pb e2]
 refine Pe (Qg ?_)
 refine Pe (PL (PM (I := fun x c st2 => Same κ st st2 /\ ∃ O na nb g, c = (none, na, nb, O.map (kas_item it), g) /\ 1 <= na /\ 1 < nb /\ na < X.size /\ nb <= Y.size /\ na + nb + (x + 1) <= X.size + Y.size /\ JH le (X.toList ++ Y.toList) X Y O na nb)
  (Q := fun c st2 => ∃ R, c.1 = some (R.map (kas_item it)) /\ lL le (X.toList ++ Y.toList) R /\ Same κ st st2) ?s1 ?f1 ?i1) ?p1)
 case i1 => exact ⟨sm0, #[at' X (X.size - 1)], X.size - 1, Y.size, _, by simp; rfl, by lia, by lia, by lia, by lia, by lia, j1⟩
 case f1 =>
  rintro c st2 ⟨sm, O, na, nb, g, rfl, la, lb, lx, ly, ls, j⟩
  lia
 case p1 =>
  rintro ⟨c, c'⟩ st2 ⟨R, hc1, hR, sm⟩
  dsimp only at hc1
  subst hc1
  exact Pc (h R st2 sm hR)
 case s1 =>
  rintro x c st2 _ hx0 ⟨sm, O, na, nb, g, rfl, la, lb, lx, ly, ls, j⟩
  dsimp only
  refine Pe (PL (PM (I := fun y c st2 => Same κ st st2 /\ ∃ O na nb a b, c = (none, na, nb, O.map (kas_item it), a, b) /\ 1 <= na /\ 1 < nb /\ na < X.size /\ nb <= Y.size /\ na + nb + (x + 1 + y) <= X.size + Y.size /\ JH le (X.toList ++ Y.toList) X Y O na nb)
   (Q := fun c st2 => (∃ R, c.1 = some (R.map (kas_item it)) /\ lL le (X.toList ++ Y.toList) R /\ Same κ st st2) \/ (Same κ st st2 /\ ∃ O na nb a b, c = (none, na, nb, O.map (kas_item it), a, b) /\ 1 <= na /\ 1 < nb /\ na < X.size /\ nb <= Y.size /\ na + nb + (x + 1 + 1) <= X.size + Y.size /\ JH le (X.toList ++ Y.toList) X Y O na nb)) ?s2 ?f2 ?i2) ?p2)
  case i2 => exact ⟨sm, O, na, nb, 0, 0, rfl, la, lb, lx, ly, ls, j⟩
  case f2 =>
   rintro c st2 ⟨sm, O, na, nb, a, b, rfl, la, lb, lx, ly, ls, j⟩
   lia
  case s2 =>
   clear la lb lx ly ls j sm
   rintro y c st2 _ hy0 ⟨sm, O, na, nb, a, b, rfl, la, lb, lx, ly, ls, j⟩
   dsimp only
   refine Pe (aP (by lia) ?_)
   refine Pe (aP (by lia) ?_)
   refine Pe (w_lt hc sm.1 (hy (nb - 1) (by lia)) (hx (na - 1) (by lia)) ?_)
   dsimp only
   cases cw : lt (at' Y (nb - 1)) (at' X (na - 1)) with
   | true =>
    rw [Pa rfl]
    have l0 := o.yes _ _ cw
    have j2 := j.one la (by lia) fun i h1 => o.tr _ _ _ (sy i (nb - 1) (by lia) (by lia)) l0
    refine Pe (aP (by lia) ?_)
    by_cases e3 : na - 1 = 0
    ·rw [Pa e3]
     refine Pc (.inl ⟨X.extract 0 (na - 1) ++ Y.extract 0 nb ++ (O.push (at' X (na - 1))).reverse, ?_, j2.done2 e3 (by lia), sm⟩)
     simp [Pz]
    ·rw [Pb e3]
     refine bW ?_ ?_
     ·exact Pc (.inr ⟨sm, O.push (at' X (na - 1)), na - 1, nb, _, _, by rw [QK], by lia, by lia, by lia, by lia, by lia, j2⟩)
     ·exact Pc ⟨sm, O.push (at' X (na - 1)), na - 1, nb, _, _, by rw [QK], by lia, by lia, by lia, by lia, by lia, j2⟩
   | false =>
    rw [Pb (by decide)]
    have l0 := o.no _ _ cw
    have j2 : JH le (X.toList ++ Y.toList) X Y (O.push (at' Y (nb - 1))) na (nb - 1) := (j.sy.one (by lia) (by lia) fun i h1 => o.tr _ _ _ (sx i (na - 1) (by lia) (by lia)) l0).sy
    refine Pe (aP (by lia) ?_)
    by_cases e3 : nb - 1 = 1
    ·rw [Pa e3]
     refine Pc (.inl ⟨Y.extract 0 (nb - 1) ++ X.extract 0 na ++ (O.push (at' Y (nb - 1))).reverse, ?_, j2.first e3 (by lia) (by lia) hf, sm⟩)
     simp [Pz]
    ·rw [Pb e3]
     refine bW ?_ ?_
     ·exact Pc (.inr ⟨sm, O.push (at' Y (nb - 1)), na, nb - 1, _, _, by rw [QK], by lia, by lia, by lia, by lia, by lia, j2⟩)
     ·exact Pc ⟨sm, O.push (at' Y (nb - 1)), na, nb - 1, _, _, by rw [QK], by lia, by lia, by lia, by lia, by lia, j2⟩
  case p2 =>
   clear la lb lx ly ls j sm
   rintro ⟨c, c'⟩ st2 (⟨R, hc1, hR, sm⟩ | ⟨sm, O, na, nb, a, b, hcc, la, lb, lx, ly, ls, j⟩)
   ·dsimp only at hc1
    subst hc1
    exact Pc ⟨R, rfl, hR, sm⟩
   cases hcc
   dsimp only
   refine Pe (QI (Qz ⟨rfl, ?_⟩))
   have hst : ∃ bo, bo = x + 1 + 1 := ⟨_, rfl⟩
   obtain ⟨bo, hst⟩ := hst
   rw [<- hst] at ls
   refine Pe (PL (PM (I := fun y c st2 => Same κ st st2 /\ ∃ O na nb m a b, c = (none, na, nb, O.map (kas_item it), m, a, b) /\ 1 <= na /\ 1 < nb /\ na < X.size /\ nb <= Y.size /\ na + nb + bo <= X.size + Y.size /\ JH le (X.toList ++ Y.toList) X Y O na nb)
    (Q := fun c st2 => (∃ R, c.1 = some (R.map (kas_item it)) /\ lL le (X.toList ++ Y.toList) R /\ Same κ st st2) \/ (Same κ st st2 /\ ∃ O na nb m a b, c = (none, na, nb, O.map (kas_item it), m, a, b) /\ 1 <= na /\ 1 < nb /\ na < X.size /\ nb <= Y.size /\ na + nb + bo <= X.size + Y.size /\ JH le (X.toList ++ Y.toList) X Y O na nb)) ?s3 ?f3 ?i3) ?p3)
   case i3 => exact ⟨sm, O, na, nb, _, _, _, rfl, la, lb, lx, ly, ls, j⟩
   case f3 => exact fun c st2 h => .inr h
   case p3 =>
    clear la lb lx ly ls j sm
    rintro ⟨c, c'⟩ st2 (⟨R, hc1, hR, sm⟩ | ⟨sm, O, na, nb, m, a, b, hcc, la, lb, lx, ly, ls, j⟩)
    ·dsimp only at hc1
     subst hc1
     exact Pc ⟨R, rfl, hR, sm⟩
    cases hcc
    dsimp only
    refine Pe (P6 (Pc ?_))
    exact ⟨sm.g _, O, na, nb, _, rfl, la, lb, lx, ly, by lia, j⟩
   case s3 =>
    clear la lb lx ly ls j sm
    rintro y c st2 _ hy0 ⟨sm, O, na, nb, m, a, b, rfl, la, lb, lx, ly, ls, j⟩
    dsimp only
    by_cases hm : m > 1
    ·rw [Pa hm]
     refine Pe (P6 ?_)
     replace sm := sm.g (m - 1)
     refine Pe (aP (by lia) ?_)
     refine Pe (cV o hc sm.1 hx (hy (nb - 1) (by lia)) (by lia) (by lia) (fun i k h1 h2 => sx _ _ (by lia) (by lia)) fun k k1 k2 k3 => ?_)
     dsimp only
     simp only [QL] at k2 k3
     by_cases k0 : na - k > 0
     ·rw [Pa k0]
      replace j := j.blk (m := k) (by lia) (by lia) fun i l h1 h2 h3 => o.tr _ _ _ (sy l (nb - 1) (by lia) (by lia)) (k3 i h1 h2)
      have eO : O.map (kas_item it) ++ ((X.map (kas_item it)).extract k na).reverse = (O ++ (X.extract k na).reverse).map (kas_item it) := by simp [Pz]
      rw [eO]
      by_cases e1 : k = 0
      ·rw [Pa e1]
       refine Pc (.inl ⟨X.extract 0 k ++ Y.extract 0 nb ++ (O ++ (X.extract k na).reverse).reverse, ?_, j.done2 e1 (by lia), sm⟩)
       simp [Pz]
      rw [Pb e1]
      have la2 : 1 <= k := by lia
      have lx2 : k < X.size := by lia
      have ls2 : k + nb + bo <= X.size + Y.size := by lia
      have ky : ∀ i, i < k -> le (at' X i) (at' Y (nb - 1)) := k2
      clear k2 k3 eO e1
      generalize O ++ (X.extract k na).reverse = O at j ⊢
      generalize na - k = kk at k0 ⊢
      clear k0 k1 la lx ls
      have la := la2
      have lx := lx2
      have ls := ls2
      clear la2 lx2 ls2
      obtain ⟨na, hna⟩ : ∃ na, na = k := ⟨k, rfl⟩
      subst hna
      refine Pe (aP (by lia) ?_)
      have j2 : JH le (X.toList ++ Y.toList) X Y (O.push (at' Y (nb - 1))) na (nb - 1) := (j.sy.one (by lia) (by lia) fun i h1 => ky i h1).sy
      by_cases e3 : nb - 1 = 1
      ·rw [Pa e3]
       refine Pc (.inl ⟨Y.extract 0 (nb - 1) ++ X.extract 0 na ++ (O.push (at' Y (nb - 1))).reverse, ?_, j2.first e3 (by lia) (by lia) hf, sm⟩)
       simp [Pz]
      ·rw [Pb e3]
       refine Pe (aP (by lia) ?_)
       refine Pe (cV o hc sm.1 hy (hx (na - 1) (by lia)) (by lia) (by lia) (fun i k h1 h2 => sy _ _ (by lia) (by lia)) fun k k1 k2 k3 => ?_)
       dsimp only
       simp only [QL] at k2 k3
       have j3 : JH le (X.toList ++ Y.toList) X Y (O.push (at' Y (nb - 1)) ++ (Y.extract k (nb - 1)).reverse) na k := (j2.sy.blk (by lia) (by lia) fun i l h1 h2 h3 => o.tr _ _ _ (sx l (na - 1) (by lia) (by lia)) (k3 i h1 h2)).sy
       by_cases k0 : nb - 1 - k > 0
       ·rw [Pa k0]
        by_cases e4 : k = 1
        ·rw [Pa e4]
         refine Pc (.inl ⟨Y.extract 0 k ++ X.extract 0 na ++ (O.push (at' Y (nb - 1)) ++ (Y.extract k (nb - 1)).reverse).reverse, ?_, j3.first e4 (by lia) (by lia) hf, sm⟩)
         simp [Pz]
        rw [Pb e4]
        by_cases e5 : k = 0
        ·rw [Pa e5]
         refine Pc (.inl ⟨X.extract 0 na ++ Y.extract 0 k ++ (O.push (at' Y (nb - 1)) ++ (Y.extract k (nb - 1)).reverse).reverse, ?_, j3.done1 e5 (by lia), sm⟩)
         simp [Pz]
        rw [Pb e5]
        refine Pe (aP (by lia) ?_)
        have j4 := j3.one (by lia) (by lia) fun i h1 => k2 i h1
        have eO : ((O.map (kas_item it)).push (kas_item it (at' Y (nb - 1))) ++ ((Y.map (kas_item it)).extract k (nb - 1)).reverse).push (kas_item it (at' X (na - 1))) = ((O.push (at' Y (nb - 1)) ++ (Y.extract k (nb - 1)).reverse).push (at' X (na - 1))).map (kas_item it) := by simp [Pz]
        by_cases e6 : na - 1 = 0
        ·rw [Pa e6]
         refine Pc (.inl ⟨X.extract 0 (na - 1) ++ Y.extract 0 k ++ ((O.push (at' Y (nb - 1)) ++ (Y.extract k (nb - 1)).reverse).push (at' X (na - 1))).reverse, ?_, j4.done2 e6 (by lia), sm⟩)
         simp [Pz]
        ·rw [Pb e6]
         have fin : ∀ m c d, ∃ O' na' nb' m' c' d', ((none, na - 1, k, ((O.map (kas_item it)).push (kas_item it (at' Y (nb - 1))) ++ ((Y.map (kas_item it)).extract k (nb - 1)).reverse).push (kas_item it (at' X (na - 1))), m, c, d) : Option (Array Keyed) × Nat × Nat × Array Keyed × Nat × Nat × Nat) = (none, na', nb', O'.map (kas_item it), m', c', d') /\ 1 <= na' /\ 1 < nb' /\ na' < X.size /\ nb' <= Y.size /\ na' + nb' + bo <= X.size + Y.size /\ JH le (X.toList ++ Y.toList) X Y O' na' nb' := fun m c d => ⟨_, _, _, m, c, d, by rw [eO], by lia, by lia, by lia, by lia, by lia, j4⟩
         refine bW ?_ ?_
         ·exact Pc (.inr ⟨sm, fin _ _ _⟩)
         ·exact Pc ⟨sm, fin _ _ _⟩
       ·rw [Pb k0]
        have k00 : k = nb - 1 := by lia
        subst k00
        refine Pe (aP (by lia) ?_)
        have j4 := j2.one (by lia) (by lia) fun i h1 => k2 i h1
        have eO : ((O.map (kas_item it)).push (kas_item it (at' Y (nb - 1)))).push (kas_item it (at' X (na - 1))) = ((O.push (at' Y (nb - 1))).push (at' X (na - 1))).map (kas_item it) := by simp
        by_cases e6 : na - 1 = 0
        ·rw [Pa e6]
         refine Pc (.inl ⟨X.extract 0 (na - 1) ++ Y.extract 0 (nb - 1) ++ ((O.push (at' Y (nb - 1))).push (at' X (na - 1))).reverse, ?_, j4.done2 e6 (by lia), sm⟩)
         simp [Pz]
        ·rw [Pb e6]
         have fin : ∀ m c d, ∃ O' na' nb' m' c' d', ((none, na - 1, nb - 1, ((O.map (kas_item it)).push (kas_item it (at' Y (nb - 1)))).push (kas_item it (at' X (na - 1))), m, c, d) : Option (Array Keyed) × Nat × Nat × Array Keyed × Nat × Nat × Nat) = (none, na', nb', O'.map (kas_item it), m', c', d') /\ 1 <= na' /\ 1 < nb' /\ na' < X.size /\ nb' <= Y.size /\ na' + nb' + bo <= X.size + Y.size /\ JH le (X.toList ++ Y.toList) X Y O' na' nb' := fun m c d => ⟨_, _, _, m, c, d, by rw [eO], by lia, by lia, by lia, by lia, by lia, j4⟩
         refine bW ?_ ?_
         ·exact Pc (.inr ⟨sm, fin _ _ _⟩)
         ·exact Pc ⟨sm, fin _ _ _⟩
     ·rw [Pb k0]
      have k00 : na = k := by lia
      subst k00
      have ky : ∀ i, i < na -> le (at' X i) (at' Y (nb - 1)) := k2
      refine Pe (aP (by lia) ?_)
      have j2 : JH le (X.toList ++ Y.toList) X Y (O.push (at' Y (nb - 1))) na (nb - 1) := (j.sy.one (by lia) (by lia) fun i h1 => ky i h1).sy
      by_cases e3 : nb - 1 = 1
      ·rw [Pa e3]
       refine Pc (.inl ⟨Y.extract 0 (nb - 1) ++ X.extract 0 na ++ (O.push (at' Y (nb - 1))).reverse, ?_, j2.first e3 (by lia) (by lia) hf, sm⟩)
       simp [Pz]
      ·rw [Pb e3]
       refine Pe (aP (by lia) ?_)
       refine Pe (cV o hc sm.1 hy (hx (na - 1) (by lia)) (by lia) (by lia) (fun i k h1 h2 => sy _ _ (by lia) (by lia)) fun k k1 k2 k3 => ?_)
       dsimp only
       simp only [QL] at k2 k3
       have j3 : JH le (X.toList ++ Y.toList) X Y (O.push (at' Y (nb - 1)) ++ (Y.extract k (nb - 1)).reverse) na k := (j2.sy.blk (by lia) (by lia) fun i l h1 h2 h3 => o.tr _ _ _ (sx l (na - 1) (by lia) (by lia)) (k3 i h1 h2)).sy
       by_cases k0 : nb - 1 - k > 0
       ·rw [Pa k0]
        by_cases e4 : k = 1
        ·rw [Pa e4]
         refine Pc (.inl ⟨Y.extract 0 k ++ X.extract 0 na ++ (O.push (at' Y (nb - 1)) ++ (Y.extract k (nb - 1)).reverse).reverse, ?_, j3.first e4 (by lia) (by lia) hf, sm⟩)
         simp [Pz]
        rw [Pb e4]
        by_cases e5 : k = 0
        ·rw [Pa e5]
         refine Pc (.inl ⟨X.extract 0 na ++ Y.extract 0 k ++ (O.push (at' Y (nb - 1)) ++ (Y.extract k (nb - 1)).reverse).reverse, ?_, j3.done1 e5 (by lia), sm⟩)
         simp [Pz]
        rw [Pb e5]
        refine Pe (aP (by lia) ?_)
        have j4 := j3.one (by lia) (by lia) fun i h1 => k2 i h1
        have eO : ((O.map (kas_item it)).push (kas_item it (at' Y (nb - 1))) ++ ((Y.map (kas_item it)).extract k (nb - 1)).reverse).push (kas_item it (at' X (na - 1))) = ((O.push (at' Y (nb - 1)) ++ (Y.extract k (nb - 1)).reverse).push (at' X (na - 1))).map (kas_item it) := by simp [Pz]
        by_cases e6 : na - 1 = 0
        ·rw [Pa e6]
         refine Pc (.inl ⟨X.extract 0 (na - 1) ++ Y.extract 0 k ++ ((O.push (at' Y (nb - 1)) ++ (Y.extract k (nb - 1)).reverse).push (at' X (na - 1))).reverse, ?_, j4.done2 e6 (by lia), sm⟩)
         simp [Pz]
        ·rw [Pb e6]
         have fin : ∀ m c d, ∃ O' na' nb' m' c' d', ((none, na - 1, k, ((O.map (kas_item it)).push (kas_item it (at' Y (nb - 1))) ++ ((Y.map (kas_item it)).extract k (nb - 1)).reverse).push (kas_item it (at' X (na - 1))), m, c, d) : Option (Array Keyed) × Nat × Nat × Array Keyed × Nat × Nat × Nat) = (none, na', nb', O'.map (kas_item it), m', c', d') /\ 1 <= na' /\ 1 < nb' /\ na' < X.size /\ nb' <= Y.size /\ na' + nb' + bo <= X.size + Y.size /\ JH le (X.toList ++ Y.toList) X Y O' na' nb' := fun m c d => ⟨_, _, _, m, c, d, by rw [eO], by lia, by lia, by lia, by lia, by lia, j4⟩
         refine bW ?_ ?_
         ·exact Pc (.inr ⟨sm, fin _ _ _⟩)
         ·exact Pc ⟨sm, fin _ _ _⟩
       ·rw [Pb k0]
        have k00 : k = nb - 1 := by lia
        subst k00
        refine Pe (aP (by lia) ?_)
        have j4 := j2.one (by lia) (by lia) fun i h1 => k2 i h1
        have eO : ((O.map (kas_item it)).push (kas_item it (at' Y (nb - 1)))).push (kas_item it (at' X (na - 1))) = ((O.push (at' Y (nb - 1))).push (at' X (na - 1))).map (kas_item it) := by simp
        by_cases e6 : na - 1 = 0
        ·rw [Pa e6]
         refine Pc (.inl ⟨X.extract 0 (na - 1) ++ Y.extract 0 (nb - 1) ++ ((O.push (at' Y (nb - 1))).push (at' X (na - 1))).reverse, ?_, j4.done2 e6 (by lia), sm⟩)
         simp [Pz]
        ·rw [Pb e6]
         have fin : ∀ m c d, ∃ O' na' nb' m' c' d', ((none, na - 1, nb - 1, ((O.map (kas_item it)).push (kas_item it (at' Y (nb - 1)))).push (kas_item it (at' X (na - 1))), m, c, d) : Option (Array Keyed) × Nat × Nat × Array Keyed × Nat × Nat × Nat) = (none, na', nb', O'.map (kas_item it), m', c', d') /\ 1 <= na' /\ 1 < nb' /\ na' < X.size /\ nb' <= Y.size /\ na' + nb' + bo <= X.size + Y.size /\ JH le (X.toList ++ Y.toList) X Y O' na' nb' := fun m c d => ⟨_, _, _, m, c, d, by rw [eO], by lia, by lia, by lia, by lia, by lia, j4⟩
         refine bW ?_ ?_
         ·exact Pc (.inr ⟨sm, fin _ _ _⟩)
         ·exact Pc ⟨sm, fin _ _ _⟩
    ·rw [Pb hm]
     refine Pe (P6 ?_)
     replace sm := sm.g (m)
     refine Pe (aP (by lia) ?_)
     refine Pe (cV o hc sm.1 hx (hy (nb - 1) (by lia)) (by lia) (by lia) (fun i k h1 h2 => sx _ _ (by lia) (by lia)) fun k k1 k2 k3 => ?_)
     dsimp only
     simp only [QL] at k2 k3
     by_cases k0 : na - k > 0
     ·rw [Pa k0]
      replace j := j.blk (m := k) (by lia) (by lia) fun i l h1 h2 h3 => o.tr _ _ _ (sy l (nb - 1) (by lia) (by lia)) (k3 i h1 h2)
      have eO : O.map (kas_item it) ++ ((X.map (kas_item it)).extract k na).reverse = (O ++ (X.extract k na).reverse).map (kas_item it) := by simp [Pz]
      rw [eO]
      by_cases e1 : k = 0
      ·rw [Pa e1]
       refine Pc (.inl ⟨X.extract 0 k ++ Y.extract 0 nb ++ (O ++ (X.extract k na).reverse).reverse, ?_, j.done2 e1 (by lia), sm⟩)
       simp [Pz]
      rw [Pb e1]
      have la2 : 1 <= k := by lia
      have lx2 : k < X.size := by lia
      have ls2 : k + nb + bo <= X.size + Y.size := by lia
      have ky : ∀ i, i < k -> le (at' X i) (at' Y (nb - 1)) := k2
      clear k2 k3 eO e1
      generalize O ++ (X.extract k na).reverse = O at j ⊢
      generalize na - k = kk at k0 ⊢
      clear k0 k1 la lx ls
      have la := la2
      have lx := lx2
      have ls := ls2
      clear la2 lx2 ls2
      obtain ⟨na, hna⟩ : ∃ na, na = k := ⟨k, rfl⟩
      subst hna
      refine Pe (aP (by lia) ?_)
      have j2 : JH le (X.toList ++ Y.toList) X Y (O.push (at' Y (nb - 1))) na (nb - 1) := (j.sy.one (by lia) (by lia) fun i h1 => ky i h1).sy
      by_cases e3 : nb - 1 = 1
      ·rw [Pa e3]
       refine Pc (.inl ⟨Y.extract 0 (nb - 1) ++ X.extract 0 na ++ (O.push (at' Y (nb - 1))).reverse, ?_, j2.first e3 (by lia) (by lia) hf, sm⟩)
       simp [Pz]
      ·rw [Pb e3]
       refine Pe (aP (by lia) ?_)
       refine Pe (cV o hc sm.1 hy (hx (na - 1) (by lia)) (by lia) (by lia) (fun i k h1 h2 => sy _ _ (by lia) (by lia)) fun k k1 k2 k3 => ?_)
       dsimp only
       simp only [QL] at k2 k3
       have j3 : JH le (X.toList ++ Y.toList) X Y (O.push (at' Y (nb - 1)) ++ (Y.extract k (nb - 1)).reverse) na k := (j2.sy.blk (by lia) (by lia) fun i l h1 h2 h3 => o.tr _ _ _ (sx l (na - 1) (by lia) (by lia)) (k3 i h1 h2)).sy
       by_cases k0 : nb - 1 - k > 0
       ·rw [Pa k0]
        by_cases e4 : k = 1
        ·rw [Pa e4]
         refine Pc (.inl ⟨Y.extract 0 k ++ X.extract 0 na ++ (O.push (at' Y (nb - 1)) ++ (Y.extract k (nb - 1)).reverse).reverse, ?_, j3.first e4 (by lia) (by lia) hf, sm⟩)
         simp [Pz]
        rw [Pb e4]
        by_cases e5 : k = 0
        ·rw [Pa e5]
         refine Pc (.inl ⟨X.extract 0 na ++ Y.extract 0 k ++ (O.push (at' Y (nb - 1)) ++ (Y.extract k (nb - 1)).reverse).reverse, ?_, j3.done1 e5 (by lia), sm⟩)
         simp [Pz]
        rw [Pb e5]
        refine Pe (aP (by lia) ?_)
        have j4 := j3.one (by lia) (by lia) fun i h1 => k2 i h1
        have eO : ((O.map (kas_item it)).push (kas_item it (at' Y (nb - 1))) ++ ((Y.map (kas_item it)).extract k (nb - 1)).reverse).push (kas_item it (at' X (na - 1))) = ((O.push (at' Y (nb - 1)) ++ (Y.extract k (nb - 1)).reverse).push (at' X (na - 1))).map (kas_item it) := by simp [Pz]
        by_cases e6 : na - 1 = 0
        ·rw [Pa e6]
         refine Pc (.inl ⟨X.extract 0 (na - 1) ++ Y.extract 0 k ++ ((O.push (at' Y (nb - 1)) ++ (Y.extract k (nb - 1)).reverse).push (at' X (na - 1))).reverse, ?_, j4.done2 e6 (by lia), sm⟩)
         simp [Pz]
        ·rw [Pb e6]
         have fin : ∀ m c d, ∃ O' na' nb' m' c' d', ((none, na - 1, k, ((O.map (kas_item it)).push (kas_item it (at' Y (nb - 1))) ++ ((Y.map (kas_item it)).extract k (nb - 1)).reverse).push (kas_item it (at' X (na - 1))), m, c, d) : Option (Array Keyed) × Nat × Nat × Array Keyed × Nat × Nat × Nat) = (none, na', nb', O'.map (kas_item it), m', c', d') /\ 1 <= na' /\ 1 < nb' /\ na' < X.size /\ nb' <= Y.size /\ na' + nb' + bo <= X.size + Y.size /\ JH le (X.toList ++ Y.toList) X Y O' na' nb' := fun m c d => ⟨_, _, _, m, c, d, by rw [eO], by lia, by lia, by lia, by lia, by lia, j4⟩
         refine bW ?_ ?_
         ·exact Pc (.inr ⟨sm, fin _ _ _⟩)
         ·exact Pc ⟨sm, fin _ _ _⟩
       ·rw [Pb k0]
        have k00 : k = nb - 1 := by lia
        subst k00
        refine Pe (aP (by lia) ?_)
        have j4 := j2.one (by lia) (by lia) fun i h1 => k2 i h1
        have eO : ((O.map (kas_item it)).push (kas_item it (at' Y (nb - 1)))).push (kas_item it (at' X (na - 1))) = ((O.push (at' Y (nb - 1))).push (at' X (na - 1))).map (kas_item it) := by simp
        by_cases e6 : na - 1 = 0
        ·rw [Pa e6]
         refine Pc (.inl ⟨X.extract 0 (na - 1) ++ Y.extract 0 (nb - 1) ++ ((O.push (at' Y (nb - 1))).push (at' X (na - 1))).reverse, ?_, j4.done2 e6 (by lia), sm⟩)
         simp [Pz]
        ·rw [Pb e6]
         have fin : ∀ m c d, ∃ O' na' nb' m' c' d', ((none, na - 1, nb - 1, ((O.map (kas_item it)).push (kas_item it (at' Y (nb - 1)))).push (kas_item it (at' X (na - 1))), m, c, d) : Option (Array Keyed) × Nat × Nat × Array Keyed × Nat × Nat × Nat) = (none, na', nb', O'.map (kas_item it), m', c', d') /\ 1 <= na' /\ 1 < nb' /\ na' < X.size /\ nb' <= Y.size /\ na' + nb' + bo <= X.size + Y.size /\ JH le (X.toList ++ Y.toList) X Y O' na' nb' := fun m c d => ⟨_, _, _, m, c, d, by rw [eO], by lia, by lia, by lia, by lia, by lia, j4⟩
         refine bW ?_ ?_
         ·exact Pc (.inr ⟨sm, fin _ _ _⟩)
         ·exact Pc ⟨sm, fin _ _ _⟩
     ·rw [Pb k0]
      have k00 : na = k := by lia
      subst k00
      have ky : ∀ i, i < na -> le (at' X i) (at' Y (nb - 1)) := k2
      refine Pe (aP (by lia) ?_)
      have j2 : JH le (X.toList ++ Y.toList) X Y (O.push (at' Y (nb - 1))) na (nb - 1) := (j.sy.one (by lia) (by lia) fun i h1 => ky i h1).sy
      by_cases e3 : nb - 1 = 1
      ·rw [Pa e3]
       refine Pc (.inl ⟨Y.extract 0 (nb - 1) ++ X.extract 0 na ++ (O.push (at' Y (nb - 1))).reverse, ?_, j2.first e3 (by lia) (by lia) hf, sm⟩)
       simp [Pz]
      ·rw [Pb e3]
       refine Pe (aP (by lia) ?_)
       refine Pe (cV o hc sm.1 hy (hx (na - 1) (by lia)) (by lia) (by lia) (fun i k h1 h2 => sy _ _ (by lia) (by lia)) fun k k1 k2 k3 => ?_)
       dsimp only
       simp only [QL] at k2 k3
       have j3 : JH le (X.toList ++ Y.toList) X Y (O.push (at' Y (nb - 1)) ++ (Y.extract k (nb - 1)).reverse) na k := (j2.sy.blk (by lia) (by lia) fun i l h1 h2 h3 => o.tr _ _ _ (sx l (na - 1) (by lia) (by lia)) (k3 i h1 h2)).sy
       by_cases k0 : nb - 1 - k > 0
       ·rw [Pa k0]
        by_cases e4 : k = 1
        ·rw [Pa e4]
         refine Pc (.inl ⟨Y.extract 0 k ++ X.extract 0 na ++ (O.push (at' Y (nb - 1)) ++ (Y.extract k (nb - 1)).reverse).reverse, ?_, j3.first e4 (by lia) (by lia) hf, sm⟩)
         simp [Pz]
        rw [Pb e4]
        by_cases e5 : k = 0
        ·rw [Pa e5]
         refine Pc (.inl ⟨X.extract 0 na ++ Y.extract 0 k ++ (O.push (at' Y (nb - 1)) ++ (Y.extract k (nb - 1)).reverse).reverse, ?_, j3.done1 e5 (by lia), sm⟩)
         simp [Pz]
        rw [Pb e5]
        refine Pe (aP (by lia) ?_)
        have j4 := j3.one (by lia) (by lia) fun i h1 => k2 i h1
        have eO : ((O.map (kas_item it)).push (kas_item it (at' Y (nb - 1))) ++ ((Y.map (kas_item it)).extract k (nb - 1)).reverse).push (kas_item it (at' X (na - 1))) = ((O.push (at' Y (nb - 1)) ++ (Y.extract k (nb - 1)).reverse).push (at' X (na - 1))).map (kas_item it) := by simp [Pz]
        by_cases e6 : na - 1 = 0
        ·rw [Pa e6]
         refine Pc (.inl ⟨X.extract 0 (na - 1) ++ Y.extract 0 k ++ ((O.push (at' Y (nb - 1)) ++ (Y.extract k (nb - 1)).reverse).push (at' X (na - 1))).reverse, ?_, j4.done2 e6 (by lia), sm⟩)
         simp [Pz]
        ·rw [Pb e6]
         have fin : ∀ m c d, ∃ O' na' nb' m' c' d', ((none, na - 1, k, ((O.map (kas_item it)).push (kas_item it (at' Y (nb - 1))) ++ ((Y.map (kas_item it)).extract k (nb - 1)).reverse).push (kas_item it (at' X (na - 1))), m, c, d) : Option (Array Keyed) × Nat × Nat × Array Keyed × Nat × Nat × Nat) = (none, na', nb', O'.map (kas_item it), m', c', d') /\ 1 <= na' /\ 1 < nb' /\ na' < X.size /\ nb' <= Y.size /\ na' + nb' + bo <= X.size + Y.size /\ JH le (X.toList ++ Y.toList) X Y O' na' nb' := fun m c d => ⟨_, _, _, m, c, d, by rw [eO], by lia, by lia, by lia, by lia, by lia, j4⟩
         refine bW ?_ ?_
         ·exact Pc (.inr ⟨sm, fin _ _ _⟩)
         ·exact Pc ⟨sm, fin _ _ _⟩
       ·rw [Pb k0]
        have k00 : k = nb - 1 := by lia
        subst k00
        refine Pe (aP (by lia) ?_)
        have j4 := j2.one (by lia) (by lia) fun i h1 => k2 i h1
        have eO : ((O.map (kas_item it)).push (kas_item it (at' Y (nb - 1)))).push (kas_item it (at' X (na - 1))) = ((O.push (at' Y (nb - 1))).push (at' X (na - 1))).map (kas_item it) := by simp
        by_cases e6 : na - 1 = 0
        ·rw [Pa e6]
         refine Pc (.inl ⟨X.extract 0 (na - 1) ++ Y.extract 0 (nb - 1) ++ ((O.push (at' Y (nb - 1))).push (at' X (na - 1))).reverse, ?_, j4.done2 e6 (by lia), sm⟩)
         simp [Pz]
        ·rw [Pb e6]
         have fin : ∀ m c d, ∃ O' na' nb' m' c' d', ((none, na - 1, nb - 1, ((O.map (kas_item it)).push (kas_item it (at' Y (nb - 1)))).push (kas_item it (at' X (na - 1))), m, c, d) : Option (Array Keyed) × Nat × Nat × Array Keyed × Nat × Nat × Nat) = (none, na', nb', O'.map (kas_item it), m', c', d') /\ 1 <= na' /\ 1 < nb' /\ na' < X.size /\ nb' <= Y.size /\ na' + nb' + bo <= X.size + Y.size /\ JH le (X.toList ++ Y.toList) X Y O' na' nb' := fun m c d => ⟨_, _, _, m, c, d, by rw [eO], by lia, by lia, by lia, by lia, by lia, j4⟩
         refine bW ?_ ?_
         ·exact Pc (.inr ⟨sm, fin _ _ _⟩)
         ·exact Pc ⟨sm, fin _ _ _⟩
end
section
variable {α : Type}
theorem Gn (lo : Nat) : ∀ (R : List α) (p : Array α) (j : Nat), lo + j + R.length <= p.size -> ((R.zipIdx j).foldl (fun a x => a.setIfInBounds (lo + x.2) x.1) p).toList = p.toList.take (lo + j) ++ R ++ p.toList.drop (lo + j + R.length)
 | [], p, j, _ => by simp
 | r :: R, p, j, h => by
  have hl : lo + j < p.toList.length := by simp at h ⊢; lia
  rw [List.zipIdx_cons, List.foldl_cons, Gn lo R _ (j + 1) (by simp at h ⊢; lia)]
  have e1 : (p.setIfInBounds (lo + j) r).toList = p.toList.set (lo + j) r := by simp
  have e2 : (p.toList.set (lo + j) r).take (lo + (j + 1)) = p.toList.take (lo + j) ++ [r] := by
   rw [<- Nat.add_assoc, List.take_succ_eq_append_getElem (by simpa using hl), List.take_set_of_le (Pi _)]
   simp
  have e3 : (p.toList.set (lo + j) r).drop (lo + (j + 1) + R.length) = p.toList.drop (lo + j + (r :: R).length) := by
   rw [List.drop_set_of_lt (by lia), Pu]
   congr 1; lia
  rw [e1, e2, e3]
  simp
end
section
variable {prog : Program} {w : World} {A : Around} {E : Value -> Shared -> Prop} {s : Shared} {κ : SortKind} {it : Array Keyed} {n : Nat} {lt : Nat -> Nat -> Bool} {le : Nat -> Nat -> Prop}
def Stt (κ : SortKind) (it : Array Keyed) (st : SortSt) (p : Array Nat) (pend : Array (Nat × Nat × Nat)) : Prop := kindOf st = κ /\ arrOf st = p.map (kas_item it) /\ pendingOf st = pend /\ failedOf st = none
structure Srtd (le : Nat -> Nat -> Prop) (p p' : Array Nat) (lo hi : Nat) : Prop where
 perm : p'.Perm p
 out : ∀ k, k < lo \/ hi <= k -> at' p' k = at' p k
 asc : ∀ i j, lo <= i -> i <= j -> j < hi -> le (at' p' i) (at' p' j)
theorem HU {σ : Type} {M : Model} {x : σ} {Q : PUnit -> σ -> Prop} {st : σ} (h : Q ⟨⟩ x) : wpS M A E s (set x : StateT σ Sem PUnit) Q st := by
 unfold wpS
 rw [StateT.run_set]
 exact Pm ⟨rfl, h⟩
theorem NQ (l : List Nat) (k : Nat) : at' l.toArray k = (l[k]?).getD 0 := by simp [at']
theorem KC (p : Array Nat) (k : Nat) : at' p k = (p.toList[k]?).getD 0 := by simp [at']
theorem CG {p : Array Nat} {R : List Nat} {lo : Nat} (h : lo + R.length <= p.size) (k : Nat) : at' (p.toList.take lo ++ R ++ p.toList.drop (lo + R.length)).toArray k = if lo <= k /\ k < lo + R.length then (R[k - lo]?).getD 0 else at' p k := by
 rw [NQ, KC]
 have hl : (p.toList.take lo).length = lo := by rw [QT]; simp; lia
 by_cases h1 : k < lo
 ·rw [Pb (by lia), PQ, Rf (by lia), Rx, Pa h1]
 ·by_cases h2 : k < lo + R.length
  ·rw [Pa ⟨by lia, h2⟩, PQ, Q2 (by lia), hl, Rf (by lia)]
  ·rw [Pb (by lia), Q2 (by rw [Pj, hl]; lia), Pj, hl, Rk]
   congr 2; lia
theorem Fx {p : Array Nat} {R : List Nat} {lo : Nat} (h : R.Perm (p.extract lo (lo + R.length)).toList) : (p.toList.take lo ++ R ++ p.toList.drop (lo + R.length)).toArray.Perm p := by
 rw [Rg]
 show (p.toList.take lo ++ R ++ p.toList.drop (lo + R.length)).Perm p.toList
 refine ((h.append_left _).append_right _).trans ?_
 rw [<- lN (by lia), RM]
theorem Fq {p : Array Nat} {i j k : Nat} (h : i + k < j) : at' (p.extract i j) k = at' p (i + k) := by
 rw [KC, KC, Ri, Rj, Rx, Pa (by lia), Rk]
theorem AI {p : Array Nat} {i j : Nat} (h : j <= p.size) : (p.extract i j).size = j - i := by simp; lia
theorem El (o : Ord lt le) (hc : vU prog w A s κ it n lt) {i sa na pw sb nb q : Nat} {p : Array Nat} {pend : Array (Nat × Nat × Nat)} {Q : Bool -> SortSt -> Prop} {st : SortSt} (S : Stt κ it st p pend) (h1 : pend[i]? = some (sa, na, pw)) (h2 : pend[i + 1]? = some (sb, nb, q))
  (hsb : sb = sa + na) (na1 : 1 <= na) (nb1 : 1 <= nb) (hz : sb + nb <= p.size) (hp : ∀ i, i < p.size -> at' p i < n) (sA : ∀ i j, i <= j -> j < na -> le (at' p (sa + i)) (at' p (sa + j))) (sB : ∀ i j, i <= j -> j < nb -> le (at' p (sb + i)) (at' p (sb + j)))
  (h : ∀ p' st', Stt κ it st' p' ((pend.setIfInBounds i (sa, na + nb, pw)).eraseIdxIfInBounds (i + 1)) -> Srtd le p p' sa (sa + (na + nb)) -> Q true st') : wpS (model prog w) A E s (mergeAt' i) Q st := by
 obtain ⟨S1, S2, S3, S4⟩ := S
 refine Pe (Qg ?_)
 have S3' : (sortPriv% PySem.Builtin.SortState.pending) st = pend := S3
 have S2' : (sortPriv% PySem.Builtin.SortState.a) st = p.map (kas_item it) := S2
 rw [S3', h1, h2]
 refine Pe (HU ?_)
 rw [S2']
 generalize hst : (sortPriv% PySem.Builtin.SortState.mk) _ _ _ _ _ = st2
 have T : Stt κ it st2 p ((pend.setIfInBounds i (sa, na + nb, pw)).eraseIdxIfInBounds (i + 1)) := by subst hst; exact ⟨S1, rfl, rfl, S4⟩
 clear hst S1 S2 S3 S4 S2' S3' h1 h2
 generalize ((pend.setIfInBounds i (sa, na + nb, pw)).eraseIdxIfInBounds (i + 1)) = pend2 at T h
 have sA' : ∀ i j, sa <= i -> i <= j -> j < sb -> le (at' p i) (at' p j) := fun i j a1 a2 a3 => by
  have := sA (i - sa) (j - sa) (by lia) (by lia)
  rwa [show sa + (i - sa) = i by lia, show sa + (j - sa) = j by lia] at this
 have sB' : ∀ i j, sb <= i -> i <= j -> j < sb + nb -> le (at' p i) (at' p j) := fun i j a1 a2 a3 => by
  have := sB (i - sb) (j - sb) (by lia) (by lia)
  rwa [show sb + (i - sb) = i by lia, show sb + (j - sb) = j by lia] at this
 refine Pe (aP (by lia) ?_)
 refine Pe (cV o hc T.1 hp (hp sb (by lia)) (by lia) (by lia) sA fun k k1 k2 k3 => ?_)
 have k2' : ∀ i, sa <= i -> i < sa + k -> le (at' p i) (at' p sb) := fun i a1 a2 => by
  have := k2 (i - sa) (by lia)
  rwa [show sa + (i - sa) = i by lia] at this
 have k3' : ∀ i, sa + k <= i -> i < sb -> le (at' p sb) (at' p i) := fun i a1 a2 => by
  have := k3 (i - sa) (by lia) (by lia)
  rwa [show sa + (i - sa) = i by lia] at this
 clear k2 k3
 dsimp only
 simp only [Qo]
 by_cases e1 : na - k = 0
 ·rw [Pa e1]
  refine Pc (h p st2 T ⟨.refl _, fun _ _ => rfl, fun i j a1 a2 a3 => ?_⟩)
  by_cases b1 : j < sb
  ·exact sA' i j a1 a2 b1
  ·by_cases b2 : sb <= i
   ·exact sB' i j b2 a2 (by lia)
   ·exact o.tr _ _ _ (k2' i a1 (by lia)) (sB' sb j (Pi _) (by lia) (by lia))
 rw [Pb e1]
 refine Pe (aP (by lia) ?_)
 have e2 : sa + k + (na - k) - 1 = sb - 1 := by lia
 rw [e2]
 refine Pe (cV o hc T.1 hp (hp (sb - 1) (by lia)) (by lia) (by lia) sB fun m m1 k2 k3 => ?_)
 have m2' : ∀ i, sb <= i -> i < sb + m -> le (at' p i) (at' p (sb - 1)) := fun i a1 a2 => by
  have := k2 (i - sb) (by lia)
  rwa [show sb + (i - sb) = i by lia] at this
 have m3' : ∀ i, sb + m <= i -> i < sb + nb -> le (at' p (sb - 1)) (at' p i) := fun i a1 a2 => by
  have := k3 (i - sb) (by lia) (by lia)
  rwa [show sb + (i - sb) = i by lia] at this
 clear k2 k3
 dsimp only
 by_cases e3 : m = 0
 ·rw [Pa e3]
  subst e3
  refine Pc (h p st2 T ⟨.refl _, fun _ _ => rfl, fun i j a1 a2 a3 => ?_⟩)
  by_cases b1 : j < sb
  ·exact sA' i j a1 a2 b1
  ·by_cases b2 : sb <= i
   ·exact sB' i j b2 a2 (by lia)
   ·exact o.tr _ _ _ (sA' i (sb - 1) a1 (by lia) (by lia)) (m3' j (by lia) (by lia))
 rw [Pb e3]
 generalize hr : na - k = r
 have hr1 : na = k + r := by lia
 have hr0 : 0 < r := by lia
 clear hr e1 e2
 have zx : (p.extract (sa + k) sb).size = r := by rw [AI (by lia)]; lia
 have zy : (p.extract sb (sb + m)).size = m := by rw [AI (by lia)]; lia
 have ax : ∀ i, i < r -> at' (p.extract (sa + k) sb) i = at' p (sa + k + i) := fun i hi => Fq (by lia)
 have ay : ∀ i, i < m -> at' (p.extract sb (sb + m)) i = at' p (sb + i) := fun i hi => Fq (by lia)
 have exy : (p.extract (sa + k) sb).toList ++ (p.extract sb (sb + m)).toList = (p.extract (sa + k) (sb + m)).toList := by
  have a1 := lN (X := p) (i := sa + k) (j := sb) (by lia)
  have a2 := lN (X := p) (i := sb) (j := sb + m) (by lia)
  have a3 := lN (X := p) (i := sa + k) (j := sb + m) (by lia)
  rw [a1, a3, PQ] at a2
  exact (List.append_cancel_left a2).symm
 have key : ∀ R : Array Nat, lL le ((p.extract (sa + k) sb).toList ++ (p.extract sb (sb + m)).toList) R -> R.toList.length = r + m /\ Srtd le p (p.toList.take (sa + k) ++ R.toList ++ p.toList.drop (sa + k + R.toList.length)).toArray sa (sa + (na + nb)) := fun R g => by
  have hlen : R.toList.length = r + m := by
   rw [g.2.length_eq, Pj, Qa, Qa, zx, zy]
  refine ⟨hlen, ?_, fun i hi => ?_, fun i j a1 a2 a3 => ?_⟩
  ·refine Fx ?_
   rw [hlen, show sa + k + (r + m) = sb + m by lia, <- exy]
   exact g.2
  ·rw [CG (by lia), Pb (by lia)]
  ·rw [CG (by lia), CG (by lia), hlen]
   have memR : ∀ i, i < r + m -> ∃ c, (R.toList[i]?).getD 0 = at' p c /\ ((sa + k <= c /\ c < sb) \/ (sb <= c /\ c < sb + m)) := fun i hi => by
    have hi' : i < R.toList.length := by lia
    have hm : R.toList[i] ∈ R.toList := List.getElem_mem hi'
    have e : (R.toList[i]?).getD 0 = R.toList[i] := by rw [Qf hi']; rfl
    rw [e]
    rcases Pk.mp (g.2.mem_iff.mp hm) with hm | hm
    ·obtain ⟨c, c1, c2, c3, c4⟩ := tj hm
     exact ⟨c, c4.symm, .inl ⟨c1, c2⟩⟩
    ·obtain ⟨c, c1, c2, c3, c4⟩ := tj hm
     exact ⟨c, c4.symm, .inr ⟨c1, c2⟩⟩
   by_cases b1 : sa + k <= i /\ i < sa + k + (r + m)
   ·rw [Pa b1]
    by_cases b2 : sa + k <= j /\ j < sa + k + (r + m)
    ·rw [Pa b2]
     by_cases b3 : i = j
     ·subst b3; exact o.rf _
     ·have := QH.mp g.1 (i - (sa + k)) (j - (sa + k)) (by lia) (by lia) (by lia)
      rw [Qf (by lia), Qf (by lia)]
      exact this
    ·rw [Pb b2]
     obtain ⟨c, c1, c2⟩ := memR (i - (sa + k)) (by lia)
     rw [c1]
     rcases c2 with c2 | c2
     ·exact o.tr _ _ _ (sA' c (sb - 1) (by lia) (by lia) (by lia)) (m3' j (by lia) (by lia))
     ·exact sB' c j (by lia) (by lia) (by lia)
   ·rw [Pb b1]
    by_cases b2 : sa + k <= j /\ j < sa + k + (r + m)
    ·rw [Pa b2]
     obtain ⟨c, c1, c2⟩ := memR (j - (sa + k)) (by lia)
     rw [c1]
     rcases c2 with c2 | c2
     ·exact sA' i c (by lia) (by lia) (by lia)
     ·exact o.tr _ _ _ (k2' i (by lia) (by lia)) (sB' sb c (Pi _) (by lia) (by lia))
    ·rw [Pb b2]
     by_cases b3 : j < sb
     ·exact sA' i j a1 a2 b3
     ·by_cases b4 : sb <= i
      ·exact sB' i j b4 a2 (by lia)
      ·exact o.tr _ _ _ (k2' i a1 (by lia)) (sB' sb j (Pi _) (by lia) (by lia))
 have fin : ∀ (R : Array Nat) (st3 : SortSt), Same κ st2 st3 -> lL le ((p.extract (sa + k) sb).toList ++ (p.extract sb (sb + m)).toList) R ->
   Q (failedOf st3).isNone (setArr st3 ((R.map (kas_item it)).toList.zipIdx.foldl (fun a x => a.setIfInBounds (sa + k + x.2) x.1) (arrOf st3))) := fun R st3 sm g => by
  obtain ⟨hlen, S⟩ := key R g
  have ea : arrOf st3 = p.map (kas_item it) := sm.2.1.trans T.2.1
  have ef : failedOf st3 = none := sm.2.2.2.trans T.2.2.2
  rw [ef]
  refine h _ _ ⟨sm.1, ?_, sm.2.2.1.trans T.2.2.1, ef⟩ S
  show (R.map (kas_item it)).toList.zipIdx.foldl (fun a x => a.setIfInBounds (sa + k + x.2) x.1) (arrOf st3) = _
  rw [ea]
  apply Array.toList_inj.mp
  rw [Gn (sa + k) _ _ 0 (by simp at hlen ⊢; lia)]
  simp
 have cx : (p.map (kas_item it)).extract (sa + k) sb = (p.extract (sa + k) sb).map (kas_item it) := by simp
 have cy : (p.map (kas_item it)).extract sb (sb + m) = (p.extract sb (sb + m)).map (kas_item it) := by simp
 rw [cx, cy]
 have hx : ∀ i, i < (p.extract (sa + k) sb).size -> at' (p.extract (sa + k) sb) i < n := fun i hi => by rw [ax i (by lia)]; exact hp _ (by lia)
 have hy : ∀ i, i < (p.extract sb (sb + m)).size -> at' (p.extract sb (sb + m)) i < n := fun i hi => by rw [ay i (by lia)]; exact hp _ (by lia)
 have sx : ∀ i j, i <= j -> j < (p.extract (sa + k) sb).size -> le (at' (p.extract (sa + k) sb) i) (at' (p.extract (sa + k) sb) j) := fun i j a1 a2 => by rw [ax i (by lia), ax j (by lia)]; exact sA' _ _ (by lia) (by lia) (by lia)
 have sy : ∀ i j, i <= j -> j < (p.extract sb (sb + m)).size -> le (at' (p.extract sb (sb + m)) i) (at' (p.extract sb (sb + m)) j) := fun i j a1 a2 => by rw [ay i (by lia), ay j (by lia)]; exact sB' _ _ (by lia) (by lia) (by lia)
 have hf : ∀ i, i < (p.extract (sa + k) sb).size -> le (at' (p.extract sb (sb + m)) 0) (at' (p.extract (sa + k) sb) i) := fun i a1 => by rw [ay 0 (by lia), ax i (by lia)]; exact k3' _ (by lia) (by lia)
 have hl : ∀ i, i < (p.extract sb (sb + m)).size -> le (at' (p.extract sb (sb + m)) i) (at' (p.extract (sa + k) sb) ((p.extract (sa + k) sb).size - 1)) := fun i a1 => by
  rw [zx, ay i (by lia), ax _ (by lia), show sa + k + (r - 1) = sb - 1 by lia]
  exact m2' _ (by lia) (by lia)
 by_cases e4 : r <= m
 ·rw [Pa e4]
  refine Pe (EN o hc T.1 hx hy (by lia) (by lia) sx sy hf hl fun R st3 sm g => ?_)
  exact Pe (P6 (Pe (Qg (Pc (fin R st3 sm g)))))
 ·rw [Pb e4]
  refine Pe (EA o hc T.1 hx hy (by lia) (by lia) sx sy hf hl fun R st3 sm g => ?_)
  exact Pe (P6 (Pe (Qg (Pc (fin R st3 sm g)))))
end
section
variable {le : Nat -> Nat -> Prop} {lt : Nat -> Nat -> Bool} {p p' p2 : Array Nat} {a b c : Nat}
def Up (le : Nat -> Nat -> Prop) (p : Array Nat) (a b : Nat) : Prop := ∀ i j, a <= i -> i <= j -> j < b -> le (at' p i) (at' p j)
def Dn (le : Nat -> Nat -> Prop) (p : Array Nat) (a b : Nat) : Prop := ∀ i j, a <= i -> i <= j -> j < b -> le (at' p j) (at' p i)
def Es (le : Nat -> Nat -> Prop) (p : Array Nat) (a b : Nat) : Prop := ∀ k, a <= k -> k < b -> le (at' p k) (at' p (b - 1)) /\ le (at' p (b - 1)) (at' p k)
def Near (p p' : Array Nat) (lo hi : Nat) : Prop := p'.Perm p /\ ∀ k, k < lo \/ hi <= k -> at' p' k = at' p k
theorem Near.rf : Near p p a b := ⟨.refl _, fun _ _ => rfl⟩
theorem Near.tr (h : Near p p' a b) (h2 : Near p' p2 a b) : Near p p2 a b := ⟨h2.1.trans h.1, fun k hk => (h2.2 k hk).trans (h.2 k hk)⟩
theorem Near.wide {d e : Nat} (h : Near p p' a b) (h1 : d <= a) (h2 : b <= e) : Near p p' d e := ⟨h.1, fun k hk => h.2 k (by lia)⟩
theorem Near.size (h : Near p p' a b) : p'.size = p.size := h.1.size_eq
theorem gd (h : b <= p.size) : Near p (kas_rev p a b) a b := ⟨mirror_perm _ _ _ _, fun k hk => by rw [cH h, Pb (by lia)]⟩
theorem AG {d : Nat} (h : b < p.size) (hd : d <= b) : Near p (bubble p b d) (b - d) (b + 1) := ⟨bubble_perm _ _ _, fun k hk => by rw [rM h hd, Pb (by lia), Pb (by lia)]⟩
theorem Up.succ (o : Ord lt le) (h : Up le p a b) (hab : a < b) (hl : le (at' p (b - 1)) (at' p b)) : Up le p a (b + 1) := fun i j h1 h2 h3 => by
 by_cases e : j = b
 ·subst e
  by_cases e2 : i = j
  ·subst e2; exact o.rf _
  ·exact o.tr _ _ _ (h i (j - 1) h1 (by lia) (by lia)) hl
 ·exact h i j h1 h2 (by lia)
theorem Dn.succ (o : Ord lt le) (h : Dn le p a b) (hab : a < b) (hl : le (at' p b) (at' p (b - 1))) : Dn le p a (b + 1) := fun i j h1 h2 h3 => by
 by_cases e : j = b
 ·subst e
  by_cases e2 : i = j
  ·subst e2; exact o.rf _
  ·exact o.tr _ _ _ hl (h i (j - 1) h1 (by lia) (by lia))
 ·exact h i j h1 h2 (by lia)
theorem Kx (o : Ord lt le) : Up le p a (a + 1) := fun i j h1 h2 h3 => by
 have : i = j := by lia
 subst this; exact o.rf _
theorem Up.of (h : Up le p a b) (k : ∀ i, a <= i -> i < b -> at' p' i = at' p i) : Up le p' a b := fun i j h1 h2 h3 => by
 rw [k i h1 (by lia), k j (by lia) h3]; exact h i j h1 h2 h3
theorem Dn.rev (o : Ord lt le) (h : Dn le p a b) (hb : b <= p.size) (hc : a <= c) (he : Es le p c b) : Dn le (kas_rev p c b) a b := by
 have key : ∀ k, a <= k -> k < b -> ∃ k', a <= k' /\ k' < b /\ at' (kas_rev p c b) k = at' p k' /\ le (at' p k') (at' p k) /\ le (at' p k) (at' p k') := fun k hk0 hk => by
  rw [cH hb]
  split
  ·rename_i h1
   refine ⟨c + b - 1 - k, by lia, by lia, rfl, ?_⟩
   obtain ⟨a1, a2⟩ := he k h1.1 hk
   obtain ⟨b1, b2⟩ := he (c + b - 1 - k) (by lia) (by lia)
   exact ⟨o.tr _ _ _ b1 a2, o.tr _ _ _ a1 b2⟩
  ·exact ⟨k, hk0, hk, rfl, o.rf _, o.rf _⟩
 intro i j h0 hij hj
 obtain ⟨i', _, _, e1, x1, x2⟩ := key i h0 (by lia)
 obtain ⟨j', _, _, e2, y1, y2⟩ := key j (by lia) hj
 rw [e1, e2]
 exact o.tr _ _ _ y1 (o.tr _ _ _ (h i j h0 hij hj) x2)
theorem Dn.turn (h : Dn le p a b) (hb : b <= p.size) : Up le (kas_rev p a b) a b := by
 intro i j h0 hij hj
 rw [cH hb, cH hb, Pa ⟨h0, by lia⟩, Pa ⟨by lia, hj⟩]
 exact h _ _ (by lia) (by lia) (by lia)
theorem qO (o : Ord lt le) (h : a + 1 = b) : Es le p a b := fun k h1 h2 => by
 have : k = b - 1 := by lia
 subst this
 exact ⟨o.rf _, o.rf _⟩
end
section
variable {prog : Program} {w : World} {A : Around} {E : Value -> Shared -> Prop} {s : Shared} {κ : SortKind} {it : Array Keyed} {n : Nat} {lt : Nat -> Nat -> Bool} {le : Nat -> Nat -> Prop} {p : Array Nat} {pend : Array (Nat × Nat × Nat)} {st : SortSt}
theorem jg (hc : vU prog w A s κ it n lt) (S : Stt κ it st p pend) (hp : ∀ i, i < p.size -> at' p i < n) {i j : Nat} {Q : Option Bool -> SortSt -> Prop} (hi : i < p.size) (hj : j < p.size) (h : Q (some (lt (at' p i) (at' p j))) st) : wpS (model prog w) A E s (ltAt' i j) Q st := by
 rw [ltAt'_eq]
 refine Pe (Qg ?_)
 dsimp only
 rw [S.2.1]
 exact Pe (aP hi (Pe (aP hj (w_lt hc S.1 (hp _ hi) (hp _ hj) h))))
theorem pK (S : Stt κ it st p pend) {i j : Nat} {Q : Unit -> SortSt -> Prop} (h : ∀ st', Stt κ it st' (kas_rev p i j) pend -> Q () st') : wpS (model prog w) A E s (reverseSlice' i j) Q st := by
 rw [reverseSlice'_eq]
 refine P6 (h _ ⟨S.1, ?_, S.2.2⟩)
 show mirror (arrOf st) i j ((j - i) / 2) = _
 rw [S.2.1]
 exact kas_swaps_map (kas_item it) (fun k => i + k) (fun k => j - 1 - k) _ p
theorem Ko (S : Stt κ it st p pend) {i j : Nat} {Q : Unit -> SortSt -> Prop} (h : ∀ st', Stt κ it st' (bubble p i (i - j)) pend -> Q () st') : wpS (model prog w) A E s (moveDown' i j) Q st := by
 rw [moveDown'_eq]
 refine P6 (h _ ⟨S.1, ?_, S.2.2⟩)
 show bubble (arrOf st) i (i - j) = _
 rw [S.2.1]
 exact kas_swaps_map (kas_item it) (fun k => i - k) (fun k => i - k - 1) _ p
theorem My (o : Ord lt le) (hc : vU prog w A s κ it n lt) (S : Stt κ it st p pend) (hp : ∀ p' : Array Nat, p'.Perm p -> ∀ i, i < p'.size -> at' p' i < n) {lo m ok : Nat} {Q : Bool -> SortSt -> Prop} (hz : lo + m <= p.size) (hok : ok <= m) (ok1 : 1 <= ok) (hs : Up le p lo (lo + ok))
  (h : ∀ p' st', Stt κ it st' p' pend -> Near p p' lo (lo + m) -> Up le p' lo (lo + m) -> Q true st') : wpS (model prog w) A E s (binarySort' lo m ok) Q st := by
 refine Pe (PL (PM (I := fun k c st' => c = (none, ()) /\ ∃ p', Stt κ it st' p' pend /\ Near p p' lo (lo + m) /\ Up le p' lo (lo + min k m))
  (Q := fun c st' => c = (none, ()) /\ ∃ p', Stt κ it st' p' pend /\ Near p p' lo (lo + m) /\ Up le p' lo (lo + m)) ?step ?fin ?init) ?post)
 case post =>
  rintro c st' ⟨rfl, p', S', N, U⟩
  exact Pc (h p' st' S' N U)
 case init => exact ⟨rfl, p, S, .rf, by rw [show min (max ok 1) m = ok by lia]; exact hs⟩
 case fin =>
  rintro c st' ⟨hc', p', S', N, U⟩
  exact ⟨hc', p', S', N, by rwa [show min (max (max ok 1) m) m = m by lia] at U⟩
 case step =>
  rintro k c st' hak hkn ⟨rfl, p', S', N, U⟩
  rw [show min k m = k by lia] at U
  have hsz := N.size
  have hk1 : 1 <= k := by lia
  have hkm : k < m := by lia
  clear hak hkn hok ok1 hs
  refine Pe (PL (PM (I := fun x c st'' => st'' = st' /\ ∃ l r, c = (none, l, r) /\ l <= r /\ r <= k /\ r - l <= k - x /\
    (∀ i, i < l -> le (at' p' (lo + i)) (at' p' (lo + k))) /\ (∀ i, r <= i -> i < k -> le (at' p' (lo + k)) (at' p' (lo + i))))
   (Q := fun c st'' => st'' = st' /\ ∃ l r, c = (none, l, r) /\ l <= k /\
    (∀ i, i < l -> le (at' p' (lo + i)) (at' p' (lo + k))) /\ (∀ i, l <= i -> i < k -> le (at' p' (lo + k)) (at' p' (lo + i)))) ?istep ?ifin ?iinit) ?ipost)
  case iinit => exact ⟨rfl, 0, k, rfl, by lia, by lia, by lia, fun i hi => by lia, fun i h1 h2 => by lia⟩
  case ifin =>
   rintro c st'' ⟨rfl, l, r, rfl, hlr, hrk, hm, hlo, hhi⟩
   have : l = r := by lia
   subst this
   exact ⟨rfl, l, l, rfl, hrk, hlo, hhi⟩
  case istep =>
   rintro x c st'' _ hxk ⟨rfl, l, r, rfl, hlr, hrk, hm, hlo, hhi⟩
   dsimp only
   by_cases hge : l ≥ r
   ·rw [Pa hge]
    have : l = r := by lia
    subst this
    exact Pc ⟨rfl, l, l, rfl, hrk, hlo, hhi⟩
   ·rw [Pb hge]
    refine Pe (jg hc S' (hp _ N.1) (by lia) (by lia) ?_)
    dsimp only
    cases cw : lt (at' p' (lo + k)) (at' p' (lo + (l + r) / 2)) with
    | true =>
     rw [Pa rfl]
     exact Pc ⟨rfl, l, (l + r) / 2, rfl, by lia, by lia, by lia, hlo, fun i h1 h2 => o.tr _ _ _ (o.yes _ _ cw) (U _ _ (by lia) (by lia) (by lia))⟩
    | false =>
     rw [Pb (by decide)]
     exact Pc ⟨rfl, (l + r) / 2 + 1, r, rfl, by lia, by lia, by lia, fun i h1 => o.tr _ _ _ (U _ _ (by lia) (by lia) (by lia)) (o.no _ _ cw), hhi⟩
  case ipost =>
   rintro c st'' ⟨rfl, l, r, rfl, hlk, hlo, hhi⟩
   dsimp only
   refine Pe (Ko S' fun st3 S3 => Pc ⟨rfl, _, S3, N.tr ((AG (by lia) (by lia)).wide (by lia) (by lia)), ?_⟩)
   rw [show min (k + 1) m = k + 1 by lia, show lo + k - (lo + l) = k - l by lia]
   intro i j h1 h2 h3
   rw [rM (by lia) (by lia), rM (by lia) (by lia)]
   rw [show lo + k - (k - l) = lo + l by lia]
   by_cases i1 : i = lo + l
   ·rw [Pa i1]
    by_cases j1 : j = lo + l
    ·rw [Pa j1]; exact o.rf _
    ·rw [Pb j1]
     rw [Pa (by lia)]
     have := hhi (j - 1 - lo) (by lia) (by lia)
     rwa [show lo + (j - 1 - lo) = j - 1 by lia] at this
   ·rw [Pb i1]
    by_cases j1 : j = lo + l
    ·rw [Pa j1, Pb (by lia)]
     have := hlo (i - lo) (by lia)
     rwa [show lo + (i - lo) = i by lia] at this
    ·rw [Pb j1]
     by_cases i2 : lo + l < i /\ i <= lo + k
     ·rw [Pa i2, Pa (by lia)]
      exact U _ _ (by lia) (by lia) (by lia)
     ·rw [Pb i2]
      by_cases j2 : lo + l < j /\ j <= lo + k
      ·rw [Pa j2]
       exact U _ _ (by lia) (by lia) (by lia)
      ·rw [Pb j2]
       exact U _ _ (by lia) (by lia) (by lia)
end
section
variable {prog : Program} {w : World} {A : Around} {E : Value -> Shared -> Prop} {s : Shared} {κ : SortKind} {it : Array Keyed} {n : Nat} {lt : Nat -> Nat -> Bool} {le : Nat -> Nat -> Prop} {p : Array Nat} {pend : Array (Nat × Nat × Nat)} {st : SortSt}
theorem HJ (o : Ord lt le) (hc : vU prog w A s κ it n lt) (S : Stt κ it st p pend) (hp : ∀ p' : Array Nat, p'.Perm p -> ∀ i, i < p'.size -> at' p' i < n) {lo nrem : Nat} {Q : Option Nat -> SortSt -> Prop} (h1 : 1 <= nrem) (hz : lo + nrem <= p.size)
  (h : ∀ m p' st', Stt κ it st' p' pend -> 1 <= m -> m <= nrem -> Near p p' lo (lo + m) -> Up le p' lo (lo + m) -> Q (some m) st') : wpS (model prog w) A E s (countRun' lo nrem) Q st := by
 refine Pe (PL (PM (I := fun x c st' => st' = st /\ c = (none, x) /\ x <= nrem /\ Up le p lo (lo + x))
  (Q := fun c st' => st' = st /\ ∃ m, c = (none, m) /\ 1 <= m /\ m <= nrem /\ Up le p lo (lo + m) /\ (m < nrem -> le (at' p (lo + m)) (at' p (lo + m - 1)))) ?s1 ?f1 ?i1) ?p1)
 case i1 => exact ⟨rfl, rfl, h1, Kx o⟩
 case f1 =>
  rintro c st' ⟨rfl, rfl, k1, k2⟩
  exact ⟨rfl, _, rfl, by lia, k1, k2, fun _ => by lia⟩
 case s1 =>
  rintro x c st' hx0 hx ⟨rfl, rfl, k1, k2⟩
  dsimp only
  refine Pe (jg hc S (hp p (.refl _)) (by lia) (by lia) ?_)
  dsimp only
  cases cw : lt (at' p (lo + x)) (at' p (lo + x - 1)) with
  | true =>
   rw [Pa rfl]
   exact Pc ⟨rfl, x, rfl, hx0, k1, k2, fun _ => o.yes _ _ cw⟩
  | false =>
   rw [Pb (by decide)]
   exact Pc ⟨rfl, rfl, by lia, Up.succ (b := lo + x) o k2 (by lia) (o.no _ _ cw)⟩
 case p1 =>
  rintro c st' ⟨rfl, m, rfl, m1, m2, U, hd⟩
  dsimp only
  simp only [Qo]
  by_cases e1 : m = nrem
  ·rw [Pa e1]
   exact Pc (h m p st' S m1 m2 .rf U)
  rw [Pb e1]
  have e1' : m < nrem := by lia
  clear e1
  by_cases e2 : m > 1
  ·rw [Pa e2]
   refine Pe (jg hc S (hp p (.refl _)) (by lia) (by lia) ?_)
   dsimp only
   cases cw : lt (at' p lo) (at' p (lo + m - 1)) with
   | true =>
    rw [Pa rfl]
    exact Pc (h m p st' S m1 m2 .rf U)
   | false =>
    rw [Pb (by decide)]
    have g0 := o.no _ _ cw
    refine Pe (pK S fun stx Sx => ?_)
    have same : ∀ i j, lo <= i -> i < lo + m -> lo <= j -> j < lo + m -> le (at' p i) (at' p j) := fun i j a1 a2 a3 a4 => o.tr _ _ _ (U i (lo + m - 1) a1 (by lia) (by lia)) (o.tr _ _ _ g0 (U lo j (Pi _) a3 a4))
    have d0 : Dn le (kas_rev p lo (lo + m)) lo (lo + m) := fun i j a1 a2 a3 => by
     rw [cH (by lia), cH (by lia), Pa (by lia), Pa (by lia)]
     exact same _ _ (by lia) (by lia) (by lia) (by lia)
    have Dx : Dn le (kas_rev p lo (lo + m)) lo (lo + (m + 1)) := Dn.succ (b := lo + m) o d0 (by lia) (by
     rw [cH (by lia), cH (by lia), Pb (by lia), Pa (by lia)]
     exact o.tr _ _ _ (hd (by lia)) (same _ _ (by lia) (by lia) (by lia) (by lia)))
    have Nx : Near p (kas_rev p lo (lo + m)) lo (lo + (m + 1)) := (gd (by lia)).wide (Pi _) (by lia)
    generalize kas_rev p lo (lo + m) = px at Sx Dx Nx
    refine Pe (QI (Qz ⟨rfl, ?_⟩))
    refine Pe (PL (PM (I := fun x c st' => ∃ q p', c = (none, x, q) /\ Stt κ it st' p' pend /\ Near p p' lo (lo + x) /\ x <= nrem /\ q + 1 <= x /\ Dn le p' lo (lo + x) /\ Es le p' (lo + x - (q + 1)) (lo + x))
     (Q := fun c st' => ∃ x q p', c = (none, x, q) /\ m + 1 <= x /\ Stt κ it st' p' pend /\ Near p p' lo (lo + x) /\ x <= nrem /\ q + 1 <= x /\ Dn le p' lo (lo + x) /\ Es le p' (lo + x - (q + 1)) (lo + x)) ?s2 ?f2 ?i2) ?p2)
    case i2 => exact ⟨0, px, rfl, Sx, Nx, by lia, by lia, Dx, qO o (by lia)⟩
    case f2 =>
     rintro c st' ⟨q, p', rfl, S', N', k1, k2, D', E'⟩
     exact ⟨_, q, p', rfl, by lia, S', N', k1, k2, D', E'⟩
    case s2 =>
     rintro x c st' hx0 hx ⟨q, p', rfl, S', N', k1, k2, D', E'⟩
     dsimp only
     have hs2 := N'.size
     refine Pe (jg hc S' (hp _ N'.1) (by lia) (by lia) ?_)
     dsimp only
     cases cw : lt (at' p' (lo + x)) (at' p' (lo + x - 1)) with
     | true =>
      rw [Pa rfl]
      have hl := o.yes _ _ cw
      by_cases q0 : q > 0
      ·rw [Pa q0]
       refine Pe (pK S' fun st4 S4 => Pc ?_)
       have d1 := D'.rev o (by lia) (by lia) E'
       have b1 : at' (kas_rev p' (lo + x - (q + 1)) (lo + x)) (lo + x) = at' p' (lo + x) := by rw [cH (by lia), Pb (by lia)]
       have b2 : at' (kas_rev p' (lo + x - (q + 1)) (lo + x)) (lo + x - 1) = at' p' (lo + x - (q + 1)) := by
        rw [cH (by lia), Pa (by lia)]
        congr 1; lia
       exact ⟨0, _, rfl, S4, (N'.tr ((gd (by lia)).wide (by lia) (by lia))).wide (by lia) (by lia), by lia, by lia, Dn.succ (b := lo + x) o d1 (by lia) (by rw [b1, b2]; exact o.tr _ _ _ hl (E' _ (Pi _) (by lia)).2), qO o (by lia)⟩
      ·rw [Pb q0]
       exact Pc ⟨0, p', rfl, S', N'.wide (by lia) (by lia), by lia, by lia, Dn.succ (b := lo + x) o D' (by lia) hl, qO o (by lia)⟩
     | false =>
      rw [Pb (by decide)]
      have g1 := o.no _ _ cw
      refine Pe (jg hc S' (hp _ N'.1) (by lia) (by lia) ?_)
      dsimp only
      cases cw2 : lt (at' p' (lo + x - 1)) (at' p' (lo + x)) with
      | true =>
       rw [Pa rfl]
       exact Pc ⟨x, q, p', rfl, hx0, S', N', k1, k2, D', E'⟩
      | false =>
       rw [Pb (by decide)]
       have g2 := o.no _ _ cw2
       refine Pc ⟨q + 1, p', rfl, S', N'.wide (by lia) (by lia), by lia, by lia, Dn.succ (b := lo + x) o D' (by lia) g2, fun k a1 a2 => ?_⟩
       rw [show lo + (x + 1) - 1 = lo + x by lia]
       by_cases hk : k = lo + x
       ·subst hk; exact ⟨o.rf _, o.rf _⟩
       ·obtain ⟨x1, x2⟩ := E' k (by lia) (by lia)
        exact ⟨o.tr _ _ _ x1 g1, o.tr _ _ _ g2 x2⟩
    case p2 =>
     rintro c st' ⟨x, q, p', rfl, x1, S', N', x2, x3, D', E'⟩
     dsimp only
     have hs2 := N'.size
     by_cases q0 : q > 0
     ·rw [Pa q0]
      refine Pe (pK S' fun stX SX => ?_)
      have DX := D'.rev o (by lia) (by lia) E'
      have NX := N'.tr ((gd (by lia)).wide (a := lo + x - (q + 1)) (b := lo + x) (d := lo) (e := lo + x) (by lia) (by lia))
      generalize kas_rev p' (lo + x - (q + 1)) (lo + x) = pX at SX DX NX
      refine Pe (pK SX fun st4 S4 => ?_)
      have hs4 := NX.size
      have N4 := NX.tr (gd (a := lo) (b := lo + x) (by lia))
      have U4 := DX.turn (by lia)
      refine Pe (PL (PM (I := fun y c st' => st' = st4 /\ c = (none, y) /\ y <= nrem /\ Up le (kas_rev pX lo (lo + x)) lo (lo + y))
       (Q := fun c st' => st' = st4 /\ ∃ y, c = (none, y) /\ x <= y /\ y <= nrem /\ Up le (kas_rev pX lo (lo + x)) lo (lo + y)) ?s3 ?f3 ?i3) ?p3)
      case i3 => exact ⟨rfl, rfl, x2, U4⟩
      case f3 =>
       rintro c st' ⟨rfl, rfl, k1, k2⟩
       exact ⟨rfl, _, rfl, by lia, k1, k2⟩
      case s3 =>
       rintro y c st' hy0 hy ⟨rfl, rfl, k1, k2⟩
       dsimp only
       have hs5 := N4.size
       refine Pe (jg hc S4 (hp _ N4.1) (by lia) (by lia) ?_)
       dsimp only
       cases cw : lt (at' (kas_rev pX lo (lo + x)) (lo + y)) (at' (kas_rev pX lo (lo + x)) (lo + y - 1)) with
       | true =>
        rw [Pa rfl]
        exact Pc ⟨rfl, y, rfl, hy0, k1, k2⟩
       | false =>
        rw [Pb (by decide)]
        exact Pc ⟨rfl, rfl, by lia, Up.succ (b := lo + y) o k2 (by lia) (o.no _ _ cw)⟩
      case p3 =>
       rintro c st' ⟨rfl, y, rfl, y1, y2, U⟩
       exact Pc (h y _ st' S4 (by lia) y2 (N4.wide (Pi _) (by lia)) U)
     ·rw [Pb q0]
      have DX := D'
      have NX := N'
      have SX := S'
      generalize p' = pX at SX DX NX
      refine Pe (pK SX fun st4 S4 => ?_)
      have hs4 := NX.size
      have N4 := NX.tr (gd (a := lo) (b := lo + x) (by lia))
      have U4 := DX.turn (by lia)
      refine Pe (PL (PM (I := fun y c st' => st' = st4 /\ c = (none, y) /\ y <= nrem /\ Up le (kas_rev pX lo (lo + x)) lo (lo + y))
       (Q := fun c st' => st' = st4 /\ ∃ y, c = (none, y) /\ x <= y /\ y <= nrem /\ Up le (kas_rev pX lo (lo + x)) lo (lo + y)) ?s3 ?f3 ?i3) ?p3)
      case i3 => exact ⟨rfl, rfl, x2, U4⟩
      case f3 =>
       rintro c st' ⟨rfl, rfl, k1, k2⟩
       exact ⟨rfl, _, rfl, by lia, k1, k2⟩
      case s3 =>
       rintro y c st' hy0 hy ⟨rfl, rfl, k1, k2⟩
       dsimp only
       have hs5 := N4.size
       refine Pe (jg hc S4 (hp _ N4.1) (by lia) (by lia) ?_)
       dsimp only
       cases cw : lt (at' (kas_rev pX lo (lo + x)) (lo + y)) (at' (kas_rev pX lo (lo + x)) (lo + y - 1)) with
       | true =>
        rw [Pa rfl]
        exact Pc ⟨rfl, y, rfl, hy0, k1, k2⟩
       | false =>
        rw [Pb (by decide)]
        exact Pc ⟨rfl, rfl, by lia, Up.succ (b := lo + y) o k2 (by lia) (o.no _ _ cw)⟩
      case p3 =>
       rintro c st' ⟨rfl, y, rfl, y1, y2, U⟩
       exact Pc (h y _ st' S4 (by lia) y2 (N4.wide (Pi _) (by lia)) U)
  ·rw [Pb e2]
   have m11 : m = 1 := by lia
   have Sx := S
   have Dx : Dn le p lo (lo + (m + 1)) := Dn.succ (b := lo + m) o (fun i j a1 a2 a3 => by
    have : i = j := by lia
    subst this; exact o.rf _) (by lia) (hd (by lia))
   have Nx : Near p p lo (lo + (m + 1)) := .rf
   obtain ⟨px, hpx⟩ : ∃ px, px = p := ⟨p, rfl⟩
   rw [<- hpx] at Sx Dx
   replace Nx : Near p px lo (lo + (m + 1)) := by rw [hpx]; exact .rf
   refine Pe (QI (Qz ⟨rfl, ?_⟩))
   refine Pe (PL (PM (I := fun x c st' => ∃ q p', c = (none, x, q) /\ Stt κ it st' p' pend /\ Near p p' lo (lo + x) /\ x <= nrem /\ q + 1 <= x /\ Dn le p' lo (lo + x) /\ Es le p' (lo + x - (q + 1)) (lo + x))
    (Q := fun c st' => ∃ x q p', c = (none, x, q) /\ m + 1 <= x /\ Stt κ it st' p' pend /\ Near p p' lo (lo + x) /\ x <= nrem /\ q + 1 <= x /\ Dn le p' lo (lo + x) /\ Es le p' (lo + x - (q + 1)) (lo + x)) ?s2 ?f2 ?i2) ?p2)
   case i2 => exact ⟨0, px, rfl, Sx, Nx, by lia, by lia, Dx, qO o (by lia)⟩
   case f2 =>
    rintro c st' ⟨q, p', rfl, S', N', k1, k2, D', E'⟩
    exact ⟨_, q, p', rfl, by lia, S', N', k1, k2, D', E'⟩
   case s2 =>
    rintro x c st' hx0 hx ⟨q, p', rfl, S', N', k1, k2, D', E'⟩
    dsimp only
    have hs2 := N'.size
    refine Pe (jg hc S' (hp _ N'.1) (by lia) (by lia) ?_)
    dsimp only
    cases cw : lt (at' p' (lo + x)) (at' p' (lo + x - 1)) with
    | true =>
     rw [Pa rfl]
     have hl := o.yes _ _ cw
     by_cases q0 : q > 0
     ·rw [Pa q0]
      refine Pe (pK S' fun st4 S4 => Pc ?_)
      have d1 := D'.rev o (by lia) (by lia) E'
      have b1 : at' (kas_rev p' (lo + x - (q + 1)) (lo + x)) (lo + x) = at' p' (lo + x) := by rw [cH (by lia), Pb (by lia)]
      have b2 : at' (kas_rev p' (lo + x - (q + 1)) (lo + x)) (lo + x - 1) = at' p' (lo + x - (q + 1)) := by
       rw [cH (by lia), Pa (by lia)]
       congr 1; lia
      exact ⟨0, _, rfl, S4, (N'.tr ((gd (by lia)).wide (by lia) (by lia))).wide (by lia) (by lia), by lia, by lia, Dn.succ (b := lo + x) o d1 (by lia) (by rw [b1, b2]; exact o.tr _ _ _ hl (E' _ (Pi _) (by lia)).2), qO o (by lia)⟩
     ·rw [Pb q0]
      exact Pc ⟨0, p', rfl, S', N'.wide (by lia) (by lia), by lia, by lia, Dn.succ (b := lo + x) o D' (by lia) hl, qO o (by lia)⟩
    | false =>
     rw [Pb (by decide)]
     have g1 := o.no _ _ cw
     refine Pe (jg hc S' (hp _ N'.1) (by lia) (by lia) ?_)
     dsimp only
     cases cw2 : lt (at' p' (lo + x - 1)) (at' p' (lo + x)) with
     | true =>
      rw [Pa rfl]
      exact Pc ⟨x, q, p', rfl, hx0, S', N', k1, k2, D', E'⟩
     | false =>
      rw [Pb (by decide)]
      have g2 := o.no _ _ cw2
      refine Pc ⟨q + 1, p', rfl, S', N'.wide (by lia) (by lia), by lia, by lia, Dn.succ (b := lo + x) o D' (by lia) g2, fun k a1 a2 => ?_⟩
      rw [show lo + (x + 1) - 1 = lo + x by lia]
      by_cases hk : k = lo + x
      ·subst hk; exact ⟨o.rf _, o.rf _⟩
      ·obtain ⟨x1, x2⟩ := E' k (by lia) (by lia)
       exact ⟨o.tr _ _ _ x1 g1, o.tr _ _ _ g2 x2⟩
   case p2 =>
    rintro c st' ⟨x, q, p', rfl, x1, S', N', x2, x3, D', E'⟩
    dsimp only
    have hs2 := N'.size
    by_cases q0 : q > 0
    ·rw [Pa q0]
     refine Pe (pK S' fun stX SX => ?_)
     have DX := D'.rev o (by lia) (by lia) E'
     have NX := N'.tr ((gd (by lia)).wide (a := lo + x - (q + 1)) (b := lo + x) (d := lo) (e := lo + x) (by lia) (by lia))
     generalize kas_rev p' (lo + x - (q + 1)) (lo + x) = pX at SX DX NX
     refine Pe (pK SX fun st4 S4 => ?_)
     have hs4 := NX.size
     have N4 := NX.tr (gd (a := lo) (b := lo + x) (by lia))
     have U4 := DX.turn (by lia)
     refine Pe (PL (PM (I := fun y c st' => st' = st4 /\ c = (none, y) /\ y <= nrem /\ Up le (kas_rev pX lo (lo + x)) lo (lo + y))
      (Q := fun c st' => st' = st4 /\ ∃ y, c = (none, y) /\ x <= y /\ y <= nrem /\ Up le (kas_rev pX lo (lo + x)) lo (lo + y)) ?s3 ?f3 ?i3) ?p3)
     case i3 => exact ⟨rfl, rfl, x2, U4⟩
     case f3 =>
      rintro c st' ⟨rfl, rfl, k1, k2⟩
      exact ⟨rfl, _, rfl, by lia, k1, k2⟩
     case s3 =>
      rintro y c st' hy0 hy ⟨rfl, rfl, k1, k2⟩
      dsimp only
      have hs5 := N4.size
      refine Pe (jg hc S4 (hp _ N4.1) (by lia) (by lia) ?_)
      dsimp only
      cases cw : lt (at' (kas_rev pX lo (lo + x)) (lo + y)) (at' (kas_rev pX lo (lo + x)) (lo + y - 1)) with
      | true =>
       rw [Pa rfl]
       exact Pc ⟨rfl, y, rfl, hy0, k1, k2⟩
      | false =>
       rw [Pb (by decide)]
       exact Pc ⟨rfl, rfl, by lia, Up.succ (b := lo + y) o k2 (by lia) (o.no _ _ cw)⟩
     case p3 =>
      rintro c st' ⟨rfl, y, rfl, y1, y2, U⟩
      exact Pc (h y _ st' S4 (by lia) y2 (N4.wide (Pi _) (by lia)) U)
    ·rw [Pb q0]
     have DX := D'
     have NX := N'
     have SX := S'
     generalize p' = pX at SX DX NX
     refine Pe (pK SX fun st4 S4 => ?_)
     have hs4 := NX.size
     have N4 := NX.tr (gd (a := lo) (b := lo + x) (by lia))
     have U4 := DX.turn (by lia)
     refine Pe (PL (PM (I := fun y c st' => st' = st4 /\ c = (none, y) /\ y <= nrem /\ Up le (kas_rev pX lo (lo + x)) lo (lo + y))
      (Q := fun c st' => st' = st4 /\ ∃ y, c = (none, y) /\ x <= y /\ y <= nrem /\ Up le (kas_rev pX lo (lo + x)) lo (lo + y)) ?s3 ?f3 ?i3) ?p3)
     case i3 => exact ⟨rfl, rfl, x2, U4⟩
     case f3 =>
      rintro c st' ⟨rfl, rfl, k1, k2⟩
      exact ⟨rfl, _, rfl, by lia, k1, k2⟩
     case s3 =>
      rintro y c st' hy0 hy ⟨rfl, rfl, k1, k2⟩
      dsimp only
      have hs5 := N4.size
      refine Pe (jg hc S4 (hp _ N4.1) (by lia) (by lia) ?_)
      dsimp only
      cases cw : lt (at' (kas_rev pX lo (lo + x)) (lo + y)) (at' (kas_rev pX lo (lo + x)) (lo + y - 1)) with
      | true =>
       rw [Pa rfl]
       exact Pc ⟨rfl, y, rfl, hy0, k1, k2⟩
      | false =>
       rw [Pb (by decide)]
       exact Pc ⟨rfl, rfl, by lia, Up.succ (b := lo + y) o k2 (by lia) (o.no _ _ cw)⟩
     case p3 =>
      rintro c st' ⟨rfl, y, rfl, y1, y2, U⟩
      exact Pc (h y _ st' S4 (by lia) y2 (N4.wide (Pi _) (by lia)) U)
end
section
variable {le : Nat -> Nat -> Prop} {p p' : Array Nat} {a b c : Nat}
def Rn (le : Nat -> Nat -> Prop) (p : Array Nat) : Nat -> List (Nat × Nat × Nat) -> Nat -> Prop
 | a, [], b => a = b
 | a, e :: es, b => e.1 = a /\ 1 <= e.2.1 /\ Up le p a (a + e.2.1) /\ Rn le p (a + e.2.1) es b
theorem Rn.len_le : ∀ {l : List (Nat × Nat × Nat)} {a : Nat}, Rn le p a l b -> a + l.length <= b
 | [], a, h => by have : a = b := h; simp [this]
 | e :: es, a, h => by
  have := Rn.len_le h.2.2.2
  have := h.2.1
  simp; lia
theorem Rn.of : ∀ {l : List (Nat × Nat × Nat)} {a : Nat}, Rn le p a l b -> (∀ k, a <= k -> k < b -> at' p' k = at' p k) -> Rn le p' a l b
 | [], a, h, _ => h
 | e :: es, a, h, k => ⟨h.1, h.2.1, h.2.2.1.of fun i h1 h2 => k i h1 (by have := Rn.len_le h.2.2.2; lia), Rn.of h.2.2.2 fun i h1 h2 => k i (by lia) h2⟩
theorem Rn.app : ∀ {l l' : List (Nat × Nat × Nat)} {a : Nat}, Rn le p a (l ++ l') b -> ∃ c, Rn le p a l c /\ Rn le p c l' b
 | [], l', a, h => ⟨a, rfl, h⟩
 | e :: es, l', a, h => by
  obtain ⟨c, h1, h2⟩ := Rn.app h.2.2.2
  exact ⟨c, ⟨h.1, h.2.1, h.2.2.1, h1⟩, h2⟩
theorem Rn.put : ∀ {l l' : List (Nat × Nat × Nat)} {a : Nat}, Rn le p a l c -> Rn le p c l' b -> Rn le p a (l ++ l') b
 | [], l', a, h, h2 => by have : a = c := h; subst this; exact h2
 | e :: es, l', a, h, h2 => ⟨h.1, h.2.1, h.2.2.1, Rn.put h.2.2.2 h2⟩
theorem Rn.same : ∀ {l l' : List (Nat × Nat × Nat)} {a : Nat}, (l.map fun e => (e.1, e.2.1)) = (l'.map fun e => (e.1, e.2.1)) -> Rn le p a l b -> Rn le p a l' b
 | [], [], a, _, h => h
 | [], _ :: _, a, h, _ => by simp at h
 | _ :: _, [], a, h, _ => by simp at h
 | e :: es, e' :: es', a, h, k => by
  simp only [Pt, List.cons.injEq, Prod.mk.injEq] at h
  obtain ⟨⟨h1, h2⟩, h3⟩ := h
  obtain ⟨k1, k2, k3, k4⟩ := k
  rw [h1] at k1
  rw [h2] at k2 k3 k4
  exact ⟨k1, k2, k3, Rn.same h3 k4⟩
theorem Ip {c : Prop} [Decidable c] {k m : Nat} (h : k + 1 < m) : (if c then k - 1 else k) + 1 < m := by split <;> lia
theorem Jq {α : Type} (x z : α) (r : List α) : ∀ pre : List α, (pre ++ x :: r).set pre.length z = pre ++ z :: r
 | [] => rfl
 | y :: pre => by simp
theorem Fy {α : Type} (z y : α) (r : List α) : ∀ pre : List α, (pre ++ z :: y :: r).eraseIdx (pre.length + 1) = pre ++ z :: r
 | [] => rfl
 | x :: pre => by
  have := Fy z y r pre
  simp only [List.cons_append, Pu, List.eraseIdx_cons_succ, this]
theorem JU {α : Type} {l : List α} {i : Nat} (h : i + 1 < l.length) : ∃ pre x y post, l = pre ++ x :: y :: post /\ pre.length = i := by
 refine ⟨l.take i, l[i], l[i + 1], l.drop (i + 2), ?_, by rw [QT]; lia⟩
 rw [<- Rh h, <- Rh (by lia), RM]
end
section
variable {prog : Program} {w : World} {A : Around} {E : Value -> Shared -> Prop} {s : Shared} {κ : SortKind} {it : Array Keyed} {n : Nat} {lt : Nat -> Nat -> Bool} {le : Nat -> Nat -> Prop} {p : Array Nat} {pend : Array (Nat × Nat × Nat)} {st : SortSt}
theorem qY (o : Ord lt le) (hc : vU prog w A s κ it n lt) (S : Stt κ it st p pend) (hp : ∀ i, i < p.size -> at' p i < n) {i b : Nat} {Q : Bool -> SortSt -> Prop} (hi : i + 1 < pend.size) (R : Rn le p 0 pend.toList b) (hb : b <= p.size)
  (h : ∀ p' pend' st', Stt κ it st' p' pend' -> Near p p' 0 b -> Rn le p' 0 pend'.toList b -> pend'.size + 1 = pend.size -> Q true st') : wpS (model prog w) A E s (mergeAt' i) Q st := by
 obtain ⟨pre, ⟨sa, na, pw⟩, ⟨sb, nb, q⟩, post, e, hl⟩ := JU (l := pend.toList) (i := i) (by simpa using hi)
 rw [e] at R
 obtain ⟨c, R1, R2⟩ := R.app
 obtain ⟨r1, r2, r3, r4, r5, r6, r7⟩ := R2
 dsimp only at r1 r2 r3 r4 r5 r6 r7
 subst r1
 have hle := r7.len_le
 have g1 : pend[i]? = some (sa, na, pw) := by rw [<- QG, e, Q2 (by lia)]; simp [hl]
 have g2 : pend[i + 1]? = some (sb, nb, q) := by rw [<- QG, e, Q2 (by lia)]; simp [hl]
 refine El o hc S g1 g2 r4 r2 r5 (by lia) hp (fun i j a1 a2 => r3 _ _ (by lia) (by lia) (by lia)) (fun i j a1 a2 => r6 _ _ (by lia) (by lia) (by lia)) fun p' st' S' so => ?_
 have en : ((pend.setIfInBounds i (sa, na + nb, pw)).eraseIdxIfInBounds (i + 1)).toList = pre ++ (sa, na + nb, pw) :: post := by
  have h2 : i + 1 < (pend.setIfInBounds i (sa, na + nb, pw)).size := by simpa using hi
  rw [Array.eraseIdxIfInBounds, dif_pos h2, Array.toList_eraseIdx, Array.toList_setIfInBounds, e, <- hl]
  rw [Jq, Fy]
 have hle1 := R1.len_le
 refine h p' _ st' S' ⟨so.perm, fun k hk => so.out k (by lia)⟩ ?_ ?_
 ·rw [en]
  refine Rn.put (R1.of fun k _ h2 => so.out k (by lia)) ⟨rfl, by dsimp only; lia, fun i j a1 a2 a3 => so.asc i j a1 a2 a3, ?_⟩
  dsimp only
  rw [show sa + (na + nb) = sa + na + nb by lia]
  exact r7.of fun k h1 h2 => so.out k (by lia)
 ·have e4 := PH List.length en
  have e3 := PH List.length e
  rw [Qa] at e4 e3
  rw [e4, e3]
  simp only [Pj, Pu]
  lia
theorem Jv (o : Ord lt le) (hc : vU prog w A s κ it n lt) (S : Stt κ it st p #[]) (hp : ∀ p' : Array Nat, p'.Perm p -> ∀ i, i < p'.size -> at' p' i < n) {Q : Unit -> SortSt -> Prop}
  (h : ∀ p' pend' st', Stt κ it st' p' pend' -> p'.Perm p -> Up le p' 0 p.size -> Q () st') : wpS (model prog w) A E s sortRuns' Q st := by
 rw [sortRuns'_eq]
 refine Pe (Qg ?_)
 dsimp only
 rw [S.2.1, Array.size_map]
 generalize minRun' p.size p.size 0 = minrun
 refine Pe (PL (PM (I := fun x c st' => ∃ lo p' pend', c = (none, lo) /\ Stt κ it st' p' pend' /\ p'.Perm p /\ Rn le p' 0 pend'.toList lo /\ lo <= p.size /\ x <= lo)
  (Q := fun c st' => ∃ p' pend', c.1 = none /\ Stt κ it st' p' pend' /\ p'.Perm p /\ Rn le p' 0 pend'.toList p.size) ?s1 ?f1 ?i1) ?p1)
 case i1 => exact ⟨0, p, #[], rfl, S, .refl _, rfl, by lia, by lia⟩
 case f1 =>
  rintro c st' ⟨lo, p', pend', rfl, S', P', R', l1, l2⟩
  have : lo = p.size := by lia
  subst this
  exact ⟨p', pend', rfl, S', P', R'⟩
 case s1 =>
  rintro x c st' _ hx ⟨lo, p', pend', rfl, S', P', R', l1, l2⟩
  dsimp only
  by_cases e1 : lo ≥ p.size
  ·rw [Pa e1]
   have : lo = p.size := by lia
   subst this
   exact Pc ⟨p', pend', rfl, S', P', R'⟩
  rw [Pb e1]
  have hs' := P'.size_eq
  refine Pe (HJ o hc S' (fun q hq => hp q (hq.trans P')) (by lia) (by lia) fun m p2 st2 S2 m1 m2 N2 U2 => ?_)
  have P2 := N2.1.trans P'
  have hs2 := P2.size_eq
  have R2 : Rn le p2 0 pend'.toList lo := R'.of fun k _ h2 => N2.2 k (.inl h2)
  dsimp only
  by_cases e2 : m < minrun
  ·rw [Pa e2]
   refine Pe (QI (Qz ⟨rfl, ?_⟩))
   refine Pe (My o hc S2 (fun q hq => hp q (hq.trans P2)) (m := min (p.size - lo) minrun) (by lia) (by lia) m1 U2 fun p3 st3 S3 N3 U3 => ?_)
   replace R2 : Rn le p3 0 pend'.toList lo := R2.of fun k _ h2 => N3.2 k (.inl h2)
   replace P2 := N3.1.trans P2
   replace S2 := S3
   replace U2 := U3
   have hnn : 1 <= min (p.size - lo) minrun := by lia
   have hnn2 : lo + min (p.size - lo) minrun <= p.size := by lia
   clear S3 U3 N3 N2 hs2
   generalize min (p.size - lo) minrun = nn at *
   rw [Pb (by decide)]
   clear st2 p2
   generalize p3 = p2 at *
   generalize st3 = st2 at *
   refine Pe (Qg ?_)
   rw [S2.2.2.1]
   cases hbk : pend'.back? with
   | none =>
    dsimp only
    refine Pe (P6 (Pc ⟨lo + nn, p2, pend'.push (lo, nn, 0), rfl, ⟨S2.1, S2.2.1, ?_, S2.2.2.2⟩, P2, ?_, by lia, by lia⟩))
    ·show (pendingOf st2).push _ = _
     rw [S2.2.2.1]
    ·rw [Q6]
     exact R2.put ⟨rfl, hnn, U2, rfl⟩
   | some e =>
    obtain ⟨s1, n1, z1⟩ := e
    dsimp only
    generalize power' _ _ _ _ = pw
    refine Pe (PL (PM (I := fun y c st3 => c = (none, ()) /\ ∃ p3 pend3, Stt κ it st3 p3 pend3 /\ p3.Perm p /\ Rn le p3 0 pend3.toList lo /\ Up le p3 lo (lo + nn))
     (Q := fun c st3 => c = (none, ()) /\ ∃ p3 pend3, Stt κ it st3 p3 pend3 /\ p3.Perm p /\ Rn le p3 0 pend3.toList lo /\ Up le p3 lo (lo + nn)) ?s2 ?f2 ?i2) ?p2)
    case i2 => exact ⟨rfl, p2, pend', S2, P2, R2, U2⟩
    case f2 => exact fun c st3 h => h
    case s2 =>
     rintro y c st3 _ hy ⟨rfl, p3, pend3, S3, P3, R3, U3⟩
     refine Pe (Qg ?_)
     rw [S3.2.2.1]
     by_cases c1 : pend3.size > 1
     ·rw [Pa c1]
      cases hg : pend3[pend3.size - 2]? with
      | none => exact Pc ⟨rfl, p3, pend3, S3, P3, R3, U3⟩
      | some e =>
       obtain ⟨z2, z3, older⟩ := e
       dsimp only
       by_cases c2 : older <= pw
       ·rw [Pa c2]
        exact Pc ⟨rfl, p3, pend3, S3, P3, R3, U3⟩
       ·rw [Pb c2]
        have hs3 := P3.size_eq
        refine Pe (qY o hc S3 (hp _ P3) (i := pend3.size - 2) (by lia) R3 (by lia) fun p4 pend4 st4 S4 N4 R4 _ => ?_)
        exact Pc ⟨rfl, p4, pend4, S4, N4.1.trans P3, R4, U3.of fun i h1 h2 => N4.2 i (.inr h1)⟩
     ·rw [Pb c1]
      exact Pc ⟨rfl, p3, pend3, S3, P3, R3, U3⟩
    case p2 =>
     rintro c st3 ⟨rfl, p3, pend3, S3, P3, R3, U3⟩
     dsimp only
     refine Pe (P6 (Pe (P6 (Pc ⟨lo + nn, p3, (pend3.modify (pend3.size - 1) fun e => (e.1, e.2.1, pw)).push (lo, nn, 0), rfl, ⟨S3.1, S3.2.1, ?_, S3.2.2.2⟩, P3, ?_, by lia, by lia⟩))))
     ·show ((pendingOf st3).modify ((pendingOf st3).size - 1) _).push _ = _
      rw [S3.2.2.1]
     ·rw [Q6]
      refine Rn.put (R3.same ?_) ⟨rfl, hnn, U3, rfl⟩
      apply Rm
      intro k
      rw [PD, PD, QG, QG, Array.getElem?_modify]
      split
      ·cases pend3[k]? <;> rfl
      ·rfl
  ·rw [Pb e2]
   have hnn := m1
   have hnn2 : lo + m <= p.size := by lia
   refine Pe (Qg ?_)
   rw [S2.2.2.1]
   cases hbk : pend'.back? with
   | none =>
    dsimp only
    refine Pe (P6 (Pc ⟨lo + m, p2, pend'.push (lo, m, 0), rfl, ⟨S2.1, S2.2.1, ?_, S2.2.2.2⟩, P2, ?_, by lia, by lia⟩))
    ·show (pendingOf st2).push _ = _
     rw [S2.2.2.1]
    ·rw [Q6]
     exact R2.put ⟨rfl, hnn, U2, rfl⟩
   | some e =>
    obtain ⟨s1, n1, z1⟩ := e
    dsimp only
    generalize power' _ _ _ _ = pw
    refine Pe (PL (PM (I := fun y c st3 => c = (none, ()) /\ ∃ p3 pend3, Stt κ it st3 p3 pend3 /\ p3.Perm p /\ Rn le p3 0 pend3.toList lo /\ Up le p3 lo (lo + m))
     (Q := fun c st3 => c = (none, ()) /\ ∃ p3 pend3, Stt κ it st3 p3 pend3 /\ p3.Perm p /\ Rn le p3 0 pend3.toList lo /\ Up le p3 lo (lo + m)) ?s2 ?f2 ?i2) ?p2)
    case i2 => exact ⟨rfl, p2, pend', S2, P2, R2, U2⟩
    case f2 => exact fun c st3 h => h
    case s2 =>
     rintro y c st3 _ hy ⟨rfl, p3, pend3, S3, P3, R3, U3⟩
     refine Pe (Qg ?_)
     rw [S3.2.2.1]
     by_cases c1 : pend3.size > 1
     ·rw [Pa c1]
      cases hg : pend3[pend3.size - 2]? with
      | none => exact Pc ⟨rfl, p3, pend3, S3, P3, R3, U3⟩
      | some e =>
       obtain ⟨z2, z3, older⟩ := e
       dsimp only
       by_cases c2 : older <= pw
       ·rw [Pa c2]
        exact Pc ⟨rfl, p3, pend3, S3, P3, R3, U3⟩
       ·rw [Pb c2]
        have hs3 := P3.size_eq
        refine Pe (qY o hc S3 (hp _ P3) (i := pend3.size - 2) (by lia) R3 (by lia) fun p4 pend4 st4 S4 N4 R4 _ => ?_)
        exact Pc ⟨rfl, p4, pend4, S4, N4.1.trans P3, R4, U3.of fun i h1 h2 => N4.2 i (.inr h1)⟩
     ·rw [Pb c1]
      exact Pc ⟨rfl, p3, pend3, S3, P3, R3, U3⟩
    case p2 =>
     rintro c st3 ⟨rfl, p3, pend3, S3, P3, R3, U3⟩
     dsimp only
     refine Pe (P6 (Pe (P6 (Pc ⟨lo + m, p3, (pend3.modify (pend3.size - 1) fun e => (e.1, e.2.1, pw)).push (lo, m, 0), rfl, ⟨S3.1, S3.2.1, ?_, S3.2.2.2⟩, P3, ?_, by lia, by lia⟩))))
     ·show ((pendingOf st3).modify ((pendingOf st3).size - 1) _).push _ = _
      rw [S3.2.2.1]
     ·rw [Q6]
      refine Rn.put (R3.same ?_) ⟨rfl, hnn, U3, rfl⟩
      apply Rm
      intro k
      rw [PD, PD, QG, QG, Array.getElem?_modify]
      split
      ·cases pend3[k]? <;> rfl
      ·rfl
 case p1 =>
  rintro ⟨c, c'⟩ st' ⟨p', pend', hc1, S', P', R'⟩
  dsimp only at hc1
  subst hc1
  dsimp only
  refine Pe (PL (PM (I := fun x c st' => ∃ p' pend', c = (none, ()) /\ Stt κ it st' p' pend' /\ p'.Perm p /\ Rn le p' 0 pend'.toList p.size /\ pend'.size + x <= p.size)
   (Q := fun c st' => ∃ p' pend', c = (none, ()) /\ Stt κ it st' p' pend' /\ p'.Perm p /\ Rn le p' 0 pend'.toList p.size /\ pend'.size <= 1) ?s5 ?f5 ?i5) ?p5)
  case i5 => exact ⟨p', pend', rfl, S', P', R', by have := R'.len_le; rw [Qa] at this; lia⟩
  case f5 =>
   rintro c st' ⟨p', pend', rfl, S', P', R', hl⟩
   exact ⟨p', pend', rfl, S', P', R', by lia⟩
  case s5 =>
   rintro x c st' _ hx ⟨p', pend', rfl, S', P', R', hl⟩
   refine Pe (Qg ?_)
   rw [S'.2.2.1]
   by_cases e1 : pend'.size <= 1
   ·rw [Pa e1]
    exact Pc ⟨p', pend', rfl, S', P', R', e1⟩
   rw [Pb e1]
   have hs' := P'.size_eq
   refine Pe (qY o hc S' (hp _ P') ?_ R' (by lia) fun p4 pend4 st4 S4 N4 R4 h4 => ?_)
   ·exact Ip (by lia)
   ·exact Pc ⟨p4, pend4, rfl, S4, N4.1.trans P', R4, by lia⟩
  case p5 =>
   rintro c st' ⟨p', pend', rfl, S', P', R', hl⟩
   refine Pc (h p' pend' st' S' P' ?_)
   cases hq : pend'.toList with
   | nil =>
    rw [hq] at R'
    have : 0 = p.size := R'
    intro i j _ _ h3
    lia
   | cons e es =>
    cases es with
    | nil =>
     rw [hq] at R'
     obtain ⟨r1, r2, r3, r4⟩ := R'
     have r4' : 0 + e.2.1 = p.size := r4
     rw [<- r4']
     exact r3
    | cons e2 es =>
     have := PH List.length hq
     rw [Qa] at this
     simp at this
     lia
end
section
variable {prog : Program} {w : World} {A : Around} {E : Value -> Shared -> Prop} {s : Shared}
structure Known (prog : Program) (w : World) (s : Shared) (vs : List Value) (κ : SortKind) (lt : Nat -> Nat -> Bool) : Prop where
 kind : ∀ (A : Around) (E : Value -> Shared -> Prop) (h' : Heap) (Q : SortKind -> Shared -> Prop), (∀ b o, s.heap.get? b = some o -> h'.get? b = some o) -> 2 <= vs.length -> Q κ { s with heap := h' } -> wpAny (model prog w) A (keyKind' vs.toArray) Q E { s with heap := h' }
 ask : ∀ (A : Around) (h' : Heap) (i j : Nat) (C : Bool -> Shared -> Prop), (∀ b o, s.heap.get? b = some o -> h'.get? b = some o) -> i < vs.length -> j < vs.length -> C (lt i j) { s with heap := h' } -> kas_ask prog w A κ vs i j C { s with heap := h' }
theorem Known.on {vs : List Value} {κ : SortKind} {lt : Nat -> Nat -> Bool} {h : Heap} (k : Known prog w s vs κ lt) (hk : ∀ b o, s.heap.get? b = some o -> h.get? b = some o) : Known prog w { s with heap := h } vs κ lt :=
 ⟨fun A E h' Q h2 => k.kind A E h' Q fun b o e => h2 b o (hk b o e), fun A h' i j C h2 => k.ask A h' i j C fun b o e => h2 b o (hk b o e)⟩
def lv (vs : List Value) (p : Array Nat) : Array Value := (p.toList.map fun i => vs.getD i Value.none).toArray
theorem B2 {vs : List Value} {p : Array Nat} (h : p.size = vs.length) : (lv vs p).size = vs.length := by
 unfold lv; simp [h]
theorem Bf {vs : List Value} : lv vs (List.range vs.length).toArray = vs.toArray := by
 unfold lv
 congr 1
 apply List.ext_getElem
 ·simp
 ·intro i h1 h2
  simp at h1
  simp [h1]
theorem HA {le : Nat -> Nat -> Prop} (rf : ∀ a, le a a) {n : Nat} (h : n < 2) (p : Array Nat) : Asc le p n := fun i j hij hj => by
 have e : i = j := by lia
 subst e; exact rf _
theorem Hj {a : Addr} {vs : List Value} {n : Nat} {κ : SortKind} {lt : Nat -> Nat -> Bool} {le : Nat -> Nat -> Prop} {P : PySem.Fin -> Shared -> Prop} (o : Ord lt le) (ho : s.heap.get? a = some (seqObj "list" vs.toArray n)) (hN : vs.length <= sizeLine)
  (hk : ∀ h', (∀ b o, b ≠ a -> s.heap.get? b = some o -> h'.get? b = some o) -> Known prog w { s with heap := h' } vs κ lt)
  (h : ∀ p : Array Nat, p.Perm (List.range vs.length).toArray -> Asc le p vs.length -> P (.done (.ret .none)) { s with heap := sortedHeap s.heap a vs (lv vs p) }) : wpAny (model prog w) A (Builtin.«list.sort» ⟨[.ref a], []⟩) P E s := by
 have ha : a < s.heap.objs.size := Pv ho
 obtain ⟨e1, ho1⟩ : ∃ e1, (s.heap.update a (Obj.mapSeq fun _ => #[])).get? a = some (seqObj "list" #[] e1) := ⟨_, get?_update_seq ho fun _ => #[]⟩
 have ne1 : a ≠ ((s.heap.update a (Obj.mapSeq fun _ => #[])).push (seqObj "tuple" vs.toArray 0)).objs.size := by rw [size_push', Heap.size_update]; exact PK (Rv ha)
 have ne2 : a ≠ (s.heap.update a (Obj.mapSeq fun _ => #[])).objs.size := by rw [Heap.size_update]; exact PK ha
 have ho6 : (((s.heap.update a (Obj.mapSeq fun _ => #[])).push (seqObj "tuple" vs.toArray 0)).push (seqObj "list" #[] 0)).get? a = some (seqObj "list" #[] e1) := by rw [Heap.get?_push_ne _ _ _ ne1, Heap.get?_push_ne _ _ _ ne2, ho1]
 have keep : ∀ b q, b ≠ a -> s.heap.get? b = some q -> (((s.heap.update a (Obj.mapSeq fun _ => #[])).push (seqObj "tuple" vs.toArray 0)).push (seqObj "list" #[] 0)).get? b = some q := fun b q hb hq =>
  Px _ (Px _ ((Heap.get?_update_ne _ _ _ _ hb).trans hq))
 have K := hk _ keep
 rw [list_sort_plain]; refine Pf (listItems_at ho rfl (Pf (listUpdate_at ho rfl (Pf (seqEpoch_at ho1 rfl (Pf (wpAny_newTuple (Pf (wpAny_newList (QQ ?_))))))))))
 dsimp only
 have hn : vs.toArray.size = vs.length := by simp
 have fin : ∀ (p : Array Nat) (st : SortSt), p.Perm (List.range vs.length).toArray -> Asc le p vs.length -> (arrOf st).map (·.2) = lv vs p -> failedOf st = none ->
   wpAny (model prog w) A (do
    let touched := (← seqEpoch a) != e1
    Builtin.List.listUpdate (.ref a) fun _ => (arrOf st).map (·.2)
    if let some e := failedOf st then rule "list.sort.comparison-raised"; throw e
    if touched then rule "list.sort.modified"; raiseError "ValueError" "list modified during sort"
    ret .none) P E { s with heap := ((s.heap.update a (Obj.mapSeq fun _ => #[])).push (seqObj "tuple" vs.toArray 0)).push (seqObj "list" #[] 0) } := fun p st hp hs ho2 hf => by
  have hz : (lv vs p).size <= sizeLine + 1 := by
   rw [B2 (by rw [hp.size_eq]; simp)]; lia
  rw [ho2, hf]
  refine Pf (seqEpoch_at ho6 rfl (Pf (listUpdate_at ho6 rfl ?_ (hsz2 := hz))))
  simp only [bne_self_eq_false, Bool.false_eq_true, if_false]
  exact Pm (h p hp hs)
 by_cases h2 : vs.toArray.size < 2
 ·rw [Pa h2, Pa h2]
  refine Pf (Pm ?_)
  rw [StateT.run_pure]
  refine Pf (Pm (fin (List.range vs.length).toArray _ (Array.Perm.refl _) (HA o.rf (by lia) _) ?_ rfl))
  rw [Bf]
  show ((vs.toArray.zip vs.toArray).map (·.2)) = vs.toArray
  apply Array.ext
  ·simp
  ·intro i h1 h2; simp
 ·rw [Pb h2, Pb h2]
  refine Pf (K.kind _ _ _ _ (fun _ _ e => e) (by lia) ?_)
  have pos : 0 < vs.length := by lia
  have perm0 : ∀ p' : Array Nat, p'.Perm (List.range vs.length).toArray -> ∀ i, i < p'.size -> at' p' i < vs.length := fun p' h' i _ => Ky pos h' i
  have esz : (vs.toArray.zip vs.toArray).size = vs.length := by simp
  have er := kas_range (vs.toArray.zip vs.toArray)
  rw [esz] at er
  have run := Jv (prog := prog) (w := w) (A := A) (E := E) (κ := κ) (it := vs.toArray.zip vs.toArray) (n := vs.length) (lt := lt) (le := le) (p := (List.range vs.length).toArray) (st := SortSt.mk' κ (vs.toArray.zip vs.toArray) #[] 7 none)
   (s := { s with heap := ((s.heap.update a (Obj.mapSeq fun _ => #[])).push (seqObj "tuple" vs.toArray 0)).push (seqObj "list" #[] 0) })
   (Q := fun _ st => ∃ p : Array Nat, (arrOf st).map (·.2) = lv vs p /\ failedOf st = none /\ p.Perm (List.range vs.length).toArray /\ Asc le p vs.length) o
   (fun i j C hi hj hc => by rw [<- kat_ask_eq (ks := vs) (vs := vs) rfl]; exact K.ask _ _ i j C (fun _ _ e => e) hi hj hc) ⟨rfl, er.symm, rfl, rfl⟩ perm0
   (fun p' pend' st' S' hp hu => ⟨p', kat_snds rfl S'.2.1, S'.2.2.2, hp, fun i j hij hj => hu i j (PY _) hij (by simpa using hj)⟩)
  refine Pf (Qu run (fun r s' hr => ?_) fun _ _ e => e)
  ·obtain ⟨rfl, p, e2, hf, hp, hs⟩ := hr
   exact fin p r.2 hp hs e2 hf
theorem xM {l : Addr} {vs : List Value} {κ : SortKind} {lt : Nat -> Nat -> Bool} {le : Nat -> Nat -> Prop} {Q : Value -> Shared -> Prop} (o : Ord lt le) (hl : s.heap.IsList l vs.toArray) (hN : vs.length <= sizeLine) (hk : Known prog w s vs κ lt)
  (h : ∀ p : Array Nat, p.Perm (List.range vs.length).toArray -> Asc le p vs.length -> Q (.ref (s.heap.objs.size + 1)) { s with heap := sortedAll s.heap vs (lv vs p) }) : wpAny (model prog w) A (call (.builtin "sorted") [.ref l]) Q E s := by
 have hz : vs.length <= sizeLine := hN
 have sz : ((s.heap.push (seqObj "list" #[] 0)).update s.heap.objs.size (Obj.mapSeq (· ++ vs.toArray))).objs.size = s.heap.objs.size + 1 := by rw [Heap.size_update, size_push']
 have at1 : (((s.heap.push (seqObj "list" #[] 0)).update s.heap.objs.size (Obj.mapSeq (· ++ vs.toArray))).push (seqObj "list" vs.toArray 0)).get? (s.heap.objs.size + 1) = some (seqObj "list" vs.toArray 0) := by rw [<- sz]; exact PV _ rfl
 have old : ∀ b q, s.heap.get? b = some q -> b ≠ s.heap.objs.size + 1 /\ (((s.heap.push (seqObj "list" #[] 0)).update s.heap.objs.size (Obj.mapSeq (· ++ vs.toArray))).push (seqObj "list" vs.toArray 0)).get? b = some q := fun b q e => by
  have hb := Pv e
  refine ⟨PK (Rv hb), Px _ ?_⟩
  rw [Heap.get?_update_ne _ _ _ _ (PK hb)]
  exact Px _ e
 refine Calls.call_function_entry kind_sorted plain_sorted entry_sorted (args_sorted1 (.ref l)) ?_; unfold Builtin.«sorted»
 refine Pf (m := checkCount "sorted" 1 1 _) (Pm (Pf (collect_list hl (Pf (wpAny_newList ?_ hz)) hz)))
 show wpAny (model prog w) _ _ _ _ { s with heap := ((s.heap.push (seqObj "list" #[] 0)).update s.heap.objs.size (Obj.mapSeq (· ++ vs.toArray))).push (seqObj "list" vs.toArray 0) }
 rw [sz]
 refine Pf (QQ (Q5 slot_list_sort ⟨_, at1, rfl⟩ entry_list_sort (Hj (κ := κ) (le := le) o at1 hN (fun h' kp => ?_) fun p hp hs => ⟨_, rfl, Pm ⟨_, rfl, h p hp hs⟩⟩) (args_list_sort _)))
 exact hk.on fun b q e => kp b q (old b q e).1 (old b q e).2
end
section
variable {prog : Program} {w : World} {A : Around} {E : Value -> Shared -> Prop} {s : Shared}
def i7 : List Int -> List Int -> Bool
 | [], [] => false
 | [], _ :: _ => true
 | _ :: _, [] => false
 | x :: xs, y :: ys => if x = y then i7 xs ys else decide (x < y)
theorem sf : ∀ a : List Int, i7 a a = false
 | [] => rfl
 | x :: xs => by unfold i7; rw [Pa rfl]; exact sf xs
theorem vG : ∀ a b : List Int, i7 a b = true -> i7 b a = false
 | [], [], h => by unfold i7 at h; cases h
 | [], _ :: _, _ => by unfold i7; rfl
 | _ :: _, [], h => by unfold i7 at h; cases h
 | x :: xs, y :: ys, h => by
  unfold i7 at h ⊢
  by_cases e : x = y
  ·rw [Pa e] at h; rw [Pa e.symm]; exact vG xs ys h
  ·rw [Pb e] at h
   rw [Pb (P0 e)]
   have := QX h
   exact PN (by lia)
theorem tO : ∀ a b c : List Int, i7 b a = false -> i7 c b = false -> i7 c a = false
 | [], _, [], _, _ => rfl
 | [], [], _ :: _, _, h => by unfold i7 at h; cases h <;> rfl
 | [], _ :: _, _ :: _, _, _ => by unfold i7; rfl
 | _ :: _, [], _, h, _ => by unfold i7 at h; cases h
 | x :: xs, y :: ys, [], _, h => by unfold i7 at h; cases h
 | x :: xs, y :: ys, z :: zs, h1, h2 => by
  unfold i7 at h1 h2 ⊢
  by_cases e1 : y = x
  ·rw [Pa e1] at h1
   by_cases e2 : z = y
   ·rw [Pa e2] at h2
    rw [Pa (e2.trans e1)]
    exact tO xs ys zs h1 h2
   ·rw [Pb e2] at h2
    rw [Pb (by lia)]
    have := Ql h2
    exact PN (by lia)
  ·rw [Pb e1] at h1
   have g1 := Ql h1
   by_cases e2 : z = y
   ·rw [Pb (by lia)]
    exact PN (by lia)
   ·rw [Pb e2] at h2
    have g2 := Ql h2
    rw [Pb (by lia)]
    exact PN (by lia)
theorem FD (f : Nat -> List Int) : Ord (fun i j => i7 (f i) (f j)) (fun i j => i7 (f j) (f i) = false) :=
 ⟨fun a b c h1 h2 => tO _ _ _ h1 h2, fun a => sf _, fun a b h => vG _ _ h, fun a b h => h⟩
def L8 (h : Heap) (v : Value) (ns : List Int) : Prop := ∃ a o xs n, v = .ref a /\ h.get? a = some o /\ o.cls = .type "tuple" /\ o.data = .seq xs n /\ IntsAre xs.toList ns
theorem Ib : ∀ (xs ys : List Value) (ns ms : List Int) (i : Nat) (fin : Bool) (Q : Bool -> Shared -> Prop), IntsAre xs ns -> IntsAre ys ms -> (fin = decide (xs.length < ys.length)) -> Q (i7 ns ms) s ->
  KatLex prog w A true fin Q (xs.zip ys) i s := by
 intro xs
 induction xs with
 | nil =>
  intro ys ns ms i fin Q hx hy hf hq
  cases hx
  rw [List.zip_nil_left]
  show Q fin s
  rw [hf]
  cases hy with
  | nil => exact hq
  | cons b u ty => exact hq
 | cons x xs ih =>
  intro ys ns ms i fin Q hx hy hf hq
  cases hx with
  | cons a t tx =>
   cases hy with
   | nil =>
    rw [List.zip_nil_right]
    show Q fin s
    rw [hf]
    exact hq
   | @cons c u ys' ms' ty =>
    rw [Ro]
    refine kat_cons ((SeqAt.EqAt.int_int a t c u) prog w _ _ ?_)
    unfold i7 at hq
    by_cases e : a = c
    ·rw [Pa e] at hq
     have eb : (a == c) = true := by simpa using e
     rw [eb]
     exact kat_yes (ih ys' _ ms' (i + 1) fin Q tx ty (by rw [hf]; simp) hq)
    ·rw [Pb e] at hq
     have eb : (a == c) = false := by simpa using e
     rw [eb]
     refine kat_no ?_
     cases q : i == 0 with
     | true => exact oneLt_int hq
     | false => exact kat_one _ _ (lt_int hq)
theorem B8 {vs : List Value} {f : Nat -> List Int} (hv : ∀ i, i < vs.length -> L8 s.heap (vs.getD i Value.none) (f i) /\ f i ≠ []) : Known prog w s vs (tuples' true) fun i j => i7 (f i) (f j) := by
 refine ⟨fun A E h' Q hk h2 hq => ?_, fun A h' i j C hk hi hj hc => ?_⟩
 ·have hv' : ∀ v ∈ vs, ∃ n t rest a o xs k, v = .ref a /\ h'.get? a = some o /\ o.cls = .type "tuple" /\ o.data = .seq xs k /\ xs.toList = Value.int n t :: rest := fun v hm => by
   obtain ⟨i, hi, e⟩ := List.getElem_of_mem hm
   obtain ⟨⟨a, o, xs, k, e1, e2, e3, e4, e5⟩, ne⟩ := hv i hi
   have ev : vs.getD i Value.none = v := by rw [RP, Qf hi]; exact e
   rw [ev] at e1
   revert e5 ne
   generalize f i = ns
   generalize ex : xs.toList = L
   intro ne e5
   cases e5 with
   | nil => exact absurd rfl ne
   | @cons n t vs' ns' tl => exact ⟨n, t, vs', a, o, xs, k, e1, hk _ _ e2, e3, e4, ex⟩
  have fs : ∀ L : List Value, (∀ v ∈ L, ∃ n t rest a o xs k, v = .ref a /\ h'.get? a = some o /\ o.cls = .type "tuple" /\ o.data = .seq xs k /\ xs.toList = Value.int n t :: rest) -> ∃ gs, KatTups h' L gs /\ gs.length = L.length /\ ∀ v ∈ gs, ∃ n t, v = Value.int n t := by
   intro L
   induction L with
   | nil => exact fun _ => ⟨[], .nil, rfl, fun _ h => (by cases h)⟩
   | cons v L ih =>
    intro hL
    obtain ⟨gs, g1, g2, g3⟩ := ih fun u hu => hL u (Pn _ hu)
    obtain ⟨n, t, rest, a, o, xs, k, rfl, e2, e3, e4, e5⟩ := hL v Pl
    refine ⟨.int n t :: gs, .cons e2 e3 e4 (by rw [<- QG, e5]; rfl) g1, by rw [Pu, Pu, g2], fun u hu => ?_⟩
    rcases Ps.mp hu with rfl | hu
    ·exact ⟨n, t, rfl⟩
    ·exact g3 u hu
  obtain ⟨gs, g1, g2, g3⟩ := fs vs hv'
  refine kat_kind (s := { s with heap := h' }) (T := .type "int") g1 (by lia) (fun v hm => ?_) (by decide) hq
  obtain ⟨n, t, rfl⟩ := g3 v hm
  exact Looks.of_pure rfl
 ·obtain ⟨⟨a, o, xs, k, e1, e2, e3, e4, e5⟩, _⟩ := hv i hi
  obtain ⟨⟨a', o', xs', k', e1', e2', e3', e4', e5'⟩, _⟩ := hv j hj
  unfold kas_ask
  rw [e1, e1']
  refine kat_lt (s := { s with heap := h' }) (hk _ _ e2) e4 (hk _ _ e2') e4' ?_
  refine Ib (s := { s with heap := h' }) _ _ _ _ _ _ _ e5 e5' ?_ hc
  simp
theorem tM : ∀ {vs : List Value} {ns : List Int}, IntsAre vs ns -> ∀ i, i < vs.length -> ∃ t, vs.getD i Value.none = .int (ns.getD i 0) t
 | _, _, .nil, i, h => by simp at h
 | _, _, .cons n t _, 0, _ => ⟨t, rfl⟩
 | _, _, .cons n t tl, i + 1, h => by
  obtain ⟨u, e⟩ := tM tl i (by simpa using h)
  exact ⟨u, by simpa using e⟩
theorem CF {vs : List Value} {ns : List Int} (hI : IntsAre vs ns) : Known prog w s vs oneType' fun i j => decide (ns.getD i 0 < ns.getD j 0) := by
 refine ⟨fun A E h' Q hk h2 hq => ?_, fun A h' i j C hk hi hj hc => ?_⟩
 ·rw [ksk_kind (keys := vs.toArray) (kz := ns) (by simpa using hI) (by simpa using h2)]
  exact Pm hq
 ·obtain ⟨t, e1⟩ := tM hI i hi
  obtain ⟨u, e2⟩ := tM hI j hj
  unfold kas_ask
  rw [e1, e2, keyLt'_oneType]
  exact oneLt_int hc
theorem GL (f : Nat -> Int) : Ord (fun i j => decide (f i < f j)) (fun i j => f i <= f j) :=
 ⟨fun _ _ _ h k => Int.le_trans h k, fun _ => PB _, fun a b h => Int.le_of_lt (QX h), fun a b h => by have := Ql h; show f b <= f a; lia⟩
theorem ji {vs : List Value} {ns : List Int} (hI : IntsAre vs ns) : ∀ L : List Nat, (∀ i ∈ L, i < vs.length) -> IntsAre (L.map fun i => vs.getD i Value.none) (L.map fun i => ns.getD i 0)
 | [], _ => .nil
 | i :: L, h => by
  obtain ⟨t, e⟩ := tM hI i (h i Pl)
  rw [Pt, Pt, e]
  exact .cons _ t (ji hI L fun j hj => h j (Pn _ hj))
theorem Bj : ∀ {vs : List Value} {ns : List Int}, IntsAre vs ns -> vs.length = ns.length
 | _, _, .nil => rfl
 | _, _, .cons n t tl => by rw [Pu, Pu, Bj tl]
theorem yy {l : Addr} {vs : List Value} {ns : List Int} {Q : Value -> Shared -> Prop} (hl : s.heap.IsList l vs.toArray) (hI : IntsAre vs ns) (hN : vs.length <= sizeLine)
  (h : ∀ (out : Array Value) ms, IntsAre out.toList ms -> ms.Perm ns -> ms.Pairwise (· <= ·) -> Q (.ref (s.heap.objs.size + 1)) { s with heap := sortedAll s.heap vs out }) : wpAny (model prog w) A (call (.builtin "sorted") [.ref l]) Q E s := by
 refine xM (GL fun i => ns.getD i 0) hl hN (CF hI) fun p hp ha => ?_
 have e := Bj hI
 have hb : ∀ i ∈ p.toList, i < vs.length := fun i hi => by simpa using (Rg.mp hp).mem_iff.mp hi
 rw [e] at hp ha
 obtain ⟨p1, p2⟩ := Bn (vs := ns) (d := 0) hp ha
 exact h (lv vs p) _ (by simpa [lv] using ji hI p.toList hb) p1 (p2 _ fun i j _ _ h => h)
end
end Srt
namespace L2
open PySem
def Ku (K : W.Frag) : List V -> Hp -> VK -> Prop := fun xs H Q => ∃ p ys, xs = [.ref p] /\ ((SqL K H p ys /\ ∀ l, H l = none -> Q (.ref l) (upd H l (.tup ys))) \/ (SqT K H p ys /\ Q (.ref p) H))
def Ld : List V -> Hp -> VK -> Prop := fun xs H Q => ∃ i j, xs = [.int i, .int j] /\ Q (.int (if j > i then j else i)) H
def Mi : List V -> Hp -> VK -> Prop := fun xs H Q => ∃ i j, xs = [.int i, .int j] /\ Q (.int (if j < i then j else i)) H
def NI (K : W.Frag) (ta : TE) : TT := fun σ H Q => ta σ H fun x H' => ∃ k, Hr K x H' k /\ Q k H'
def Af (K : W.Frag) : List V -> Hp -> VK -> Prop := fun xs H Q => ∃ p, ∃ ns : List Int, xs = [.ref p] /\ SqL K H p (ns.map V.int) /\ ns.length < 30000 /\
 ∀ (ms : List Int) l, ms.Perm ns -> ms.Pairwise (· <= ·) -> H l = none -> Q (.ref l) (upd H l (.lst (ms.map V.int)))
def K0 (n : Nat) : It := ⟨fun i _ => i < n, fun i H x H' => H' = H /\ x = .int (2 * i), fun i _ => n <= i⟩
def IJ (ta : TA) : TI := fun σ H R => ta σ H fun vs H1 => ∃ j : Int, vs = [.int 0, .int j, .int 2] /\ 0 <= j /\ j < 1000000 /\ R (K0 ((j + 1) / 2).toNat) H1
def Kj (K : W.Frag) (tl : TE) : TI := fun σ H R => tl σ H fun x H1 => ∃ a, x = .ref a /\ (((∃ xs, SqL K H1 a xs) /\ R (Itl K a) H1) \/ ((∃ xs, SqT K H1 a xs) /\ R (Itt K a) H1))
end L2
namespace M
open PySem L2
inductive D where
 | non | bl (b : Bool) | int (i : Int) | str (x : Str) | ty (n : String) | lst (l : List D) | tup (l : List D) | scr (l : List D) | ins (N : Str) (ns : List Str) (l : List D) | dic (ks : List (List Int))
 deriving Inhabited
theorem dZ {S S' : Hp} (s : Same S S') {a : Addr} {u : HO} (h : Rd S a u) : Rd S' a u := h.elim (fun e => .inl (s _ _ e)) fun ⟨o, e⟩ => .inr ⟨o, s _ _ e⟩
theorem e9 {K : W.Frag} {S S' : Hp} (s : Same S S') {a : Addr} {xs : List V} (h : SqL K S a xs) : SqL K S' a xs := h.elim (fun e => .inl (dZ s e)) .inr
theorem cv {K : W.Frag} {S S' : Hp} (s : Same S S') {a : Addr} {xs : List V} (h : SqT K S a xs) : SqT K S' a xs := h.elim (fun e => .inl (dZ s e)) .inr
def TpA (K : W.Frag) (S : Hp) (a : Addr) (xs : List V) : Prop := SqT K S a xs
theorem TpA.of {K : W.Frag} {S : Hp} {a : Addr} {xs : List V} (h : S a = some (.tup xs)) : TpA K S a xs := SqT.of h
theorem TpA.sq {K : W.Frag} {S : Hp} {a : Addr} {xs : List V} (h : TpA K S a xs) : SqT K S a xs := h
theorem TpA.mono {K : W.Frag} {S S' : Hp} (s : Same S S') {a : Addr} {xs : List V} (h : TpA K S a xs) : TpA K S' a xs := cv s h
def Ie (ks : List (List Int)) : List (List Key × V) := ks.map fun k => (k.map Sum.inl, V.bl true)
mutual
def Den (K : W.Frag) (S : Hp) : D -> V -> Prop
 | .non, v => v = .non
 | .bl b, v => v = .bl b
 | .int i, v => v = .int i
 | .str x, v => v = .str x
 | .ty x, v => v = .ty x
 | .lst l, v => ∃ p xs, v = .ref p /\ Rd S p (.lst xs) /\ Dens K S l xs
 | .tup l, v => ∃ p xs, v = .ref p /\ TpA K S p xs /\ Dens K S l xs
 | .scr l, v => ∃ p xs, v = .ref p /\ SqL K S p xs /\ Dens K S l xs
 | .ins N ns l, v => ∃ p C dx fs, v = .ref p /\ W.nsIn K mainGlobals N = some (some (.ref C)) /\ S p = some (.ins C dx fs) /\ fs.map (·.1) = ns /\ Dens K S l (fs.map (·.2))
 | .dic ks, v => ∃ p, v = .ref p /\ Rd S p (.dT (Ie ks))
def Dens (K : W.Frag) (S : Hp) : List D -> List V -> Prop
 | [], xs => xs = []
 | d :: ds, xs => ∃ y ys, xs = y :: ys /\ Den K S d y /\ Dens K S ds ys
end
section
variable {K : W.Frag} {S S' H H' : Hp}
theorem Dens.nil : Dens K S [] [] := by unfold Dens; rfl
theorem Dens.cons {d : D} {ds : List D} {y : V} {ys : List V} (h : Den K S d y) (k : Dens K S ds ys) : Dens K S (d :: ds) (y :: ys) := by unfold Dens; exact ⟨y, ys, rfl, h, k⟩
theorem Dens.nil_of {xs : List V} (h : Dens K S [] xs) : xs = [] := by unfold Dens at h; exact h
theorem Dens.cons_of {d : D} {ds : List D} {xs : List V} (h : Dens K S (d :: ds) xs) : ∃ y ys, xs = y :: ys /\ Den K S d y /\ Dens K S ds ys := by unfold Dens at h; exact h
theorem Dens.length : ∀ {ds : List D} {xs : List V}, Dens K S ds xs -> ds.length = xs.length
 | [], _, h => by rw [h.nil_of]; rfl
 | _ :: _, _, h => by
  obtain ⟨y, ys, rfl, _, k⟩ := h.cons_of
  rw [Pu, Pu, k.length]
theorem Dens.append : ∀ {ds es : List D} {xs ys : List V}, Dens K S ds xs -> Dens K S es ys -> Dens K S (ds ++ es) (xs ++ ys)
 | [], _, _, _, h, k => by rw [h.nil_of]; exact k
 | _ :: _, _, _, _, h, k => by
  obtain ⟨y, ys, rfl, a, b⟩ := h.cons_of
  exact .cons a (b.append k)
theorem Dens.get : ∀ {ds : List D} {xs : List V} {i : Nat} {d : D}, Dens K S ds xs -> ds[i]? = some d -> ∃ x, xs[i]? = some x /\ Den K S d x
 | [], _, _, _, _, e => by simp at e
 | _ :: _, _, 0, _, h, e => by
  obtain ⟨y, ys, rfl, a, b⟩ := h.cons_of
  simp at e; subst e
  exact ⟨y, rfl, a⟩
 | _ :: _, _, i + 1, _, h, e => by
  obtain ⟨y, ys, rfl, a, b⟩ := h.cons_of
  obtain ⟨x, e1, h1⟩ := b.get (i := i) (by simpa using e)
  exact ⟨x, by simpa using e1, h1⟩
theorem Dens.set : ∀ {ds : List D} {xs : List V} {d : D} {x : V} (i : Nat), Dens K S ds xs -> Den K S d x -> Dens K S (ds.set i d) (xs.set i x)
 | [], _, _, _, _, h, _ => by rw [h.nil_of]; exact .nil
 | _ :: _, _, _, _, 0, h, k => by
  obtain ⟨y, ys, rfl, a, b⟩ := h.cons_of
  exact .cons k b
 | _ :: _, _, _, _, i + 1, h, k => by
  obtain ⟨y, ys, rfl, a, b⟩ := h.cons_of
  exact .cons a (b.set i k)
theorem Dens.take : ∀ {ds : List D} {xs : List V} (i : Nat), Dens K S ds xs -> Dens K S (ds.take i) (xs.take i)
 | [], _, _, h => by rw [h.nil_of]; simp; exact .nil
 | _ :: _, _, 0, h => by simp; exact .nil
 | _ :: _, _, i + 1, h => by
  obtain ⟨y, ys, rfl, a, b⟩ := h.cons_of
  exact .cons a (b.take i)
theorem Dens.drop : ∀ {ds : List D} {xs : List V} (i : Nat), Dens K S ds xs -> Dens K S (ds.drop i) (xs.drop i)
 | [], _, _, h => by rw [h.nil_of]; simp; exact .nil
 | _ :: _, _, 0, h => h
 | _ :: _, _, i + 1, h => by
  obtain ⟨y, ys, rfl, a, b⟩ := h.cons_of
  exact b.drop i
mutual
theorem Den.mono (s : Same S S') : ∀ {d : D} {v : V}, Den K S d v -> Den K S' d v
 | .dic _, _, h => by
  unfold Den at *
  obtain ⟨p, e, h1⟩ := h
  exact ⟨p, e, dZ s h1⟩
 | .non, _, h => by unfold Den at *; exact h
 | .bl _, _, h => by unfold Den at *; exact h
 | .int _, _, h => by unfold Den at *; exact h
 | .str _, _, h => by unfold Den at *; exact h
 | .ty _, _, h => by unfold Den at *; exact h
 | .lst _, _, h => by
  unfold Den at *
  obtain ⟨p, xs, e, h1, h2⟩ := h
  exact ⟨p, xs, e, dZ s h1, Dens.mono s h2⟩
 | .tup _, _, h => by
  unfold Den at *
  obtain ⟨p, xs, e, h1, h2⟩ := h
  exact ⟨p, xs, e, TpA.mono s h1, Dens.mono s h2⟩
 | .scr _, _, h => by
  unfold Den at *
  obtain ⟨p, xs, e, h1, h2⟩ := h
  exact ⟨p, xs, e, e9 s h1, Dens.mono s h2⟩
 | .ins _ _ _, _, h => by
  unfold Den at *
  obtain ⟨p, C, dx, fs, e, h0, h1, h2, h3⟩ := h
  exact ⟨p, C, dx, fs, e, h0, s _ _ h1, h2, Dens.mono s h3⟩
theorem Dens.mono (s : Same S S') : ∀ {ds : List D} {xs : List V}, Dens K S ds xs -> Dens K S' ds xs
 | [], _, h => by rw [h.nil_of]; exact .nil
 | _ :: _, _, h => by
  obtain ⟨y, ys, rfl, a, b⟩ := h.cons_of
  exact .cons (Den.mono s a) (Dens.mono s b)
end
theorem den_int {i : Int} {v : V} : Den K S (.int i) v ↔ v = .int i := by unfold Den; exact QA
theorem den_bl {b : Bool} {v : V} : Den K S (.bl b) v ↔ v = .bl b := by unfold Den; exact QA
theorem den_non {v : V} : Den K S .non v ↔ v = .non := by unfold Den; exact QA
theorem den_str {x : Str} {v : V} : Den K S (.str x) v ↔ v = .str x := by unfold Den; exact QA
theorem den_ty {x : String} {v : V} : Den K S (.ty x) v ↔ v = .ty x := by unfold Den; exact QA
theorem den_tup {l : List D} {v : V} : Den K S (.tup l) v ↔ ∃ p xs, v = .ref p /\ TpA K S p xs /\ Dens K S l xs := by
 constructor
 ·intro h; unfold Den at h; exact h
 ·intro h; unfold Den; exact h
theorem iY {l : List D} {v : V} (h : Den K S (.tup l) v) : ∃ p xs, v = .ref p /\ SqT K S p xs /\ Dens K S l xs := by
 obtain ⟨p, xs, e, h1, h2⟩ := den_tup.mp h
 exact ⟨p, xs, e, h1.sq, h2⟩
theorem den_lst {l : List D} {v : V} : Den K S (.lst l) v ↔ ∃ p xs, v = .ref p /\ Rd S p (.lst xs) /\ Dens K S l xs := by
 constructor
 ·intro h; unfold Den at h; exact h
 ·intro h; unfold Den; exact h
theorem den_scr {l : List D} {v : V} : Den K S (.scr l) v ↔ ∃ p xs, v = .ref p /\ SqL K S p xs /\ Dens K S l xs := by
 constructor
 ·intro h; unfold Den at h; exact h
 ·intro h; unfold Den; exact h
theorem den_ins {N : Str} {ns : List Str} {l : List D} {v : V} : Den K S (.ins N ns l) v ↔ ∃ p C dx fs, v = .ref p /\ W.nsIn K mainGlobals N = some (some (.ref C)) /\ S p = some (.ins C dx fs) /\ fs.map (·.1) = ns /\ Dens K S l (fs.map (·.2)) := by
 constructor
 ·intro h; unfold Den at h; exact h
 ·intro h; unfold Den; exact h
def DenP (K : W.Frag) (S H : Hp) (d : D) (v : V) : Prop := Den K S d v \/ ∃ l p xs, d = .lst l /\ v = .ref p /\ H p = some (.lst xs) /\ Dens K S l xs
theorem DenP.lst {l : List D} {v : V} (s : Same S H) (h : DenP K S H (.lst l) v) : ∃ p xs, v = .ref p /\ Rd H p (.lst xs) /\ Dens K S l xs := by
 rcases h with h | ⟨l', p, xs, e, e1, e2, e3⟩
 ·obtain ⟨p, xs, e, e1, e2⟩ := den_lst.mp h
  exact ⟨p, xs, e, dZ s e1, e2⟩
 ·cases e
  exact ⟨p, xs, e1, .inl e2, e3⟩
theorem DenP.tup {l : List D} {v : V} (s : Same S H) (h : DenP K S H (.tup l) v) : ∃ p xs, v = .ref p /\ SqT K H p xs /\ Dens K S l xs := by
 rcases h with h | ⟨l', p, xs, e, e1, e2, e3⟩
 ·obtain ⟨p, xs, e, e1, e2⟩ := iY h
  exact ⟨p, xs, e, cv s e1, e2⟩
 ·cases e
theorem DenP.scr {l : List D} {v : V} (s : Same S H) (h : DenP K S H (.scr l) v) : ∃ p xs, v = .ref p /\ SqL K H p xs /\ Dens K S l xs := by
 rcases h with h | ⟨l', p, xs, e, e1, e2, e3⟩
 ·obtain ⟨p, xs, e, e1, e2⟩ := den_scr.mp h
  exact ⟨p, xs, e, e9 s e1, e2⟩
 ·cases e
theorem DenP.int {i : Int} {v : V} (h : DenP K S H (.int i) v) : v = .int i := by
 rcases h with h | ⟨l', p, xs, e, _⟩
 ·exact den_int.mp h
 ·cases e
theorem DenP.bl {i : Bool} {v : V} (h : DenP K S H (.bl i) v) : v = .bl i := by
 rcases h with h | ⟨l', p, xs, e, _⟩
 ·exact den_bl.mp h
 ·cases e
theorem DenP.str {i : Str} {v : V} (h : DenP K S H (.str i) v) : v = .str i := by
 rcases h with h | ⟨l', p, xs, e, _⟩
 ·exact den_str.mp h
 ·cases e
theorem DenP.non {v : V} (h : DenP K S H .non v) : v = .non := by
 rcases h with h | ⟨l', p, xs, e, _⟩
 ·exact den_non.mp h
 ·cases e
theorem DenP.ty {i : String} {v : V} (h : DenP K S H (.ty i) v) : v = .ty i := by
 rcases h with h | ⟨l', p, xs, e, _⟩
 ·exact den_ty.mp h
 ·cases e
structure Ext (S H S' H' : Hp) : Prop where
 sh : Same S S'
 sub : Same S' H'
 al : ∀ b o, H b = some o -> S b = none -> H' b = some o /\ S' b = none
theorem Ext.refl (h : Same S H) : Ext S H S H := ⟨Same.refl _, h, fun _ _ h n => ⟨h, n⟩⟩
theorem Ext.trans {S1 H1 S2 H2 : Hp} (a : Ext S H S1 H1) (b : Ext S1 H1 S2 H2) : Ext S H S2 H2 := ⟨a.sh.trans b.sh, b.sub, fun c o h n => b.al c o (a.al c o h n).1 (a.al c o h n).2⟩
theorem Ext.same (a : Ext S H S' H') (s : Same S H) : Same H H' := fun b o h => by
 cases q : S b with
 | none => exact (a.al b o h q).1
 | some u =>
  have := s b u q
  rw [h] at this
  cases this
  exact a.sub b o (a.sh b o q)
theorem Ext.new (s : Same S H) {p : Addr} {o : HO} (h : H p = none) : Ext S H (upd S p o) (upd H p o) where
 sh := fun b u e => by rw [a9 (bj e (s.free h))]; exact e
 sub := fun b u e => by
  by_cases hb : b = p
  ·subst hb; rw [a6] at e ⊢; exact e
  ·rw [a9 hb] at e ⊢; exact s b u e
 al := fun b u e n => by
  have hb := bj e h
  rw [a9 hb, a9 hb]
  exact ⟨e, n⟩
theorem Ext.own (s : Same S H) {p : Addr} {o : HO} (h : H p = none) : Ext S H S (upd H p o) where
 sh := Same.refl _
 sub := fun b u e => by rw [a9 (bj (s b u e) h)]; exact s b u e
 al := fun b u e n => by
  have hb := bj e h
  rw [a9 hb]
  exact ⟨e, n⟩
theorem DenP.mono {d : D} {v : V} (e : Ext S H S' H') (s : Same S H) (h : DenP K S H d v) : DenP K S' H' d v := by
 rcases h with h | ⟨l, p, xs, h1, h2, h3, h4⟩
 ·exact .inl (h.mono e.sh)
 ·exact .inr ⟨l, p, xs, h1, h2, e.same s _ _ h3, h4.mono e.sh⟩
inductive DensP (K : W.Frag) (S H : Hp) : List D -> List V -> Prop where
 | nil : DensP K S H [] []
 | cons {d ds v vs} : DenP K S H d v -> DensP K S H ds vs -> DensP K S H (d :: ds) (v :: vs)
inductive O where
 | sh (d : D) | lst (l : List O) | tup (l : List O) | dic (ks : List (List Int))
 deriving Inhabited
mutual
def O.d : O -> D
 | .sh d => d
 | .dic ks => .dic ks
 | .lst l => .lst (O.ds l)
 | .tup l => .tup (O.ds l)
def O.ds : List O -> List D
 | [] => []
 | o :: l => o.d :: O.ds l
end
mutual
def Own (K : W.Frag) (S H : Hp) : O -> V -> List Addr -> Prop
 | .sh d, v, fp => fp = [] /\ Den K S d v
 | .lst l, v, fp => ∃ a xs f, v = .ref a /\ fp = a :: f /\ H a = some (.lst xs) /\ Owns K S H l xs f
 | .tup l, v, fp => ∃ a xs f, v = .ref a /\ fp = a :: f /\ H a = some (.tup xs) /\ Owns K S H l xs f
 | .dic ks, v, fp => ∃ a, v = .ref a /\ fp = [a] /\ H a = some (.dT (Ie ks))
def Owns (K : W.Frag) (S H : Hp) : List O -> List V -> List Addr -> Prop
 | [], xs, fp => xs = [] /\ fp = []
 | o :: l, xs, fp => ∃ y ys f g, xs = y :: ys /\ fp = f ++ g /\ Own K S H o y f /\ Owns K S H l ys g
end
theorem den_dic {ks : List (List Int)} {v : V} : Den K S (.dic ks) v ↔ ∃ p, v = .ref p /\ Rd S p (.dT (Ie ks)) := by unfold Den; exact QA
theorem own_dic {ks : List (List Int)} {v : V} {fp : List Addr} : Own K S H (.dic ks) v fp ↔ ∃ a, v = .ref a /\ fp = [a] /\ H a = some (.dT (Ie ks)) := by unfold Own; exact QA
theorem own_sh {d : D} {v : V} {fp : List Addr} : Own K S H (.sh d) v fp ↔ fp = [] /\ Den K S d v := by unfold Own; exact QA
theorem own_lst {l : List O} {v : V} {fp : List Addr} : Own K S H (.lst l) v fp ↔ ∃ a xs f, v = .ref a /\ fp = a :: f /\ H a = some (.lst xs) /\ Owns K S H l xs f := by
 constructor
 ·intro h; unfold Own at h; exact h
 ·intro h; unfold Own; exact h
theorem own_tup {l : List O} {v : V} {fp : List Addr} : Own K S H (.tup l) v fp ↔ ∃ a xs f, v = .ref a /\ fp = a :: f /\ H a = some (.tup xs) /\ Owns K S H l xs f := by
 constructor
 ·intro h; unfold Own at h; exact h
 ·intro h; unfold Own; exact h
theorem Owns.nil : Owns K S H [] [] [] := by unfold Owns; exact ⟨rfl, rfl⟩
theorem Owns.cons {o : O} {l : List O} {y : V} {ys : List V} {f g : List Addr} (h : Own K S H o y f) (k : Owns K S H l ys g) : Owns K S H (o :: l) (y :: ys) (f ++ g) := by unfold Owns; exact ⟨y, ys, f, g, rfl, rfl, h, k⟩
theorem Owns.nil_of {xs : List V} {fp : List Addr} (h : Owns K S H [] xs fp) : xs = [] /\ fp = [] := by unfold Owns at h; exact h
theorem Owns.cons_of {o : O} {l : List O} {xs : List V} {fp : List Addr} (h : Owns K S H (o :: l) xs fp) : ∃ y ys f g, xs = y :: ys /\ fp = f ++ g /\ Own K S H o y f /\ Owns K S H l ys g := by unfold Owns at h; exact h
theorem Owns.length : ∀ {l : List O} {xs : List V} {fp : List Addr}, Owns K S H l xs fp -> l.length = xs.length
 | [], _, _, h => by rw [h.nil_of.1]; rfl
 | _ :: _, _, _, h => by
  obtain ⟨y, ys, f, g, rfl, rfl, _, k⟩ := h.cons_of
  rw [Pu, Pu, k.length]
theorem Owns.append : ∀ {l m : List O} {xs ys : List V} {f g : List Addr}, Owns K S H l xs f -> Owns K S H m ys g -> Owns K S H (l ++ m) (xs ++ ys) (f ++ g)
 | [], _, _, _, _, _, h, k => by rw [h.nil_of.1, h.nil_of.2]; exact k
 | _ :: _, _, _, _, _, _, h, k => by
  obtain ⟨y, ys, f, g, rfl, rfl, a, b⟩ := h.cons_of
  rw [PQ]
  exact .cons a (b.append k)
theorem tq : ∀ {ds : List D} {xs : List V}, Dens K S ds xs -> Owns K S H (ds.map .sh) xs []
 | [], _, h => by rw [h.nil_of]; exact .nil
 | _ :: _, _, h => by
  obtain ⟨y, ys, rfl, a, b⟩ := h.cons_of
  exact .cons (f := []) (own_sh.mpr ⟨rfl, a⟩) (tq b)
theorem nY : ∀ {ds : List D} {xs : List V} {fp : List Addr}, Owns K S H (ds.map .sh) xs fp -> Dens K S ds xs /\ fp = []
 | [], _, _, h => by rw [h.nil_of.1, h.nil_of.2]; exact ⟨.nil, rfl⟩
 | _ :: _, _, _, h => by
  obtain ⟨y, ys, f, g, rfl, rfl, a, b⟩ := h.cons_of
  obtain ⟨e, a⟩ := own_sh.mp a
  obtain ⟨b, e2⟩ := nY b
  exact ⟨.cons a b, by rw [e, e2]; rfl⟩
mutual
theorem Own.mono (s : Same S S') : ∀ {o : O} {v : V} {fp : List Addr}, (∀ b ∈ fp, H' b = H b) -> Own K S H o v fp -> Own K S' H' o v fp
 | .dic _, _, _, k, h => by
  obtain ⟨a, e, rfl, h1⟩ := own_dic.mp h
  exact own_dic.mpr ⟨a, e, rfl, by rw [k a Pl]; exact h1⟩
 | .sh _, _, _, k, h => by
  obtain ⟨e, d⟩ := own_sh.mp h
  exact own_sh.mpr ⟨e, d.mono s⟩
 | .lst _, _, _, k, h => by
  obtain ⟨a, xs, f, e, rfl, h1, h2⟩ := own_lst.mp h
  exact own_lst.mpr ⟨a, xs, f, e, rfl, by rw [k a Pl]; exact h1, Owns.mono s (fun b hb => k b (Pn _ hb)) h2⟩
 | .tup _, _, _, k, h => by
  obtain ⟨a, xs, f, e, rfl, h1, h2⟩ := own_tup.mp h
  exact own_tup.mpr ⟨a, xs, f, e, rfl, by rw [k a Pl]; exact h1, Owns.mono s (fun b hb => k b (Pn _ hb)) h2⟩
theorem Owns.mono (s : Same S S') : ∀ {l : List O} {xs : List V} {fp : List Addr}, (∀ b ∈ fp, H' b = H b) -> Owns K S H l xs fp -> Owns K S' H' l xs fp
 | [], _, _, k, h => by rw [h.nil_of.1, h.nil_of.2]; exact .nil
 | _ :: _, _, _, k, h => by
  obtain ⟨y, ys, f, g, rfl, rfl, a, b⟩ := h.cons_of
  exact .cons (Own.mono s (fun b hb => k b (Po _ hb)) a) (Owns.mono s (fun b hb => k b (Pr _ hb)) b)
end
mutual
theorem Own.there : ∀ {o : O} {v : V} {fp : List Addr}, Own K S H o v fp -> ∀ b ∈ fp, H b ≠ none
 | .dic _, _, _, h => by
  obtain ⟨a, e, rfl, h1⟩ := own_dic.mp h
  intro b hb
  rw [Pg] at hb
  subst hb
  rw [h1]; exact fun z => by cases z
 | .sh _, _, _, h => by
  obtain ⟨e, d⟩ := own_sh.mp h
  rw [e]; intro b hb; cases hb
 | .lst _, _, _, h => by
  obtain ⟨a, xs, f, e, rfl, h1, h2⟩ := own_lst.mp h
  intro b hb
  rcases Ps.mp hb with rfl | hb
  ·rw [h1]; exact fun z => by cases z
  ·exact Owns.there h2 b hb
 | .tup _, _, _, h => by
  obtain ⟨a, xs, f, e, rfl, h1, h2⟩ := own_tup.mp h
  intro b hb
  rcases Ps.mp hb with rfl | hb
  ·rw [h1]; exact fun z => by cases z
  ·exact Owns.there h2 b hb
theorem Owns.there : ∀ {l : List O} {xs : List V} {fp : List Addr}, Owns K S H l xs fp -> ∀ b ∈ fp, H b ≠ none
 | [], _, _, h => by rw [h.nil_of.2]; intro b hb; cases hb
 | _ :: _, _, _, h => by
  obtain ⟨y, ys, f, g, rfl, rfl, a, b⟩ := h.cons_of
  intro c hc
  rcases Pk.mp hc with hc | hc
  ·exact Own.there a c hc
  ·exact Owns.there b c hc
end
mutual
theorem Own.den {S2 : Hp} (s : Same S S2) : ∀ {o : O} {v : V} {fp : List Addr}, (∀ b ∈ fp, S2 b = H b) -> Own K S H o v fp -> Den K S2 o.d v
 | .dic _, _, _, k, h => by
  obtain ⟨a, e, rfl, h1⟩ := own_dic.mp h
  rw [O.d]
  exact den_dic.mpr ⟨a, e, .inl (by rw [k a Pl]; exact h1)⟩
 | .sh _, _, _, k, h => by
  obtain ⟨e, d⟩ := own_sh.mp h
  exact d.mono s
 | .lst l, _, _, k, h => by
  obtain ⟨a, xs, f, e, rfl, h1, h2⟩ := own_lst.mp h
  rw [O.d]
  exact den_lst.mpr ⟨a, xs, e, .inl (by rw [k a Pl]; exact h1), Owns.den s (fun b hb => k b (Pn _ hb)) h2⟩
 | .tup l, _, _, k, h => by
  obtain ⟨a, xs, f, e, rfl, h1, h2⟩ := own_tup.mp h
  rw [O.d]
  exact den_tup.mpr ⟨a, xs, e, TpA.of (by rw [k a Pl]; exact h1), Owns.den s (fun b hb => k b (Pn _ hb)) h2⟩
theorem Owns.den {S2 : Hp} (s : Same S S2) : ∀ {l : List O} {xs : List V} {fp : List Addr}, (∀ b ∈ fp, S2 b = H b) -> Owns K S H l xs fp -> Dens K S2 (O.ds l) xs
 | [], _, _, k, h => by rw [h.nil_of.1, O.ds]; exact .nil
 | _ :: _, _, _, k, h => by
  obtain ⟨y, ys, f, g, rfl, rfl, a, b⟩ := h.cons_of
  rw [O.ds]
  exact .cons (Own.den s (fun b hb => k b (Po _ hb)) a) (Owns.den s (fun b hb => k b (Pr _ hb)) b)
end
theorem Own.denH {o : O} {v : V} {fp : List Addr} (s : Same S H) (h : Own K S H o v fp) : Den K H o.d v := h.den s fun _ _ => rfl
theorem Ext.keeps {fp : List Addr} (e : Ext S H S' H') (h : ∀ b ∈ fp, S b = none) (t : ∀ b ∈ fp, H b ≠ none) : (∀ b ∈ fp, H' b = H b) /\ ∀ b ∈ fp, S' b = none := by
 have key : ∀ b ∈ fp, H' b = H b /\ S' b = none := fun b hb => by
  cases q : H b with
  | none => exact absurd q (t b hb)
  | some o => exact e.al b o q (h b hb)
 exact ⟨fun b hb => (key b hb).1, fun b hb => (key b hb).2⟩
inductive Sl where
 | un | lo | sh (d : D) | ow (o : O)
 deriving Inhabited
abbrev Env := List Sl
structure RlF (K : W.Frag) (A : Hp) (Λ : Nat -> Option Addr) (Φ : Nat -> List Addr) (ρ : Env) (σ : St) (S H : Hp) : Prop where
 len : σ.length = ρ.length
 sub : Same S H
 sh : ∀ (i : Nat) d, ρ[i]? = some (.sh d) -> ∃ v, σ[i]? = some (some v) /\ Den K S d v
 ow : ∀ (i : Nat) o, ρ[i]? = some (.ow o) -> ∃ v, σ[i]? = some (some v) /\ Own K S H o v (Φ i) /\ (Φ i).Nodup /\ ∀ b ∈ Φ i, S b = none /\ A b = none
 dj : ∀ (i j : Nat) o o', i ≠ j -> ρ[i]? = some (.ow o) -> ρ[j]? = some (.ow o') -> ∀ b ∈ Φ i, b ∉ Φ j
 lo : ∀ (i : Nat), ρ[i]? = some .lo -> ∃ a, Λ i = some a /\ σ[i]? = some (some (.ref a))
 asub : Same A H
 adis : ∀ b, S b = none \/ A b = none
def RlA (K : W.Frag) (A : Hp) (Λ : Nat -> Option Addr) (ρ : Env) (σ : St) (S H : Hp) : Prop := ∃ Φ, RlF K A Λ Φ ρ σ S H
def Rl (K : W.Frag) (ρ : Env) (σ : St) (S H : Hp) : Prop := ∃ A Λ Φ, RlF K A Λ Φ ρ σ S H
theorem RlF.ext {A : Hp} {Λ : Nat -> Option Addr} {Φ : Nat -> List Addr} {ρ : Env} {σ : St} (r : RlF K A Λ Φ ρ σ S H) (e : Ext S H S' H') : RlF K A Λ Φ ρ σ S' H' where
 len := r.len
 sub := e.sub
 sh := fun i d h => by
  obtain ⟨v, h1, h2⟩ := r.sh i d h
  exact ⟨v, h1, h2.mono e.sh⟩
 ow := fun i o h => by
  obtain ⟨v, h1, h2, h3, h4⟩ := r.ow i o h
  obtain ⟨k1, k2⟩ := e.keeps (fun b hb => (h4 b hb).1) h2.there
  exact ⟨v, h1, h2.mono e.sh k1, h3, fun b hb => ⟨k2 b hb, (h4 b hb).2⟩⟩
 dj := r.dj
 lo := r.lo
 asub := fun b o h => e.same r.sub b o (r.asub b o h)
 adis := fun b => by
  rcases r.adis b with h | h
  ·cases q : A b with
   | none => exact .inr rfl
   | some o => exact .inl (e.al b o (r.asub b o q) h).2
  ·exact .inr h
theorem RlA.ext {A : Hp} {Λ : Nat -> Option Addr} {ρ : Env} {σ : St} (r : RlA K A Λ ρ σ S H) (e : Ext S H S' H') : RlA K A Λ ρ σ S' H' := let ⟨Φ, f⟩ := r; ⟨Φ, f.ext e⟩
theorem RlA.toRl {A : Hp} {Λ : Nat -> Option Addr} {ρ : Env} {σ : St} (r : RlA K A Λ ρ σ S H) : Rl K ρ σ S H := let ⟨Φ, f⟩ := r; ⟨A, Λ, Φ, f⟩
theorem RlA.sub {A : Hp} {Λ : Nat -> Option Addr} {ρ : Env} {σ : St} (r : RlA K A Λ ρ σ S H) : Same S H := let ⟨_, f⟩ := r; f.sub
theorem RlA.asub {A : Hp} {Λ : Nat -> Option Addr} {ρ : Env} {σ : St} (r : RlA K A Λ ρ σ S H) : Same A H := let ⟨_, f⟩ := r; f.asub
theorem RlA.adis {A : Hp} {Λ : Nat -> Option Addr} {ρ : Env} {σ : St} (r : RlA K A Λ ρ σ S H) : ∀ b, S b = none \/ A b = none := let ⟨_, f⟩ := r; f.adis
theorem RlA.sh {A : Hp} {Λ : Nat -> Option Addr} {ρ : Env} {σ : St} (r : RlA K A Λ ρ σ S H) : ∀ (i : Nat) d, ρ[i]? = some (.sh d) -> ∃ v, σ[i]? = some (some v) /\ Den K S d v := let ⟨_, f⟩ := r; f.sh
theorem Rl.ext {ρ : Env} {σ : St} (r : Rl K ρ σ S H) (e : Ext S H S' H') : Rl K ρ σ S' H' := let ⟨A, Λ, Φ, f⟩ := r; ⟨A, Λ, Φ, f.ext e⟩
theorem Rl.sub {ρ : Env} {σ : St} (r : Rl K ρ σ S H) : Same S H := let ⟨_, _, _, f⟩ := r; f.sub
theorem Rl.sh {ρ : Env} {σ : St} (r : Rl K ρ σ S H) : ∀ (i : Nat) d, ρ[i]? = some (.sh d) -> ∃ v, σ[i]? = some (some v) /\ Den K S d v := let ⟨_, _, _, f⟩ := r; f.sh
theorem Rl.ow {ρ : Env} {σ : St} (r : Rl K ρ σ S H) : ∀ (i : Nat) o, ρ[i]? = some (.ow o) -> ∃ v fp, σ[i]? = some (some v) /\ Own K S H o v fp /\ fp.Nodup /\ ∀ b ∈ fp, S b = none := fun i o h => by
 obtain ⟨A, Λ, Φ, f⟩ := r
 obtain ⟨v, h1, h2, h3, h4⟩ := f.ow i o h
 exact ⟨v, _, h1, h2, h3, fun b hb => (h4 b hb).1⟩
abbrev XE := Env -> Option D
abbrev XT := Env -> Option Bool
abbrev XA := Env -> Option (List D)
def SE (K : W.Frag) (t : TE) (e : XE) : Prop := ∀ ρ σ S H (Q : VK) d, Rl K ρ σ S H -> e ρ = some d -> (∀ v S' H', Ext S H S' H' -> Den K S' d v -> Q v H') -> t σ H Q
def SPk (K : W.Frag) (t : TE) (e : XE) : Prop := ∀ ρ σ S H (Q : VK) d, Rl K ρ σ S H -> e ρ = some d -> (∀ v S' H', Ext S H S' H' -> DenP K S' H' d v -> Q v H') -> t σ H Q
def SF (K : W.Frag) (t : TE) (e : XA) : Prop := ∀ ρ σ S H (Q : VK) l, Rl K ρ σ S H -> e ρ = some l -> (∀ a xs S' H', Ext S H S' H' -> H a = none -> S' a = none -> H' a = some (.lst xs) -> Dens K S' l xs -> Q (.ref a) H') -> t σ H Q
def ST (K : W.Frag) (t : TT) (c : XT) : Prop := ∀ ρ σ S H (Q : Bool -> Hp -> Prop) b, Rl K ρ σ S H -> c ρ = some b -> (∀ S' H', Ext S H S' H' -> Q b H') -> t σ H Q
def SA (K : W.Frag) (t : TA) (e : XA) : Prop := ∀ ρ σ S H (Q : List V -> Hp -> Prop) ds, Rl K ρ σ S H -> e ρ = some ds -> (∀ vs S' H', Ext S H S' H' -> Dens K S' ds vs -> Q vs H') -> t σ H Q
def SAP (K : W.Frag) (t : TA) (e : XA) : Prop := ∀ ρ σ S H (Q : List V -> Hp -> Prop) ds, Rl K ρ σ S H -> e ρ = some ds -> (∀ vs S' H', Ext S H S' H' -> DensP K S' H' ds vs -> Q vs H') -> t σ H Q
theorem SE.p {t : TE} {e : XE} (h : SE K t e) : SPk K t e := fun ρ σ S H Q d r x k => h ρ σ S H Q d r x fun v S' H' z dv => k v S' H' z (.inl dv)
@[simp] def xL (e : XA) : XE := fun ρ => (e ρ).map D.lst
theorem SF.e {t : TE} {e : XA} (h : SF K t e) : SE K t (xL e) := fun ρ σ S H Q d r x k => by
 unfold xL at x
 cases q : e ρ with
 | none => rw [q] at x; cases x
 | some l =>
  rw [q] at x
  cases x
  refine h ρ σ S H Q l r q fun a xs S' H' z h1 h2 h3 h4 => ?_
  have s2 : Same S' (upd S' a (.lst xs)) := fun b u e => by rw [a9 (bj e h2)]; exact e
  refine k _ (upd S' a (.lst xs)) H' ⟨z.sh.trans s2, fun b u e => ?_, fun b o e n => ?_⟩ (den_lst.mpr ⟨a, xs, rfl, .inl a6, h4.mono s2⟩)
  ·by_cases hb : b = a
   ·subst hb; rw [a6] at e; cases e; exact h3
   ·rw [a9 hb] at e; exact z.sub b u e
  ·obtain ⟨y1, y2⟩ := z.al b o e n
   exact ⟨y1, by rw [a9 (bj e h1)]; exact y2⟩
@[simp] def au (i : Nat) : XE := fun ρ => match ρ[i]? with | some (.sh d) => some d | _ => none
def shs : List O -> Option (List D)
 | [] => some []
 | .sh d :: l => (shs l).map fun r => d :: r
 | _ => none
theorem tF : ∀ l : List D, shs (l.map .sh) = some l
 | [] => rfl
 | d :: l => by rw [Pt, shs, tF l]; rfl
theorem Cr : ∀ {os : List O} {l : List D}, shs os = some l -> os = l.map .sh
 | [], l, h => by cases h; rfl
 | o :: os, l, h => by
  cases o with
  | sh d =>
   have h' : (shs os).map (fun r => d :: r) = some l := h
   cases q : shs os with
   | none => rw [q] at h'; cases h'
   | some m => rw [q] at h'; cases h'; rw [Cr q]; rfl
  | lst _ => cases h
  | tup _ => cases h
  | dic _ => cases h
def Fg : Sl -> Option D
 | .sh d => some d
 | .ow (.sh d) => some d
 | .ow (.lst os) => (shs os).map D.lst
 | _ => none
@[simp] theorem ML (d : D) : Fg (.ow (.sh d)) = some d := rfl
@[simp] theorem MH (d : D) : Fg (.sh d) = some d := rfl
@[simp] theorem MM (l : List D) : Fg (.ow (.lst (l.map .sh))) = some (.lst l) := by show (shs _).map D.lst = _; rw [tF]; rfl
@[simp] def ai (i : Nat) : XE := fun ρ => (ρ[i]?).bind Fg
theorem DE (i : Nat) : SE K (uw i) (au i) := fun ρ σ S H Q d r x k => by
 unfold au at x
 split at x
 ·rename_i d' e
  cases x
  obtain ⟨v, h1, h2⟩ := r.sh i _ e
  exact ⟨v, h1, k v S H (Ext.refl r.sub) h2⟩
 ·cases x
theorem lW (i : Nat) : SPk K (uw i) (ai i) := fun ρ σ S H Q d r x k => by
 unfold ai at x
 cases q : ρ[i]? with
 | none => rw [q] at x; cases x
 | some s =>
  rw [q] at x
  cases s with
  | un => cases x
  | lo => cases x
  | sh d' =>
   cases x
   obtain ⟨v, h1, h2⟩ := r.sh i _ q
   exact ⟨v, h1, k v S H (Ext.refl r.sub) (.inl h2)⟩
  | ow o =>
   cases o with
   | sh d' =>
    cases x
    obtain ⟨v, fp, h1, h2, h3, h4⟩ := r.ow i _ q
    exact ⟨v, h1, k v S H (Ext.refl r.sub) (.inl (own_sh.mp h2).2)⟩
   | tup l => cases x
   | dic ks => cases x
   | lst os =>
    have x' : (shs os).map D.lst = some d := x
    cases qs : shs os with
    | none => rw [qs] at x'; cases x'
    | some l =>
     rw [qs] at x'
     cases x'
     have e := Cr qs
     subst e
     obtain ⟨v, fp, h1, h2, h3, h4⟩ := r.ow i _ q
     obtain ⟨a, xs, f, rfl, rfl, h5, h6⟩ := own_lst.mp h2
     exact ⟨_, h1, k _ S H (Ext.refl r.sub) (.inr ⟨l, a, xs, rfl, rfl, h5, (nY h6).1⟩)⟩
def SQ (K : W.Frag) (t : TE) (e : XE) : Prop := ∀ ρ σ S H (Q : VK) d, Rl K ρ σ S H -> e ρ = some d -> (∀ v S' H', Ext S H S' H' -> Den K H' d v -> Q v H') -> t σ H Q
theorem um {d : D} {v : V} (s : Same S H) (h : DenP K S H d v) : Den K H d v := by
 rcases h with h | ⟨l, p, xs, rfl, rfl, h1, h2⟩
 ·exact h.mono s
 ·exact den_lst.mpr ⟨p, xs, rfl, .inl h1, h2.mono s⟩
theorem SPk.q {t : TE} {e : XE} (h : SPk K t e) : SQ K t e := fun ρ σ S H Q d r x k => h ρ σ S H Q d r x fun v S' H' z dv => k v S' H' z (um z.sub dv)
def GU : Sl -> Option D
 | .sh d => some d
 | .ow o => some o.d
 | _ => none
@[simp] theorem Mc (d : D) : GU (.sh d) = some d := rfl
@[simp] theorem LX (o : O) : GU (.ow o) = some o.d := rfl
@[simp] def pR (i : Nat) : XE := fun ρ => (ρ[i]?).bind GU
theorem KE (i : Nat) : SQ K (uw i) (pR i) := fun ρ σ S H Q d r x k => by
 unfold pR at x
 cases q : ρ[i]? with
 | none => rw [q] at x; cases x
 | some s =>
  rw [q] at x
  cases s with
  | un => cases x
  | lo => cases x
  | sh d' =>
   cases x
   obtain ⟨v, h1, h2⟩ := r.sh i _ q
   exact ⟨v, h1, k v S H (Ext.refl r.sub) (h2.mono r.sub)⟩
  | ow o =>
   cases x
   obtain ⟨v, fp, h1, h2, h3, h4⟩ := r.ow i _ q
   exact ⟨_, h1, k _ S H (Ext.refl r.sub) (h2.denH r.sub)⟩
@[simp] def xC (d : D) : XE := fun _ => some d
def rL : D -> Option V
 | .non => some .non | .bl b => some (.bl b) | .int i => some (.int i) | .str x => some (.str x) | .ty x => some (.ty x) | _ => none
theorem pQ {d : D} {v : V} (h : rL d = some v) : Den K S d v := by
 cases d <;> simp [rL] at h <;> subst h <;> unfold Den <;> rfl
theorem s_c {v : V} {d : D} (h : rL d = some v) : SE K (tC v) (xC d) := fun ρ σ S H Q e r x k => by
 cases x
 exact k v S H (Ext.refl r.sub) (pQ h)
@[simp] def xFl (e : XE) : XE := fun ρ => (e ρ).bind fun d => if (rL d).isSome then some d else none
theorem Il {d : D} {v w : V} (h : rL d = some w) (k : Den K S d v) : v = w := by
 cases d <;> simp [rL] at h <;> subst h <;> unfold Den at k <;> exact k
theorem SQ.fl {t : TE} {e : XE} (h : SQ K t e) : SE K t (xFl e) := fun ρ σ S H Q d r x k => by
 unfold xFl at x
 cases q : e ρ with
 | none => rw [q] at x; cases x
 | some d' =>
  rw [q] at x
  dsimp only [Option.bind] at x
  split at x
  ·rename_i hf
   cases x
   obtain ⟨w, hw⟩ := Option.isSome_iff_exists.mp hf
   refine h ρ σ S H Q d r q fun v S' H' z dv => k v S' H' z ?_
   rw [Il hw dv]
   exact pQ hw
  ·cases x
@[simp] def xOp (f : D -> D -> Option D) (a b : XE) : XE := fun ρ => (a ρ).bind fun x => (b ρ).bind fun y => f x y
def SR2 (K : W.Frag) (r : R2) (f : D -> D -> Option D) : Prop := ∀ S H x y d e g (Q : VK), Same S H -> DenP K S H d x -> DenP K S H e y -> f d e = some g -> (∀ v S' H', Ext S H S' H' -> Den K S' g v -> Q v H') -> r x y H Q
theorem JK {r : R2} {f : D -> D -> Option D} {ta tb : TE} {a b : XE} (hr : SR2 K r f) (ha : SPk K ta a) (hb : SPk K tb b) : SE K (tOp r ta tb) (xOp f a b) := fun ρ σ S H Q d r x k => by
 unfold xOp at x
 cases qa : a ρ with
 | none => rw [qa] at x; cases x
 | some da =>
  rw [qa] at x
  dsimp only [Option.bind] at x
  cases qb : b ρ with
  | none => rw [qb] at x; cases x
  | some db =>
   rw [qb] at x
   refine ha ρ σ S H _ da r qa fun v S1 H1 z1 d1 => ?_
   have r1 := r.ext z1
   refine hb ρ σ S1 H1 _ db r1 qb fun w S2 H2 z2 d2 => ?_
   exact hr S2 H2 v w da db d Q z2.sub (d1.mono z2 r1.sub) d2 x fun u S3 H3 z3 d3 => k u S3 H3 ((z1.trans z2).trans z3) d3
theorem C1 {S2 H3 S3 : Hp} (s : Same S H) (z : Ext H H S3 H3) : Ext S H S H3 := ⟨Same.refl _, fun b u e => z.sub b u (z.sh b u (s b u e)), fun b o h n => ⟨z.sub b o (z.sh b o h), n⟩⟩
theorem Mo {r : R2} {f : D -> D -> Option D} {ta tb : TE} {a b : XE} (hr : SR2 K r f) (ha : SQ K ta a) (hb : SQ K tb b) : SQ K (tOp r ta tb) (xOp f a b) := fun ρ σ S H Q d r x k => by
 unfold xOp at x
 cases qa : a ρ with
 | none => rw [qa] at x; cases x
 | some da =>
  rw [qa] at x
  dsimp only [Option.bind] at x
  cases qb : b ρ with
  | none => rw [qb] at x; cases x
  | some db =>
   rw [qb] at x
   refine ha ρ σ S H _ da r qa fun v S1 H1 z1 d1 => ?_
   have r1 := r.ext z1
   refine hb ρ σ S1 H1 _ db r1 qb fun w S2 H2 z2 d2 => ?_
   exact hr H2 H2 v w da db d Q (Same.refl _) (.inl (d1.mono (z2.same r1.sub))) (.inl d2) x fun u S3 H3 z3 d3 => k u S2 H3 ((z1.trans z2).trans (C1 (S2 := S2) z2.sub z3)) (d3.mono z3.sub)
@[simp] def xUn (f : D -> Option D) (a : XE) : XE := fun ρ => (a ρ).bind f
def SR1 (K : W.Frag) (r : V -> Hp -> VK -> Prop) (f : D -> Option D) : Prop := ∀ S H x d g (Q : VK), Same S H -> DenP K S H d x -> f d = some g -> (∀ v S' H', Ext S H S' H' -> Den K S' g v -> Q v H') -> r x H Q
theorem KO {r : V -> Hp -> VK -> Prop} {f : D -> Option D} {ta : TE} {a : XE} (hr : SR1 K r f) (ha : SPk K ta a) : SE K (tUn r ta) (xUn f a) := fun ρ σ S H Q d r x k => by
 unfold xUn at x
 cases qa : a ρ with
 | none => rw [qa] at x; cases x
 | some da =>
  rw [qa] at x
  refine ha ρ σ S H _ da r qa fun v S1 H1 z1 d1 => ?_
  exact hr S1 H1 v da d Q z1.sub d1 x fun u S3 H3 z3 d3 => k u S3 H3 (z1.trans z3) d3
@[simp] def aq : XA := fun _ => some []
@[simp] def ad (a : XE) (b : XA) : XA := fun ρ => (a ρ).bind fun x => (b ρ).bind fun y => some (x :: y)
theorem n9 : SA K uX aq := fun ρ σ S H Q ds r x k => by cases x; exact k [] S H (Ext.refl r.sub) .nil
theorem FB : SAP K uX aq := fun ρ σ S H Q ds r x k => by cases x; exact k [] S H (Ext.refl r.sub) .nil
theorem mP {a : XE} {b : XA} {ρ : Env} {ds : List D} (x : ad a b ρ = some ds) : ∃ d r, a ρ = some d /\ b ρ = some r /\ ds = d :: r := by
 unfold ad at x
 cases qa : a ρ with
 | none => rw [qa] at x; cases x
 | some da =>
  rw [qa] at x
  dsimp only [Option.bind] at x
  cases qb : b ρ with
  | none => rw [qb] at x; cases x
  | some db => rw [qb] at x; cases x; exact ⟨_, _, rfl, rfl, rfl⟩
theorem hV {ta : TE} {tr : TA} {a : XE} {b : XA} (ha : SE K ta a) (hb : SA K tr b) : SA K (lH ta tr) (ad a b) := fun ρ σ S H Q ds r x k => by
 obtain ⟨da, db, qa, qb, rfl⟩ := mP x
 refine ha ρ σ S H _ da r qa fun v S1 H1 z1 d1 => hb ρ σ S1 H1 _ db (r.ext z1) qb fun vs S2 H2 z2 d2 => k _ S2 H2 (z1.trans z2) (.cons (d1.mono z2.sh) d2)
theorem pT {ta : TE} {tr : TA} {a : XE} {b : XA} (ha : SPk K ta a) (hb : SAP K tr b) : SAP K (lH ta tr) (ad a b) := fun ρ σ S H Q ds r x k => by
 obtain ⟨da, db, qa, qb, rfl⟩ := mP x
 refine ha ρ σ S H _ da r qa fun v S1 H1 z1 d1 => hb ρ σ S1 H1 _ db (r.ext z1) qb fun vs S2 H2 z2 d2 => k _ S2 H2 (z1.trans z2) (.cons (d1.mono z2 (r.ext z1).sub) d2)
@[irreducible] def LIM : Nat := 1000000
theorem kq : LIM < sizeLine := by rw [Qb]; unfold LIM; decide
@[simp] def bg (a : XA) : XE := fun ρ => (a ρ).bind fun l => if l.length <= LIM then some (.tup l) else none
theorem xw {t : TA} {a : XA} (h : SA K t a) : SE K (Jy t) (bg a) := fun ρ σ S H Q d r x k => by
 unfold bg at x
 cases q : a ρ with
 | none => rw [q] at x; cases x
 | some l =>
  rw [q] at x
  dsimp only [Option.bind] at x
  split at x
  ·rename_i hl
   cases x
   refine h ρ σ S H _ l r q fun vs S1 H1 z1 d1 => ⟨?_, fun p hp => ?_⟩
   ·rw [<- d1.length]; exact Qh (QB hl kq)
   ·have z2 := Ext.new (o := .tup vs) z1.sub hp
    exact k _ _ _ (z1.trans z2) (den_tup.mpr ⟨p, vs, rfl, TpA.of a6, d1.mono z2.sh⟩)
  ·cases x
@[simp] def kF (a : XA) : XA := fun ρ => (a ρ).bind fun l => if l.length <= LIM then some l else none
theorem Mf {t : TA} {a : XA} (h : SA K t a) : SF K (KR t) (kF a) := fun ρ σ S H Q l r x k => by
 unfold kF at x
 cases q : a ρ with
 | none => rw [q] at x; cases x
 | some l =>
  rw [q] at x
  dsimp only [Option.bind] at x
  split at x
  ·rename_i hl
   cases x
   refine h ρ σ S H _ l r q fun vs S1 H1 z1 d1 => ⟨?_, fun p hp => ?_⟩
   ·rw [<- d1.length]; exact Qh (QB hl kq)
   ·have hp0 : H p = none := (z1.same r.sub).free hp
    exact k p vs S1 _ (z1.trans (Ext.own z1.sub hp)) hp0 (z1.sub.free hp) a6 d1
  ·cases x
@[simp] def xCB (f : List D -> Option D) (a : XA) : XE := fun ρ => (a ρ).bind f
def SRB (K : W.Frag) (r : List V -> Hp -> VK -> Prop) (f : List D -> Option D) : Prop := ∀ S H vs ds g (Q : VK), Same S H -> DensP K S H ds vs -> f ds = some g -> (∀ v S' H', Ext S H S' H' -> Den K S' g v -> Q v H') -> r vs H Q
theorem LU {r : List V -> Hp -> VK -> Prop} {f : List D -> Option D} {t : TA} {a : XA} (hr : SRB K r f) (h : SAP K t a) : SE K (tCB r t) (xCB f a) := fun ρ σ S H Q d rl x k => by
 unfold xCB at x
 cases q : a ρ with
 | none => rw [q] at x; cases x
 | some ds =>
  rw [q] at x
  refine h ρ σ S H _ ds rl q fun vs S1 H1 z1 d1 => ?_
  exact hr S1 H1 vs ds d Q z1.sub d1 x fun v S2 H2 z2 d2 => k v S2 H2 (z1.trans z2) d2
@[simp] def BH (f : List D -> Option (List D)) (a : XA) : XA := fun ρ => (a ρ).bind f
def SRF (K : W.Frag) (r : List V -> Hp -> VK -> Prop) (f : List D -> Option (List D)) : Prop := ∀ S H vs ds g (Q : VK), Same S H -> DensP K S H ds vs -> f ds = some g -> (∀ a xs H', Ext S H S H' -> H a = none -> H' a = some (.lst xs) -> Dens K S g xs -> Q (.ref a) H') -> r vs H Q
theorem LC {r : List V -> Hp -> VK -> Prop} {f : List D -> Option (List D)} {t : TA} {a : XA} (hr : SRF K r f) (h : SAP K t a) : SF K (tCB r t) (BH f a) := fun ρ σ S H Q d rl x k => by
 unfold BH at x
 cases q : a ρ with
 | none => rw [q] at x; cases x
 | some ds =>
  rw [q] at x
  refine h ρ σ S H _ ds rl q fun vs S1 H1 z1 d1 => ?_
  exact hr S1 H1 vs ds d Q z1.sub d1 x fun b xs H2 z2 h1 h2 d2 => k b xs S1 H2 (z1.trans z2) ((z1.same rl.sub).free h1) (z1.sub.free h1) h2 d2
def STr (K : W.Frag) (t : TE) (e : Env -> Option O) : Prop := ∀ ρ σ S H (Q : VK) o, Rl K ρ σ S H -> e ρ = some o -> (∀ v fp S' H', Ext S H S' H' -> Own K S' H' o v fp -> fp.Nodup -> (∀ b ∈ fp, H b = none /\ S' b = none) -> Q v H') -> t σ H Q
@[simp] def xLT (e : XA) : Env -> Option O := fun ρ => (e ρ).map fun l => .lst (l.map .sh)
theorem SF.t {t : TE} {e : XA} (h : SF K t e) : STr K t (xLT e) := fun ρ σ S H Q o r x k => by
 unfold xLT at x
 cases q : e ρ with
 | none => rw [q] at x; cases x
 | some l =>
  rw [q] at x
  cases x
  refine h ρ σ S H Q l r q fun a xs S' H' z h1 h2 h3 h4 => ?_
  refine k _ [a] S' H' z (own_lst.mpr ⟨a, xs, [], rfl, rfl, h3, tq h4⟩) (by simp) fun b hb => ?_
  rw [Pg.mp hb]
  exact ⟨h1, h2⟩
@[simp] def xSh (e : XE) : Env -> Option O := fun ρ => (e ρ).map .sh
theorem SE.t {t : TE} {e : XE} (h : SE K t e) : STr K t (xSh e) := fun ρ σ S H Q o r x k => by
 unfold xSh at x
 cases q : e ρ with
 | none => rw [q] at x; cases x
 | some d =>
  rw [q] at x
  cases x
  exact h ρ σ S H Q d r q fun v S' H' z dv => k v [] S' H' z (own_sh.mpr ⟨rfl, dv⟩) .nil fun b hb => by cases hb
def zm (S H : Hp) (fp : List Addr) : Hp := fun b => if b ∈ fp then H b else S b
theorem tD {fp : List Addr} {b : Addr} (h : b ∈ fp) : zm S H fp b = H b := by unfold zm; rw [Pa h]
theorem lM {fp : List Addr} {b : Addr} (h : b ∉ fp) : zm S H fp b = S b := by unfold zm; rw [Pb h]
theorem mW {fp : List Addr} (n : ∀ b ∈ fp, S b = none) : Same S (zm S H fp) := fun b o e => by
 rw [lM fun hb => by rw [n b hb] at e; cases e]
 exact e
theorem zN {fp : List Addr} (s : Same S H) : Same (zm S H fp) H := fun b o e => by
 by_cases hb : b ∈ fp
 ·rw [tD hb] at e; exact e
 ·rw [lM hb] at e; exact s b o e
theorem Aw {fp : List Addr} (z : Ext S H S' H') (n : ∀ b ∈ fp, H b = none /\ S' b = none) : Ext S H (zm S' H' fp) H' :=
 ⟨z.sh.trans (mW fun b hb => (n b hb).2), zN z.sub, fun b o h hn => ⟨(z.al b o h hn).1, by rw [lM fun hb => by rw [(n b hb).1] at h; cases h]; exact (z.al b o h hn).2⟩⟩
@[simp] def xOD (e : Env -> Option O) : XE := fun ρ => (e ρ).map O.d
theorem STr.e {t : TE} {e : Env -> Option O} (h : STr K t e) : SE K t (xOD e) := fun ρ σ S H Q d r x k => by
 unfold xOD at x
 cases q : e ρ with
 | none => rw [q] at x; cases x
 | some o =>
  rw [q] at x
  cases x
  exact h ρ σ S H Q o r q fun v fp S' H' z ow nd n => k v _ H' (Aw z n) (ow.den (mW fun b hb => (n b hb).2) fun b hb => tD hb)
def b9 (K : W.Frag) (n : Nat) (m : List D -> Option O) : Sp := fun vs H Q _ => vs.length = n /\ ∃ S ds o, Same S H /\ Dens K S ds vs /\ m ds = some o /\ ∀ v fp S' H', Ext S H S' H' -> Own K S' H' o v fp -> fp.Nodup -> (∀ b ∈ fp, H b = none /\ S' b = none) -> Q v H'
@[simp] def Bv (m : List D -> Option O) (a : XA) : Env -> Option O := fun ρ => (a ρ).bind m
theorem HN {n : Nat} {m : List D -> Option O} {E : XK} {t : TA} {a : XA} (h : SA K t a) (hn : ∀ ρ ds, a ρ = some ds -> ds.length = n) : STr K (uT (b9 K n m) [] E t) (Bv m a) := fun ρ σ S H Q o rl x k => by
 unfold Bv at x
 cases q : a ρ with
 | none => rw [q] at x; cases x
 | some ds =>
  rw [q] at x
  refine h ρ σ S H _ ds rl q fun vs S1 H1 z1 d1 => ?_
  rw [P5]
  refine ⟨by rw [<- d1.length]; exact hn ρ ds q, S1, ds, o, z1.sub, d1, x, fun v fp S2 H2 z2 ow nd n => k v fp S2 H2 (z1.trans z2) ow nd fun b hb => ⟨(z1.same rl.sub).free (n b hb).1, (n b hb).2⟩⟩
@[simp] def aH (m : List D -> Option D) (a : XA) : XE := fun ρ => (a ρ).bind m
theorem FG {n : Nat} {m : List D -> Option O} {E : XK} {t : TA} {a : XA} (h : SA K t a) (hn : ∀ ρ ds, a ρ = some ds -> ds.length = n) : SE K (uT (b9 K n m) [] E t) (aH (fun ds => (m ds).map O.d) a) := by
 have := (HN (m := m) (E := E) h hn).e
 have e : xOD (Bv m a) = aH (fun ds => (m ds).map O.d) a := by
  funext ρ
  show ((a ρ).bind m).map O.d = (a ρ).bind fun ds => (m ds).map O.d
  cases a ρ <;> rfl
 rw [e] at this
 exact this
def SAQ (K : W.Frag) (t : TA) (e : XA) : Prop := ∀ ρ σ S H (Q : List V -> Hp -> Prop) ds, Rl K ρ σ S H -> e ρ = some ds -> (∀ vs S' H', Ext S H S' H' -> Dens K H' ds vs -> Q vs H') -> t σ H Q
theorem KM : SAQ K uX aq := fun ρ σ S H Q ds r x k => by cases x; exact k [] S H (Ext.refl r.sub) .nil
theorem Iu {ta : TE} {tr : TA} {a : XE} {b : XA} (ha : SQ K ta a) (hb : SAQ K tr b) : SAQ K (lH ta tr) (ad a b) := fun ρ σ S H Q ds r x k => by
 obtain ⟨da, db, qa, qb, rfl⟩ := mP x
 refine ha ρ σ S H _ da r qa fun v S1 H1 z1 d1 => hb ρ σ S1 H1 _ db (r.ext z1) qb fun vs S2 H2 z2 d2 => k _ S2 H2 (z1.trans z2) (.cons (d1.mono (z2.same (r.ext z1).sub)) d2)
@[simp] def NN (m : List D -> Option D) (a : XA) : XE := fun ρ => ((a ρ).bind m).bind fun d => if (rL d).isSome then some d else none
theorem Md {r : List V -> Hp -> VK -> Prop} {f : List D -> Option D} {t : TA} {a : XA} (hr : SRB K r f) (h : SAQ K t a) : SQ K (tCB r t) (xCB f a) := fun ρ σ S H Q d rl x k => by
 unfold xCB at x
 cases q : a ρ with
 | none => rw [q] at x; cases x
 | some ds =>
  rw [q] at x
  refine h ρ σ S H _ ds rl q fun vs S1 H1 z1 d1 => ?_
  have dp : DensP K H1 H1 ds vs := by
   clear q x
   revert d1
   induction ds generalizing vs with
   | nil => intro d1; rw [d1.nil_of]; exact .nil
   | cons d ds ih =>
    intro d1
    obtain ⟨y, ys, rfl, e1, e2⟩ := d1.cons_of
    exact .cons (.inl e1) (ih ys e2)
  exact hr H1 H1 vs ds d Q (Same.refl _) dp x fun v S2 H2 z2 d2 => k v S1 H2 (z1.trans (C1 (S2 := S1) z1.sub z2)) (d2.mono z2.sub)
def SAT (K : W.Frag) (t : TA) (e : Env -> Option (List O)) : Prop := ∀ ρ σ S H (Q : List V -> Hp -> Prop) os, Rl K ρ σ S H -> e ρ = some os -> (∀ vs fp S' H', Ext S H S' H' -> Owns K S' H' os vs fp -> fp.Nodup -> (∀ b ∈ fp, H b = none /\ S' b = none) -> Q vs H') -> t σ H Q
@[simp] def AW : Env -> Option (List O) := fun _ => some []
@[simp] def n4 (a : Env -> Option O) (b : Env -> Option (List O)) : Env -> Option (List O) := fun ρ => (a ρ).bind fun x => (b ρ).bind fun y => some (x :: y)
theorem KT : SAT K uX AW := fun ρ σ S H Q ds r x k => by cases x; exact k [] [] S H (Ext.refl r.sub) .nil .nil fun _ hb => by cases hb
theorem HQ {ta : TE} {tr : TA} {a : Env -> Option O} {b : Env -> Option (List O)} (ha : STr K ta a) (hb : SAT K tr b) : SAT K (lH ta tr) (n4 a b) := fun ρ σ S H Q os r x k => by
 unfold n4 at x
 cases qa : a ρ with
 | none => rw [qa] at x; cases x
 | some oa =>
  rw [qa] at x
  dsimp only [Option.bind] at x
  cases qb : b ρ with
  | none => rw [qb] at x; cases x
  | some ob =>
   rw [qb] at x
   cases x
   refine ha ρ σ S H _ oa r qa fun v fp S1 H1 z1 o1 nd1 n1 => hb ρ σ S1 H1 _ ob (r.ext z1) qb fun vs fq S2 H2 z2 o2 nd2 n2 => ?_
   obtain ⟨k1, k2⟩ := z2.keeps (fun b hb => (n1 b hb).2) o1.there
   refine k _ _ S2 H2 (z1.trans z2) (.cons (o1.mono z2.sh k1) o2) ?_ fun c hc => ?_
   ·refine Q7.mpr ⟨nd1, nd2, fun c hc d hd e => ?_⟩
    subst e
    exact o1.there c hc (n2 c hd).1
   ·rcases Pk.mp hc with hc | hc
    ·exact ⟨(n1 c hc).1, k2 c hc⟩
    ·exact ⟨(z1.same r.sub).free (n2 c hc).1, (n2 c hc).2⟩
@[simp] def C0 (a : Env -> Option (List O)) : Env -> Option O := fun ρ => (a ρ).bind fun l => if l.length <= LIM then some (.tup l) else none
@[simp] def Dh (a : Env -> Option (List O)) : Env -> Option O := fun ρ => (a ρ).bind fun l => if l.length <= LIM then some (.lst l) else none
theorem xf {fp : List Addr} {p : Addr} {o : HO} (h : H p = none) (t : ∀ b ∈ fp, H b ≠ none) : (∀ b ∈ fp, upd H p o b = H b) /\ p ∉ fp := by
 have np : p ∉ fp := fun hp => t p hp h
 exact ⟨fun b hb => a9 fun e => np (e ▸ hb), np⟩
theorem Jn {t : TA} {a : Env -> Option (List O)} (h : SAT K t a) : STr K (Jy t) (C0 a) := fun ρ σ S H Q o r x k => by
 unfold C0 at x
 cases q : a ρ with
 | none => rw [q] at x; cases x
 | some l =>
  rw [q] at x
  dsimp only [Option.bind] at x
  split at x
  ·rename_i hl
   cases x
   refine h ρ σ S H _ l r q fun vs fp S1 H1 z1 o1 nd1 n1 => ⟨?_, fun p hp => ?_⟩
   ·rw [<- o1.length]; exact Qh (QB hl kq)
   ·obtain ⟨k1, k2⟩ := xf (o := .tup vs) hp o1.there
    refine k _ (p :: fp) S1 _ (z1.trans (Ext.own z1.sub hp)) (own_tup.mpr ⟨p, vs, fp, rfl, rfl, a6, o1.mono (Same.refl _) k1⟩) (Qi.mpr ⟨k2, nd1⟩) fun b hb => ?_
    rcases Ps.mp hb with rfl | hb
    ·exact ⟨(z1.same r.sub).free hp, z1.sub.free hp⟩
    ·exact n1 b hb
  ·cases x
theorem Kz {t : TA} {a : Env -> Option (List O)} (h : SAT K t a) : STr K (KR t) (Dh a) := fun ρ σ S H Q o r x k => by
 unfold Dh at x
 cases q : a ρ with
 | none => rw [q] at x; cases x
 | some l =>
  rw [q] at x
  dsimp only [Option.bind] at x
  split at x
  ·rename_i hl
   cases x
   refine h ρ σ S H _ l r q fun vs fp S1 H1 z1 o1 nd1 n1 => ⟨?_, fun p hp => ?_⟩
   ·rw [<- o1.length]; exact Qh (QB hl kq)
   ·obtain ⟨k1, k2⟩ := xf (o := .lst vs) hp o1.there
    refine k _ (p :: fp) S1 _ (z1.trans (Ext.own z1.sub hp)) (own_lst.mpr ⟨p, vs, fp, rfl, rfl, a6, o1.mono (Same.refl _) k1⟩) (Qi.mpr ⟨k2, nd1⟩) fun b hb => ?_
    rcases Ps.mp hb with rfl | hb
    ·exact ⟨(z1.same r.sub).free hp, z1.sub.free hp⟩
    ·exact n1 b hb
  ·cases x
theorem Db {ρ : Env} {ds : List D} (h : aq ρ = some ds) : ds.length = 0 := by cases h; rfl
theorem Bg {a : XE} {b : XA} {n : Nat} (h : ∀ ρ ds, b ρ = some ds -> ds.length = n) (ρ : Env) (ds : List D) (x : ad a b ρ = some ds) : ds.length = n + 1 := by
 obtain ⟨da, db, qa, qb, rfl⟩ := mP x
 rw [Pu, h ρ db qb]
@[simp] def DA (a b : XE) : XE := fun ρ => (a ρ).bind fun x => match x with | .bl true => b ρ | .bl false => some (.bl false) | _ => none
@[simp] def O5 (a b : XE) : XE := fun ρ => (a ρ).bind fun x => match x with | .bl true => some (.bl true) | .bl false => b ρ | _ => none
@[simp] def Oy (a : XE) : XE := fun ρ => (a ρ).bind fun x => match x with | .bl c => some (.bl (!c)) | _ => none
theorem Jt {ta tb : TE} {a b : XE} (ha : SPk K ta a) (hb : SE K tb b) : SE K (IE ta tb) (DA a b) := fun ρ σ S H Q d r x k => by
 unfold DA at x
 cases qa : a ρ with
 | none => rw [qa] at x; cases x
 | some da =>
  rw [qa] at x
  dsimp only [Option.bind] at x
  refine ha ρ σ S H _ da r qa fun v S1 H1 z1 d1 => ?_
  split at x
  ·exact ⟨true, d1.bl, DT (hb ρ σ S1 H1 Q d (r.ext z1) x fun w S2 H2 z2 d2 => k w S2 H2 (z1.trans z2) d2)⟩
  ·cases x
   exact ⟨false, d1.bl, DS (k _ S1 H1 z1 (den_bl.mpr rfl))⟩
  ·cases x
@[simp] def O7 (c : XT) (a b : XE) : XE := fun ρ => (c ρ).bind fun q => if q = true then a ρ else b ρ
@[simp] def xB (a : XE) : XT := fun ρ => (a ρ).bind fun x => match x with | .bl c => some c | _ => none
theorem s_b {ta : TE} {a : XE} (ha : SPk K ta a) : ST K (tB ta) (xB a) := fun ρ σ S H Q b r x k => by
 unfold xB at x
 cases qa : a ρ with
 | none => rw [qa] at x; cases x
 | some da =>
  rw [qa] at x
  dsimp only [Option.bind] at x
  refine ha ρ σ S H _ da r qa fun v S1 H1 z1 d1 => ?_
  split at x
  ·cases x
   exact ⟨_, d1.bl, k S1 H1 z1⟩
  ·cases x
theorem Co {ta : TE} {a : XE} (ha : SPk K ta a) : ST K (FV ta) (xB a) := s_b ha
def zP : D -> Option Bool
 | .non => some false
 | .bl b => some b
 | .int i => some (i != 0)
 | .str y => if y.length <= LIM then some ((y.length : Int) != 0) else none
 | .lst l => some (!l.isEmpty)
 | .tup l => some (!l.isEmpty)
 | .scr l => some (!l.isEmpty)
 | _ => none
theorem o5 {ds : List D} {xs : List V} (h : Dens K S ds xs) : (!ds.isEmpty) = !xs.isEmpty := by
 have := h.length
 cases ds <;> cases xs <;> simp_all
@[simp] def yK (a : XE) : XT := fun ρ => (a ρ).bind zP
theorem JL {d : D} {v : V} {b : Bool} (s : Same S H) (h : DenP K S H d v) (x : zP d = some b) : Hr K v H b := by
 cases d with
 | non => rw [h.non]; cases x; rfl
 | bl c => rw [h.bl]; cases x; rfl
 | int i => rw [h.int]; cases x; rfl
 | str y =>
  rw [h.str]
  have x' : (if y.length <= LIM then some ((y.length : Int) != 0) else none) = some b := x
  split at x'
  ·rename_i hl; cases x'; exact ⟨Qh (QB hl kq), rfl⟩
  ·cases x'
 | lst l =>
  obtain ⟨p, xs, rfl, h1, h2⟩ := h.lst s
  cases x
  exact .inl ⟨xs, .inl h1, o5 h2⟩
 | tup l =>
  obtain ⟨p, xs, rfl, h1, h2⟩ := h.tup s
  cases x
  exact .inr (.inl ⟨xs, h1, o5 h2⟩)
 | scr l =>
  obtain ⟨p, xs, rfl, h1, h2⟩ := h.scr s
  cases x
  exact .inl ⟨xs, h1, o5 h2⟩
 | _ => cases x
end
section
variable {K : W.Frag} {S S' H H' : Hp}
@[simp] def rn (a b : XT) : XT := fun ρ => (a ρ).bind fun x => if x = true then b ρ else some false
@[simp] def xOr (a b : XT) : XT := fun ρ => (a ρ).bind fun x => if x = true then some true else b ρ
@[simp] def Cp (a : XT) : XT := fun ρ => (a ρ).map fun x => !x
theorem Mu {ta tb : TT} {a b : XT} (ha : ST K ta a) (hb : ST K tb b) : ST K (LV ta tb) (rn a b) := fun ρ σ S H Q d r x k => by
 unfold rn at x
 cases qa : a ρ with
 | none => rw [qa] at x; cases x
 | some q =>
  rw [qa] at x
  dsimp only [Option.bind] at x
  refine ha ρ σ S H _ q r qa fun S1 H1 z1 => ?_
  cases q with
  | true => exact DT (hb ρ σ S1 H1 Q d (r.ext z1) (by simpa using x) fun S2 H2 z2 => k S2 H2 (z1.trans z2))
  | false =>
   have : d = false := by simpa using x.symm
   subst this
   exact DS (k S1 H1 z1)
theorem NB {ta tb : TT} {a b : XT} (ha : ST K ta a) (hb : ST K tb b) : ST K (tOr ta tb) (xOr a b) := fun ρ σ S H Q d r x k => by
 unfold xOr at x
 cases qa : a ρ with
 | none => rw [qa] at x; cases x
 | some q =>
  rw [qa] at x
  dsimp only [Option.bind] at x
  refine ha ρ σ S H _ q r qa fun S1 H1 z1 => ?_
  cases q with
  | false => exact DS (hb ρ σ S1 H1 Q d (r.ext z1) (by simpa using x) fun S2 H2 z2 => k S2 H2 (z1.trans z2))
  | true =>
   have : d = true := by simpa using x.symm
   subst this
   exact DT (k S1 H1 z1)
theorem L5 {ta : TT} {a : XT} (ha : ST K ta a) : ST K (Ly ta) (Cp a) := fun ρ σ S H Q d r x k => by
 unfold Cp at x
 cases qa : a ρ with
 | none => rw [qa] at x; cases x
 | some q =>
  rw [qa] at x
  cases x
  exact ha ρ σ S H _ q r qa k
inductive Out where
 | nx (ρ : Env) | rt (d : D) | ro (o : O) | bk (ρ : Env) | ct (ρ : Env)
abbrev XS := Env -> Option Out
def Done (K : W.Frag) (A : Hp) (Λ : Nat -> Option Addr) (S : Hp) (E : Ends) : Out -> Prop
 | .nx ρ => ∀ σ' S' H', RlA K A Λ ρ σ' S' H' -> Same S S' -> E.nx σ' H'
 | .bk ρ => ∀ σ' S' H', RlA K A Λ ρ σ' S' H' -> Same S S' -> E.bk σ' H'
 | .ct ρ => ∀ σ' S' H', RlA K A Λ ρ σ' S' H' -> Same S S' -> E.ct σ' H'
 | .rt d => ∀ v S' H', Same S S' -> Same S' H' -> Same A H' -> (∀ b, S' b = none \/ A b = none) -> Den K S' d v -> E.rt v H'
 | .ro o => ∀ v fp S' H', Same S S' -> Same S' H' -> Same A H' -> (∀ b, S' b = none \/ A b = none) -> Own K S' H' o v fp -> fp.Nodup -> (∀ b ∈ fp, S' b = none /\ A b = none) -> E.rt v H'
theorem Done.mono {A : Hp} {Λ : Nat -> Option Addr} {E : Ends} {o : Out} (s : Same S S') (h : Done K A Λ S E o) : Done K A Λ S' E o := by
 cases o with
 | nx ρ => exact fun σ1 S1 H1 r z => h σ1 S1 H1 r (s.trans z)
 | bk ρ => exact fun σ1 S1 H1 r z => h σ1 S1 H1 r (s.trans z)
 | ct ρ => exact fun σ1 S1 H1 r z => h σ1 S1 H1 r (s.trans z)
 | rt d => exact fun v S1 H1 z => h v S1 H1 (s.trans z)
 | ro d => exact fun v fp S1 H1 z => h v fp S1 H1 (s.trans z)
def SS (K : W.Frag) (t : TS) (m : XS) : Prop := ∀ A Λ ρ σ S H (E : Ends) o, RlA K A Λ ρ σ S H -> m ρ = some o -> Done K A Λ S E o -> t E σ H
@[simp] def g9 : XS := fun ρ => some (.nx ρ)
theorem KQ : SS K Ge g9 := fun A Λ ρ σ S H E o r x k => by cases x; exact k σ S H r (Same.refl _)
@[simp] def Nd : XS := fun ρ => some (.bk ρ)
@[simp] def Od : XS := fun ρ => some (.ct ρ)
@[simp] def Np : XS := fun _ => none
@[simp] def aU (m n : XS) : XS := fun ρ => match m ρ with | some (.nx ρ') => n ρ' | o => o
theorem LL {t u : TS} {m n : XS} (ht : SS K t m) (hu : SS K u n) : SS K (J9 t u) (aU m n) := fun A Λ ρ σ S H E o r x k => by
 unfold aU at x
 cases q : m ρ with
 | none => rw [q] at x; cases x
 | some om =>
  rw [q] at x
  refine ht A Λ ρ σ S H _ om r q ?_
  cases om with
  | nx ρ' => exact fun σ' S' H' r' z => hu A Λ ρ' σ' S' H' E o r' x (k.mono z)
  | rt d => cases x; exact k
  | ro d => cases x; exact k
  | bk d => cases x; exact k
  | ct d => cases x; exact k
@[simp] def bT (e : XE) : XS := fun ρ => (e ρ).map .rt
theorem Mq {te : TE} {e : XE} (h : SE K te e) : SS K (JT te) (bT e) := fun A Λ ρ σ S H E o r x k => by
 unfold bT at x
 cases q : e ρ with
 | none => rw [q] at x; cases x
 | some d =>
  rw [q] at x
  cases x
  refine h ρ σ S H _ d r.toRl q fun v S1 H1 z1 d1 => ?_
  have r1 := r.ext z1
  exact k v S1 H1 z1.sh z1.sub r1.asub r1.adis d1
@[simp] def Oo (e : Env -> Option O) : XS := fun ρ => (e ρ).map .ro
@[simp] def xl (i : Nat) : XS := fun ρ => match ρ[i]? with | some (.sh d) => some (.rt d) | some (.ow o) => some (.ro o) | _ => none
theorem JP (i : Nat) : SS K (JT (uw i)) (xl i) := fun A Λ ρ σ S H E o r x k => by
 unfold xl at x
 cases q : ρ[i]? with
 | none => rw [q] at x; cases x
 | some s =>
  rw [q] at x
  obtain ⟨Φ, f⟩ := r
  cases s with
  | un => cases x
  | lo => cases x
  | sh d =>
   cases x
   obtain ⟨v, h1, h2⟩ := f.sh i d q
   exact ⟨v, h1, k v S H (Same.refl _) f.sub f.asub f.adis h2⟩
  | ow ot =>
   cases x
   obtain ⟨v, h1, h2, h3, h4⟩ := f.ow i ot q
   exact ⟨v, h1, k v _ S H (Same.refl _) f.sub f.asub f.adis h2 h3 h4⟩
@[simp] def Oa : XS := fun _ => some (.rt .non)
@[simp] def xIf (c : XT) (m n : XS) : XS := fun ρ => (c ρ).bind fun b => if b = true then m ρ else n ρ
theorem MY {tc : TT} {t u : TS} {c : XT} {m n : XS} (hc : ST K tc c) (ht : SS K t m) (hu : SS K u n) : SS K (Jk tc t u) (xIf c m n) := fun A Λ ρ σ S H E o r x k => by
 unfold xIf at x
 cases qc : c ρ with
 | none => rw [qc] at x; cases x
 | some q =>
  rw [qc] at x
  dsimp only [Option.bind] at x
  refine hc ρ σ S H _ q r.toRl qc fun S1 H1 z1 => ?_
  cases q with
  | true => exact DT (ht A Λ ρ σ S1 H1 E o (r.ext z1) (by simpa using x) (k.mono z1.sh))
  | false => exact DS (hu A Λ ρ σ S1 H1 E o (r.ext z1) (by simpa using x) (k.mono z1.sh))
theorem c8 {α : Type} {l : List α} {i j : Nat} {x y : α} (h : (l.set i x)[j]? = some y) : (i = j /\ y = x /\ i < l.length) \/ (i ≠ j /\ l[j]? = some y) := by
 by_cases hij : i = j
 ·subst hij
  have hl := (Pw.mp h).1
  rw [QF] at hl
  rw [QZ hl] at h
  exact .inl ⟨rfl, (PX h).symm, hl⟩
 ·rw [Qn hij] at h
  exact .inr ⟨hij, h⟩
theorem RlF.set {A : Hp} {Λ : Nat -> Option Addr} {Φ : Nat -> List Addr} {ρ : Env} {σ : St} {d : D} {v : V} (r : RlF K A Λ Φ ρ σ S H) (i : Nat) (h : Den K S d v) : RlF K A Λ Φ (ρ.set i (.sh d)) (σ.set i (some v)) S H where
 len := by rw [QF, QF]; exact r.len
 sub := r.sub
 sh := fun j e hj => by
  rcases c8 hj with ⟨rfl, e, hl⟩ | ⟨hij, hj⟩
  ·cases e
   exact ⟨v, QZ (by rw [r.len]; exact hl), h⟩
  ·rw [Qn hij]
   exact r.sh j e hj
 ow := fun j o hj => by
  rcases c8 hj with ⟨rfl, e, hl⟩ | ⟨hij, hj⟩
  ·cases e
  ·rw [Qn hij]
   exact r.ow j o hj
 dj := fun j k o o' hjk h1 h2 => by
  rcases c8 h1 with ⟨rfl, e, hl⟩ | ⟨hij, h1⟩
  ·cases e
  ·rcases c8 h2 with ⟨rfl, e, hl⟩ | ⟨hik, h2⟩
   ·cases e
   ·exact r.dj j k o o' hjk h1 h2
 lo := fun j hj => by
  rcases c8 hj with ⟨rfl, e, hl⟩ | ⟨hij, hj⟩
  ·cases e
  ·rw [Qn hij]
   exact r.lo j hj
 asub := r.asub
 adis := r.adis
theorem RlA.set {A : Hp} {Λ : Nat -> Option Addr} {ρ : Env} {σ : St} {d : D} {v : V} (r : RlA K A Λ ρ σ S H) (i : Nat) (h : Den K S d v) : RlA K A Λ (ρ.set i (.sh d)) (σ.set i (some v)) S H := let ⟨Φ, f⟩ := r; ⟨Φ, f.set i h⟩
theorem RlF.put {A : Hp} {Λ : Nat -> Option Addr} {Φ : Nat -> List Addr} {ρ : Env} {σ : St} {o : O} {v : V} {fp : List Addr} (r : RlF K A Λ Φ ρ σ S H) (i : Nat) (sub : Same S H') (asub : Same A H') (ow : Own K S H' o v fp) (nd : fp.Nodup) (n : ∀ b ∈ fp, S b = none /\ A b = none)
  (keep : ∀ (j : Nat) o', j ≠ i -> ρ[j]? = some (.ow o') -> ∀ b ∈ Φ j, H' b = H b /\ b ∉ fp) : RlF K A Λ (fun j => if j = i then fp else Φ j) (ρ.set i (.ow o)) (σ.set i (some v)) S H' where
 len := by rw [QF, QF]; exact r.len
 sub := sub
 sh := fun j e hj => by
  rcases c8 hj with ⟨rfl, e, hl⟩ | ⟨hij, hj⟩
  ·cases e
  ·rw [Qn hij]
   exact r.sh j e hj
 ow := fun j o' hj => by
  rcases c8 hj with ⟨rfl, e, hl⟩ | ⟨hij, hj⟩
  ·cases e
   rw [Pa rfl]
   exact ⟨v, QZ (by rw [r.len]; exact hl), ow, nd, n⟩
  ·rw [Qn hij, Pb (P0 hij)]
   obtain ⟨w, h1, h2, h3, h4⟩ := r.ow j o' hj
   exact ⟨w, h1, h2.mono (Same.refl _) fun b hb => (keep j o' (P0 hij) hj b hb).1, h3, h4⟩
 dj := fun j k o1 o2 hjk h1 h2 b hb hb2 => by
  rcases c8 h1 with ⟨rfl, e, hl⟩ | ⟨hij, h1⟩
  ·rcases c8 h2 with ⟨rfl, e, hl⟩ | ⟨hik, h2⟩
   ·exact hjk rfl
   ·rw [Pa rfl] at hb
    rw [Pb (P0 hik)] at hb2
    exact (keep k o2 (P0 hik) h2 b hb2).2 hb
  ·rcases c8 h2 with ⟨rfl, e, hl⟩ | ⟨hik, h2⟩
   ·rw [Pa rfl] at hb2
    rw [Pb (P0 hij)] at hb
    exact (keep j o1 (P0 hij) h1 b hb).2 hb2
   ·rw [Pb (P0 hij)] at hb
    rw [Pb (P0 hik)] at hb2
    exact r.dj j k o1 o2 hjk h1 h2 b hb hb2
 lo := fun j hj => by
  rcases c8 hj with ⟨rfl, e, hl⟩ | ⟨hij, hj⟩
  ·cases e
  ·rw [Qn hij]
   exact r.lo j hj
 asub := asub
 adis := r.adis
theorem Fm {α : Type} {l : List α} {i : Nat} {x : α} (h : l[i]? = some x) : l.set i x = l := by
 apply Rm
 intro j
 by_cases e : i = j
 ·subst e
  rw [QZ (Pw.mp h).1, h]
 ·rw [Qn e]
def frz (i : Nat) (ρ : Env) : Env := match ρ[i]? with | some (.ow o) => ρ.set i (.sh o.d) | _ => ρ
theorem RlA.frz {A : Hp} {Λ : Nat -> Option Addr} {ρ : Env} {σ : St} (r : RlA K A Λ ρ σ S H) (i : Nat) : ∃ S', Same S S' /\ RlA K A Λ (frz i ρ) σ S' H := by
 unfold M.frz
 cases q : ρ[i]? with
 | none => exact ⟨S, Same.refl _, r⟩
 | some s =>
  cases s with
  | un => exact ⟨S, Same.refl _, r⟩
  | lo => exact ⟨S, Same.refl _, r⟩
  | sh d => exact ⟨S, Same.refl _, r⟩
  | ow o =>
   dsimp only
   obtain ⟨Φ, f⟩ := r
   obtain ⟨v, h1, h2, h3, h4⟩ := f.ow i o q
   have s2 : Same S (zm S H (Φ i)) := mW fun b hb => (h4 b hb).1
   have hd : Den K (zm S H (Φ i)) o.d v := h2.den s2 fun b hb => tD hb
   refine ⟨_, s2, Φ, ?_⟩
   exact {
    len := by rw [QF]; exact f.len
    sub := zN f.sub
    sh := fun j d hj => by
     rcases c8 hj with ⟨rfl, e, hl⟩ | ⟨hij, hj⟩
     ·cases e
      exact ⟨v, h1, hd⟩
     ·obtain ⟨w, k1, k2⟩ := f.sh j d hj
      exact ⟨w, k1, k2.mono s2⟩
    ow := fun j o' hj => by
     rcases c8 hj with ⟨rfl, e, hl⟩ | ⟨hij, hj⟩
     ·cases e
     ·obtain ⟨w, k1, k2, k3, k4⟩ := f.ow j o' hj
      exact ⟨w, k1, k2.mono s2 fun _ _ => rfl, k3, fun b hb => ⟨by rw [lM fun hi => f.dj i j o o' hij q hj b hi hb]; exact (k4 b hb).1, (k4 b hb).2⟩⟩
    dj := fun j k o1 o2 hjk g1 g2 => by
     rcases c8 g1 with ⟨rfl, e, hl⟩ | ⟨hij, g1⟩
     ·cases e
     ·rcases c8 g2 with ⟨rfl, e, hl⟩ | ⟨hik, g2⟩
      ·cases e
      ·exact f.dj j k o1 o2 hjk g1 g2
    lo := fun j hj => by
     rcases c8 hj with ⟨rfl, e, hl⟩ | ⟨hij, hj⟩
     ·cases e
     ·exact f.lo j hj
    asub := f.asub
    adis := fun b => by
     by_cases hb : b ∈ Φ i
     ·exact .inr (h4 b hb).2
     ·rw [lM hb]; exact f.adis b }
@[simp] def Ho (i : Nat) (m : XS) : XS := fun ρ => m (frz i ρ)
theorem L9 {t : TS} {m : XS} (i : Nat) (h : SS K t m) : SS K t (Ho i m) := fun A Λ ρ σ S H E o r x k => by
 obtain ⟨S', s, r'⟩ := r.frz i
 exact h A Λ _ σ S' H E o r' x (k.mono s)
abbrev XG := D -> Env -> Option Env
abbrev XGs := List D -> Env -> Option Env
def SG (K : W.Frag) (g : TG) (x : XG) : Prop := ∀ A Λ ρ σ S H v d (Q : St -> Hp -> Prop) ρ', RlA K A Λ ρ σ S H -> Den K S d v -> x d ρ = some ρ' -> (∀ σ', RlA K A Λ ρ' σ' S H -> Q σ' H) -> g v σ H Q
def SGs (K : W.Frag) (g : TGs) (x : XGs) : Prop := ∀ A Λ ρ σ S H vs ds (Q : St -> Hp -> Prop) ρ', RlA K A Λ ρ σ S H -> Dens K S ds vs -> x ds ρ = some ρ' -> (∀ σ', RlA K A Λ ρ' σ' S H -> Q σ' H) -> g vs σ H Q
@[simp] def ag (i : Nat) : XG := fun d ρ => some (ρ.set i (.sh d))
def aL : XGs := fun ds ρ => match ds with | [] => some ρ | _ => none
def aj (x : XG) (y : XGs) : XGs := fun ds ρ => match ds with | d :: r => (x d ρ).bind (y r) | [] => none
def aM (y : XGs) : XG := fun d ρ => match d with | .tup l => y l ρ | _ => none
theorem Jm (i : Nat) : SG K (jm i) (ag i) := fun A Λ ρ σ S H v d Q ρ' r dv x k => by cases x; exact k _ (r.set i dv)
theorem Mt : SGs K J6 aL := fun A Λ ρ σ S H vs ds Q ρ' r dv x k => by
 cases ds with
 | nil => cases x; exact ⟨dv.nil_of, k σ r⟩
 | cons _ _ => cases x
theorem KU {g : TG} {gs : TGs} {x : XG} {y : XGs} (h : SG K g x) (hs : SGs K gs y) : SGs K (Hh g gs) (aj x y) := fun A Λ ρ σ S H vs ds Q ρ' r dv e k => by
 cases ds with
 | nil => cases e
 | cons d ds =>
  obtain ⟨v, vs, rfl, h1, h2⟩ := dv.cons_of
  have e' : (x d ρ).bind (y ds) = some ρ' := e
  cases q : x d ρ with
  | none => rw [q] at e'; cases e'
  | some ρ1 =>
   rw [q] at e'
   exact ⟨v, vs, rfl, h A Λ ρ σ S H v d _ ρ1 r h1 q fun σ1 r1 => hs A Λ ρ1 σ1 S H vs ds Q ρ' r1 h2 e' k⟩
def CZ (y : XGs) (n : Nat) : Prop := ∀ ds ρ ρ', y ds ρ = some ρ' -> ds.length = n
theorem KD : CZ aL 0 := fun ds ρ ρ' e => by cases ds with | nil => rfl | cons _ _ => cases e
theorem HD {x : XG} {y : XGs} {n : Nat} (h : CZ y n) : CZ (aj x y) (n + 1) := fun ds ρ ρ' e => by
 cases ds with
 | nil => cases e
 | cons d ds =>
  have e' : (x d ρ).bind (y ds) = some ρ' := e
  cases q : x d ρ with
  | none => rw [q] at e'; cases e'
  | some ρ1 => rw [q] at e'; rw [Pu, h ds ρ1 ρ' e']
theorem Lb {gs : TGs} {y : XGs} {n : Nat} (hs : SGs K gs y) (hl : CZ y n) : SG K (Kl K n gs) (aM y) := fun A Λ ρ σ S H v d Q ρ' r dv e k => by
 cases d with
 | tup l =>
  obtain ⟨p, xs, rfl, h1, h2⟩ := iY dv
  exact ⟨p, xs, rfl, cv r.sub h1, by rw [<- h2.length]; exact hl l ρ ρ' e, hs A Λ ρ σ S H xs l Q ρ' r h2 e k⟩
 | _ => cases e
@[simp] def bQ (e : XE) (g : XG) : XS := fun ρ => (e ρ).bind fun d => (g d ρ).map .nx
theorem Mw {te : TE} {g : TG} {e : XE} {x : XG} (h : SE K te e) (hg : SG K g x) : SS K (zn te g) (bQ e x) := fun A Λ ρ σ S H E o r y k => by
 unfold bQ at y
 cases q : e ρ with
 | none => rw [q] at y; cases y
 | some d =>
  rw [q] at y
  dsimp only [Option.bind] at y
  cases q2 : x d ρ with
  | none => rw [q2] at y; cases y
  | some ρ' =>
   rw [q2] at y
   cases y
   exact h ρ σ S H _ d r.toRl q fun v S1 H1 z1 d1 => hg A Λ ρ σ S1 H1 v d _ ρ' (r.ext z1) d1 q2 fun σ' r' => k σ' S1 H1 r' z1.sh
@[simp] def Gx (e : Env -> Option O) (i : Nat) : XS := fun ρ => (e ρ).map fun o => .nx (ρ.set i (.ow o))
theorem Kb {te : TE} {e : Env -> Option O} {i : Nat} (h : STr K te e) : SS K (zn te (jm i)) (Gx e i) := fun A Λ ρ σ S H E o r y k => by
 unfold Gx at y
 cases q : e ρ with
 | none => rw [q] at y; cases y
 | some ot =>
  rw [q] at y
  cases y
  obtain ⟨Φ, f⟩ := r
  refine h ρ σ S H _ ot ⟨A, Λ, Φ, f⟩ q fun v fp S1 H1 z1 o1 nd n => ?_
  have r1 := f.ext z1
  refine k _ S1 H1 ⟨_, r1.put (H' := H1) i r1.sub r1.asub o1 nd (fun b hb => ⟨(n b hb).2, f.asub.free (n b hb).1⟩) fun j o' hj e1 b hb => ⟨rfl, fun hf => ?_⟩⟩ z1.sh
  obtain ⟨w, _, k2, _, _⟩ := f.ow j o' e1
  exact k2.there b hb (n b hf).1
@[simp] def mK (e : XA) (i : Nat) : XS := Gx (xLT e) i
theorem Ke {te : TE} {e : XA} {i : Nat} (h : SF K te e) : SS K (zn te (jm i)) (mK e i) := Kb h.t
def eV : O -> List Int -> Option O
 | o, [] => some o
 | .lst l, k :: r => (atI l k).bind fun o => eV o r
 | .tup l, k :: r => (atI l k).bind fun o => eV o r
 | .sh _, _ :: _ => none
 | .dic _, _ :: _ => none
def vQ (l : List O) (k : Int) (f : O -> O) : List O := match ixN l.length k with
 | some j => (match l[j]? with | some o => l.set j (f o) | none => l)
 | none => l
def k6 : O -> List Int -> O -> O
 | _, [], q => q
 | .lst l, k :: r, q => .lst (vQ l k fun o => k6 o r q)
 | .tup l, k :: r, q => .tup (vQ l k fun o => k6 o r q)
 | .sh d, _ :: _, _ => .sh d
 | .dic d, _ :: _, _ => .dic d
def WalkV (H : Hp) : V -> List Int -> V -> Prop
 | v, [], w => v = w
 | v, k :: r, w => ∃ a xs u, v = .ref a /\ (H a = some (.lst xs) \/ H a = some (.tup xs)) /\ atI xs k = some u /\ WalkV H u r w
theorem WalkV.mono (s : Same H H') : ∀ {p : List Int} {v w : V}, WalkV H v p w -> WalkV H' v p w
 | [], _, _, h => h
 | _ :: _, _, _, ⟨a, xs, u, e, h, k, m⟩ => ⟨a, xs, u, e, h.elim (fun z => .inl (s _ _ z)) (fun z => .inr (s _ _ z)), k, m.mono s⟩
theorem WalkV.uniq : ∀ {p : List Int} {v w w' : V}, WalkV H v p w -> WalkV H v p w' -> w = w'
 | [], _, _, _, h, k => h.symm.trans k
 | _ :: _, _, _, _, hpt0, hpt1 => by
  obtain ⟨a, xs, u, e, h, k, m⟩ := hpt0
  obtain ⟨a', xs', u', e', h', k', m'⟩ := hpt1
  rw [e] at e'
  cases e'
  have : xs = xs' := by
   rcases h with h | h <;> rcases h' with h' | h' <;> rw [h] at h' <;> cases h' <;> rfl
  subst this
  rw [k] at k'
  cases k'
  exact m.uniq m'
theorem WalkV.snoc : ∀ {p : List Int} {v w u : V} {k : Int} {a : Addr} {xs : List V}, WalkV H v p w -> w = .ref a -> (H a = some (.lst xs) \/ H a = some (.tup xs)) -> atI xs k = some u -> WalkV H v (p ++ [k]) u
 | [], _, _, u, k, a, xs, h, e, h1, h2 => ⟨a, xs, u, h.trans e, h1, h2, rfl⟩
 | _ :: _, _, _, _, _, _, _, ⟨b, ys, u', e, h, k, m⟩, e', h1, h2 => ⟨b, ys, u', e, h, k, m.snoc e' h1 h2⟩
theorem rJ : ∀ {p : List Int} {o q : O} {k : Int}, eV o (p ++ [k]) = some q -> ∃ q0, eV o p = some q0 /\ eV q0 [k] = some q
 | [], o, q, k, h => ⟨o, by unfold eV; rfl, h⟩
 | j :: p, o, q, k, h => by
  cases o with
  | sh d => cases h
  | dic _ => cases h
  | lst l =>
   have h' : (atI l j).bind (fun o => eV o (p ++ [k])) = some q := h
   cases e : atI l j with
   | none => rw [e] at h'; cases h'
   | some o1 =>
    rw [e] at h'
    obtain ⟨q0, a, b⟩ := rJ (p := p) h'
    exact ⟨q0, by show (atI l j).bind (fun o => eV o p) = some q0; rw [e]; exact a, b⟩
  | tup l =>
   have h' : (atI l j).bind (fun o => eV o (p ++ [k])) = some q := h
   cases e : atI l j with
   | none => rw [e] at h'; cases h'
   | some o1 =>
    rw [e] at h'
    obtain ⟨q0, a, b⟩ := rJ (p := p) h'
    exact ⟨q0, by show (atI l j).bind (fun o => eV o p) = some q0; rw [e]; exact a, b⟩
theorem Owns.split : ∀ {l : List O} {xs : List V} {f : List Addr} {j : Nat} {o : O}, Owns K S H l xs f -> l[j]? = some o -> ∃ x f1 f2 f3, xs[j]? = some x /\ f = f1 ++ (f2 ++ f3) /\ Own K S H o x f2 /\
  ∀ H' o' f2', Own K S H' o' x f2' -> (∀ b ∈ f1, H' b = H b) -> (∀ b ∈ f3, H' b = H b) -> Owns K S H' (l.set j o') xs (f1 ++ (f2' ++ f3))
 | [], _, _, _, _, _, e => by simp at e
 | o0 :: l, _, _, 0, o, h, e => by
  obtain ⟨y, ys, f, g, rfl, rfl, a, b⟩ := h.cons_of
  simp at e; subst e
  exact ⟨y, [], f, g, rfl, rfl, a, fun H' o' f2' h1 _ h3 => Owns.cons (f := f2') h1 (b.mono (Same.refl _) h3)⟩
 | o0 :: l, _, _, j + 1, o, h, e => by
  obtain ⟨y, ys, f, g, rfl, rfl, a, b⟩ := h.cons_of
  obtain ⟨x, f1, f2, f3, e1, rfl, h1, h2⟩ := b.split (j := j) (by simpa using e)
  refine ⟨x, f ++ f1, f2, f3, by simpa using e1, by rw [PQ], h1, fun H' o' f2' k1 k2 k3 => ?_⟩
  rw [PQ]
  exact .cons (a.mono (Same.refl _) fun b hb => k2 b (Po _ hb)) (h2 H' o' f2' k1 (fun b hb => k2 b (Pr _ hb)) k3)
theorem Ce {α : Type} {l : List α} {k : Int} {x : α} (h : atI l k = some x) : ∃ j, ixN l.length k = some j /\ l[j]? = some x := by
 unfold atI at h
 cases q : ixN l.length k with
 | none => rw [q] at h; cases h
 | some j => rw [q] at h; exact ⟨j, rfl, h⟩
theorem Hi : ∀ {p : List Int} {o q : O} {v : V} {fp : List Addr}, Own K S H o v fp -> fp.Nodup -> eV o p = some q -> ∃ w fq, Own K S H q w fq /\ WalkV H v p w /\ (∀ b ∈ fq, b ∈ fp) /\ fq.Nodup /\
  ∀ H' q' fq', Own K S H' q' w fq' -> fq'.Nodup -> (∀ b ∈ fp, b ∉ fq -> H' b = H b) -> (∀ b ∈ fq', b ∈ fp -> b ∈ fq) -> ∃ fp', Own K S H' (k6 o p q') v fp' /\ fp'.Nodup /\ ∀ b ∈ fp', b ∈ fp \/ b ∈ fq'
 | [], o, q, v, fp, h, nd, e => by
  have e' : some o = some q := by unfold eV at e; exact e
  cases e'
  exact ⟨v, fp, h, rfl, fun b hb => hb, nd, fun H' q' fq' h1 n1 _ _ => ⟨fq', by unfold k6; exact h1, n1, fun b hb => .inr hb⟩⟩
 | k :: r, o, q, v, fp, h, nd, e => by
  have body : ∀ (l : List O) (a : Addr) (xs : List V) (f : List Addr), v = .ref a -> fp = a :: f -> (H a = some (.lst xs) \/ H a = some (.tup xs)) -> Owns K S H l xs f -> ((atI l k).bind fun o => eV o r) = some q ->
    ∃ w fq, Own K S H q w fq /\ WalkV H v (k :: r) w /\ (∀ b ∈ fq, b ∈ fp) /\ fq.Nodup /\ ∀ H' q' fq', Own K S H' q' w fq' -> fq'.Nodup -> (∀ b ∈ fp, b ∉ fq -> H' b = H b) -> (∀ b ∈ fq', b ∈ fp -> b ∈ fq) ->
     ∃ f', Owns K S H' (vQ l k fun o => k6 o r q') xs f' /\ H' a = H a /\ (a :: f').Nodup /\ ∀ b ∈ a :: f', b ∈ fp \/ b ∈ fq' := by
   rintro l a xs f rfl rfl ha hl hs
   obtain ⟨na, nf⟩ := Qi.mp nd
   cases qa : atI l k with
   | none => rw [qa] at hs; cases hs
   | some o1 =>
    rw [qa] at hs
    obtain ⟨j, ej, el⟩ := Ce qa
    obtain ⟨x, f1, f2, f3, ex, rfl, h1, h2⟩ := hl.split el
    obtain ⟨n1, n23, d1⟩ := Q7.mp nf
    obtain ⟨n2, n3, d2⟩ := Q7.mp n23
    obtain ⟨w, fq, k1, k2, k3, k4, k5⟩ := Hi (p := r) h1 n2 hs
    have ax : atI xs k = some x := by unfold atI; rw [<- hl.length, ej]; exact ex
    refine ⟨w, fq, k1, ⟨a, xs, x, rfl, ha, ax, k2⟩, fun b hb => Pn _ (Pr _ (Po _ (k3 b hb))), k4, fun H' q' fq' g1 g2 g3 g4 => ?_⟩
    have in2 : ∀ b ∈ fq, b ∈ f2 := k3
    have a1 : ∀ b ∈ f1, b ∉ fq := fun b hb hq => d1 b hb b (Po _ (in2 b hq)) rfl
    have a3 : ∀ b ∈ f3, b ∉ fq := fun b hb hq => d2 b (in2 b hq) b hb rfl
    have aa : a ∉ fq := fun hq => na (Pr _ (Po _ (in2 a hq)))
    obtain ⟨f2', m1, m2, m3⟩ := k5 H' q' fq' g1 g2 (fun b hb hn => g3 b (Pn _ (Pr _ (Po _ hb))) hn) fun b hb hp => g4 b hb (Pn _ (Pr _ (Po _ hp)))
    have out : ∀ b ∈ f2', b ∉ f1 /\ b ∉ f3 /\ b ≠ a := fun b hb => by
     rcases m3 b hb with hb | hb
     ·exact ⟨fun z => d1 b z b (Po _ hb) rfl, fun z => d2 b hb b z rfl, fun z => na (z ▸ Pr _ (Po _ hb))⟩
     ·refine ⟨fun z => a1 b z (g4 b hb (Pn _ (Po _ z))), fun z => a3 b z (g4 b hb (Pn _ (Pr _ (Pr _ z)))), fun z => ?_⟩
      subst z
      exact aa (g4 b hb Pl)
    refine ⟨f1 ++ (f2' ++ f3), ?_, g3 a Pl aa, ?_, fun b hb => ?_⟩
    ·unfold vQ
     rw [ej]
     dsimp only
     rw [el]
     exact h2 H' _ f2' m1 (fun b hb => g3 b (Pn _ (Po _ hb)) (a1 b hb)) fun b hb => g3 b (Pn _ (Pr _ (Pr _ hb))) (a3 b hb)
    ·refine Qi.mpr ⟨fun z => ?_, Q7.mpr ⟨n1, Q7.mpr ⟨m2, n3, fun b hb c hc e => (out b hb).2.1 (e ▸ hc)⟩, fun b hb c hc e => ?_⟩⟩
     ·rcases Pk.mp z with z | z
      ·exact na (Po _ z)
      ·rcases Pk.mp z with z | z
       ·exact (out a z).2.2 rfl
       ·exact na (Pr _ (Pr _ z))
     ·subst e
      rcases Pk.mp hc with hc | hc
      ·exact (out b hc).1 hb
      ·exact d1 b hb b (Pr _ hc) rfl
    ·rcases Ps.mp hb with rfl | hb
     ·exact .inl Pl
     ·rcases Pk.mp hb with hb | hb
      ·exact .inl (Pn _ (Po _ hb))
      ·rcases Pk.mp hb with hb | hb
       ·exact (m3 b hb).imp (fun z => Pn _ (Pr _ (Po _ z))) id
       ·exact .inl (Pn _ (Pr _ (Pr _ hb)))
  cases o with
  | sh d => cases e
  | dic _ => cases e
  | lst l =>
   obtain ⟨a, xs, f, e1, e2, h1, h2⟩ := own_lst.mp h
   obtain ⟨w, fq, k1, k2, k3, k4, k5⟩ := body l a xs f e1 e2 (.inl h1) h2 e
   refine ⟨w, fq, k1, k2, k3, k4, fun H' q' fq' g1 g2 g3 g4 => ?_⟩
   obtain ⟨f', m1, m2, m3, m4⟩ := k5 H' q' fq' g1 g2 g3 g4
   exact ⟨a :: f', by unfold k6; exact own_lst.mpr ⟨a, xs, f', e1, rfl, by rw [m2]; exact h1, m1⟩, m3, m4⟩
  | tup l =>
   obtain ⟨a, xs, f, e1, e2, h1, h2⟩ := own_tup.mp h
   obtain ⟨w, fq, k1, k2, k3, k4, k5⟩ := body l a xs f e1 e2 (.inr h1) h2 e
   refine ⟨w, fq, k1, k2, k3, k4, fun H' q' fq' g1 g2 g3 g4 => ?_⟩
   obtain ⟨f', m1, m2, m3, m4⟩ := k5 H' q' fq' g1 g2 g3 g4
   exact ⟨a :: f', by unfold k6; exact own_tup.mpr ⟨a, xs, f', e1, rfl, by rw [m2]; exact h1, m1⟩, m3, m4⟩
abbrev XP := Env -> Option (List Int)
def Cq (K : W.Frag) (to : TE) (i : Nat) (p : XP) : Prop := ∀ ρ σ S H (Q : VK) is o q, Rl K ρ σ S H -> ρ[i]? = some (.ow o) -> p ρ = some is -> eV o is = some q -> (∀ v w S' H', σ[i]? = some (some v) -> Ext S H S' H' -> WalkV H' v is w -> Q w H') -> to σ H Q
@[simp] def xPv : XP := fun _ => some []
theorem LM (i : Nat) : Cq K (uw i) i xPv := fun ρ σ S H Q is o q r h1 h2 h3 k => by
 cases h2
 obtain ⟨v, fp, e, _⟩ := r.ow i o h1
 exact ⟨v, e, k v v S H e (Ext.refl r.sub) rfl⟩
@[simp] def xPi (p : XP) (ix : XE) : XP := fun ρ => (p ρ).bind fun is => (ix ρ).bind fun d => match d with | .int k => some (is ++ [k]) | _ => none
theorem MS {to ti : TE} {i : Nat} {p : XP} {ix : XE} (hp : Cq K to i p) (hi : SPk K ti ix) : Cq K (tOp (rIx K) to ti) i (xPi p ix) := fun ρ σ S H Q is o q r h1 h2 h3 k => by
 unfold xPi at h2
 cases e1 : p ρ with
 | none => rw [e1] at h2; cases h2
 | some js =>
  rw [e1] at h2
  dsimp only [Option.bind] at h2
  cases e2 : ix ρ with
  | none => rw [e2] at h2; cases h2
  | some d =>
   rw [e2] at h2
   cases d with
   | int kk =>
    cases h2
    obtain ⟨q0, s1, s2⟩ := rJ h3
    refine hp ρ σ S H _ js o q0 r h1 e1 s1 fun v w S1 H1 ev z1 wk => ?_
    have r1 := r.ext z1
    refine hi ρ σ S1 H1 _ _ r1 e2 fun u S2 H2 z2 d2 => ?_
    have r2 := r1.ext z2
    obtain ⟨v', fp, ev', ow, nd, _⟩ := r2.ow i o h1
    rw [ev] at ev'
    cases ev'
    obtain ⟨w', fq, k1, k2, _⟩ := Hi ow nd s1
    have ew := k2.uniq (wk.mono (z2.same r1.sub))
    subst ew
    rw [d2.int]
    cases q0 with
    | sh _ => cases s2
    | dic _ => cases s2
    | lst l =>
     have s2' : (atI l kk).bind (fun o => eV o []) = some q := s2
     cases e3 : atI l kk with
     | none => rw [e3] at s2'; cases s2'
     | some o1 =>
      obtain ⟨a, xs, f, rfl, rfl, hx, hl⟩ := own_lst.mp k1
      obtain ⟨j, ej, el⟩ := Ce e3
      obtain ⟨x, _, _, _, ex, _⟩ := hl.split el
      have ax : atI xs kk = some x := by unfold atI; rw [<- hl.length, ej]; exact ex
      exact .inl ⟨a, xs, kk, x, rfl, rfl, SqL.of hx, ax, k v x S2 H2 ev (z1.trans z2) (k2.snoc rfl (.inl hx) ax)⟩
    | tup l =>
     have s2' : (atI l kk).bind (fun o => eV o []) = some q := s2
     cases e3 : atI l kk with
     | none => rw [e3] at s2'; cases s2'
     | some o1 =>
      obtain ⟨a, xs, f, rfl, rfl, hx, hl⟩ := own_tup.mp k1
      obtain ⟨j, ej, el⟩ := Ce e3
      obtain ⟨x, _, _, _, ex, _⟩ := hl.split el
      have ax : atI xs kk = some x := by unfold atI; rw [<- hl.length, ej]; exact ex
      exact .inr (.inl ⟨a, xs, kk, x, rfl, rfl, SqT.of hx, ax, k v x S2 H2 ev (z1.trans z2) (k2.snoc rfl (.inr hx) ax)⟩)
   | _ => cases h2
theorem RlF.at {A : Hp} {Λ : Nat -> Option Addr} {Φ : Nat -> List Addr} {ρ : Env} {σ : St} {i : Nat} {o : O} {is : List Int} {l : List O} {v w : V} (f : RlF K A Λ Φ ρ σ S H) (h1 : ρ[i]? = some (.ow o)) (h2 : eV o is = some (.lst l)) (ev : σ[i]? = some (some v)) (wk : WalkV H v is w) :
  ∃ a xs f0, w = .ref a /\ H a = some (.lst xs) /\ Owns K S H l xs f0 /\ (a :: f0).Nodup /\ (∀ b ∈ a :: f0, b ∈ Φ i) /\ ∀ l' xs' f', (∀ H', (∀ b, b ≠ a -> H' b = H b) -> Owns K S H' l' xs' f') -> (a :: f').Nodup -> (∀ b ∈ f', b ∈ f0 \/ ((∀ (j : Nat) o', ρ[j]? = some (.ow o') -> b ∉ Φ j) /\ S b = none /\ A b = none)) ->
   RlA K A Λ (ρ.set i (.ow (k6 o is (.lst l')))) σ S (upd H a (.lst xs')) := by
 obtain ⟨v', e', ow, nd, n⟩ := f.ow i o h1
 rw [ev] at e'
 cases e'
 obtain ⟨w', fq, k1, k2, k3, k4, k5⟩ := Hi ow nd h2
 have ew := k2.uniq wk
 subst ew
 obtain ⟨a, xs, g, rfl, rfl, hx, hl⟩ := own_lst.mp k1
 have ain := k3 a Pl
 refine ⟨a, xs, g, rfl, hx, hl, k4, k3, fun l' xs' f' g1 g2 g3 => ?_⟩
 have ne : ∀ b, b ≠ a -> upd H a (.lst xs') b = H b := fun b hb => a9 hb
 obtain ⟨fp', m1, m2, m3⟩ := k5 (upd H a (.lst xs')) (.lst l') (a :: f') (own_lst.mpr ⟨a, xs', f', rfl, rfl, a6, g1 _ ne⟩) g2 (fun b hb hn => ne b fun z => hn (z ▸ Pl)) fun b hb hp => by
  rcases Ps.mp hb with rfl | hb
  ·exact Pl
  ·rcases g3 b hb with z | ⟨z, _⟩
   ·exact Pn _ z
   ·exact absurd hp (z i o h1)
 have sub' : Same S (upd H a (.lst xs')) := fun b u e => by rw [ne b fun z => by subst z; rw [(n b ain).1] at e; cases e]; exact f.sub b u e
 have asub' : Same A (upd H a (.lst xs')) := fun b u e => by rw [ne b fun z => by subst z; rw [(n b ain).2] at e; cases e]; exact f.asub b u e
 have fin := f.put (H' := upd H a (.lst xs')) i sub' asub' m1 m2 (fun b hb => by
  rcases m3 b hb with z | z
  ·exact n b z
  ·rcases Ps.mp z with rfl | z
   ·exact n b ain
   ·rcases g3 b z with z | ⟨_, z⟩
    ·exact n b (k3 b (Pn _ z))
    ·exact z) fun j o' hj e1 b hb => by
   have nb : b ∉ Φ i := fun z => f.dj j i o' o hj e1 h1 b hb z
   refine ⟨ne b fun z => nb (z ▸ ain), fun z => ?_⟩
   rcases m3 b z with z | z
   ·exact nb z
   ·rcases Ps.mp z with rfl | z
    ·exact nb ain
    ·rcases g3 b z with z | ⟨z, _⟩
     ·exact nb (k3 b (Pn _ z))
     ·exact z j o' e1 hb
 rw [Fm ev] at fin
 exact ⟨_, fin⟩
theorem RlF.fresh {A : Hp} {Λ : Nat -> Option Addr} {Φ : Nat -> List Addr} {ρ : Env} {σ : St} {b : Addr} (f : RlF K A Λ Φ ρ σ S H) (h : H b = none) : (∀ (j : Nat) o', ρ[j]? = some (.ow o') -> b ∉ Φ j) /\ S b = none /\ A b = none :=
 ⟨fun j o' e hb => by obtain ⟨_, _, ow, _⟩ := f.ow j o' e; exact ow.there b hb h, f.sub.free h, f.asub.free h⟩
@[simp] def jV (i : Nat) (p : XP) (e : Env -> Option O) : XS := fun ρ => match ρ[i]? with
 | some (.ow o) => (p ρ).bind fun is => (e ρ).bind fun x => match eV o is with
  | some (.lst l) => if l.length < LIM then some (.nx (ρ.set i (.ow (k6 o is (.lst (l ++ [x])))))) else none
  | _ => none
 | _ => none
theorem KN {to te : TE} {i : Nat} {p : XP} {e : Env -> Option O} (hp : Cq K to i p) (h : STr K te e) : SS K (zz (tBM K "list" rAppend to (lH te uX))) (jV i p e) := fun A Λ ρ σ S H E out r y k => by
 unfold jV at y
 cases q0 : ρ[i]? with
 | none => rw [q0] at y; cases y
 | some s =>
  rw [q0] at y
  cases s with
  | un => cases y
  | lo => cases y
  | sh d => cases y
  | ow o =>
   dsimp only at y
   cases q1 : p ρ with
   | none => rw [q1] at y; cases y
   | some is =>
    rw [q1] at y
    dsimp only [Option.bind] at y
    cases q2 : e ρ with
    | none => rw [q2] at y; cases y
    | some x =>
     rw [q2] at y
     dsimp only at y
     cases q3 : eV o is with
     | none => rw [q3] at y; cases y
     | some qo =>
      rw [q3] at y
      cases qo with
      | sh _ => cases y
      | dic _ => cases y
      | tup _ => cases y
      | lst l =>
       dsimp only at y
       split at y
       ·rename_i hl
        cases y
        obtain ⟨Φ, f⟩ := r
        refine hp ρ σ S H _ is o _ ⟨A, Λ, Φ, f⟩ q0 q1 q3 fun v w S1 H1 ev z1 wk => ?_
        have f1 := f.ext z1
        obtain ⟨a, xs, g0, rfl, hx, hw, nd0, in0, _⟩ := f1.at q0 q3 ev wk
        refine ⟨.inl ⟨rfl, xs, SqL.of hx⟩, h ρ σ S1 H1 _ x ⟨A, Λ, Φ, f1⟩ q2 fun u fu S2 H2 z2 ou nd n => ?_⟩
        have f2 := f1.ext z2
        obtain ⟨a', xs', g1, e1, hx', hw', nd1, in1, up⟩ := f2.at q0 q3 ev (wk.mono (z2.same f1.sub))
        cases e1
        have fr : ∀ b ∈ fu, (∀ (j : Nat) o', ρ[j]? = some (.ow o') -> b ∉ Φ j) /\ S2 b = none /\ A b = none := fun b hb => ⟨(f1.fresh (n b hb).1).1, (n b hb).2, (f1.fresh (n b hb).1).2.2⟩
        have fa : ∀ b ∈ fu, b ∉ a :: g1 := fun b hb z => (fr b hb).1 i o q0 (in1 b z)
        obtain ⟨na, ng⟩ := Qi.mp nd1
        refine ⟨a, xs', u, rfl, rfl, hx', ?_, ?_⟩
        ·rw [<- hw'.length]; exact Nat.lt_trans hl kq
        ·refine k σ S2 _ (up (l ++ [x]) (xs' ++ [u]) (g1 ++ fu) (fun H' ne => ?_) ?_ fun b hb => ?_) (z1.sh.trans z2.sh)
         ·have := (hw'.mono (H' := H') (Same.refl _) fun b hb => ne b fun z => na (z ▸ hb)).append (.cons (ou.mono (H' := H') (Same.refl _) fun b hb => ne b fun z => fa b hb (z ▸ Pl)) .nil)
          rw [P5] at this
          exact this
         ·refine Qi.mpr ⟨fun z => ?_, Q7.mpr ⟨ng, nd, fun b hb c hc e => fa c hc (e ▸ Pn _ hb)⟩⟩
          rcases Pk.mp z with z | z
          ·exact na z
          ·exact fa a z Pl
         ·rcases Pk.mp hb with hb | hb
          ·exact .inl hb
          ·exact .inr (fr b hb)
       ·cases y
@[simp] def F9 (i : Nat) (p : XP) (j : Nat) : XS := fun ρ => match ρ[i]? with
 | some (.ow o) => (p ρ).bind fun is => match eV o is with
  | some (.lst l) => (match l.getLast? with
   | some (.sh d) => some (.nx ((ρ.set i (.ow (k6 o is (.lst l.dropLast)))).set j (.sh d)))
   | _ => none)
  | _ => none
 | _ => none
theorem Owns.last : ∀ {l : List O} {xs : List V} {f : List Addr} {d : D}, Owns K S H l xs f -> l.getLast? = some (.sh d) -> ∃ y, xs[xs.length - 1]? = some y /\ Den K S d y /\ Owns K S H l.dropLast xs.dropLast f
 | [], _, _, _, _, e => by simp at e
 | [o], _, _, d, h, e => by
  obtain ⟨y, ys, f, g, rfl, rfl, a, b⟩ := h.cons_of
  obtain ⟨rfl, rfl⟩ := b.nil_of
  simp at e; subst e
  obtain ⟨e1, e2⟩ := own_sh.mp a
  subst e1
  exact ⟨y, rfl, e2, .nil⟩
 | o :: o2 :: l, _, _, d, h, e => by
  obtain ⟨y, ys, f, g, rfl, rfl, a, b⟩ := h.cons_of
  obtain ⟨z, h1, h2, h3⟩ := b.last (by simpa using e)
  have hl := b.length
  obtain ⟨y2, ys2, rfl⟩ : ∃ y2 ys2, ys = y2 :: ys2 := by cases ys with | nil => simp at hl | cons y2 ys2 => exact ⟨_, _, rfl⟩
  refine ⟨z, ?_, h2, ?_⟩
  ·simpa using h1
  ·rw [List.dropLast_cons_cons, List.dropLast_cons_cons]; exact .cons a h3
theorem Km {to : TE} {i j : Nat} {p : XP} (hp : Cq K to i p) : SS K (zn (LK K "list" rPop to) (jm j)) (F9 i p j) := fun A Λ ρ σ S H E out r y k => by
 unfold F9 at y
 cases q0 : ρ[i]? with
 | none => rw [q0] at y; cases y
 | some s =>
  rw [q0] at y
  cases s with
  | un => cases y
  | lo => cases y
  | sh d => cases y
  | ow o =>
   dsimp only at y
   cases q1 : p ρ with
   | none => rw [q1] at y; cases y
   | some is =>
    rw [q1] at y
    dsimp only [Option.bind] at y
    cases q3 : eV o is with
    | none => rw [q3] at y; cases y
    | some qo =>
     rw [q3] at y
     cases qo with
     | sh _ => cases y
     | dic _ => cases y
     | tup _ => cases y
     | lst l =>
      dsimp only at y
      cases q4 : l.getLast? with
      | none => rw [q4] at y; cases y
      | some ol =>
       rw [q4] at y
       cases ol with
       | lst _ => cases y
       | dic _ => cases y
       | tup _ => cases y
       | sh d =>
        cases y
        obtain ⟨Φ, f⟩ := r
        refine hp ρ σ S H _ is o _ ⟨A, Λ, Φ, f⟩ q0 q1 q3 fun v w S1 H1 ev z1 wk => ?_
        have f1 := f.ext z1
        obtain ⟨a, xs, g0, rfl, hx, hw, nd0, in0, up⟩ := f1.at q0 q3 ev wk
        obtain ⟨na, ng⟩ := Qi.mp nd0
        obtain ⟨u, h1, h2, h3⟩ := hw.last q4
        refine ⟨.inl ⟨rfl, xs, SqL.of hx⟩, a, xs, u, rfl, rfl, hx, h1, ?_⟩
        exact k _ S1 _ ((up l.dropLast xs.dropLast g0 (fun H' ne => h3.mono (H' := H') (Same.refl _) fun b hb => ne b fun z => na (z ▸ hb)) nd0 fun b hb => .inl hb).set j h2) z1.sh
@[simp] def N7 (i : Nat) (p : XP) : XS := fun ρ => match ρ[i]? with
 | some (.ow o) => (p ρ).bind fun is => match eV o is with
  | some (.lst l) => (match shs l with | some ds => some (.nx (ρ.set i (.ow (k6 o is (.lst (ds.reverse.map .sh)))))) | none => none)
  | _ => none
 | _ => none
def rExtM : V -> List V -> Hp -> VK -> Prop := fun x vs H Q => ∃ l b xs zs, x = .ref l /\ vs = [.ref b] /\ H l = some (.lst xs) /\ Rd H b (.lst zs) /\ xs.length + zs.length <= sizeLine /\ Q .non (upd H l (.lst (xs ++ zs)))
@[simp] def Dk (i : Nat) (p : XP) (e : XE) : XS := fun ρ => match ρ[i]? with
 | some (.ow o) => (p ρ).bind fun is => (e ρ).bind fun d => match eV o is, d with
  | some (.lst l), .lst ds => if l.length + ds.length <= LIM then some (.nx (ρ.set i (.ow (k6 o is (.lst (l ++ ds.map .sh)))))) else none
  | _, _ => none
 | _ => none
theorem JQ {to te : TE} {i : Nat} {p : XP} {e : XE} (hp : Cq K to i p) (h : SE K te e) : SS K (zz (tBM K "list" rExtM to (lH te uX))) (Dk i p e) := fun A Λ ρ σ S H E out r y k => by
 unfold Dk at y
 cases q0 : ρ[i]? with
 | none => rw [q0] at y; cases y
 | some s =>
  rw [q0] at y
  cases s with
  | un => cases y
  | lo => cases y
  | sh d => cases y
  | ow o =>
   dsimp only at y
   cases q1 : p ρ with
   | none => rw [q1] at y; cases y
   | some is =>
    rw [q1] at y
    dsimp only [Option.bind] at y
    cases q2 : e ρ with
    | none => rw [q2] at y; cases y
    | some dd =>
     rw [q2] at y
     dsimp only at y
     cases q3 : eV o is with
     | none => rw [q3] at y; cases y
     | some qo =>
      rw [q3] at y
      cases qo with
      | sh _ => cases y
      | dic _ => cases y
      | tup _ => cases y
      | lst l =>
       cases dd with
       | lst ds =>
        dsimp only at y
        split at y
        ·rename_i hl
         cases y
         obtain ⟨Φ, f⟩ := r
         refine hp ρ σ S H _ is o _ ⟨A, Λ, Φ, f⟩ q0 q1 q3 fun v w S1 H1 ev z1 wk => ?_
         have f1 := f.ext z1
         obtain ⟨a, xs, g0, rfl, hx, hw, nd0, in0, _⟩ := f1.at q0 q3 ev wk
         refine ⟨.inl ⟨rfl, xs, SqL.of hx⟩, h ρ σ S1 H1 _ _ ⟨A, Λ, Φ, f1⟩ q2 fun u S2 H2 z2 d2 => ?_⟩
         have f2 := f1.ext z2
         obtain ⟨a', xs', g1, e1, hx', hw', nd1, in1, up⟩ := f2.at q0 q3 ev (wk.mono (z2.same f1.sub))
         cases e1
         obtain ⟨b, zs, rfl, hb, dz⟩ := den_lst.mp d2
         obtain ⟨na, ng⟩ := Qi.mp nd1
         refine ⟨a, b, xs', zs, rfl, rfl, hx', dZ z2.sub hb, ?_, ?_⟩
         ·rw [<- hw'.length, <- dz.length]; exact Qh (QB hl kq)
         ·refine k σ S2 _ (up (l ++ ds.map .sh) (xs' ++ zs) g1 (fun H' ne => ?_) nd1 fun b hb => .inl hb) (z1.sh.trans z2.sh)
          have := (hw'.mono (H' := H') (Same.refl _) fun b hb => ne b fun z => na (z ▸ hb)).append (tq (H := H') dz)
          rw [P5] at this
          exact this
        ·cases y
       | _ => cases y
@[simp] def Df (i : Nat) (p : XP) (ix e : XE) : XS := fun ρ => (e ρ).bind fun d => match ρ[i]? with
 | some (.ow o) => (p ρ).bind fun is => (ix ρ).bind fun k => match eV o is, k with
  | some (.lst l), .int k => (match shs l with | some ds => (ixN ds.length k).map fun j => .nx (ρ.set i (.ow (k6 o is (.lst ((ds.set j d).map .sh))))) | none => none)
  | _, _ => none
 | _ => none
theorem Kv {to te ti : TE} {i : Nat} {p : XP} {e ix : XE} (h : SE K te e) (hp : Cq K to i p) (hi : SPk K ti ix) : SS K (zn te (L0 to ti Jh)) (Df i p ix e) := fun A Λ ρ σ S H E out r y k => by
 unfold Df at y
 cases q : e ρ with
 | none => rw [q] at y; cases y
 | some d =>
  rw [q] at y
  dsimp only [Option.bind] at y
  cases q0 : ρ[i]? with
  | none => rw [q0] at y; cases y
  | some s =>
   rw [q0] at y
   cases s with
   | un => cases y
   | lo => cases y
   | sh d => cases y
   | ow o =>
    dsimp only at y
    cases q1 : p ρ with
    | none => rw [q1] at y; cases y
    | some is =>
     rw [q1] at y
     dsimp only at y
     cases q2 : ix ρ with
     | none => rw [q2] at y; cases y
     | some dk =>
      rw [q2] at y
      dsimp only at y
      cases q3 : eV o is with
      | none => rw [q3] at y; cases y
      | some qo =>
       rw [q3] at y
       cases qo with
       | sh _ => cases y
       | dic _ => cases y
       | tup _ => cases y
       | lst l =>
        cases dk with
        | int kk =>
         dsimp only at y
         cases q4 : shs l with
         | none => rw [q4] at y; cases y
         | some ds =>
          rw [q4] at y
          dsimp only at y
          cases q5 : ixN ds.length kk with
          | none => rw [q5] at y; cases y
          | some j =>
           rw [q5] at y
           cases y
           have ed := Cr q4
           subst ed
           obtain ⟨Φ, f⟩ := r
           refine h ρ σ S H _ d ⟨A, Λ, Φ, f⟩ q fun u S0 H0 z0 d0 => ?_
           have f0 := f.ext z0
           refine hp ρ σ S0 H0 _ is o _ ⟨A, Λ, Φ, f0⟩ q0 q1 q3 fun v w S1 H1 ev z1 wk => ?_
           have f1 := f0.ext z1
           refine hi ρ σ S1 H1 _ _ ⟨A, Λ, Φ, f1⟩ q2 fun w2 S2 H2 z2 d2 => ?_
           have f2 := f1.ext z2
           obtain ⟨a', xs', g1, rfl, hx', hw', nd1, in1, up⟩ := f2.at q0 q3 ev (wk.mono (z2.same f1.sub))
           obtain ⟨hd, rfl⟩ := nY hw'
           refine ⟨a', xs', kk, j, rfl, d2.int, hx', by rw [<- hd.length]; exact q5, ?_⟩
           exact k σ S2 _ (up ((ds.set j d).map .sh) (xs'.set j u) [] (fun H' ne => tq (hd.set j ((d0.mono z1.sh).mono z2.sh))) nd1 fun b hb => by cases hb) ((z0.sh.trans z1.sh).trans z2.sh)
        | _ => cases y
@[simp] def D1 (i : Nat) (e : XE) (f : D -> D -> Option D) : XS := fun ρ => match ρ[i]? with
 | some (.sh x) => (e ρ).bind fun y => (f x y).map fun z => .nx (ρ.set i (.sh z))
 | _ => none
theorem Lr {te : TE} {e : XE} {i : Nat} {ti : TIp} {f : D -> D -> Option D} (h : SPk K te e) (hr : SR2 K ti f) : SS K (LJ i te ti) (D1 i e f) := fun A Λ ρ σ S H E o r y k => by
 unfold D1 at y
 cases q0 : ρ[i]? with
 | none => rw [q0] at y; cases y
 | some s =>
  rw [q0] at y
  cases s with
  | un => cases y
  | lo => cases y
  | ow d => cases y
  | sh x =>
   dsimp only at y
   cases q : e ρ with
   | none => rw [q] at y; cases y
   | some d =>
    rw [q] at y
    dsimp only [Option.bind] at y
    cases q2 : f x d with
    | none => rw [q2] at y; cases y
    | some g =>
     rw [q2] at y
     cases y
     obtain ⟨v, h1, h2⟩ := r.sh i x q0
     refine ⟨v, h1, h ρ σ S H _ d r.toRl q fun w S1 H1 z1 d1 => ?_⟩
     exact hr S1 H1 v w x d g _ z1.sub (.inl (h2.mono z1.sh)) d1 q2 fun u S2 H2 z2 d2 => k _ S2 H2 ((r.ext (z1.trans z2)).set i d2) (z1.sh.trans z2.sh)
@[simp] def N0 (e : XE) : XS := fun ρ => (e ρ).map fun _ => .nx ρ
end
section
variable {K : W.Frag} {S S' H H' : Hp}
def Walks (K : W.Frag) (J : It) (S : Hp) (l : List D) : Prop := ∀ S' H', Same S S' -> Same S' H' ->
 (∀ i d, l[i]? = some d -> J.go i H' /\ ∀ x H'', J.yld i H' x H'' -> H'' = H' /\ Den K S' d x) /\ J.stop l.length H'
def SI (K : W.Frag) (wi : TI) (e : XA) : Prop := ∀ ρ σ S H (R : It -> Hp -> Prop) l, Rl K ρ σ S H -> e ρ = some l -> (∀ J S' H', Ext S H S' H' -> Walks K J S' l -> R J H') -> wi σ H R
def lI : D -> Option (List D)
 | .lst l => some l | .tup l => some l | .scr l => some l | _ => none
def JF (K : W.Frag) (J : It) (S H : Hp) (l : List D) : Prop := ∀ S' H', Ext S H S' H' ->
 (∀ i d, l[i]? = some d -> J.go i H' /\ ∀ x H'', J.yld i H' x H'' -> H'' = H' /\ Den K S' d x) /\ J.stop l.length H'
def SIP (K : W.Frag) (wi : TI) (e : XA) : Prop := ∀ ρ σ S H (R : It -> Hp -> Prop) l, Rl K ρ σ S H -> e ρ = some l -> (∀ J S' H', Ext S H S' H' -> JF K J S' H' l -> R J H') -> wi σ H R
theorem SI.p {wi : TI} {e : XA} (h : SI K wi e) : SIP K wi e := fun ρ σ S H R l r x k => h ρ σ S H R l r x fun J S' H' z w => k J S' H' z fun S2 H2 z2 => w S2 H2 z2.sh z2.sub
@[simp] def xIt (e : XE) : XA := fun ρ => (e ρ).bind lI
theorem Mj {tl : TE} {e : XE} (h : SE K tl e) : SI K (Kj K tl) (xIt e) := fun ρ σ S H R l r x k => by
 unfold xIt at x
 cases q : e ρ with
 | none => rw [q] at x; cases x
 | some d =>
  rw [q] at x
  dsimp only [Option.bind] at x
  refine h ρ σ S H _ d r q fun v S1 H1 z1 d1 => ?_
  cases d with
  | lst l' =>
   cases x
   obtain ⟨p, xs, rfl, h1, h2⟩ := den_lst.mp d1
   refine ⟨p, rfl, .inl ⟨⟨xs, .inl (dZ z1.sub h1)⟩, k _ S1 H1 z1 fun S' H' s1 s2 => ⟨fun i d hd => ?_, xs, .inl (dZ (s1.trans s2) h1), Qy h2.length.symm⟩⟩⟩
   obtain ⟨y, e1, e2⟩ := h2.get hd
   refine ⟨⟨xs, y, .inl (dZ (s1.trans s2) h1), e1⟩, fun x H'' hy => ⟨hy.1, ?_⟩⟩
   have := hy.2 xs (.inl (dZ (s1.trans s2) h1))
   rw [e1] at this
   cases this
   exact e2.mono s1
  | tup l' =>
   cases x
   obtain ⟨p, xs, rfl, h1, h2⟩ := iY d1
   refine ⟨p, rfl, .inr ⟨⟨xs, cv z1.sub h1⟩, k _ S1 H1 z1 fun S' H' s1 s2 => ⟨fun i d hd => ?_, xs, cv (s1.trans s2) h1, Qy h2.length.symm⟩⟩⟩
   obtain ⟨y, e1, e2⟩ := h2.get hd
   refine ⟨⟨xs, y, cv (s1.trans s2) h1, e1⟩, fun x H'' hy => ⟨hy.1, ?_⟩⟩
   have := hy.2 xs (cv (s1.trans s2) h1)
   rw [e1] at this
   cases this
   exact e2.mono s1
  | scr l' =>
   cases x
   obtain ⟨p, xs, rfl, h1, h2⟩ := den_scr.mp d1
   refine ⟨p, rfl, .inl ⟨⟨xs, e9 z1.sub h1⟩, k _ S1 H1 z1 fun S' H' s1 s2 => ⟨fun i d hd => ?_, xs, e9 (s1.trans s2) h1, Qy h2.length.symm⟩⟩⟩
   obtain ⟨y, e1, e2⟩ := h2.get hd
   refine ⟨⟨xs, y, e9 (s1.trans s2) h1, e1⟩, fun x H'' hy => ⟨hy.1, ?_⟩⟩
   have := hy.2 xs (e9 (s1.trans s2) h1)
   rw [e1] at this
   cases this
   exact e2.mono s1
  | _ => cases x
def ifC {α : Type} (p : Prop) (a b : α) : α := @ite α p (Classical.propDecidable p) a b
theorem bP {α : Type} {p : Prop} {a b : α} (h : p) : ifC p a b = a := by unfold ifC; exact Pa h
theorem iQ {α : Type} {p : Prop} {a x : α} (h : ifC p (some a) none = some x) : p /\ a = x := by
 unfold ifC at h
 by_cases c : p
 ·rw [Pa c] at h; exact ⟨c, PX h⟩
 ·rw [Pb c] at h; cases h
theorem Ju {tl : TE} {e : XE} (h : SPk K tl e) : SIP K (Kj K tl) (xIt e) := fun ρ σ S H R l r x k => by
 unfold xIt at x
 cases q : e ρ with
 | none => rw [q] at x; cases x
 | some d =>
  rw [q] at x
  dsimp only [Option.bind] at x
  refine h ρ σ S H _ d r q fun v S1 H1 z1 d1 => ?_
  rcases d1 with d1 | ⟨l', p, xs, rfl, rfl, hx, dx⟩
  ·cases d with
   | lst l' =>
    cases x
    obtain ⟨p, xs, rfl, h1, h2⟩ := den_lst.mp d1
    refine ⟨p, rfl, .inl ⟨⟨xs, .inl (dZ z1.sub h1)⟩, k _ S1 H1 z1 fun S' H' z2 => ⟨fun i d hd => ?_, xs, .inl (dZ (z2.sh.trans z2.sub) h1), Qy h2.length.symm⟩⟩⟩
    obtain ⟨y, e1, e2⟩ := h2.get hd
    refine ⟨⟨xs, y, .inl (dZ (z2.sh.trans z2.sub) h1), e1⟩, fun x H'' hy => ⟨hy.1, ?_⟩⟩
    have := hy.2 xs (.inl (dZ (z2.sh.trans z2.sub) h1))
    rw [e1] at this
    cases this
    exact e2.mono z2.sh
   | tup l' =>
    cases x
    obtain ⟨p, xs, rfl, h1, h2⟩ := iY d1
    refine ⟨p, rfl, .inr ⟨⟨xs, cv z1.sub h1⟩, k _ S1 H1 z1 fun S' H' z2 => ⟨fun i d hd => ?_, xs, cv (z2.sh.trans z2.sub) h1, Qy h2.length.symm⟩⟩⟩
    obtain ⟨y, e1, e2⟩ := h2.get hd
    refine ⟨⟨xs, y, cv (z2.sh.trans z2.sub) h1, e1⟩, fun x H'' hy => ⟨hy.1, ?_⟩⟩
    have := hy.2 xs (cv (z2.sh.trans z2.sub) h1)
    rw [e1] at this
    cases this
    exact e2.mono z2.sh
   | scr l' =>
    cases x
    obtain ⟨p, xs, rfl, h1, h2⟩ := den_scr.mp d1
    refine ⟨p, rfl, .inl ⟨⟨xs, e9 z1.sub h1⟩, k _ S1 H1 z1 fun S' H' z2 => ⟨fun i d hd => ?_, xs, e9 (z2.sh.trans z2.sub) h1, Qy h2.length.symm⟩⟩⟩
    obtain ⟨y, e1, e2⟩ := h2.get hd
    refine ⟨⟨xs, y, e9 (z2.sh.trans z2.sub) h1, e1⟩, fun x H'' hy => ⟨hy.1, ?_⟩⟩
    have := hy.2 xs (e9 (z2.sh.trans z2.sub) h1)
    rw [e1] at this
    cases this
    exact e2.mono z2.sh
   | _ => cases x
  ·cases x
   refine ⟨p, rfl, .inl ⟨⟨xs, SqL.of hx⟩, k _ S1 H1 z1 fun S' H' z2 => ?_⟩⟩
   have hx2 : H' p = some (.lst xs) := z2.same z1.sub _ _ hx
   refine ⟨fun i d hd => ?_, xs, SqL.of hx2, Qy dx.length.symm⟩
   obtain ⟨y, e1, e2⟩ := dx.get hd
   refine ⟨⟨xs, y, SqL.of hx2, e1⟩, fun x H'' hy => ⟨hy.1, ?_⟩⟩
   have := hy.2 xs (SqL.of hx2)
   rw [e1] at this
   cases this
   exact e2.mono z2.sh
def jj (lo : Int) : Nat -> List D
 | 0 => []
 | n + 1 => .int lo :: jj (lo + 1) n
theorem rB : ∀ (n : Nat) (lo : Int) (i : Nat) (d : D), (jj lo n)[i]? = some d -> i < n /\ d = .int (lo + i)
 | 0, _, _, _, h => by simp [jj] at h
 | n + 1, lo, 0, d, h => by simp [jj] at h; exact ⟨Nat.succ_pos _, by rw [<- h]; simp⟩
 | n + 1, lo, i + 1, d, h => by
  obtain ⟨h1, h2⟩ := rB n (lo + 1) i d (by simpa [jj] using h)
  exact ⟨Nat.succ_lt_succ h1, by rw [h2]; congr 1; lia⟩
theorem rk : ∀ (n : Nat) (lo : Int), (jj lo n).length = n
 | 0, _ => rfl
 | n + 1, lo => by rw [jj, Pu, rk n]
theorem E7 (lo : Int) (n : Nat) : Walks K (Itr lo n) S (jj lo n) := fun S' H' _ _ => ⟨fun i d h => by
 obtain ⟨h1, rfl⟩ := rB n lo i d h
 exact ⟨h1, fun x H'' y => ⟨y.1, den_int.mpr y.2⟩⟩, by rw [rk]; exact Pi _⟩
def La : List D -> Option (List D)
 | [.int j] => ifC (j < 1000000 /\ -1000000 < j) (some (jj 0 j.toNat)) none
 | [.int i, .int j] => ifC (j < 4000000000000000000 /\ -4000000000000000000 < i /\ i < 4000000000000000000 /\ -4000000000000000000 < j) (some (jj i (j - i).toNat)) none
 | _ => none
@[simp] def Jw (a : XA) : XA := fun ρ => (a ρ).bind La
theorem JG {ta : TE} {a : XE} (h : SPk K ta a) : SI K (Ja (lH ta uX)) (Jw (ad a aq)) := fun ρ σ S H R l r x k => by
 unfold Jw at x
 cases q : ad a aq ρ with
 | none => rw [q] at x; cases x
 | some ds =>
  rw [q] at x
  obtain ⟨d, e, qa, qb, rfl⟩ := mP q
  cases qb
  cases d with
  | int j =>
   have x' : ifC (j < 1000000 /\ -1000000 < j) (some (jj 0 j.toNat)) none = some l := x
   obtain ⟨hj, rfl⟩ := iQ x'
   refine h ρ σ S H _ _ r qa fun v S1 H1 z1 d1 => ?_
   refine ⟨j, by rw [d1.int], ?_, ?_, k _ S1 H1 z1 (E7 0 _)⟩
   ·have : (2 : Int) ^ 62 = 4611686018427387904 := by decide
    lia
   ·have : (2 : Int) ^ 62 = 4611686018427387904 := by decide
    lia
  | _ => cases x
def fQ : Nat -> Nat -> List D
 | _, 0 => []
 | k, n + 1 => .int (2 * k) :: fQ (k + 1) n
theorem vm : ∀ (n k i : Nat) (d : D), (fQ k n)[i]? = some d -> i < n /\ d = .int (2 * ((k + i : Nat) : Int))
 | 0, _, _, _, h => by simp [fQ] at h
 | n + 1, k, 0, d, h => by simp [fQ] at h; exact ⟨Nat.succ_pos _, by rw [<- h]; simp⟩
 | n + 1, k, i + 1, d, h => by
  obtain ⟨h1, h2⟩ := vm n (k + 1) i d (by simpa [fQ] using h)
  exact ⟨Nat.succ_lt_succ h1, by rw [h2]; congr 1; lia⟩
theorem oh : ∀ (n k : Nat), (fQ k n).length = n
 | 0, _ => rfl
 | n + 1, k => by rw [fQ, Pu, oh n]
def DH : List D -> Option (List D)
 | [.int a, .int j, .int b] => ifC (a = 0 /\ b = 2 /\ 0 <= j /\ j < 1000000) (some (fQ 0 ((j + 1) / 2).toNat)) none
 | _ => none
@[simp] def Ff (a : XA) : XA := fun ρ => (a ρ).bind DH
theorem KL {t : TA} {a : XA} (h : SAP K t a) : SI K (IJ t) (Ff a) := fun ρ σ S H R l r x k => by
 unfold Ff at x
 cases q : a ρ with
 | none => rw [q] at x; cases x
 | some ds =>
  rw [q] at x
  dsimp only [Option.bind] at x
  unfold DH at x
  split at x
  ·rename_i aa j bb
   obtain ⟨⟨rfl, rfl, hj1, hj2⟩, rfl⟩ := iQ x
   refine h ρ σ S H _ _ r q fun vs S1 H1 z1 d1 => ?_
   cases d1 with
   | cons a1 d1 => cases d1 with
    | cons a2 d1 => cases d1 with
     | cons a3 d1 =>
      cases d1
      refine ⟨j, by rw [a1.int, a2.int, a3.int], hj1, hj2, k _ S1 H1 z1 fun S' H' _ _ => ⟨fun i d h => ?_, by rw [oh]; exact Pi _⟩⟩
      obtain ⟨h1, rfl⟩ := vm _ 0 i d h
      exact ⟨h1, fun x H'' y => ⟨y.1, den_int.mpr (by rw [y.2, QL])⟩⟩
  ·cases x
def gn (g : XG) (m : XS) : List D -> Env -> Option Out
 | [], ρ => some (.nx ρ)
 | d :: l, ρ => (g d ρ).bind fun ρ1 => match m ρ1 with
  | some (.nx ρ2) => gn g m l ρ2
  | some (.ct ρ2) => gn g m l ρ2
  | some (.bk ρ2) => some (.nx ρ2)
  | some (.rt d) => some (.rt d)
  | some (.ro d) => some (.ro d)
  | none => none
@[simp] def fA (e : XA) (g : XG) (m : XS) : XS := fun ρ => (e ρ).bind fun l => gn g m l ρ
theorem zL {l : List D} {i : Nat} {d : D} (h : l[i]? = some d) : l.drop i = d :: l.drop (i + 1) := by
 obtain ⟨h1, rfl⟩ := Pw.mp h
 exact Rh h1
theorem Ml {wi : TI} {g : TG} {tb : TS} {e : XA} {x : XG} {m : XS} (hi : SI K wi e) (hg : SG K g x) (hb : SS K tb m) : SS K (Lv wi g tb) (fA e x m) := fun A Λ ρ σ S H E o r y k => by
 unfold fA at y
 cases q : e ρ with
 | none => rw [q] at y; cases y
 | some l =>
  rw [q] at y
  dsimp only [Option.bind] at y
  refine hi ρ σ S H _ l r.toRl q fun J S1 H1 z1 wk => ?_
  have r1 := r.ext z1
  refine ⟨fun i n σ' H' => n = l.length - i /\ i <= l.length /\ ∃ ρ' S', RlA K A Λ ρ' σ' S' H' /\ Same S1 S' /\ gn x m (l.drop i) ρ' = some o, ⟨_, rfl, PY _, ρ, S1, r1, Same.refl _, y⟩, ?_⟩
  rintro i n σ2 H2 ⟨rfl, hil, ρ2, S2, r2, s2, y2⟩
  obtain ⟨w1, w2⟩ := wk S2 H2 s2 r2.sub
  cases qd : l[i]? with
  | none =>
   have : l.length = i := by have := Rp.mp qd; lia
   subst this
   rw [QW (Pi _)] at y2
   cases y2
   exact .inl ⟨w2, k σ2 S2 H2 r2 (z1.sh.trans s2)⟩
  | some d =>
   obtain ⟨g1, g2⟩ := w1 i d qd
   have hlt := (Pw.mp qd).1
   rw [zL qd] at y2
   unfold gn at y2
   cases qx : x d ρ2 with
   | none => rw [qx] at y2; cases y2
   | some ρ3 =>
    rw [qx] at y2
    dsimp only [Option.bind] at y2
    refine .inr ⟨g1, fun σ' H' => ∃ ρ' S', RlA K A Λ ρ' σ' S' H' /\ Same S1 S' /\ gn x m (l.drop (i + 1)) ρ' = some o, fun σ' H' ⟨ρ', S', a1, a2, a3⟩ => ⟨_, by lia, rfl, hlt, ρ', S', a1, a2, a3⟩, fun xv H3 hy => ?_⟩
    obtain ⟨rfl, dx⟩ := g2 xv H3 hy
    refine hg A Λ ρ2 σ2 S2 H3 xv d _ ρ3 r2 dx qx fun σ3 r3 => ?_
    cases qm : m ρ3 with
    | none => rw [qm] at y2; cases y2
    | some om =>
     rw [qm] at y2
     refine hb A Λ ρ3 σ3 S2 H3 _ om r3 qm ?_
     cases om with
     | nx ρ4 => exact fun σ4 S4 H4 r4 s4 => ⟨ρ4, S4, r4, s2.trans s4, y2⟩
     | ct ρ4 => exact fun σ4 S4 H4 r4 s4 => ⟨ρ4, S4, r4, s2.trans s4, y2⟩
     | bk ρ4 => cases y2; exact fun σ4 S4 H4 r4 s4 => k σ4 S4 H4 r4 ((z1.sh.trans s2).trans s4)
     | rt d4 => cases y2; exact fun v S4 H4 s4 => k v S4 H4 ((z1.sh.trans s2).trans s4)
     | ro d4 => cases y2; exact fun v fp S4 H4 s4 => k v fp S4 H4 ((z1.sh.trans s2).trans s4)
def c6 (c : XT) (m : XS) : Nat -> Env -> Option Out
 | 0, _ => none
 | n + 1, ρ => (c ρ).bind fun b => if b = true then (match m ρ with
  | some (.nx ρ2) => c6 c m n ρ2
  | some (.ct ρ2) => c6 c m n ρ2
  | some (.bk ρ2) => some (.nx ρ2)
  | some (.rt d) => some (.rt d)
  | some (.ro d) => some (.ro d)
  | none => none) else some (.nx ρ)
theorem ml (c : XT) (m : XS) : ∀ (n : Nat) (ρ : Env) (o : Out), c6 c m n ρ = some o -> c6 c m (n + 1) ρ = some o
 | 0, _, _, h => by cases h
 | n + 1, ρ, o, h => by
  unfold c6 at h ⊢
  cases qc : c ρ with
  | none => rw [qc] at h; cases h
  | some b =>
   rw [qc] at h
   dsimp only [Option.bind] at h ⊢
   cases b with
   | false => exact h
   | true =>
    rw [Pa rfl] at h ⊢
    cases qm : m ρ with
    | none => rw [qm] at h; cases h
    | some om =>
     rw [qm] at h
     cases om with
     | nx ρ2 => exact ml c m n ρ2 o h
     | ct ρ2 => exact ml c m n ρ2 o h
     | bk ρ2 => exact h
     | rt d => exact h
     | ro d => exact h
theorem o4 (c : XT) (m : XS) (n : Nat) (ρ : Env) (o : Out) (h : c6 c m n ρ = some o) : ∀ k, c6 c m (n + k) ρ = some o
 | 0 => h
 | k + 1 => ml c m (n + k) ρ o (o4 c m n ρ o h k)
def p7 (c : XT) (m : XS) : XS := fun ρ => by
 classical
 exact if h : ∃ o n, c6 c m n ρ = some o then some h.choose else none
def ft (c : XT) (m : XS) : XS := fun ρ => (c6 c m 64 ρ).or (p7 c m ρ)
theorem uM {c : XT} {m : XS} {ρ : Env} {o o' : Out} {n k : Nat} (h : c6 c m n ρ = some o) (h' : c6 c m k ρ = some o') : o' = o := by
 have h3 := o4 c m n ρ o h k
 have h4 := o4 c m k ρ _ h' n
 rw [Nat.add_comm k n, h3] at h4
 exact (PX h4).symm
theorem wE {c : XT} {m : XS} {n : Nat} {ρ : Env} {o : Out} (h : c6 c m n ρ = some o) : ft c m ρ = some o := by
 unfold ft
 cases q : c6 c m 64 ρ with
 | some o' => exact PH some (uM h q)
 | none =>
  have hx : ∃ o n, c6 c m n ρ = some o := ⟨o, n, h⟩
  show p7 c m ρ = some o
  unfold p7
  rw [dif_pos hx]
  obtain ⟨n2, h2⟩ := hx.choose_spec
  exact PH some (uM h h2)
theorem yh {c : XT} {m : XS} {ρ : Env} {o : Out} (h : ft c m ρ = some o) : ∃ n, c6 c m n ρ = some o := by
 unfold ft at h
 cases q : c6 c m 64 ρ with
 | some o' => rw [q] at h; exact ⟨64, q.trans h⟩
 | none =>
  rw [q] at h
  have h : p7 c m ρ = some o := h
  unfold p7 at h
  split at h
  ·rename_i hx
   cases h
   exact hx.choose_spec
  ·cases h
theorem Cc {c : XT} {m : XS} {ρ : Env} (h : c ρ = some false) : ft c m ρ = some (.nx ρ) := wE (n := 1) (by unfold c6; rw [h]; rfl)
theorem Az {c : XT} {m : XS} {ρ ρ2 : Env} {o : Out} (h : c ρ = some true) (hm : m ρ = some (.nx ρ2)) (k : ft c m ρ2 = some o) : ft c m ρ = some o := by
 obtain ⟨n, hn⟩ := yh k
 exact wE (n := n + 1) (by unfold c6; rw [h, hm]; exact hn)
theorem IA {tc : TT} {tb : TS} {c : XT} {m : XS} (hc : ST K tc c) (hb : SS K tb m) : SS K (Ga tc tb) (ft c m) := fun A Λ ρ σ S H E o r y k => by
 obtain ⟨n, hn⟩ := yh y
 refine ⟨fun n σ' H' => ∃ ρ' S', RlA K A Λ ρ' σ' S' H' /\ Same S S' /\ c6 c m n ρ' = some o, ⟨n, ρ, S, r, Same.refl _, hn⟩, ?_⟩
 rintro n σ1 H1 ⟨ρ1, S1, r1, s1, h1⟩
 cases n with
 | zero => cases h1
 | succ n =>
  unfold c6 at h1
  cases qc : c ρ1 with
  | none => rw [qc] at h1; cases h1
  | some b =>
   rw [qc] at h1
   dsimp only [Option.bind] at h1
   refine hc ρ1 σ1 S1 H1 _ b r1.toRl qc fun S2 H2 z2 => ?_
   have r2 := r1.ext z2
   cases b with
   | false =>
    rw [Pb (by decide)] at h1
    cases h1
    exact DS (k σ1 S2 H2 r2 (s1.trans z2.sh))
   | true =>
    rw [Pa rfl] at h1
    refine DT ⟨fun σ' H' => ∃ ρ' S', RlA K A Λ ρ' σ' S' H' /\ Same S S' /\ c6 c m n ρ' = some o, fun σ' H' a => ⟨n, Q0 _, a⟩, ?_⟩
    cases qm : m ρ1 with
    | none => rw [qm] at h1; cases h1
    | some om =>
     rw [qm] at h1
     refine hb A Λ ρ1 σ1 S2 H2 _ om r2 qm ?_
     cases om with
     | nx ρ4 => exact fun σ4 S4 H4 r4 s4 => ⟨ρ4, S4, r4, (s1.trans z2.sh).trans s4, h1⟩
     | ct ρ4 => exact fun σ4 S4 H4 r4 s4 => ⟨ρ4, S4, r4, (s1.trans z2.sh).trans s4, h1⟩
     | bk ρ4 => cases h1; exact fun σ4 S4 H4 r4 s4 => k σ4 S4 H4 r4 ((s1.trans z2.sh).trans s4)
     | rt d4 => cases h1; exact fun v S4 H4 s4 => k v S4 H4 ((s1.trans z2.sh).trans s4)
     | ro d4 => cases h1; exact fun v fp S4 H4 s4 => k v fp S4 H4 ((s1.trans z2.sh).trans s4)
@[simp] def y8 (js : List (Option Nat)) (ρ : Env) : Env := js.map fun o => match o with | none => .un | some j => match ρ[j]? with | some (.sh d) => .sh d | _ => .un
def b6 (g : XG) (c : XT) (e : XE) (ρ0 : Env) : List D -> Option (List D)
 | [] => some []
 | d :: l => (g d ρ0).bind fun ρ1 => (c ρ1).bind fun b => if b = true then (e ρ1).bind fun y => (b6 g c e ρ0 l).map fun r => y :: r else b6 g c e ρ0 l
@[simp] def dc (js : List (Option Nat)) (w : XA) (g : XG) (c : XT) (e : XE) : XA := fun ρ => (w ρ).bind fun l => if l.length <= LIM then b6 g c e (y8 js ρ) l else none
@[simp] def cz : XT := fun _ => some true
theorem Mx : ST K IY cz := fun ρ σ S H Q b r x k => by cases x; exact k S H (Ext.refl r.sub)
theorem pH {js : List (Option Nat)} {ρ : Env} {i : Nat} {s : Sl} (h : (y8 js ρ)[i]? = some s) : s = .un \/ ∃ d j, s = .sh d /\ js[i]? = some (some j) /\ ρ[j]? = some (.sh d) := by
 unfold y8 at h
 rw [PD] at h
 cases q : js[i]? with
 | none => rw [q] at h; cases h
 | some o =>
  rw [q] at h
  cases o with
  | none => cases h; exact .inl rfl
  | some j =>
   simp only [Option.map_some] at h
   cases q2 : ρ[j]? with
   | none => rw [q2] at h; cases h; exact .inl rfl
   | some s2 =>
    rw [q2] at h
    cases s2 with
    | un => cases h; exact .inl rfl
    | lo => cases h; exact .inl rfl
    | ow l => cases h; exact .inl rfl
    | sh d => cases h; exact .inr ⟨d, j, rfl, rfl, q2⟩
def nu (S H : Hp) : Hp := fun b => match S b with | none => H b | some _ => none
theorem xU {S H : Hp} : Same (nu S H) H := fun b o h => by
 unfold nu at h
 cases q : S b with
 | none => rw [q] at h; exact h
 | some _ => rw [q] at h; cases h
theorem wZ {S H : Hp} (b : Addr) : S b = none \/ nu S H b = none := by
 unfold nu
 cases q : S b with
 | none => exact .inl rfl
 | some _ => exact .inr rfl
theorem An {S H : Hp} {b : Addr} {o : HO} (h : H b = some o) (n : S b = none) : nu S H b = some o := by
 unfold nu
 rw [n]
 exact h
theorem K4 {ρ : Env} {σ : St} (r : Rl K ρ σ S H) (js : List (Option Nat)) : RlA K (nu S H) (fun _ => none) (y8 js ρ) (inn js σ) S H := by
 refine ⟨fun _ => [], ?_⟩
 exact {
  len := by unfold y8 inn; rw [Ph, Ph]
  sub := r.sub
  sh := fun i d h => by
   rcases pH h with e | ⟨d', j, e, h1, h2⟩
   ·cases e
   ·cases e
    obtain ⟨v, k1, k2⟩ := r.sh j d h2
    refine ⟨v, ?_, k2⟩
    unfold inn
    rw [PD, h1]
    show some ((σ[j]?).join) = some (some v)
    rw [k1]
    rfl
  ow := fun i o h => by
   rcases pH h with e | ⟨d', j, e, h1, h2⟩
   ·cases e
   ·cases e
  dj := fun i j o o' _ h => by
   rcases pH h with e | ⟨d', j, e, h1, h2⟩
   ·cases e
   ·cases e
  lo := fun i h => by
   rcases pH h with e | ⟨d', j, e, h1, h2⟩
   ·cases e
   ·cases e
  asub := xU
  adis := wZ }
theorem JW {js : List (Option Nat)} {wi : TI} {g : TG} {tt : TIf} {te : TE} {w : XA} {x : XG} {c : XT} {e : XE} (hi : SIP K wi w) (hg : SG K g x) (hc : ST K tt c) (he : SE K te e) : SF K (Fv js wi g tt te) (dc js w x c e) := fun ρ σ S H Q l r y k => by
 unfold dc at y
 cases q : w ρ with
 | none => rw [q] at y; cases y
 | some ds =>
  rw [q] at y
  dsimp only [Option.bind] at y
  split at y
  ·rename_i hlim
   refine hi ρ σ S H _ ds r q fun J S1 H1 z1 wk D hD => ?_
   have r1 := r.ext z1
   have hD0 : H D = none := (z1.same r.sub).free hD
   -- the word: what is told so far, what is still to be told
   refine ⟨fun i n H' => n = ds.length - i /\ i <= ds.length /\ ∃ S' done ys rest, Ext S1 H1 S' H' /\ Same S1 S' /\ H' D = some (.lst ys) /\ S' D = none /\ Dens K S' done ys /\ done.length <= i /\ b6 x c e (y8 js ρ) (ds.drop i) = some rest /\ l = done ++ rest,
    ⟨_, rfl, PY _, S1, [], [], l, Ext.own z1.sub hD, Same.refl _, a6, z1.sub.free hD, .nil, PY _, y, rfl⟩, ?_⟩
   rintro i n H2 ⟨rfl, hil, S2, done, ys, rest, z2, s2, hy, hSD, dy, hdl, y2, rfl⟩
   obtain ⟨w1, w2⟩ := wk S2 H2 z2
   cases qd : ds[i]? with
   | none =>
    have : ds.length = i := by have := Rp.mp qd; lia
    subst this
    rw [QW (Pi _)] at y2
    cases y2
    rw [P5] at k
    exact .inl ⟨w2, k D ys S2 H2 (z1.trans z2) hD0 hSD hy dy⟩
   | some d =>
    obtain ⟨g1, g2⟩ := w1 i d qd
    have hlt := (Pw.mp qd).1
    rw [zL qd] at y2
    unfold b6 at y2
    cases qx : x d (y8 js ρ) with
    | none => rw [qx] at y2; cases y2
    | some ρ3 =>
     rw [qx] at y2
     dsimp only [Option.bind] at y2
     refine .inr ⟨g1, fun xv H3 hyl => ?_⟩
     obtain ⟨rfl, dx⟩ := g2 xv H3 hyl
     have ri := K4 (r1.ext z2) js
     refine hg _ _ _ _ S2 H3 xv d _ ρ3 ri dx qx fun σ3 r3 => ?_
     cases qc : c ρ3 with
     | none => rw [qc] at y2; cases y2
     | some b =>
      rw [qc] at y2
      dsimp only at y2
      refine hc ρ3 σ3 S2 H3 _ b r3.toRl qc fun S4 H4 z4 => ?_
      obtain ⟨al1, al2⟩ := z4.al D _ hy hSD
      cases b with
      | false =>
       rw [Pb (by decide)] at y2
       exact DS ⟨_, by lia, rfl, hlt, S4, done, ys, rest, z2.trans z4, s2.trans z4.sh, al1, al2, dy.mono z4.sh, by lia, y2, rfl⟩
      | true =>
       rw [Pa rfl] at y2
       cases qe : e ρ3 with
       | none => rw [qe] at y2; cases y2
       | some dv =>
        rw [qe] at y2
        dsimp only at y2
        cases qr : b6 x c e (y8 js ρ) (ds.drop (i + 1)) with
        | none => rw [qr] at y2; cases y2
        | some rest2 =>
         rw [qr] at y2
         cases y2
         refine DT (he ρ3 σ3 S4 H4 _ dv (r3.toRl.ext z4) qe fun v S5 H5 z5 d5 => ?_)
         obtain ⟨b1, b2⟩ := z5.al D _ al1 al2
         refine ⟨ys, b1, ?_, _, by lia, rfl, hlt, S5, done ++ [dv], ys ++ [v], rest2, ?_, (s2.trans z4.sh).trans z5.sh, a6, b2, ((dy.mono z4.sh).mono z5.sh).append (.cons d5 .nil), by rw [Pj, P8]; lia, qr, by rw [PQ]; rfl⟩
         ·rw [<- dy.length]
          exact PZ (QB hdl hlt) (PU hlim (Qh kq))
         ·have z6 := (z2.trans z4).trans z5
          exact ⟨z6.sh, fun b u hb => by rw [a9 fun z => by subst z; rw [b2] at hb; cases hb]; exact z6.sub b u hb, fun b o hb hn => by
           obtain ⟨c1, c2⟩ := z6.al b o hb hn
           exact ⟨by rw [a9 fun z => by subst z; rw [hD] at hb; cases hb]; exact c1, c2⟩⟩
  ·cases y
@[simp] def Oz (i : Nat) (g : XG) (m : XS) : XS := fun ρ => match ρ[i]? with
 | some (.ow (.lst os)) => (match shs os with
  | some l => (match gn g m l (ρ.set i .lo) with
   | some (.nx ρ') => (match ρ'[i]? with | some .lo => some (.nx (ρ'.set i (.ow (.lst os)))) | _ => none)
   | some (.rt d) => some (.rt d)
   | _ => none)
  | none => none)
 | _ => none
def fnO (n : Nat) (x : XS) (ds : List D) : Option O := match x (ds.map .sh ++ List.replicate (n - ds.length) .un) with
 | some (.rt d) => some (.sh d)
 | some (.ro o) => some o
 | some (.nx _) => some (.sh .non)
 | _ => none
theorem GE {N : List Str} {ds : List D} {vs : List V} (s : Same S H) (h : Dens K S ds vs) : RlA K (nu S H) (fun _ => none) (ds.map .sh ++ List.replicate (N.length - ds.length) .un) (L2.bo N vs) S H := by
 have hl := h.length
 have key : ∀ (i : Nat) t, (ds.map Sl.sh ++ List.replicate (N.length - ds.length) .un)[i]? = some t -> t = .un \/ ∃ d v, t = .sh d /\ (L2.bo N vs)[i]? = some (some v) /\ Den K S d v := fun i t ht => by
  by_cases hi : i < ds.length
  ·rw [Rf (by rw [Ph]; exact hi), PD] at ht
   cases q : ds[i]? with
   | none => rw [q] at ht; cases ht
   | some d =>
    rw [q] at ht
    cases ht
    obtain ⟨v, e1, e2⟩ := h.get q
    refine .inr ⟨d, v, rfl, ?_, e2⟩
    unfold L2.bo
    rw [Rf (by rw [Ph]; lia), PD, e1]
    rfl
  ·rw [Q2 (by rw [Ph]; lia), List.getElem?_replicate] at ht
   split at ht
   ·cases ht; exact .inl rfl
   ·cases ht
 refine ⟨fun _ => [], ?_⟩
 exact {
  len := by unfold L2.bo; rw [Pj, Pj, Ph, Ph, RH, RH, hl]
  sub := s
  sh := fun i d hi => by
   rcases key i _ hi with e | ⟨d', v, e, h1, h2⟩
   ·cases e
   ·cases e; exact ⟨v, h1, h2⟩
  ow := fun i o hi => by
   rcases key i _ hi with e | ⟨d', v, e, h1, h2⟩
   ·cases e
   ·cases e
  dj := fun i j o o' _ hi => by
   rcases key i _ hi with e | ⟨d', v, e, h1, h2⟩
   ·cases e
   ·cases e
  lo := fun i hi => by
   rcases key i _ hi with e | ⟨d', v, e, h1, h2⟩
   ·cases e
   ·cases e
  asub := xU
  adis := wZ }
theorem MA {t : TS} {x : XS} {N : List Str} {n k : Nat} {vs : List V} {H : Hp} {Q : VK} {E : XK} (hs : SS K t x) (hN : N.length = n) (h : b9 K k (fnO n x) vs H Q E) :
  t { nx := fun _ H' => Q .non H', rt := Q } (L2.bo N vs) H := by
 obtain ⟨_, S, ds, d, s, dd, y, q⟩ := h
 subst hN
 unfold fnO at y
 have r := GE (N := N) s dd
 have ex : ∀ {S' H' : Hp}, Same S S' -> Same S' H' -> Same (nu S H) H' -> (∀ b, S' b = none \/ nu S H b = none) -> Ext S H S' H' := fun s1 s2 s3 s4 => ⟨s1, s2, fun b o hb hn => by
  have ha := An hb hn
  refine ⟨s3 b o ha, ?_⟩
  rcases s4 b with z | z
  ·exact z
  ·rw [ha] at z; cases z⟩
 cases qx : x (ds.map .sh ++ List.replicate (N.length - ds.length) .un) with
 | none => rw [qx] at y; cases y
 | some o =>
  rw [qx] at y
  refine hs _ _ _ _ S H _ o r qx ?_
  cases o with
  | rt d' =>
   cases y
   exact fun v S' H' s1 s2 s3 s4 dv => q v [] S' H' (ex s1 s2 s3 s4) (own_sh.mpr ⟨rfl, dv⟩) .nil fun b hb => by cases hb
  | ro o' =>
   cases y
   refine fun v fp S' H' s1 s2 s3 s4 ow nd n => q v fp S' H' (ex s1 s2 s3 s4) ow nd fun b hb => ⟨?_, (n b hb).1⟩
   cases qb : H b with
   | none => rfl
   | some u =>
    have := An qb (s1.free (n b hb).1)
    rw [(n b hb).2] at this; cases this
  | nx ρ' =>
   cases y
   exact fun σ' S' H' r' s1 => q .non [] S' H' (ex s1 r'.sub r'.asub r'.adis) (own_sh.mpr ⟨rfl, den_non.mpr rfl⟩) .nil fun b hb => by cases hb
  | bk ρ' => cases y
  | ct ρ' => cases y
end
def dI (f : Int -> Int -> Option D) : D -> D -> Option D
 | .int i, .int j => f i j
 | _, _ => none
def gP : D -> D -> Option D := dI fun i j => ifC ((-18446744073709551616 < i /\ i < 18446744073709551616) \/ (-18446744073709551616 < j /\ j < 18446744073709551616)) (some (.int (i * j))) none
def lJ : D -> D -> Option D := dI fun i j => ifC (0 < j /\ j < 1073741824) (some (.int (i / j))) none
def jS : D -> D -> Option D := dI fun i j => ifC (0 < j) (some (.int (i % j))) none
def HE : D -> D -> Option D := dI fun i j => ifC (0 <= j /\ j <= 1000000 /\ i.natAbs < 18446744073709551616) (some (.int (i ^ j.toNat))) none
def e7 : D -> D -> Option D := dI fun i j => some (.int (i - j))
def dLt : D -> D -> Option D := dI fun i j => some (.bl (decide (i < j)))
def dLe : D -> D -> Option D := dI fun i j => some (.bl (decide (i <= j)))
def dGt : D -> D -> Option D := dI fun i j => some (.bl (decide (j < i)))
def dGe : D -> D -> Option D := dI fun i j => some (.bl (decide (j <= i)))
def d9 : D -> Option D
 | .int i => some (.int (-i))
 | _ => none
section
variable {K : W.Frag}
theorem r_i {C : Int -> Int -> Prop} {g : Int -> Int -> V} {f : Int -> Int -> Option D} (h : ∀ i j d, f i j = some d -> C i j /\ rL d = some (g i j)) : SR2 K (rI C g) (dI f) := fun S H x y d e z Q s dx dy q k => by
 cases d <;> cases e <;> try cases q
 rename_i i j
 obtain ⟨h1, h2⟩ := h i j z q
 exact ⟨i, j, dx.int, dy.int, h1, k _ S H (Ext.refl s) (pQ h2)⟩
theorem FS {g : Int -> Int -> V} {f : Int -> Int -> Option D} (h : ∀ i j d, f i j = some d -> rL d = some (g i j)) : SR2 K (rI0 g) (dI f) := fun S H x y d e z Q s dx dy q k => by
 cases d <;> cases e <;> try cases q
 rename_i i j
 exact ⟨i, j, dx.int, dy.int, k _ S H (Ext.refl s) (pQ (h i j z q))⟩
theorem Mm : SR2 K (rI CMul fun i j => .int (i * j)) gP := r_i fun i j d h => by
 obtain ⟨c, rfl⟩ := iQ h
 refine ⟨?_, rfl⟩
 unfold CMul
 have : (2 : Int) ^ 64 = 18446744073709551616 := by decide
 rw [this]
 exact c
theorem K8 : SR2 K (rI LH fun i j => .int (i / j)) lJ := r_i fun i j d h => by
 obtain ⟨c, rfl⟩ := iQ h
 exact ⟨c, rfl⟩
theorem K9 : SR2 K (rI (fun _ j => 0 < j) fun i j => .int (i % j)) jS := r_i fun i j d h => by
 obtain ⟨c, rfl⟩ := iQ h
 exact ⟨c, rfl⟩
theorem Mv : SR2 K (rI KB fun i j => .int (i ^ j.toNat)) HE := r_i fun i j d h => by
 obtain ⟨c, rfl⟩ := iQ h
 refine ⟨?_, rfl⟩
 unfold KB
 have : (2 : Nat) ^ 64 = 18446744073709551616 := by decide
 rw [this]
 exact c
theorem LI : SR2 K (rI0 fun i j => .int (i - j)) e7 := FS fun i j d h => by cases h; rfl
theorem Ll : SR2 K (rI0 fun i j => .bl (decide (i < j))) dLt := FS fun i j d h => by cases h; rfl
theorem Nr : SR2 K (rI0 fun i j => .bl (decide (i <= j))) dLe := FS fun i j d h => by cases h; rfl
theorem Nn : SR2 K (rI0 fun i j => .bl (decide (j < i))) dGt := FS fun i j d h => by cases h; rfl
theorem Gj : SR1 K (rU fun i => .int (-i)) d9 := fun S H x d g Q s dx q k => by
 cases d <;> try cases q
 rename_i i
 exact ⟨i, dx.int, k _ S H (Ext.refl s) (den_int.mpr rfl)⟩
end
def IK : R2 := fun x y H Q => ∃ l b xs zs, x = .ref l /\ y = .ref b /\ Rd H l (.lst xs) /\ Rd H b (.lst zs) /\ xs.length + zs.length <= sizeLine /\ ∀ p, H p = none -> Q (.ref p) (upd H p (.lst (xs ++ zs)))
def IB (K : W.Frag) : R2 := fun x y H Q => ∃ a b xs ys, x = .ref a /\ y = .ref b /\ SqT K H a xs /\ SqT K H b ys /\ xs.length + ys.length <= sizeLine /\
 (ys = [] -> Q (.ref a) H) /\ (xs = [] -> Q (.ref b) H) /\ ∀ p, H p = none -> Q (.ref p) (upd H p (.tup (xs ++ ys)))
def IZ : R2 := fun x y H Q => ∃ i j, x = .str i /\ y = .str j /\ i.length + j.length <= sizeLine /\ Q (.str (i ++ j)) H
def IL (K : W.Frag) : R2 := fun x y H Q => (∃ i j, x = .int i /\ y = .int j /\ Q (.int (i + j)) H) \/ IK x y H Q \/ IB K x y H Q \/ IZ x y H Q
def bU : D -> D -> Option D
 | .int i, .int j => some (.int (i + j))
 | .lst a, .lst b => if a.length + b.length <= LIM then some (.lst (a ++ b)) else none
 | .tup a, .tup b => if a.length + b.length <= LIM then some (.tup (a ++ b)) else none
 | .str a, .str b => if a.length + b.length <= LIM then some (.str (a ++ b)) else none
 | _, _ => none
section
variable {K : W.Frag}
theorem Dens.nil_iff {S : Hp} {ds : List D} {xs : List V} (h : Dens K S ds xs) : xs = [] ↔ ds = [] := by
 have := h.length
 cases ds <;> cases xs <;> simp_all
theorem vt {n : Nat} (h : n <= LIM) : n <= sizeLine := Qh (QB h kq)
theorem Me : SR2 K (IL K) bU := fun S H x y d e z Q s dx dy q k => by
 cases d <;> cases e <;> try (cases q; done)
 ·rename_i i j
  cases q
  exact .inl ⟨i, j, dx.int, dy.int, k _ S H (Ext.refl s) (den_int.mpr rfl)⟩
 ·rename_i i j
  have q' : (if i.length + j.length <= LIM then some (D.str (i ++ j)) else none) = some z := q
  split at q'
  ·rename_i hl
   cases q'
   exact .inr (.inr (.inr ⟨i, j, dx.str, dy.str, vt hl, k _ S H (Ext.refl s) (den_str.mpr rfl)⟩))
  ·cases q'
 ·rename_i a b
  have q' : (if a.length + b.length <= LIM then some (D.lst (a ++ b)) else none) = some z := q
  split at q'
  ·rename_i hl
   cases q'
   obtain ⟨p, xs, rfl, h1, h2⟩ := dx.lst s
   obtain ⟨p', ys, rfl, h3, h4⟩ := dy.lst s
   refine .inr (.inl ⟨p, p', xs, ys, rfl, rfl, h1, h3, by rw [<- h2.length, <- h4.length]; exact vt hl, fun q hq => ?_⟩)
   have z := Ext.new (o := .lst (xs ++ ys)) s hq
   exact k _ _ _ z (den_lst.mpr ⟨q, _, rfl, .inl a6, (h2.append h4).mono z.sh⟩)
  ·cases q'
 ·rename_i a b
  have q' : (if a.length + b.length <= LIM then some (D.tup (a ++ b)) else none) = some z := q
  split at q'
  ·rename_i hl
   cases q'
   obtain ⟨p, xs, e1, h1, h2⟩ := dx.tup s
   obtain ⟨p', ys, e2, h3, h4⟩ := dy.tup s
   have dx' : Den K S (.tup a) x := dx.elim id fun ⟨_, _, _, e, _⟩ => by cases e
   have dy' : Den K S (.tup b) y := dy.elim id fun ⟨_, _, _, e, _⟩ => by cases e
   subst e1 e2
   refine .inr (.inr (.inl ⟨p, p', xs, ys, rfl, rfl, h1, h3, by rw [<- h2.length, <- h4.length]; exact vt hl, fun e => ?_, fun e => ?_, fun q hq => ?_⟩))
   ·have := h4.nil_iff.mp e
    subst this
    exact k _ S H (Ext.refl s) (by rw [P5]; exact dx')
   ·have := h2.nil_iff.mp e
    subst this
    exact k _ S H (Ext.refl s) (by rw [List.nil_append]; exact dy')
   ·have z := Ext.new (o := .tup (xs ++ ys)) s hq
    exact k _ _ _ z (den_tup.mpr ⟨q, _, rfl, TpA.of a6, (h2.append h4).mono z.sh⟩)
  ·cases q'
end
mutual
def eqD : D -> D -> Bool
 | .non, .non => true
 | .bl a, .bl b => a == b
 | .bl a, .int j => (if a then 1 else 0) == j
 | .int i, .bl b => i == (if b then 1 else 0)
 | .int i, .int j => i == j
 | .str x, .str y => x == y
 | .lst a, .lst b => eqDs a b
 | .tup a, .tup b => eqDs a b
 | _, _ => false
def eqDs : List D -> List D -> Bool
 | [], [] => true
 | x :: xs, y :: ys => eqD x y && eqDs xs ys
 | _, _ => false
end
mutual
def okD : Nat -> D -> Bool
 | _, .non => true
 | _, .bl _ => true
 | _, .int _ => true
 | _, .str x => PyData.strOk x
 | n + 1, .lst l => okDs n l
 | n + 1, .tup l => okDs n l
 | _, _ => false
def okDs : Nat -> List D -> Bool
 | _, [] => true
 | n, d :: l => okD n d && okDs n l
end
def J5 (K : W.Frag) (neg : Bool) : R2 := fun x y H Q => ∃ S d e, Same S H /\ DenP K S H d x /\ DenP K S H e y /\ okD 50 d = true /\ okD 50 e = true /\ Q (.bl (if neg then !eqD d e else eqD d e)) H
def dEq (neg : Bool) (d e : D) : Option D := if okD 50 d = true /\ okD 50 e = true then some (.bl (if neg then !eqD d e else eqD d e)) else none
section
variable {K : W.Frag}
theorem Lp (neg : Bool) : SR2 K (J5 K neg) (dEq neg) := fun S H x y d e z Q s dx dy q k => by
 unfold dEq at q
 split at q
 ·rename_i c
  cases q
  exact ⟨S, d, e, s, dx, dy, c.1, c.2, k _ S H (Ext.refl s) (den_bl.mpr rfl)⟩
 ·cases q
end
def ub : D -> Bool
 | .non => true | _ => false
def NK (neg : Bool) (d e : D) : Option D := match e with | .non => some (.bl (if neg then !ub d else ub d)) | _ => none
section
variable {K : W.Frag}
end
def dIx : D -> D -> Option D
 | .lst l, .int i => atI l i
 | .tup l, .int i => atI l i
 | .scr l, .int i => atI l i
 | .str x, .int i => if x.length <= LIM then (atI x.cps.toList i).map fun c => .str ⟨#[c]⟩ else none
 | _, _ => none
section
variable {K : W.Frag}
theorem uC {S : Hp} {ds : List D} {xs : List V} {i : Int} {d : D} (h : Dens K S ds xs) (e : atI ds i = some d) : ∃ v, atI xs i = some v /\ Den K S d v := by
 unfold atI at e ⊢
 rw [<- h.length]
 cases q : ixN ds.length i with
 | none => rw [q] at e; cases e
 | some j =>
  rw [q] at e
  exact h.get e
theorem M0 : SR2 K (rIx K) dIx := fun S H x y d e z Q s dx dy q k => by
 cases d <;> cases e <;> try (cases q; done)
 ·rename_i x' i
  have q' : (if x'.length <= LIM then (atI x'.cps.toList i).map fun c => D.str ⟨#[c]⟩ else none) = some z := q
  split at q'
  ·rename_i hl
   cases qc : atI x'.cps.toList i with
   | none => rw [qc] at q'; cases q'
   | some c =>
    rw [qc] at q'
    cases q'
    exact .inr (.inr ⟨x', i, c, dx.str, dy.int, vt hl, qc, k _ S H (Ext.refl s) (den_str.mpr rfl)⟩)
  ·cases q'
 ·rename_i l i
  obtain ⟨p, xs, rfl, h1, h2⟩ := dx.lst s
  obtain ⟨v, h3, h4⟩ := uC h2 q
  exact .inl ⟨p, xs, i, v, rfl, dy.int, .inl h1, h3, k v S H (Ext.refl s) h4⟩
 ·rename_i l i
  obtain ⟨p, xs, rfl, h1, h2⟩ := dx.tup s
  obtain ⟨v, h3, h4⟩ := uC h2 q
  exact .inr (.inl ⟨p, xs, i, v, rfl, dy.int, h1, h3, k v S H (Ext.refl s) h4⟩)
 ·rename_i l i
  obtain ⟨p, xs, rfl, h1, h2⟩ := dx.scr s
  obtain ⟨v, h3, h4⟩ := uC h2 q
  exact .inl ⟨p, xs, i, v, rfl, dy.int, h1, h3, k v S H (Ext.refl s) h4⟩
end
def gM {α : Type} (xs : List α) (lo hi : Option Int) : List α := (xs.drop (HT.sIx xs.length 0 lo)).take (HT.sIx xs.length xs.length hi - HT.sIx xs.length 0 lo)
def MD (K : W.Frag) : V -> Option Int -> Option Int -> Hp -> VK -> Prop := fun x lo hi H Q => L4 K x lo hi H Q \/
 ∃ a xs, x = .ref a /\ SqT K H a xs /\ (oi xs lo hi = xs -> Q (.ref a) H) /\ ∀ p, H p = none -> Q (.ref p) (upd H p (.tup (oi xs lo hi)))
abbrev XO := Env -> Option (Option Int)
def SO (K : W.Frag) (t : TO) (o : XO) : Prop := ∀ ρ σ S H (Q : Option Int -> Hp -> Prop) i, Rl K ρ σ S H -> o ρ = some i -> (∀ S' H', Ext S H S' H' -> Q i H') -> t σ H Q
@[simp] def Dr : XO := fun _ => some none
@[simp] def uL (a : XE) : XO := fun ρ => (a ρ).bind fun d => match d with | .int i => some (some i) | _ => none
section
variable {K : W.Frag}
theorem Gm : SO K C9 Dr := fun ρ σ S H Q i r x k => by cases x; exact k S H (Ext.refl r.sub)
theorem J8 {ta : TE} {a : XE} (h : SPk K ta a) : SO K (IU ta) (uL a) := fun ρ σ S H Q i r x k => by
 unfold uL at x
 cases q : a ρ with
 | none => rw [q] at x; cases x
 | some d =>
  rw [q] at x
  dsimp only [Option.bind] at x
  cases d <;> try (cases x; done)
  rename_i j
  cases x
  exact h ρ σ S H _ _ r q fun v S1 H1 z1 d1 => ⟨j, d1.int, k S1 H1 z1⟩
theorem qv {S : Hp} {ds : List D} {xs : List V} (h : Dens K S ds xs) (lo hi : Option Int) : Dens K S (gM ds lo hi) (oi xs lo hi) := by
 unfold gM oi
 rw [h.length]
 exact (h.drop _).take _
def dSl (d : D) (lo hi : Option Int) : Option D := match d with
 | .lst l => some (.lst (gM l lo hi))
 | .tup l => some (.tup (gM l lo hi))
 | .scr l => some (.lst (gM l lo hi))
 | _ => none
@[simp] def xSl (a : XE) (lo hi : XO) : XE := fun ρ => (a ρ).bind fun d => (lo ρ).bind fun l => (hi ρ).bind fun h => dSl d l h
theorem M8 {te : TE} {tl th : TO} {a : XE} {lo hi : XO} (ha : SPk K te a) (hl : SO K tl lo) (hh : SO K th hi) : SE K (tSl (MD K) te tl th) (xSl a lo hi) := fun ρ σ S H Q g r x k => by
 unfold xSl at x
 cases q : a ρ with
 | none => rw [q] at x; cases x
 | some d =>
  rw [q] at x
  dsimp only [Option.bind] at x
  cases ql : lo ρ with
  | none => rw [ql] at x; cases x
  | some l =>
   rw [ql] at x
   dsimp only at x
   cases qh : hi ρ with
   | none => rw [qh] at x; cases x
   | some h =>
    rw [qh] at x
    dsimp only at x
    refine ha ρ σ S H _ d r q fun v S1 H1 z1 d1 => ?_
    have r1 := r.ext z1
    refine hl ρ σ S1 H1 _ l r1 ql fun S2 H2 z2 => ?_
    have r2 := r1.ext z2
    refine hh ρ σ S2 H2 _ h r2 qh fun S3 H3 z3 => ?_
    have z23 := z2.trans z3
    have d3 := d1.mono z23 r1.sub
    have s3 := (r2.ext z3).sub
    have z := z1.trans z23
    cases d <;> try (cases x; done)
    ·cases x
     obtain ⟨p, xs, rfl, h1, h2⟩ := d3.lst s3
     refine .inl ⟨p, xs, rfl, .inl h1, fun p' hp => ?_⟩
     have z4 := Ext.new (o := .lst (oi xs l h)) s3 hp
     exact k _ _ _ (z.trans z4) (den_lst.mpr ⟨p', _, rfl, .inl a6, (qv h2 l h).mono z4.sh⟩)
    ·rename_i ds
     cases x
     have d3' : Den K S3 (.tup ds) v := d3.elim id fun ⟨_, _, _, e, _⟩ => by cases e
     obtain ⟨p, xs, e, h1, h2⟩ := d3.tup s3
     subst e
     refine .inr ⟨p, xs, rfl, h1, fun e => k _ S3 H3 z ?_, fun p' hp => ?_⟩
     ·obtain ⟨p2, xs2, e2, h3, h4⟩ := den_tup.mp d3'
      cases e2
      have c := qv h2 l h
      rw [e] at c
      refine den_tup.mpr ⟨p, xs2, rfl, h3, ?_⟩
      have hlen := c.length
      have : gM ds l h = ds := by
       have hl2 : (gM ds l h).length = ds.length := by rw [c.length, h2.length]
       unfold gM at hl2 ⊢
       rw [QT, List.length_drop] at hl2
       have a0 : HT.sIx ds.length 0 l = 0 \/ ds.length = 0 := by lia
       rcases a0 with a0 | a0
       ·rw [a0, List.drop_zero] at *
        exact Rz (by lia)
       ·have : ds = [] := QM.mp a0
        subst this
        simp
      rw [this]
      exact h4
     ·have z4 := Ext.new (o := .tup (oi xs l h)) s3 hp
      exact k _ _ _ (z.trans z4) (den_tup.mpr ⟨p', _, rfl, TpA.of a6, (qv h2 l h).mono z4.sh⟩)
    ·cases x
     obtain ⟨p, xs, rfl, h1, h2⟩ := d3.scr s3
     refine .inl ⟨p, xs, rfl, h1, fun p' hp => ?_⟩
     have z4 := Ext.new (o := .lst (oi xs l h)) s3 hp
     exact k _ _ _ (z.trans z4) (den_lst.mpr ⟨p', _, rfl, .inl a6, (qv h2 l h).mono z4.sh⟩)
def Je (K : W.Frag) : List V -> Hp -> VK -> Prop := fun xs H Q => ∃ x n, xs = [x] /\ Lz K x H n /\ Q (.int n) H
def pp : List D -> Option D
 | [.lst l] => some (.int l.length)
 | [.tup l] => some (.int l.length)
 | [.scr l] => some (.int l.length)
 | [.str x] => if x.length <= LIM then some (.int x.length) else none
 | _ => none
theorem jE {S H : Hp} {d : D} {vs : List V} (h : DensP K S H [d] vs) : ∃ v, vs = [v] /\ DenP K S H d v := by
 cases h with
 | cons a b => cases b; exact ⟨_, rfl, a⟩
theorem BU {S H : Hp} {d e : D} {vs : List V} (h : DensP K S H [d, e] vs) : ∃ v w, vs = [v, w] /\ DenP K S H d v /\ DenP K S H e w := by
 cases h with
 | cons a b => cases b with
  | cons c b => cases b; exact ⟨_, _, rfl, a, c⟩
theorem LB : SRB K (Je K) pp := fun S H vs ds g Q s d q k => by
 unfold pp at q
 split at q
 ·rename_i l
  cases q
  obtain ⟨v, rfl, d1⟩ := jE d
  obtain ⟨p, xs, rfl, h1, h2⟩ := d1.lst s
  exact ⟨_, xs.length, rfl, .inl ⟨xs, .inl h1, rfl⟩, k _ S H (Ext.refl s) (den_int.mpr (by rw [h2.length]))⟩
 ·rename_i l
  cases q
  obtain ⟨v, rfl, d1⟩ := jE d
  obtain ⟨p, xs, rfl, h1, h2⟩ := d1.tup s
  exact ⟨_, xs.length, rfl, .inr ⟨xs, h1, rfl⟩, k _ S H (Ext.refl s) (den_int.mpr (by rw [h2.length]))⟩
 ·rename_i l
  cases q
  obtain ⟨v, rfl, d1⟩ := jE d
  obtain ⟨p, xs, rfl, h1, h2⟩ := d1.scr s
  exact ⟨_, xs.length, rfl, .inl ⟨xs, h1, rfl⟩, k _ S H (Ext.refl s) (den_int.mpr (by rw [h2.length]))⟩
 ·rename_i x
  split at q
  ·rename_i hl
   cases q
   obtain ⟨v, rfl, d1⟩ := jE d
   exact ⟨_, x.length, rfl, by rw [d1.str]; exact ⟨vt hl, rfl⟩, k _ S H (Ext.refl s) (den_int.mpr rfl)⟩
  ·cases q
 ·cases q
def fY : List D -> Option D
 | [.lst l] => some (.tup l)
 | [.tup l] => some (.tup l)
 | [.scr l] => some (.tup l)
 | _ => none
theorem Iv : SRB K (Ku K) fY := fun S H vs ds g Q s d q k => by
 unfold fY at q
 split at q
 ·rename_i l
  cases q
  obtain ⟨v, rfl, d1⟩ := jE d
  obtain ⟨p, xs, rfl, h1, h2⟩ := d1.lst s
  refine ⟨p, xs, rfl, .inl ⟨.inl h1, fun q hq => ?_⟩⟩
  have z := Ext.new (o := .tup xs) s hq
  exact k _ _ _ z (den_tup.mpr ⟨q, _, rfl, TpA.of a6, h2.mono z.sh⟩)
 ·rename_i l
  cases q
  obtain ⟨v, rfl, d1⟩ := jE d
  have d' : Den K S (.tup l) v := d1.elim id fun ⟨_, _, _, e, _⟩ => by cases e
  obtain ⟨p, xs, rfl, h1, h2⟩ := d1.tup s
  exact ⟨p, xs, rfl, .inr ⟨h1, k _ S H (Ext.refl s) d'⟩⟩
 ·rename_i l
  cases q
  obtain ⟨v, rfl, d1⟩ := jE d
  obtain ⟨p, xs, rfl, h1, h2⟩ := d1.scr s
  refine ⟨p, xs, rfl, .inl ⟨h1, fun q hq => ?_⟩⟩
  have z := Ext.new (o := .tup xs) s hq
  exact k _ _ _ z (den_tup.mpr ⟨q, _, rfl, TpA.of a6, h2.mono z.sh⟩)
 ·cases q
def FU : List D -> Option (List D)
 | [.lst l] => some l
 | [.tup l] => some l
 | [.scr l] => some l
 | _ => none
def uW : List D -> Option D
 | [.int i, .int j] => some (.int (if j > i then j else i))
 | _ => none
def xm : List D -> Option D
 | [.int i, .int j] => some (.int (if j < i then j else i))
 | _ => none
theorem KZ : SRB K Ld uW := fun S H vs ds g Q s d q k => by
 unfold uW at q
 split at q
 ·rename_i i j
  cases q
  obtain ⟨v, w, rfl, d1, d2⟩ := BU d
  exact ⟨i, j, by rw [d1.int, d2.int], k _ S H (Ext.refl s) (den_int.mpr rfl)⟩
 ·cases q
theorem KG : SRB K Mi xm := fun S H vs ds g Q s d q k => by
 unfold xm at q
 split at q
 ·rename_i i j
  cases q
  obtain ⟨v, w, rfl, d1, d2⟩ := BU d
  exact ⟨i, j, by rw [d1.int, d2.int], k _ S H (Ext.refl s) (den_int.mpr rfl)⟩
 ·cases q
def cX : List D -> Option (List Int)
 | [] => some []
 | .int i :: l => (cX l).map fun r => i :: r
 | _ => none
theorem mX {S : Hp} : ∀ {ds : List D} {xs : List V} {ns : List Int}, Dens K S ds xs -> cX ds = some ns -> xs = ns.map V.int /\ ds = ns.map D.int
 | [], xs, ns, h, e => by cases e; exact ⟨h.nil_of, rfl⟩
 | d :: ds, xs, ns, h, e => by
  obtain ⟨y, ys, rfl, h1, h2⟩ := h.cons_of
  cases d <;> try (cases e; done)
  rename_i i
  have e' : (cX ds).map (fun r => i :: r) = some ns := e
  cases q : cX ds with
  | none => rw [q] at e'; cases e'
  | some ms =>
   rw [q] at e'
   cases e'
   obtain ⟨k1, k2⟩ := mX h2 q
   rw [den_int.mp h1, k1]
   exact ⟨rfl, PH (D.int i :: ·) k2⟩
theorem ji : ∀ ns : List Int, cX (ns.map D.int) = some ns
 | [] => rfl
 | n :: ns => by rw [Pt, cX, ji ns]; rfl
def OV : List D -> Option D
 | [.lst l] => (cX l).map fun ns => .int ns.sum
 | _ => none
def LW : List D -> Option D
 | [.int i] => some (.int i)
 | [.bl b] => some (.int (if b then 1 else 0))
 | _ => none
@[simp] def NV (a : XE) : XA := fun ρ => (a ρ).bind fun d => match d with | .lst l => some l.reverse | _ => none
def tyD : D -> Option String
 | .non => some "NoneType" | .bl _ => some "bool" | .int _ => some "int" | .str _ => some "str" | .lst _ => some "list" | .tup _ => some "tuple" | _ => none
def FO (t T : String) : Bool := t == T || (t == "bool" && T == "int")
def tyM (K : W.Frag) (H : Hp) (x : V) (t : String) : Prop := match x with
 | .non => t = "NoneType" | .bl _ => t = "bool" | .int _ => t = "int" | .str _ => t = "str"
 | .ref p => (t = "list" /\ ∃ xs, Rd H p (.lst xs)) \/ (t = "tuple" /\ ∃ xs, SqT K H p xs)
 | _ => False
def JS : List String := ["bool", "int", "str", "list", "tuple"]
def IQ (K : W.Frag) : List V -> Hp -> VK -> Prop := fun xs H Q => ∃ x T t, xs = [x, .ty T] /\ tyM K H x t /\ T ∈ JS /\ Q (.bl (FO t T)) H
def wa : List D -> Option D
 | [d, .ty T] => if T ∈ JS then (tyD d).map fun t => .bl (FO t T) else none
 | _ => none
theorem Mr {S H : Hp} {d : D} {v : V} {t : String} (s : Same S H) (h : DenP K S H d v) (e : tyD d = some t) : tyM K H v t := by
 cases d with
 | non => rw [h.non]; cases e; rfl
 | bl b => rw [h.bl]; cases e; rfl
 | int b => rw [h.int]; cases e; rfl
 | str b => rw [h.str]; cases e; rfl
 | lst l =>
  cases e
  obtain ⟨p, xs, rfl, h1, h2⟩ := h.lst s
  exact .inl ⟨rfl, xs, h1⟩
 | tup l =>
  cases e
  obtain ⟨p, xs, rfl, h1, h2⟩ := h.tup s
  exact .inr ⟨rfl, xs, h1⟩
 | _ => cases e
theorem Lf : SRB K (IQ K) wa := fun S H vs ds g Q s d q k => by
 unfold wa at q
 split at q
 ·rename_i d0 T
  split at q
  ·rename_i hT
   cases qt : tyD d0 with
   | none => rw [qt] at q; cases q
   | some t =>
    rw [qt] at q
    cases q
    obtain ⟨v, w, rfl, d1, d2⟩ := BU d
    exact ⟨v, T, t, by rw [d2.ty], Mr s d1 qt, hT, k _ S H (Ext.refl s) (den_bl.mpr rfl)⟩
  ·cases q
 ·cases q
end
def wl (k : List Int) : D := .tup (k.map D.int)
def HB : D -> Option (List Int)
 | .tup l => if l.isEmpty then none else cX l
 | _ => none
def keys : List D -> Option (List (List Int))
 | [] => some []
 | d :: l => (HB d).bind fun k => (keys l).map fun r => k :: r
theorem AH : ∀ a b : List Int, HT.cK a b = true -> HT.cK b a = false
 | [], [], h => by cases h
 | [], _ :: _, _ => rfl
 | _ :: _, [], h => by cases h
 | x :: a, y :: b, h => by
  have h' : (if x = y then HT.cK a b else decide (x < y)) = true := h
  show (if y = x then HT.cK b a else decide (y < x)) = false
  by_cases e : x = y
  ·rw [Pa e] at h'; rw [Pa e.symm]; exact AH a b h'
  ·rw [Pb e] at h'; rw [Pb (fun z => e z.symm)]
   have := QX h'
   exact PN (by lia)
theorem yd : ∀ a b : List Int, HT.cK a b = false -> HT.cK b a = false -> a = b
 | [], [], _, _ => rfl
 | [], _ :: _, h, _ => by cases h
 | _ :: _, [], _, h => by cases h
 | x :: a, y :: b, h, k => by
  have h' : (if x = y then HT.cK a b else decide (x < y)) = false := h
  have k' : (if y = x then HT.cK b a else decide (y < x)) = false := k
  by_cases e : x = y
  ·rw [Pa e] at h'; rw [Pa e.symm] at k'
   rw [e, yd a b h' k']
  ·rw [Pb e] at h'; rw [Pb (fun z => e z.symm)] at k'
   have := Ql h'
   have := Ql k'
   lia
theorem xp : ∀ a b c : List Int, HT.cK a b = false -> HT.cK b c = false -> HT.cK a c = false
 | [], [], _, _, k => k
 | [], _ :: _, _, h, _ => by cases h
 | _ :: _, _, [], _, _ => rfl
 | _ :: _, [], _ :: _, _, k => by cases k
 | x :: a, y :: b, z :: c, h, k => by
  have h' : (if x = y then HT.cK a b else decide (x < y)) = false := h
  have k' : (if y = z then HT.cK b c else decide (y < z)) = false := k
  show (if x = z then HT.cK a c else decide (x < z)) = false
  by_cases e1 : x = y
  ·rw [Pa e1] at h'
   subst e1
   by_cases e2 : x = z
   ·rw [Pa e2] at k' ⊢; exact xp a b c h' k'
   ·rw [Pb e2] at k' ⊢; exact k'
  ·rw [Pb e1] at h'
   have g1 := Ql h'
   by_cases e2 : y = z
   ·subst e2
    rw [Pb e1]; exact h'
   ·rw [Pb e2] at k'
    have g2 := Ql k'
    rw [Pb (by lia)]
    exact PN (by lia)
def ES (x : List Int) : List (List Int) -> List (List Int)
 | [] => [x]
 | y :: l => if HT.cK y x = true then y :: ES x l else x :: y :: l
def jc (ks : List (List Int)) : List (List Int) := ks.foldr ES []
theorem xA (x : List Int) (l : List (List Int)) : (ES x l).Perm (x :: l) := by
 induction l with
 | nil => exact .refl _
 | cons y l ih =>
  unfold ES
  split
  ·exact (ih.cons y).trans (.swap x y l)
  ·exact .refl _
def gJ (ns : List Int) : List Int := ns.mergeSort fun a b => decide (a <= b)
theorem iT (ks : List (List Int)) : (jc ks).Perm ks := by
 induction ks with
 | nil => exact .refl _
 | cons x l ih => exact (xA x (jc l)).trans (ih.cons x)
theorem fk (ns : List Int) : (gJ ns).Perm ns := List.mergeSort_perm _ _
theorem Ia (x : List Int) (l : List (List Int)) (h : l.Pairwise fun a b => HT.cK b a = false) : (ES x l).Pairwise fun a b => HT.cK b a = false := by
 induction l with
 | nil => exact .cons (fun _ z => by cases z) .nil
 | cons y l ih =>
  have hy : ∀ z, z ∈ l -> HT.cK z y = false := fun z hz => List.rel_of_pairwise_cons h hz
  unfold ES
  cases q : HT.cK y x with
  | true =>
   refine .cons (fun z hz => ?_) (ih (List.Pairwise.of_cons h))
   rcases Ps.mp ((xA x l).mem_iff.mp hz) with rfl | hz
   ·exact AH y _ q
   ·exact hy z hz
  | false =>
   refine .cons (fun z hz => ?_) h
   rcases Ps.mp hz with rfl | hz
   ·exact q
   ·exact xp z y x (hy z hz) q
theorem qp (ks : List (List Int)) : (jc ks).Pairwise fun a b => HT.cK b a = false := by
 induction ks with
 | nil => exact .nil
 | cons x l ih => exact Ia x (jc l) ih
theorem Ai (ns : List Int) : (gJ ns).Pairwise (· <= ·) := by
 have h := List.pairwise_mergeSort (le := fun a b : Int => decide (a <= b)) (fun a b c h k => by
  have := QX h; have := QX k; exact Qw (by lia)) (fun a b => by
  by_cases h : a <= b
  ·simp [h]
  ·simp [show b <= a by lia]) ns
 exact h.imp fun {a b} e => QX e
theorem Cg {ks js : List (List Int)} (hp : js.Perm ks) (hw : js.Pairwise fun a b => HT.cK b a = false) : js = jc ks :=
 List.Perm.eq_of_pairwise (fun a b _ _ h k => yd a b k h) hw (qp ks) (hp.trans (iT ks).symm)
theorem Cb {ns ms : List Int} (hp : ms.Perm ns) (hw : ms.Pairwise (· <= ·)) : ms = gJ ns :=
 List.Perm.eq_of_pairwise (fun a b _ _ h k => by lia) hw (Ai ns) (hp.trans (fk ns).symm)
def GD (K : W.Frag) : List V -> Hp -> VK -> Prop := fun xs H Q => ∃ p, ∃ yks : List (V × List Int), xs = [.ref p] /\ SqL K H p (yks.map (·.1)) /\ yks.length < 30000 /\ (∀ yk ∈ yks, ∃ q, yk.1 = .ref q /\ SqT K H q (yk.2.map V.int) /\ yk.2 ≠ []) /\
 ∀ (zks : List (V × List Int)) l, zks.Perm yks -> zks.Pairwise (fun a b => HT.cK b.2 a.2 = false) -> H l = none -> Q (.ref l) (upd H l (.lst (zks.map (·.1))))
def Ao (K : W.Frag) : List V -> Hp -> VK -> Prop := fun xs H Q => Af K xs H Q \/ GD K xs H Q
def gD : List D -> Option (List D)
 | [.lst l] => if l.length < 30000 then (match cX l with
  | some ns => some ((gJ ns).map D.int)
  | none => (keys l).map fun ks => (jc ks).map wl) else none
 | _ => none
section
variable {K : W.Frag}
theorem Hk {d : D} {k : List Int} (h : HB d = some k) : d = wl k /\ k ≠ [] := by
 cases d <;> try (cases h; done)
 rename_i l
 have h' : (if l.isEmpty then none else cX l) = some k := h
 split at h'
 ·cases h'
 ·rename_i hne
  have key : ∀ (l : List D) (k : List Int), cX l = some k -> l = k.map D.int := by
   intro l
   induction l with
   | nil => intro k e; cases e; rfl
   | cons d l ih =>
    intro k e
    cases d <;> try (cases e; done)
    rename_i i
    have e' : (cX l).map (fun r => i :: r) = some k := e
    cases q : cX l with
    | none => rw [q] at e'; cases e'
    | some m => rw [q] at e'; cases e'; rw [ih m q]; rfl
  have e := key l k h'
  subst e
  exact ⟨rfl, fun z => by subst z; exact hne rfl⟩
theorem C2 : ∀ {l : List D} {ks : List (List Int)}, keys l = some ks -> l = ks.map wl /\ ∀ k ∈ ks, k ≠ []
 | [], ks, h => by cases h; exact ⟨rfl, fun _ h => by cases h⟩
 | d :: l, ks, h => by
  have h' : ((HB d).bind fun k => (keys l).map fun r => k :: r) = some ks := h
  cases q : HB d with
  | none => rw [q] at h'; cases h'
  | some k =>
   rw [q] at h'
   dsimp only [Option.bind] at h'
   cases q2 : keys l with
   | none => rw [q2] at h'; cases h'
   | some r =>
    rw [q2] at h'
    cases h'
    obtain ⟨a, b⟩ := C2 q2
    obtain ⟨c, d⟩ := Hk q
    refine ⟨by rw [Pt, <- a, <- c], fun k hk => ?_⟩
    rcases Ps.mp hk with rfl | hk
    ·exact d
    ·exact b k hk
theorem t6 : ∀ {S : Hp} {k : List Int} {xs : List V}, Dens K S (k.map D.int) xs -> xs = k.map V.int
 | S, [], xs, h => h.nil_of
 | S, i :: k, xs, h => by
  obtain ⟨y, ys, rfl, h1, h2⟩ := h.cons_of
  rw [den_int.mp h1, t6 h2]
  rfl
theorem AQ {S : Hp} : ∀ {ks : List (List Int)} {xs : List V}, Dens K S (ks.map wl) xs -> (xs.zip ks).map (·.1) = xs /\ (xs.zip ks).map (·.2) = ks /\ (xs.zip ks).length = ks.length /\ ∀ yk ∈ xs.zip ks, Den K S (wl yk.2) yk.1
 | [], xs, h => by rw [h.nil_of]; exact ⟨rfl, rfl, rfl, fun _ h => by cases h⟩
 | k :: ks, xs, h => by
  obtain ⟨y, ys, rfl, h1, h2⟩ := h.cons_of
  obtain ⟨a, b, c, d⟩ := AQ h2
  refine ⟨by rw [Ro, Pt, a], by rw [Ro, Pt, b], by rw [Ro, Pu, c, Pu], fun yk hm => ?_⟩
  rw [Ro] at hm
  rcases Ps.mp hm with rfl | hm
  ·exact h1
  ·exact d yk hm
theorem nT {S : Hp} : ∀ {zks : List (V × List Int)}, (∀ yk ∈ zks, Den K S (wl yk.2) yk.1) -> Dens K S ((zks.map (·.2)).map wl) (zks.map (·.1))
 | [], _ => .nil
 | yk :: zks, h => .cons (h yk Pl) (nT fun z hz => h z (Pn _ hz))
theorem Gd : SRF K (Ao K) gD := fun S H vs ds g Q s d q k => by
 unfold gD at q
 split at q
 ·rename_i l
  split at q
  ·rename_i hl
   obtain ⟨v, rfl, d1⟩ := jE d
   obtain ⟨p, xs, rfl, h1, h2⟩ := d1.lst s
   cases qi : cX l with
   | some ns =>
    rw [qi] at q
    cases q
    obtain ⟨e1, e2⟩ := mX h2 qi
    subst e1 e2
    refine .inl ⟨p, ns, rfl, .inl h1, by rw [Ph] at hl; exact hl, fun ms a pm pw ha => ?_⟩
    rw [Cb pm pw]
    refine k a _ _ (Ext.own s ha) ha a6 ?_
    have key : ∀ ns : List Int, Dens K S (ns.map D.int) (ns.map V.int) := by
     intro ns
     induction ns with
     | nil => exact .nil
     | cons n ns ih => exact .cons (den_int.mpr rfl) ih
    exact key _
   | none =>
    rw [qi] at q
    dsimp only at q
    cases qk : keys l with
    | none => rw [qk] at q; cases q
    | some ks =>
     rw [qk] at q
     cases q
     obtain ⟨e1, e2⟩ := C2 qk
     subst e1
     obtain ⟨a, b, c, dd⟩ := AQ h2
     refine .inr ⟨p, xs.zip ks, rfl, by rw [a]; exact .inl h1, by rw [c]; rw [Ph] at hl; exact hl, fun yk hm => ?_, fun zks l pm pw hl => ?_⟩
     ·obtain ⟨q, ys, e, g1, g2⟩ := iY (dd yk hm)
      have := t6 g2
      subst this
      refine ⟨q, e, cv s g1, e2 _ ?_⟩
      rw [<- b]
      exact Pp.mpr ⟨yk, hm, rfl⟩
     ·have e : zks.map (·.2) = jc ks := by
       refine Cg ?_ ?_
       ·rw [<- b]; exact pm.map _
       ·rw [Qq]; exact pw
      have dz : Dens K S ((zks.map (·.2)).map wl) (zks.map (·.1)) := nT fun yk hm => dd yk (pm.mem_iff.mp hm)
      rw [e] at dz
      exact k l _ _ (Ext.own s hl) hl a6 dz
  ·cases q
 ·cases q
end
def xX : D -> D -> Option D := dI fun i j => some (.int (i + j))
section
variable {K : W.Frag}
theorem Ih : SR2 K (ipI fun i j => i + j) xX := FS (g := fun i j => .int (i + j)) fun i j d h => by cases h; rfl
end
theorem Kq {K : W.Frag} {ta : TE} {a : XE} (ha : SQ K ta a) : ST K (NI K ta) (yK a) := fun ρ σ S H Q b r x k => by
 unfold yK at x
 cases qa : a ρ with
 | none => rw [qa] at x; cases x
 | some da =>
  rw [qa] at x
  exact ha ρ σ S H _ da r qa fun v S1 H1 z1 d1 => ⟨b, JL (Same.refl H1) (.inl d1) x, k S1 H1 z1⟩
theorem Cm (g : XG) (m : XS) (d : D) (l : List D) (ρ : Env) : gn g m (d :: l) ρ = (g d ρ).bind fun ρ1 => match m ρ1 with
  | some (.nx ρ2) => gn g m l ρ2
  | some (.ct ρ2) => gn g m l ρ2
  | some (.bk ρ2) => some (.nx ρ2)
  | some (.rt d) => some (.rt d)
  | some (.ro d) => some (.ro d)
  | none => none := rfl
theorem kg {α : Type} {g : XG} {m : XS} (enc : α -> D) (P : List α -> Env -> Prop) (R : D -> Prop) (B : Env -> Prop) (l : List α) (ρ0 : Env) (h0 : P [] ρ0)
  (step : ∀ pre a post ρ, l = pre ++ a :: post -> P pre ρ -> ∃ ρ1 o, g (enc a) ρ = some ρ1 /\ m ρ1 = some o /\ (match o with | .nx ρ2 => P (pre ++ [a]) ρ2 | .ct ρ2 => P (pre ++ [a]) ρ2 | .bk ρ2 => B ρ2 | .rt d => R d | .ro _ => False)) :
  ∃ o, gn g m (l.map enc) ρ0 = some o /\ (match o with | .nx ρ' => P l ρ' \/ B ρ' | .rt d => R d | _ => False) := by
 have key : ∀ (post pre : List α) (ρ : Env), l = pre ++ post -> P pre ρ -> ∃ o, gn g m (post.map enc) ρ = some o /\ (match o with | .nx ρ' => P l ρ' \/ B ρ' | .rt d => R d | _ => False) := by
  intro post
  induction post with
  | nil =>
   intro pre ρ e p
   rw [P5] at e
   subst e
   exact ⟨_, rfl, .inl p⟩
  | cons a post ih =>
   intro pre ρ e p
   obtain ⟨ρ1, o, h1, h2, h3⟩ := step pre a post ρ e p
   rw [Pt, Cm, h1]
   dsimp only [Option.bind]
   rw [h2]
   cases o with
   | nx ρ2 => exact ih (pre ++ [a]) ρ2 (by rw [e, PQ]; rfl) h3
   | ct ρ2 => exact ih (pre ++ [a]) ρ2 (by rw [e, PQ]; rfl) h3
   | bk ρ2 => exact ⟨_, rfl, .inr h3⟩
   | rt d => exact ⟨_, rfl, h3⟩
   | ro d => exact h3.elim
 exact key l [] ρ0 rfl h0
theorem bw {α : Type} {g : XG} {m : XS} (enc : α -> D) (P : List α -> Env -> Prop) (l : List α) (ρ0 : Env) (h0 : P [] ρ0)
  (step : ∀ pre a post ρ, l = pre ++ a :: post -> P pre ρ -> ∃ ρ1 ρ2, g (enc a) ρ = some ρ1 /\ (m ρ1 = some (.nx ρ2) \/ m ρ1 = some (.ct ρ2)) /\ P (pre ++ [a]) ρ2) :
  ∃ ρ', gn g m (l.map enc) ρ0 = some (.nx ρ') /\ P l ρ' := by
 obtain ⟨o, h1, h2⟩ := kg (g := g) (m := m) enc P (fun _ => False) (fun _ => False) l ρ0 h0 fun pre a post ρ e p => by
  obtain ⟨ρ1, ρ2, k1, k2, k3⟩ := step pre a post ρ e p
  rcases k2 with k2 | k2
  ·exact ⟨ρ1, _, k1, k2, k3⟩
  ·exact ⟨ρ1, _, k1, k2, k3⟩
 cases o with
 | nx ρ' => exact ⟨ρ', h1, h2.elim id False.elim⟩
 | rt d => exact h2.elim
 | ro d => exact h2.elim
 | bk ρ' => exact h2.elim
 | ct ρ' => exact h2.elim
def fR (g : XG) (c : XT) (e : XE) (ρ0 : Env) (d : D) : Option (Option D) := (g d ρ0).bind fun ρ1 => (c ρ1).bind fun b => if b = true then (e ρ1).map some else some none
theorem mE {α : Type} {g : XG} {c : XT} {e : XE} {ρ0 : Env} (enc : α -> D) (f : α -> Option D) : ∀ (l : List α), (∀ a ∈ l, fR g c e ρ0 (enc a) = some (f a)) -> b6 g c e ρ0 (l.map enc) = some (l.filterMap f)
 | [], _ => rfl
 | a :: l, h => by
  have ih := mE (g := g) (c := c) (e := e) (ρ0 := ρ0) enc f l fun b hb => h b (Pn _ hb)
  have h1 := h a Pl
  unfold fR at h1
  rw [Pt, b6]
  cases q1 : g (enc a) ρ0 with
  | none => rw [q1] at h1; cases h1
  | some ρ1 =>
   rw [q1] at h1
   dsimp only [Option.bind] at h1 ⊢
   cases q2 : c ρ1 with
   | none => rw [q2] at h1; cases h1
   | some b =>
    rw [q2] at h1
    dsimp only at h1 ⊢
    cases b with
    | false =>
     rw [Pb (by decide)] at h1 ⊢
     rw [ih, QP]
     have : f a = none := (PX h1).symm
     rw [this]
    | true =>
     rw [Pa rfl] at h1 ⊢
     cases q3 : e ρ1 with
     | none => rw [q3] at h1; cases h1
     | some y =>
      rw [q3] at h1
      have : f a = some y := (PX h1).symm
      rw [ih, QP, this]
      rfl
theorem a8 {α : Type} {g : XG} {e : XE} {ρ0 : Env} (enc : α -> D) (f : α -> D) (l : List α) (h : ∀ a ∈ l, fR g cz e ρ0 (enc a) = some (some (f a))) : b6 g cz e ρ0 (l.map enc) = some (l.map f) := by
 rw [mE enc (fun a => some (f a)) l h]
 exact PH some (congrFun List.filterMap_eq_map' l)
theorem k8 {c : XT} {m : XS} (P : Env -> Prop) (μ : Env -> Nat) (E : Env -> Prop) (step : ∀ ρ, P ρ -> (c ρ = some false /\ E ρ) \/ (c ρ = some true /\ ∃ ρ2, m ρ = some (.nx ρ2) /\ P ρ2 /\ μ ρ2 < μ ρ)) (ρ0 : Env) (h0 : P ρ0) : ∃ ρ', ft c m ρ0 = some (.nx ρ') /\ E ρ' := by
 have key : ∀ (n : Nat) (ρ : Env), μ ρ = n -> P ρ -> ∃ ρ', ft c m ρ = some (.nx ρ') /\ E ρ' := by
  intro n
  induction n using Nat.strongRecOn with
  | ind n ih =>
   intro ρ hn p
   rcases step ρ p with ⟨h1, h2⟩ | ⟨h1, ρ2, h2, h3, h4⟩
   ·exact ⟨ρ, Cc h1, h2⟩
   ·obtain ⟨ρ', k1, k2⟩ := ih (μ ρ2) (by lia) ρ2 rfl h3
    exact ⟨ρ', Az h1 h2 k1, k2⟩
 exact key _ ρ0 rfl h0
abbrev prD (p : Int × Int) : D := .tup [.int p.1, .int p.2]
abbrev ci (r : List (Int × Int)) : D := .tup (r.map prD)
abbrev Bm (r : List (Int × Int)) : D := .lst (r.map prD)
@[simp] theorem kj {α : Type} (l : List α) (x : α) : atI (l ++ [x]) (-1) = some x := by
 unfold atI ixN
 rw [Pb (by decide), Pj, P8, Pa (by lia)]
 have : ((-1 : Int) + ((l.length + 1 : Nat) : Int)).toNat = l.length := by lia
 dsimp only [Option.bind]
 rw [this]
 simp
theorem gR {α : Type} {l : List α} {j : Nat} {x : α} (h : l[j]? = some x) : atI l (j : Int) = some x := by
 have := (Pw.mp h).1
 unfold atI ixN
 rw [Pa (by lia), Pa (by lia)]
 dsimp only [Option.bind]
 rw [Int.toNat_natCast]
 exact h
@[simp] theorem wV (l : List O) (x : O) (f : O -> O) : vQ (l ++ [x]) (-1) f = l ++ [f x] := by
 unfold vQ ixN
 rw [Pb (by decide), Pj, P8, Pa (by lia)]
 have : ((-1 : Int) + ((l.length + 1 : Nat) : Int)).toNat = l.length := by lia
 dsimp only
 rw [this]
 simp
@[simp] theorem K5 {α : Type} (l : List α) (a b : α) : atI (l ++ [a, b]) (-1) = some b := by
 have := kj (l ++ [a]) b
 rw [PQ] at this
 exact this
@[simp] theorem MP {α : Type} (a : α) : atI [a] (-1) = some a := kj [] a
@[simp] theorem Kn (l : List O) (a b : O) (f : O -> O) : vQ (l ++ [a, b]) (-1) f = l ++ [a, f b] := by
 have := wV (l ++ [a]) b f
 rw [PQ, PQ] at this
 exact this
@[simp] theorem Ms (a : O) (f : O -> O) : vQ [a] (-1) f = [f a] := wV [] a f
@[simp] theorem LQ (i : Int) : rL (.int i) = some (.int i) := rfl
@[simp] theorem MN (i : Bool) : rL (.bl i) = some (.bl i) := rfl
@[simp] theorem LO (i : Str) : rL (.str i) = some (.str i) := rfl
@[simp] theorem MB : rL .non = some .non := rfl
@[simp] theorem MI (a b : O) (f : O -> O) : vQ [a, b] 1 f = [a, f b] := rfl
theorem uI {n : Nat} : ixN (n + 1) (-1) = some n := by
 unfold ixN
 rw [Pb (by decide), Pa (by lia)]
 congr 1
 lia
section
variable (i j : Int) (a b : List D) (neg : Bool) (ρ : Env)
@[simp] theorem OA : e7 (.int i) (.int j) = some (.int (i - j)) := rfl
@[simp] theorem Ol : bU (.int i) (.int j) = some (.int (i + j)) := rfl
@[simp] theorem Nz : xX (.int i) (.int j) = some (.int (i + j)) := rfl
@[simp] theorem OS : dLt (.int i) (.int j) = some (.bl (decide (i < j))) := rfl
@[simp] theorem OI : dLe (.int i) (.int j) = some (.bl (decide (i <= j))) := rfl
@[simp] theorem O9 : dGt (.int i) (.int j) = some (.bl (decide (j < i))) := rfl
@[simp] theorem O6 : dGe (.int i) (.int j) = some (.bl (decide (j <= i))) := rfl
@[simp] theorem N8 : d9 (.int i) = some (.int (-i)) := rfl
@[simp] theorem Nu {i j : Int} (h : -18446744073709551616 < j /\ j < 18446744073709551616) : gP (.int i) (.int j) = some (.int (i * j)) := bP (.inr h)
@[simp] theorem Nb {i j : Int} (h : -18446744073709551616 < i /\ i < 18446744073709551616) : gP (.int i) (.int j) = some (.int (i * j)) := bP (.inl h)
@[simp] theorem Ov {i j : Int} (h : 0 < j /\ j < 1073741824) : lJ (.int i) (.int j) = some (.int (i / j)) := bP h
@[simp] theorem Ob {i j : Int} (h : 0 < j) : jS (.int i) (.int j) = some (.int (i % j)) := bP h
@[simp] theorem L6 {i j : Int} (h : 0 <= j /\ j <= 1000000 /\ i.natAbs < 18446744073709551616) : HE (.int i) (.int j) = some (.int (i ^ j.toNat)) := bP h
theorem uR : bU (.lst a) (.lst b) = if a.length + b.length <= LIM then some (.lst (a ++ b)) else none := rfl
theorem Kh : bU (.tup a) (.tup b) = if a.length + b.length <= LIM then some (.tup (a ++ b)) else none := rfl
@[simp] theorem Oe (d : D) : NK neg d .non = some (.bl (if neg then !ub d else ub d)) := rfl
@[simp] theorem LY : ub .non = true := rfl
@[simp] theorem Mb : ub (.int i) = false := rfl
@[simp] theorem K7 : ub (.tup a) = false := rfl
@[simp] theorem N9 : dIx (.lst a) (.int i) = atI a i := rfl
@[simp] theorem Ox : dIx (.tup a) (.int i) = atI a i := rfl
@[simp] theorem NZ : dIx (.scr a) (.int i) = atI a i := rfl
@[simp] theorem Nv : zP (.lst a) = some (!a.isEmpty) := rfl
@[simp] theorem Nj : zP (.tup a) = some (!a.isEmpty) := rfl
@[simp] theorem MV : zP (.scr a) = some (!a.isEmpty) := rfl
@[simp] theorem NM (x : Bool) : zP (.bl x) = some x := rfl
@[simp] theorem Nt : zP (.int i) = some (i != 0) := rfl
@[simp] theorem Nc : zP .non = some false := rfl
@[simp] theorem M4 : pp [.lst a] = some (.int a.length) := rfl
@[simp] theorem NL : pp [.tup a] = some (.int a.length) := rfl
@[simp] theorem NF : pp [.scr a] = some (.int a.length) := rfl
@[simp] theorem Nl : fY [.lst a] = some (.tup a) := rfl
@[simp] theorem Ng : fY [.tup a] = some (.tup a) := rfl
@[simp] theorem NP : FU [.lst a] = some a := rfl
@[simp] theorem No : FU [.tup a] = some a := rfl
@[simp] theorem M7 : FU [.scr a] = some a := rfl
@[simp] theorem NR : uW [.int i, .int j] = some (.int (if j > i then j else i)) := rfl
@[simp] theorem N6 : xm [.int i, .int j] = some (.int (if j < i then j else i)) := rfl
@[simp] theorem Ow : LW [.int i] = some (.int i) := rfl
@[simp] theorem MR (x : Bool) : LW [.bl x] = some (.int (if x then 1 else 0)) := rfl
@[simp] theorem NO : lI (.lst a) = some a := rfl
@[simp] theorem NA : lI (.tup a) = some a := rfl
@[simp] theorem NH : lI (.scr a) = some a := rfl
@[simp] theorem Ou (lo hi : Option Int) : dSl (.lst a) lo hi = some (.lst (gM a lo hi)) := rfl
@[simp] theorem NW (lo hi : Option Int) : dSl (.tup a) lo hi = some (.tup (gM a lo hi)) := rfl
@[simp] theorem Oj (lo hi : Option Int) : dSl (.scr a) lo hi = some (.lst (gM a lo hi)) := rfl
@[simp] theorem OT (y : XGs) : aM y (.tup a) ρ = y a ρ := rfl
@[simp] theorem OL (x : XG) (y : XGs) (d : D) : aj x y (d :: a) ρ = (x d ρ).bind (y a) := rfl
@[simp] theorem OP : aL [] ρ = some ρ := rfl
@[simp] theorem NC : wa [.int i, .ty "int"] = some (.bl true) := rfl
@[simp] theorem M3 : wa [.int i, .ty "bool"] = some (.bl false) := rfl
@[simp] theorem Ny : wa [.tup a, .ty "tuple"] = some (.bl true) := rfl
@[simp] theorem Nf : wa [.lst a, .ty "list"] = some (.bl true) := rfl
@[simp] theorem MQ (x : Bool) : wa [.bl x, .ty "bool"] = some (.bl true) := rfl
theorem Jl {j : Int} (h : 0 <= j /\ j < 1000000) : DH [.int 0, .int j, .int 2] = some (fQ 0 ((j + 1) / 2).toNat) := bP ⟨rfl, rfl, h⟩
end
abbrev owl (l : List D) : Sl := .ow (.lst (l.map O.sh))
@[simp] theorem Mg (os : List O) : Fg (.ow (.lst os)) = (shs os).map D.lst := rfl
@[simp] theorem MG : shs [] = some [] := rfl
@[simp] theorem A9 (d : D) (l : List O) : shs (.sh d :: l) = (shs l).map fun r => d :: r := rfl
@[simp] theorem Lk (l : List D) : shs (l.map O.sh) = some l := tF l
@[simp] theorem FN {α : Type} (f : α -> D) (l : List α) : shs (l.map (O.sh ∘ f)) = some (l.map f) := by rw [<- PC]; exact tF _
@[simp] theorem Mz {α : Type} (f : α -> D) (l : List α) : shs (l.map fun a => O.sh (f a)) = some (l.map f) := FN f l
@[simp] theorem HI : ∀ (a b : List O), shs (a ++ b) = (shs a).bind fun x => (shs b).map fun y => x ++ y
 | [], b => by cases h : shs b <;> simp [h]
 | .sh d :: a, b => by
  rw [List.cons_append, A9, A9, HI a b]
  cases shs a with
  | none => rfl
  | some x => cases shs b <;> rfl
 | .dic _ :: _, _ => rfl
 | .lst _ :: a, b => rfl
 | .tup _ :: a, b => rfl
@[simp] theorem Mp (o : O) : eV o [] = some o := by unfold eV; rfl
@[simp] theorem Lg (l : List O) (k : Int) (r : List Int) : eV (.lst l) (k :: r) = (atI l k).bind fun o => eV o r := rfl
@[simp] theorem MC (l : List O) (k : Int) (r : List Int) : eV (.tup l) (k :: r) = (atI l k).bind fun o => eV o r := rfl
@[simp] theorem LS (o q : O) : k6 o [] q = q := by unfold k6; rfl
@[simp] theorem Mh (l : List O) (k : Int) (r : List Int) (q : O) : k6 (.lst l) (k :: r) q = .lst (vQ l k fun o => k6 o r q) := rfl
@[simp] theorem L3 (l : List O) (k : Int) (r : List Int) (q : O) : k6 (.tup l) (k :: r) q = .tup (vQ l k fun o => k6 o r q) := rfl
@[simp] theorem MT (d : D) : O.d (.sh d) = d := by unfold O.d; rfl
@[simp] theorem MF (l : List O) : O.d (.lst l) = .lst (O.ds l) := by rw [O.d]
@[simp] theorem MJ (l : List O) : O.d (.tup l) = .tup (O.ds l) := by rw [O.d]
@[simp] theorem LZ : O.ds [] = [] := by rw [O.ds]
@[simp] theorem DP (o : O) (l : List O) : O.ds (o :: l) = o.d :: O.ds l := by rw [O.ds]
@[simp] theorem Gf : ∀ (a b : List O), O.ds (a ++ b) = O.ds a ++ O.ds b
 | [], b => by simp
 | o :: a, b => by simp [Gf a b]
@[simp] theorem zD : ∀ l : List D, O.ds (l.map O.sh) = l
 | [] => by simp
 | d :: l => by simp [zD l]
@[simp] theorem K6 {α : Type} (f : α -> D) (l : List α) : O.ds (l.map (O.sh ∘ f)) = l.map f := by rw [<- PC]; exact zD _
@[simp] theorem Og {α : Type} (a b : α) : atI [a, b] 0 = some a := rfl
@[simp] theorem Oc {α : Type} (a b : α) : atI [a, b] 1 = some b := rfl
@[simp] theorem N5 {α : Type} (a b c : α) : atI [a, b, c] 0 = some a := rfl
@[simp] theorem Om {α : Type} (a b c : α) : atI [a, b, c] 1 = some b := rfl
@[simp] theorem Oh {α : Type} (a b c : α) : atI [a, b, c] 2 = some c := rfl
theorem gu : LIM = 1000000 := by unfold LIM; rfl
@[simp] theorem OK : (0 : Nat) <= LIM := PY _
@[simp] theorem O3 : (1 : Nat) <= LIM := by rw [gu]; decide
@[simp] theorem O8 : (2 : Nat) <= LIM := by rw [gu]; decide
@[simp] theorem O4 : (3 : Nat) <= LIM := by rw [gu]; decide
@[simp] theorem OH : (4 : Nat) <= LIM := by rw [gu]; decide
@[simp] theorem OM : (5 : Nat) <= LIM := by rw [gu]; decide
@[simp] theorem OJ : (6 : Nat) <= LIM := by rw [gu]; decide
@[simp] theorem OX : (7 : Nat) <= LIM := by rw [gu]; decide
@[simp] theorem OE : (8 : Nat) <= LIM := by rw [gu]; decide
@[simp] theorem OG : (9 : Nat) <= LIM := by rw [gu]; decide
@[simp] theorem Ot : (10 : Nat) <= LIM := by rw [gu]; decide
@[simp] theorem NY : (0 : Nat) < LIM := by rw [gu]; decide
theorem KP (p q : Int × Int) : eqD (prD p) (prD q) = decide (p = q) := by
 obtain ⟨a, b⟩ := p
 obtain ⟨c, d⟩ := q
 simp [prD, eqD, eqDs, Prod.ext_iff]
 by_cases h1 : a = c <;> by_cases h2 : b = d <;> simp [h1, h2]
theorem zY : ∀ r t : List (Int × Int), eqDs (r.map prD) (t.map prD) = decide (r = t)
 | [], [] => rfl
 | [], _ :: _ => by simp [eqDs]
 | _ :: _, [] => by simp [eqDs]
 | p :: r, q :: t => by
  rw [Pt, Pt, eqDs, KP, zY r t]
  by_cases h1 : p = q <;> by_cases h2 : r = t <;> simp [h1, h2]
theorem HK (r t : List (Int × Int)) : eqD (ci r) (ci t) = decide (r = t) := by
 unfold ci
 rw [eqD, zY]
theorem tW (n : Nat) : ∀ r : List (Int × Int), okDs (n + 1) (r.map prD) = true
 | [] => by simp [okDs]
 | p :: r => by rw [Pt, okDs, tW n r]; simp [prD, okD, okDs]
theorem DB (r : List (Int × Int)) : okD 50 (ci r) = true := by
 unfold ci
 rw [okD]
 exact tW 48 r
theorem Ii (neg : Bool) (r t : List (Int × Int)) : dEq neg (ci r) (ci t) = some (.bl (if neg then !decide (r = t) else decide (r = t))) := by
 unfold dEq
 rw [Pa ⟨DB r, DB t⟩, HK]
@[simp] theorem MK (neg : Bool) (i j : Int) : dEq neg (.int i) (.int j) = some (.bl (if neg then !decide (i = j) else decide (i = j))) := by
 unfold dEq
 rw [Pa ⟨by simp [okD], by simp [okD]⟩]
 have : eqD (.int i) (.int j) = decide (i = j) := by simp [eqD]; by_cases h : i = j <;> simp [h]
 rw [this]
@[simp] theorem M1 (neg : Bool) (i j : Bool) : dEq neg (.bl i) (.bl j) = some (.bl (if neg then !decide (i = j) else decide (i = j))) := by
 unfold dEq
 rw [Pa ⟨by simp [okD], by simp [okD]⟩]
 have : eqD (.bl i) (.bl j) = decide (i = j) := by simp [eqD]; by_cases h : i = j <;> simp [h]
 rw [this]
theorem xc {K : W.Frag} {S : Hp} : ∀ ns : List Int, Dens K S (ns.map D.int) (ns.map V.int)
 | [] => .nil
 | n :: ns => .cons (den_int.mpr rfl) (xc ns)
theorem DZ {K : W.Frag} {H : Hp} {a : Addr} {ns : List Int} {m : List D -> Option O} {E : XK} (hS : SqL K H a (ns.map V.int)) (h : (m [.scr (ns.map D.int)]).map O.d = some (.bl true)) : b9 K 1 m [.ref a] H (fun v _ => v = .bl true) E := by
 cases q : m [.scr (ns.map D.int)] with
 | none => rw [q] at h; cases h
 | some o =>
  rw [q] at h
  have e : o.d = .bl true := PX h
  exact ⟨rfl, H, [.scr (ns.map D.int)], o, Same.refl _, .cons (den_scr.mpr ⟨a, _, rfl, hS, xc ns⟩) .nil, q, fun v fp S' H' z ow _ _ => by
   have dv := ow.denH z.sub
   rw [e] at dv
   exact den_bl.mp dv⟩
end M
namespace L2
open PySem PySem.Spec PyProof.Rows
theorem kA : bootBuiltins "len" = some (.builtin "len") := by decide +kernel
theorem jY : bootBuiltins "sorted" = some (.builtin "sorted") := by decide +kernel
theorem vH : bootBuiltins "max" = some (.builtin "max") := by decide +kernel
theorem vM : bootBuiltins "min" = some (.builtin "min") := by decide +kernel
theorem nL : bootBuiltins "isinstance" = some (.builtin "isinstance") := by decide +kernel
theorem eZ : bootBuiltins "tuple" = some (.type "tuple") := by decide +kernel
theorem HG : bootBuiltins "bool" = some (.type "bool") := by decide +kernel
section
variable {X : Cx}
theorem mZ {K : W.Frag} {t T : String} (ht : t ∈ ["NoneType", "bool", "int", "str", "list", "tuple"]) (hT : T ∈ ["bool", "int", "str", "list", "tuple"]) : W.kitOne K (.type t) (.type T) = some (M.FO t T) := by
 simp only [Ps, List.not_mem_nil, or_false] at ht hT
 rcases ht with rfl | rfl | rfl | rfl | rfl | rfl <;> rcases hT with rfl | rfl | rfl | rfl | rfl <;> kernel_rfl
theorem AK : ∀ a b : List Int, Srt.i7 a b = HT.cK a b
 | [], [] => rfl
 | [], _ :: _ => rfl
 | _ :: _, [] => rfl
 | x :: xs, y :: ys => by
  rw [HT.B3, <- AK xs ys]
  rfl
end
end L2
namespace Rev
open PySem
section
variable {prog : Program} {w : World} {A : Around} {s : Shared} {R : Result -> Shared -> Prop} {I : Addr} {fp wr : List Addr} {G : Array GenState -> Array GenState -> Prop} {n : Nat} {P : Nat -> Value -> Prop} {St : Nat -> Shared -> Prop}
end
section
variable {prog : Program} {w : World} {A : Around} {E : Value -> Shared -> Prop} {s : Shared} {I : Addr} {fp wr : List Addr} {G : Array GenState -> Array GenState -> Prop} {n : Nat} {P : Nat -> Value -> Prop} {St : Nat -> Shared -> Prop}
end
end Rev
namespace L2
open PySem PySem.Spec PyProof.Rows
theorem zX : bootBuiltins "reversed" = some (.type "reversed") := by decide +kernel
section
variable {X : Cx} {tg : Expr}
theorem aX {l : Expr} {tl : TE} (hl : PE X l tl) : PI X tg l (Kj X.K tl) := by
 intro pins s σ H R I h
 refine thn (hl pins s σ H _ I h) fun v s1 h1 => ?_
 obtain ⟨x, H1, I1, r1, a, e, q⟩ := h1
 subst e
 cases r1
 rcases q with ⟨⟨xs, hq⟩, q⟩ | ⟨⟨xs, hq⟩, q⟩
 ·obtain ⟨its, rv, p, hz⟩ := I1.list hq
  refine wpAny_pyIter_list p.isList ⟨s1.heap.objs.size, [s1.heap.objs.size], _, _, H1, rfl, I1.kept (t' := s1.toks) fun b o e => Px _ e, EO a _, ⟨_, PV _ rfl, rfl, rfl⟩, fun b hb => ?_, q⟩
  rw [Pg.mp hb]
  exact I1.fpOk (Pi _) I1.fresh
 ·obtain ⟨its, rv, p, hz⟩ := I1.tuple hq
  refine wpAny_pyIter_tuple (show s1.heap.IsTuple a its.toArray from p) ⟨s1.heap.objs.size, [s1.heap.objs.size], _, _, H1, rfl, I1.kept (t' := s1.toks) fun b o e => Px _ e, Cn a _, ⟨_, PV _ rfl, rfl, rfl⟩, fun b hb => ?_, q⟩
  rw [Pg.mp hb]
  exact I1.fpOk (Pi _) I1.fresh
end
section
variable {X : Cx} {tg : Expr}
theorem xn : ∀ {vs : List Value} {ns : List Int}, IntsAre vs ns -> Vals (ns.map V.int) vs
 | _, _, .nil => .nil
 | _, _, .cons n t h => .cons ⟨t, rfl⟩ (xn h)
theorem call_sortedI : CallR X (.builtin "sorted") (Af X.K) := by
 intro pins s σ H xs us Q I r h
 obtain ⟨p, ns, rfl, hS, h64, k⟩ := h
 obtain ⟨u, rfl, ru⟩ := r.one
 cases ru
 obtain ⟨its, rv, pl, hz⟩ := I.list hS
 have hI : IntsAre its ns := kN rv
 have hl : its.length = ns.length := by have := rv.length; rw [Ph] at this; exact this.symm
 refine Srt.yy pl.isList hI (by rw [Qb]; lia) fun out ms ho perm pw => ?_
 obtain ⟨e, at1⟩ := sortedAll_at s.heap its out
 have fresh : s.heap.objs.size <= s.heap.objs.size + 1 := Nat.le_succ _
 refine ⟨.ref (s.heap.objs.size + 1), upd H (s.heap.objs.size + 1) (.lst (ms.map V.int)), I.laid (t' := s.toks) (fun b o hb => sortedAll_old hb) fresh ?_, rfl, k ms _ perm pw (I.hok.fresh fresh)⟩
 exact ⟨by rw [Ph, perm.length_eq, Qb]; lia, out.toList, e, xn ho, by simpa using at1⟩
theorem EG {j : Int} (h0 : 0 <= j) (h1 : j < 1000000) : Builtin.Range.small 0 j 2 = true := by
 unfold Builtin.Range.small
 rw [rangeSize_pos (by decide) h0]
 simp only [Builtin.Range.rangeFitsLong, Qp, Bool.or_eq_true, QU, Qo, show (2 : Int) > 0 by decide, if_true]
 have e : (2 : Int) ^ 63 = 9223372036854775808 := by decide
 lia
theorem G9 {P : Program} {w : World} {K : W.Frag} (it : Addr) (n : Nat) : Turn P w K tg (K0 n) [it] it (fun i h => IsRangeIter h it (0 + (i : Nat) * 2) ((n : Int) - (i : Nat)) 2) where
 mem := by simp
 obj := fun i h st b hb => by
  rw [Pg.mp hb]
  exact ⟨_, st, fun v z => by have z' : Data.fields _ = Data.cell v := z; cases z'⟩
 keep := fun i h h' st k => k it (by simp) _ st
 item := by
  intro X hP hw hK hc i pins s σ H E I hf st hg
  subst hP hw hK
  obtain ⟨f0, f1, f2, f3, f4, f5⟩ := hf it (by simp)
  refine (Walks.range (prog := X.prog) (w := X.w) (I.ok.hd hc) it 0 2 n).item i s _ _ hg st fun v h' tk hv st' kk => ?_
  obtain ⟨t, rfl⟩ := hv
  have I1 : Inv X pins σ H { s with heap := h', toks := tk } := I.turned (fun b o hb e => kk b o (fun z => hb (Pg.mp z)) e) f0 f1 f3 f4 f5
  refine ⟨_, rfl, xP (s := { s with heap := h', toks := tk }) (n := "range_iterator") st' rfl rfl (by decide) ⟨.int (2 * i), H, I1, ⟨t, ?_⟩, ⟨rfl, rfl⟩, st', fun b hb => (hf b hb).1⟩⟩
  rw [Int.zero_add, Int.mul_comm]
 done := by
  intro X hP hw hK hc i pins s σ H E I hf st hg
  subst hP hw hK
  obtain ⟨f0, f1, f2, f3, f4, f5⟩ := hf it (by simp)
  exact RF (I.ok.hd hc) st (by have : n <= i := hg; lia) fun h' eb => ⟨rfl, I.turned (t' := s.toks) (fun b o hb e => eb b o hb e) f0 f1 f3 f4 f5⟩
 self := fun _ _ _ _ _ st h => RG st h
theorem KK {pins : List (Addr × Obj)} {σ : St} {H : Hp} {s : Shared} {R : It -> Hp -> Prop} {E : Value -> Shared -> Prop} {j : Int} {t u v : Tok} {tk : Nat} (I : Inv X pins σ H s) (h1 : 0 <= j) (h2 : j < 1000000) (q : R (K0 ((j + 1) / 2).toNat) H) :
  wpAny (model X.prog X.w) X.A (pyIter (.ref s.heap.objs.size)) (PIE X pins σ tg R) E { s with heap := s.heap.push { cls := .type "range", data := .fields #[.int 0 t, .int j u, .int 2 v] }, toks := tk } := by
 refine wpAny_pyIter_range (IsRange.new ..) (EG h1 h2) ?_
 have I1 : Inv X pins σ H { s with heap := s.heap.push { cls := .type "range", data := .fields #[.int 0 t, .int j u, .int 2 v] }, toks := tk } := I.kept fun b o e => Px _ e
 refine ⟨(s.heap.push { cls := .type "range", data := .fields #[.int 0 t, .int j u, .int 2 v] }).objs.size, [(s.heap.push { cls := .type "range", data := .fields #[.int 0 t, .int j u, .int 2 v] }).objs.size], _, _, H, rfl, I1.kept (t' := tk) fun b o e => Px _ e, G9 _ ((j + 1) / 2).toNat, ?_, fun b hb => ?_, q⟩
 ·have e1 : (0 : Int) + ((0 : Nat) : Int) * 2 = 0 := by simp
  have e2 : ((((j + 1) / 2).toNat : Nat) : Int) - ((0 : Nat) : Int) = Builtin.Range.rangeSize 0 j 2 := by rw [rangeSize_pos (by decide) h1]; lia
  show IsRangeIter _ _ (0 + ((0 : Nat) : Int) * 2) (((((j + 1) / 2).toNat : Nat) : Int) - ((0 : Nat) : Int)) 2
  rw [e1, e2]
  exact PV _ rfl
 ·rw [Pg.mp hb]
  exact I1.fpOk (Pi _) I1.fresh
theorem DK {a b c : Expr} {ta : TA} {p pos : Pos} (hg : Gl X "range") (hm : X.mg "range" = none) (ha : PA X [a, b, c] ta) (hs : starEach [a, b, c] X.env = (false, eval a X.env) :: starEach [b, c] X.env := by rfl)
  (hp : (backTo pos (starEach [b, c] X.env)).any (·.1) = false := by rfl) : PI X tg (.Call (.Name "range" p) [a, b, c] [] pos) (IJ ta) := by
 intro pins s σ H R I h
 refine Call_ (oS I hg hm boot_range (Rc (thn (ha pos pins s σ H _ I h) fun us s1 h1 => ?_) hs hp))
 obtain ⟨vs, H1, I1, r1, j, rfl, q1, q2, q⟩ := h1
 cases r1 with
 | cons r rr =>
  cases rr with
  | cons r' rr =>
   cases rr with
   | cons r'' rr =>
    cases rr
    obtain ⟨t, rfl⟩ := r
    obtain ⟨t', rfl⟩ := r'
    obtain ⟨t'', rfl⟩ := r''
    exact call_range_3 (by decide) (KK I1 q1 q2 q)
end
end L2
namespace HT
open PySem PySem.Spec PyProof.Rows
section
variable {prog : Program} {w : World} {A : Around} {E : Value -> Shared -> Prop} {s : Shared}
theorem nk {t sl : Addr} {items : Array Value} {vl vu : Value} {lo hi : Option Int} {Q : Value -> Shared -> Prop} (ht : IsTup s.heap t items) (hs : s.heap.IsSliceOf sl vl vu .none) (pl : IsPart vl lo) (pu : IsPart vu hi)
  (hw : sIx items.size 0 lo = 0 /\ sIx items.size items.size hi = items.size) (h : Q (.ref t) s) : wpAny (model prog w) A (getItem (.ref t) (.ref sl)) Q E s := by
 obtain ⟨os, hos, hcs, hds⟩ := id hs
 have hTs : s.TypeIs (.ref sl) "slice" := ⟨os, hos, hcs⟩
 unfold getItem
 try with_reducible refine QQ ?_
 first | refine Pf (Pm ?_) | skip
 refine Pf (wpAny_sequenceKey ht.typeIs (by decide) ?_)
 refine Pf (Ru (name := Str.ofString "__getitem__") ht.typeIs Q4
  (Q5 Q4 ht.typeIs entry_tuple_getitem ?_ (args_tuple_getitem _ _)))
 show wpAny _ _ (Builtin.Tuple.tupleItemsOf (.ref t) >>= _) _ _ s
 refine Pf (tupleItemsOf_ ht ?_)
 refine Pf (wpAny_typeOf hTs ?_)
 rw [Pa (by decide)]
 refine Pf (kh hs pl pu ?_)
 have hyes : ((((sIx items.size 0 lo : Nat) : Int) == 0 && (1 : Int) == 1 && (sIx items.size items.size hi - sIx items.size 0 lo) == items.size) = true) := by
  rw [hw.1, hw.2]
  simp
 show wpAny _ _ (if (((sIx items.size 0 lo : Nat) : Int) == 0 && (1 : Int) == 1 && (sIx items.size items.size hi - sIx items.size 0 lo) == items.size) = true then _ else _) _ _ s
 rw [Pa hyes]
 refine Pf (m := Builtin.Tuple.tupleIsExact _) (Pf (wpAny_typeOf ht.typeIs (Pm ?_)))
 rw [Pa (by decide)]
 exact Pf (Qz (Pm ⟨_, rfl, Pm h⟩))
end
end HT
namespace L2
open PySem PySem.Spec PyProof.Rows M
theorem Inv.rdl {X : Cx} {pins : List (Addr × Obj)} {σ : St} {H : Hp} {s : Shared} {l : Addr} {xs : List V} (I : Inv X pins σ H s) (h : Rd H l (.lst xs)) : xs.length <= sizeLine /\ ∃ (its : List Value) (n : Nat), Vals xs its /\ xs.length = its.length /\ s.heap.get? l = some { cls := .type "list", data := .seq its.toArray n } := by
 obtain ⟨h1, its, n, r, e⟩ := (show ObjOk X.prog X.w H s.heap l (.lst xs) from h.ok I.hok)
 exact ⟨h1, its, n, r, r.length, e⟩
section
variable {X : Cx}
theorem op_catM : OpR X (binaryOp .Add) IK := by
 intro pins s σ H x y v u Q I rx ry h
 obtain ⟨l, b, xs, zs, rfl, rfl, hH, hB, hz, q⟩ := h
 cases rx
 cases ry
 obtain ⟨z, its, n, r, hl, e⟩ := I.rdl hH
 obtain ⟨z2, its2, n2, r2, hl2, e2⟩ := I.rdl hB
 refine PySem.P.add_list e e2 ?_ (by rw [Py, Py]; lia)
 have ea : its.toArray ++ its2.toArray = (its ++ its2).toArray := by simp
 rw [ea]
 exact ⟨.ref _, _, I.lnew (t' := s.toks) (r.append r2) (by rw [Pj]; lia), rfl, q _ I.fresh⟩
theorem op_tupM : OpR X (binaryOp .Add) (IB X.K) := by
 intro pins s σ H x y v u Q I rx ry h
 obtain ⟨a, b, xs, ys, rfl, rfl, ha, hb, hz, q1, q2, q⟩ := h
 cases rx
 cases ry
 obtain ⟨its, r1, p1, _⟩ := I.tuple ha
 obtain ⟨its2, r2, p2, _⟩ := I.tuple hb
 have hz2 : its.length + its2.length <= sizeLine := by rw [<- r1.length, <- r2.length]; exact hz
 by_cases hv : its = []
 ·have hx : xs = [] := r1.nil_iff.mp hv
  obtain ⟨⟨cls, dd, data, sl⟩, ho, hc, n, hd⟩ := id p1
  obtain ⟨⟨cls2, dd2, data2, sl2⟩, ho2, hc2, n2, hd2⟩ := id p2
  simp only at hc hd hc2 hd2; subst hc hd hc2 hd2
  exact concat_meets ⟨_, ho, rfl⟩ ⟨_, ho2, rfl⟩ noFill_tuple_add seq_tuple_add RI RJ (RK (.ref a) (.ref b)) (tuple_addW0 a b its.toArray its2.toArray n n2 dd dd2 sl sl2 (by simp [hv])) ⟨ho, ho2, ⟨.ref b, H, I, rfl, q2 hx⟩⟩
 ·refine HT.HL p1 p2 hv (fun z => ⟨.ref a, H, I, rfl, q1 (r2.nil_iff.mp z)⟩) (fun z => ?_) hz2
  refine ⟨.ref s.heap.objs.size, _, I.laid (t' := s.toks) (o := .tup (xs ++ ys)) (fun b ob e => Px _ e) (Pi _) ?_, rfl, q _ (I.hok.fresh (Pi _))⟩
  exact ⟨by rw [Pj]; exact hz, _, r1.append r2, IsTup.new _ _⟩
theorem HP : OpR X (binaryOp .Add) IZ := BF
theorem aQ : OpR X (binaryOp .Add) (IL X.K) := op_add.or (op_catM.or (op_tupM.or HP))
mutual
def pyD : D -> PyData
 | .non => .none
 | .bl b => .bool b
 | .int i => .int i
 | .str x => .str x
 | .lst l => .list (pyDs l)
 | .tup l => .tuple (pyDs l)
 | _ => .none
def pyDs : List D -> List PyData
 | [] => []
 | d :: l => pyD d :: pyDs l
end
mutual
theorem ua : ∀ (n : Nat) (d : D), okD n d = true -> (pyD d).canLay0 = true /\ (pyD d).depth <= n
 | _, .non, _ => by simp [pyD, PyData.canLay0, PyData.depth]
 | _, .bl _, _ => by simp [pyD, PyData.canLay0, PyData.depth]
 | _, .int _, _ => by simp [pyD, PyData.canLay0, PyData.depth]
 | n, .str x, h => by
  have h' : PyData.strOk x = true := by cases n <;> simpa [okD] using h
  simp [pyD, PyData.canLay0, PyData.depth, h']
 | 0, .lst l, h => by simp [okD] at h
 | n + 1, .lst l, h => by
  obtain ⟨a, b⟩ := za n l (by simpa [okD] using h)
  simp only [pyD, PyData.canLay0, PyData.depth]
  exact ⟨a, by lia⟩
 | 0, .tup l, h => by simp [okD] at h
 | n + 1, .tup l, h => by
  obtain ⟨a, b⟩ := za n l (by simpa [okD] using h)
  simp only [pyD, PyData.canLay0, PyData.depth]
  exact ⟨a, by lia⟩
 | n, .ty _, h => by cases n <;> simp [okD] at h
 | n, .scr _, h => by cases n <;> simp [okD] at h
 | n, .ins _ _ _, h => by cases n <;> simp [okD] at h
theorem za : ∀ (n : Nat) (l : List D), okDs n l = true -> PyData.canLayAll0 (pyDs l) = true /\ PyData.depthAll (pyDs l) <= n
 | _, [], _ => by simp [pyDs, PyData.canLayAll0, PyData.depthAll]
 | n, d :: l, h => by
  rw [okDs, Qp] at h
  obtain ⟨a, b⟩ := ua n d h.1
  obtain ⟨c, e⟩ := za n l h.2
  simp only [pyDs, PyData.canLayAll0, PyData.depthAll, a, c]
  exact ⟨rfl, by lia⟩
end
mutual
theorem CC : ∀ (n m : Nat) (d e : D), okD n d = true -> okD m e = true -> PyData.eqv (pyD d) (pyD e) = eqD d e
 | n, m, .non, e, _, he => by cases e <;> first | (simp [pyD, PyData.eqv, eqD]; done) | (cases m <;> simp [okD] at he)
 | n, m, .bl _, e, _, he => by cases e <;> first | (simp [pyD, PyData.eqv, eqD]; done) | (cases m <;> simp [okD] at he)
 | n, m, .int _, e, _, he => by cases e <;> first | (simp [pyD, PyData.eqv, eqD]; done) | (cases m <;> simp [okD] at he)
 | n, m, .str _, e, _, he => by cases e <;> first | (simp [pyD, PyData.eqv, eqD]; done) | (cases m <;> simp [okD] at he)
 | 0, m, .lst _, e, hd, he => by simp [okD] at hd
 | n + 1, m, .lst l, e, hd, he => by
  cases e with
  | lst l' =>
   cases m with
   | zero => simp [okD] at he
   | succ m =>
    simp only [pyD, PyData.eqv, eqD]
    exact eqvs_is n m l l' (by simpa [okD] using hd) (by simpa [okD] using he)
  | _ => first | (simp [pyD, PyData.eqv, eqD]; done) | (cases m <;> simp [okD] at he)
 | 0, m, .tup _, e, hd, he => by simp [okD] at hd
 | n + 1, m, .tup l, e, hd, he => by
  cases e with
  | tup l' =>
   cases m with
   | zero => simp [okD] at he
   | succ m =>
    simp only [pyD, PyData.eqv, eqD]
    exact eqvs_is n m l l' (by simpa [okD] using hd) (by simpa [okD] using he)
  | _ => first | (simp [pyD, PyData.eqv, eqD]; done) | (cases m <;> simp [okD] at he)
 | n, _, .ty _, _, h, _ => by cases n <;> simp [okD] at h
 | n, _, .scr _, _, h, _ => by cases n <;> simp [okD] at h
 | n, _, .ins _ _ _, _, h, _ => by cases n <;> simp [okD] at h
theorem eqvs_is : ∀ (n m : Nat) (l l' : List D), okDs n l = true -> okDs m l' = true -> PyData.eqvAll (pyDs l) (pyDs l') = eqDs l l'
 | _, _, [], [], _, _ => by simp [pyDs, PyData.eqvAll, eqDs]
 | _, _, [], _ :: _, _, _ => by simp [pyDs, PyData.eqvAll, eqDs]
 | _, _, _ :: _, [], _, _ => by simp [pyDs, PyData.eqvAll, eqDs]
 | n, m, d :: l, e :: l', hd, he => by
  rw [okDs, Qp] at hd he
  rw [pyDs, pyDs, PyData.eqvAll, eqDs, CC n m d e hd.1 he.1, eqvs_is n m l l' hd.2 he.2]
end
mutual
theorem ke {pins : List (Addr × Obj)} {σ : St} {H : Hp} {s : Shared} (I : Inv X pins σ H s) : ∀ (n : Nat) {d : D} {x : V} {v : Value}, okD n d = true -> Den X.K H d x -> RelV x v -> ∃ as, Reads s.heap v (pyD d) as
 | _, .non, x, v, _, dx, r => by rw [den_non.mp dx] at r; cases r; exact ⟨_, .none⟩
 | _, .bl b, x, v, _, dx, r => by rw [den_bl.mp dx] at r; cases r; exact ⟨_, .bool b⟩
 | _, .int i, x, v, _, dx, r => by rw [den_int.mp dx] at r; obtain ⟨t, rfl⟩ := r; exact ⟨_, .int i t⟩
 | _, .str y, x, v, _, dx, r => by rw [den_str.mp dx] at r; obtain ⟨t, rfl⟩ := r; exact ⟨_, .str y t⟩
 | 0, .lst _, x, v, h, dx, r => by simp [okD] at h
 | n + 1, .lst l, x, v, h, dx, r => by
  obtain ⟨p, xs, rfl, hp, ds⟩ := den_lst.mp dx
  cases r
  obtain ⟨_, its, k, rv, _, e⟩ := I.rdl hp
  obtain ⟨as, ra⟩ := dens_reads I n (by simpa [okD] using h) ds rv
  exact ⟨_, .list e rfl rfl (by simpa using ra)⟩
 | 0, .tup _, x, v, h, dx, r => by simp [okD] at h
 | n + 1, .tup l, x, v, h, dx, r => by
  obtain ⟨p, xs, rfl, hp, ds⟩ := iY dx
  cases r
  obtain ⟨its, rv, ⟨o, e, c, k, d⟩, _⟩ := I.tuple hp
  obtain ⟨as, ra⟩ := dens_reads I n (by simpa [okD] using h) ds rv
  exact ⟨_, .tuple e c d (by simpa using ra)⟩
 | n, .ty _, _, _, h, _, _ => by cases n <;> simp [okD] at h
 | n, .scr _, _, _, h, _, _ => by cases n <;> simp [okD] at h
 | n, .ins _ _ _, _, _, h, _, _ => by cases n <;> simp [okD] at h
theorem dens_reads {pins : List (Addr × Obj)} {σ : St} {H : Hp} {s : Shared} (I : Inv X pins σ H s) : ∀ (n : Nat) {ds : List D} {xs : List V} {vs : List Value}, okDs n ds = true -> Dens X.K H ds xs -> Vals xs vs -> ∃ as, ReadsAll s.heap vs (pyDs ds) as
 | _, [], xs, vs, _, d, r => by
  rw [d.nil_of] at r
  cases r
  exact ⟨_, .nil⟩
 | n, d :: ds, xs, vs, h, dd, r => by
  rw [okDs, Qp] at h
  obtain ⟨y, ys, rfl, a, b⟩ := dd.cons_of
  cases r with
  | cons r rr =>
   obtain ⟨as, ra⟩ := ke I n h.1 a r
   obtain ⟨bs, rb⟩ := dens_reads I n h.2 b rr
   exact ⟨_, .cons ra rb⟩
end
theorem gi (hu : X.A.units + 64 < cLine) : OpR X (compareOp .Eq) (J5 X.K false) := by
 intro pins s σ H x y v u Q I rx ry h
 obtain ⟨S, d, e, sm, dx, dy, cd, ce, q⟩ := h
 obtain ⟨as, ra⟩ := ke I 50 cd (um sm dx) rx
 obtain ⟨bs, rb⟩ := ke I 50 ce (um sm dy) ry
 obtain ⟨a1, a2⟩ := ua 50 d cd
 obtain ⟨b1, b2⟩ := ua 50 e ce
 have hm := Nat.min_le_left (pyD d).depth (pyD e).depth
 refine SeqAt.compareEq_reads ra rb a1 b1 (by lia) ⟨.bl _, H, I, rfl, ?_⟩
 rw [CC 50 50 d e cd ce]
 exact q
theorem uv (hu : X.A.units + 64 < cLine) : OpR X (compareOp .NotEq) (J5 X.K true) := by
 intro pins s σ H x y v u Q I rx ry h
 obtain ⟨S, d, e, sm, dx, dy, cd, ce, q⟩ := h
 obtain ⟨as, ra⟩ := ke I 50 cd (um sm dx) rx
 obtain ⟨bs, rb⟩ := ke I 50 ce (um sm dy) ry
 obtain ⟨a1, a2⟩ := ua 50 d cd
 obtain ⟨b1, b2⟩ := ua 50 e ce
 have hm := Nat.min_le_left (pyD d).depth (pyD e).depth
 refine SeqAt.compareNe_reads ra rb a1 b1 (by lia) ⟨.bl _, H, I, rfl, ?_⟩
 rw [CC 50 50 d e cd ce]
 exact q
theorem eL : CallR X (.builtin "len") (Je X.K) := GG
theorem xR : CallR X (.builtin "isinstance") (IQ X.K) := by
 intro pins s σ H xs us Q I r h
 obtain ⟨x, T, t, rfl, ht, hm, q⟩ := h
 obtain ⟨u, w', rfl, ru, rw'⟩ := r.two
 cases rw'
 have fin : ∀ tk : Nat, EP X pins σ Q (.bool (FO t T)) { s with toks := tk } := fun tk => ⟨.bl _, H, I.tok tk, rfl, q⟩
 cases x with
 | non => cases ht; exact mS I ru .non (mZ (by decide) hm) fin
 | bl b => cases ht; exact mS I ru (.bl b) (mZ (by decide) hm) fin
 | int i => cases ht; exact mS I ru (.int i) (mZ (by decide) hm) fin
 | str y => cases ht; exact mS I ru (.str y) (mZ (by decide) hm) fin
 | ref p =>
  cases ru
  rcases ht with ⟨rfl, xs, h⟩ | ⟨rfl, xs, h⟩
  ·obtain ⟨_, its, n, rv, _, e⟩ := I.rdl h
   exact Qe W.kitx_list I.kIn ⟨_, e, rfl⟩ (mZ (by decide) hm) (fun z => nomatch z) fin
  ·obtain ⟨its, rv, ⟨o, e, c, _⟩, _⟩ := I.tuple h
   exact Qe W.kitx_tuple I.kIn ⟨o, e, c⟩ (mZ (by decide) hm) (fun z => nomatch z) fin
 | _ => exact (show False from ht).elim
theorem Dy : MtM X "list.extend" rExtM := by
 intro pins s σ H x vs v us Q I rx rv h
 obtain ⟨l, b, xs, zs, rfl, rfl, hH, hB, hz, q⟩ := h
 cases rx
 obtain ⟨u, rfl, ru⟩ := rv.one
 cases ru
 obtain ⟨z, its, n, r, hl, e⟩ := I.lstM hH
 obtain ⟨z2, its2, n2, r2, hl2, e2⟩ := I.rdl hB
 have hsz : its.toArray.size + its2.toArray.size <= sizeLine := by rw [Py, Py]; lia
 have hlong : ¬ (!its.toArray.isEmpty && Builtin.List.listTooLong (its.toArray.size + its2.toArray.size)) = true := by
  rw [Gs hsz, Bool.and_false]
  exact QS
 refine call_meets F.slot_list_extend ⟨_, e, rfl⟩ F.entry_list_extend (F.args_list_extend_2 _ _)
  (AutoSeq1.list_extend_list_list_0 l its.toArray n b its2.toArray n2 hlong (by rw [Py]; lia) (by lia)) ⟨e, e2, ?_⟩
 refine ⟨.non, _, I.lset (its' := its ++ its2) hH e (by simp) (r.append r2) ?_, rfl, q⟩
 rw [Pj]
 lia
theorem J7 : SlR X (MD X.K) := by
 refine SlR.or HS ?_
 intro pins s σ H x v vl vu lo hi sl Q I rx hs pl pu h
 obtain ⟨a, xs, rfl, hx, q1, q2⟩ := h
 cases rx
 by_cases hw : HT.sIx xs.length 0 lo = 0 /\ HT.sIx xs.length xs.length hi = xs.length
 ·obtain ⟨its, r, ht, hz⟩ := I.tuple hx
  have hlen : its.toArray.size = xs.length := by rw [Py]; exact r.length.symm
  have hcut : oi xs lo hi = xs := by
   unfold oi
   rw [hw.1, hw.2, List.drop_zero, Nat.sub_zero, Rz (Pi _)]
  refine ⟨"tuple", _, Q4.lookup, ht.typeIs, ?_⟩
  exact HT.nk ht hs pl pu (by rw [hlen]; exact hw) ⟨.ref a, H, I, rfl, q1 hcut⟩
 ·exact Ka pins s σ H (.ref a) (.ref a) vl vu lo hi sl Q I rfl hs pl pu ⟨a, xs, rfl, hx, hw, q2⟩
theorem Bu : CallR X (.builtin "sorted") (GD X.K) := by
 intro pins s σ H xs us Q I r h
 obtain ⟨p, yks, rfl, hS, h64, hk, k⟩ := h
 obtain ⟨u, rfl, ru⟩ := r.one
 cases ru
 obtain ⟨its, rv, pl, hz⟩ := I.list hS
 have hl : yks.length = its.length := by rw [<- rv.length, Ph]
 have atI : ∀ i, i < its.length -> ∃ yk, yks[i]? = some yk /\ yks.getD i (.non, []) = yk /\ RelV yk.1 (its.getD i Value.none) := fun i hi => by
  have ey : yks[i]? = some yks[i] := Qf (by lia)
  have ex : (yks.map (·.1))[i]? = some yks[i].1 := by rw [PD, ey]; rfl
  obtain ⟨v, ev, rl⟩ := rv.get ex
  exact ⟨_, ey, by rw [RP, ey]; rfl, by rw [RP, ev]; exact rl⟩
 have tup : ∀ i, i < its.length -> Srt.L8 s.heap (its.getD i Value.none) (yks.getD i (.non, [])).2 /\ (yks.getD i (.non, [])).2 ≠ [] := fun i hi => by
  obtain ⟨yk, e1, e2, rl⟩ := atI i hi
  obtain ⟨q, e3, e4, e5⟩ := hk _ (Q3 e1)
  rw [e2]
  refine ⟨?_, e5⟩
  rw [e3] at rl
  have rl' : its.getD i Value.none = Value.ref q := rl
  obtain ⟨js, rj, ⟨o, ho, hc, n, hd⟩, _⟩ := I.tuple e4
  refine ⟨q, o, js.toArray, n, rl', ho, hc, hd, ?_⟩
  simpa using kN rj
 refine Srt.xM (Srt.FD fun i => (yks.getD i (.non, [])).2) pl.isList (by rw [Qb]; lia) (Srt.B8 tup) fun q hq ha => ?_
 obtain ⟨pv, pw⟩ := Srt.Bn (vs := its) (d := Value.none) hq ha
 rw [<- hl] at hq ha
 obtain ⟨py, wy⟩ := Srt.Bn (vs := yks) (d := ((V.non, []) : V × List Int)) hq ha
 obtain ⟨e, at1⟩ := sortedAll_at s.heap its (Srt.lv its q)
 have hv : Vals ((q.toList.map fun i => yks.getD i (.non, [])).map (·.1)) (q.toList.map fun i => its.getD i Value.none) := by
  have hb : ∀ i ∈ q.toList, i < its.length := fun i hi => by
   have : i < yks.length := by simpa using (Rg.mp hq).mem_iff.mp hi
   lia
  revert hb
  generalize q.toList = L
  induction L with
  | nil => exact fun _ => .nil
  | cons i L ih =>
   intro hb
   refine .cons ?_ (ih fun j hj => hb j (Pn _ hj))
   obtain ⟨yk, _, e2, rl⟩ := atI i (hb i Pl)
   dsimp only
   rw [e2]
   exact rl
 have fresh : s.heap.objs.size <= s.heap.objs.size + 1 := Nat.le_succ _
 refine ⟨.ref (s.heap.objs.size + 1), upd H (s.heap.objs.size + 1) (.lst ((q.toList.map fun i => yks.getD i (.non, [])).map (·.1))), I.laid (t' := s.toks) (fun b o hb => sortedAll_old hb) fresh ?_, rfl, ?_⟩
 ·refine ⟨by rw [Ph, py.length_eq, Qb]; lia, _, e, hv, at1⟩
 ·refine k _ _ py (wy _ fun i j _ _ h => ?_) (I.hok.fresh fresh)
  rw [<- AK]
  exact h
theorem fM : CallR X (.builtin "sorted") (Ao X.K) := call_sortedI.or Bu
end
end L2
namespace M
def Lx (a : List Int) (k : Int) : List Int := if a.any (· == k) then a else a ++ [k]
def M6 (ns : List Int) : List Int := ns.foldl Lx []
end M
namespace L2
open PySem
section
variable {X : Cx}
end
end L2
namespace M
open PySem L2
section
variable {K : W.Frag}
def tG (K : W.Frag) (d : D) : TE := fun _ H Q => ∀ v, (∀ S, Den K S d v) -> Q v H
theorem s_g {d : D} : SE K (tG K d) (xC d) := fun ρ σ S H Q e r x k v hv => by
 cases x
 exact k v S H (Ext.refl r.sub) (hv S)
end
end M
namespace L2
open PySem M
theorem FW {X : _} {x : Str} {v : V} {u : Value} {pos : Pos} {K : W.Frag} {d : D} (hg : Gl X x) (hm : X.mg x = some u) (r : RelV v u) (hD : ∀ S, Den K S d v) (hd : (x == ("__debug__" : Str)) = false := by decide) : PE X (.Name x pos) (tG K d) :=
 fun a b c H Q I h => De hg hm r hd a b c H Q I (h v hD)
end L2
namespace M
open PySem L2
theorem p9 {K : W.Frag} {a : Addr} {o : Obj} {its : Array Value} {n : Nat} {xs : List V} {l : List D} (h : K.lookup a = some o) (hc : o.cls = .type "tuple") (hd : o.data = .seq its n) (hs : its.size <= sizeLine) (hv : Vals xs its.toList) (hD : ∀ S, Dens K S l xs) (S : Hp) : Den K S (.tup l) (.ref a) :=
 den_tup.mpr ⟨a, xs, rfl, (show SqT K S a xs from .inr ⟨o, its, n, h, hc, hd, hs, hv⟩), hD S⟩
@[simp] def ME (a : XE) : XE := fun ρ => (a ρ).bind fun d => match d with | .lst l => (cX l).bind fun ns => if ns.length < 4000 then some (.int ((M6 ns).length : Nat)) else none | _ => none
end M
namespace L2
open PySem
def qL (K : W.Frag) (Ns : List Str) (P : Addr -> Prop) : Prop := ∀ N ∈ Ns, ∀ C, W.nsIn K mainGlobals N = some (some (.ref C)) -> P C
def Lo (K : W.Frag) (Ns : List Str) (H : Hp) (x : V) (a : Addr) (C dx : Addr) (fs : List (Str × V)) : Prop := x = .ref a /\ (∃ N ∈ Ns, W.nsIn K mainGlobals N = some (some (.ref C))) /\ H a = some (.ins C dx fs)
def Jc (K : W.Frag) (Ns : List Str) (ta : TE) (f : Str) : TE := fun σ H Q => ta σ H fun x H1 => ∃ a C dx fs v, Lo K Ns H1 x a C dx fs /\ fs.lookup f = some v /\ Q v H1
def B4 (K : W.Frag) (Ns : List Str) (m : Str) (sp : Sp) (ta : TE) (t : TA) : TE := fun σ H Q => ta σ H fun x H1 => ∃ a C dx fs, Lo K Ns H1 x a C dx fs /\ fs.lookup m = none /\ t σ H1 fun vs H2 => sp (x :: vs) H2 Q E0
def Gy (K : W.Frag) (N : Str) (sp : Sp) (t : TA) : TE := fun σ H Q => ∀ C, W.nsIn K mainGlobals N = some (some (.ref C)) -> Jb C sp [] E0 t σ H Q
section
variable {X : Cx} {o e : Expr} {es : List Expr} {f m : Str} {pos apos p : Pos} {ta : TE} {t : TA} {Ns : List Str} {k : Nat} {g C : Addr} {fd : FuncData} {ps : List Str} {sp : Sp}
theorem Dv (hc : qL X.K Ns fun C => Cls X.K C /\ NoAttr X.K C f) (he : PE X e ta) (hb : attributeBase e f X.env (eval e X.env) = eval e X.env) : PE X (.Attribute e f pos) (Jc X.K Ns ta f) := by
 intro pins s σ H Q I h
 refine Hy hb (thn (he pins s σ H _ I h) fun u s1 hpt9 => ?_)
 obtain ⟨x, H1, I1, rx, a, C, dx, fs, v, ⟨ex, ⟨N, hN, hC⟩, ea⟩, l, q⟩ := hpt9
 subst ex
 have eu : u = Value.ref a := rx
 subst eu
 obtain ⟨c, n⟩ := hc N hN C hC
 exact BP I1 ea c n l fun u' s2 I2 ru => ⟨v, H1, I2, ru, q⟩
theorem vO {pl : Sem Bool} (hc : qL X.K Ns fun C => Cls X.K C /\ Meth X.K C m g) (F : FnOk X.prog X.w X.K X.mg X.base CX0 k g fd ps sp) (hr : Room k X.A) (hb : Binds X.K fd ps []) (hx : kX CX0 X E0) (he : PE X o ta) (ha : PA X (e :: es) t)
  (hst : starEach (e :: es) X.env = (false, eval e X.env) :: starEach es X.env := by rfl) (hpl : (backTo pos (starEach es X.env)).any (·.1) = false := by rfl)
  (ht : eval (.Call (.Attribute o m apos) (e :: es) [] pos) X.env = (do
   let ov ← eval o X.env
   standAt apos.atName
   let (f, first) ← holding [ov] (getMethod ov m pl)
   callWith pos f first (backTo pos (starEach (e :: es) X.env)) (backToKw pos (keywordEach [] X.env))) := by rfl) :
  PE X (.Call (.Attribute o m apos) (e :: es) [] pos) (B4 X.K Ns m sp ta t) := by
 intro pins s σ H Q I h
 refine W.methodCall_KW (pl := pl) (thn (he pins s σ H _ I h) fun u s1 hpt9 => ?_) ht
 obtain ⟨x, H1, I1, rx, a, C, dx, fs, ⟨ex, ⟨N, hN, hC⟩, ea⟩, l, q⟩ := hpt9
 subst ex
 have eu : u = Value.ref a := rx
 subst eu
 obtain ⟨c, hm⟩ := hc N hN C hC
 refine vk I1 ea c hm l ?_
 refine W.callWith_K (first := [.ref a]) (h₀ := X.base) I.ok.mod.kin hm.kp (thn (ha pos pins s1 σ H1 _ I1 q) fun us s2 ⟨vs, H2, I2, r, q2⟩ => ⟨I2.kIn, ?_⟩) hst hpl
 exact zh (us := .ref a :: us) (vs := .ref a :: vs) (dvs := []) F hr hb .nil hx I2 (.cons rfl r) (by rw [P5]; exact q2)
theorem EU {pl : Sem Bool} (hc : qL X.K Ns fun C => Cls X.K C /\ Meth X.K C m g) (F : FnOk X.prog X.w X.K X.mg X.base CX0 k g fd ps sp) (hr : Room k X.A) (hb : Binds X.K fd ps []) (hx : kX CX0 X E0) (he : PE X o ta)
  (ht : eval (.Call (.Attribute o m apos) [] [] pos) X.env = (do
   let ov ← eval o X.env
   standAt apos.atName
   let (f, first) ← holding [ov] (getMethod ov m pl)
   callWith pos f first (backTo pos (starEach [] X.env)) (backToKw pos (keywordEach [] X.env))) := by rfl) :
  PE X (.Call (.Attribute o m apos) [] [] pos) (B4 X.K Ns m sp ta uX) := by
 intro pins s σ H Q I h
 refine W.methodCall_KW (pl := pl) (thn (he pins s σ H _ I h) fun u s1 hpt9 => ?_) ht
 obtain ⟨x, H1, I1, rx, a, C, dx, fs, ⟨ex, ⟨N, hN, hC⟩, ea⟩, l, q⟩ := hpt9
 subst ex
 have eu : u = Value.ref a := rx
 subst eu
 obtain ⟨c, hm⟩ := hc N hN C hC
 refine vk I1 ea c hm l ?_
 exact W.callWith_K0 (first := [.ref a]) I1.kIn hm.kp (zh (us := [.ref a]) (vs := [.ref a]) (dvs := []) F hr hb .nil hx I1 (.cons rfl .nil) q)
structure ClsFn (K : W.Frag) (C : Addr) (m : Str) (f : Addr) : Prop where
 sp : W.specialIn K (.ref C) "__getattribute__" = some (some (.builtin "type.__getattribute__"))
 rd : W.readsIn K C (.type "type") = true
 fn : W.findCls K (.ref C) (.type "type") m = some (.val (.ref f))
 kp : W.keepIn K (.ref f) = true
theorem vD {pl : Sem Bool} {B : Str} (cf : ClsFn X.K C m g) (gB : Gl X B) (hm : X.mg B = some (.ref C)) (F : FnOk X.prog X.w X.K X.mg X.base CX0 k g fd ps sp) (hr : Room k X.A) (hb : Binds X.K fd ps []) (hx : kX CX0 X E0) (ha : PA X (e :: es) t) (hdb : (B == ("__debug__" : Str)) = false := by decide)
  (hst : starEach (e :: es) X.env = (false, eval e X.env) :: starEach es X.env := by rfl) (hpl : (backTo pos (starEach es X.env)).any (·.1) = false := by rfl)
  (ht : eval (.Call (.Attribute (.Name B p) m apos) (e :: es) [] pos) X.env = (do
   let ov ← eval (.Name B p) X.env
   standAt apos.atName
   let (f, first) ← holding [ov] (getMethod ov m pl)
   callWith pos f first (backTo pos (starEach (e :: es) X.env)) (backToKw pos (keywordEach [] X.env))) := by rfl) :
  PE X (.Call (.Attribute (.Name B p) m apos) (e :: es) [] pos) (uT sp [] E0 t) := by
 intro pins s σ H Q I h
 refine W.methodCall_KW (pl := pl) (thn (De (v := .ref C) gB hm rfl hdb pins s σ H (fun x H1 => x = .ref C /\ H1 = H) I ⟨rfl, rfl⟩) fun u s1 hpt9 => ?_) ht
 obtain ⟨x, H1, I1, rx, ex, eH⟩ := hpt9
 subst ex
 subst eH
 have eu : u = Value.ref C := rx
 subst eu
 refine W.method_cls I1.kIn cf.sp (W.cls_value I1.kIn cf.rd cf.fn rfl ?_)
 refine W.callWith_K (first := []) (h₀ := X.base) I.ok.mod.kin cf.kp (thn (ha pos pins _ σ H1 _ (I1.tok _) h) fun us s2 ⟨vs, H2, I2, r, q2⟩ => ⟨I2.kIn, ?_⟩) hst hpl
 exact zh F hr hb .nil hx I2 r q2
theorem mo {N : Str} (hN : W.nsIn X.K mainGlobals N = some (some (.ref C))) (M : Mk X.K C g) (F : FnOk X.prog X.w X.K X.mg X.base CX0 k g fd ps sp) (hr : Room (k + 1) X.A) (hg : Gl X N) (hm : X.mg N = some (.ref C)) (hb : Binds X.K fd ps []) (hx : kX CX0 X E0)
  (ha : PA X (e :: es) t) (hdb : (N == ("__debug__" : Str)) = false := by decide) (he : starEach (e :: es) X.env = (false, eval e X.env) :: starEach es X.env := by rfl) (hpl : (backTo pos (starEach es X.env)).any (·.1) = false := by rfl) :
  PE X (.Call (.Name N p) (e :: es) [] pos) (Gy X.K N sp t) := fun a b c d q I h => Ik M F hr hg hm hb .nil hx ha hdb he hpl a b c d q I (h C hN)
end
end L2
namespace M
open PySem L2
section
variable {K : W.Frag} {S S' H H' : Hp}
def Ah : List Str -> List D -> Str -> Option D
 | n :: ns, d :: l, f => if f = n then some d else Ah ns l f
 | _, _, _ => none
theorem Fn : ∀ {fs : List (Str × V)} {l : List D} {f : Str} {d : D}, Dens K S l (fs.map (·.2)) -> Ah (fs.map (·.1)) l f = some d -> ∃ v, fs.lookup f = some v /\ Den K S d v
 | [], l, f, d, h, e => by
  cases l <;> simp [Ah] at e
 | (n, v) :: fs, l, f, d, h, e => by
  cases l with
  | nil => simp [Ah] at e
  | cons a l =>
   obtain ⟨y, ys, e1, h1, h2⟩ := h.cons_of
   rw [Pt] at e1
   cases e1
   rw [Pt, Ah] at e
   by_cases hf : f = n
   ·rw [Pa hf] at e
    cases e
    exact ⟨v, by simp [List.lookup, hf], h1⟩
   ·rw [Pb hf] at e
    obtain ⟨w, q1, q2⟩ := Fn h2 e
    have hb : (f == n) = false := by simpa using hf
    exact ⟨w, by simp [List.lookup, hb, q1], q2⟩
theorem F1 : ∀ {fs : List (Str × V)} {f : Str}, (fs.map (·.1)).contains f = false -> fs.lookup f = none
 | [], _, _ => rfl
 | (n, v) :: fs, f, h => by
  simp at h
  have hb : (f == n) = false := by simpa using h.1
  rw [List.lookup, hb]
  exact F1 (by simpa using h.2)
@[simp] def zc (Ns : List Str) (f : Str) (e : XE) : XE := fun ρ => (e ρ).bind fun d => match d with | .ins N ns l => if Ns.contains N then Ah ns l f else none | _ => none
theorem Lq {Ns : List Str} {f : Str} {ta : TE} {e : XE} (h : SE K ta e) : SE K (Jc K Ns ta f) (zc Ns f e) := fun ρ σ S H Q d r x k => by
 unfold zc at x
 cases q : e ρ with
 | none => rw [q] at x; cases x
 | some d0 =>
  rw [q] at x
  dsimp only [Option.bind] at x
  cases d0 <;> try (cases x; done)
  rename_i N ns l
  dsimp only at x
  split at x
  ·rename_i hc
   refine h ρ σ S H _ _ r q fun v S1 H1 z1 d1 => ?_
   obtain ⟨p, C, dx, fs, rfl, hC, h1, h2, h3⟩ := den_ins.mp d1
   subst h2
   obtain ⟨w, w1, w2⟩ := Fn h3 x
   exact ⟨p, C, dx, fs, w, ⟨rfl, ⟨N, by simpa using hc, hC⟩, z1.sub _ _ h1⟩, w1, k w S1 H1 z1 w2⟩
  ·cases x
@[simp] def ja (Ns : List Str) (m : Str) (g : List D -> Option D) (e : XE) (a : XA) : XE := fun ρ => (e ρ).bind fun d => match d with | .ins N ns l => if Ns.contains N && !ns.contains m then (a ρ).bind fun ds => g (.ins N ns l :: ds) else none | _ => none
theorem J2 {Ns : List Str} {m : Str} {n : Nat} {g : List D -> Option O} {ta : TE} {t : TA} {e : XE} {a : XA} (h : SE K ta e) (ha : SA K t a) (hn : ∀ ρ ds, a ρ = some ds -> ds.length = n) : SE K (B4 K Ns m (b9 K (n + 1) g) ta t) (ja Ns m (fun ds => (g ds).map O.d) e a) := fun ρ σ S H Q d r x k => by
 unfold ja at x
 cases q : e ρ with
 | none => rw [q] at x; cases x
 | some d0 =>
  rw [q] at x
  dsimp only [Option.bind] at x
  cases d0 <;> try (cases x; done)
  rename_i N ns l
  dsimp only at x
  split at x
  ·rename_i hc
   rw [Qp] at hc
   cases qa : a ρ with
   | none => rw [qa] at x; cases x
   | some ds =>
    rw [qa] at x
    dsimp only at x
    cases qg : g (.ins N ns l :: ds) with
    | none => rw [qg] at x; cases x
    | some o =>
     rw [qg] at x
     cases x
     refine h ρ σ S H _ _ r q fun v S1 H1 z1 d1 => ?_
     obtain ⟨p, C, dx, fs, rfl, hC, h1, h2, h3⟩ := den_ins.mp d1
     refine ⟨p, C, dx, fs, ⟨rfl, ⟨N, by simpa using hc.1, hC⟩, z1.sub _ _ h1⟩, F1 (by rw [h2]; simpa using hc.2), ?_⟩
     refine ha ρ σ S1 H1 _ ds (r.ext z1) qa fun vs S2 H2 z2 d2 => ?_
     have dd : Dens K S2 (.ins N ns l :: ds) (.ref p :: vs) := .cons (d1.mono z2.sh) d2
     refine ⟨by rw [Pu, <- d2.length, hn ρ ds qa], S2, _, o, z2.sub, dd, qg, fun v fp S3 H3 z3 ow nd fr => ?_⟩
     exact k v _ H3 ((z1.trans z2).trans (Aw z3 fr)) (ow.den (mW fun b hb => (fr b hb).2) fun b hb => tD hb)
  ·cases x
def sj (K : W.Frag) (Ns : List Str) (f : Str) (n : Nat) (mi : List D -> Option D) : Sp := fun vs H Q _ => vs.length = n + 1 /\ ∃ x rest C dx S ds d, vs = .ref x :: rest /\ H x = some (.ins C dx []) /\ (∃ N ∈ Ns, W.nsIn K mainGlobals N = some (some (.ref C))) /\ S x = none /\ Same S H /\ Dens K S ds rest /\ mi ds = some d /\
 ∀ S' H' v, Ext S H S' H' -> Den K S' d v -> Q .non (upd H' x (.ins C dx [(f, v)]))
def Ir : List D -> Option D
 | [d] => some d
 | _ => none
theorem Fe {Ns : List Str} {f : Str} {vs : List V} {H : Hp} {Q : VK} {E : XK} (hc : qL K Ns fun C => Cls K C /\ NoAttr K C f) {N : List Str} (h : sj K Ns f 1 Ir vs H Q E) : Lc K (uw 0) (uw 1) f { nx := fun _ H' => Q .non H', rt := Q } (L2.bo N vs) H := by
 obtain ⟨_, x, rest, C, dx, S, ds, d, rfl, hx, ⟨M, hM, hC⟩, nS, sub, dd, e, k⟩ := h
 match ds, e with
 | [d'], e =>
  cases e
  obtain ⟨v, ys, rfl, dv, dn⟩ := dd.cons_of
  cases dn.nil_of
  obtain ⟨c, n⟩ := hc M hM C hC
  exact ⟨v, rfl, .ref x, rfl, x, C, dx, [], rfl, hx, c, n, by decide, k S H v (Ext.refl sub) dv⟩
theorem C8 {x : Addr} {ds : List D} {vs : List V} (s : Same S H) (h : Dens K S ds vs) : Rl K (.lo :: ds.map .sh) (some (.ref x) :: vs.map some) S H := by
 have hl := h.length
 refine ⟨fun _ => none, fun i => if i = 0 then some x else none, fun _ => [], ?_⟩
 have ge : ∀ (i : Nat) t, (Sl.lo :: ds.map Sl.sh)[i]? = some t -> (i = 0 /\ t = .lo) \/ ∃ d v, t = .sh d /\ (some (V.ref x) :: vs.map some)[i]? = some (some v) /\ Den K S d v := fun i t ht => by
  cases i with
  | zero => cases ht; exact .inl ⟨rfl, rfl⟩
  | succ i =>
   rw [RQ, PD] at ht
   cases q : ds[i]? with
   | none => rw [q] at ht; cases ht
   | some d =>
    rw [q] at ht
    cases ht
    obtain ⟨v, e1, e2⟩ := h.get q
    refine .inr ⟨d, v, rfl, ?_, e2⟩
    rw [RQ, PD, e1]
    rfl
 exact {
  len := by rw [Pu, Pu, Ph, Ph, hl]
  sub := s
  sh := fun i d hi => by
   rcases ge i _ hi with ⟨_, e⟩ | ⟨d', v, e, h1, h2⟩
   ·cases e
   ·cases e; exact ⟨v, h1, h2⟩
  ow := fun i o hi => by
   rcases ge i _ hi with ⟨_, e⟩ | ⟨d', v, e, h1, h2⟩
   ·cases e
   ·cases e
  dj := fun i j o o' _ hi _ => by
   rcases ge i _ hi with ⟨_, e⟩ | ⟨d', v, e, h1, h2⟩
   ·cases e
   ·cases e
  lo := fun i hi => by
   rcases ge i _ hi with ⟨rfl, e⟩ | ⟨d', v, e, h1, h2⟩
   ·exact ⟨x, rfl, rfl⟩
   ·cases e
  asub := fun b o e => by cases e
  adis := fun b => .inr rfl }
def En (xt : XT) (xe : XE) (ds : List D) : Option D := if xt (.lo :: ds.map .sh) = some false then xe (.lo :: ds.map .sh) else none
theorem Gq {Ns : List Str} {f : Str} {te : TE} {xe : XE} {x : Addr} {rest : List V} {C dx : Addr} {ds : List D} {d : D} {S H : Hp} {Dd : _} {Q : VK} (he : SE K te xe) (sub : Same S H) (dd : Dens K S ds rest) (hx : H x = some (.ins C dx [])) (hc : ∃ N ∈ Ns, W.nsIn K mainGlobals N = some (some (.ref C))) (nS : S x = none)
  (e : xe (.lo :: ds.map .sh) = some d) (hD : Dd = ({ nx := fun _ H' => Q .non H', rt := Q } : _)) (k : ∀ S' H' v, Ext S H S' H' -> Den K S' d v -> Q .non (upd H' x (.ins C dx [(f, v)]))) :
  zz (uT (sj K Ns f 1 Ir) [] E0 (lH (uw 0) (lH te uX))) Dd (some (.ref x) :: rest.map some) H := by
 subst hD
 refine ⟨.ref x, rfl, he _ _ S H _ d (C8 sub dd) e fun v S1 H1 z1 d1 => ?_⟩
 refine ⟨rfl, x, [v], C, dx, S1, [d], d, rfl, (z1.al x _ hx nS).1, hc, (z1.al x _ hx nS).2, z1.sub, .cons d1 .nil, rfl, fun S2 H2 w z2 d2 => k S2 H2 w (z1.trans z2) d2⟩
theorem A0 {Ns : List Str} {f : Str} {n : Nat} {tt : TT} {xt : XT} {te : TE} {xe : XE} {N : List Str} {vs : List V} {H : Hp} {Q : VK} {E : XK} (ht : ST K tt xt) (he : SE K te xe) (hN : N.length = n + 1) (h : sj K Ns f n (En xt xe) vs H Q E) :
  J9 (Jk tt F2 Ge) (zz (uT (sj K Ns f 1 Ir) [] E0 (lH (uw 0) (lH te uX)))) { nx := fun _ H' => Q .non H', rt := Q } (L2.bo N vs) H := by
 obtain ⟨hl, x, rest, C, dx, S, ds, d, rfl, hx, hc, nS, sub, dd, e, k⟩ := h
 have es : L2.bo N (.ref x :: rest) = some (.ref x) :: rest.map some := by
  unfold L2.bo
  rw [hl, hN, Nat.sub_self]
  simp
 unfold En at e
 split at e
 ·rename_i q
  rw [es]
  refine ht _ _ S H _ false (C8 sub dd) q fun S1 H1 z1 => ?_
  rw [Pb QS]
  exact Gq he z1.sub (dd.mono z1.sh) (z1.al x _ hx nS).1 hc (z1.al x _ hx nS).2 e rfl fun S2 H2 w z2 d2 => k S2 H2 w (z1.trans z2) d2
 ·cases e
@[simp] def pi (N f : Str) (mi : List D -> Option D) (a : XA) : XE := fun ρ => ((a ρ).bind mi).map fun d => .ins N [f] [d]
theorem Jz {Ns : List Str} {N f : Str} {n : Nat} {mi : List D -> Option D} {t : TA} {a : XA} (hN : N ∈ Ns) (h : SA K t a) (hn : ∀ ρ ds, a ρ = some ds -> ds.length = n) : SE K (Gy K N (sj K Ns f n mi) t) (pi N f mi a) := fun ρ σ S H Q d r x k C hC => by
 unfold pi at x
 cases q : a ρ with
 | none => rw [q] at x; cases x
 | some ds =>
  rw [q] at x
  dsimp only [Option.bind] at x
  cases q2 : mi ds with
  | none => rw [q2] at x; cases x
  | some d0 =>
   rw [q2] at x
   cases x
   refine h ρ σ S H _ ds r q fun vs S1 H1 z1 d1 => ?_
   intro x dx nx ndx nex
   have s0 : Same S1 (upd (upd H1 dx (.own x)) x (.ins C dx [])) := fun b o e => by
    have e' := z1.sub b o e
    rw [a9 (bj e' nx), a9 (bj e' ndx)]
    exact e'
   have nS : S1 x = none := z1.sub.free nx
   refine ⟨by rw [P5, Pu, <- d1.length, hn ρ ds q], x, vs, C, dx, S1, ds, d0, by rw [P5], a6, ⟨N, hN, hC⟩, nS, s0, d1, q2, fun S2 H2 v z2 d2 => ⟨rfl, ?_⟩⟩
   have hx2 := z2.al x _ a6 nS
   have z3 : Ext S1 H1 (upd S2 x (.ins C dx [(f, v)])) (upd H2 x (.ins C dx [(f, v)])) := {
    sh := fun b o e => by
     rw [a9 (bj (z1.sub b o e) nx)]
     exact z2.sh b o e
    sub := fun b o e => by
     by_cases hb : b = x
     ·subst hb; rw [a6] at e ⊢; exact e
     ·rw [a9 hb] at e ⊢; exact z2.sub b o e
    al := fun b o e ne => by
     have hb := bj e nx
     rw [a9 hb, a9 hb]
     exact z2.al b o (by rw [a9 hb, a9 (bj e ndx)]; exact e) ne }
   refine k (.ref x) _ _ (z1.trans z3) (den_ins.mpr ⟨x, C, dx, [(f, v)], rfl, hC, a6, rfl, ?_⟩)
   refine .cons (d2.mono fun b o e => ?_) .nil
   rw [a9 (bj e hx2.2)]
   exact e
end
end M
namespace M
def kb : List Int -> Int
 | [] => 0
 | [a] => a
 | a :: l => min a (kb l)
def lO : List Int -> Int
 | [] => 0
 | [a] => a
 | a :: l => max a (lO l)
theorem xy (a b : Int) (l : List Int) : kb (a :: b :: l) = min a (kb (b :: l)) := rfl
theorem DL (a b : Int) (l : List Int) : lO (a :: b :: l) = max a (lO (b :: l)) := rfl
theorem xT : ∀ (a : Int) (l : List Int), kb (a :: l) ∈ a :: l /\ ∀ b ∈ a :: l, kb (a :: l) <= b
 | a, [] => ⟨Pl, fun b hb => by rw [Pg] at hb; subst hb; exact PB _⟩
 | a, c :: l => by
  obtain ⟨h1, h2⟩ := xT c l
  rw [xy]
  refine ⟨?_, fun b hb => ?_⟩
  ·rcases Int.le_total a (kb (c :: l)) with h | h
   ·rw [Int.min_eq_left h]; exact Pl
   ·rw [Int.min_eq_right h]; exact Pn _ h1
  ·rcases Ps.mp hb with rfl | hb
   ·exact Int.min_le_left _ _
   ·exact Int.le_trans (Int.min_le_right _ _) (h2 b hb)
theorem yj : ∀ (a : Int) (l : List Int), lO (a :: l) ∈ a :: l /\ ∀ b ∈ a :: l, b <= lO (a :: l)
 | a, [] => ⟨Pl, fun b hb => by rw [Pg] at hb; subst hb; exact PB _⟩
 | a, c :: l => by
  obtain ⟨h1, h2⟩ := yj c l
  rw [DL]
  refine ⟨?_, fun b hb => ?_⟩
  ·rcases Int.le_total a (lO (c :: l)) with h | h
   ·rw [Int.max_eq_right h]; exact Pn _ h1
   ·rw [Int.max_eq_left h]; exact Pl
  ·rcases Ps.mp hb with rfl | hb
   ·exact Int.le_max_left _ _
   ·exact Int.le_trans (h2 b hb) (Int.le_max_right _ _)
theorem wI {ns : List Int} {m : Int} (h1 : m ∈ ns) (h2 : ∀ a, a ∈ ns -> m <= a) : kb ns = m := by
 cases ns with
 | nil => cases h1
 | cons a l =>
  obtain ⟨k1, k2⟩ := xT a l
  exact Int.le_antisymm (k2 m h1) (h2 _ k1)
theorem EC {ns : List Int} {m : Int} (h1 : m ∈ ns) (h2 : ∀ a, a ∈ ns -> a <= m) : lO ns = m := by
 cases ns with
 | nil => cases h1
 | cons a l =>
  obtain ⟨k1, k2⟩ := yj a l
  exact Int.le_antisymm (h2 _ k1) (k2 m h1)
end M
namespace L2
open PySem PySem.Spec PyProof.Rows
section
variable {prog : Program} {w : World} {A : Around} {E : Value -> Shared -> Prop} {s : Shared}
theorem zA {l : Addr} {vs : List Value} {ns : List Int} {Q : Value -> Shared -> Prop} (hh : A.handled = none) (hl : s.heap.IsList l vs.toArray) (hi : IntsAre vs ns) (hne : 0 < ns.length)
  (h : ∀ (h' : Heap) (t : Tok) (tk : Nat), (∀ b o, s.heap.get? b = some o -> h'.get? b = some o) -> Q (.int (M.kb ns) t) { s with heap := h', toks := tk }) : wpAny (model prog w) A (call (.builtin "min") [.ref l]) Q E s := by
 obtain ⟨xs, e⟩ := hi.allInts.items
 have hns : ns = xs.toList.map (·.1) := by rw [<- hi.numsOf, <- nums_intItems, <- e]
 have hsz : 0 < xs.size := by have h3 := hne; rw [hns, Ph, Qa] at h3; exact h3
 rw [e] at hl; refine min_intList hh hl hsz fun v h' tk hv hk => ?_
 obtain ⟨t, rfl⟩ := intItems_at hv; obtain ⟨h1, h2⟩ := argBest_lt (numAt xs) (xs.size - 1)
 have em : M.kb ns = numAt xs (argBest (fun i j => decide (numAt xs i < numAt xs j)) (xs.size - 1)) := by
  refine M.wI ?_ fun a ha => ?_
  ·rw [hns, numAt_eq]; exact getD_mem (by rw [Ph, Qa]; lia)
  ·rw [hns] at ha; obtain ⟨j, hj, rfl⟩ := mem_getD ha; rw [Ph, Qa] at hj; rw [<- numAt_eq]; exact h2 j (by lia)
 rw [<- em]; exact h h' t tk hk
theorem zw {l : Addr} {vs : List Value} {ns : List Int} {Q : Value -> Shared -> Prop} (hh : A.handled = none) (hl : s.heap.IsList l vs.toArray) (hi : IntsAre vs ns) (hne : 0 < ns.length)
  (h : ∀ (h' : Heap) (t : Tok) (tk : Nat), (∀ b o, s.heap.get? b = some o -> h'.get? b = some o) -> Q (.int (M.lO ns) t) { s with heap := h', toks := tk }) : wpAny (model prog w) A (call (.builtin "max") [.ref l]) Q E s := by
 obtain ⟨xs, e⟩ := hi.allInts.items
 have hns : ns = xs.toList.map (·.1) := by rw [<- hi.numsOf, <- nums_intItems, <- e]
 have hsz : 0 < xs.size := by have h3 := hne; rw [hns, Ph, Qa] at h3; exact h3
 rw [e] at hl; refine max_intList hh hl hsz fun v h' tk hv hk => ?_
 obtain ⟨t, rfl⟩ := intItems_at hv; obtain ⟨h1, h2⟩ := argBest_gt (numAt xs) (xs.size - 1)
 have em : M.lO ns = numAt xs (argBest (fun i j => decide (numAt xs i > numAt xs j)) (xs.size - 1)) := by
  refine M.EC ?_ fun a ha => ?_
  ·rw [hns, numAt_eq]; exact getD_mem (by rw [Ph, Qa]; lia)
  ·rw [hns] at ha; obtain ⟨j, hj, rfl⟩ := mem_getD ha; rw [Ph, Qa] at hj; rw [<- numAt_eq]; exact h2 j (by lia)
 rw [<- em]; exact h h' t tk hk
theorem EB (a b c d : Value) : argsOk "min" ⟨[a, b, c, d], []⟩ := by unfold argsOk; kernel_rfl
theorem D4 {a b c d : Value} {Q : Value -> Shared -> Prop}
  (h : wpAny (model prog w) A.in1 (pyIter (.ref s.heap.objs.size)) (fun it s₂ => ∃ I fp wr n P St bt, it = .ref I /\ Walks prog w A.in1 I fp wr n P St /\ St 0 s₂.heap /\ (∀ b ∈ fp, b < s₂.heap.objs.size) /\ 0 < n /\ CmpOf prog w A.in1 .Lt P bt /\ ∀ v h' tk, P (argBest bt (n - 1)) v -> (∀ b o, b ∉ wr -> s₂.heap.get? b = some o -> h'.get? b = some o) -> Q v { s₂ with heap := h', toks := tk }) E { s with heap := s.heap.push { cls := .type "tuple", data := .seq #[a, b, c, d] } }) :
  wpAny (model prog w) A (call (.builtin "min") [a, b, c, d]) Q E s := by
 have hname : (toString "min" ++ toString ".loop" : String) = "min.loop" := by decide
 refine call_function_tree F.kind_min F.plain_min F.entry_min (EB _ _ _ _) ?_; show wpAny _ A.in1 (Builtin.Builtins.bindParams "min" ["key", "default"] 0 ⟨[], []⟩ >>= _) _ _ s
 refine Pf (QY (show Builtin.Builtins.bindParams "min" ["key", "default"] 0 ⟨[], []⟩ = pure [none, none] from rfl) ?_); show wpAny _ A.in1 (newTuple [a, b, c, d] >>= _) _ _ s
 refine Pf (Qv ?_); refine Pf (Qu h (fun it s₂ h₂ => ?_) fun _ _ e => e); obtain ⟨I, fp, wr, n, P, St, bt, rfl, W, hst, hfp, hn, hcmp, hQ⟩ := h₂
 refine Pf (Qv ?_); have hSf : s₂.heap.objs.size ∉ fp := fun hm => QD _ (hfp _ hm)
 rw [hname]; refine Pm ⟨plainId_quiet F.plain_min_loop _, codeAny_min_loop_first W bt hcmp s₂.heap.objs.size hSf hn (W.frame _ _ _ hst fun b _ o e => Px _ e) (PV _ rfl) fun v h' tk hP hk => ?_⟩
 exact hQ v h' tk hP fun b o hbw e => hk b o hbw (PK (Pv e)) (Px _ e)
theorem Bc {a b c d : Int} {t u x y : Tok} {Q : Value -> Shared -> Prop} (hh : A.handled = none) (h : ∀ (h' : Heap) (z : Tok) (tk : Nat), (∀ b o, s.heap.get? b = some o -> h'.get? b = some o) -> Q (.int (M.kb [a, b, c, d]) z) { s with heap := h', toks := tk }) :
  wpAny (model prog w) A (call (.builtin "min") [.int a t, .int b u, .int c x, .int d y]) Q E s := by
 have hT : (s.heap.push { cls := .type "tuple", data := .seq #[.int a t, .int b u, .int c x, .int d y] }).IsTuple s.heap.objs.size (intItems #[(a, t), (b, u), (c, x), (d, y)]) := ⟨_, PV _ rfl, rfl, 0, by simp [intItems]⟩
 refine D4 (wpAny_pyIter_tuple hT ?_); have hsz : (s.heap.push { cls := .type "tuple", data := .seq #[.int a t, .int b u, .int c x, .int d y] }).objs.size = s.heap.objs.size + 1 := Re ..
 refine ⟨_, [_, s.heap.objs.size], [_], _, _, _, _, rfl, Walks.tuple (A := A.in1) hh _ s.heap.objs.size (by rw [hsz]; exact PK (Q0 _)) (intItems #[(a, t), (b, u), (c, x), (d, y)]), ⟨⟨_, PV _ rfl, rfl, rfl⟩, hT.push _⟩, fun e hd => ?_, by simp [intItems], CmpOf.ints_lt (numAt #[(a, t), (b, u), (c, x), (d, y)]) (fun _ _ => intItems_at), fun v h' tk hP hk => ?_⟩
 ·show e < ((s.heap.push _).push _).objs.size
  rw [Re, hsz]; rcases Ps.mp hd with rfl | hd
  ·rw [hsz]; exact Q0 _
  ·rcases Ps.mp hd with rfl | hd
   ·exact Rv (Q0 _)
   ·cases hd
 ·have hold : ∀ z o, s.heap.get? z = some o -> h'.get? z = some o := fun z o e => by
   refine hk z o (fun hm => ?_) (Px _ (Px _ e)); rcases Ps.mp hm with e1 | hm
   ·have := Pv e; rw [e1, hsz] at this; exact QD _ (Nat.lt_of_succ_lt this)
   ·cases hm
  have hP' : (intItems #[(a, t), (b, u), (c, x), (d, y)])[argBest (fun i j => decide (numAt #[(a, t), (b, u), (c, x), (d, y)] i < numAt #[(a, t), (b, u), (c, x), (d, y)] j)) 3]? = some v := by
   have hsz2 : (intItems #[(a, t), (b, u), (c, x), (d, y)]).size - 1 = 3 := by simp [intItems]
   rw [<- hsz2]; exact hP
  obtain ⟨z, rfl⟩ := intItems_at hP'; obtain ⟨h1, h2⟩ := argBest_lt (numAt #[(a, t), (b, u), (c, x), (d, y)]) 3
  have em : M.kb [a, b, c, d] = numAt #[(a, t), (b, u), (c, x), (d, y)] (argBest (fun i j => decide (numAt #[(a, t), (b, u), (c, x), (d, y)] i < numAt #[(a, t), (b, u), (c, x), (d, y)] j)) 3) := by
   have k0 := h2 0 (by lia); have k1 := h2 1 (by lia); have k2 := h2 2 (by lia); have k3 := h2 3 (by lia)
   generalize hg : argBest (fun i j => decide (numAt #[(a, t), (b, u), (c, x), (d, y)] i < numAt #[(a, t), (b, u), (c, x), (d, y)] j)) 3 = g at h1 k0 k1 k2 k3 ⊢
   refine M.wI ?_ fun e he => ?_
   ·rcases (show g = 0 \/ g = 1 \/ g = 2 \/ g = 3 by lia) with rfl | rfl | rfl | rfl <;> simp [numAt]
   ·simp only [Ps, List.not_mem_nil, or_false] at he
    rcases he with rfl | rfl | rfl | rfl
    ·exact k0
    ·exact k1
    ·exact k2
    ·exact k3
  rw [<- em]; exact h h' z tk hold
end
def GR (K : W.Frag) : List V -> Hp -> VK -> Prop := fun xs H Q => ∃ p, ∃ ns : List Int, xs = [.ref p] /\ SqL K H p (ns.map V.int) /\ 0 < ns.length /\ Q (.int (M.kb ns)) H
def GV (K : W.Frag) : List V -> Hp -> VK -> Prop := fun xs H Q => ∃ p, ∃ ns : List Int, xs = [.ref p] /\ SqL K H p (ns.map V.int) /\ 0 < ns.length /\ Q (.int (M.lO ns)) H
def IX : List V -> Hp -> VK -> Prop := fun xs H Q => ∃ a b c d, xs = [.int a, .int b, .int c, .int d] /\ Q (.int (M.kb [a, b, c, d])) H
section
variable {X : Cx}
theorem Ci (hc : X.calm = true) : CallR X (.builtin "min") (GR X.K) := by
 intro pins s σ H xs us Q I r h
 obtain ⟨p, ns, rfl, hS, hne, q⟩ := h
 obtain ⟨u, rfl, ru⟩ := r.one
 cases ru
 obtain ⟨its, rv, pl, hz⟩ := I.list hS
 exact zA (I.ok.hd hc) pl.isList (kN rv) hne fun h' t tk k => ⟨.int (M.kb ns), H, I.kept k, ⟨t, rfl⟩, q⟩
theorem Bt (hc : X.calm = true) : CallR X (.builtin "max") (GV X.K) := by
 intro pins s σ H xs us Q I r h
 obtain ⟨p, ns, rfl, hS, hne, q⟩ := h
 obtain ⟨u, rfl, ru⟩ := r.one
 cases ru
 obtain ⟨its, rv, pl, hz⟩ := I.list hS
 exact zw (I.ok.hd hc) pl.isList (kN rv) hne fun h' t tk k => ⟨.int (M.lO ns), H, I.kept k, ⟨t, rfl⟩, q⟩
theorem D0 (hc : X.calm = true) : CallR X (.builtin "min") IX := by
 intro pins s σ H xs us Q I r h
 obtain ⟨a, b, c, d, rfl, q⟩ := h
 cases r with
 | cons r1 r => cases r with
  | cons r2 r => cases r with
   | cons r3 r => cases r with
    | cons r4 r =>
     cases r
     obtain ⟨t, rfl⟩ := r1
     obtain ⟨t2, rfl⟩ := r2
     obtain ⟨t3, rfl⟩ := r3
     obtain ⟨t4, rfl⟩ := r4
     exact Bc (I.ok.hd hc) fun h' t tk k => ⟨.int (M.kb [a, b, c, d]), H, I.kept k, ⟨t, rfl⟩, q⟩
end
end L2
namespace M
open PySem L2
def AL : List D -> Option D
 | [.lst l] => (cX l).bind fun ns => if 0 < ns.length then some (.int (kb ns)) else none
 | _ => none
def Ag : List D -> Option D
 | [.lst l] => (cX l).bind fun ns => if 0 < ns.length then some (.int (lO ns)) else none
 | _ => none
def Da : List D -> Option D
 | [.int a, .int b, .int c, .int d] => some (.int (kb [a, b, c, d]))
 | _ => none
section
variable {K : W.Frag}
theorem K3 : SRB K (GR K) AL := fun S H vs ds g Q s d q k => by
 unfold AL at q
 split at q
 ·rename_i l
  cases qi : cX l with
  | none => rw [qi] at q; cases q
  | some ns =>
   rw [qi] at q
   dsimp only [Option.bind] at q
   split at q
   ·rename_i hne
    cases q
    obtain ⟨v, rfl, d1⟩ := jE d
    obtain ⟨p, xs, rfl, h1, h2⟩ := d1.lst s
    obtain ⟨e, _⟩ := mX h2 qi
    subst e
    exact ⟨p, ns, rfl, .inl h1, hne, k _ S H (Ext.refl s) (den_int.mpr rfl)⟩
   ·cases q
 ·cases q
theorem Jj : SRB K (GV K) Ag := fun S H vs ds g Q s d q k => by
 unfold Ag at q
 split at q
 ·rename_i l
  cases qi : cX l with
  | none => rw [qi] at q; cases q
  | some ns =>
   rw [qi] at q
   dsimp only [Option.bind] at q
   split at q
   ·rename_i hne
    cases q
    obtain ⟨v, rfl, d1⟩ := jE d
    obtain ⟨p, xs, rfl, h1, h2⟩ := d1.lst s
    obtain ⟨e, _⟩ := mX h2 qi
    subst e
    exact ⟨p, ns, rfl, .inl h1, hne, k _ S H (Ext.refl s) (den_int.mpr rfl)⟩
   ·cases q
 ·cases q
theorem HC {S H : Hp} {a b c d : D} {vs : List V} (h : DensP K S H [a, b, c, d] vs) : ∃ v w x y, vs = [v, w, x, y] /\ DenP K S H a v /\ DenP K S H b w /\ DenP K S H c x /\ DenP K S H d y := by
 cases h with
 | cons h1 h => cases h with
  | cons h2 h => cases h with
   | cons h3 h => cases h with
    | cons h4 h => cases h; exact ⟨_, _, _, _, rfl, h1, h2, h3, h4⟩
theorem KJ : SRB K IX Da := fun S H vs ds g Q s d q k => by
 unfold Da at q
 split at q
 ·rename_i a b c e
  cases q
  obtain ⟨v, w, x, y, rfl, d1, d2, d3, d4⟩ := HC d
  exact ⟨a, b, c, e, by rw [d1.int, d2.int, d3.int, d4.int], k _ S H (Ext.refl s) (den_int.mpr rfl)⟩
 ·cases q
end
end M
namespace L2
open PySem
theorem dG {XN : List Str} {sc scope : Scope} {N : List Str} {js : List (Option Nat)} (h1 : scope.kind = .function := by rfl) (h2 : ∀ y ∈ scope.names, y.2 ≠ .cell := by decide +kernel) (h3 : ∀ y ∈ scope.names, y.2 = .free -> sc.names.lookup y.1 = some .cell \/ sc.names.lookup y.1 = some .free := by decide +kernel)
  (h4 : ∀ y ∈ scope.names, y.2 = .local -> scope.names.lookup y.1 = some .local := by decide +kernel) (h5 : js.length = N.length := by rfl) (h6 : ((N.zip js).all fun p => match p.2 with | none => true | some j => decide (XN[j]? = some p.1) && decide (scope.names.lookup p.1 = some .free)) = true := by decide +kernel) : CmpOk XN sc scope N js := ⟨h1, h2, h3, h4, h5, h6⟩
end L2
namespace M
open PySem L2
@[simp] def Nk (m : List D -> Option D) (e : D) (a : XA) : XE := fun ρ => (a ρ).bind fun ds => m (ds ++ [e])
section
variable {K : W.Frag}
end
end M
namespace L2
open PySem
section
variable {P : Program} {w : World} {K : W.Frag} {mg : Str -> Option Value} {base : Heap}
end
end L2
namespace L2
open PySem PySem.Spec PyProof.Rows
section
variable {X : Cx} {pins : List (Addr × Obj)} {σ : St} {H : Hp} {s : Shared} {XN N : List Str} {sc scope : Scope} {js : List (Option Nat)}
variable {tg iter elt : Expr} {ifs : List Expr} {pos : Pos} {wi : TI} {g : TG} {tt : TIf} {te : TE}
end
end L2
namespace RevT
open PySem PySem.Calls PyProof.Rows
theorem slot_next : Slot "reversed" "__next__" "reversed.__next__" := .of (owner := "reversed") (n := "__next__") (by rw [Q8, Q9]; kernel_rfl) (by decide +kernel) (by decide +kernel) (by decide +kernel) (by first | exact .inl (by decide +kernel) | exact .inr (by decide +kernel)) (by rw [Ra]; kernel_rfl)
theorem uf : entryFor table "reversed.__next__" = some Builtin.«reversed.__next__» := entryFor_of_tree (by kernel_rfl)
theorem wX (a : Value) : argsOk "reversed.__next__" ⟨[a], []⟩ := by unfold argsOk; kernel_rfl
theorem wF : Slot "reversed" "__iter__" "reversed.__iter__" := .of (owner := "reversed") (n := "__iter__") (by rw [Q8, Q9]; kernel_rfl) (by decide +kernel) (by decide +kernel) (by decide +kernel) (by first | exact .inl (by decide +kernel) | exact .inr (by decide +kernel)) (by rw [Ra]; kernel_rfl)
theorem EV (a : Value) : argsOk "reversed.__iter__" ⟨[a], []⟩ := by unfold argsOk; kernel_rfl
theorem Bq : entryFor table "reversed.__iter__" = some Builtin.«dict_keyiterator.__iter__» := entryFor_alias (id' := "dict_keyiterator.__iter__") (by kernel_rfl) (by first | rfl | decide +kernel | (unfold String.splitOn; simp +decide [String.splitOnAux])) (by decide +kernel) (by kernel_rfl)
theorem K2 : typeLookup (.type "tuple") "__reversed__" = pure none := by rw [Q8, Q9]; kernel_rfl
theorem C6 : typeLookup (.type "tuple") "__getitem__" = pure (some (.builtin "tuple.__getitem__")) := by rw [Q8, Q9]; kernel_rfl
theorem Hq : isSubtype (.type "tuple") (.type "dict") = pure false := by rw [Ra]; kernel_rfl
theorem sub_self : isSubtype (.type "reversed") (.type "reversed") = pure true := by rw [Ra]; kernel_rfl
def vP (t : Addr) (i : Int) : Obj := { cls := .type "reversed", data := .fields #[.ref t, rawInt i] }
def IsRev (h : Heap) (a t : Addr) (i : Int) : Prop := ∃ o, h.get? a = some o /\ o.cls = .type "reversed" /\ o.data = .fields #[.ref t, rawInt i]
section
variable {prog : Program} {w : World} {A : Around} {E : Value -> Shared -> Prop} {s : Shared}
theorem IsRev.typeIs {a t : Addr} {i : Int} (x : IsRev s.heap a t i) : s.TypeIs (.ref a) "reversed" := let ⟨o, ho, hc, _⟩ := x; ⟨o, ho, hc⟩
theorem D9 {it t : Addr} {i : Nat} {items : Array Value} {x : Value} {Q : Option Value -> Shared -> Prop} (hit : IsRev s.heap it t (i : Int)) (ht : IsTup s.heap t items) (hx : items[i]? = some x) (hi : (i : Int) < 2 ^ 62)
  (hQ : ∀ h' tk, IsRev h' it t ((i : Int) - 1) -> Heap.SameBut it s.heap h' -> Q (some x) { s with heap := h', toks := tk }) : wpAny (model prog w) A (pyNext (.ref it)) Q E s := by
 obtain ⟨o, ho, hc, hd⟩ := id hit
 unfold pyNext
 refine Pf (wpAny_attempt (Ru (name := Str.ofString "__next__") hit.typeIs slot_next (Q5 slot_next hit.typeIs uf ?_ (wX _))))
 unfold Builtin.«reversed.__next__»
 refine Pf (QY (a := (Value.ref it, [])) rfl ?_)
 try dsimp only
 refine Pf (QE ho hd (x := .ref t) rfl ?_)
 refine Pf (QE ho hd (x := rawInt (i : Int)) rfl ?_)
 show wpAny _ _ (if (i : Int) < 0 then _ else _) _ _ s
 rw [Pb (by lia)]
 refine Pf (wpAny_specialOf ht.typeIs C6 ?_)
 rw [Pb (show ¬ ((some (Value.builtin "tuple.__getitem__")).isNone = true) from QS)]
 refine Pf (wpAny_mkInt ?_)
 have p63 : (2 : Int) ^ 63 = 9223372036854775808 := by decide
 have p62 : (2 : Int) ^ 62 = 4611686018427387904 := by decide
 have hsz := (Array.getElem?_eq_some_iff.mp hx).1
 have hix : seqIndex? (i : Int) items.size = some i := by
  unfold seqIndex?
  simp
  lia
 refine Pf (wpAny_attempt (getItem_tuple (s := { s with toks := s.toks + 1 }) (j := i) ht (by lia) (by lia) hix hx ?_))
 dsimp only
 refine Pf (QE (s := { s with toks := s.toks + 1 }) ho hd (x := rawInt (i : Int)) rfl ?_)
 show wpAny _ _ (setField (.ref it) 1 (rawInt ((i : Int) - 1)) >>= _) _ _ _
 refine Pf (wpAny_setField (s := { s with toks := s.toks + 1 }) ho hd (by simp) ?_)
 refine Pm ⟨x, rfl, Pm (hQ _ _ ?_ (Heap.SameBut.update ..))⟩
 exact ⟨_, RL _ ho (Obj.isFreed_of_fields (RA hd _)), (Obj.cls_mapFields ..).trans hc, by rw [RA hd]; simp⟩
theorem Gk {it t : Addr} {Q : Option Value -> Shared -> Prop} (hh : A.handled = none) (hit : IsRev s.heap it t (-1)) (hQ : ∀ h', Heap.ExtBut it s.heap h' -> Q none { s with heap := h' }) : wpAny (model prog w) A (pyNext (.ref it)) Q E s := by
 obtain ⟨o, ho, hc, hd⟩ := id hit
 unfold pyNext
 refine Pf (wpAny_attempt (Ru (name := Str.ofString "__next__") hit.typeIs slot_next (Q5 slot_next hit.typeIs uf ?_ (wX _))))
 unfold Builtin.«reversed.__next__»
 refine Pf (QY (a := (Value.ref it, [])) rfl ?_)
 try dsimp only
 refine Pf (QE ho hd (x := .ref t) rfl ?_)
 refine Pf (QE ho hd (x := rawInt (-1)) rfl ?_)
 show wpAny _ _ (if (-1 : Int) < 0 then _ else _) _ _ s
 rw [Pa (by decide)]
 refine Pf (Qz ?_)
 refine Pf ?_
 refine Pf (wpAny_setField ho hd (by simp) ?_)
 have ho' := RL (h := s.heap) (Obj.mapFields (·.setIfInBounds 1 (rawInt (-1)))) ho (Obj.isFreed_of_fields (RA hd _))
 have hd' := RA hd (·.setIfInBounds 1 (rawInt (-1)))
 refine wpAny_setField (s := { s with heap := s.heap.update it (Obj.mapFields (·.setIfInBounds 1 (rawInt (-1)))) }) ho' hd' (by simp) ?_
 first
 | show wpAny _ _ (newExc (.type "StopIteration") [] >>= _) _ _ _
 | (refine Pf ?_; show wpAny _ _ (newExc (.type "StopIteration") [] >>= _) _ _ _)
 refine Pf ?_
 simp only [newExc, newTuple]
 refine Pf (Qv ?_ (by size_fits))
 refine Pf (m := firstArgMember _ _) (QY (a := Value.none) (by first | rfl | (simp only [firstArgMember]; rfl)) ?_)
 refine Qv ?_ (by size_fits)
 simp only [raiseNew]
 refine Pf (wpAny_handled ?_)
 first | rw [show A.in1.handled = none from hh] | rw [hh]
 refine Pf (Pm (wpAny_throw ?_))
 refine Pf (wpAny_isInstance (T := "StopIteration") (b := true) ⟨_, PV _ rfl, rfl⟩ isSubtype_stop ?_)
 exact Pm (hQ _ ((((Heap.SameBut.update ..).trans (Heap.SameBut.update ..)).extBut.push _).push _))
theorem xK {it t : Addr} {i : Int} {Q : Value -> Shared -> Prop} (hit : IsRev s.heap it t i) (h : Q (.ref it) s) : wpAny (model prog w) A (pyIter (.ref it)) Q E s := by
 refine wpAny_pyIter_slot hit.typeIs wF (Q5 wF hit.typeIs Bq ?_ (EV _))
 show wpAny _ _ (ret (.ref it)) _ _ s
 exact Pm ⟨_, rfl, "reversed", _, hit.typeIs, slot_next.lookup, h⟩
end
theorem CP : mroOf (.type "reversed") = pure [.type "reversed", .type "object"] := by rw [mroOf_type]; kernel_rfl
theorem FR : typeLookup (.type "reversed") "__new__" = pure (some (.builtin "reversed.__new__")) := by rw [Q8, Q9]; kernel_rfl
theorem Ew : Slot "reversed" "__init__" "object.__init__" := .of (owner := "object") (n := "__init__") (by rw [Q8, Q9]; kernel_rfl) (by decide +kernel) (by decide +kernel) (by decide +kernel) (by first | exact .inl (by decide +kernel) | exact .inr (by decide +kernel)) (by rw [Ra]; kernel_rfl)
theorem BW : TypeCalled "reversed" "reversed.__new__" "object.__init__" := ⟨by decide +kernel, by decide +kernel, ⟨_, _, CP⟩, madeBy_type CP FR (by decide +kernel), by decide +kernel, by rw [Ra]; kernel_rfl, Ew⟩
theorem yS (a : Value) : checkTypeCall "reversed" ⟨[a], []⟩ = pure () := by kernel_rfl
theorem zG (a : Value) : checkBuiltinCall "reversed.__new__" ⟨[.type "reversed", a], []⟩ = pure () := by kernel_rfl
theorem EM : entryFor table "reversed.__new__" = some Builtin.«reversed.__new__» := entryFor_of_tree (by kernel_rfl)
theorem yw (a : Value) : Builtin.SmallTypes.newClass "reversed" ⟨[.type "reversed", a], []⟩ = pure (.type "reversed", [a]) := by
 unfold Builtin.SmallTypes.newClass
 simp only [isType, sub_self, pure_bind, Bool.not_true, Bool.false_eq_true, if_false]
theorem Ea (t : Addr) (items : Array Value) (hz : (items.size : Int) < 2 ^ 63) : Meets (Builtin.«reversed.__new__» ⟨[.type "reversed", .ref t], []⟩) (fun _ R s => IsTup s.heap t items /\ R (.ok (.ret (.ref s.heap.objs.size))) { s with heap := s.heap.push (vP t ((items.size : Int) - 1)), toks := s.toks + 1 + 1 }) :=
 .of_wp fun prog w A R s h => by
  obtain ⟨ht, h⟩ := h
  unfold Builtin.«reversed.__new__»
  refine Pf (QY (yw _) ?_)
  try dsimp only
  refine Pf (QY (a := ()) (by first | rfl | kernel_rfl) ?_)
  refine Pf (QY (a := ()) (by first | rfl | kernel_rfl) ?_)
  try dsimp only
  refine Pf (wpAny_specialOf ht.typeIs K2 ?_)
  try dsimp only
  refine Pf (Pf (wpAny_isInstance (T := "tuple") (b := false) ht.typeIs Hq ?_))
  rw [Pb QS]
  refine Pf (wpAny_specialOf ht.typeIs C6 ?_)
  refine (show wpAny _ _ (pure true) _ _ _ from Pm ?_)
  show wpAny _ _ (if (!true) = true then _ else _) _ _ _
  rw [Pb (by decide)]
  refine Pf (len_tuple ht hz ?_)
  show wpAny _ _ (Builtin.SmallTypes.newRecord (.type "reversed") [.ref t, rawInt ((items.size : Int) - 1)] >>= _) _ _ _
  refine Pf (Qv (data := .fields #[.ref t, rawInt ((items.size : Int) - 1)]) ?_ (by size_fits))
  exact Pm ⟨_, rfl, h⟩
theorem Hf {prog : Program} {w : World} {A : Around} {E : Value -> Shared -> Prop} {s : Shared} {t : Addr} {items : Array Value} {Q : Value -> Shared -> Prop} (ht : IsTup s.heap t items) (hz : (items.size : Int) < 2 ^ 63)
  (h : Q (.ref s.heap.objs.size) { s with heap := s.heap.push (vP t ((items.size : Int) - 1)), toks := s.toks + 1 + 1 }) : wpAny (model prog w) A (call (.type "reversed") [.ref t]) Q E s :=
 callType_new BW (by decide) (yS _) (zG _) (fun obj => F.args_object_init_2 obj _) EM (Ea t items hz) ⟨ht, ⟨_, PV _ rfl, rfl⟩, h⟩
end RevT
namespace L2
open PySem PySem.Spec PyProof.Rows
def Itv (K : W.Frag) (a : Addr) (xs : List V) : It :=
 ⟨fun i H => SqT K H a xs /\ ∃ x, xs.reverse[i]? = some x, fun i H x H' => H' = H /\ xs.reverse[i]? = some x, fun i H => SqT K H a xs /\ xs.length = i⟩
def Ma (K : W.Frag) (ta : TA) : TI := fun σ H R => ta σ H fun vs H1 => ∃ a xs, vs = [.ref a] /\ SqT K H1 a xs /\ R (Itv K a xs) H1
section
variable {X : Cx} {tg : Expr}
theorem FT {P : Program} {w : World} {K : W.Frag} (a it : Addr) (xs : List V) : Turn P w K tg (Itv K a xs) [it] it (fun i h => RevT.IsRev h it a ((xs.length : Int) - 1 - (i : Nat))) where
 mem := by simp
 obj := fun i h st b hb => by
  rw [Pg.mp hb]
  obtain ⟨o, e, c, d⟩ := st
  exact ⟨o, e, fun v z => by rw [d] at z; cases z⟩
 keep := fun i h h' st k => by
  obtain ⟨o, e, r⟩ := st
  exact ⟨o, k it (by simp) _ e, r⟩
 item := by
  intro X hP hw hK hc i pins s σ H E I hf st hg
  subst hP hw hK
  obtain ⟨hq, x, hx⟩ := hg
  obtain ⟨its, rv, p, hz⟩ := I.tuple hq
  have hi : i < xs.length := by have := (Pw.mp hx).1; simpa using this
  have hx' : xs[xs.length - 1 - i]? = some x := by rw [RS hi] at hx; exact hx
  obtain ⟨u, hu, ru⟩ := rv.get hx'
  obtain ⟨f0, f1, f2, f3, f4, f5⟩ := hf it (by simp)
  have e : (xs.length : Int) - 1 - (i : Nat) = ((xs.length - 1 - i : Nat) : Int) := by lia
  have hn : (sizeLine : Nat) < 2 ^ 60 := by rw [Qb]; decide
  have p62 : (2 : Int) ^ 62 = 4611686018427387904 := by decide
  rw [e] at st
  refine RevT.D9 st p (x := u) (by simpa using hu) (by lia) fun h' tk st' sb => ?_
  have I1 : Inv X pins σ H { s with heap := h', toks := tk } := I.turned (fun b o hb e => (sb.2 b hb).trans e) f0 f1 f3 f4 f5
  have st2 : RevT.IsRev h' it a ((xs.length : Int) - 1 - ((i + 1 : Nat) : Int)) := by
   have e2 : (xs.length : Int) - 1 - ((i + 1 : Nat) : Int) = ((xs.length - 1 - i : Nat) : Int) - 1 := by lia
   rw [e2]; exact st'
  obtain ⟨o, e, c, d⟩ := id st'
  exact ⟨u, rfl, xP (s := { s with heap := h', toks := tk }) e c d (by decide) ⟨x, H, I1, ru, ⟨rfl, hx⟩, st2, fun b hb => (hf b hb).1⟩⟩
 done := by
  intro X hP hw hK hc i pins s σ H E I hf st hg
  subst hP hw hK
  obtain ⟨hq, hx⟩ := hg
  obtain ⟨f0, f1, f2, f3, f4, f5⟩ := hf it (by simp)
  have e : (xs.length : Int) - 1 - (i : Nat) = -1 := by lia
  rw [e] at st
  exact RevT.Gk (I.ok.hd hc) st fun h' eb => ⟨rfl, I.turned (t' := s.toks) (fun b o hb e => eb b o hb e) f0 f1 f3 f4 f5⟩
 self := fun _ _ _ _ _ st h => RevT.xK st h
theorem K1 {a : Expr} {ta : TA} {p pos : Pos} (hg : Gl X "reversed") (hm : X.mg "reversed" = none) (ha : PA X [a] ta) (hs : starEach [a] X.env = [(false, eval a X.env)] := by rfl) : PI X tg (.Call (.Name "reversed" p) [a] [] pos) (Ma X.K ta) := by
 intro pins s σ H R I h
 refine Call_ (oS I hg hm zX (Rc (thn (ha pos pins s σ H _ I h) fun us s1 h1 => ?_) hs rfl))
 obtain ⟨vs, H1, I1, r1, t, xs, rfl, hq, q⟩ := h1
 obtain ⟨u, rfl, rx⟩ := Hg r1
 cases rx
 obtain ⟨its, rv, p, hz⟩ := I1.tuple hq
 have hlen := rv.length
 have hn := oI
 refine RevT.Hf p (by simp only [Py] <;> lia) ?_
 have I2 : Inv X pins σ H1 { s1 with heap := s1.heap.push (RevT.vP t ((its.toArray.size : Int) - 1)), toks := s1.toks + 1 + 1 } := I1.kept fun b o e => Px _ e
 have st : RevT.IsRev (s1.heap.push (RevT.vP t ((its.toArray.size : Int) - 1))) s1.heap.objs.size t ((xs.length : Int) - 1 - ((0 : Nat) : Int)) := by
  refine ⟨_, PV _ rfl, rfl, ?_⟩
  have e : (xs.length : Int) - 1 - ((0 : Nat) : Int) = (its.toArray.size : Int) - 1 := by simp [hlen]
  rw [e]; rfl
 refine RevT.xK (s := { s1 with heap := s1.heap.push (RevT.vP t ((its.toArray.size : Int) - 1)), toks := s1.toks + 1 + 1 }) st ?_
 refine ⟨s1.heap.objs.size, [s1.heap.objs.size], _, _, H1, rfl, I2, FT t _ xs, st, fun b hb => ?_, q⟩
 rw [Pg.mp hb]
 exact I1.fpOk (Pi _) I1.fresh
end
end L2
namespace M
open PySem L2
section
variable {K : W.Frag} {S S' H H' : Hp}
def Lh : List D -> Option (List D)
 | [.tup l] => some l.reverse | _ => none
@[simp] def xJ (a : XA) : XA := fun ρ => (a ρ).bind Lh
theorem Lm {t : TA} {a : XA} (h : SAP K t a) : SI K (Ma K t) (xJ a) := fun ρ σ S H R l r x k => by
 unfold xJ at x
 cases q : a ρ with
 | none => rw [q] at x; cases x
 | some ds =>
  rw [q] at x
  dsimp only [Option.bind] at x
  unfold Lh at x
  split at x
  ·rename_i l'
   cases x
   refine h ρ σ S H _ _ r q fun vs S1 H1 z1 d1 => ?_
   cases d1 with
   | cons a1 d1 =>
    cases d1
    rcases a1 with a1 | ⟨l2, _, _, e, _⟩
    ·obtain ⟨p, xs, rfl, h1, h2⟩ := iY a1
     refine ⟨p, xs, rfl, cv z1.sub h1, k _ S1 H1 z1 fun S' H' s1 s2 => ⟨fun i d hd => ?_, cv (s1.trans s2) h1, by rw [List.length_reverse]; exact h2.length.symm⟩⟩
     have hi : i < l'.length := by have := (Pw.mp hd).1; simpa using this
     rw [RS hi] at hd
     obtain ⟨y, e1, e2⟩ := h2.get hd
     have hl := h2.length
     have e3 : xs.reverse[i]? = some y := by rw [RS (by lia)]; rw [<- e1]; congr 2; lia
     refine ⟨⟨cv (s1.trans s2) h1, y, e3⟩, fun x H'' hy => ⟨hy.1, ?_⟩⟩
     have := hy.2
     rw [e3] at this
     cases this
     exact e2.mono s1
    ·cases e
  ·cases x
end
end M
namespace L2
open PySem
section
variable {X : Cx} {e : Expr} {pos p p' : Pos} {ta : TE} {T : Addr} {N : Str} {ans : List (Str × Bool)}
end
end L2
namespace M
open PySem L2
section
variable {K : W.Frag} {S S' H H' : Hp}
@[simp] def NU (ans : List (Str × Bool)) (e : XE) : XE := fun ρ => (e ρ).bind fun d => match d with | .ins N _ _ => (ans.lookup N).map .bl | _ => none
end
end M
namespace L2
open PySem PySem.Spec PyProof.Rows Builtin Builtin.ObjectAttr Builtin.Getset_descriptor
section
variable {prog : Program} {w : World} {A : Around} {E : Value -> Shared -> Prop} {s : Shared} {K : W.Frag} {C a : Addr}
end
end L2
namespace L2
open PySem PySem.Spec PyProof.Rows
section
variable {H H' : Hp} {B h0 h h' : Heap} {fs : List Addr}
end
section
variable {X : Cx} {pins : List (Addr × Obj)} {σ : St} {H : Hp} {s : Shared} {E : XK} {B : Heap} {e : Addr} {cls a0 : Value}
end
section
variable {P : Program} {w : World} {K : W.Frag} {mg : Str -> Option Value} {base : Heap} {N : List Str} {qual : Str} {scope : Scope} {f : Addr} {cdv : Value} {A : Around} {outer : List Env} {s : Shared} {H : Hp} {E : XK}
end
section
variable {X : Cx} {E : XK} {x : Str} {e : Expr} {te : TE} {np cpos pos : Pos}
end
section
variable {X : Cx} {pins : List (Addr × Obj)} {σ : St} {H H' : Hp} {s s' : Shared} {e : Addr}
end
section
variable {X : Cx} {body suite : List Stmt} {b0 : Stmt} {x n : Str} {i : Nat} {L : List Str} {tb : XK -> TS} {ts : TS} {np hp pos : Pos}
end
section
variable {X : Cx} {e : Expr} {pos p p' : Pos} {i : Nat} {N : Str} {ans : List (Str × Bool)} {vv : V} {u : Value}
end
end L2
namespace M
open PySem L2
section
variable {K : W.Frag} {S S' H H' : Hp}
inductive RO where
 | rz (N : Str) | nx (ρ : Env)
abbrev XR := Env -> Option RO
variable {E : XK}
@[simp] def Nh : XR := fun ρ => some (.nx ρ)
@[simp] def MO (N : Str) : XR := fun _ => some (.rz N)
@[simp] def OY (c : XT) (m n : XR) : XR := fun ρ => (c ρ).bind fun b => if b = true then m ρ else n ρ
@[simp] def Oi (m n : XR) : XR := fun ρ => (m ρ).bind fun o => match o with | .nx ρ' => n ρ' | .rz N => some (.rz N)
@[simp] def MZ (m : XR) : XR := fun ρ => (m ρ).bind fun o => match o with | .nx _ => none | .rz N => some (.rz N)
@[simp] def xrE (m : Env -> Option Str) : XR := fun ρ => (m ρ).map .rz
@[simp] def M9 (m : List D -> Option Str) (a : XA) : Env -> Option Str := fun ρ => (a ρ).bind m
def Jd (N : Str) : List (List (Str × Bool)) -> Option (List Bool)
 | [] => some []
 | a :: l => (a.lookup N).bind fun b => (Jd N l).map fun bs => b :: bs
def Jg (i : Nat) (N : Str) : List (Nat × List (List (Str × Bool))) -> Env -> Option Env
 | [], ρ => some ρ
 | p :: l, ρ => if p.1 = i then none else (Jd N p.2).bind fun bs => if bs.length <= 1000 then Jg i N l (ρ.set p.1 (.sh (.lst (bs.map .bl)))) else none
@[simp] def OD (L : List Str) (i : Nat) (m : XR) (l : List (Nat × List (List (Str × Bool)))) : XS := fun ρ => if i < ρ.length then (m ρ).bind fun o => match o with
 | .rz N => if L.contains N then (Jg i N l (ρ.map fun _ => .un)).map fun ρ' => .nx (ρ'.set i .un) else none
 | .nx ρ' => some (.nx ρ') else none
end
end M
namespace L2
open PySem PySem.Spec PyProof.Rows
section
variable {X : Cx} {tg : Expr}
end
end L2
namespace M
open PySem L2
section
variable {K : W.Frag} {S S' H H' : Hp}
def NJ : List D -> Option (List D)
 | [.int i, .int j] => some (jj i (j - i).toNat)
 | _ => none
@[simp] def Os (a : XA) : XA := fun ρ => (a ρ).bind NJ
end
end M
namespace L2
open PySem PySem.Spec PyProof.Rows
section
variable {X : Cx} {tg : Expr}
end
end L2
namespace M
open PySem L2
section
variable {K : W.Frag} {S S' H H' : Hp}
def Kf (x : Str) : List D := x.cps.toList.map fun c => D.str ⟨#[c]⟩
def sgD : D -> Option (List D)
 | .str x => some (Kf x)
 | _ => none
@[simp] def OC (e : XE) : XA := fun ρ => (e ρ).bind sgD
def MX (d : D) (lo hi : Option Int) : Option D := match d with
 | .str x => if x.length <= LIM then some (.str (Txt.slice x lo hi)) else none
 | _ => none
@[simp] def OO (a : XE) (lo hi : XO) : XE := fun ρ => (a ρ).bind fun d => (lo ρ).bind fun l => (hi ρ).bind fun h => MX d l h
end
end M
namespace L2
open PySem
end L2
namespace L2
open PySem PySem.Spec PyProof.Rows
section
variable {X : Cx}
inductive PJ (X : Cx) : List Expr -> List TE -> Prop
 | nil : PJ X [] []
 | cons {e : Expr} {t : TE} {es : List Expr} {ts : List TE} : PE X e t -> PJ X es ts -> PJ X (e :: es) (t :: ts)
end
end L2
namespace M
open PySem L2
section
variable {K : W.Frag} {S S' H H' : Hp}
def fvD : D -> Option D
 | .int i => if i.natAbs.log2 < 1920 then some (.str (toString i)) else none
 | .str y => if y.length <= LIM then some (.str y) else none
 | _ => none
@[simp] def xFv (e : XE) : XE := fun ρ => (e ρ).bind fvD
inductive SJ (K : W.Frag) : List TE -> List XE -> Prop
 | nil : SJ K [] []
 | cons {t : TE} {a : XE} {ts : List TE} {as : List XE} : SPk K t a -> SJ K ts as -> SJ K (t :: ts) (a :: as)
end
end M
namespace L2
open PySem PySem.Spec PyProof.Rows
section
variable {M : Model} {A : Around} {Ex : Value -> Shared -> Prop} {s : Shared}
end
section
variable {P : Program} {w : World} {K : W.Frag} {mg : Str -> Option Value} {base : Heap} {N : List Str} {qual : Str} {scope : Scope} {f : Addr} {cdv : Value} {A : Around} {outer : List Env} {s : Shared} {H : Hp} {E : XK}
end
section
variable {X : Cx} {pins : List (Addr × Obj)} {σ : St} {H : Hp} {s : Shared} {XN N : List Str} {sc scope : Scope} {js : List (Option Nat)}
variable {tg iter elt : Expr} {ifs : List Expr} {pos : Pos} {wi : TI} {g : TG} {tt : TIf} {te : TE} {E : XK}
end
section
variable {X : Cx}
end
end L2
namespace M
open PySem L2
section
variable {K : W.Frag} {S S' H H' : Hp} {E : XK}
@[simp] def OQ (m : XS) : XR := fun ρ => match m ρ with | some (.nx ρ') => some (.nx ρ') | _ => none
@[simp] def OW (n : Env -> Option Str) (m : XS) : XR := fun ρ => match n ρ with | some N => some (.rz N) | none => (match m ρ with | some (.nx ρ') => some (.nx ρ') | _ => none)
@[simp] def NG (m : Env -> Option Str) : Env -> Option Str := m
@[simp] def Nw (e : XE) (m : Env -> Option Str) : Env -> Option Str := fun ρ => (e ρ).bind fun _ => m ρ
@[simp] def OB (n : Env -> Option Str) (e : XE) (m : Env -> Option Str) : Env -> Option Str := fun ρ => match n ρ with | some N => some N | none => (e ρ).bind fun _ => m ρ
@[simp] def NT (i : Nat) (m : Env -> Option Str) : Env -> Option Str := fun ρ => match ρ[i]? with | some (.ow (.lst _)) => m ρ | _ => none
def G4 (g : XG) (c : XT) (e : XE) (n : Env -> Option Str) (ρ0 : Env) : List D -> Option Str
 | [] => none
 | d :: l => (g d ρ0).bind fun ρ1 => (c ρ1).bind fun b => if b = true then (match n ρ1 with | some N => some N | none => (e ρ1).bind fun _ => G4 g c e n ρ0 l) else G4 g c e n ρ0 l
@[simp] def MW (js : List (Option Nat)) (w : XA) (g : XG) (c : XT) (e : XE) (n : Env -> Option Str) : Env -> Option Str := fun ρ => (w ρ).bind fun l => if l.length <= LIM then G4 g c e n (y8 js ρ) l else none
def IT (g : XG) (m : XR) : List D -> Env -> Option RO
 | [], ρ => some (.nx ρ)
 | d :: l, ρ => (g d ρ).bind fun ρ1 => (m ρ1).bind fun o => match o with | .nx ρ2 => IT g m l ρ2 | .rz N => some (.rz N)
@[simp] def Op (e : XA) (g : XG) (m : XR) : XR := fun ρ => (e ρ).bind fun l => IT g m l ρ
end
end M
namespace L2
open PySem
structure Ak (CX : CXT) (n : Nat) (x : Str) (ps : List Str) (sp : W.Frag -> Sp) (P : Program) (w : World) (K : W.Frag) (mg : Str -> Option Value) (base : Heap) (f : Addr) (fd : FuncData) : Prop where
 G : FnOk P w K mg base CX n f fd ps (sp K)
 m : mg x = some (.ref f)
 k : W.keepIn K (.ref f) = true
 b : Binds K fd ps []
structure Am (n : Nat) (x : Str) (Ns : List Str) (ps : List Str) (sp : W.Frag -> Sp) (P : Program) (w : World) (K : W.Frag) (mg : Str -> Option Value) (base : Heap) (f : Addr) (fd : FuncData) : Prop where
 G : FnOk P w K mg base CX0 n f fd ps (sp K)
 b : Binds K fd ps []
 cm : qL K Ns fun C => Cls K C /\ Meth K C x f
structure Ac (CX : CXT) (n : Nat) (x : Str) (ps : List Str) (sp : W.Frag -> Sp) (P : Program) (w : World) (K : W.Frag) (mg : Str -> Option Value) (base : Heap) (c f : Addr) (fd : FuncData) : Prop where
 G : FnOk P w K mg base CX n f fd ps (sp K)
 b : Binds K fd ps []
 n : W.nsIn K mainGlobals x = some (some (.ref c))
 M : Mk K c f
 g : mg x = some (.ref c)
structure Ab (n : Nat) (x : Str) (ps : List Str) (sp : W.Frag -> Sp) (P : Program) (w : World) (K : W.Frag) (mg : Str -> Option Value) (base : Heap) (c f : Addr) (fd : FuncData) : Prop where
 G : FnOk P w K mg base CX0 n f fd ps (sp K)
 b : Binds K fd ps []
 cf : ClsFn K c "__init__" f
 g : mg x = some (.ref c)
theorem usS {us : List Value} {n : Nat} (h : us.length = n + 1) : ∃ a v, us = a :: v /\ v.length = n := by
 cases us with
 | nil => cases h
 | cons a v => exact ⟨a, v, rfl, Nat.succ.inj h⟩
theorem us1 {us : List Value} (h : us.length = 1) : ∃ a0, us = [a0] := by
 obtain ⟨a0, v0, rfl, h0⟩ := usS h
 cases v0 with
 | nil => exact ⟨a0, rfl⟩
 | cons a v => cases h0
theorem us2 {us : List Value} (h : us.length = 2) : ∃ a0 a1, us = [a0, a1] := by
 obtain ⟨a0, v0, rfl, h0⟩ := usS h
 obtain ⟨a1, v1, rfl, h1⟩ := usS h0
 cases v1 with
 | nil => exact ⟨a0, a1, rfl⟩
 | cons a v => cases h1
theorem us3 {us : List Value} (h : us.length = 3) : ∃ a0 a1 a2, us = [a0, a1, a2] := by
 obtain ⟨a0, v0, rfl, h0⟩ := usS h
 obtain ⟨a1, v1, rfl, h1⟩ := usS h0
 obtain ⟨a2, v2, rfl, h2⟩ := usS h1
 cases v2 with
 | nil => exact ⟨a0, a1, a2, rfl⟩
 | cons a v => cases h2
theorem us4 {us : List Value} (h : us.length = 4) : ∃ a0 a1 a2 a3, us = [a0, a1, a2, a3] := by
 obtain ⟨a0, v0, rfl, h0⟩ := usS h
 obtain ⟨a1, v1, rfl, h1⟩ := usS h0
 obtain ⟨a2, v2, rfl, h2⟩ := usS h1
 obtain ⟨a3, v3, rfl, h3⟩ := usS h2
 cases v3 with
 | nil => exact ⟨a0, a1, a2, a3, rfl⟩
 | cons a v => cases h3
theorem us5 {us : List Value} (h : us.length = 5) : ∃ a0 a1 a2 a3 a4, us = [a0, a1, a2, a3, a4] := by
 obtain ⟨a0, v0, rfl, h0⟩ := usS h
 obtain ⟨a1, v1, rfl, h1⟩ := usS h0
 obtain ⟨a2, v2, rfl, h2⟩ := usS h1
 obtain ⟨a3, v3, rfl, h3⟩ := usS h2
 obtain ⟨a4, v4, rfl, h4⟩ := usS h3
 cases v4 with
 | nil => exact ⟨a0, a1, a2, a3, a4, rfl⟩
 | cons a v => cases h4
theorem pL {K : W.Frag} {P : Addr -> Prop} : qL K [] P := fun _ h => by cases h
theorem fK {K : W.Frag} {P : Addr -> Prop} {N : Str} {Ns : List Str} {c : Addr} (h : W.nsIn K mainGlobals N = some (some (.ref c))) (p : P c) (r : qL K Ns P) : qL K (N :: Ns) P := fun M hM C hC => by
 rcases Ps.mp hM with rfl | hM
 ·rw [h] at hC
  cases hC
  exact p
 ·exact r M hM C hC
end L2
namespace L2
open PySem PySem.Spec PyProof.Rows M
section
variable {X : Cx}
end
end L2
namespace M
open PySem L2
section
variable {K : W.Frag}
end
end M
namespace L2
open PySem PySem.Spec PyProof.Rows
def Jx (a c : Int) (n : Nat) : It := ⟨fun i _ => i < n, fun i H x H' => H' = H /\ x = .int (a + i * c), fun i _ => n <= i⟩
def IR (ta : TA) : TI := fun σ H R => ta σ H fun vs H1 => ∃ a j c : Int, vs = [.int a, .int j, .int c] /\ c ≠ 0 /\ (-1000000 < c /\ c < 1000000) /\ Builtin.Range.small a j c = true /\ R (Jx a c (Builtin.Range.rangeSize a j c).toNat) H1
section
variable {X : Cx} {tg : Expr}
theorem D3 {P : Program} {w : World} {K : W.Frag} (it : Addr) (a c : Int) (n : Nat) : Turn P w K tg (Jx a c n) [it] it (fun i h => IsRangeIter h it (a + (i : Nat) * c) ((n : Int) - (i : Nat)) c) where
 mem := by simp
 obj := fun i h st b hb => by
  rw [Pg.mp hb]
  exact ⟨_, st, fun v z => by have z' : Data.fields _ = Data.cell v := z; cases z'⟩
 keep := fun i h h' st k => k it (by simp) _ st
 item := by
  intro X hP hw hK hc i pins s σ H E I hf st hg
  subst hP hw hK
  obtain ⟨f0, f1, f2, f3, f4, f5⟩ := hf it (by simp)
  refine (Walks.range (prog := X.prog) (w := X.w) (I.ok.hd hc) it a c n).item i s _ _ hg st fun v h' tk hv st' kk => ?_
  obtain ⟨t, rfl⟩ := hv
  have I1 : Inv X pins σ H { s with heap := h', toks := tk } := I.turned (fun b o hb e => kk b o (fun z => hb (Pg.mp z)) e) f0 f1 f3 f4 f5
  exact ⟨_, rfl, xP (s := { s with heap := h', toks := tk }) (n := "range_iterator") st' rfl rfl (by decide) ⟨.int (a + i * c), H, I1, ⟨t, rfl⟩, ⟨rfl, rfl⟩, st', fun b hb => (hf b hb).1⟩⟩
 done := by
  intro X hP hw hK hc i pins s σ H E I hf st hg
  subst hP hw hK
  obtain ⟨f0, f1, f2, f3, f4, f5⟩ := hf it (by simp)
  exact RF (I.ok.hd hc) st (by have : n <= i := hg; lia) fun h' eb => ⟨rfl, I.turned (t' := s.toks) (fun b o hb e => eb b o hb e) f0 f1 f3 f4 f5⟩
 self := fun _ _ _ _ _ st h => RG st h
theorem HM {pins : List (Addr × Obj)} {σ : St} {H : Hp} {s : Shared} {R : It -> Hp -> Prop} {E : Value -> Shared -> Prop} {a j c : Int} {t u v : Tok} {tk : Nat} (I : Inv X pins σ H s) (hs : Builtin.Range.small a j c = true) (q : R (Jx a c (Builtin.Range.rangeSize a j c).toNat) H) :
  wpAny (model X.prog X.w) X.A (pyIter (.ref s.heap.objs.size)) (PIE X pins σ tg R) E { s with heap := s.heap.push { cls := .type "range", data := .fields #[.int a t, .int j u, .int c v] }, toks := tk } := by
 refine wpAny_pyIter_range (IsRange.new ..) hs ?_
 have I1 : Inv X pins σ H { s with heap := s.heap.push { cls := .type "range", data := .fields #[.int a t, .int j u, .int c v] }, toks := tk } := I.kept fun b o e => Px _ e
 refine ⟨(s.heap.push { cls := .type "range", data := .fields #[.int a t, .int j u, .int c v] }).objs.size, [(s.heap.push { cls := .type "range", data := .fields #[.int a t, .int j u, .int c v] }).objs.size], _, _, H, rfl, I1.kept (t' := tk) fun b o e => Px _ e, D3 _ a c (Builtin.Range.rangeSize a j c).toNat, ?_, fun b hb => ?_, q⟩
 ·have e1 : a + ((0 : Nat) : Int) * c = a := by simp
  have e2 : (((Builtin.Range.rangeSize a j c).toNat : Nat) : Int) - ((0 : Nat) : Int) = Builtin.Range.rangeSize a j c := by rw [<- rangeSize_toNat]; simp
  show IsRangeIter _ _ (a + ((0 : Nat) : Int) * c) ((((Builtin.Range.rangeSize a j c).toNat : Nat) : Int) - ((0 : Nat) : Int)) c
  rw [e1, e2]
  exact PV _ rfl
 ·rw [Pg.mp hb]
  exact I1.fpOk (Pi _) I1.fresh
theorem Ee {a b c : Expr} {ta : TA} {p pos : Pos} (hg : Gl X "range") (hm : X.mg "range" = none) (ha : PA X [a, b, c] ta) (hs : starEach [a, b, c] X.env = (false, eval a X.env) :: starEach [b, c] X.env := by rfl)
  (hp : (backTo pos (starEach [b, c] X.env)).any (·.1) = false := by rfl) : PI X tg (.Call (.Name "range" p) [a, b, c] [] pos) (IR ta) := by
 intro pins s σ H R I h
 refine Call_ (oS I hg hm boot_range (Rc (thn (ha pos pins s σ H _ I h) fun us s1 h1 => ?_) hs hp))
 obtain ⟨vs, H1, I1, r1, x, j, y, rfl, q1, ⟨q3, q4⟩, q2, q⟩ := h1
 cases r1 with
 | cons r rr =>
  cases rr with
  | cons r' rr =>
   cases rr with
   | cons r'' rr =>
    cases rr
    obtain ⟨t, rfl⟩ := r
    obtain ⟨t', rfl⟩ := r'
    obtain ⟨t'', rfl⟩ := r''
    exact call_range_3 q1 (HM I1 q2 q)
end
end L2
namespace M
open PySem L2
section
variable {K : W.Frag} {S H : Hp}
def tQ (a c : Int) (n : Nat) : List D := (List.range n).map fun i : Nat => D.int (a + (i : Int) * c)
def Dp : List D -> Option (List D)
 | [.int a, .int j, .int c] => ifC (c ≠ 0 /\ (-1000000 < c /\ c < 1000000) /\ Builtin.Range.small a j c = true) (some (tQ a c (Builtin.Range.rangeSize a j c).toNat)) none
 | _ => none
@[simp] def Fh (a : XA) : XA := fun ρ => (a ρ).bind Dp
theorem Ki {t : TA} {a : XA} (h : SAP K t a) : SI K (IR t) (Fh a) := fun ρ σ S H R l r x k => by
 unfold Fh at x
 cases q : a ρ with
 | none => rw [q] at x; cases x
 | some ds =>
  rw [q] at x
  dsimp only [Option.bind] at x
  unfold Dp at x
  split at x
  ·rename_i aa j bb
   obtain ⟨⟨h1, h3, h2⟩, rfl⟩ := iQ x
   refine h ρ σ S H _ _ r q fun vs S1 H1 z1 d1 => ?_
   cases d1 with
   | cons a1 d1 => cases d1 with
    | cons a2 d1 => cases d1 with
     | cons a3 d1 =>
      cases d1
      refine ⟨aa, j, bb, by rw [a1.int, a2.int, a3.int], h1, h3, h2, k _ S1 H1 z1 fun S' H' _ _ => ⟨fun i d h => ?_, by unfold tQ; rw [Ph, RB]; exact Pi _⟩⟩
      unfold tQ at h
      rw [PD] at h
      cases qi : (List.range (Builtin.Range.rangeSize aa j bb).toNat)[i]? with
      | none => rw [qi] at h; cases h
      | some i' =>
       rw [qi] at h
       cases h
       obtain ⟨hi, e⟩ := Pw.mp qi
       rw [List.getElem_range] at e
       subst e
       rw [RB] at hi
       exact ⟨hi, fun x H'' y => ⟨y.1, den_int.mpr y.2⟩⟩
  ·cases x
end
end M
namespace L2
open PySem PySem.Spec PyProof.Rows
section
variable {X : Cx}
end
end L2
namespace M
open PySem L2
section
variable {K : W.Frag}
def LR : D -> Option (List D)
 | .int j => ifC (0 <= j /\ j < 1000000) (some ((List.range j.toNat).map fun i : Nat => D.int (i : Int))) none
 | _ => none
@[simp] def M2 (a : XE) : XA := fun ρ => (a ρ).bind LR
end
end M
namespace L2
open PySem PySem.Spec PyProof.Rows
section
variable {X : Cx} {pins : List (Addr × Obj)} {σ : List (Option V)} {H H' : Hp} {s : Shared} {h' : Heap}
end
section
variable {X : Cx}
end
end L2
namespace M
open PySem L2
section
variable {K : W.Frag} {S S' H H' : Hp}
def enL (k : Nat) : List D -> List D
 | [] => []
 | d :: l => .tup [.int (k : Int), d] :: enL (k + 1) l
@[simp] def OZ (a : XE) : XA := fun ρ => (a ρ).bind fun d => match d with | .lst l => some (enL 0 l) | _ => none
end
end M
namespace L2
open PySem PySem.Spec PyProof.Rows M
section
variable {X : Cx}
end
end L2
namespace M
open PySem L2
section
variable {K : W.Frag}
end
section
variable {K : W.Frag} {S S' H H' : Hp}
@[simp] def OU (i : Nat) (p : XP) : XA := fun ρ => match ρ[i]? with
 | some (.ow o) => (p ρ).bind fun is => match eV o is with | some (.lst l) => shs l | _ => none
 | _ => none
end
end M
namespace TL
open PySem PyProof.Rows
section
variable {prog : Program} {w : World} {A : Around} {E : Value -> Shared -> Prop} {s : Shared}
end
end TL
namespace L2
open PySem PySem.Spec PyProof.Rows
section
variable {X : Cx}
end
end L2
namespace M
open PySem L2
section
variable {K : W.Frag}
end
end M
namespace L2
open PySem PySem.Spec PyProof.Rows
section
variable {X : Cx}
end
end L2
namespace M
open PySem L2
section
variable {K : W.Frag}
end
end M
namespace TL
open PySem PyProof.Rows
section
variable {prog : Program} {w : World} {A : Around} {R : Result -> Shared -> Prop} {I : Addr} {fp wr : List Addr} {n : Nat} {P : Nat -> Value -> Prop} {St : Nat -> Heap -> Prop} {h0 : Heap}
end
section
variable {prog : Program} {w : World} {A : Around} {E : Value -> Shared -> Prop} {s : Shared}
end
end TL
namespace L2
open PySem PySem.Spec PyProof.Rows
section
variable {X : Cx}
end
end L2
namespace M
open PySem L2
section
variable {K : W.Frag}
end
section
variable {K : W.Frag} {S S' H H' : Hp}
end
section
variable {K : W.Frag}
@[simp] def Na (f g : D -> D -> Option D) (a b c : XE) : XE := fun ρ => (a ρ).bind fun x => (b ρ).bind fun y => (f x y).bind fun z => match z with
 | .bl true => (c ρ).bind fun w => g y w
 | .bl false => some (.bl false)
 | _ => none
end
end M
namespace Rw
abbrev R := List (Int × Int)
def Mem (r : R) (x : Int) : Prop := ∃ p ∈ r, p.1 <= x /\ x <= p.2
def Ok (r : R) : Prop := ∀ p ∈ r, p.1 <= p.2
def bh (r : R) : Prop := Ok r /\ r.Pairwise fun p q => p.2 + 2 <= q.1
theorem bz (x : Int) : ¬ Mem [] x := by rintro ⟨p, h, _⟩; cases h
theorem mem_cons (p : Int × Int) (r : R) (x : Int) : Mem (p :: r) x ↔ (p.1 <= x /\ x <= p.2) \/ Mem r x := by
 constructor
 ·rintro ⟨q, h, e⟩
  rcases Ps.mp h with rfl | h
  ·exact .inl e
  ·exact .inr ⟨q, h, e⟩
 ·rintro (e | ⟨q, h, e⟩)
  ·exact ⟨p, Pl, e⟩
  ·exact ⟨q, Pn _ h, e⟩
theorem mem_append (r t : R) (x : Int) : Mem (r ++ t) x ↔ Mem r x \/ Mem t x := by
 constructor
 ·rintro ⟨q, h, e⟩
  rcases Pk.mp h with h | h
  ·exact .inl ⟨q, h, e⟩
  ·exact .inr ⟨q, h, e⟩
 ·rintro (⟨q, h, e⟩ | ⟨q, h, e⟩)
  ·exact ⟨q, Po _ h, e⟩
  ·exact ⟨q, Pr _ h, e⟩
theorem FF {r t : R} (h : r.Perm t) (x : Int) : Mem r x ↔ Mem t x :=
 ⟨fun ⟨q, m, e⟩ => ⟨q, h.mem_iff.mp m, e⟩, fun ⟨q, m, e⟩ => ⟨q, h.mem_iff.mpr m, e⟩⟩
theorem mem_filter (r : R) (x : Int) : Mem (r.filter fun p => decide (p.1 <= p.2)) x ↔ Mem r x := by
 constructor
 ·rintro ⟨q, m, e⟩
  exact ⟨q, (PR.mp m).1, e⟩
 ·rintro ⟨q, m, e⟩
  exact ⟨q, PR.mpr ⟨m, by simp; lia⟩, e⟩
theorem ir : bh [] := ⟨fun _ h => (by cases h), .nil⟩
theorem canon_cons {p : Int × Int} {r : R} : bh (p :: r) ↔ p.1 <= p.2 /\ (∀ q ∈ r, p.2 + 2 <= q.1) /\ bh r := by
 constructor
 ·rintro ⟨h1, h2⟩
  have h3 := QN.mp h2
  exact ⟨h1 p Pl, h3.1, fun q hq => h1 q (Pn _ hq), h3.2⟩
 ·rintro ⟨h1, h2, h3, h4⟩
  refine ⟨fun q hq => ?_, QN.mpr ⟨h2, h4⟩⟩
  rcases Ps.mp hq with rfl | hq
  ·exact h1
  ·exact h3 q hq
theorem eI {p : Int × Int} {r : R} (c : bh (p :: r)) {x : Int} (h : Mem r x) : p.2 + 2 <= x := by
 obtain ⟨q, m, e, _⟩ := h
 have := (canon_cons.mp c).2.1 q m
 lia
theorem xj {p : Int × Int} {r : R} (c : bh (p :: r)) {x : Int} (h : Mem (p :: r) x) : p.1 <= x := by
 rcases (mem_cons p r x).mp h with h | h
 ·exact h.1
 ·have := eI c h
  have := (canon_cons.mp c).1
  lia
theorem GN : ∀ {r t : R}, bh r -> bh t -> (∀ x, Mem r x ↔ Mem t x) -> r = t
 | [], [], _, _, _ => rfl
 | [], q :: t, _, ct, h => by
  have := (h q.1).mpr ((mem_cons ..).mpr (.inl ⟨PB _, (canon_cons.mp ct).1⟩))
  exact (bz _ this).elim
 | p :: r, [], cr, _, h => by
  have := (h p.1).mp ((mem_cons ..).mpr (.inl ⟨PB _, (canon_cons.mp cr).1⟩))
  exact (bz _ this).elim
 | p :: r, q :: t, cr, ct, h => by
  have hp := (canon_cons.mp cr).1
  have hq := (canon_cons.mp ct).1
  have a1 : q.1 <= p.1 := xj ct ((h p.1).mp ((mem_cons ..).mpr (.inl ⟨PB _, hp⟩)))
  have a2 : p.1 <= q.1 := xj cr ((h q.1).mpr ((mem_cons ..).mpr (.inl ⟨PB _, hq⟩)))
  have e1 : p.1 = q.1 := by lia
  have n1 : ¬ Mem (p :: r) (p.2 + 1) := fun m => by
   rcases (mem_cons ..).mp m with m | m
   ·lia
   ·have := eI cr m; lia
  have n2 : ¬ Mem (q :: t) (q.2 + 1) := fun m => by
   rcases (mem_cons ..).mp m with m | m
   ·lia
   ·have := eI ct m; lia
  have e2 : p.2 = q.2 := by
   by_cases l1 : p.2 < q.2
   ·exact (n1 ((h _).mpr ((mem_cons ..).mpr (.inl ⟨by lia, by lia⟩)))).elim
   ·by_cases l2 : q.2 < p.2
    ·exact (n2 ((h _).mp ((mem_cons ..).mpr (.inl ⟨by lia, by lia⟩)))).elim
    ·lia
  have e : p = q := by
   obtain ⟨a, b⟩ := p
   obtain ⟨c, d⟩ := q
   simp only at e1 e2
   rw [e1, e2]
  subst e
  have ih : r = t := GN (canon_cons.mp cr).2.2 (canon_cons.mp ct).2.2 fun x => by
   constructor
   ·intro m
    rcases (mem_cons ..).mp ((h x).mp ((mem_cons ..).mpr (.inr m))) with k | k
    ·have := eI cr m; lia
    ·exact k
   ·intro m
    rcases (mem_cons ..).mp ((h x).mpr ((mem_cons ..).mpr (.inr m))) with k | k
    ·have := eI ct m; lia
    ·exact k
  rw [ih]
def step (acc : R) (p : Int × Int) : R :=
 match acc.getLast? with
 | none => [p]
 | some q => if p.1 <= q.2 + 1 then acc.dropLast ++ [(q.1, if p.2 > q.2 then p.2 else q.2)] else acc ++ [p]
def nO (l : R) : R := l.foldl step []
theorem u7 (p : Int × Int) : step [] p = [p] := rfl
theorem im (t : R) (q p : Int × Int) : step (t ++ [q]) p = if p.1 <= q.2 + 1 then t ++ [(q.1, if p.2 > q.2 then p.2 else q.2)] else t ++ [q] ++ [p] := by
 unfold step
 simp
theorem canon_snoc {t : R} {q : Int × Int} : bh (t ++ [q]) ↔ bh t /\ q.1 <= q.2 /\ ∀ p ∈ t, p.2 + 2 <= q.1 := by
 constructor
 ·rintro ⟨h1, h2⟩
  have h3 := PP.mp h2
  exact ⟨⟨fun p hp => h1 p (Po _ hp), h3.1⟩, h1 q (Pr _ Pl), fun p hp => h3.2.2 p hp q Pl⟩
 ·rintro ⟨⟨h1, h2⟩, h3, h4⟩
  refine ⟨fun p hp => ?_, PP.mpr ⟨h2, .cons (fun _ h => (by cases h)) .nil, fun p hp x hx => ?_⟩⟩
  ·rcases Pk.mp hp with hp | hp
   ·exact h1 p hp
   ·rw [Pg.mp hp]; exact h3
  ·rw [Pg.mp hx]; exact h4 p hp
theorem CV {acc : R} {p : Int × Int} (c : bh acc) (hp : p.1 <= p.2) (lo : ∀ q ∈ acc, q.1 <= p.1) :
  bh (step acc p) /\ (∀ x, Mem (step acc p) x ↔ Mem acc x \/ (p.1 <= x /\ x <= p.2)) /\ (∀ q ∈ step acc p, q.1 <= p.1) := by
 rcases P7 acc with rfl | ⟨t, q, rfl⟩
 ·rw [u7]
  refine ⟨canon_cons.mpr ⟨hp, fun _ h => (by cases h), ir⟩, fun x => ?_, fun q hq => ?_⟩
  ·rw [mem_cons]
   constructor
   ·rintro (h | h)
    ·exact .inr h
    ·exact .inl h
   ·rintro (h | h)
    ·exact .inr h
    ·exact .inl h
  ·rw [Pg.mp hq]; exact PB _
 ·rw [P9] at *
  obtain ⟨ct, hq, ht⟩ := canon_snoc.mp c
  have lq : q.1 <= p.1 := lo q (Pr _ Pl)
  rw [im]
  by_cases h : p.1 <= q.2 + 1
  ·rw [Pa h]
   have m : ∀ z, (if p.2 > q.2 then p.2 else q.2) = z -> q.2 <= z /\ p.2 <= z /\ (z = p.2 \/ z = q.2) := fun z e => by
    split at e <;> lia
   obtain ⟨m1, m2, m3⟩ := m _ rfl
   generalize (if p.2 > q.2 then p.2 else q.2) = z at *
   refine ⟨canon_snoc.mpr ⟨ct, by dsimp only; lia, ht⟩, fun x => ?_, fun s hs => ?_⟩
   ·rw [mem_append, mem_append, mem_cons, mem_cons]
    dsimp only
    constructor
    ·rintro (k | k | k)
     ·exact .inl (.inl k)
     ·by_cases hx : x <= q.2
      ·exact .inl (.inr (.inl ⟨k.1, hx⟩))
      ·right; lia
     ·exact (bz _ k).elim
    ·rintro ((k | k | k) | k)
     ·exact .inl k
     ·right; left; lia
     ·exact (bz _ k).elim
     ·right; left; lia
   ·rcases Pk.mp hs with hs | hs
    ·exact lo s (Po _ hs)
    ·rw [Pg.mp hs]; exact lq
  ·rw [Pb h]
   refine ⟨canon_snoc.mpr ⟨c, hp, fun s hs => ?_⟩, fun x => ?_, fun s hs => ?_⟩
   ·rcases Pk.mp hs with hs | hs
    ·have := ht s hs; lia
    ·rw [Pg.mp hs]; lia
   ·rw [mem_append, mem_cons]
    constructor
    ·rintro (k | k | k)
     ·exact .inl k
     ·exact .inr k
     ·exact (bz _ k).elim
    ·rintro (k | k)
     ·exact .inl k
     ·exact .inr (.inl k)
   ·rcases Pk.mp hs with hs | hs
    ·exact lo s hs
    ·rw [Pg.mp hs]; exact PB _
theorem Dc : ∀ (l : R) (acc : R), bh acc -> Ok l -> l.Pairwise (fun p q => p.1 <= q.1) -> (∀ q ∈ acc, ∀ p ∈ l, q.1 <= p.1) ->
  bh (l.foldl step acc) /\ ∀ x, Mem (l.foldl step acc) x ↔ Mem acc x \/ Mem l x
 | [], acc, c, _, _, _ => ⟨c, fun x => ⟨fun h => .inl h, fun h => h.elim id fun k => (bz _ k).elim⟩⟩
 | p :: l, acc, c, o, w, lo => by
  obtain ⟨w1, w2⟩ := QN.mp w
  obtain ⟨c1, m1, l1⟩ := CV c (o p Pl) fun q hq => lo q hq p Pl
  obtain ⟨c2, m2⟩ := Dc l (step acc p) c1 (fun q hq => o q (Pn _ hq)) w2 fun q hq s hs => by
   have := l1 q hq
   have := w1 s hs
   lia
  refine ⟨c2, fun x => ?_⟩
  show Mem (l.foldl step (step acc p)) x ↔ _
  rw [m2, m1, mem_cons, or_assoc]
def IC (ps r : R) : Prop := bh r /\ ∀ x, Mem r x ↔ Mem ps x
theorem Fk {l ps : R} (o : Ok l) (w : l.Pairwise fun p q => p.1 <= q.1) (h : ∀ x, Mem l x ↔ Mem ps x) : IC ps (nO l) := by
 obtain ⟨c, m⟩ := Dc l [] ir o w fun _ h => (by cases h)
 exact ⟨c, fun x => by
  show Mem (l.foldl step []) x ↔ _
  rw [m x, <- h x]
  exact ⟨fun k => k.elim (fun z => (bz _ z).elim) id, .inr⟩⟩
def nF (r : R) (lo hi : Int) : R := r.map fun p => (p.1 + lo, p.2 + hi)
theorem D2 (r : R) (lo hi x : Int) : Mem (nF r lo hi) x ↔ ∃ p ∈ r, p.1 + lo <= x /\ x <= p.2 + hi := by
 constructor
 ·rintro ⟨q, m, e⟩
  obtain ⟨p, hp, rfl⟩ := Pp.mp m
  exact ⟨p, hp, e⟩
 ·rintro ⟨p, hp, e⟩
  exact ⟨_, Pp.mpr ⟨p, hp, rfl⟩, e⟩
theorem Fs {r : R} (o : Ok r) {lo hi : Int} (hl : lo <= hi) : Ok (nF r lo hi) := fun q m => by
 obtain ⟨p, hp, rfl⟩ := Pp.mp m
 have := o p hp
 dsimp only
 lia
end Rw
namespace Rw
def dM : R -> R -> R
 | [], _ => []
 | _ :: _, [] => []
 | p :: s, q :: t => (if max p.1 q.1 <= min p.2 q.2 then [(max p.1 q.1, min p.2 q.2)] else []) ++ (if p.2 < q.2 then dM s (q :: t) else dM (p :: s) t)
termination_by s t => s.length + t.length
theorem eg (s : R) : dM s [] = [] := by cases s <;> simp [dM]
theorem e8 (t : R) : dM [] t = [] := by simp [dM]
theorem Di : ∀ (n : Nat) (s t : R), s.length + t.length = n -> ∀ r ∈ dM s t, (∃ p ∈ s, p.1 <= r.1 /\ r.2 <= p.2) /\ (∃ q ∈ t, q.1 <= r.1 /\ r.2 <= q.2) /\ r.1 <= r.2 := by
 intro n
 induction n using Nat.strongRecOn with
 | ind n ih =>
  intro s t hn r hr
  match s, t with
  | [], t => rw [e8] at hr; cases hr
  | p :: s, [] => rw [eg] at hr; cases hr
  | p :: s, q :: t =>
   rw [dM] at hr
   rcases Pk.mp hr with hr | hr
   ·split at hr
    ·rename_i h
     rw [Pg.mp hr]
     refine ⟨⟨p, Pl, ?_, ?_⟩, ⟨q, Pl, ?_, ?_⟩, h⟩ <;> dsimp only <;> lia
    ·cases hr
   ·split at hr
    ·obtain ⟨⟨p', h1, h2⟩, h3⟩ := ih (s.length + (q :: t).length) (by simp at hn ⊢; lia) s (q :: t) rfl r hr
     exact ⟨⟨p', Pn _ h1, h2⟩, h3⟩
    ·obtain ⟨h1, ⟨q', h2, h3⟩, h4⟩ := ih ((p :: s).length + t.length) (by simp at hn ⊢; lia) (p :: s) t rfl r hr
     exact ⟨h1, ⟨q', Pn _ h2, h3⟩, h4⟩
theorem FZ : ∀ (n : Nat) (s t : R), s.length + t.length = n -> bh s -> bh t -> ∀ x, Mem (dM s t) x ↔ Mem s x /\ Mem t x := by
 intro n
 induction n using Nat.strongRecOn with
 | ind n ih =>
  intro s t hn cs ct x
  match s, t with
  | [], t => rw [e8]; exact ⟨fun h => (bz _ h).elim, fun h => (bz _ h.1).elim⟩
  | p :: s, [] => rw [eg]; exact ⟨fun h => (bz _ h).elim, fun h => (bz _ h.2).elim⟩
  | p :: s, q :: t =>
   have hp := (canon_cons.mp cs).1
   have hq := (canon_cons.mp ct).1
   have cs' := (canon_cons.mp cs).2.2
   have ct' := (canon_cons.mp ct).2.2
   have first : Mem (if max p.1 q.1 <= min p.2 q.2 then [(max p.1 q.1, min p.2 q.2)] else []) x ↔ (p.1 <= x /\ x <= p.2) /\ (q.1 <= x /\ x <= q.2) := by
    split
    ·rw [mem_cons]
     constructor
     ·rintro (h | h)
      ·dsimp only at h; lia
      ·exact (bz _ h).elim
     ·intro h
      left
      dsimp only
      lia
    ·constructor
     ·intro h; exact (bz _ h).elim
     ·intro h; lia
   rw [dM, mem_append, first]
   split
   ·rename_i hlt
    rw [ih (s.length + (q :: t).length) (by simp at hn ⊢; lia) s (q :: t) rfl cs' ct x, mem_cons p s, mem_cons q t]
    constructor
    ·rintro (h | ⟨h1, h2⟩)
     ·exact ⟨.inl h.1, .inl h.2⟩
     ·exact ⟨.inr h1, h2⟩
    ·rintro ⟨h1 | h1, h2 | h2⟩
     ·exact .inl ⟨h1, h2⟩
     ·have := eI ct h2; lia
     ·exact .inr ⟨h1, .inl h2⟩
     ·exact .inr ⟨h1, .inr h2⟩
   ·rename_i hge
    rw [ih ((p :: s).length + t.length) (by simp at hn ⊢; lia) (p :: s) t rfl cs ct' x, mem_cons p s, mem_cons q t]
    constructor
    ·rintro (h | ⟨h1, h2⟩)
     ·exact ⟨.inl h.1, .inl h.2⟩
     ·exact ⟨h1, .inr h2⟩
    ·rintro ⟨h1 | h1, h2 | h2⟩
     ·exact .inl ⟨h1, h2⟩
     ·exact .inr ⟨.inl h1, h2⟩
     ·have := eI cs h1; lia
     ·exact .inr ⟨.inr h1, h2⟩
theorem Bo : ∀ (n : Nat) (s t : R), s.length + t.length = n -> bh s -> bh t -> bh (dM s t) := by
 intro n
 induction n using Nat.strongRecOn with
 | ind n ih =>
  intro s t hn cs ct
  match s, t with
  | [], t => rw [e8]; exact ir
  | p :: s, [] => rw [eg]; exact ir
  | p :: s, q :: t =>
   have cs' := (canon_cons.mp cs).2.2
   have ct' := (canon_cons.mp ct).2.2
   rw [dM]
   have rest : bh (if p.2 < q.2 then dM s (q :: t) else dM (p :: s) t) /\ ∀ r ∈ (if p.2 < q.2 then dM s (q :: t) else dM (p :: s) t), min p.2 q.2 + 2 <= r.1 := by
    split
    ·rename_i hlt
     refine ⟨ih (s.length + (q :: t).length) (by simp at hn ⊢; lia) s (q :: t) rfl cs' ct, fun r hr => ?_⟩
     obtain ⟨⟨p', h1, h2, _⟩, _⟩ := Di _ s (q :: t) rfl r hr
     have := (canon_cons.mp cs).2.1 p' h1
     lia
    ·rename_i hge
     refine ⟨ih ((p :: s).length + t.length) (by simp at hn ⊢; lia) (p :: s) t rfl cs ct', fun r hr => ?_⟩
     obtain ⟨_, ⟨q', h1, h2, _⟩, _⟩ := Di _ (p :: s) t rfl r hr
     have := (canon_cons.mp ct).2.1 q' h1
     lia
   split
   ·rename_i h
    exact canon_cons.mpr ⟨h, rest.2, rest.1⟩
   ·rw [List.nil_append]; exact rest.1
theorem pN : ∀ (n : Nat) (s t : R), s.length + t.length = n -> (dM s t).length <= s.length + t.length := by
 intro n
 induction n using Nat.strongRecOn with
 | ind n ih =>
  intro s t hn
  match s, t with
  | [], t => rw [e8]; simp
  | p :: s, [] => rw [eg]; simp
  | p :: s, q :: t =>
   rw [dM, Pj]
   have h1 : (if max p.1 q.1 <= min p.2 q.2 then [(max p.1 q.1, min p.2 q.2)] else []).length <= 1 := by split <;> simp
   have h2 : (if p.2 < q.2 then dM s (q :: t) else dM (p :: s) t).length + 1 <= (p :: s).length + (q :: t).length := by
    split
    ·have := ih (s.length + (q :: t).length) (by simp at hn ⊢; lia) s (q :: t) rfl
     simp at this ⊢; lia
    ·have := ih ((p :: s).length + t.length) (by simp at hn ⊢; lia) (p :: s) t rfl
     simp at this ⊢; lia
   lia
def fm : List Int -> R
 | a :: b :: t => (a, b - 1) :: fm t
 | _ => []
def kI (x : Int) (l : List Int) : Nat := l.countP fun c => decide (c <= x)
theorem mT (x c : Int) (l : List Int) : kI x (c :: l) = kI x l + if c <= x then 1 else 0 := by
 unfold kI
 rw [List.countP_cons]
 by_cases h : c <= x <;> simp [h]
theorem rp {x : Int} {l : List Int} (h : ∀ c ∈ l, x < c) : kI x l = 0 := by
 unfold kI
 rw [List.countP_eq_zero]
 intro c hc
 have := h c hc
 simp; lia
theorem vi : ∀ (n : Nat) (l : List Int), l.length = 2 * n -> l.Pairwise (· <= ·) -> ∀ x, Mem (fm l) x ↔ kI x l % 2 = 1
 | 0, l, h, _, x => by
  have : l = [] := QM.mp (by lia)
  subst this
  exact ⟨fun h => (bz _ h).elim, fun h => by simp [kI] at h⟩
 | n + 1, l, h, w, x => by
  match l, h with
  | a :: b :: t, h =>
   obtain ⟨w1, w2⟩ := QN.mp w
   obtain ⟨w3, w4⟩ := QN.mp w2
   have hab := w1 b Pl
   have ih := vi n t (by simp at h; lia) w4 x
   rw [fm, mem_cons, ih, mT, mT]
   dsimp only
   by_cases hb : b <= x
   ·rw [Pa hb, Pa (by lia)]
    constructor
    ·rintro (k | k) <;> lia
    ·intro k; right; lia
   ·have z : kI x t = 0 := rp fun c hc => by have := w3 c hc; lia
    rw [z, Pb hb]
    by_cases ha : a <= x
    ·rw [Pa ha]; lia
    ·rw [Pb ha]; lia
theorem Ey {l m : List Int} (h : l.Perm m) (x : Int) : kI x l = kI x m := h.countP_eq _
theorem mr (x : Int) (l m : List Int) : kI x (l ++ m) = kI x l + kI x m := List.countP_append
theorem zU {r : R} (c : bh r) (x : Int) : (kI x (r.map (·.1)) + kI x (r.map (·.2 + 1))) % 2 = 1 ↔ Mem r x := by
 induction r with
 | nil => exact ⟨fun h => by simp [kI] at h, fun h => (bz _ h).elim⟩
 | cons p r ih =>
  obtain ⟨hp, h2, h3⟩ := canon_cons.mp c
  rw [Pt, Pt, mT, mT, mem_cons, <- ih h3]
  by_cases h : p.1 <= x /\ x <= p.2
  ·have z1 : kI x (r.map (·.1)) = 0 := rp fun c hc => by
    obtain ⟨q, hq, rfl⟩ := Pp.mp hc
    have := h2 q hq; lia
   have z2 : kI x (r.map (·.2 + 1)) = 0 := rp fun c hc => by
    obtain ⟨q, hq, rfl⟩ := Pp.mp hc
    have := h2 q hq; have := h3.1 q hq; lia
   rw [z1, z2, Pa h.1, Pb (by lia)]
   simp [h]
  ·by_cases h1 : p.1 <= x
   ·rw [Pa h1, Pa (by lia)]
    constructor
    ·intro k; right; lia
    ·rintro (k | k)
     ·exact absurd k h
     ·lia
   ·rw [Pb h1, Pb (by lia)]
    constructor
    ·intro k; right; lia
    ·rintro (k | k)
     ·exact absurd k h
     ·lia
theorem Fi {r t : R} (cr : bh r) (ct : bh t) (x : Int) : kI x ((r ++ t).map (·.1) ++ (r ++ t).map (·.2 + 1)) % 2 = 1 ↔ ((Mem r x /\ ¬ Mem t x) \/ (Mem t x /\ ¬ Mem r x)) := by
 rw [mr, Qc, Qc, mr, mr, <- zU cr x, <- zU ct x]
 lia
def zR (r t u : R) : Prop := bh u /\ ∀ x, Mem u x ↔ ((Mem r x /\ ¬ Mem t x) \/ (Mem t x /\ ¬ Mem r x))
def GJ (r t u : R) : Prop := bh u /\ ∀ x, Mem u x ↔ (Mem r x /\ ¬ Mem t x)
def G5 (r t u : R) : Prop := bh u /\ ∀ x, Mem u x ↔ (Mem r x /\ Mem t x)
theorem Hm {r t u v : R} (h : G5 r t u) (k : zR r u v) : GJ r t v := ⟨k.1, fun x => by
 rw [k.2 x, h.2 x]
 constructor
 ·rintro (⟨h1, h2⟩ | ⟨h1, h2⟩)
  ·exact ⟨h1, fun z => h2 ⟨h1, z⟩⟩
  ·exact absurd h1.1 h2
 ·rintro ⟨h1, h2⟩
  exact .inl ⟨h1, fun z => h2 z.2⟩⟩
end Rw
namespace P
open PySem L2 M
abbrev NS : List Str := ["Box", "Shape"]
def dr : XS := xIf (rn (xB (xOp (dEq false) (ai 8) (xOp bU (ai 3) (ai 4)))) (rn (xB (xOp dLe (ai 9) (xOp bU (ai 2) (ai 5)))) (xB (xOp dLe (xOp bU (ai 2) (ai 6)) (ai 10))))) (bQ (xC (.bl true)) (ag 7)) g9
def gN : XS := aU (bQ (xC (.bl false)) (ag 7)) (aU (fA (xIt (au 0)) (aM (aj (ag 8) (aj (ag 9) (aj (ag 10) aL)))) (dr)) (xIf (Cp (yK (ai 7))) (bT (xC (.bl false))) g9))
def j8 : XS := aU (fA (xIt (au 1)) (aM (aj (ag 4) (aj (ag 5) (aj (ag 6) aL)))) (gN)) (bT (xC (.bl true)))
def kx : List D -> Option O := fnO 11 j8
def gr : List D -> Option D := fun ds => (kx ds).map O.d
def iW : XS := aU (xIf (xB (xOp dLt (ai 1) (xCB pp (ad (ai 0) aq)))) (bT (xOp dIx (ai 0) (ai 1))) g9) (bT (xC (.int 0)))
def jy : List D -> Option O := fnO 2 iW
def dD : List D -> Option D := fun ds => (jy ds).map O.d
def dw : XS := xIf (rn (xB (xOp (dEq false) (ai 7) (xOp bU (ai 3) (ai 4)))) (rn (xB (xOp dLe (ai 8) (xOp bU (ai 2) (ai 6)))) (xB (xOp dLe (xOp bU (ai 2) (ai 5)) (ai 9))))) (bT (xC (.bl false))) g9
def hZ : XS := fA (xIt (au 0)) (aM (aj (ag 7) (aj (ag 8) (aj (ag 9) aL)))) (dw)
def i8 : XS := aU (fA (xIt (au 1)) (aM (aj (ag 4) (aj (ag 5) (aj (ag 6) aL)))) (hZ)) (bT (xC (.bl true)))
def jt : List D -> Option O := fnO 10 i8
def kH : List D -> Option D := fun ds => (jt ds).map O.d
def cM : XS := xIf (rn (xB (xOp dGt (xFl (xCB pp (ad (pR 1) aq))) (xC (.int 0)))) (rn (xB (xOp (dEq false) (xFl (xOp dIx (xOp dIx (pR 1) (xUn d9 (xC (.int 1)))) (xC (.int 0)))) (ai 2))) (xB (xOp dLe (ai 3) (xOp bU (xFl (xOp dIx (xOp dIx (xOp dIx (xOp dIx (pR 1) (xUn d9 (xC (.int 1)))) (xC (.int 1))) (xUn d9 (xC (.int 1)))) (xC (.int 1)))) (xC (.int 1))))))) (aU (F9 1 (xPi (xPi xPv (xUn d9 (xC (.int 1)))) (xC (.int 1))) 5) (jV 1 (xPi (xPi xPv (xUn d9 (xC (.int 1)))) (xC (.int 1))) (xSh (bg (ad (xOp dIx (ai 5) (xC (.int 0))) (ad (xCB uW (ad (xOp dIx (ai 5) (xC (.int 1))) (ad (ai 4) aq))) aq)))))) (xIf (rn (xB (xOp dGt (xFl (xCB pp (ad (pR 1) aq))) (xC (.int 0)))) (xB (xOp (dEq false) (xFl (xOp dIx (xOp dIx (pR 1) (xUn d9 (xC (.int 1)))) (xC (.int 0)))) (ai 2)))) (jV 1 (xPi (xPi xPv (xUn d9 (xC (.int 1)))) (xC (.int 1))) (xSh (bg (ad (au 3) (ad (au 4) aq))))) (jV 1 xPv (C0 (n4 (xSh (au 2)) (n4 (Dh (n4 (xSh (bg (ad (au 3) (ad (au 4) aq)))) AW)) AW)))))
def kR : XS := aU (mK (kF aq) 1) (aU (fA (xIt (xL (BH gD (ad (ai 0) aq)))) (aM (aj (ag 2) (aj (ag 3) (aj (ag 4) aL)))) (cM)) (Ho 1 (bT (xCB fY (ad (xL (dc [none, none] (xIt (au 1)) (aM (aj (ag 0) (aj (ag 1) aL))) cz (bg (ad (au 0) (ad (xCB fY (ad (ai 1) aq)) aq))))) aq)))))
def lP : List D -> Option O := fnO 6 kR
def cu : List D -> Option D := fun ds => (lP ds).map O.d
def iR : XS := aU (bQ (xOp gP (xOp jS (xOp lJ (ai 2) (xOp bU (xOp gP (xC (.int 11)) (ai 4)) (xC (.int 2)))) (xC (.int 3))) (ai 1)) (ag 5)) (jV 3 xPv (xSh (bg (ad (xOp e7 (xOp jS (xOp lJ (ai 2) (xOp bU (xOp gP (xC (.int 7)) (ai 4)) (xC (.int 3)))) (xC (.int 3))) (xC (.int 1))) (ad (au 5) (ad (au 5) aq))))))
def pI : XS := aU (bQ (xOp lJ (xOp jS (xOp gP (ai 0) (xC (.int 69621))) (xC (.int 2147483629))) (xC (.int 37))) (ag 2)) (aU (mK (kF (ad (bg (ad (xOp e7 (xOp jS (ai 2) (xC (.int 3))) (xC (.int 1))) (ad (xOp e7 (xOp jS (xOp lJ (ai 2) (xC (.int 5))) (xC (.int 5))) (xC (.int 2))) (ad (xOp bU (xOp e7 (xOp jS (xOp lJ (ai 2) (xC (.int 5))) (xC (.int 5))) (xC (.int 2))) (xOp gP (xOp jS (xOp lJ (ai 2) (xC (.int 35))) (xC (.int 2))) (ai 1))) aq)))) aq)) 3) (aU (fA (Jw (ad (xOp jS (xOp lJ (ai 2) (xC (.int 105))) (xC (.int 3))) aq)) (ag 4) (iR)) (xl 3)))
def rG : List D -> Option O := fnO 6 pI
def qu : List D -> Option D := fun ds => (rG ds).map O.d
def kt : XS := jV 2 xPv (xSh (bg (ad (au 9) (ad (xOp e7 (ai 3) (ai 6)) aq))))
def jd : XS := fA (xIt (xL (kF (ad (xOp e7 (ai 4) (ai 7)) (ad (xOp e7 (ai 4) (ai 8)) (ad (xOp e7 (ai 5) (ai 7)) (ad (xOp e7 (ai 5) (ai 8)) aq))))))) (ag 9) (kt)
def n6 : XS := fA (xIt (au 1)) (aM (aj (ag 6) (aj (ag 7) (aj (ag 8) aL)))) (jd)
def pP : XS := aU (mK (kF aq) 2) (aU (fA (xIt (au 0)) (aM (aj (ag 3) (aj (ag 4) (aj (ag 5) aL)))) (n6)) (xl 2))
def rD : List D -> Option O := fnO 10 pP
def u1 : List D -> Option D := fun ds => (rD ds).map O.d
def gf : XS := jV 1 xPv (xSh (bg (ad (au 2) (ad (au 4) (ad (au 5) aq)))))
def gh : XS := fA (xIt (au 3)) (aM (aj (ag 4) (aj (ag 5) aL))) (gf)
def hJ : XS := aU (mK (kF aq) 1) (aU (fA (xIt (au 0)) (aM (aj (ag 2) (aj (ag 3) aL))) (gh)) (xl 1))
def jN : List D -> Option O := fnO 6 hJ
def bO : List D -> Option D := fun ds => (jN ds).map O.d
def mY : XS := aU (bQ (xOp lJ (xOp jS (xOp gP (ai 0) (xC (.int 48271))) (xC (.int 2147483647))) (xC (.int 37))) (ag 2)) (aU (bQ (xOp bU (xOp gP (xOp e7 (xOp jS (xOp lJ (ai 2) (xC (.int 7))) (xC (.int 13))) (xC (.int 6))) (ai 1)) (xOp jS (xOp lJ (ai 2) (xC (.int 2000))) (xC (.int 2)))) (ag 3)) (bT (bg (ad (xOp e7 (xOp jS (ai 2) (xC (.int 7))) (xC (.int 3))) (ad (au 3) (ad (xOp bU (ai 3) (xOp gP (xOp jS (xOp lJ (ai 2) (xC (.int 91))) (xC (.int 8))) (ai 1))) aq))))))
def oA : List D -> Option O := fnO 4 mY
def j7 : List D -> Option D := fun ds => (oA ds).map O.d
def pF : XS := aU (xIf (xB (xOp (dEq false) (ai 0) (bg aq))) (bT (xC .non)) g9) (aU (bQ (xCB AL (ad (xL (dc [none, none] (xIt (ai 0)) (aM (aj (ag 0) (aj (ag 1) aL))) cz (xOp dIx (xOp dIx (ai 1) (xC (.int 0))) (xC (.int 0))))) aq)) (ag 1)) (aU (bQ (xCB Ag (ad (xL (dc [none, none] (xIt (ai 0)) (aM (aj (ag 0) (aj (ag 1) aL))) cz (xOp dIx (xOp dIx (ai 1) (xUn d9 (xC (.int 1)))) (xC (.int 1))))) aq)) (ag 2)) (bT (bg (ad (au 1) (ad (xOp dIx (xOp dIx (ai 0) (xC (.int 0))) (xC (.int 0))) (ad (au 2) (ad (xOp dIx (xOp dIx (ai 0) (xUn d9 (xC (.int 1)))) (xC (.int 0))) aq))))))))
def rO : List D -> Option O := fnO 3 pF
def uB : List D -> Option D := fun ds => (rO ds).map O.d
def dN : XT := xB (xOp dLt (ai 2) (ai 3))
def dR : XS := aU (bQ (xOp lJ (xOp bU (ai 2) (ai 3)) (xC (.int 2))) (ag 4)) (xIf (xB (xOp dLe (xOp dIx (xOp dIx (ai 0) (ai 4)) (xC (.int 0))) (ai 1))) (bQ (xOp bU (ai 4) (xC (.int 1))) (ag 2)) (bQ (au 4) (ag 3)))
def gE : XS := aU (bQ (xC (.int 0)) (ag 2)) (aU (bQ (xCB pp (ad (ai 0) aq)) (ag 3)) (aU (ft (dN) (dR)) (bT (au 2))))
def i6 : List D -> Option O := fnO 5 gE
def eX : List D -> Option D := fun ds => (i6 ds).map O.d
def di : XT := rn (xB (xOp dLt (ai 3) (xCB pp (ad (ai 0) aq)))) (xB (xOp dLt (ai 4) (xCB pp (ad (ai 1) aq))))
def cE : XS := aU (bQ (xCB uW (ad (xOp dIx (xOp dIx (ai 0) (ai 3)) (xC (.int 0))) (ad (xOp dIx (xOp dIx (ai 1) (ai 4)) (xC (.int 0))) aq))) (ag 5)) (aU (bQ (xCB xm (ad (xOp dIx (xOp dIx (ai 0) (ai 3)) (xC (.int 1))) (ad (xOp dIx (xOp dIx (ai 1) (ai 4)) (xC (.int 1))) aq))) (ag 6)) (aU (xIf (xB (xOp dLe (ai 5) (ai 6))) (jV 2 xPv (xSh (bg (ad (au 5) (ad (au 6) aq))))) g9) (xIf (xB (xOp dLt (xOp dIx (xOp dIx (ai 0) (ai 3)) (xC (.int 1))) (xOp dIx (xOp dIx (ai 1) (ai 4)) (xC (.int 1))))) (D1 3 (xC (.int 1)) xX) (D1 4 (xC (.int 1)) xX))))
def hX : XS := aU (mK (kF aq) 2) (aU (bQ (xC (.int 0)) (ag 3)) (aU (bQ (xC (.int 0)) (ag 4)) (aU (ft (di) (cE)) (bT (xCB fY (ad (ai 2) aq))))))
def jT : List D -> Option O := fnO 7 hX
def fP : List D -> Option D := fun ds => (jT ds).map O.d
def jB : XS := bT (xCB fY (ad (xL (dc [none, none, some 1] (xIt (ai 0)) (aM (aj (ag 0) (aj (ag 1) aL))) cz (bg (ad (xOp bU (ai 0) (ai 2)) (ad (xOp bU (ai 1) (ai 2)) aq))))) aq))
def kT : List D -> Option O := fnO 2 jB
def jr : List D -> Option D := fun ds => (kT ds).map O.d
def fB : XS := xIf (rn (yK (ai 1)) (xB (xOp dLe (ai 2) (xOp bU (xOp dIx (xOp dIx (ai 1) (xUn d9 (xC (.int 1)))) (xC (.int 1))) (xC (.int 1)))))) (Df 1 xPv (xUn d9 (xC (.int 1))) (bg (ad (xOp dIx (xOp dIx (ai 1) (xUn d9 (xC (.int 1)))) (xC (.int 0))) (ad (xCB uW (ad (xOp dIx (xOp dIx (ai 1) (xUn d9 (xC (.int 1)))) (xC (.int 1))) (ad (ai 3) aq))) aq)))) (jV 1 xPv (xSh (bg (ad (au 2) (ad (au 3) aq)))))
def ph : XS := aU (mK (kF aq) 1) (aU (fA (xIt (xL (BH gD (ad (xL (dc [none, none] (xIt (ai 0)) (aM (aj (ag 0) (aj (ag 1) aL))) (xB (xOp dLe (ai 0) (ai 1))) (bg (ad (au 0) (ad (au 1) aq))))) aq)))) (aM (aj (ag 2) (aj (ag 3) aL))) (fB)) (bT (xCB fY (ad (ai 1) aq))))
def rN : List D -> Option O := fnO 4 ph
def j5 : List D -> Option D := fun ds => (rN ds).map O.d
def d8 : XS := bT (xCB fY (ad (xL (dc [none, none] (xIt (ai 0)) (aM (aj (ag 0) (aj (ag 1) aL))) (xB (xOp (dEq true) (ai 1) (bg aq))) (bg (ad (au 0) (ad (au 1) aq))))) aq))
def fv : List D -> Option O := fnO 1 d8
def bE : List D -> Option D := fun ds => (fv ds).map O.d
def eN : XS := Dk 1 xPv (xL (dc [none, none, some 2] (xIt (ai 3)) (aM (aj (ag 0) (aj (ag 1) aL))) cz (bg (ad (au 2) (ad (au 0) (ad (au 1) aq))))))
def fW : XS := aU (mK (kF aq) 1) (aU (fA (xIt (au 0)) (aM (aj (ag 2) (aj (ag 3) aL))) (eN)) (xl 1))
def fe : List D -> Option O := fnO 4 fW
def bV : List D -> Option D := fun ds => (fe ds).map O.d
def yv : List D -> Option D := En (xB (xOp dLt (xCB Da (ad (ai 1) (ad (ai 2) (ad (ai 3) (ad (ai 4) aq))))) (xC (.int 0)))) (bg (ad (bg (ad (bg (ad (xUn d9 (ai 1)) (ad (xUn d9 (ai 2)) (ad (au 3) (ad (au 4) aq))))) aq)) aq))
def fg : XS := bT (xSl (ai 0) (uL (xCB uW (ad (xC (.int 0)) (ad (xOp e7 (aH eX (ad (au 0) (ad (au 1) aq))) (xC (.int 1))) aq)))) (uL (aH eX (ad (au 0) (ad (au 2) aq)))))
def gv : List D -> Option O := fnO 3 fg
def bG : List D -> Option D := fun ds => (gv ds).map O.d
def cj : XS := xIf (rn (yK (ai 1)) (xB (xOp (dEq false) (xOp dIx (ai 1) (xUn d9 (xC (.int 1)))) (bg (ad (au 2) (ad (xOp dIx (xOp dIx (ai 1) (xUn d9 (xC (.int 1)))) (xC (.int 1))) (ad (au 3) (ad (xOp e7 (ai 4) (xC (.int 1))) aq)))))))) (Df 1 xPv (xUn d9 (xC (.int 1))) (bg (ad (au 2) (ad (xOp dIx (xOp dIx (ai 1) (xUn d9 (xC (.int 1)))) (xC (.int 1))) (ad (au 3) (ad (au 4) aq)))))) (jV 1 xPv (xSh (bg (ad (au 2) (ad (au 4) (ad (au 3) (ad (au 4) aq)))))))
def jl : XS := aU (mK (kF aq) 1) (aU (fA (xIt (xL (BH gD (ad (xL (dc [none, none, none] (xIt (aH bV (ad (au 0) aq))) (aM (aj (ag 0) (aj (ag 1) (aj (ag 2) aL)))) cz (bg (ad (au 1) (ad (au 2) (ad (au 0) aq)))))) aq)))) (aM (aj (ag 2) (aj (ag 3) (aj (ag 4) aL)))) (cj)) (bT (xCB fY (ad (ai 1) aq))))
def kY : List D -> Option O := fnO 5 jl
def mz : List D -> Option D := fun ds => (kY ds).map O.d
def tH : XS := bT (xCB fY (ad (xL (dc [none, none, some 2, some 1] (xIt (ai 0)) (aM (aj (ag 0) (aj (ag 1) aL))) cz (bg (ad (xOp bU (ai 0) (ai 2)) (ad (aH jr (ad (au 1) (ad (au 3) aq))) aq))))) aq))
def vj : List D -> Option O := fnO 3 tH
def qD : List D -> Option D := fun ds => (vj ds).map O.d
def cD : XS := aU (xIf (xOr (Cp (yK (pR 1))) (xB (xOp (dEq true) (xFl (xOp dIx (xOp dIx (pR 1) (xUn d9 (xC (.int 1)))) (xC (.int 0)))) (ai 2)))) (jV 1 xPv (C0 (n4 (xSh (au 2)) (n4 (Dh AW) AW)))) g9) (jV 1 (xPi (xPi xPv (xUn d9 (xC (.int 1)))) (xC (.int 1))) (xSh (bg (ad (au 3) (ad (au 4) aq)))))
def hW : XS := aU (mK (kF aq) 1) (aU (fA (xIt (xL (BH gD (ad (xL (dc [none, none, none] (xIt (ai 0)) (aM (aj (ag 0) (aj (ag 1) (aj (ag 2) aL)))) (xB (xOp dLe (ai 1) (ai 2))) (bg (ad (au 0) (ad (au 1) (ad (au 2) aq)))))) aq)))) (aM (aj (ag 2) (aj (ag 3) (aj (ag 4) aL)))) (cD)) (Ho 1 (bT (xCB fY (ad (xL (dc [none, none] (xIt (au 1)) (aM (aj (ag 0) (aj (ag 1) aL))) cz (bg (ad (au 0) (ad (aH j5 (ad (au 1) aq)) aq))))) aq)))))
def jD : List D -> Option O := fnO 5 hW
def eP : List D -> Option D := fun ds => (jD ds).map O.d
def ki : XS := aU (bQ (aH eX (ad (au 0) (ad (au 1) aq))) (ag 2)) (aU (xIf (rn (xB (xOp dGt (ai 2) (xC (.int 0)))) (xB (xOp (dEq false) (xOp dIx (xOp dIx (ai 0) (xOp e7 (ai 2) (xC (.int 1)))) (xC (.int 0))) (ai 1)))) (bT (xOp dIx (xOp dIx (ai 0) (xOp e7 (ai 2) (xC (.int 1)))) (xC (.int 1)))) g9) (bT (bg aq)))
def j9 : List D -> Option O := fnO 3 ki
def gO : List D -> Option D := fun ds => (j9 ds).map O.d
def h9 : XS := aU (bQ (xOp bU (ai 0) (ai 1)) (ag 2)) (aU (bQ (xL (BH gD (ad (xOp bU (xL (dc [none, none] (xIt (ai 2)) (aM (aj (ag 0) (aj (ag 1) aL))) cz (au 0))) (xL (dc [none, none] (xIt (ai 2)) (aM (aj (ag 0) (aj (ag 1) aL))) cz (xOp bU (ai 1) (xC (.int 1)))))) aq))) (ag 3)) (bT (aH j5 (ad (xL (dc [none, some 3] (Ff (ad (xC (.int 0)) (ad (xCB pp (ad (ai 3) aq)) (ad (xC (.int 2)) aq)))) (ag 0) cz (bg (ad (xOp dIx (ai 1) (ai 0)) (ad (xOp e7 (xOp dIx (ai 1) (xOp bU (ai 0) (xC (.int 1)))) (xC (.int 1))) aq))))) aq))))
def jM : List D -> Option O := fnO 4 h9
def kK : List D -> Option D := fun ds => (jM ds).map O.d
def ie : XS := bT (aH j5 (ad (xL (dc [none, none, some 1, some 2] (xIt (ai 0)) (aM (aj (ag 0) (aj (ag 1) aL))) cz (bg (ad (xOp e7 (ai 0) (ai 2)) (ad (xOp e7 (ai 1) (ai 3)) aq))))) aq))
def jF : List D -> Option O := fnO 3 ie
def ii : List D -> Option D := fun ds => (jF ds).map O.d
def gL : List D -> Option D := En (xB (xOp (dEq false) (ai 1) (bg aq))) (bg (ad (aH mz (ad (au 1) aq)) aq))
def pG : XS := bT (aH bE (ad (xL (dc [none, none, some 1] (xIt (ai 0)) (aM (aj (ag 0) (aj (ag 1) aL))) cz (bg (ad (au 0) (ad (aH fP (ad (au 1) (ad (aH gO (ad (au 2) (ad (au 0) aq))) aq))) aq))))) aq))
def re : List D -> Option O := fnO 2 pG
def p0 : List D -> Option D := fun ds => (re ds).map O.d
def yD : XS := bT (aH eP (ad (xOp bU (aH bV (ad (au 0) aq)) (aH bV (ad (au 1) aq))) aq))
def ze : List D -> Option O := fnO 2 yD
def B6 : List D -> Option D := fun ds => (ze ds).map O.d
def m5 : XS := aU (bQ (aH bG (ad (au 0) (ad (xOp bU (xOp dIx (ai 1) (xC (.int 1))) (xOp dIx (ai 2) (xC (.int 1)))) (ad (xOp bU (xOp dIx (ai 1) (xC (.int 3))) (xOp dIx (ai 2) (xC (.int 3)))) aq)))) (ag 3)) (bT (aH bE (ad (xL (dc [none, none, some 1, some 2] (xIt (ai 3)) (aM (aj (ag 0) (aj (ag 1) aL))) cz (bg (ad (au 0) (ad (aH bG (ad (au 1) (ad (xOp bU (xOp dIx (ai 2) (xC (.int 0))) (xOp dIx (ai 3) (xC (.int 0)))) (ad (xOp bU (xOp dIx (ai 2) (xC (.int 2))) (xOp dIx (ai 3) (xC (.int 2)))) aq)))) aq))))) aq)))
def o6 : List D -> Option O := fnO 4 m5
def rc : List D -> Option D := fun ds => (o6 ds).map O.d
def kB : XS := bT (aH kK (ad (au 0) (ad (aH fP (ad (au 0) (ad (au 1) aq))) aq)))
def mt : List D -> Option O := fnO 2 kB
def kD : List D -> Option D := fun ds => (mt ds).map O.d
def fO : XS := bT (aH eP (ad (xL (dc [none, none, none] (xIt (aH bV (ad (au 0) aq))) (aM (aj (ag 0) (aj (ag 1) (aj (ag 2) aL)))) cz (bg (ad (xUn d9 (ai 0)) (ad (xUn d9 (ai 2)) (ad (xUn d9 (ai 1)) aq)))))) aq))
def gQ : List D -> Option O := fnO 1 fO
def eD : List D -> Option D := fun ds => (gQ ds).map O.d
def yE : XS := bT (aH bE (ad (xL (dc [none, none, some 1] (xIt (ai 0)) (aM (aj (ag 0) (aj (ag 1) aL))) cz (bg (ad (au 0) (ad (aH kD (ad (au 1) (ad (aH gO (ad (au 2) (ad (au 0) aq))) aq))) aq))))) aq))
def yx : List D -> Option O := fnO 2 yE
def yF : List D -> Option D := fun ds => (yx ds).map O.d
def dH : XT := xB (xOp dLt (ai 2) (ai 1))
def fi : XS := aU (bQ (xCB xm (ad (xOp bU (ai 2) (xC (.int 1))) (ad (xOp e7 (ai 1) (ai 2)) aq))) (ag 3)) (aU (bQ (aH p0 (ad (au 0) (ad (aH qD (ad (au 0) (ad (xC (.int 0)) (ad (xUn d9 (ai 3)) aq)))) aq))) (ag 0)) (D1 2 (ai 3) xX))
def gH : XS := aU (bQ (xC (.int 0)) (ag 2)) (aU (ft (dH) (fi)) (bT (au 0)))
def iz : List D -> Option O := fnO 4 gH
def gG : List D -> Option D := fun ds => (iz ds).map O.d
def dP : XT := xB (xOp dLt (ai 2) (ai 1))
def fh : XS := aU (bQ (xCB xm (ad (xOp bU (ai 2) (xC (.int 1))) (ad (xOp e7 (ai 1) (ai 2)) aq))) (ag 3)) (aU (bQ (aH B6 (ad (au 0) (ad (aH qD (ad (au 0) (ad (xC (.int 0)) (ad (au 3) aq)))) aq))) (ag 0)) (D1 2 (ai 3) xX))
def gF : XS := aU (bQ (xC (.int 0)) (ag 2)) (aU (ft (dP) (fh)) (bT (au 0)))
def iL : List D -> Option O := fnO 4 gF
def gI : List D -> Option D := fun ds => (iL ds).map O.d
def cB : XS := aU (bQ (xL (dc [none, none, none, some 1] (xIt (aH bV (ad (au 0) aq))) (aM (aj (ag 0) (aj (ag 1) (aj (ag 2) aL)))) cz (bg (ad (xOp bU (ai 0) (xOp dIx (ai 3) (xC (.int 1)))) (ad (xOp bU (ai 1) (xOp dIx (ai 3) (xC (.int 0)))) (ad (xOp bU (ai 2) (xOp dIx (ai 3) (xC (.int 2)))) aq)))))) (ag 2)) (aU (xIf (xB (xOp (dEq false) (xOp dIx (ai 1) (xC (.int 1))) (xOp dIx (ai 1) (xC (.int 3))))) (bT (au 2)) g9) (bT (aH bV (ad (aH gI (ad (aH eP (ad (au 2) aq)) (ad (xOp e7 (xOp dIx (ai 1) (xC (.int 3))) (xOp dIx (ai 1) (xC (.int 1)))) aq))) aq))))
def c7 : List D -> Option O := fnO 3 cB
def dF : List D -> Option D := fun ds => (c7 ds).map O.d
def m6 : XS := bT (xOp (dEq false) (aH yF (ad (au 0) (ad (au 1) aq))) (bg aq))
def oP : List D -> Option O := fnO 2 m6
def q9 : List D -> Option D := fun ds => (oP ds).map O.d
def dB : XS := aU (bQ (aH bE (ad (xL (dc [none, none, some 1] (xIt (ai 0)) (aM (aj (ag 0) (aj (ag 1) aL))) cz (bg (ad (xOp e7 (ai 0) (xOp dIx (ai 2) (xC (.int 1)))) (ad (aH ii (ad (au 1) (ad (xOp dIx (ai 2) (xC (.int 0))) (ad (xOp dIx (ai 2) (xC (.int 2))) aq)))) aq))))) aq)) (ag 2)) (bT (aH gG (ad (au 2) (ad (xOp e7 (xOp dIx (ai 1) (xC (.int 3))) (xOp dIx (ai 1) (xC (.int 1)))) aq))))
def eW : List D -> Option O := fnO 3 dB
def du : List D -> Option D := fun ds => (eW ds).map O.d
def c9 : XS := Dk 2 xPv (aH dF (ad (au 0) (ad (au 3) aq)))
def d7 : XS := aU (mK (kF aq) 2) (aU (fA (xIt (au 1)) (ag 3) (c9)) (Ho 2 (bT (aH eP (ad (au 2) aq)))))
def fy : List D -> Option O := fnO 4 d7
def f6 : List D -> Option D := fun ds => (fy ds).map O.d
def bF : XS := aU (xIf (xB (xOp (dEq false) (ai 2) (bg aq))) (bT (bg aq)) g9) (bQ (aH p0 (ad (au 2) (ad (aH du (ad (aH rc (ad (au 0) (ad (aH uB (ad (au 2) aq)) (ad (au 3) aq)))) (ad (au 3) aq))) aq))) (ag 2))
def cS : XS := aU (bQ (aH du (ad (au 0) (ad (xOp dIx (ai 1) (xUn d9 (xC (.int 1)))) aq))) (ag 2)) (aU (fA (xIt (xSl (ai 1) Dr (uL (xUn d9 (xC (.int 1)))))) (ag 3) (bF)) (bT (au 2)))
def dE : List D -> Option O := fnO 4 cS
def dY : List D -> Option D := fun ds => (dE ds).map O.d
def df : XS := bQ (aH f6 (ad (au 1) (ad (au 2) aq))) (ag 1)
def eG : XS := aU (fA (xJ (ad (zc NS "parts" (au 0)) aq)) (ag 2) (df)) (bT (au 1))
def lz : List D -> Option O := fnO 3 eG
def dg : List D -> Option D := fun ds => (lz ds).map O.d
def dh : XS := bQ (aH dY (ad (au 1) (ad (au 2) aq))) (ag 1)
def eF : XS := aU (fA (xIt (zc NS "parts" (au 0))) (ag 2) (dh)) (bT (au 1))
def lF : List D -> Option O := fnO 3 eF
def iV : List D -> Option D := fun ds => (lF ds).map O.d
def fN : XS := bT (ja NS "greater" dg (au 0) (ad (xC (.tup [.tup [.int (0), .tup [.tup [.int (0), .int (0)]]]])) aq))
def nH : List D -> Option O := fnO 1 fN
def k7 : List D -> Option D := fun ds => (nH ds).map O.d
def C5 : XS := bT (aH eD (ad (ja NS "greater" dg (au 1) (ad (aH eD (ad (au 0) aq)) aq)) aq))
def CJ : List D -> Option O := fnO 2 C5
def Gr : List D -> Option D := fun ds => (CJ ds).map O.d
def kL : XS := bT (aH q9 (ad (aH qD (ad (ja NS "cells" k7 (au 1) aq) (ad (au 2) (ad (au 3) aq)))) (ad (au 0) aq)))
def l8 : List D -> Option O := fnO 4 kL
def oy : List D -> Option D := fun ds => (l8 ds).map O.d
def pW : XS := bT (aH yF (ad (ja NS "smaller" iV (au 1) (ad (au 0) aq)) (ad (aH Gr (ad (au 0) (ad (au 2) aq))) aq)))
def qG : List D -> Option O := fnO 3 pW
def ga : List D -> Option D := fun ds => (qG ds).map O.d
def eB : XS := aU (bQ (aH gr (ad (au 5) (ad (au 1) (ad (au 9) (ad (xOp dIx (ai 8) (xC (.int 1))) aq))))) (ag 10)) (aU (bQ (DA (ai 10) (aH kH (ad (au 5) (ad (au 2) (ad (au 9) (ad (xOp dIx (ai 8) (xC (.int 1))) aq)))))) (ag 11)) (xIf (xB (xOp (dEq true) (aH gr (ad (au 6) (ad (xL (kF (ad (bg (ad (xC (.int 0)) (ad (xC (.int 0)) (ad (xC (.int 0)) aq)))) aq))) (ad (au 9) (ad (xOp dIx (ai 8) (xC (.int 1))) aq))))) (ai 11))) (bT (xC (.bl false))) g9))
def ju : XS := aU (fA (xIt (xL (kF (ad (xOp e7 (xOp dIx (ai 8) (xC (.int 0))) (xC (.int 1))) (ad (xOp dIx (ai 8) (xC (.int 0))) (ad (xOp bU (xOp dIx (ai 8) (xC (.int 0))) (xC (.int 1))) aq)))))) (ag 9) (eB)) (aU (bQ (aH oy (ad (au 0) (ad (au 7) (ad (xOp dIx (ai 8) (xC (.int 0))) (ad (xOp dIx (ai 8) (xC (.int 1))) aq))))) (ag 12)) (xIf (xOr (Cp (yK (xCB wa (ad (ai 12) (ad (xC (.ty "bool")) aq))))) (xB (xOp (dEq true) (ai 12) (aH gr (ad (au 5) (ad (au 1) (ad (xOp dIx (ai 8) (xC (.int 0))) (ad (xOp dIx (ai 8) (xC (.int 1))) aq)))))))) (bT (xC (.bl false))) g9))
def m9 : XS := aU (bQ (aH bO (ad (au 0) aq)) (ag 5)) (aU (bQ (aH bO (ad (au 3) aq)) (ag 6)) (aU (bQ (pi "Shape" "parts" gL (ad (aH cu (ad (au 1) aq)) aq)) (ag 7)) (aU (fA (xIt (au 4)) (ag 8) (ju)) (bT (xC (.bl true))))))
def oU : List D -> Option O := fnO 13 m9
def mR : List D -> Option D := fun ds => (oU ds).map O.d
def Bd : XS := aU (bQ (aH dD (ad (au 0) (ad (xC (.int 0)) aq))) (ag 1)) (aU (bQ (xOp dIx (xL (kF (ad (xC (.int 1)) (ad (xC (.int 1)) (ad (xOp bU (xOp HE (xC (.int 10)) (xC (.int 40))) (xC (.int 7))) aq))))) (xOp jS (ai 1) (xC (.int 3)))) (ag 2)) (aU (bQ (xL (dc [none, some 2] (xIt (xSl (ai 0) (uL (xC (.int 3))) (uL (xC (.int 11))))) (ag 0) cz (aH j7 (ad (au 0) (ad (au 1) aq))))) (ag 3)) (aU (xIf (xB (xOp (dEq false) (xOp jS (xOp lJ (ai 1) (xC (.int 3))) (xC (.int 2))) (xC (.int 1)))) (bQ (xOp bU (ai 3) (xL (dc [none, some 2] (Fh (ad (xUn d9 (xC (.int 3))) (ad (xC (.int 4)) (ad (xC (.int 2)) aq)))) (ag 0) cz (bg (ad (au 0) (ad (xOp gP (xUn d9 (xC (.int 3))) (ai 1)) (ad (xOp gP (xC (.int 8)) (ai 1)) aq))))))) (ag 3)) g9) (aU (bQ (aH cu (ad (au 3) aq)) (ag 4)) (aU (bQ (aH bO (ad (aH cu (ad (aH qu (ad (aH dD (ad (au 0) (ad (xC (.int 1)) aq))) (ad (au 2) aq))) aq)) aq)) (ag 5)) (aU (bQ (aH bO (ad (aH cu (ad (aH qu (ad (aH dD (ad (au 0) (ad (xC (.int 2)) aq))) (ad (au 2) aq))) aq)) aq)) (ag 6)) (aU (bQ (aH ga (ad (au 4) (ad (pi "Shape" "parts" gL (ad (aH cu (ad (au 5) aq)) aq)) (ad (pi "Shape" "parts" gL (ad (aH cu (ad (au 6) aq)) aq)) aq)))) (ag 7)) (aU (xIf (xOr (Cp (yK (xCB wa (ad (ai 7) (ad (xC (.ty "tuple")) aq))))) (xB (xOp (dEq true) (ai 7) (aH cu (ad (aH bO (ad (au 7) aq)) aq))))) (bT (xC (.bl false))) g9) (aU (bQ (xOp jS (xOp lJ (ai 1) (xC (.int 6))) (xC (.int 3))) (ag 8)) (aU (bQ (aH u1 (ad (aH bO (ad (au 4) aq)) (ad (xL (kF (ad (xOp dIx (ai 5) (xOp jS (ai 8) (xCB pp (ad (ai 5) aq)))) (ad (xOp dIx (ai 6) (xOp jS (ai 8) (xCB pp (ad (ai 6) aq)))) aq)))) aq))) (ag 9)) (aU (bQ (xOp bU (ai 9) (xL (dc [none, none, none] (xIt (aH bO (ad (au 7) aq))) (aM (aj (ag 0) (aj (ag 1) (aj (ag 2) aL)))) cz (bg (ad (au 1) (ad (au 0) aq)))))) (ag 9)) (aU (bQ (xOp bU (ai 9) (xL (dc [none, none, none] (xIt (aH bO (ad (au 7) aq))) (aM (aj (ag 0) (aj (ag 1) (aj (ag 2) aL)))) cz (bg (ad (au 2) (ad (au 0) aq)))))) (ag 9)) (aU (xIf (Cp (yK (aH mR (ad (au 4) (ad (au 5) (ad (au 6) (ad (au 7) (ad (au 9) aq)))))))) (bT (xC (.bl false))) g9) (aU (bQ (pi "Box" "parts" yv (ad (xC (.int 0)) (ad (xC (.int 0)) (ad (xC (.int 1)) (ad (xC (.int 0)) aq))))) (ag 10)) (bT (DA (xOp (dEq false) (aH ga (ad (au 4) (ad (au 10) (ad (au 10) aq)))) (bg aq)) (xOp (dEq false) (aH ga (ad (bg aq) (ad (au 10) (ad (pi "Shape" "parts" gL (ad (aH cu (ad (au 5) aq)) aq)) aq)))) (bg aq))))))))))))))))))
def zd : List D -> Option O := fnO 11 Bd
def F8 : List D -> Option D := fun ds => (zd ds).map O.d
local macro_rules | `(tactic| and_intros) => `(tactic| repeat' first | (with_reducible first | exact Lf | exact LB | exact KZ | exact Jj | exact KG | exact K3 | exact Gd | exact Iv | exact Jm _ | exact Mt | exact KD | exact LM _ | exact Me | exact K8 | exact Lp _ | exact Nn | exact Ih | exact M0 | exact Nr | exact Ll | exact K9 | exact Mm | exact Gj | exact Mv | exact LI | exact KQ | exact Gm | exact JP _ | exact DE _ | exact lW _ | exact KE _ | exact Mx | exact n9 | exact FB | exact KM | exact KT | apply SE.t | apply SF.e | apply SF.t | apply SQ.fl | apply STr.e | apply KU | apply Lb | apply Lm | apply JG | apply KL | apply Ki | apply Mj | apply Ju | apply HD | apply MS | apply Mu | apply Jt | apply KN | apply Mw | apply Ke | apply Lr | apply LU | apply LC | apply Md | apply JW | apply JQ | apply Lq | apply Ml | apply L9 | apply MY | apply Mf | apply Kz | apply L5 | apply JK | apply Mo | apply NB | apply J8 | apply Km | apply Mq | apply LL | apply Kv | apply M8 | apply Co | apply Kq | apply xw | apply Jn | apply KO | apply IA | apply hV | apply pT | apply Iu | apply HQ | apply SE.p | apply SPk.q | apply SI.p) | exact s_c rfl | exact s_g | apply Bg | exact fun _ _ h => Db h | refine' FG (E := E0) ?_ ?_ | refine' J2 (Ns := NS) ?_ ?_ ?_ | refine' Jz (Ns := NS) ?_ ?_ ?_ | exact List.Mem.head _ | exact List.Mem.tail _ (List.Mem.head _) | decide +kernel)
abbrev jW (K : W.Frag) : Sp := sj K NS "parts" 1 Ir
abbrev uU (K : W.Frag) : Sp := b9 K 4 kx
def CB (K : W.Frag) : { t : TS // SS K t j8 } := ⟨_, by delta j8 gN dr; and_intros⟩
abbrev rS (K : W.Frag) : Sp := b9 K 2 jy
def Bk (K : W.Frag) : { t : TS // SS K t iW } := ⟨_, by delta iW; and_intros⟩
abbrev rT (K : W.Frag) : Sp := b9 K 4 jt
def Bh (K : W.Frag) : { t : TS // SS K t i8 } := ⟨_, by delta i8 hZ dw; and_intros⟩
abbrev si (K : W.Frag) : Sp := b9 K 1 lP
def Al (K : W.Frag) : { t : TS // SS K t kR } := ⟨_, by delta kR cM; and_intros⟩
abbrev xO (K : W.Frag) : Sp := b9 K 2 rG
def DY (K : W.Frag) : { t : TS // SS K t pI } := ⟨_, by delta pI iR; and_intros⟩
abbrev xu (K : W.Frag) : Sp := b9 K 2 rD
def E5 (K : W.Frag) : { t : TS // SS K t pP } := ⟨_, by delta pP n6 jd kt; and_intros⟩
abbrev nJ (K : W.Frag) : Sp := b9 K 1 jN
def wz (K : W.Frag) : { t : TS // SS K t hJ } := ⟨_, by delta hJ gh gf; and_intros⟩
abbrev ut (K : W.Frag) : Sp := b9 K 2 oA
def Cd (K : W.Frag) : { t : TS // SS K t mY } := ⟨_, by delta mY; and_intros⟩
abbrev yo (K : W.Frag) : Sp := b9 K 1 rO
def EF (K : W.Frag) : { t : TS // SS K t pF } := ⟨_, by delta pF; and_intros⟩
abbrev mf (K : W.Frag) : Sp := b9 K 2 i6
def uS (K : W.Frag) : { t : TS // SS K t gE } := ⟨_, by delta gE dR dN; and_intros⟩
abbrev nw (K : W.Frag) : Sp := b9 K 2 jT
def wA (K : W.Frag) : { t : TS // SS K t hX } := ⟨_, by delta hX cE di; and_intros⟩
abbrev pU (K : W.Frag) : Sp := b9 K 2 kT
def zu (K : W.Frag) : { t : TS // SS K t jB } := ⟨_, by delta jB; and_intros⟩
abbrev wP (K : W.Frag) : Sp := b9 K 1 rN
def Em (K : W.Frag) : { t : TS // SS K t ph } := ⟨_, by delta ph fB; and_intros⟩
abbrev iI (K : W.Frag) : Sp := b9 K 1 fv
def oO (K : W.Frag) : { t : TS // SS K t d8 } := ⟨_, by delta d8; and_intros⟩
abbrev ll (K : W.Frag) : Sp := b9 K 1 fe
def sV (K : W.Frag) : { t : TS // SS K t fW } := ⟨_, by delta fW eN; and_intros⟩
abbrev lg (K : W.Frag) : Sp := sj K NS "parts" 4 yv
abbrev jX (K : W.Frag) : Sp := b9 K 3 gv
def qK (K : W.Frag) : { t : TS // SS K t fg } := ⟨_, by delta fg; and_intros⟩
abbrev pE (K : W.Frag) : Sp := b9 K 1 kY
def zk (K : W.Frag) : { t : TS // SS K t jl } := ⟨_, by delta jl cj; and_intros⟩
abbrev zQ (K : W.Frag) : Sp := b9 K 3 vj
def F6 (K : W.Frag) : { t : TS // SS K t tH } := ⟨_, by delta tH; and_intros⟩
abbrev ny (K : W.Frag) : Sp := b9 K 1 jD
def wv (K : W.Frag) : { t : TS // SS K t hW } := ⟨_, by delta hW cD; and_intros⟩
abbrev wW (K : W.Frag) : Sp := b9 K 2 j9
def Ei (K : W.Frag) : { t : TS // SS K t ki } := ⟨_, by delta ki; and_intros⟩
abbrev nM (K : W.Frag) : Sp := b9 K 2 jM
def wq (K : W.Frag) : { t : TS // SS K t h9 } := ⟨_, by delta h9; and_intros⟩
abbrev nt (K : W.Frag) : Sp := b9 K 3 jF
def wu (K : W.Frag) : { t : TS // SS K t ie } := ⟨_, by delta ie; and_intros⟩
abbrev jv (K : W.Frag) : Sp := sj K NS "parts" 1 gL
abbrev xV (K : W.Frag) : Sp := b9 K 2 re
def E6 (K : W.Frag) : { t : TS // SS K t pG } := ⟨_, by delta pG; and_intros⟩
abbrev CO (K : W.Frag) : Sp := b9 K 2 ze
def HH (K : W.Frag) : { t : TS // SS K t yD } := ⟨_, by delta yD; and_intros⟩
abbrev vJ (K : W.Frag) : Sp := b9 K 3 o6
def Cj (K : W.Frag) : { t : TS // SS K t m5 } := ⟨_, by delta m5; and_intros⟩
abbrev rV (K : W.Frag) : Sp := b9 K 2 mt
def AZ (K : W.Frag) : { t : TS // SS K t kB } := ⟨_, by delta kB; and_intros⟩
abbrev ld (K : W.Frag) : Sp := b9 K 1 gQ
def sW (K : W.Frag) : { t : TS // SS K t fO } := ⟨_, by delta fO; and_intros⟩
abbrev C3 (K : W.Frag) : Sp := b9 K 2 yx
def HW (K : W.Frag) : { t : TS // SS K t yE } := ⟨_, by delta yE; and_intros⟩
abbrev ma (K : W.Frag) : Sp := b9 K 2 iz
def vq (K : W.Frag) : { t : TS // SS K t gH } := ⟨_, by delta gH fi dH; and_intros⟩
abbrev lQ (K : W.Frag) : Sp := b9 K 2 iL
def uQ (K : W.Frag) : { t : TS // SS K t gF } := ⟨_, by delta gF fh dP; and_intros⟩
abbrev hE (K : W.Frag) : Sp := b9 K 2 c7
def nl (K : W.Frag) : { t : TS // SS K t cB } := ⟨_, by delta cB; and_intros⟩
abbrev vS (K : W.Frag) : Sp := b9 K 2 oP
def Cl (K : W.Frag) : { t : TS // SS K t m6 } := ⟨_, by delta m6; and_intros⟩
abbrev g8 (K : W.Frag) : Sp := b9 K 2 eW
def ni (K : W.Frag) : { t : TS // SS K t dB } := ⟨_, by delta dB; and_intros⟩
abbrev iM (K : W.Frag) : Sp := b9 K 2 fy
def oM (K : W.Frag) : { t : TS // SS K t d7 } := ⟨_, by delta d7 c9; and_intros⟩
abbrev jh (K : W.Frag) : Sp := b9 K 2 dE
def oX (K : W.Frag) : { t : TS // SS K t cS } := ⟨_, by delta cS bF; and_intros⟩
abbrev lB (K : W.Frag) : Sp := b9 K 2 lz
def sO (K : W.Frag) : { t : TS // SS K t eG } := ⟨_, by delta eG df; and_intros⟩
abbrev lc (K : W.Frag) : Sp := b9 K 2 lF
def sK (K : W.Frag) : { t : TS // SS K t eF } := ⟨_, by delta eF dh; and_intros⟩
abbrev nA (K : W.Frag) : Sp := b9 K 1 nH
def wt (K : W.Frag) : { t : TS // SS K t fN } := ⟨_, by delta fN; and_intros⟩
abbrev F7 (K : W.Frag) : Sp := b9 K 2 CJ
def Kp (K : W.Frag) : { t : TS // SS K t C5 } := ⟨_, by delta C5; and_intros⟩
abbrev r8 (K : W.Frag) : Sp := b9 K 4 l8
def zZ (K : W.Frag) : { t : TS // SS K t kL } := ⟨_, by delta kL; and_intros⟩
abbrev yg (K : W.Frag) : Sp := b9 K 3 qG
def Eb (K : W.Frag) : { t : TS // SS K t pW } := ⟨_, by delta pW; and_intros⟩
abbrev uV (K : W.Frag) : Sp := b9 K 5 oU
def B0 (K : W.Frag) : { t : TS // SS K t m9 } := ⟨_, by delta m9 ju eB; and_intros⟩
abbrev zj (K : W.Frag) : Sp := b9 K 1 zd
def KS (K : W.Frag) : { t : TS // SS K t Bd } := ⟨_, by delta Bd; and_intros⟩
end P
namespace P
open PySem L2 M Rw
def wf (p : Int × Int) : List Int := [p.1, p.2]
theorem zE : ∀ r : R, keys (r.map prD) = some (r.map wf)
 | [] => rfl
 | p :: r => by
  rw [Pt, keys, zE r]
  rfl
theorem Fc : ∀ {r : R}, r ≠ [] -> cX (r.map prD) = none
 | [], h => absurd rfl h
 | p :: r, _ => rfl
def DG : List Int -> Int × Int
 | [a, b] => (a, b)
 | _ => (0, 0)
def nD (ps : R) : R := (jc (ps.map wf)).map DG
theorem ug (ps : R) : (nD ps).map wf = jc (ps.map wf) := by
 unfold nD
 rw [PC]
 have h : ∀ k ∈ jc (ps.map wf), (wf ∘ DG) k = k := fun k hk => by
  have := (iT _).mem_iff.mp hk
  obtain ⟨p, _, rfl⟩ := Pp.mp this
  rfl
 rw [List.map_congr_left h, List.map_id']
theorem iB (ps : R) : (nD ps).Perm ps := by
 have h := (iT (ps.map wf)).map DG
 rw [PC] at h
 have e : (DG ∘ wf) = id := rfl
 rw [e, List.map_id] at h
 exact h
theorem FM (ps : R) : (nD ps).Pairwise fun p q => p.1 <= q.1 := by
 have h := qp (ps.map wf)
 rw [<- ug, Qq] at h
 refine h.imp fun {p q} e => ?_
 have e' : (if q.1 = p.1 then HT.cK [q.2] [p.2] else decide (q.1 < p.1)) = false := e
 by_cases hq : q.1 = p.1
 ·lia
 ·rw [Pb hq] at e'
  have := Ql e'
  lia
theorem A2 (ps : R) (h : ps.length < 30000) : gD [Bm ps] = some ((nD ps).map prD) := by
 show (if (ps.map prD).length < 30000 then _ else _) = _
 rw [Pa (by rw [Ph]; exact h)]
 by_cases e : ps = []
 ·subst e
  have e0 : nD [] = [] := QM.mp (by rw [(iB []).length_eq]; rfl)
  have e1 : gJ [] = [] := QM.mp (by rw [(fk []).length_eq]; rfl)
  show some ((gJ []).map D.int) = _
  rw [e0, e1]
  rfl
 ·rw [Fc e]
  dsimp only
  rw [zE]
  have : (nD ps).map prD = (jc (ps.map wf)).map wl := by
   rw [<- ug, PC]
   rfl
  rw [this]
  rfl
def qW (p : Int × Int) : Bool := decide (p.1 <= p.2)
def lA (ps : R) : R := nO (nD (ps.filter qW))
theorem eK (ps : R) : IC ps (lA ps) := by
 refine Fk ?_ (FM _) fun x => ?_
 ·intro p hp
  have := (iB _).mem_iff.mp hp
  simpa [qW] using (PR.mp this).2
 ·rw [FF (iB _)]
  exact mem_filter ps x
theorem AN (acc : R) (p : Int × Int) : (step acc p).length <= acc.length + 1 := by
 rcases P7 acc with rfl | ⟨t, q, rfl⟩
 ·simp [Rw.step]
 ·rw [P9, im]
  split <;> simp
theorem qT : ∀ (l acc : R), (l.foldl step acc).length <= acc.length + l.length
 | [], acc => by simp
 | p :: l, acc => by
  have h1 := qT l (step acc p)
  have h2 := AN acc p
  rw [List.foldl_cons, Pu]
  lia
theorem rA (ps : R) : (lA ps).length <= ps.length := by
 have h1 := qT (nD (ps.filter qW)) []
 have h2 := (iB (ps.filter qW)).length_eq
 have h3 := QO qW ps
 unfold lA nO
 simp only [List.length_nil] at h1
 lia
theorem bd {n : Nat} (h : n <= 100000) : n <= LIM := PU h (by rw [gu]; decide)
theorem f9 {n : Nat} (h : n <= 100000) : n < LIM := QB h (by rw [gu]; decide)
theorem FY (a b : Int) : D.tup [.int a, .int b] = prD (a, b) := rfl
theorem wD : ∀ ps : R, ps.filterMap (fun p => if p.1 <= p.2 then some (prD p) else none) = (ps.filter qW).map prD
 | [] => rfl
 | p :: t => by
  rw [QP, RT, wD t]
  by_cases h : p.1 <= p.2
  ·simp [qW, h]
  ·simp [qW, h]
theorem E9 (ps : R) : b6 (aM (aj (ag 0) (aj (ag 1) aL))) (xB (xOp dLe (ai 0) (ai 1))) (bg (ad (au 0) (ad (au 1) aq))) [.un, .un] (ps.map prD) = some ((ps.filter qW).map prD) := by
 rw [mE prD (fun p => if p.1 <= p.2 then some (prD p) else none) ps, wD]
 intro p _
 by_cases h : p.1 <= p.2 <;> simp [fR, h]
theorem BC (pre : R) (p : Int × Int) : nO (pre ++ [p]) = step (nO pre) p := by
 unfold nO
 rw [RC]
 rfl
theorem GF (pre : R) : (nO pre).length <= pre.length := by
 have := qT pre []
 unfold nO
 simpa using this
theorem il {α : Type} {l : List α} {i : Nat} {x : α} (h : l[i]? = some x) : l.drop i = x :: l.drop (i + 1) := by
 obtain ⟨h1, rfl⟩ := Pw.mp h
 exact Rh h1
theorem Jf {r : R} {i : Nat} {p : Int × Int} (h : r[i]? = some p) : atI (r.map prD) (i : Int) = some (prD p) := gR (by rw [PD, h]; rfl)
theorem DW (p q : Int × Int) (s t : R) : dM (p :: s) (q :: t) = (if max p.1 q.1 <= min p.2 q.2 then [(max p.1 q.1, min p.2 q.2)] else []) ++ (if p.2 < q.2 then dM s (q :: t) else dM (p :: s) t) := by rw [dM]
theorem mx (a b : Int) : (if b > a then b else a) = max a b := by split <;> lia
theorem mn (a b : Int) : (if b < a then b else a) = min a b := by split <;> lia
def chg (r : R) : List Int := r.map (·.1) ++ r.map (·.2 + 1)
theorem zi (ns : List Int) (h : ns.length < 30000) : gD [.lst (ns.map D.int)] = some ((gJ ns).map D.int) := by
 show (if (ns.map D.int).length < 30000 then _ else _) = _
 rw [Pa (by rw [Ph]; exact h), ji]
theorem xD : ∀ (n k : Nat), fQ k n = (List.range' k n).map fun k : Nat => D.int (2 * (k : Int))
 | 0, _ => rfl
 | n + 1, k => by rw [fQ, xD n (k + 1), List.range'_succ, Pt]
theorem oe : ∀ (n : Nat) (c : List Int), c.length = 2 * n -> ∀ k, k < n -> ∃ a b, c[2 * k]? = some a /\ c[2 * k + 1]? = some b /\ (fm c)[k]? = some (a, b - 1)
 | 0, _, _, k, h => by lia
 | n + 1, c, h, k, hk => by
  match c, h with
  | a :: b :: t, h =>
   cases k with
   | zero => exact ⟨a, b, rfl, rfl, rfl⟩
   | succ k =>
    obtain ⟨x, y, h1, h2, h3⟩ := oe n t (by simp at h; lia) k (by lia)
    refine ⟨x, y, ?_, ?_, ?_⟩
    ·rw [show 2 * (k + 1) = 2 * k + 1 + 1 by lia]; exact h1
    ·rw [show 2 * (k + 1) + 1 = 2 * k + 1 + 1 + 1 by lia]; exact h2
    ·rw [fm]; exact h3
theorem oW : ∀ (n : Nat) (c : List Int), c.length = 2 * n -> (fm c).length = n
 | 0, c, h => by
  have : c = [] := QM.mp (by lia)
  subst this; rfl
 | n + 1, c, h => by
  match c, h with
  | a :: b :: t, h => rw [fm, Pu, oW n t (by simp at h; lia)]
theorem BA (n : Nat) (c : List Int) (h : c.length = 2 * n) : b6 (ag 0) cz (bg (ad (xOp dIx (ai 1) (ai 0)) (ad (xOp e7 (xOp dIx (ai 1) (xOp bU (ai 0) (xC (.int 1)))) (xC (.int 1))) aq))) [.un, .sh (.lst (c.map D.int))] (fQ 0 n) = some ((fm c).map prD) := by
 rw [xD, a8 (fun k : Nat => D.int (2 * (k : Int))) (fun k => match (fm c)[k]? with | some p => prD p | none => .non) (List.range' 0 n)]
 ·congr 1
  apply Rm
  intro k
  rw [PD, PD]
  by_cases hk : k < n
  ·rw [Qf (by rw [List.length_range']; exact hk), List.getElem_range']
   obtain ⟨a, b, _, _, h3⟩ := oe n c h k hk
   simp [h3]
  ·rw [RU (by rw [List.length_range']; lia), RU (by rw [oW n c h]; lia)]
   rfl
 ·intro k hk
  have hk' : k < n := by simpa using (List.mem_range'.mp hk)
  obtain ⟨a, b, h1, h2, h3⟩ := oe n c h k hk'
  have e1 : atI (c.map D.int) (2 * (k : Int)) = some (.int a) := by
   have := gR (l := c.map D.int) (j := 2 * k) (x := .int a) (by rw [PD, h1]; rfl)
   rw [<- this]; congr 1
  have e2 : atI (c.map D.int) (2 * (k : Int) + 1) = some (.int b) := by
   have := gR (l := c.map D.int) (j := 2 * k + 1) (x := .int b) (by rw [PD, h2]; rfl)
   rw [<- this]; congr 1
  simp [fR, e1, e2, h3]
def iH (r t : R) : R := lA (fm (gJ (chg (r ++ t))))
theorem yr (r : R) : (chg r).length = 2 * r.length := by unfold chg; simp; lia
theorem zO {r t : R} (cr : bh r) (ct : bh t) : zR r t (iH r t) := by
 obtain ⟨h1, h2⟩ := eK (fm (gJ (chg (r ++ t))))
 refine ⟨h1, fun x => ?_⟩
 have hl : (gJ (chg (r ++ t))).length = 2 * (r ++ t).length := by rw [(fk _).length_eq, yr]
 unfold iH
 rw [h2 x, vi _ _ hl (Ai _) x, Ey (fk _), <- Fi cr ct x]
 rfl
def jL (r t : R) : R := iH r (dM r t)
theorem kd {r t : R} (cr : bh r) (ct : bh t) : G5 r t (dM r t) := ⟨Bo _ r t rfl cr ct, fun x => FZ _ r t rfl cr ct x⟩
theorem qE {r t : R} (cr : bh r) (ct : bh t) : GJ r t (jL r t) := Hm (kd cr ct) (zO cr (kd cr ct).1)
theorem GS (n : Nat) : jj 0 n = (List.range n).map fun k : Nat => D.int (k : Int) := by
 apply Rm
 intro i
 cases q : (jj 0 n)[i]? with
 | none =>
  have := Rp.mp q
  rw [rk] at this
  rw [RU (by rw [Ph, RB]; exact this)]
 | some d =>
  obtain ⟨h1, rfl⟩ := rB n 0 i d q
  rw [PD, List.getElem?_range h1]
  simp
theorem tw {α β : Type} (f : α -> β) (xs : List α) (lo hi : Option Int) : gM (xs.map f) lo hi = (gM xs lo hi).map f := by
 unfold gM
 rw [Ph, <- List.map_drop, <- List.map_take]
theorem Iw {α : Type} (xs : List α) (lo hi : Option Int) : (gM xs lo hi).length <= HT.sIx xs.length xs.length hi - HT.sIx xs.length 0 lo := by
 unfold gM
 rw [QT]
 lia
theorem kv {m n : XS} {ρ ρ' : M.Env} (h : m ρ = some (.nx ρ')) : aU m n ρ = n ρ' := by unfold aU; rw [h]
theorem FA {n : Nat} {x : XS} {ds : List D} {d : D} (h : x (ds.map .sh ++ List.replicate (n - ds.length) .un) = some (.rt d)) : (fnO n x ds).map O.d = some d := by unfold fnO; rw [h]; simp
theorem tJ {n d : Nat} {v : Int} (h : 0 <= v) : HT.sIx n d (some v) = min v.toNat n := by
 show (if v < 0 then _ else _) = _
 rw [Pb (by lia)]
theorem z9 (s0 : Sl) (acc : R) (a b : Int) (h : acc.length <= 30000) : fB [s0, owl (acc.map prD), .sh (.int a), .sh (.int b)] = some (.nx [s0, owl ((step acc (a, b)).map prD), .sh (.int a), .sh (.int b)]) := by
 rcases P7 acc with rfl | ⟨t, q, rfl⟩
 ·simp [fB, Rw.step, prD]
 ·rw [P9] at *
  rw [im]
  have hl : t.length + 1 <= 30000 := by simpa using h
  have hlim : t.length + 1 < LIM := f9 (by lia)
  have at1 : atI (t.map prD ++ [prD q]) (-1) = some (prD q) := kj _ _
  by_cases hc : a <= q.2 + 1
  ·simp [fB, at1, hc, uI, FY]
  ·simp [fB, at1, hc, hlim, FY]
theorem mB (ps : R) (h : ps.length < 30000) : j5 [Bm ps] = some (ci (lA ps)) := by
 have hf := QO qW ps
 have hs := (iB (ps.filter qW)).length_eq
 have key : ∃ ρ', gn (aM (aj (ag 2) (aj (ag 3) aL))) fB ((nD (ps.filter qW)).map prD) [.sh (Bm ps), .ow (.lst []), .un, .un] = some (.nx ρ') /\ ∃ va vb, ρ' = [.sh (Bm ps), owl ((lA ps).map prD), va, vb] := by
  refine bw prD (fun pre ρ => ∃ va vb, ρ = [.sh (Bm ps), owl ((nO pre).map prD), va, vb]) _ _ ⟨_, _, rfl⟩ ?_
  rintro pre p post _ e ⟨va, vb, rfl⟩
  have hp : pre.length <= 30000 := by
   have := PH List.length e
   rw [Pj] at this
   lia
  refine ⟨_, _, rfl, .inl (z9 _ (nO pre) p.1 p.2 (by have := GF pre; lia)), .sh (.int p.1), .sh (.int p.2), by rw [BC]⟩
 obtain ⟨ρ', k1, va, vb, rfl⟩ := key
 have hc := E9 ps
 have hb := A2 (ps.filter qW) (by lia)
 have hl : ps.length <= LIM := bd (by lia)
 simp [j5, rN, fnO, ph, hl, hc, hb, k1]
abbrev Tri := Int × Int × Int
abbrev av (t : Tri) : D := .tup [.int t.1, .int t.2.1, .int t.2.2]
abbrev Pic := List (Int × R)
abbrev pyD (q : Int × R) : D := .tup [.int q.1, ci q.2]
abbrev aF (p : Pic) : D := .tup (p.map pyD)
def gk (ts : List Tri) (x y : Int) : Prop := ∃ t ∈ ts, t.1 = y /\ t.2.1 <= x /\ x <= t.2.2
def aR (p : Pic) (x y : Int) : Prop := ∃ q ∈ p, q.1 = y /\ Mem q.2 x
def aA (p : Pic) : Prop := (∀ q ∈ p, bh q.2 /\ q.2 ≠ []) /\ p.Pairwise fun a b => a.1 < b.1
theorem b8 (x y : Int) : ¬ aR [] x y := by rintro ⟨_, h, _⟩; cases h
theorem bM (q : Int × R) (p : Pic) (x y : Int) : aR (q :: p) x y ↔ (q.1 = y /\ Mem q.2 x) \/ aR p x y := by
 constructor
 ·rintro ⟨s, h, e⟩
  rcases Ps.mp h with rfl | h
  ·exact .inl e
  ·exact .inr ⟨s, h, e⟩
 ·rintro (e | ⟨s, h, e⟩)
  ·exact ⟨q, Pl, e⟩
  ·exact ⟨s, Pn _ h, e⟩
theorem fH (p q : Pic) (x y : Int) : aR (p ++ q) x y ↔ aR p x y \/ aR q x y := by
 constructor
 ·rintro ⟨s, h, e⟩
  rcases Pk.mp h with h | h
  ·exact .inl ⟨s, h, e⟩
  ·exact .inr ⟨s, h, e⟩
 ·rintro (⟨s, h, e⟩ | ⟨s, h, e⟩)
  ·exact ⟨s, Po _ h, e⟩
  ·exact ⟨s, Pr _ h, e⟩
theorem xk (t : Tri) (ts : List Tri) (x y : Int) : gk (t :: ts) x y ↔ (t.1 = y /\ t.2.1 <= x /\ x <= t.2.2) \/ gk ts x y := by
 constructor
 ·rintro ⟨s, h, e⟩
  rcases Ps.mp h with rfl | h
  ·exact .inl e
  ·exact .inr ⟨s, h, e⟩
 ·rintro (e | ⟨s, h, e⟩)
  ·exact ⟨t, Pl, e⟩
  ·exact ⟨s, Pn _ h, e⟩
theorem fG (a b : List Tri) (x y : Int) : gk (a ++ b) x y ↔ gk a x y \/ gk b x y := by
 constructor
 ·rintro ⟨s, h, e⟩
  rcases Pk.mp h with h | h
  ·exact .inl ⟨s, h, e⟩
  ·exact .inr ⟨s, h, e⟩
 ·rintro (⟨s, h, e⟩ | ⟨s, h, e⟩)
  ·exact ⟨s, Po _ h, e⟩
  ·exact ⟨s, Pr _ h, e⟩
theorem yf {a b : List Tri} (h : a.Perm b) (x y : Int) : gk a x y ↔ gk b x y :=
 ⟨fun ⟨q, m, e⟩ => ⟨q, h.mem_iff.mp m, e⟩, fun ⟨q, m, e⟩ => ⟨q, h.mem_iff.mpr m, e⟩⟩
theorem gq : aA [] := ⟨fun _ h => (by cases h), .nil⟩
theorem pcanon_cons {q : Int × R} {p : Pic} : aA (q :: p) ↔ (bh q.2 /\ q.2 ≠ []) /\ (∀ s ∈ p, q.1 < s.1) /\ aA p := by
 constructor
 ·rintro ⟨h1, h2⟩
  have h3 := QN.mp h2
  exact ⟨h1 q Pl, h3.1, fun s hs => h1 s (Pn _ hs), h3.2⟩
 ·rintro ⟨h1, h2, h3, h4⟩
  refine ⟨fun s hs => ?_, QN.mpr ⟨h2, h4⟩⟩
  rcases Ps.mp hs with rfl | hs
  ·exact h1
  ·exact h3 s hs
theorem gK {r : R} (c : bh r) (h : r ≠ []) : ∃ x, Mem r x := by
 cases r with
 | nil => exact absurd rfl h
 | cons p r => exact ⟨p.1, (mem_cons ..).mpr (.inl ⟨PB _, (canon_cons.mp c).1⟩)⟩
theorem tu : ∀ {p q : Pic}, aA p -> aA q -> (∀ x y, aR p x y ↔ aR q x y) -> p = q
 | [], [], _, _, _ => rfl
 | [], b :: q, _, cq, h => by
  obtain ⟨⟨c1, c2⟩, _⟩ := pcanon_cons.mp cq
  obtain ⟨x, hx⟩ := gK c1 c2
  exact (b8 _ _ ((h x b.1).mpr ((bM ..).mpr (.inl ⟨rfl, hx⟩)))).elim
 | a :: p, [], cp, _, h => by
  obtain ⟨⟨c1, c2⟩, _⟩ := pcanon_cons.mp cp
  obtain ⟨x, hx⟩ := gK c1 c2
  exact (b8 _ _ ((h x a.1).mp ((bM ..).mpr (.inl ⟨rfl, hx⟩)))).elim
 | a :: p, b :: q, cp, cq, h => by
  obtain ⟨⟨ca, na⟩, la, cp'⟩ := pcanon_cons.mp cp
  obtain ⟨⟨cb, nb⟩, lb, cq'⟩ := pcanon_cons.mp cq
  obtain ⟨xa, ha⟩ := gK ca na
  obtain ⟨xb, hb⟩ := gK cb nb
  have ey : a.1 = b.1 := by
   have h1 : b.1 <= a.1 := by
    rcases (bM ..).mp ((h xa a.1).mp ((bM ..).mpr (.inl ⟨rfl, ha⟩))) with ⟨e, _⟩ | ⟨s, hs, e, _⟩
    ·lia
    ·have := lb s hs; lia
   have h2 : a.1 <= b.1 := by
    rcases (bM ..).mp ((h xb b.1).mpr ((bM ..).mpr (.inl ⟨rfl, hb⟩))) with ⟨e, _⟩ | ⟨s, hs, e, _⟩
    ·lia
    ·have := la s hs; lia
   lia
  have er : a.2 = b.2 := GN ca cb fun x => by
   have hx := h x a.1
   rw [bM, bM] at hx
   have n1 : ¬ aR p x a.1 := by rintro ⟨s, hs, e, _⟩; have := la s hs; lia
   have n2 : ¬ aR q x a.1 := by rintro ⟨s, hs, e, _⟩; have := lb s hs; lia
   constructor
   ·intro hm
    rcases hx.mp (.inl ⟨rfl, hm⟩) with z | z
    ·exact z.2
    ·exact absurd z n2
   ·intro hm
    rcases hx.mpr (.inl ⟨ey.symm, hm⟩) with z | z
    ·exact z.2
    ·exact absurd z n1
  have eab : a = b := by
   obtain ⟨a1, a2⟩ := a
   obtain ⟨b1, b2⟩ := b
   simp only at ey er
   rw [ey, er]
  subst eab
  have ih : p = q := tu cp' cq' fun x y => by
   have hx := h x y
   rw [bM, bM] at hx
   constructor
   ·intro hm
    rcases hx.mp (.inr hm) with z | z
    ·obtain ⟨s, hs, e, _⟩ := hm; have := la s hs; lia
    ·exact z
   ·intro hm
    rcases hx.mpr (.inr hm) with z | z
    ·obtain ⟨s, hs, e, _⟩ := hm; have := lb s hs; lia
    ·exact z
  rw [ih]
def uq (t : Tri) : List Int := [t.1, t.2.1, t.2.2]
def yG : List Int -> Tri
 | [a, b, c] => (a, b, c)
 | _ => (0, 0, 0)
theorem wN : ∀ r : List Tri, keys (r.map av) = some (r.map uq)
 | [] => rfl
 | p :: r => by rw [Pt, keys, wN r]; rfl
theorem ER : ∀ {r : List Tri}, r ≠ [] -> cX (r.map av) = none
 | [], h => absurd rfl h
 | _ :: _, _ => rfl
def cn (ts : List Tri) : List Tri := (jc (ts.map uq)).map yG
theorem oK (ts : List Tri) : (cn ts).map uq = jc (ts.map uq) := by
 unfold cn
 rw [PC]
 have h : ∀ k ∈ jc (ts.map uq), (uq ∘ yG) k = k := fun k hk => by
  have := (iT _).mem_iff.mp hk
  obtain ⟨p, _, rfl⟩ := Pp.mp this
  rfl
 rw [List.map_congr_left h, List.map_id']
theorem cZ (ts : List Tri) : (cn ts).Perm ts := by
 have h := (iT (ts.map uq)).map yG
 rw [PC] at h
 have e : (yG ∘ uq) = id := rfl
 rw [e, List.map_id] at h
 exact h
theorem AY (ts : List Tri) : (cn ts).Pairwise fun p q => p.1 <= q.1 := by
 have h := qp (ts.map uq)
 rw [<- oK, Qq] at h
 refine h.imp fun {p q} e => ?_
 have e' : (if q.1 = p.1 then HT.cK [q.2.1, q.2.2] [p.2.1, p.2.2] else decide (q.1 < p.1)) = false := e
 by_cases hq : q.1 = p.1
 ·lia
 ·rw [Pb hq] at e'
  have := Ql e'
  lia
theorem kQ (ts : List Tri) (h : ts.length < 30000) : gD [.lst (ts.map av)] = some ((cn ts).map av) := by
 show (if (ts.map av).length < 30000 then _ else _) = _
 rw [Pa (by rw [Ph]; exact h)]
 by_cases e : ts = []
 ·subst e
  have e0 : cn [] = [] := QM.mp (by rw [(cZ []).length_eq]; rfl)
  have e1 : gJ [] = [] := QM.mp (by rw [(fk []).length_eq]; rfl)
  show some ((gJ []).map D.int) = _
  rw [e0, e1]
  rfl
 ·rw [ER e]
  dsimp only
  rw [wN]
  have : (cn ts).map av = (jc (ts.map uq)).map wl := by
   rw [<- oK, PC]
   rfl
  rw [this]
  rfl
def dt (t : Tri) : Bool := decide (t.2.1 <= t.2.2)
theorem AJ (ts : List Tri) (x y : Int) : gk (ts.filter dt) x y ↔ gk ts x y := by
 constructor
 ·rintro ⟨q, m, e⟩
  exact ⟨q, (PR.mp m).1, e⟩
 ·rintro ⟨q, m, e⟩
  exact ⟨q, PR.mpr ⟨m, by simp [dt]; lia⟩, e⟩
theorem t0 : ∀ ps : List Tri, ps.filterMap (fun p => if p.2.1 <= p.2.2 then some (av p) else none) = (ps.filter dt).map av
 | [] => rfl
 | p :: t => by
  rw [QP, RT, t0 t]
  by_cases h : p.2.1 <= p.2.2
  ·simp [dt, h]
  ·simp [dt, h]
theorem BL (ps : List Tri) : b6 (aM (aj (ag 0) (aj (ag 1) (aj (ag 2) aL)))) (xB (xOp dLe (ai 1) (ai 2))) (bg (ad (au 0) (ad (au 1) (ad (au 2) aq)))) [.un, .un, .un] (ps.map av) = some ((ps.filter dt).map av) := by
 rw [mE av (fun p => if p.2.1 <= p.2.2 then some (av p) else none) ps, t0]
 intro p _
 by_cases h : p.2.1 <= p.2.2 <;> simp [fR, h]
def lh (gs : Pic) (t : Tri) : Pic := match gs.getLast? with
 | none => [(t.1, [t.2])]
 | some g => if g.1 = t.1 then gs.dropLast ++ [(g.1, g.2 ++ [t.2])] else gs ++ [(t.1, [t.2])]
theorem Eg (t : Tri) : lh [] t = [(t.1, [t.2])] := rfl
theorem oY (gs : Pic) (g : Int × R) (t : Tri) : lh (gs ++ [g]) t = if g.1 = t.1 then gs ++ [(g.1, g.2 ++ [t.2])] else gs ++ [g] ++ [(t.1, [t.2])] := by
 unfold lh
 simp
def fb (ts : List Tri) : Pic := ts.foldl lh []
theorem u0 (pre : List Tri) (t : Tri) : fb (pre ++ [t]) = lh (fb pre) t := by
 unfold fb
 rw [RC]
 rfl
structure GOk (gs : Pic) (ts : List Tri) : Prop where
 ne : ∀ g ∈ gs, g.2 ≠ [] /\ Ok g.2
 up : gs.Pairwise fun a b => a.1 < b.1
 mem : ∀ x y, aR gs x y ↔ gk ts x y
 le : ∀ g ∈ gs, ∃ t ∈ ts, g.1 = t.1
 len : (gs.map fun g => g.2.length).sum = ts.length
theorem GH {gs : Pic} {ts : List Tri} {t : Tri} (o : GOk gs ts) (ht : t.2.1 <= t.2.2) (hb : ∀ s ∈ ts, s.1 <= t.1) : GOk (lh gs t) (ts ++ [t]) := by
 have tm : ∀ x y, gk (ts ++ [t]) x y ↔ gk ts x y \/ (t.1 = y /\ t.2.1 <= x /\ x <= t.2.2) := fun x y => by
  rw [fG, xk]
  constructor
  ·rintro (h | h | ⟨_, h, _⟩)
   ·exact .inl h
   ·exact .inr h
   ·cases h
  ·rintro (h | h)
   ·exact .inl h
   ·exact .inr (.inl h)
 have okt : Ok [t.2] := fun p hp => by rw [Pg.mp hp]; exact ht
 rcases P7 gs with rfl | ⟨gs0, g, rfl⟩
 ·rw [Eg]
  have e0 : ts = [] := QM.mp (by have := o.len; simpa using this.symm)
  subst e0
  refine ⟨fun g hg => ?_, QJ _ _, fun x y => ?_, fun g hg => ⟨t, by simp, by rw [Pg.mp hg]⟩, by simp⟩
  ·rw [Pg.mp hg]; exact ⟨by simp, okt⟩
  ·rw [tm, bM, mem_cons]
   constructor
   ·rintro (⟨h1, h2 | h2⟩ | h)
    ·exact .inr ⟨h1, h2⟩
    ·exact (bz _ h2).elim
    ·exact (b8 _ _ h).elim
   ·rintro (⟨_, h, _⟩ | h)
    ·cases h
    ·exact .inl ⟨h.1, .inl h.2⟩
 ·rw [P9] at *
  have up := PP.mp o.up
  rw [oY]
  have glast : g.1 <= t.1 := by
   obtain ⟨s, hs, e⟩ := o.le g (by simp)
   have := hb s hs
   lia
  by_cases h : g.1 = t.1
  ·rw [Pa h]
   refine ⟨fun q hq => ?_, ?_, fun x y => ?_, fun q hq => ?_, ?_⟩
   ·rcases Pk.mp hq with hq | hq
    ·exact o.ne q (Po _ hq)
    ·rw [Pg.mp hq]
     refine ⟨by simp, fun p hp => ?_⟩
     rcases Pk.mp hp with hp | hp
     ·exact (o.ne g (by simp)).2 p hp
     ·exact okt p hp
   ·refine PP.mpr ⟨up.1, QJ _ _, fun a ha b hb => ?_⟩
    rw [Pg.mp hb]
    exact up.2.2 a ha g (by simp)
   ·rw [tm, <- o.mem, fH, fH, bM, bM]
    dsimp only
    rw [mem_append, mem_cons]
    have n0 := b8 x y
    have n1 := bz x
    constructor
    ·rintro (k | ⟨k1, k2 | k2 | k2⟩ | k)
     ·exact .inl (.inl k)
     ·exact .inl (.inr (.inl ⟨k1, k2⟩))
     ·exact .inr ⟨by lia, k2⟩
     ·exact absurd k2 n1
     ·exact absurd k n0
    ·rintro ((k | ⟨k1, k2⟩ | k) | ⟨k1, k2⟩)
     ·exact .inl k
     ·exact .inr (.inl ⟨k1, .inl k2⟩)
     ·exact absurd k n0
     ·exact .inr (.inl ⟨by lia, .inr (.inl k2)⟩)
   ·rcases Pk.mp hq with hq | hq
    ·obtain ⟨s, hs, e⟩ := o.le q (Po _ hq)
     exact ⟨s, Po _ hs, e⟩
    ·rw [Pg.mp hq]
     exact ⟨t, by simp, h⟩
   ·have := o.len
    simp only [Qc, List.sum_append, Pt, List.map_nil, Qr, List.sum_nil, Pj, Pu, List.length_nil] at this ⊢
    lia
  ·rw [Pb h]
   refine ⟨fun q hq => ?_, ?_, fun x y => ?_, fun q hq => ?_, ?_⟩
   ·rcases Pk.mp hq with hq | hq
    ·exact o.ne q hq
    ·rw [Pg.mp hq]; exact ⟨by simp, okt⟩
   ·refine PP.mpr ⟨o.up, QJ _ _, fun a ha b hb' => ?_⟩
    rw [Pg.mp hb']
    rcases Pk.mp ha with ha | ha
    ·have := up.2.2 a ha g (by simp)
     dsimp only
     lia
    ·rw [Pg.mp ha]; dsimp only; lia
   ·rw [tm, <- o.mem, fH, bM]
    dsimp only
    rw [mem_cons]
    have n0 := b8 x y
    have n1 := bz x
    constructor
    ·rintro (k | ⟨k1, k2 | k2⟩ | k)
     ·exact .inl k
     ·exact .inr ⟨k1, k2⟩
     ·exact absurd k2 n1
     ·exact absurd k n0
    ·rintro (k | ⟨k1, k2⟩)
     ·exact .inl k
     ·exact .inr (.inl ⟨k1, .inl k2⟩)
   ·rcases Pk.mp hq with hq | hq
    ·obtain ⟨s, hs, e⟩ := o.le q hq
     exact ⟨s, Po _ hs, e⟩
    ·rw [Pg.mp hq]
     exact ⟨t, by simp, rfl⟩
   ·have := o.len
    simp only [Qc, List.sum_append, Pt, List.map_nil, Qr, List.sum_nil, Pj, Pu, List.length_nil] at this ⊢
    lia
theorem Ar : ∀ (post pre : List Tri), (∀ t ∈ pre ++ post, t.2.1 <= t.2.2) -> (pre ++ post).Pairwise (fun p q => p.1 <= q.1) -> GOk (fb pre) pre -> GOk (fb (pre ++ post)) (pre ++ post)
 | [], pre, _, _, o => by rw [P5]; exact o
 | t :: post, pre, h1, h2, o => by
  have e : pre ++ t :: post = (pre ++ [t]) ++ post := by simp
  rw [e] at h1 h2 ⊢
  refine Ar post (pre ++ [t]) h1 h2 ?_
  rw [u0]
  have h3 := PP.mp h2
  have h4 := PP.mp h3.1
  exact GH o (h1 t (by simp)) fun s hs => h4.2.2 s hs t (by simp)
theorem wS {ts : List Tri} (h1 : ∀ t ∈ ts, t.2.1 <= t.2.2) (h2 : ts.Pairwise fun p q => p.1 <= q.1) : GOk (fb ts) ts :=
 Ar ts [] h1 h2 ⟨fun _ h => (by cases h), .nil, fun x y => ⟨fun h => (b8 _ _ h).elim, fun ⟨_, h, _⟩ => by cases h⟩, fun _ h => (by cases h), rfl⟩
def aZ (ts : List Tri) : Pic := (fb (cn (ts.filter dt))).map fun g => (g.1, lA g.2)
theorem lS (ts : List Tri) : GOk (fb (cn (ts.filter dt))) (cn (ts.filter dt)) := wS (fun t ht => by
 have := (cZ _).mem_iff.mp ht
 simpa [dt] using (PR.mp this).2) (AY _)
theorem GA {ps : R} (h : ps ≠ []) (o : Ok ps) : lA ps ≠ [] := fun e => by
 cases ps with
 | nil => exact h rfl
 | cons p ps =>
  have := ((eK (p :: ps)).2 p.1).mpr ((mem_cons ..).mpr (.inl ⟨PB _, o p Pl⟩))
  rw [e] at this
  exact bz _ this
theorem bR (ts : List Tri) : aA (aZ ts) /\ ∀ x y, aR (aZ ts) x y ↔ gk ts x y := by
 have o := lS ts
 refine ⟨⟨fun q hq => ?_, ?_⟩, fun x y => ?_⟩
 ·obtain ⟨g, hg, rfl⟩ := Pp.mp hq
  obtain ⟨h1, h2⟩ := o.ne g hg
  exact ⟨(eK g.2).1, GA h1 h2⟩
 ·unfold aZ
  rw [Qq]
  exact o.up
 ·rw [<- AJ ts, <- yf (cZ _), <- o.mem]
  constructor
  ·rintro ⟨q, hq, e, hm⟩
   obtain ⟨g, hg, rfl⟩ := Pp.mp hq
   exact ⟨g, hg, e, ((eK g.2).2 x).mp hm⟩
  ·rintro ⟨g, hg, e, hm⟩
   exact ⟨_, Pp.mpr ⟨g, hg, rfl⟩, e, ((eK g.2).2 x).mpr hm⟩
def af (p : Pic) : List Tri := p.flatMap fun q => q.2.map fun s => (q.1, s)
theorem bf (q : Int × R) (p : Pic) : af (q :: p) = (q.2.map fun s => (q.1, s)) ++ af p := rfl
theorem bS (p : Pic) (x y : Int) : gk (af p) x y ↔ aR p x y := by
 constructor
 ·rintro ⟨t, ht, e, h⟩
  obtain ⟨q, hq, hs⟩ := Rq.mp ht
  obtain ⟨s, hs2, rfl⟩ := Pp.mp hs
  exact ⟨q, hq, e, s, hs2, h⟩
 ·rintro ⟨q, hq, e, s, hs, h⟩
  exact ⟨(q.1, s), Rq.mpr ⟨q, hq, Pp.mpr ⟨s, hs, rfl⟩⟩, e, h⟩
theorem vE {ts : List Tri} {p : Pic} (c : aA p) (h : ∀ x y, gk ts x y ↔ aR p x y) : aZ ts = p :=
 tu (bR ts).1 c fun x y => ((bR ts).2 x y).trans (h x y)
theorem m7 {p : Pic} (c : aA p) : aZ (af p) = p := vE c (bS p)
mutual
theorem A4 : ∀ (n : Nat) (d : D), okD n d = true -> eqD d d = true
 | _, .non, _ => by simp [eqD]
 | _, .bl _, _ => by simp [eqD]
 | _, .int _, _ => by simp [eqD]
 | _, .str _, _ => by simp [eqD]
 | 0, .lst _, h => by simp [okD] at h
 | n + 1, .lst l, h => by rw [eqD]; exact eqDs_refl n l (by simpa [okD] using h)
 | 0, .tup _, h => by simp [okD] at h
 | n + 1, .tup l, h => by rw [eqD]; exact eqDs_refl n l (by simpa [okD] using h)
 | n, .ty _, h => by cases n <;> simp [okD] at h
 | n, .scr _, h => by cases n <;> simp [okD] at h
 | n, .ins _ _ _, h => by cases n <;> simp [okD] at h
 | n, .dic _, h => by cases n <;> simp [okD] at h
theorem eqDs_refl : ∀ (n : Nat) (l : List D), okDs n l = true -> eqDs l l = true
 | _, [], _ => by simp [eqDs]
 | n, d :: l, h => by
  rw [okDs, Qp] at h
  rw [eqDs, A4 n d h.1, eqDs_refl n l h.2]
  rfl
end
theorem As {α : Type} {n : Nat} {f : α -> D} : ∀ (l : List α), (∀ a ∈ l, okD n (f a) = true) -> okDs n (l.map f) = true
 | [], _ => by simp [okDs]
 | a :: l, h => by rw [Pt, okDs, h a Pl, As l fun b hb => h b (Pn _ hb)]; rfl
theorem Bi {d : D} (neg : Bool) (h : okD 50 d = true) : dEq neg d d = some (.bl (!neg)) := by
 unfold dEq
 rw [Pa ⟨h, h⟩, A4 50 d h]
 cases neg <;> rfl
theorem yR (p : Pic) : okD 50 (aF p) = true := by
 rw [okD]
 refine As p fun q _ => ?_
 simp only [okD, okDs]
 rw [tW 46 q.2]
 rfl
def grO (g : Int × R) : O := .tup [.sh (.int g.1), .lst (g.2.map (O.sh ∘ prD))]
def grD (g : Int × R) : D := .tup [.int g.1, Bm g.2]
theorem LA (g : Int × R) : (grO g).d = grD g := by simp [grO, grD]
theorem Fl : ∀ gs : Pic, O.ds (gs.map grO) = gs.map grD
 | [] => by simp
 | g :: gs => by rw [Pt, DP, LA, Fl gs]; rfl
theorem DM (gs : Pic) (t : Tri) : (lh gs t).length <= gs.length + 1 := by
 rcases P7 gs with rfl | ⟨gs0, g, rfl⟩
 ·simp [lh]
 ·rw [P9, oY]
  split <;> simp
theorem xI : ∀ ts : List Tri, (fb ts).length <= ts.length := by
 intro ts
 have key : ∀ (l : List Tri) (gs : Pic), (l.foldl lh gs).length <= gs.length + l.length := by
  intro l
  induction l with
  | nil => intro gs; simp
  | cons t l ih =>
   intro gs
   have h1 := ih (lh gs t)
   have h2 := DM gs t
   rw [List.foldl_cons, Pu]
   lia
 have := key ts []
 unfold fb
 simpa using this
theorem zb (s0 : Sl) (gs : Pic) (t : Tri) (h : gs.length <= 30000) (hg : ∀ g ∈ gs, g.2.length <= 30000) : cD [s0, .ow (.lst (gs.map grO)), .sh (.int t.1), .sh (.int t.2.1), .sh (.int t.2.2)] = some (.nx [s0, .ow (.lst ((lh gs t).map grO)), .sh (.int t.1), .sh (.int t.2.1), .sh (.int t.2.2)]) := by
 rcases P7 gs with rfl | ⟨gs0, g, rfl⟩
 ·simp [cD, lh, grO]
 ·rw [P9] at *
  rw [oY]
  have hl : gs0.length + 1 <= 30000 := by simpa using h
  have hlim : gs0.length + 1 < LIM := f9 (by lia)
  have hg2 : g.2.length < LIM := f9 (by have := hg g (by simp); lia)
  by_cases hc : g.1 = t.1
  ·simp [cD, hc, hg2, grO]
  ·simp [cD, hc, hlim, grO]
theorem nZ : ∀ {l : List Nat} {n : Nat}, n ∈ l -> n <= l.sum
 | [], _, h => by cases h
 | m :: l, n, h => by
  rw [Qr]
  rcases Ps.mp h with rfl | h
  ·lia
  ·have := nZ h; lia
theorem fj (ts : List Tri) (h : ts.length < 30000) : eP [.lst (ts.map av)] = some (aF (aZ ts)) := by
 have hf := QO dt ts
 have hs := (cZ (ts.filter dt)).length_eq
 have og := lS ts
 have key : ∃ ρ', gn (aM (aj (ag 2) (aj (ag 3) (aj (ag 4) aL)))) cD ((cn (ts.filter dt)).map av) [.sh (.lst (ts.map av)), .ow (.lst []), .un, .un, .un] = some (.nx ρ') /\ ∃ va vb vc, ρ' = [.sh (.lst (ts.map av)), .ow (.lst ((fb (cn (ts.filter dt))).map grO)), va, vb, vc] := by
  refine bw av (fun pre ρ => ∃ va vb vc, ρ = [.sh (.lst (ts.map av)), .ow (.lst ((fb pre).map grO)), va, vb, vc]) _ _ ⟨_, _, _, rfl⟩ ?_
  rintro pre t post _ e ⟨va, vb, vc, rfl⟩
  have hp : pre.length <= 30000 := by
   have := PH List.length e
   rw [Pj] at this
   lia
  have gl := xI pre
  have gp : GOk (fb pre) pre := by
   refine wS (fun s hs => ?_) ?_
   ·have := (cZ _).mem_iff.mp (show s ∈ cn (ts.filter dt) by rw [e]; simp [hs])
    simpa [dt] using (PR.mp this).2
   ·have := AY (ts.filter dt)
    rw [e] at this
    exact (PP.mp this).1
  have gg : ∀ g ∈ fb pre, g.2.length <= 30000 := fun g hg => by
   have h1 := gp.len
   have h2 : g.2.length <= ((fb pre).map fun g => g.2.length).sum := nZ (Pp.mpr ⟨g, hg, rfl⟩)
   lia
  refine ⟨_, _, rfl, .inl (zb _ (fb pre) t (by lia) gg), .sh (.int t.1), .sh (.int t.2.1), .sh (.int t.2.2), by rw [u0]⟩
 obtain ⟨ρ', k1, va, vb, vc, rfl⟩ := key
 have hc := BL ts
 have hb := kQ (ts.filter dt) (by lia)
 have hl : ts.length <= LIM := bd (by lia)
 have gl := xI (cn (ts.filter dt))
 have hl2 : (fb (cn (ts.filter dt))).length <= LIM := bd (by lia)
 have c2 : b6 (aM (aj (ag 0) (aj (ag 1) aL))) cz (bg (ad (au 0) (ad (aH j5 (ad (au 1) aq)) aq))) [.un, .un] ((fb (cn (ts.filter dt))).map grD) = some ((aZ ts).map pyD) := by
  rw [a8 grD (fun g => pyD (g.1, lA g.2))]
  ·unfold aZ
   rw [PC]
   rfl
  ·intro g hg
   have h1 : g.2.length < 30000 := by
    have h2 : g.2.length <= ((fb (cn (ts.filter dt))).map fun g => g.2.length).sum := nZ (Pp.mpr ⟨g, hg, rfl⟩)
    have := og.len
    lia
   have h3 := mB g.2 h1
   simp [fR, grD, h3]
 simp [eP, jD, fnO, hW, hl, hc, hb, k1, frz, Fl, hl2, c2]
theorem ik (p q : Pic) : af (p ++ q) = af p ++ af q := by unfold af; rw [List.flatMap_append]
theorem cW {p : Pic} {q : Int × R} (h : q ∈ p) : q.2.length <= (af p).length := by
 induction p with
 | nil => cases h
 | cons s p ih =>
  rw [bf, Pj, Ph]
  rcases Ps.mp h with rfl | h
  ·lia
  ·have := ih h; lia
theorem oE (p : Pic) (h : (af p).length <= 100000) : fe [aF p] = some (.lst ((af p).map (O.sh ∘ av))) := by
 obtain ⟨ρ', k1, v2, v3, rfl⟩ := bw (g := aM (aj (ag 2) (aj (ag 3) aL))) (m := eN) pyD (fun pre ρ => ∃ v2 v3, ρ = [.sh (aF p), .ow (.lst ((af pre).map (O.sh ∘ av))), v2, v3]) p [.sh (aF p), .ow (.lst []), .un, .un] ⟨_, _, rfl⟩ (by
  rintro pre q post _ e ⟨v2, v3, rfl⟩
  have hlen : (af pre).length + q.2.length <= 100000 := by
   rw [e, ik, bf, Pj, Pj, Ph] at h
   lia
  have hl : (af pre).length + q.2.length <= LIM := bd hlen
  have hl2 : q.2.length <= LIM := bd (by lia)
  have hc : b6 (aM (aj (ag 0) (aj (ag 1) aL))) cz (bg (ad (au 2) (ad (au 0) (ad (au 1) aq)))) [.un, .un, .sh (.int q.1)] (q.2.map prD) = some (q.2.map fun s => av (q.1, s)) := a8 prD _ q.2 fun s _ => by simp [fR]
  refine ⟨_, [.sh (aF p), .ow (.lst ((af (pre ++ [q])).map (O.sh ∘ av))), .sh (.int q.1), .sh (ci q.2)], rfl, .inl ?_, _, _, rfl⟩
  have es : af (pre ++ [q]) = af pre ++ q.2.map fun s => (q.1, s) := by rw [ik, bf]; simp [af]
  rw [es]
  simp [eN, hl, hl2, hc])
 simp [fe, fnO, fW, k1]
theorem b7 (p : Pic) (h : (af p).length <= 100000) : bV [aF p] = some (.lst ((af p).map av)) := by
 unfold bV
 rw [oE p h]
 simp
theorem D6 (ts : List Tri) : (cn ts).Pairwise fun p q => p.1 < q.1 \/ (p.1 = q.1 /\ p.2.1 <= q.2.1) := by
 have h := qp (ts.map uq)
 rw [<- oK, Qq] at h
 refine h.imp fun {p q} e => ?_
 have e' : (if q.1 = p.1 then (if q.2.1 = p.2.1 then HT.cK [q.2.2] [p.2.2] else decide (q.2.1 < p.2.1)) else decide (q.1 < p.1)) = false := e
 by_cases hq : q.1 = p.1
 ·rw [Pa hq] at e'
  by_cases hr : q.2.1 = p.2.1
  ·exact .inr ⟨hq.symm, by lia⟩
  ·rw [Pb hr] at e'
   have := Ql e'
   exact .inr ⟨hq.symm, by lia⟩
 ·rw [Pb hq] at e'
  have := Ql e'
  exact .inl (by lia)
def se (gs : Pic) (t : Tri) : Pic := match gs.getLast? with
 | some g => if g.1 = t.1 then gs.dropLast ++ [(g.1, step g.2 t.2)] else gs ++ [(t.1, [t.2])]
 | none => [(t.1, [t.2])]
theorem EL (t : Tri) : se [] t = [(t.1, [t.2])] := rfl
theorem ue (gs : Pic) (g : Int × R) (t : Tri) : se (gs ++ [g]) t = if g.1 = t.1 then gs ++ [(g.1, step g.2 t.2)] else gs ++ [g] ++ [(t.1, [t.2])] := by
 unfold se
 simp
def tU (ts : List Tri) : Pic := ts.foldl se []
theorem wT (pre : List Tri) (t : Tri) : tU (pre ++ [t]) = se (tU pre) t := by unfold tU; rw [RC]; rfl
theorem Hw (acc : R) (p : Int × Int) : step acc p ≠ [] := by
 rcases P7 acc with rfl | ⟨t, q, rfl⟩
 ·rw [u7]; simp
 ·rw [P9, im]
  split <;> simp
theorem A1 {acc : R} {p q : Int × Int} (h : q ∈ step acc p) : q.1 = p.1 \/ ∃ q' ∈ acc, q'.1 = q.1 := by
 rcases P7 acc with rfl | ⟨t, z, rfl⟩
 ·rw [u7, Pg] at h
  subst h; exact .inl rfl
 ·rw [P9] at h ⊢
  rw [im] at h
  split at h
  ·rcases Pk.mp h with h | h
   ·exact .inr ⟨q, Po _ h, rfl⟩
   ·rw [Pg] at h
    subst h
    exact .inr ⟨z, by simp, rfl⟩
  ·rcases Pk.mp h with h | h
   ·exact .inr ⟨q, h, rfl⟩
   ·rw [Pg] at h
    subst h; exact .inl rfl
structure LOk (gs : Pic) (pre : List Tri) : Prop where
 can : aA gs
 mem : ∀ x y, aR gs x y ↔ gk pre x y
 fst : ∀ g ∈ gs, ∀ q ∈ g.2, ∃ t ∈ pre, t.1 = g.1 /\ t.2.1 = q.1
 row : ∀ g ∈ gs, ∃ t ∈ pre, t.1 = g.1
 len : gs.length <= pre.length
 lens : ∀ g ∈ gs, g.2.length <= pre.length
theorem uH (t : Tri) (x y : Int) : gk [t] x y ↔ t.1 = y /\ t.2.1 <= x /\ x <= t.2.2 := by
 rw [xk]
 constructor
 ·rintro (h | ⟨_, h, _⟩)
  ·exact h
  ·cases h
 ·exact .inl
theorem pe (q : Int × R) (x y : Int) : aR [q] x y ↔ q.1 = y /\ Mem q.2 x := by
 rw [bM]
 constructor
 ·rintro (h | h)
  ·exact h
  ·exact (b8 _ _ h).elim
 ·exact .inl
theorem CY (p : Int × Int) (x : Int) : Mem [p] x ↔ p.1 <= x /\ x <= p.2 := by
 rw [mem_cons]
 constructor
 ·rintro (h | h)
  ·exact h
  ·exact (bz _ h).elim
 ·exact .inl
theorem yn {p : Int × Int} (h : p.1 <= p.2) : bh [p] := canon_cons.mpr ⟨h, fun _ h => (by cases h), ir⟩
theorem Hb {gs : Pic} {pre : List Tri} {t : Tri} (o : LOk gs pre) (ht : t.2.1 <= t.2.2) (hb : ∀ s ∈ pre, s.1 < t.1 \/ (s.1 = t.1 /\ s.2.1 <= t.2.1)) : LOk (se gs t) (pre ++ [t]) := by
 have hle : ∀ g ∈ gs, g.1 <= t.1 := fun g hg => by
  obtain ⟨s, hs, e⟩ := o.row g hg
  have := hb s hs
  lia
 rcases P7 gs with rfl | ⟨gs0, g, rfl⟩
 ·rw [EL]
  refine ⟨pcanon_cons.mpr ⟨⟨yn ht, by simp⟩, fun _ h => (by cases h), gq⟩, fun x y => ?_, fun g hg q hq => ?_, fun g hg => ?_, by simp, fun g hg => ?_⟩
  ·rw [pe, fG, <- o.mem, uH, CY]
   exact ⟨.inr, fun h => h.elim (fun h => (b8 _ _ h).elim) id⟩
  ·rw [Pg] at hg
   subst hg
   rw [Pg] at hq
   subst hq
   exact ⟨t, by simp, rfl, rfl⟩
  ·rw [Pg] at hg
   subst hg
   exact ⟨t, by simp, rfl⟩
  ·rw [Pg] at hg
   subst hg
   simp
 ·rw [P9] at o hle ⊢
  rw [ue]
  have hg0 : g ∈ gs0 ++ [g] := by simp
  have cg := o.can.1 g hg0
  have pw := PP.mp o.can.2
  by_cases c : g.1 = t.1
  ·rw [Pa c]
   have lo : ∀ q ∈ g.2, q.1 <= t.2.1 := fun q hq => by
    obtain ⟨s, hs, e1, e2⟩ := o.fst g hg0 q hq
    have := hb s hs
    lia
   obtain ⟨s1, s2, s3⟩ := CV cg.1 (p := t.2) ht lo
   refine ⟨⟨fun q hq => ?_, ?_⟩, fun x y => ?_, fun g' hg q hq => ?_, fun g' hg => ?_, ?_, fun g' hg => ?_⟩
   ·rcases Pk.mp hq with hq | hq
    ·exact o.can.1 q (Po _ hq)
    ·rw [Pg] at hq
     subst hq
     exact ⟨s1, Hw _ _⟩
   ·refine PP.mpr ⟨pw.1, QJ _ _, fun a ha b hb => ?_⟩
    rw [Pg] at hb
    subst hb
    exact pw.2.2 a ha g (by simp)
   ·have := o.mem x y
    rw [fH, pe] at this
    rw [fH, pe, fG, <- this, uH]
    dsimp only
    rw [s2 x]
    constructor
    ·rintro (h | ⟨h1, h2 | h2⟩)
     ·exact .inl (.inl h)
     ·exact .inl (.inr ⟨h1, h2⟩)
     ·exact .inr ⟨c.symm.trans h1, h2⟩
    ·rintro ((h | ⟨h1, h2⟩) | ⟨h1, h2⟩)
     ·exact .inl h
     ·exact .inr ⟨h1, .inl h2⟩
     ·exact .inr ⟨c.trans h1, .inr h2⟩
   ·rcases Pk.mp hg with hg | hg
    ·obtain ⟨s, hs, e⟩ := o.fst g' (Po _ hg) q hq
     exact ⟨s, Po _ hs, e⟩
    ·rw [Pg] at hg
     subst hg
     rcases A1 hq with e | ⟨q', hq', e⟩
     ·exact ⟨t, by simp, c.symm, e.symm⟩
     ·obtain ⟨s, hs, e1, e2⟩ := o.fst g hg0 q' hq'
      exact ⟨s, Po _ hs, e1, e2.trans e⟩
   ·rcases Pk.mp hg with hg | hg
    ·obtain ⟨s, hs, e⟩ := o.row g' (Po _ hg)
     exact ⟨s, Po _ hs, e⟩
    ·rw [Pg] at hg
     subst hg
     exact ⟨t, by simp, c.symm⟩
   ·have := o.len
    rw [Pj] at this ⊢
    rw [Pj]
    simp at this ⊢
    lia
   ·rw [Pj, P8]
    rcases Pk.mp hg with hg | hg
    ·have := o.lens g' (Po _ hg)
     lia
    ·rw [Pg] at hg
     subst hg
     have := o.lens g hg0
     have := AN g.2 t.2
     dsimp only
     lia
  ·rw [Pb c]
   have hlt : ∀ a ∈ gs0 ++ [g], a.1 < t.1 := fun a ha => by
    have h1 := hle g hg0
    rcases Pk.mp ha with ha | ha
    ·have := pw.2.2 a ha g (by simp)
     lia
    ·rw [Pg] at ha
     subst ha
     lia
   refine ⟨⟨fun q hq => ?_, ?_⟩, fun x y => ?_, fun g' hg q hq => ?_, fun g' hg => ?_, ?_, fun g' hg => ?_⟩
   ·rcases Pk.mp hq with hq | hq
    ·exact o.can.1 q hq
    ·rw [Pg] at hq
     subst hq
     exact ⟨yn ht, by simp⟩
   ·refine PP.mpr ⟨o.can.2, QJ _ _, fun a ha b hb => ?_⟩
    rw [Pg] at hb
    subst hb
    exact hlt a ha
   ·rw [fH, o.mem, pe, fG, uH, CY]
   ·rcases Pk.mp hg with hg | hg
    ·obtain ⟨s, hs, e⟩ := o.fst g' hg q hq
     exact ⟨s, Po _ hs, e⟩
    ·rw [Pg] at hg
     subst hg
     rw [Pg] at hq
     subst hq
     exact ⟨t, by simp, rfl, rfl⟩
   ·rcases Pk.mp hg with hg | hg
    ·obtain ⟨s, hs, e⟩ := o.row g' hg
     exact ⟨s, Po _ hs, e⟩
    ·rw [Pg] at hg
     subst hg
     exact ⟨t, by simp, rfl⟩
   ·have := o.len
    rw [Pj, Pj (bs := [t])]
    simp at this ⊢
    lia
   ·rw [Pj, P8]
    rcases Pk.mp hg with hg | hg
    ·have := o.lens g' hg
     lia
    ·rw [Pg] at hg
     subst hg
     simp
theorem Dt : ∀ (post pre : List Tri), (∀ t ∈ pre ++ post, t.2.1 <= t.2.2) -> (pre ++ post).Pairwise (fun p q => p.1 < q.1 \/ (p.1 = q.1 /\ p.2.1 <= q.2.1)) -> LOk (tU pre) pre -> LOk (tU (pre ++ post)) (pre ++ post)
 | [], pre, _, _, o => by rw [P5]; exact o
 | t :: post, pre, h1, h2, o => by
  have e : pre ++ t :: post = (pre ++ [t]) ++ post := by simp
  rw [e] at h1 h2 ⊢
  refine Dt post (pre ++ [t]) h1 h2 ?_
  rw [wT]
  refine Hb o (h1 t (by simp)) fun s hs => ?_
  exact (PP.mp (PP.mp h2).1).2.2 s hs t (by simp)
theorem Ij : LOk (tU []) [] := ⟨gq, fun x y => ⟨fun h => (b8 _ _ h).elim, fun ⟨_, h, _⟩ => (by cases h)⟩, fun _ h => (by cases h), fun _ h => (by cases h), Pi _, fun _ h => (by cases h)⟩
theorem lY {ts pre post : List Tri} (hg : ∀ t ∈ ts, t.2.1 <= t.2.2) (e : cn ts = pre ++ post) : LOk (tU pre) pre := by
 have h1 : ∀ t ∈ pre ++ post, t.2.1 <= t.2.2 := fun t ht => hg t ((cZ ts).mem_iff.mp (by rw [e]; exact ht))
 have h2 := D6 ts
 rw [e] at h2
 exact Dt pre [] (fun t ht => h1 t (Po _ ht)) (PP.mp h2).1 Ij
theorem Gi {ts : List Tri} (hg : ∀ t ∈ ts, t.2.1 <= t.2.2) : tU (cn ts) = aZ ts := by
 have o := lY hg (pre := cn ts) (post := []) (by simp)
 exact (vE o.can fun x y => by rw [o.mem, yf (cZ ts)]).symm
theorem rg (s0 : Sl) (gs : Pic) (t : Tri) (v5 : Sl) (h : gs.length <= 30000) (hg : ∀ g ∈ gs, g.2.length <= 30000 /\ g.2 ≠ []) : ∃ w5, cM [s0, .ow (.lst (gs.map grO)), .sh (.int t.1), .sh (.int t.2.1), .sh (.int t.2.2), v5] = some (.nx [s0, .ow (.lst ((se gs t).map grO)), .sh (.int t.1), .sh (.int t.2.1), .sh (.int t.2.2), w5]) := by
 rcases P7 gs with rfl | ⟨gs0, g, rfl⟩
 ·exact ⟨v5, by simp [cM, se, grO]⟩
 ·rw [P9] at *
  rw [ue]
  have hl : gs0.length + 1 <= 30000 := by simpa using h
  have hlim : gs0.length + 1 < LIM := f9 (by lia)
  have hp : (0 : Int) < gs0.length + 1 := by lia
  obtain ⟨y, r⟩ := g
  obtain ⟨hr1, hr2⟩ := hg (y, r) (by simp)
  dsimp only at hr1 hr2 ⊢
  rcases P7 r with rfl | ⟨r0, q, rfl⟩
  ·exact absurd rfl hr2
  ·rw [P9] at *
   have hr3 : r0.length + 1 <= 30000 := by simpa using hr1
   have hr4 : r0.length + 1 < LIM := f9 (by lia)
   have hr5 : r0.length < LIM := f9 (by lia)
   by_cases hc : y = t.1
   ·rw [Pa hc, im]
    by_cases hd : t.2.1 <= q.2 + 1
    ·rw [Pa hd]
     exact ⟨.sh (prD q), by simp [cM, hc, hd, hp, hr5, grO]⟩
    ·rw [Pb hd]
     exact ⟨v5, by simp [cM, hc, hd, hp, hr4, grO]⟩
   ·rw [Pb hc]
    exact ⟨v5, by simp [cM, hc, hp, hlim, grO]⟩
theorem cY (ts : List Tri) (hg : ∀ t ∈ ts, t.2.1 <= t.2.2) (h : ts.length < 30000) : cu [.lst (ts.map av)] = some (aF (aZ ts)) := by
 have hs := (cZ ts).length_eq
 have key : ∃ ρ', gn (aM (aj (ag 2) (aj (ag 3) (aj (ag 4) aL)))) cM ((cn ts).map av) [.sh (.lst (ts.map av)), .ow (.lst []), .un, .un, .un, .un] = some (.nx ρ') /\ ∃ va vb vc vd, ρ' = [.sh (.lst (ts.map av)), .ow (.lst ((tU (cn ts)).map grO)), va, vb, vc, vd] := by
  refine bw av (fun pre ρ => ∃ va vb vc vd, ρ = [.sh (.lst (ts.map av)), .ow (.lst ((tU pre).map grO)), va, vb, vc, vd]) _ _ ⟨_, _, _, _, rfl⟩ ?_
  rintro pre t post _ e ⟨va, vb, vc, vd, rfl⟩
  have hp : pre.length <= 30000 := by
   have := PH List.length e
   rw [Pj] at this
   lia
  have o := lY hg e
  obtain ⟨w5, hw⟩ := rg (.sh (.lst (ts.map av))) (tU pre) t vd (by have := o.len; lia) fun g hg => ⟨by have := o.lens g hg; lia, (o.can.1 g hg).2⟩
  exact ⟨_, _, rfl, .inl hw, .sh (.int t.1), .sh (.int t.2.1), .sh (.int t.2.2), w5, by rw [wT]⟩
 obtain ⟨ρ', k1, va, vb, vc, vd, rfl⟩ := key
 have o := lY hg (pre := cn ts) (post := []) (by simp)
 rw [Gi hg] at k1 o
 have hb := kQ ts h
 have hl : ts.length <= LIM := bd (by lia)
 have hl2 : (aZ ts).length <= LIM := bd (by have := o.len; lia)
 have c2 : b6 (aM (aj (ag 0) (aj (ag 1) aL))) cz (bg (ad (au 0) (ad (xCB fY (ad (ai 1) aq)) aq))) [.un, .un] ((aZ ts).map grD) = some ((aZ ts).map pyD) := by
  rw [a8 grD (fun g => pyD g)]
  intro g hg'
  have hl3 : g.2.length <= LIM := bd (by have := o.lens g hg'; lia)
  simp [fR, grD, hl3]
 simp [cu, lP, fnO, kR, hl, hb, k1, frz, Fl, hl2, c2]
theorem gx {α : Type} (l : List α) (k : α -> Int) (enc : α -> D) (x : Int) (he : ∀ a, dIx (enc a) (.int 0) = some (.int (k a))) (hl : l.length <= 100000) (pw : l.Pairwise fun a b => k a < k b) :
  ∃ n : Nat, n <= l.length /\ eX [.tup (l.map enc), .int x] = some (.int n) /\ ∀ (i : Nat) a, l[i]? = some a -> (k a <= x ↔ i < n) := by
 have lt : ∀ (i j : Nat) a b, l[i]? = some a -> l[j]? = some b -> i < j -> k a < k b := fun i j a b hi hj hij => by
  obtain ⟨h1, rfl⟩ := Pw.mp hi
  obtain ⟨h2, rfl⟩ := Pw.mp hj
  exact QH.mp pw i j h1 h2 hij
 obtain ⟨ρ', k1, n, v3, v4, rfl, h1, h2⟩ := k8 (c := dN) (m := dR)
  (fun ρ => ∃ (lo hi : Nat) (v4 : Sl), ρ = [.sh (.tup (l.map enc)), .sh (.int x), .sh (.int lo), .sh (.int hi), v4] /\ lo <= hi /\ hi <= l.length /\ (∀ (i : Nat) a, l[i]? = some a -> i < lo -> k a <= x) /\ ∀ (i : Nat) a, l[i]? = some a -> hi <= i -> x < k a)
  (fun ρ => match ρ with | [_, _, .sh (.int lo), .sh (.int hi), _] => (hi - lo).toNat | _ => 0)
  (fun ρ => ∃ (n : Nat) (v3 v4 : Sl), ρ = [.sh (.tup (l.map enc)), .sh (.int x), .sh (.int n), v3, v4] /\ n <= l.length /\ ∀ (i : Nat) a, l[i]? = some a -> (k a <= x ↔ i < n))
  (by
   rintro _ ⟨lo, hi, v4, rfl, h1, h2, h3, h4⟩
   by_cases hc : lo < hi
   ·right
    have hc' : (lo : Int) < hi := by lia
    obtain ⟨a, ha⟩ : ∃ a, l[(lo + hi) / 2]? = some a := ⟨_, Qf (by lia)⟩
    have em : ((lo : Int) + hi) / 2 = (((lo + hi) / 2 : Nat) : Int) := by lia
    have ea : atI (l.map enc) (((lo : Int) + hi) / 2) = some (enc a) := by rw [em]; exact gR (by rw [PD, ha]; rfl)
    refine ⟨by simp [dN, hc'], ?_⟩
    by_cases ck : k a <= x
    ·refine ⟨[.sh (.tup (l.map enc)), .sh (.int x), .sh (.int (((lo + hi) / 2 + 1 : Nat) : Int)), .sh (.int hi), .sh (.int (((lo : Int) + hi) / 2))], ?_, ⟨(lo + hi) / 2 + 1, hi, _, rfl, by lia, h2, fun i b hb hi' => ?_, h4⟩, by dsimp only; lia⟩
     ·simp [dR, ea, he, ck]
     ·by_cases z : i = (lo + hi) / 2
      ·subst z; rw [ha] at hb; cases hb; exact ck
      ·have := lt i _ b a hb ha (by lia); lia
    ·refine ⟨[.sh (.tup (l.map enc)), .sh (.int x), .sh (.int lo), .sh (.int (((lo + hi) / 2 : Nat) : Int)), .sh (.int (((lo : Int) + hi) / 2))], ?_, ⟨lo, (lo + hi) / 2, _, rfl, by lia, by lia, h3, fun i b hb hi' => ?_⟩, by dsimp only; lia⟩
     ·simp [dR, ea, he, ck]
     ·by_cases z : i = (lo + hi) / 2
      ·subst z; rw [ha] at hb; cases hb; lia
      ·have := lt _ i a b ha hb (by lia); lia
   ·left
    have hc' : ¬ (lo : Int) < hi := by lia
    have e : lo = hi := by lia
    subst e
    refine ⟨by simp [dN], lo, _, _, rfl, h2, fun i a ha => ⟨fun hk => ?_, fun hi' => h3 i a ha hi'⟩⟩
    by_cases z : i < lo
    ·exact z
    ·have := h4 i a ha (by lia); lia)
  [.sh (.tup (l.map enc)), .sh (.int x), .sh (.int 0), .sh (.int l.length), .un]
  ⟨0, l.length, _, rfl, PY _, Pi _, fun i a _ h => absurd h (Nat.not_lt_zero _), fun i a ha h => by have := (Pw.mp ha).1; lia⟩
 refine ⟨n, h1, ?_, h2⟩
 simp [eX, i6, fnO, gE, k1]
def bA (p : Pic) (y : Int) : R := match p.find? fun q => decide (q.1 = y) with | some q => q.2 | none => []
theorem mw {p : Pic} (c : aA p) {q : Int × R} (hq : q ∈ p) : bA p q.1 = q.2 := by
 unfold bA
 cases e : p.find? fun s => decide (s.1 = q.1) with
 | none =>
  have := List.find?_eq_none.mp e q hq
  simp at this
 | some s =>
  have h1 := List.find?_some e
  have h2 := List.mem_of_find?_eq_some e
  have h3 : s.1 = q.1 := QX h1
  have : s = q := by
   obtain ⟨i, hi⟩ := Qk h2
   obtain ⟨j, hj⟩ := Qk hq
   obtain ⟨li, ei⟩ := Pw.mp hi
   obtain ⟨lj, ej⟩ := Pw.mp hj
   have pw := QH.mp c.2
   by_cases z : i < j
   ·have := pw i j li lj z; rw [ei, ej] at this; lia
   ·by_cases z2 : j < i
    ·have := pw j i lj li z2; rw [ei, ej] at this; lia
    ·have : i = j := by lia
     subst this
     rw [hi] at hj; exact PX hj
  rw [this]
theorem kM {p : Pic} {y : Int} (h : ∀ q ∈ p, q.1 ≠ y) : bA p y = [] := by
 unfold bA
 have : p.find? (fun q => decide (q.1 = y)) = none := List.find?_eq_none.mpr fun q hq => by simpa using h q hq
 rw [this]
theorem ez {p : Pic} (c : aA p) (y : Int) : bh (bA p y) := by
 by_cases h : ∃ q ∈ p, q.1 = y
 ·obtain ⟨q, hq, rfl⟩ := h
  rw [mw c hq]; exact (c.1 q hq).1
 ·rw [kM fun q hq e => h ⟨q, hq, e⟩]; exact ir
theorem kl {p : Pic} (c : aA p) (x y : Int) : Mem (bA p y) x ↔ aR p x y := by
 constructor
 ·intro h
  by_cases k : ∃ q ∈ p, q.1 = y
  ·obtain ⟨q, hq, rfl⟩ := k
   rw [mw c hq] at h
   exact ⟨q, hq, rfl, h⟩
  ·rw [kM fun q hq e => k ⟨q, hq, e⟩] at h
   exact (bz _ h).elim
 ·rintro ⟨q, hq, rfl, h⟩
  rw [mw c hq]; exact h
theorem r9 (p : Pic) (y : Int) (c : aA p) (h : p.length <= 100000) : gO [aF p, .int y] = some (ci (bA p y)) := by
 obtain ⟨n, h1, h2, h3⟩ := gx p (·.1) pyD y (fun a => by simp) h c.2
 by_cases hn : n = 0
 ·subst hn
  have e : bA p y = [] := kM fun q hq e => by
   obtain ⟨j, ej⟩ := Qk hq
   exact absurd ((h3 j q ej).mp (by lia)) (Nat.not_lt_zero _)
  simp at h2
  simp [gO, j9, fnO, ki, h2, e]
 ·obtain ⟨q, hq⟩ : ∃ q, p[n - 1]? = some q := ⟨_, Qf (by lia)⟩
  have en : (n : Int) - 1 = ((n - 1 : Nat) : Int) := by lia
  have ea : atI (p.map pyD) ((n : Int) - 1) = some (pyD q) := by rw [en]; exact gR (by rw [PD, hq]; rfl)
  have hn' : (0 : Int) < n := by lia
  have hn2 : 0 < n := by lia
  by_cases hy : q.1 = y
  ·have e : bA p y = q.2 := by rw [<- hy]; exact mw c (Q3 hq)
   simp [gO, j9, fnO, ki, h2, hn, hn', hn2, ea, hy, e]
  ·have e : bA p y = [] := kM fun s hs e => by
    obtain ⟨j, ej⟩ := Qk hs
    have hj := (h3 j s ej).mp (by lia)
    by_cases z : j = n - 1
    ·subst z; rw [hq] at ej; cases ej; exact hy e
    ·obtain ⟨l1, e1⟩ := Pw.mp ej
     obtain ⟨l2, e2⟩ := Pw.mp hq
     have := QH.mp c.2 j (n - 1) l1 l2 (by lia)
     rw [e1, e2] at this
     have := (h3 _ _ hq).mpr (by lia)
     lia
   simp [gO, j9, fnO, ki, h2, hn, hn', hn2, ea, hy, e]
theorem ln (r t : R) (h : r.length + t.length <= 30000) : fP [ci r, ci t] = some (ci (dM r t)) := by
 have hlen := pN _ r t rfl
 have key : ∃ ρ', ft di cE [.sh (ci r), .sh (ci t), .ow (.lst []), .sh (.int 0), .sh (.int 0), .un, .un] = some (.nx ρ') /\ ∃ v3 v4 v5 v6, ρ' = [.sh (ci r), .sh (ci t), owl ((dM r t).map prD), v3, v4, v5, v6] := by
  refine k8 (fun ρ => ∃ (acc : R) (i j : Nat) (v5 v6 : Sl), ρ = [.sh (ci r), .sh (ci t), owl (acc.map prD), .sh (.int i), .sh (.int j), v5, v6] /\ i <= r.length /\ j <= t.length /\ acc ++ dM (r.drop i) (t.drop j) = dM r t)
   (fun ρ => match ρ with | [_, _, _, .sh (.int i), .sh (.int j), _, _] => (r.length + t.length - i - j).toNat | _ => 0) _ ?_ _ ⟨[], 0, 0, .un, .un, rfl, PY _, PY _, rfl⟩
  rintro _ ⟨acc, i, j, v5, v6, rfl, hi, hj, e⟩
  have hacc : acc.length <= 30000 := by
   have := PH List.length e
   rw [Pj] at this
   lia
  have hlim : acc.length < LIM := f9 (by lia)
  cases qi : r[i]? with
  | none =>
   have hi' : i = r.length := by have := Rp.mp qi; lia
   subst hi'
   rw [QW (Pi _), e8, P5] at e
   subst e
   exact .inl ⟨by simp [di], _, _, _, _, rfl⟩
  | some p =>
   have hi' := (Pw.mp qi).1
   have ei : (i : Int) < r.length := by lia
   cases qj : t[j]? with
   | none =>
    have hj' : j = t.length := by have := Rp.mp qj; lia
    subst hj'
    rw [QW (Pi _), eg, P5] at e
    subst e
    exact .inl ⟨by simp [di, ei], _, _, _, _, rfl⟩
   | some q =>
    have hj' := (Pw.mp qj).1
    have ej : (j : Int) < t.length := by lia
    have a1 := Jf qi
    have a2 := Jf qj
    rw [il qi, il qj, DW] at e
    refine .inr ⟨by simp [di, ei, ej], ?_⟩
    by_cases c1 : max p.1 q.1 <= min p.2 q.2
    ·rw [Pa c1] at e
     by_cases c2 : p.2 < q.2
     ·rw [Pa c2, <- il qj] at e
      exact ⟨[.sh (ci r), .sh (ci t), owl ((acc ++ [(max p.1 q.1, min p.2 q.2)]).map prD), .sh (.int ((i + 1 : Nat) : Int)), .sh (.int j), .sh (.int (max p.1 q.1)), .sh (.int (min p.2 q.2))], by simp [cE, a1, a2, mx, mn, c1, c2, hlim], ⟨_, i + 1, j, _, _, rfl, hi', hj, by rw [PQ]; exact e⟩, by dsimp only; lia⟩
     ·rw [Pb c2, <- il qi] at e
      exact ⟨[.sh (ci r), .sh (ci t), owl ((acc ++ [(max p.1 q.1, min p.2 q.2)]).map prD), .sh (.int i), .sh (.int ((j + 1 : Nat) : Int)), .sh (.int (max p.1 q.1)), .sh (.int (min p.2 q.2))], by simp [cE, a1, a2, mx, mn, c1, c2, hlim], ⟨_, i, j + 1, _, _, rfl, hi, hj', by rw [PQ]; exact e⟩, by dsimp only; lia⟩
    ·rw [Pb c1, List.nil_append] at e
     by_cases c2 : p.2 < q.2
     ·rw [Pa c2, <- il qj] at e
      exact ⟨[.sh (ci r), .sh (ci t), owl (acc.map prD), .sh (.int ((i + 1 : Nat) : Int)), .sh (.int j), .sh (.int (max p.1 q.1)), .sh (.int (min p.2 q.2))], by simp [cE, a1, a2, mx, mn, c1, c2, hlim], ⟨_, i + 1, j, _, _, rfl, hi', hj, e⟩, by dsimp only; lia⟩
     ·rw [Pb c2, <- il qi] at e
      exact ⟨[.sh (ci r), .sh (ci t), owl (acc.map prD), .sh (.int i), .sh (.int ((j + 1 : Nat) : Int)), .sh (.int (max p.1 q.1)), .sh (.int (min p.2 q.2))], by simp [cE, a1, a2, mx, mn, c1, c2, hlim], ⟨_, i, j + 1, _, _, rfl, hi, hj', e⟩, by dsimp only; lia⟩
 obtain ⟨ρ', k1, v3, v4, v5, v6, rfl⟩ := key
 simp [fP, jT, fnO, hX, k1]
theorem sH (r t : R) (h : r.length + t.length < 10000) : kK [ci r, ci t] = some (ci (iH r t)) := by
 have hl : r.length + t.length <= LIM := bd (by lia)
 have hl2 : (r ++ t).length <= LIM := by rw [Pj]; exact hl
 have c1 : b6 (aM (aj (ag 0) (aj (ag 1) aL))) cz (au 0) [.un, .un] ((r ++ t).map prD) = some ((r ++ t).map fun p => .int p.1) := a8 prD _ _ fun p _ => by simp [fR]
 have c2 : b6 (aM (aj (ag 0) (aj (ag 1) aL))) cz (xOp bU (ai 1) (xC (.int 1))) [.un, .un] ((r ++ t).map prD) = some ((r ++ t).map fun p => .int (p.2 + 1)) := a8 prD _ _ fun p _ => by simp [fR]
 have ec : ((r ++ t).map fun p => D.int p.1) ++ ((r ++ t).map fun p => D.int (p.2 + 1)) = (chg (r ++ t)).map D.int := by
  unfold chg
  rw [Qc (f := D.int), PC, PC]
  rfl
 have hcl := yr (r ++ t)
 rw [Pj] at hcl
 have hsl : (gJ (chg (r ++ t))).length = 2 * (r.length + t.length) := by rw [(fk _).length_eq, hcl]
 have hb := zi (chg (r ++ t)) (by lia)
 have c3 := BA (r.length + t.length) (gJ (chg (r ++ t))) hsl
 have hro := mB (fm (gJ (chg (r ++ t)))) (by rw [oW _ _ hsl]; lia)
 have hsum : r.length + t.length + (r.length + t.length) <= LIM := bd (by lia)
 have hrng : DH [.int 0, .int ((2 * (r.length + t.length) : Nat) : Int), .int 2] = some (fQ 0 (r.length + t.length)) := by
  rw [Jl (by lia)]
  congr 2
  lia
 have hel : (fQ 0 (r.length + t.length)).length <= LIM := by rw [oh]; exact hl
 rw [<- ec] at hb
 rw [<- hsl] at hrng
 simp only [Qc, PQ] at c1 c2 hb
 simp [kK, jM, fnO, h9, Kh, uR, hl, c1, c2, hsum, hb, hrng, hel, c3, hro, iH]
theorem wm (r t : R) (h : 2 * r.length + t.length < 10000) : kD [ci r, ci t] = some (ci (jL r t)) := by
 have h1 := ln r t (by lia)
 have h2 := sH r (dM r t) (by have := pN _ r t rfl; lia)
 simp [kD, mt, fnO, kB, h1, h2, jL]
def ic (q : Int × R) : Bool := !decide (q.2 = [])
theorem yP : ∀ l : Pic, l.filterMap (fun q => if q.2 = [] then none else some (pyD q)) = (l.filter ic).map pyD
 | [] => rfl
 | q :: l => by
  by_cases h : q.2 = []
  ·simp [h, ic, <- yP l]
  ·simp [h, ic, <- yP l]
theorem cP (l : Pic) (h : l.length <= 30000) : bE [.lst (l.map pyD)] = some (aF (l.filter ic)) := by
 have hl : l.length <= LIM := bd (by lia)
 have hf := QO ic l
 have hl2 : (l.filter ic).length <= LIM := bd (by lia)
 have hc : b6 (aM (aj (ag 0) (aj (ag 1) aL))) (xB (xOp (dEq true) (ai 1) (bg aq))) (bg (ad (au 0) (ad (au 1) aq))) [.un, .un] (l.map pyD) = some ((l.filter ic).map pyD) := by
  rw [mE pyD (fun q => if q.2 = [] then none else some (pyD q)) l, yP]
  intro q _
  have d : dEq true (ci q.2) (.tup []) = some (.bl (!decide (q.2 = []))) := Ii true q.2 []
  by_cases hq : q.2 = []
  ·simp [hq] at d
   simp [fR, hq, d]
  ·simp [hq] at d
   simp [fR, hq, d]
 simp [bE, fv, fnO, d8, hl, hc, hl2]
def pJ (f : R -> R -> R) (p q : Pic) : Pic := (p.map fun s => (s.1, f s.2 (bA q s.1))).filter ic
def cmP (p q : Pic) : Pic := pJ dM p q
def leP (p q : Pic) : Pic := pJ jL p q
def joP (p q : Pic) : Pic := aZ (af p ++ af q)
theorem sF {f : R -> R -> R} {p q : Pic} (cp : aA p) (h : ∀ s ∈ p, bh (f s.2 (bA q s.1))) : aA (pJ f p q) := by
 refine ⟨fun s hs => ?_, ?_⟩
 ·obtain ⟨h1, h2⟩ := PR.mp hs
  obtain ⟨z, hz, rfl⟩ := Pp.mp h1
  exact ⟨h z hz, by simpa [ic] using h2⟩
 ·refine RV _ ?_
  rw [Qq]
  exact cp.2
theorem wY {f : R -> R -> R} {p q : Pic} (x y : Int) : aR (pJ f p q) x y ↔ ∃ s ∈ p, s.1 = y /\ Mem (f s.2 (bA q s.1)) x := by
 constructor
 ·rintro ⟨s, hs, h1, h2⟩
  obtain ⟨z, hz, rfl⟩ := Pp.mp (PR.mp hs).1
  exact ⟨z, hz, h1, h2⟩
 ·rintro ⟨z, hz, h1, h2⟩
  refine ⟨(z.1, f z.2 (bA q z.1)), PR.mpr ⟨Pp.mpr ⟨z, hz, rfl⟩, ?_⟩, h1, h2⟩
  unfold ic
  rw [Bool.not_eq_true', RX]
  intro e
  dsimp only at e
  rw [e] at h2
  exact bz _ h2
theorem xY {p q : Pic} (cp : aA p) (cq : aA q) : aA (cmP p q) := sF cp fun s hs => (kd (cp.1 s hs).1 (ez cq _)).1
theorem yc {p q : Pic} (cp : aA p) (cq : aA q) : aA (leP p q) := sF cp fun s hs => (qE (cp.1 s hs).1 (ez cq _)).1
theorem Eh (p q : Pic) : aA (joP p q) := (bR _).1
theorem CW {p q : Pic} (cp : aA p) (cq : aA q) (x y : Int) : aR (cmP p q) x y ↔ aR p x y /\ aR q x y := by
 unfold cmP
 rw [wY]
 constructor
 ·rintro ⟨s, hs, rfl, h2⟩
  rw [(kd (cp.1 s hs).1 (ez cq _)).2, kl cq] at h2
  exact ⟨⟨s, hs, rfl, h2.1⟩, h2.2⟩
 ·rintro ⟨⟨s, hs, rfl, h1⟩, h2⟩
  exact ⟨s, hs, rfl, by rw [(kd (cp.1 s hs).1 (ez cq _)).2, kl cq]; exact ⟨h1, h2⟩⟩
theorem yB {p q : Pic} (cp : aA p) (cq : aA q) (x y : Int) : aR (leP p q) x y ↔ aR p x y /\ ¬ aR q x y := by
 unfold leP
 rw [wY]
 constructor
 ·rintro ⟨s, hs, rfl, h2⟩
  rw [(qE (cp.1 s hs).1 (ez cq _)).2, kl cq] at h2
  exact ⟨⟨s, hs, rfl, h2.1⟩, h2.2⟩
 ·rintro ⟨⟨s, hs, rfl, h1⟩, h2⟩
  exact ⟨s, hs, rfl, by rw [(qE (cp.1 s hs).1 (ez cq _)).2, kl cq]; exact ⟨h1, h2⟩⟩
theorem HZ (p q : Pic) (x y : Int) : aR (joP p q) x y ↔ aR p x y \/ aR q x y := by
 unfold joP
 rw [(bR _).2, fG, bS, bS]
theorem nN {p : Pic} (y : Int) : (bA p y).length <= (af p).length := by
 unfold bA
 cases h : p.find? fun q => decide (q.1 = y) with
 | none => exact PY _
 | some q => exact cW (List.mem_of_find?_eq_some h)
theorem Ek (p q : Pic) (h : (af p).length + (af q).length < 30000) : B6 [aF p, aF q] = some (aF (joP p q)) := by
 have h1 := b7 p (by lia)
 have h2 := b7 q (by lia)
 have hl : (af p).length + (af q).length <= LIM := bd (by lia)
 have hm := fj (af p ++ af q) (by rw [Pj]; exact h)
 rw [Qc] at hm
 simp [B6, ze, fnO, yD, h1, h2, uR, hl, hm, joP]
theorem sg {p q : Pic} (cq : aA q) (h1 : p.length <= 30000) (h2 : q.length <= 30000) (h : (af p).length + (af q).length <= 30000) : p0 [aF p, aF q] = some (aF (cmP p q)) := by
 have hl : p.length <= LIM := bd (by lia)
 have hc : b6 (aM (aj (ag 0) (aj (ag 1) aL))) cz (bg (ad (au 0) (ad (aH fP (ad (au 1) (ad (aH gO (ad (au 2) (ad (au 0) aq))) aq))) aq))) [.un, .un, .sh (aF q)] (p.map pyD) = some ((p.map fun s => (s.1, dM s.2 (bA q s.1))).map pyD) := by
  rw [PC]
  exact a8 pyD (fun s => pyD (s.1, dM s.2 (bA q s.1))) p fun s hs => by
   have a1 := r9 q s.1 cq (by lia)
   have a2 := ln s.2 (bA q s.1) (by have := cW hs; have := nN (p := q) s.1; lia)
   simp [fR, a1, a2]
 have hm := cP (p.map fun s => (s.1, dM s.2 (bA q s.1))) (by rw [Ph]; exact h1)
 rw [PC] at hm hc
 simp [p0, re, fnO, pG, hl, hc, hm, cmP, pJ]
theorem wM {p q : Pic} (cq : aA q) (h1 : p.length <= 30000) (h2 : q.length <= 30000) (h : 2 * (af p).length + (af q).length < 10000) : yF [aF p, aF q] = some (aF (leP p q)) := by
 have hl : p.length <= LIM := bd (by lia)
 have hc : b6 (aM (aj (ag 0) (aj (ag 1) aL))) cz (bg (ad (au 0) (ad (aH kD (ad (au 1) (ad (aH gO (ad (au 2) (ad (au 0) aq))) aq))) aq))) [.un, .un, .sh (aF q)] (p.map pyD) = some ((p.map fun s => (s.1, jL s.2 (bA q s.1))).map pyD) := by
  rw [PC]
  exact a8 pyD (fun s => pyD (s.1, jL s.2 (bA q s.1))) p fun s hs => by
   have a1 := r9 q s.1 cq (by lia)
   have a2 := wm s.2 (bA q s.1) (by have := cW hs; have := nN (p := q) s.1; lia)
   simp [fR, a1, a2]
 have hm := cP (p.map fun s => (s.1, jL s.2 (bA q s.1))) (by rw [Ph]; exact h1)
 rw [PC] at hm hc
 simp [yF, yx, fnO, yE, hl, hc, hm, leP, pJ]
theorem Ad {p q : Pic} (cp : aA p) (cq : aA q) : leP p q = [] ↔ ∀ x y, aR p x y -> aR q x y := by
 constructor
 ·intro e x y h
  by_cases hq : aR q x y
  ·exact hq
  ·have := (yB cp cq x y).mpr ⟨h, hq⟩
   rw [e] at this
   exact (b8 _ _ this).elim
 ·intro h
  exact tu (yc cp cq) gq fun x y => by
   rw [yB cp cq]
   exact ⟨fun z => absurd (h x y z.1) z.2, fun z => (b8 _ _ z).elim⟩
theorem eR : ∀ p : Pic, af (p.filter ic) = af p
 | [] => rfl
 | q :: p => by
  rw [RT]
  by_cases h : q.2 = []
  ·have : ic q = false := by simp [ic, h]
   rw [this, bf, h]
   exact eR p
  ·have : ic q = true := by simp [ic, h]
   rw [this, Pa rfl, bf, bf, eR p]
theorem u4 (r : R) (by' : Int) (h : r.length <= 30000) : jr [ci r, .int by'] = some (ci (nF r by' by')) := by
 have hl : r.length <= LIM := bd (by lia)
 have hc : b6 (aM (aj (ag 0) (aj (ag 1) aL))) cz (bg (ad (xOp bU (ai 0) (ai 2)) (ad (xOp bU (ai 1) (ai 2)) aq))) [.un, .un, .sh (.int by')] (r.map prD) = some (r.map fun p => prD (p.1 + by', p.2 + by')) := a8 prD _ r fun p _ => by simp [fR]
 simp [jr, kT, fnO, jB, hl, hc, nF]
def mvP (p : Pic) (dx dy : Int) : Pic := p.map fun q => (q.1 + dy, nF q.2 dx dx)
theorem nW (p : Pic) (dx dy : Int) (h : p.length <= 30000) (hr : ∀ q ∈ p, q.2.length <= 30000) : qD [aF p, .int dx, .int dy] = some (aF (mvP p dx dy)) := by
 have hl : p.length <= LIM := bd (by lia)
 have hc : b6 (aM (aj (ag 0) (aj (ag 1) aL))) cz (bg (ad (xOp bU (ai 0) (ai 2)) (ad (aH jr (ad (au 1) (ad (au 3) aq))) aq))) [.un, .un, .sh (.int dy), .sh (.int dx)] (p.map pyD) = some (p.map fun q => pyD (q.1 + dy, nF q.2 dx dx)) := a8 pyD _ p fun q hq => by
  have := u4 q.2 dx (hr q hq)
  simp [fR, this]
 simp [qD, vj, fnO, tH, hl, hc, mvP]
theorem zW {r : R} (c : bh r) (d : Int) : bh (nF r d d) := by
 refine ⟨Fs c.1 (PB _), ?_⟩
 unfold nF
 rw [Qq]
 exact c.2.imp fun {p q} h => by dsimp only; lia
theorem GC (r : R) (d x : Int) : Mem (nF r d d) x ↔ Mem r (x - d) := by
 rw [D2]
 constructor
 ·rintro ⟨p, hp, h1, h2⟩; exact ⟨p, hp, by lia, by lia⟩
 ·rintro ⟨p, hp, h1, h2⟩; exact ⟨p, hp, by lia, by lia⟩
theorem xQ {p : Pic} (c : aA p) (dx dy : Int) : aA (mvP p dx dy) := by
 refine ⟨fun q hq => ?_, ?_⟩
 ·obtain ⟨s, hs, rfl⟩ := Pp.mp hq
  obtain ⟨h1, h2⟩ := c.1 s hs
  refine ⟨zW h1 dx, fun e => h2 ?_⟩
  exact List.map_eq_nil_iff.mp e
 ·unfold mvP
  rw [Qq]
  exact c.2.imp fun {a b} h => by dsimp only; lia
theorem tL (p : Pic) (dx dy x y : Int) : aR (mvP p dx dy) x y ↔ aR p (x - dx) (y - dy) := by
 constructor
 ·rintro ⟨q, hq, h1, h2⟩
  obtain ⟨s, hs, rfl⟩ := Pp.mp hq
  dsimp only at h1 h2
  exact ⟨s, hs, by lia, (GC _ _ _).mp h2⟩
 ·rintro ⟨s, hs, h1, h2⟩
  exact ⟨_, Pp.mpr ⟨s, hs, rfl⟩, by dsimp only; lia, (GC _ _ _).mpr h2⟩
abbrev Blk := Int × Int × Int × Int
abbrev dQ (b : Blk) : D := .tup [.int b.1, .int b.2.1, .int b.2.2.1, .int b.2.2.2]
def tR (b : Blk) (dx dy : Int) : Prop := b.1 <= dx /\ dx <= b.2.2.1 /\ b.2.1 <= dy /\ dy <= b.2.2.2
def BOk (b : Blk) : Prop := b.1 <= b.2.2.1 /\ b.2.1 <= b.2.2.2
theorem BZ (p : Pic) (dx dy : Int) : (af (mvP p dx dy)).length = (af p).length := by
 unfold mvP af
 rw [RD, RD, PC]
 congr 1
 apply List.map_congr_left
 intro q _
 simp [nF]
theorem eS (ts : List Tri) : (af (aZ ts)).length <= ts.length := by
 have o := lS ts
 have h1 : ∀ gs : Pic, (af (gs.map fun g => (g.1, lA g.2))).length <= (gs.map fun g => g.2.length).sum := by
  intro gs
  induction gs with
  | nil => simp [af]
  | cons g gs ih =>
   have := rA g.2
   rw [Pt, bf, Pj, Ph, Pt, Qr]
   dsimp only
   lia
 have h2 := h1 (fb (cn (ts.filter dt)))
 have h3 := o.len
 have h4 := (cZ (ts.filter dt)).length_eq
 have h5 := QO dt ts
 have h6 : af (aZ ts) = af ((fb (cn (ts.filter dt))).map fun g => (g.1, lA g.2)) := rfl
 rw [h6]
 lia
theorem tI {p : Pic} (c : aA p) : p.length <= (af p).length := by
 induction p with
 | nil => exact Pi _
 | cons q p ih =>
  obtain ⟨⟨_, h1⟩, _, h2⟩ := pcanon_cons.mp c
  have := ih h2
  have := List.length_pos_iff.mpr h1
  rw [bf, Pj, Ph, Pu]
  lia
theorem jP {p : Pic} (c : aA p) : ∀ t ∈ af p, t.2.1 <= t.2.2 := by
 intro t ht
 obtain ⟨q, hq, h⟩ := Rq.mp ht
 obtain ⟨s, hs, rfl⟩ := Pp.mp h
 exact (c.1 q hq).1.1 s hs
theorem Ji (p q : Pic) : (af (joP p q)).length <= (af p).length + (af q).length := by
 have := eS (af p ++ af q)
 rwa [Pj] at this
theorem qQ (p : Pic) (c : aA p) (n : Nat) (hs : (2 * n + 1) * (af p).length <= 10000) : ∃ q : Pic, gI [aF p, .int (n : Int)] = some (aF q) /\ aA q /\ (af q).length <= (2 * n + 1) * (af p).length /\ ∀ x y, aR q x y ↔ ∃ j : Int, 0 <= j /\ j <= n /\ aR p x (y - j) := by
 obtain ⟨ρ', k1, q, v2, v3, rfl, a1, a3, a4⟩ := k8 (c := dP) (m := fh)
  (fun ρ => ∃ (q : Pic) (k : Nat) (v3 : Sl), ρ = [.sh (aF q), .sh (.int (n : Int)), .sh (.int (k : Int)), v3] /\ k <= n /\ aA q /\ ((af q).length <= (k + 1) * (af p).length \/ (k = n /\ (af q).length <= (2 * n + 1) * (af p).length)) /\ ∀ x y, aR q x y ↔ ∃ j : Int, 0 <= j /\ j <= k /\ aR p x (y - j))
  (fun ρ => match ρ with | [_, .sh (.int n), .sh (.int k), _] => (n - k).toNat | _ => 0)
  (fun ρ => ∃ (q : Pic) (v2 v3 : Sl), ρ = [.sh (aF q), .sh (.int (n : Int)), v2, v3] /\ aA q /\ (af q).length <= (2 * n + 1) * (af p).length /\ ∀ x y, aR q x y ↔ ∃ j : Int, 0 <= j /\ j <= n /\ aR p x (y - j))
  (by
   rintro _ ⟨q, k, v3, rfl, hk, c', hsz, hm⟩
   by_cases hc : k < n
   ·right
    have hc' : (k : Int) < n := by lia
    refine ⟨by simp [dP, hc'], ?_⟩
    have hsz' : (af q).length <= (k + 1) * (af p).length := hsz.elim id fun h => by lia
    generalize hst : (if (n : Int) - k < (k : Int) + 1 then (n : Int) - k else (k : Int) + 1) = st
    have hst1 : 1 <= st /\ st <= k + 1 /\ st <= n - k /\ (st = k + 1 \/ st = n - k) := by rw [<- hst]; split <;> lia
    have e1 : (k + 1) * (af p).length <= (2 * n + 1) * (af p).length := Qx _ (by lia)
    have lq : (af q).length <= 10000 := by lia
    have rq := tI c'
    have mv := nW q 0 st (by lia) fun z hz => by have := cW hz; lia
    have smv := BZ q 0 st
    have jo := Ek q (mvP q 0 st) (by lia)
    have sjo := Ji q (mvP q 0 st)
    have ek : (((k + st.toNat : Nat)) : Int) = (k : Int) + st := by lia
    refine ⟨[.sh (aF (joP q (mvP q 0 st))), .sh (.int (n : Int)), .sh (.int ((k + st.toNat : Nat) : Int)), .sh (.int st)], ?_, ⟨joP q (mvP q 0 st), k + st.toNat, _, rfl, by lia, Eh _ _, ?_, fun x y => ?_⟩, by dsimp only; lia⟩
    ·rw [ek]
     simp [fh, hst, mv, jo]
    ·rcases hst1.2.2.2 with e | e
     ·left
      have e2 : (k + st.toNat + 1) * (af p).length = (k + 1) * (af p).length + (k + 1) * (af p).length := by
       rw [<- Qm]
       congr 1
       lia
      lia
     ·right
      have e2 : (k + 1) * (af p).length + (k + 1) * (af p).length <= (2 * n + 1) * (af p).length := by
       rw [<- Qm]
       exact Qx _ (by lia)
      exact ⟨by lia, by lia⟩
    ·rw [HZ, tL, hm, hm, show x - 0 = x by lia]
     constructor
     ·rintro (⟨j, j0, j1, g⟩ | ⟨j, j0, j1, g⟩)
      ·exact ⟨j, j0, by lia, g⟩
      ·exact ⟨st + j, by lia, by lia, by rwa [show y - (st + j) = y - st - j by lia]⟩
     ·rintro ⟨j, j0, j1, g⟩
      by_cases hj : j <= k
      ·exact .inl ⟨j, j0, hj, g⟩
      ·exact .inr ⟨j - st, by lia, by lia, by rwa [show y - st - (j - st) = y - j by lia]⟩
   ·left
    have ek : k = n := by lia
    subst ek
    refine ⟨by simp [dP], q, _, _, rfl, c', ?_, hm⟩
    rcases hsz with h | h
    ·have : (k + 1) * (af p).length <= (2 * k + 1) * (af p).length := Qx _ (by lia)
     lia
    ·exact h.2)
  [.sh (aF p), .sh (.int (n : Int)), .sh (.int 0), .un] ⟨p, 0, .un, rfl, by lia, c, .inl (by lia), fun x y => ⟨fun h => ⟨0, by lia, by lia, by rwa [show y - 0 = y by lia]⟩, fun ⟨j, j0, j1, h⟩ => by rwa [show y - j = y by lia] at h⟩⟩
 exact ⟨q, by simp [gI, iL, fnO, gF, k1], a1, a3, a4⟩
def fI (b : Blk) (t : Tri) : Tri := (t.1 + b.2.1, t.2.1 + b.1, t.2.2 + b.2.2.1)
theorem u6 {p : Pic} (c : aA p) {b : Blk} (hb : b.1 <= b.2.2.1) (x y : Int) : gk ((af p).map (fI b)) x y ↔ ∃ dx, b.1 <= dx /\ dx <= b.2.2.1 /\ aR p (x - dx) (y - b.2.1) := by
 constructor
 ·rintro ⟨_, ht0, h1, h2, h3⟩
  obtain ⟨t, ht, rfl⟩ := Pp.mp ht0
  have ok := jP c t ht
  simp only [fI] at h1 h2 h3
  refine ⟨max b.1 (x - t.2.2), by lia, by lia, ?_⟩
  exact (bS _ _ _).mp ⟨t, ht, by lia, by lia, by lia⟩
 ·rintro ⟨dx, d1, d2, h⟩
  obtain ⟨t, ht, h1, h2, h3⟩ := (bS _ _ _).mpr h
  exact ⟨_, Pp.mpr ⟨t, ht, rfl⟩, by simp only [fI]; lia, by simp only [fI]; lia, by simp only [fI]; lia⟩
def GrB (p : Pic) (b : Blk) (x y : Int) : Prop := ∃ dx dy, tR b dx dy /\ aR p (x - dx) (y - dy)
theorem lK (p : Pic) (c : aA p) (b : Blk) (hb : BOk b) (n : Nat) (hn : b.2.2.2 - b.2.1 = n) (hs : (2 * n + 1) * (af p).length <= 10000) : ∃ ts : List Tri, dF [aF p, dQ b] = some (.lst (ts.map av)) /\ (∀ t ∈ ts, t.2.1 <= t.2.2) /\ ts.length <= (2 * n + 1) * (af p).length /\ ∀ x y, gk ts x y ↔ GrB p b x y := by
 have e1 : (af p).length <= (2 * n + 1) * (af p).length := RE _ (by lia)
 have hl : (af p).length <= LIM := bd (by lia)
 have h1 := b7 p (by lia)
 have hc : b6 (aM (aj (ag 0) (aj (ag 1) (aj (ag 2) aL)))) cz (bg (ad (xOp bU (ai 0) (xOp dIx (ai 3) (xC (.int 1)))) (ad (xOp bU (ai 1) (xOp dIx (ai 3) (xC (.int 0)))) (ad (xOp bU (ai 2) (xOp dIx (ai 3) (xC (.int 2)))) aq)))) [.un, .un, .un, .sh (dQ b)] ((af p).map av) = some (((af p).map (fI b)).map av) := by
  rw [PC]
  exact a8 av (av ∘ fI b) (af p) fun q hq => by simp [fR, atI, ixN, fI]
 have hw : ∀ t ∈ (af p).map (fI b), t.2.1 <= t.2.2 := by
  intro t ht
  obtain ⟨s, hs, rfl⟩ := Pp.mp ht
  have := jP c s hs
  have := hb.1
  simp only [fI]
  lia
 by_cases h0 : b.2.1 = b.2.2.2
 ·refine ⟨(af p).map (fI b), ?_, hw, by rw [Ph]; exact e1, fun x y => ?_⟩
  ·generalize ((af p).map (fI b)).map av = zs at hc
   simp [dF, c7, fnO, cB, h1, hl, hc, atI, ixN, h0]
  ·rw [u6 c hb.1]
   constructor
   ·rintro ⟨dx, d1, d2, h⟩
    exact ⟨dx, b.2.1, ⟨d1, d2, by lia, by lia⟩, h⟩
   ·rintro ⟨dx, dy, ⟨d1, d2, d3, d4⟩, h⟩
    refine ⟨dx, d1, d2, ?_⟩
    rwa [show b.2.1 = dy by lia]
 ·have lw : (af (aZ ((af p).map (fI b)))).length <= (af p).length := by
   have := eS ((af p).map (fI b))
   rwa [Ph] at this
  have e2 : (2 * n + 1) * (af (aZ ((af p).map (fI b)))).length <= (2 * n + 1) * (af p).length := Rb _ lw
  obtain ⟨q, a1, a2, a3, a4⟩ := qQ (aZ ((af p).map (fI b))) (bR _).1 n (by lia)
  have hp := fj ((af p).map (fI b)) (by rw [Ph]; lia)
  have h2 := b7 q (by lia)
  have a1' : gI [aF (aZ ((af p).map (fI b))), .int (b.2.2.2 - b.2.1)] = some (aF q) := by rw [hn]; exact a1
  refine ⟨af q, ?_, jP a2, by lia, fun x y => ?_⟩
  ·generalize aZ ((af p).map (fI b)) = w at hp a1'
   generalize ((af p).map (fI b)).map av = zs at hc hp
   simp [dF, c7, fnO, cB, h1, hl, hc, atI, ixN, h0, hp, a1', h2]
  ·rw [bS, a4]
   constructor
   ·rintro ⟨j, j0, j1, h⟩
    rw [(bR _).2, u6 c hb.1] at h
    obtain ⟨dx, d1, d2, h⟩ := h
    exact ⟨dx, b.2.1 + j, ⟨d1, d2, by lia, by lia⟩, by rwa [show y - (b.2.1 + j) = y - j - b.2.1 by lia]⟩
   ·rintro ⟨dx, dy, ⟨d1, d2, d3, d4⟩, h⟩
    refine ⟨dy - b.2.1, by lia, by lia, ?_⟩
    rw [(bR _).2, u6 c hb.1]
    exact ⟨dx, d1, d2, by rwa [show y - (dy - b.2.1) - b.2.1 = y - dy by lia]⟩
def dm (b : Blk) : Nat := 2 * (b.2.2.2 - b.2.1).toNat + 1
def bc (bs : List Blk) : Nat := (bs.map dm).sum
def GrP (p : Pic) (bs : List Blk) (x y : Int) : Prop := ∃ b ∈ bs, GrB p b x y
theorem cU (as bs : List Blk) : bc (as ++ bs) = bc as + bc bs := by unfold bc; rw [Qc, List.sum_append]
theorem mO (p : Pic) (c : aA p) (bs : List Blk) (hb : ∀ b ∈ bs, BOk b) (hs : bc bs * (af p).length <= 10000) : ∃ q : Pic, f6 [aF p, .tup (bs.map dQ)] = some (aF q) /\ aA q /\ (af q).length <= bc bs * (af p).length /\ ∀ x y, aR q x y ↔ GrP p bs x y := by
 obtain ⟨ρ', k1, ts, v3, rfl, b1, b2⟩ := bw (g := ag 3) (m := c9) dQ (fun pre ρ => ∃ (ts : List Tri) (v3 : Sl), ρ = [.sh (aF p), .sh (.tup (bs.map dQ)), .ow (.lst (ts.map (O.sh ∘ av))), v3] /\ ts.length <= bc pre * (af p).length /\ ∀ x y, gk ts x y ↔ GrP p pre x y) bs [.sh (aF p), .sh (.tup (bs.map dQ)), .ow (.lst []), .un] ⟨[], _, rfl, by simp [bc], fun x y => ⟨fun ⟨_, h, _⟩ => (by cases h), fun ⟨_, h, _⟩ => (by cases h)⟩⟩ (by
  rintro pre b post _ e ⟨ts, v3, rfl, l1, l2⟩
  have hbb := hb b (by rw [e]; simp)
  have hh : bc pre + dm b <= bc bs := by
   rw [e, cU]
   have : bc (b :: post) = dm b + bc post := rfl
   lia
  have hh2 : (bc pre + dm b) * (af p).length <= bc bs * (af p).length := Qx _ hh
  rw [Qm] at hh2
  obtain ⟨us, c1, c2, c3, c4⟩ := lK p c b hbb (b.2.2.2 - b.2.1).toNat (by have := hbb.2; lia) (by show dm b * _ <= _; lia)
  have c3' : us.length <= dm b * (af p).length := c3
  have hl : ts.length + us.length <= LIM := bd (by lia)
  refine ⟨_, [.sh (aF p), .sh (.tup (bs.map dQ)), .ow (.lst ((ts ++ us).map (O.sh ∘ av))), .sh (dQ b)], rfl, .inl ?_, ts ++ us, _, rfl, ?_, fun x y => ?_⟩
  ·simp [c9, c1, hl]
  ·rw [Pj, cU, Qm]
   have : bc [b] = dm b := by simp [bc]
   rw [this]
   lia
  ·rw [fG, l2, c4]
   unfold GrP
   simp only [Pk, Pg]
   constructor
   ·rintro (⟨z, hz, h⟩ | h)
    ·exact ⟨z, .inl hz, h⟩
    ·exact ⟨b, .inr rfl, h⟩
   ·rintro ⟨z, hz | rfl, h⟩
    ·exact .inl ⟨z, hz, h⟩
    ·exact .inr h)
 have hp := fj ts (by lia)
 have hl := eS ts
 refine ⟨aZ ts, ?_, (bR _).1, by lia, fun x y => by rw [(bR _).2, b2]⟩
 simp [f6, fy, fnO, d7, k1, hp, frz]
def vI (acc : List Blk) (t : Tri) : List Blk := match acc.getLast? with
 | some l => if l.1 = t.1 /\ l.2.2.1 = t.2.1 /\ l.2.2.2 = t.2.2 - 1 then acc.dropLast ++ [(t.1, l.2.1, t.2.1, t.2.2)] else acc ++ [(t.1, t.2.2, t.2.1, t.2.2)]
 | none => [(t.1, t.2.2, t.2.1, t.2.2)]
theorem Ej (t : Tri) : vI [] t = [(t.1, t.2.2, t.2.1, t.2.2)] := rfl
theorem uO (acc : List Blk) (l : Blk) (t : Tri) : vI (acc ++ [l]) t = if l.1 = t.1 /\ l.2.2.1 = t.2.1 /\ l.2.2.2 = t.2.2 - 1 then acc ++ [(t.1, l.2.1, t.2.1, t.2.2)] else acc ++ [l] ++ [(t.1, t.2.2, t.2.1, t.2.2)] := by
 unfold vI
 rw [List.getLast?_append]
 simp
def sZ (ts : List Tri) : List Blk := ts.foldl vI []
theorem wQ (pre : List Tri) (t : Tri) : sZ (pre ++ [t]) = vI (sZ pre) t := by unfold sZ; rw [RC]; rfl
theorem Iz (b c : Blk) : dEq false (dQ b) (dQ c) = some (.bl (decide (b = c))) := by
 have h : ∀ b : Blk, okD 50 (dQ b) = true := fun b => by simp [okD, okDs]
 unfold dEq
 rw [Pa ⟨h b, h c⟩]
 obtain ⟨b1, b2, b3, b4⟩ := b
 obtain ⟨c1, c2, c3, c4⟩ := c
 simp [eqD, eqDs, Prod.ext_iff]
 by_cases h1 : b1 = c1 <;> by_cases h2 : b2 = c2 <;> by_cases h3 : b3 = c3 <;> by_cases h4 : b4 = c4 <;> simp [h1, h2, h3, h4]
theorem JR (l : Blk) (a b y : Int) : l = (a, l.2.1, b, y) ↔ l.1 = a /\ l.2.2.1 = b /\ l.2.2.2 = y := by
 obtain ⟨b1, b2, b3, b4⟩ := l
 simp [Prod.ext_iff]
theorem zK (s0 : Sl) (acc : List Blk) (t : Tri) (h : acc.length <= 30000) : cj [s0, owl (acc.map dQ), .sh (.int t.1), .sh (.int t.2.1), .sh (.int t.2.2)] = some (.nx [s0, owl ((vI acc t).map dQ), .sh (.int t.1), .sh (.int t.2.1), .sh (.int t.2.2)]) := by
 rcases P7 acc with rfl | ⟨r, l, rfl⟩
 ·simp [cj, Ej]
 ·rw [P9] at *
  rw [uO]
  have hl : r.length + 1 <= 30000 := by simpa using h
  have hlim : r.length + 1 < LIM := f9 (by lia)
  have at1 : atI (r.map dQ ++ [dQ l]) (-1) = some (dQ l) := kj _ _
  have ix1 : atI [D.int l.1, .int l.2.1, .int l.2.2.1, .int l.2.2.2] 1 = some (.int l.2.1) := by simp [atI, ixN]
  have de := Iz l (t.1, l.2.1, t.2.1, t.2.2 - 1)
  have ee := JR l t.1 t.2.1 (t.2.2 - 1)
  by_cases hc : l.1 = t.1 /\ l.2.2.1 = t.2.1 /\ l.2.2.2 = t.2.2 - 1
  ·rw [Pa hc]
   rw [Qw (ee.mpr hc)] at de
   simp [cj, at1, ix1, de, uI]
  ·rw [Pb hc]
   rw [PN fun z => hc (ee.mp z)] at de
   simp [cj, at1, ix1, de, hlim]
structure BsOk (bs : List Blk) (ts : List Tri) : Prop where
 ok : ∀ b ∈ bs, BOk b
 mem : ∀ x y, (∃ b ∈ bs, tR b x y) ↔ ∃ t ∈ ts, t.1 <= x /\ x <= t.2.1 /\ y = t.2.2
 len : bc bs + bs.length = 2 * ts.length
theorem qP (bs : List Blk) (b : Blk) (x y : Int) : (∃ c ∈ bs ++ [b], tR c x y) ↔ (∃ c ∈ bs, tR c x y) \/ tR b x y := by
 constructor
 ·rintro ⟨c, hc, h⟩
  rcases Pk.mp hc with hc | hc
  ·exact .inl ⟨c, hc, h⟩
  ·rw [Pg] at hc; subst hc; exact .inr h
 ·rintro (⟨c, hc, h⟩ | h)
  ·exact ⟨c, Po _ hc, h⟩
  ·exact ⟨b, Pr _ (Pg.mpr rfl), h⟩
theorem AF (ts : List Tri) (t : Tri) (x y : Int) : (∃ s ∈ ts ++ [t], s.1 <= x /\ x <= s.2.1 /\ y = s.2.2) ↔ (∃ s ∈ ts, s.1 <= x /\ x <= s.2.1 /\ y = s.2.2) \/ (t.1 <= x /\ x <= t.2.1 /\ y = t.2.2) := by
 constructor
 ·rintro ⟨c, hc, h⟩
  rcases Pk.mp hc with hc | hc
  ·exact .inl ⟨c, hc, h⟩
  ·rw [Pg] at hc; subst hc; exact .inr h
 ·rintro (⟨c, hc, h⟩ | h)
  ·exact ⟨c, Po _ hc, h⟩
  ·exact ⟨t, Pr _ (Pg.mpr rfl), h⟩
theorem jZ (b : Blk) : bc [b] = dm b := by simp [bc]
theorem Gh {bs : List Blk} {ts : List Tri} {t : Tri} (o : BsOk bs ts) (ht : t.1 <= t.2.1) : BsOk (vI bs t) (ts ++ [t]) := by
 have new : ∀ x y, tR (t.1, t.2.2, t.2.1, t.2.2) x y ↔ t.1 <= x /\ x <= t.2.1 /\ y = t.2.2 := fun x y => by
  unfold tR
  dsimp only
  constructor
  ·rintro ⟨h1, h2, h3, h4⟩; exact ⟨h1, h2, by lia⟩
  ·rintro ⟨h1, h2, h3⟩; exact ⟨h1, h2, by lia, by lia⟩
 have hn : dm (t.1, t.2.2, t.2.1, t.2.2) = 1 := by simp [dm]
 have app : BsOk (bs ++ [(t.1, t.2.2, t.2.1, t.2.2)]) (ts ++ [t]) := by
  refine ⟨fun b hb => ?_, fun x y => by rw [qP, AF, o.mem, new], ?_⟩
  ·rcases Pk.mp hb with hb | hb
   ·exact o.ok b hb
   ·rw [Pg] at hb; subst hb; exact ⟨ht, PB _⟩
  ·have := o.len
   rw [cU, jZ, hn, Pj, Pj, P8, P8]
   lia
 rcases P7 bs with rfl | ⟨r, l, rfl⟩
 ·exact app
 ·rw [P9] at *
  rw [uO]
  by_cases hc : l.1 = t.1 /\ l.2.2.1 = t.2.1 /\ l.2.2.2 = t.2.2 - 1
  ·rw [Pa hc]
   have lo := o.ok l (by simp)
   refine ⟨fun b hb => ?_, fun x y => ?_, ?_⟩
   ·rcases Pk.mp hb with hb | hb
    ·exact o.ok b (Po _ hb)
    ·rw [Pg] at hb; subst hb
     have := lo.2
     exact ⟨ht, by dsimp only; lia⟩
   ·rw [AF, <- o.mem, qP, qP, or_assoc]
    refine or_congr QA ?_
    have := lo.2
    unfold tR
    dsimp only
    constructor
    ·rintro ⟨h1, h2, h3, h4⟩
     by_cases e : y = t.2.2
     ·exact .inr ⟨h1, h2, e⟩
     ·exact .inl ⟨by lia, by lia, h3, by lia⟩
    ·rintro (⟨h1, h2, h3, h4⟩ | ⟨h1, h2, h3⟩)
     ·exact ⟨by lia, by lia, h3, by lia⟩
     ·exact ⟨h1, h2, by lia, by lia⟩
   ·have h1 := o.len
    have h2 := lo.2
    have h3 : dm (t.1, l.2.1, t.2.1, t.2.2) = dm l + 2 := by unfold dm; dsimp only; lia
    rw [cU, jZ, Pj, P8] at h1
    rw [cU, jZ, h3, Pj, Pj, P8, P8]
    lia
  ·rw [Pb hc]
   exact app
theorem DD : ∀ (post pre : List Tri), (∀ t ∈ pre ++ post, t.1 <= t.2.1) -> BsOk (sZ pre) pre -> BsOk (sZ (pre ++ post)) (pre ++ post)
 | [], pre, _, o => by rw [P5]; exact o
 | t :: post, pre, h, o => by
  have e : pre ++ t :: post = (pre ++ [t]) ++ post := by simp
  rw [e] at h ⊢
  refine DD post (pre ++ [t]) h ?_
  rw [wQ]
  exact Gh o (h t (by simp))
theorem Be {ts : List Tri} (h : ∀ t ∈ ts, t.1 <= t.2.1) : BsOk (sZ ts) ts := by
 have := DD ts [] (by simpa using h) ⟨fun _ h => (by cases h), fun x y => ⟨fun ⟨_, h, _⟩ => (by cases h), fun ⟨_, h, _⟩ => (by cases h)⟩, rfl⟩
 simpa using this
def bi (p : Pic) : List Blk := sZ (cn ((af p).map fun t => (t.2.1, t.2.2, t.1)))
theorem mG (p : Pic) (c : aA p) (h : (af p).length < 30000) : mz [aF p] = some (.tup ((bi p).map dQ)) /\ (∀ b ∈ bi p, BOk b) /\ bc (bi p) <= 2 * (af p).length /\ ∀ x y, (∃ b ∈ bi p, tR b x y) ↔ aR p x y := by
 have hperm := cZ ((af p).map fun t => (t.2.1, t.2.2, t.1))
 have hlen : (cn ((af p).map fun t => (t.2.1, t.2.2, t.1))).length = (af p).length := by rw [hperm.length_eq, Ph]
 have hok : ∀ t ∈ cn ((af p).map fun t => (t.2.1, t.2.2, t.1)), t.1 <= t.2.1 := by
  intro t ht
  obtain ⟨s, hs, rfl⟩ := Pp.mp (hperm.mem_iff.mp ht)
  exact jP c s hs
 have o := Be hok
 have ol := o.len
 refine ⟨?_, o.ok, by have := o.len; show bc (sZ _) <= _; lia, fun x y => ?_⟩
 ·obtain ⟨ρ', k1, v2, v3, v4, rfl⟩ := bw (g := aM (aj (ag 2) (aj (ag 3) (aj (ag 4) aL)))) (m := cj) av (fun pre ρ => ∃ v2 v3 v4, ρ = [.sh (aF p), owl ((sZ pre).map dQ), v2, v3, v4]) (cn ((af p).map fun t => (t.2.1, t.2.2, t.1))) [.sh (aF p), .ow (.lst []), .un, .un, .un] ⟨_, _, _, rfl⟩ (by
   rintro pre t post _ e ⟨v2, v3, v4, rfl⟩
   have hp : pre.length <= (af p).length := by
    rw [<- hlen, e, Pj]; lia
   have opre := Be (ts := pre) fun t ht => hok t (by rw [e]; exact Po _ ht)
   have := opre.len
   have h1 : (sZ pre).length <= bc (sZ pre) := by
    have : ∀ bs : List Blk, bs.length <= bc bs := by
     intro bs
     induction bs with
     | nil => exact PY _
     | cons b bs ih =>
      have e2 : bc (b :: bs) = dm b + bc bs := rfl
      rw [e2, Pu]
      unfold dm
      lia
    exact this _
   refine ⟨_, _, rfl, .inl (zK _ (sZ pre) t (by lia)), .sh (.int t.1), .sh (.int t.2.1), .sh (.int t.2.2), by rw [wQ]⟩)
  have h1 := b7 p (by lia)
  have hl : (af p).length <= LIM := bd (by lia)
  have hc : b6 (aM (aj (ag 0) (aj (ag 1) (aj (ag 2) aL)))) cz (bg (ad (au 1) (ad (au 2) (ad (au 0) aq)))) [.un, .un, .un] ((af p).map av) = some (((af p).map fun t => (t.2.1, t.2.2, t.1)).map av) := by
   rw [PC]
   exact a8 av (av ∘ fun t => (t.2.1, t.2.2, t.1)) (af p) fun q hq => by simp [fR]
  have hb := kQ ((af p).map fun t => (t.2.1, t.2.2, t.1)) (by rw [Ph]; exact h)
  have k2 : gn (aM (aj (ag 2) (aj (ag 3) (aj (ag 4) aL)))) cj ((cn ((af p).map fun t => (t.2.1, t.2.2, t.1))).map av) [.sh (aF p), .ow (.lst []), .un, .un, .un] = some (.nx [.sh (aF p), owl ((bi p).map dQ), v2, v3, v4]) := k1
  generalize bi p = bs at k2
  generalize (cn ((af p).map fun t => (t.2.1, t.2.2, t.1))).map av = zs at k2 hb
  generalize ((af p).map fun t => (t.2.1, t.2.2, t.1)).map av = ws at hb hc
  simp [mz, kY, fnO, jl, h1, hl, hc, hb, k2]
 ·unfold bi
  rw [o.mem, <- bS]
  constructor
  ·rintro ⟨t, ht, h1, h2, h3⟩
   obtain ⟨s, hs, rfl⟩ := Pp.mp (hperm.mem_iff.mp ht)
   exact ⟨s, hs, h3.symm, h1, h2⟩
  ·rintro ⟨s, hs, h1, h2, h3⟩
   exact ⟨_, hperm.mem_iff.mpr (Pp.mpr ⟨s, hs, rfl⟩), h2, h3, h1.symm⟩
abbrev wR (bs : List Blk) : D := .tup (bs.map dQ)
abbrev oo (ps : List (List Blk)) : D := .tup (ps.map wR)
abbrev aY (N : Str) (ps : List (List Blk)) : D := .ins N ["parts"] [oo ps]
def Fp (bs : List Blk) (x y : Int) : Prop := ∃ b ∈ bs, tR b x y
def Off : List (List Blk) -> Int -> Int -> Prop
 | [], x, y => x = 0 /\ y = 0
 | bs :: r, x, y => ∃ u v, Fp bs u v /\ Off r (x - u) (y - v)
def bu : List (List Blk) -> Nat
 | [] => 1
 | bs :: r => bc bs * bu r
def FOk (ps : List (List Blk)) : Prop := ∀ bs ∈ ps, bs ≠ [] /\ ∀ b ∈ bs, BOk b
theorem ij : ∀ (a b : List (List Blk)), bu (a ++ b) = bu a * bu b
 | [], b => (Nat.one_mul _).symm
 | x :: a, b => by rw [List.cons_append, bu, bu, ij a b, Nat.mul_assoc]
theorem wG {bs : List Blk} (h : bs ≠ []) : 1 <= bc bs := by
 cases bs with
 | nil => exact absurd rfl h
 | cons b bs =>
  have e : bc (b :: bs) = dm b + bc bs := rfl
  rw [e]
  unfold dm
  lia
theorem mU : ∀ {ps : List (List Blk)}, FOk ps -> 1 <= bu ps
 | [], _ => Pi _
 | bs :: r, h => by
  have h1 := wG (h bs Pl).1
  have h2 := mU (ps := r) fun x hx => h x (Pn _ hx)
  rw [bu]
  exact Nat.mul_pos h1 h2
theorem Iq (p : Pic) (bs : List Blk) (x y : Int) : GrP p bs x y ↔ ∃ u v, Fp bs u v /\ aR p (x - u) (y - v) := by
 constructor
 ·rintro ⟨b, hb, dx, dy, h1, h2⟩
  exact ⟨dx, dy, ⟨b, hb, h1⟩, h2⟩
 ·rintro ⟨dx, dy, ⟨b, hb, h1⟩, h2⟩
  exact ⟨b, hb, dx, dy, h1, h2⟩
theorem jx (N : Str) (hN : NS.contains N = true) (ps : List (List Blk)) (hf : FOk ps) (p : Pic) (c : aA p) (hs : bu ps * (af p).length <= 10000) : ∃ q : Pic, dg [aY N ps, aF p] = some (aF q) /\ aA q /\ (af q).length <= bu ps * (af p).length /\ ∀ x y, aR q x y ↔ ∃ u v, Off ps u v /\ aR p (x - u) (y - v) := by
 obtain ⟨ρ', k1, q, v2, rfl, b1, b2, b3⟩ := bw (g := ag 2) (m := df) wR (fun pre ρ => ∃ (q : Pic) (v2 : Sl), ρ = [.sh (aY N ps), .sh (aF q), v2] /\ aA q /\ (af q).length <= bu pre.reverse * (af p).length /\ ∀ x y, aR q x y ↔ ∃ u v, Off pre.reverse u v /\ aR p (x - u) (y - v)) ps.reverse [.sh (aY N ps), .sh (aF p), .un] ⟨p, _, rfl, c, by simp [bu], fun x y => ⟨fun h => ⟨0, 0, ⟨rfl, rfl⟩, by simpa using h⟩, fun ⟨u, v, ⟨hu, hv⟩, h⟩ => by subst hu hv; simpa using h⟩⟩ (by
  rintro pre bs post _ e ⟨q, v2, rfl, cq, l1, l2⟩
  have e' : ps = post.reverse ++ (bs :: pre.reverse) := by
   have := PH List.reverse e
   rw [RY] at this
   rw [this]
   simp
  have hbs := hf bs (by rw [e']; simp)
  have hpost : FOk post.reverse := fun x hx => hf x (by rw [e']; exact Po _ hx)
  have hp1 := mU hpost
  have hp2 : bu (bs :: pre.reverse) * (af p).length <= bu ps * (af p).length := by
   rw [e', ij]
   exact Qx _ (RE _ hp1)
  have hp3 : bc bs * (af q).length <= bu (bs :: pre.reverse) * (af p).length := by
   rw [bu, Nat.mul_assoc]
   exact Rb _ l1
  obtain ⟨q', c1, c2, c3, c4⟩ := mO q cq bs hbs.2 (by lia)
  have er : (pre ++ [bs]).reverse = bs :: pre.reverse := by simp
  refine ⟨_, [.sh (aY N ps), .sh (aF q'), .sh (wR bs)], rfl, .inl ?_, q', _, rfl, c2, ?_, fun x y => ?_⟩
  ·simp [df, c1]
  ·rw [er]
   lia
  ·rw [er, c4, Iq]
   constructor
   ·rintro ⟨u, v, h1, h2⟩
    obtain ⟨u', v', h3, h4⟩ := (l2 _ _).mp h2
    exact ⟨u + u', v + v', ⟨u, v, h1, by rwa [show u + u' - u = u' by lia, show v + v' - v = v' by lia]⟩, by rwa [show x - (u + u') = x - u - u' by lia, show y - (v + v') = y - v - v' by lia]⟩
   ·rintro ⟨u, v, ⟨u', v', h1, h3⟩, h2⟩
    exact ⟨u', v', h1, (l2 _ _).mpr ⟨u - u', v - v', h3, by rwa [show x - u' - (u - u') = x - u by lia, show y - v' - (v - v') = y - v by lia]⟩⟩)
 rw [RY] at b2
 refine ⟨q, ?_, b1, b2, fun x y => by rw [b3, RY]⟩
 have ef : zc NS "parts" (au 0) [.sh (aY N ps), .sh (aF p), .un] = some (oo ps) := by
  show (if NS.contains N then Ah ["parts"] [oo ps] "parts" else none) = _
  rw [Pa hN]
  rfl
 rw [List.map_reverse] at k1
 have er : xJ (ad (zc NS "parts" (au 0)) aq) [.sh (aY N ps), .sh (aF p), .un] = some (ps.map wR).reverse := by
  unfold xJ ad aq
  rw [ef]
  rfl
 have ex : eG [.sh (aY N ps), .sh (aF p), .un] = some (.rt (aF q)) := by
  unfold eG
  have e1 : fA (xJ (ad (zc NS "parts" (au 0)) aq)) (ag 2) df [.sh (aY N ps), .sh (aF p), .un] = some (.nx [.sh (aY N ps), .sh (aF q), v2]) := by
   unfold fA
   rw [er]
   exact k1
  rw [kv e1]
  rfl
 exact FA (n := 3) (ds := [aY N ps, aF p]) ex
def Cz : Pic := [(0, [(0, 0)])]
theorem AD (x y : Int) : aR Cz x y ↔ x = 0 /\ y = 0 := by
 constructor
 ·rintro ⟨q, hq, h1, s, hs, h2, h3⟩
  rw [Cz, Pg] at hq
  subst hq
  rw [Pg] at hs
  subst hs
  dsimp only at h1 h2 h3
  lia
 ·rintro ⟨rfl, rfl⟩
  exact ⟨_, Pg.mpr rfl, rfl, _, Pg.mpr rfl, PB _, PB _⟩
theorem BB : aA Cz := by
 refine ⟨fun q hq => ?_, QJ _ _⟩
 rw [Cz, Pg] at hq
 subst hq
 exact ⟨⟨fun s hs => by rw [Pg] at hs; subst hs; exact PB _, QJ _ _⟩, by simp⟩
theorem sT (N : Str) (hN : NS.contains N = true) (ps : List (List Blk)) (hf : FOk ps) (hs : bu ps <= 10000) : ∃ q : Pic, k7 [aY N ps] = some (aF q) /\ aA q /\ (af q).length <= bu ps /\ ∀ x y, aR q x y ↔ Off ps x y := by
 have e1 : (af Cz).length = 1 := rfl
 obtain ⟨q, a1, a2, a3, a4⟩ := jx N hN ps hf Cz BB (by rw [e1]; lia)
 refine ⟨q, ?_, a2, by rw [e1] at a3; lia, fun x y => ?_⟩
 ·have ex : fN [.sh (aY N ps)] = some (.rt (aF q)) := by
   have em : ja NS "greater" dg (au 0) (ad (xC (.tup [.tup [.int 0, .tup [.tup [.int 0, .int 0]]]])) aq) [.sh (aY N ps)] = some (aF q) := by
    show (if NS.contains N && !(["parts"] : List Str).contains "greater" then dg [aY N ps, aF Cz] else none) = _
    rw [hN, Pa (by decide), a1]
   unfold fN bT
   rw [em]
   rfl
  exact FA (n := 1) (ds := [aY N ps]) ex
 ·rw [a4]
  constructor
  ·rintro ⟨u, v, h1, h2⟩
   obtain ⟨h3, h4⟩ := (AD _ _).mp h2
   rwa [show x = u by lia, show y = v by lia]
  ·intro h
   exact ⟨x, y, h, (AD _ _).mpr ⟨by lia, by lia⟩⟩
def shr (r : R) (lo hi : Int) : R := lA (r.map fun p => (p.1 - lo, p.2 - hi))
theorem sL (r : R) (lo hi : Int) (h : r.length <= 1000) : ii [ci r, .int lo, .int hi] = some (ci (shr r lo hi)) := by
 have hl : r.length <= LIM := bd (by lia)
 have hc : b6 (aM (aj (ag 0) (aj (ag 1) aL))) cz (bg (ad (xOp e7 (ai 0) (ai 2)) (ad (xOp e7 (ai 1) (ai 3)) aq))) [.un, .un, .sh (.int lo), .sh (.int hi)] (r.map prD) = some (r.map fun p => prD (p.1 - lo, p.2 - hi)) := a8 prD _ r fun p _ => by simp [fR]
 have hm := mB (r.map fun p => (p.1 - lo, p.2 - hi)) (by rw [Ph]; lia)
 rw [Bm, PC] at hm
 have e : (prD ∘ fun p : Int × Int => (p.1 - lo, p.2 - hi)) = fun p => prD (p.1 - lo, p.2 - hi) := rfl
 rw [e] at hm
 try simp at hm
 try simp at hc
 simp [ii, jF, fnO, ie, hl, hc, hm, shr]
theorem DF (r : R) (lo hi x : Int) : Mem (shr r lo hi) x ↔ ∃ p ∈ r, p.1 <= x + lo /\ x + hi <= p.2 := by
 unfold shr
 rw [(eK _).2 x]
 constructor
 ·rintro ⟨q, hq, h1, h2⟩
  obtain ⟨p, hp, rfl⟩ := Pp.mp hq
  dsimp only at h1 h2
  exact ⟨p, hp, by lia, by lia⟩
 ·rintro ⟨p, hp, h1, h2⟩
  exact ⟨_, Pp.mpr ⟨p, hp, rfl⟩, by dsimp only; lia, by dsimp only; lia⟩
theorem DR (r : R) (lo hi : Int) : bh (shr r lo hi) := (eK _).1
theorem Im (r : R) (lo hi : Int) : (shr r lo hi).length <= r.length := by
 have := rA (r.map fun p => (p.1 - lo, p.2 - hi))
 rw [Ph] at this
 exact this
def Kk (P : Int -> Int -> Prop) (b : Blk) (x y : Int) : Prop := ∀ dx dy, tR b dx dy -> P (x + dx) (y + dy)
theorem m8 {r : R} (c : bh r) {i j : Nat} {p q : Int × Int} (hi : r[i]? = some p) (hj : r[j]? = some q) (hij : i < j) : p.2 + 2 <= q.1 := by
 obtain ⟨h1, rfl⟩ := Pw.mp hi
 obtain ⟨h2, rfl⟩ := Pw.mp hj
 exact QH.mp c.2 i j h1 h2 hij
theorem zJ {r : R} (c : bh r) {u v : Int} (h : u <= v) (hm : ∀ z, u <= z -> z <= v -> Mem r z) : ∃ s ∈ r, s.1 <= u /\ v <= s.2 := by
 obtain ⟨s, hs, h1, h2⟩ := hm u (PB _) h
 refine ⟨s, hs, h1, ?_⟩
 by_cases hv : v <= s.2
 ·exact hv
 ·obtain ⟨t, ht, k1, k2⟩ := hm (s.2 + 1) (by lia) (by lia)
  obtain ⟨i, hi⟩ := Qk hs
  obtain ⟨j, hj⟩ := Qk ht
  rcases Nat.lt_trichotomy i j with hij | hij | hij
  ·have := m8 c hi hj hij
   lia
  ·subst hij
   rw [hi] at hj
   cases hj
   lia
  ·have := m8 c hj hi hij
   have := c.1 s hs
   lia
def Kt (p : Pic) (u v y : Int) : Prop := ∃ q ∈ p, q.1 = y /\ ∃ s ∈ q.2, s.1 <= u /\ v <= s.2
theorem tZ {p : Pic} (c : aA p) {u v y : Int} (h : u <= v) : Kt p u v y ↔ ∀ z, u <= z -> z <= v -> aR p z y := by
 constructor
 ·rintro ⟨q, hq, e, s, hs, h1, h2⟩ z k1 k2
  exact ⟨q, hq, e, s, hs, by lia, by lia⟩
 ·intro hm
  have hr := ez c y
  obtain ⟨s, hs, h1, h2⟩ := zJ hr h fun z k1 k2 => (kl c z y).mpr (hm z k1 k2)
  obtain ⟨q, hq, e, _⟩ := hm u (PB _) h
  refine ⟨q, hq, e, s, ?_, h1, h2⟩
  rw [<- e, mw c hq] at hs
  exact hs
def vV (p : Pic) (b : Blk) : Pic := (p.map fun q => (q.1 - b.2.1, shr q.2 b.1 b.2.2.1)).filter ic
theorem BV {p : Pic} (c : aA p) (b : Blk) : aA (vV p b) := by
 refine ⟨fun q hq => ?_, ?_⟩
 ·obtain ⟨h1, h2⟩ := PR.mp hq
  obtain ⟨z, hz, rfl⟩ := Pp.mp h1
  exact ⟨DR _ _ _, by simpa [ic] using h2⟩
 ·refine RV _ ?_
  rw [Qq]
  exact c.2.imp fun {s t} h => by dsimp only; lia
theorem AM {p : Pic} (c : aA p) {b : Blk} (hb : b.1 <= b.2.2.1) (x y : Int) : aR (vV p b) x y ↔ ∀ dx, b.1 <= dx -> dx <= b.2.2.1 -> aR p (x + dx) (y + b.2.1) := by
 have h1 : aR (vV p b) x y ↔ Kt p (x + b.1) (x + b.2.2.1) (y + b.2.1) := by
  constructor
  ·rintro ⟨q, hq, e, hm⟩
   obtain ⟨z, hz, rfl⟩ := Pp.mp (PR.mp hq).1
   dsimp only at e hm
   obtain ⟨s, hs, k1, k2⟩ := (DF _ _ _ _).mp hm
   exact ⟨z, hz, by lia, s, hs, k1, k2⟩
  ·rintro ⟨z, hz, e, s, hs, k1, k2⟩
   have hm : Mem (shr z.2 b.1 b.2.2.1) x := (DF _ _ _ _).mpr ⟨s, hs, k1, k2⟩
   refine ⟨(z.1 - b.2.1, shr z.2 b.1 b.2.2.1), PR.mpr ⟨Pp.mpr ⟨z, hz, rfl⟩, ?_⟩, by dsimp only; lia, hm⟩
   unfold ic
   rw [Bool.not_eq_true', RX]
   intro e'
   dsimp only at e'
   rw [e'] at hm
   exact bz _ hm
 rw [h1, tZ c (by lia)]
 constructor
 ·intro h dx k1 k2
  exact h (x + dx) (by lia) (by lia)
 ·intro h z k1 k2
  have := h (z - x) (by lia) (by lia)
  rwa [show x + (z - x) = z by lia] at this
theorem kJ {f : Int × R -> Int × R} : ∀ p : Pic, (∀ q ∈ p, (f q).2.length <= q.2.length) -> (af (p.map f)).length <= (af p).length
 | [], _ => Pi _
 | q :: p, h => by
  have h1 := kJ p fun s hs => h s (Pn _ hs)
  have h2 := h q Pl
  rw [Pt, bf, bf, Pj, Pj, Ph, Ph]
  lia
theorem FK (p : Pic) (b : Blk) : (vV p b).length <= p.length /\ (af (vV p b)).length <= (af p).length := by
 unfold vV
 rw [eR]
 refine ⟨?_, kJ p fun q _ => Im _ _ _⟩
 have := QO ic (p.map fun q => (q.1 - b.2.1, shr q.2 b.1 b.2.2.1))
 rwa [Ph] at this
theorem uj : ∀ (q p : Pic), p.Pairwise (fun s t => s.1 < t.1) -> (p.map fun s => (bA q s.1).length).sum <= (af q).length
 | [], p, _ => by
  have : ∀ p : Pic, (p.map fun s => (bA [] s.1).length).sum = 0 := by
   intro p
   induction p with
   | nil => rfl
   | cons s p ih => rw [Pt, Qr, ih]; rfl
  rw [this]
  exact PY _
 | t :: q, p, hp => by
  have ih := uj q p hp
  have key : ∀ p : Pic, p.Pairwise (fun s t => s.1 < t.1) -> (p.map fun s => (bA (t :: q) s.1).length).sum <= t.2.length + (p.map fun s => (bA q s.1).length).sum /\ ((∀ s ∈ p, t.1 ≠ s.1) -> (p.map fun s => (bA (t :: q) s.1).length).sum <= (p.map fun s => (bA q s.1).length).sum) := by
   intro p
   induction p with
   | nil => intro _; simp
   | cons s p ihp =>
    intro hp
    obtain ⟨k1, k2⟩ := QN.mp hp
    obtain ⟨i1, i2⟩ := ihp k2
    have er : bA (t :: q) s.1 = if t.1 = s.1 then t.2 else bA q s.1 := by
     unfold bA
     rw [List.find?_cons]
     by_cases h : t.1 = s.1 <;> simp [h]
    simp only [Pt, Qr, er]
    by_cases h : t.1 = s.1
    ·rw [Pa h]
     refine ⟨?_, fun hn => absurd h (hn s Pl)⟩
     have := i2 fun z hz e => by have := k1 z hz; lia
     lia
    ·rw [Pb h]
     refine ⟨by lia, fun hn => ?_⟩
     have := i2 fun z hz => hn z (Pn _ hz)
     lia
  have := (key p hp).1
  rw [bf, Pj, Ph]
  lia
theorem Fw {p q : Pic} (cp : aA p) : (af (cmP p q)).length <= (af p).length + (af q).length := by
 have h1 := uj q p cp.2
 have key : ∀ p : Pic, (af (p.map fun s => (s.1, dM s.2 (bA q s.1)))).length <= (af p).length + (p.map fun s => (bA q s.1).length).sum := by
  intro p
  induction p with
  | nil => simp [af]
  | cons s p ih =>
   have := pN _ s.2 (bA q s.1) rfl
   rw [Pt, bf, bf, Pj, Pj, Ph, Ph, Pt, Qr]
   dsimp only
   lia
 unfold cmP pJ
 rw [eR]
 have := key p
 lia
theorem Du (p q : Pic) : (cmP p q).length <= p.length := by
 unfold cmP pJ
 have := QO ic (p.map fun s => (s.1, dM s.2 (bA q s.1)))
 rwa [Ph] at this
theorem qX (p : Pic) (c : aA p) (n : Nat) (hp : p.length <= 10000) (hs : (2 * n + 1) * (af p).length <= 10000) : ∃ q : Pic, gG [aF p, .int (n : Int)] = some (aF q) /\ aA q /\ q.length <= p.length /\ (af q).length <= (2 * n + 1) * (af p).length /\ ∀ x y, aR q x y ↔ ∀ j : Int, 0 <= j -> j <= n -> aR p x (y + j) := by
 obtain ⟨ρ', k1, q, v2, v3, rfl, a1, a2, a3, a4⟩ := k8 (c := dH) (m := fi)
  (fun ρ => ∃ (q : Pic) (k : Nat) (v3 : Sl), ρ = [.sh (aF q), .sh (.int (n : Int)), .sh (.int (k : Int)), v3] /\ k <= n /\ aA q /\ q.length <= p.length /\ ((af q).length <= (k + 1) * (af p).length \/ (k = n /\ (af q).length <= (2 * n + 1) * (af p).length)) /\ (k = 0 -> (af q).length <= (af p).length) /\ ∀ x y, aR q x y ↔ ∀ j : Int, 0 <= j -> j <= k -> aR p x (y + j))
  (fun ρ => match ρ with | [_, .sh (.int n), .sh (.int k), _] => (n - k).toNat | _ => 0)
  (fun ρ => ∃ (q : Pic) (v2 v3 : Sl), ρ = [.sh (aF q), .sh (.int (n : Int)), v2, v3] /\ aA q /\ q.length <= p.length /\ (af q).length <= (2 * n + 1) * (af p).length /\ ∀ x y, aR q x y ↔ ∀ j : Int, 0 <= j -> j <= n -> aR p x (y + j))
  (by
   rintro _ ⟨q, k, v3, rfl, hk, c', hl, hsz, h0, hm⟩
   by_cases hc : k < n
   ·right
    have hc' : (k : Int) < n := by lia
    refine ⟨by simp [dH, hc'], ?_⟩
    have hsz' : (af q).length <= (k + 1) * (af p).length := hsz.elim id fun h => by lia
    generalize hst : (if (n : Int) - k < (k : Int) + 1 then (n : Int) - k else (k : Int) + 1) = st
    have hst1 : 1 <= st /\ st <= k + 1 /\ st <= n - k /\ (st = k + 1 \/ st = n - k) := by rw [<- hst]; split <;> lia
    have e1 : (k + 1) * (af p).length <= (2 * n + 1) * (af p).length := Qx _ (by lia)
    have lq : (af q).length <= 10000 := by lia
    have mv := nW q 0 (-st) (by lia) fun z hz => by have := cW hz; lia
    have cmv := xQ c' 0 (-st)
    have lmv : (mvP q 0 (-st)).length = q.length := by unfold mvP; rw [Ph]
    have smv := BZ q 0 (-st)
    have cm := sg (p := q) (q := mvP q 0 (-st)) cmv (by lia) (by lia) (by lia)
    have scm := Fw (p := q) (q := mvP q 0 (-st)) c'
    have rcm := Du q (mvP q 0 (-st))
    have ek : (((k + st.toNat : Nat)) : Int) = (k : Int) + st := by lia
    refine ⟨[.sh (aF (cmP q (mvP q 0 (-st)))), .sh (.int (n : Int)), .sh (.int ((k + st.toNat : Nat) : Int)), .sh (.int st)], ?_, ⟨cmP q (mvP q 0 (-st)), k + st.toNat, _, rfl, by lia, xY c' cmv, by lia, ?_, fun z => by lia, fun x y => ?_⟩, by dsimp only; lia⟩
    ·rw [ek]
     simp [fi, hst, mv, cm]
    ·rcases hst1.2.2.2 with e | e
     ·left
      have e2 : (k + st.toNat + 1) * (af p).length = (k + 1) * (af p).length + (k + 1) * (af p).length := by
       rw [<- Qm]
       congr 1
       lia
      lia
     ·right
      have e2 : (k + 1) * (af p).length + (k + 1) * (af p).length <= (2 * n + 1) * (af p).length := by
       rw [<- Qm]
       exact Qx _ (by lia)
      exact ⟨by lia, by lia⟩
    ·rw [CW c' cmv, tL, hm, hm, show x - 0 = x by lia, show y - -st = y + st by lia]
     constructor
     ·rintro ⟨g1, g2⟩ j j0 j1
      by_cases hj : j <= k
      ·exact g1 j j0 hj
      ·have := g2 (j - st) (by lia) (by lia)
       rwa [show y + st + (j - st) = y + j by lia] at this
     ·intro g
      refine ⟨fun j j0 j1 => g j j0 (by lia), fun j j0 j1 => ?_⟩
      have := g (st + j) (by lia) (by lia)
      rwa [show y + (st + j) = y + st + j by lia] at this
   ·left
    have ek : k = n := by lia
    subst ek
    refine ⟨by simp [dH], q, _, _, rfl, c', hl, ?_, hm⟩
    rcases hsz with h | h
    ·have : (k + 1) * (af p).length <= (2 * k + 1) * (af p).length := Qx _ (by lia)
     lia
    ·exact h.2)
  [.sh (aF p), .sh (.int (n : Int)), .sh (.int 0), .un] ⟨p, 0, .un, rfl, by lia, c, Pi _, .inl (by lia), fun _ => Pi _, fun x y => ⟨fun h j j0 j1 => by rwa [show y + j = y by lia], fun h => by have := h 0 (by lia) (by lia); rwa [show y + 0 = y by lia] at this⟩⟩
 exact ⟨q, by simp [gG, iz, fnO, gH, k1], a1, a2, a3, a4⟩
theorem gm (p : Pic) (c : aA p) (b : Blk) (hb : BOk b) (n : Nat) (hn : b.2.2.2 - b.2.1 = n) (hp : p.length <= 1000) (hs : (2 * n + 1) * (af p).length <= 10000) (hr : ∀ q ∈ p, q.2.length <= 1000) : ∃ q : Pic, du [aF p, dQ b] = some (aF q) /\ aA q /\ q.length <= p.length /\ (af q).length <= (2 * n + 1) * (af p).length /\ ∀ x y, aR q x y ↔ Kk (aR p) b x y := by
 have hl : p.length <= LIM := bd (by lia)
 have hc : b6 (aM (aj (ag 0) (aj (ag 1) aL))) cz (bg (ad (xOp e7 (ai 0) (xOp dIx (ai 2) (xC (.int 1)))) (ad (aH ii (ad (au 1) (ad (xOp dIx (ai 2) (xC (.int 0))) (ad (xOp dIx (ai 2) (xC (.int 2))) aq)))) aq))) [.un, .un, .sh (dQ b)] (p.map pyD) = some ((p.map fun q => (q.1 - b.2.1, shr q.2 b.1 b.2.2.1)).map pyD) := by
  rw [PC]
  exact a8 pyD (fun q => pyD (q.1 - b.2.1, shr q.2 b.1 b.2.2.1)) p fun q hq => by
   have a := sL q.2 b.1 b.2.2.1 (hr q hq)
   simp [fR, a, atI, ixN]
 have hm := cP (p.map fun q => (q.1 - b.2.1, shr q.2 b.1 b.2.2.1)) (by rw [Ph]; lia)
 have hnl := FK p b
 have e1 : (2 * n + 1) * (af (vV p b)).length <= (2 * n + 1) * (af p).length := Rb _ hnl.2
 obtain ⟨q, a1, a2, a3, a4, a5⟩ := qX (vV p b) (BV c b) n (by lia) (by lia)
 refine ⟨q, ?_, a2, by lia, by lia, fun x y => ?_⟩
 ·have a1' : gG [aF (vV p b), .int (b.2.2.2 - b.2.1)] = some (aF q) := by rw [hn]; exact a1
  have hm' : bE [.lst ((p.map fun q => (q.1 - b.2.1, shr q.2 b.1 b.2.2.1)).map pyD)] = some (aF (vV p b)) := hm
  generalize (p.map fun q => (q.1 - b.2.1, shr q.2 b.1 b.2.2.1)).map pyD = zs at hc hm'
  simp [du, eW, fnO, dB, hl, hc, hm', a1', atI, ixN]
 ·rw [a5]
  constructor
  ·intro h dx dy hd
   have h1 := (AM c hb.1 x (y + (dy - b.2.1))).mp (h (dy - b.2.1) (by have := hd.2.2.1; lia) (by have := hd.2.2.2; lia)) dx hd.1 hd.2.1
   rwa [show y + (dy - b.2.1) + b.2.1 = y + dy by lia] at h1
  ·intro h j j0 j1
   rw [AM c hb.1]
   intro dx d0 d1
   have := h dx (j + b.2.1) ⟨d0, d1, by lia, by lia⟩
   rwa [show y + (j + b.2.1) = y + j + b.2.1 by lia] at this
theorem uu {α : Type} (l : List α) (k : α -> Int) (enc : α -> D) (f g : Int) (he : ∀ a, dIx (enc a) (.int 0) = some (.int (k a))) (hl : l.length <= 100000) (pw : l.Pairwise fun a b => k a < k b) :
  ∃ l' : List α, bG [.tup (l.map enc), .int f, .int g] = some (.tup (l'.map enc)) /\ l'.Sublist l /\ ∀ a ∈ l, k a <= g -> (∀ b ∈ l, k a < k b -> f < k b) -> a ∈ l' := by
 obtain ⟨n1, a1, b1, c1⟩ := gx l k enc f he hl pw
 obtain ⟨n2, a2, b2, c2⟩ := gx l k enc g he hl pw
 refine ⟨gM l (some ((n1 - 1 : Nat) : Int)) (some (n2 : Int)), ?_, ?_, fun a ha hg hb => ?_⟩
 ·have e1 : (if ((n1 : Int) - 1) > 0 then (n1 : Int) - 1 else 0) = ((n1 - 1 : Nat) : Int) := by split <;> lia
  have e1' : (if 1 < n1 then (n1 : Int) - 1 else 0) = ((n1 - 1 : Nat) : Int) := by split <;> lia
  have e1'' : (if (1 : Int) < (n1 : Int) then (n1 : Int) - 1 else 0) = ((n1 - 1 : Nat) : Int) := by split <;> lia
  simp [bG, gv, fnO, fg, b1, b2, tw, e1, e1', e1'', dSl]
 ·unfold gM
  exact (List.take_sublist _ _).trans (List.drop_sublist _ _)
 ·obtain ⟨i, hi⟩ := Qk ha
  have hil := (Pw.mp hi).1
  have h2 := (c2 i a hi).mp hg
  have h1 : n1 - 1 <= i := by
   by_cases h : n1 - 1 <= i
   ·exact h
   ·exfalso
    obtain ⟨b, hb'⟩ : ∃ b, l[i + 1]? = some b := ⟨_, Qf (show i + 1 < l.length by lia)⟩
    have h3 := (c1 (i + 1) b hb').mpr (by lia)
    obtain ⟨l1, e1⟩ := Pw.mp hi
    obtain ⟨l2, e2⟩ := Pw.mp hb'
    have h4 := QH.mp pw i (i + 1) l1 l2 (by lia)
    rw [e1, e2] at h4
    have := hb b (Q3 hb') h4
    lia
  unfold gM
  rw [tJ (by lia), tJ (by lia), Int.toNat_natCast, Int.toNat_natCast, Nat.min_eq_left (by lia : n1 - 1 <= l.length), Nat.min_eq_left a2]
  refine Q3 (i := i - (n1 - 1)) ?_
  rw [List.getElem?_take_of_lt (by lia), Rk, show n1 - 1 + (i - (n1 - 1)) = i by lia]
  exact hi
theorem Gg {r : R} (c : bh r) (h : r.length <= 100000) (f g : Int) : ∃ r' : R, bG [ci r, .int f, .int g] = some (ci r') /\ r'.Sublist r /\ ∀ x, f <= x -> x <= g -> Mem r x -> Mem r' x := by
 have pw : r.Pairwise fun a b => a.1 < b.1 := by
  refine List.Pairwise.imp_of_mem ?_ c.2
  intro p q hp _ h
  have := c.1 p hp
  lia
 obtain ⟨r', h1, h2, h3⟩ := uu r (·.1) prD f g (fun a => by simp) h pw
 refine ⟨r', h1, h2, fun x hf hg ⟨q, hq, k1, k2⟩ => ⟨q, h3 q hq (by lia) fun b hb hlt => ?_, k1, k2⟩⟩
 obtain ⟨i, hi⟩ := Qk hq
 obtain ⟨j, hj⟩ := Qk hb
 rcases Nat.lt_trichotomy i j with hij | hij | hij
 ·have := m8 c hi hj hij
  lia
 ·subst hij
  rw [hi] at hj
  cases hj
  lia
 ·have := m8 c hj hi hij
  have := c.1 b hb
  have := c.1 q hq
  lia
theorem Ep {r r' : R} (c : bh r) (s : r'.Sublist r) : bh r' := ⟨fun q hq => c.1 q (s.subset hq), c.2.sublist s⟩
theorem DC : ∀ (l : List Int), ∀ x ∈ l, kb l <= x
 | [], _, h => by cases h
 | [a], x, h => by rw [Pg.mp h]; exact PB _
 | a :: b :: l, x, h => by
  rw [xy]
  rcases Ps.mp h with rfl | h
  ·lia
  ·have := DC (b :: l) x h
   lia
theorem Ds : ∀ (l : List Int), ∀ x ∈ l, x <= lO l
 | [], _, h => by cases h
 | [a], x, h => by rw [Pg.mp h]; exact PB _
 | a :: b :: l, x, h => by
  have e : lO (a :: b :: l) = max a (lO (b :: l)) := rfl
  rw [e]
  rcases Ps.mp h with rfl | h
  ·lia
  ·have := Ds (b :: l) x h
   lia
def rR (p : Pic) : List Int := p.map fun q => (q.2.head?.getD (0, 0)).1
def lZ (p : Pic) : List Int := p.map fun q => (q.2.getLast?.getD (0, 0)).2
theorem DN (p : Pic) (hn : ∀ q ∈ p, q.2 ≠ []) : b6 (aM (aj (ag 0) (aj (ag 1) aL))) cz (xOp dIx (xOp dIx (ai 1) (xC (.int 0))) (xC (.int 0))) [.un, .un] (p.map pyD) = some ((rR p).map D.int) := by
 unfold rR
 rw [PC]
 refine a8 pyD _ p fun q hq => ?_
 obtain ⟨y, r⟩ := q
 cases r with
 | nil => exact absurd rfl (hn _ hq)
 | cons a r =>
  have f0 : atI (prD a :: r.map prD) 0 = some (prD a) := gR (j := 0) rfl
  have f1 : atI [D.int a.1, D.int a.2] 0 = some (.int a.1) := gR (j := 0) rfl
  simp [fR, f0, f1]
theorem B7 (p : Pic) (hn : ∀ q ∈ p, q.2 ≠ []) : b6 (aM (aj (ag 0) (aj (ag 1) aL))) cz (xOp dIx (xOp dIx (ai 1) (xUn d9 (xC (.int 1)))) (xC (.int 1))) [.un, .un] (p.map pyD) = some ((lZ p).map D.int) := by
 unfold lZ
 rw [PC]
 refine a8 pyD _ p fun q hq => ?_
 obtain ⟨y, r⟩ := q
 rcases P7 r with rfl | ⟨r0, a, rfl⟩
 ·exact absurd rfl (hn _ hq)
 ·have f0 : atI ((r0 ++ [a]).map prD) (-1) = some (prD a) := by
   unfold atI
   rw [Ph, Pj, P8, uI]
   simp
  have f1 : atI [D.int a.1, D.int a.2] 1 = some (.int a.2) := gR (j := 1) rfl
  rw [Qc] at f0
  simp at f0
  simp [fR, f0, f1]
theorem Bw {r : R} (c : bh r) {q : Int × Int} (hq : q ∈ r) : (r.head?.getD (0, 0)).1 <= q.1 := by
 cases r with
 | nil => cases hq
 | cons a r =>
  rcases Ps.mp hq with rfl | hq
  ·exact PB _
  ·have := (canon_cons.mp c).2.1 q hq
   have := (canon_cons.mp c).1
   show a.1 <= q.1
   lia
theorem CA {r : R} (c : bh r) {q : Int × Int} (hq : q ∈ r) : q.2 <= (r.getLast?.getD (0, 0)).2 := by
 rcases P7 r with rfl | ⟨r0, a, rfl⟩
 ·cases hq
 ·rw [P9] at *
  have e : ((r0 ++ [a]).getLast?.getD (0, 0)) = a := by simp
  rw [e]
  rcases Pk.mp hq with hq | hq
  ·obtain ⟨_, h1, h2⟩ := canon_snoc.mp c
   have := h2 q hq
   lia
  ·rw [Pg.mp hq]
   exact PB _
theorem AE (p : Pic) (c : aA p) (hne : p ≠ []) (h : p.length <= 30000) : ∃ l t r b : Int, uB [aF p] = some (.tup [.int l, .int t, .int r, .int b]) /\ ∀ x y, aR p x y -> l <= x /\ x <= r /\ t <= y /\ y <= b := by
 have hn : ∀ q ∈ p, q.2 ≠ [] := fun q hq => (c.1 q hq).2
 have c1 := DN p hn
 have c2 := B7 p hn
 have hl : p.length <= LIM := bd (by lia)
 have hpos : 0 < p.length := List.length_pos_iff.mpr hne
 have l1 : (rR p).length = p.length := by unfold rR; rw [Ph]
 have l2 : (lZ p).length = p.length := by unfold lZ; rw [Ph]
 have hml : AL [.lst ((rR p).map D.int)] = some (.int (kb (rR p))) := by
  unfold AL
  simp only [ji, Option.bind_some]
  rw [Pa (by lia)]
 have hmh : Ag [.lst ((lZ p).map D.int)] = some (.int (lO (lZ p))) := by
  unfold Ag
  simp only [ji, Option.bind_some]
  rw [Pa (by lia)]
 obtain ⟨q0, h0⟩ : ∃ q, p[0]? = some q := ⟨_, Qf hpos⟩
 obtain ⟨q1, h1⟩ : ∃ q, p.getLast? = some q := by
  cases e : p.getLast? with
  | none => exact absurd (List.getLast?_eq_none_iff.mp e) hne
  | some q => exact ⟨q, rfl⟩
 have f0 : atI (p.map pyD) 0 = some (pyD q0) := gR (j := 0) (by rw [PD, h0]; rfl)
 have f1 : atI (p.map pyD) (-1) = some (pyD q1) := by
  obtain ⟨Y, rfl⟩ := List.getLast?_eq_some_iff.mp h1
  rw [Qc]
  exact kj _ _
 have g0 : ∀ (y : Int) (d : D), atI [D.int y, d] 0 = some (.int y) := fun y d => gR (j := 0) rfl
 have d0 : dEq false (aF p) (.tup []) = some (.bl false) := by
  cases p with
  | nil => exact absurd rfl hne
  | cons q p =>
   unfold dEq
   rw [Pa ⟨yR _, by simp [okD, okDs]⟩]
   simp [eqD, eqDs]
 refine ⟨kb (rR p), q0.1, lO (lZ p), q1.1, ?_, fun x y hm => ?_⟩
 ·generalize hP : p.map pyD = Pd at *
  have hPl : Pd.length <= LIM := by rw [<- hP, Ph]; exact hl
  simp [uB, rO, fnO, pF, hP, d0, c1, c2, hPl, hml, hmh, f0, f1, g0]
 ·obtain ⟨q, hq, rfl, s, hs, k1, k2⟩ := hm
  have cq := (c.1 q hq).1
  have e1 := DC (rR p) _ (Pp.mpr ⟨q, hq, rfl⟩)
  have e2 := Ds (lZ p) _ (Pp.mpr ⟨q, hq, rfl⟩)
  have e3 := Bw cq hs
  have e4 := CA cq hs
  refine ⟨by lia, by lia, ?_, ?_⟩
  ·cases p with
   | nil => exact absurd rfl hne
   | cons a p =>
    cases h0
    rcases Ps.mp hq with rfl | hq
    ·exact PB _
    ·have := (pcanon_cons.mp c).2.1 q hq
     lia
  ·obtain ⟨Y, rfl⟩ := List.getLast?_eq_some_iff.mp h1
   rcases Pk.mp hq with hq | hq
   ·have := (PP.mp c.2).2.2 q hq q1 (by simp)
    lia
   ·rw [Pg.mp hq]
    exact PB _
theorem Hu {l m : List Nat} (h : l.Sublist m) : l.sum <= m.sum := by
 induction h with
 | slnil => exact Pi _
 | cons a _ ih => rw [Qr]; lia
 | cons_cons a _ ih => rw [Qr, Qr]; lia
theorem Ae (p : Pic) (c : aA p) (hr : ∀ q ∈ p, q.2.length <= 1000) (f g : Int) : ∃ part : Int × R -> R, ∀ q ∈ p, bG [ci q.2, .int f, .int g] = some (ci (part q)) /\ (part q).Sublist q.2 /\ ∀ x, f <= x -> x <= g -> Mem q.2 x -> Mem (part q) x := by
 have h : ∀ q : Int × R, ∃ r : R, q ∈ p -> bG [ci q.2, .int f, .int g] = some (ci r) /\ r.Sublist q.2 /\ ∀ x, f <= x -> x <= g -> Mem q.2 x -> Mem r x := fun q => by
  by_cases hq : q ∈ p
  ·obtain ⟨r, h1⟩ := Gg (c.1 q hq).1 (by have := hr q hq; lia) f g
   exact ⟨r, fun _ => h1⟩
  ·exact ⟨[], fun z => absurd z hq⟩
 exact ⟨fun q => (h q).choose, fun q hq => (h q).choose_spec hq⟩
theorem yN (p : Pic) (c : aA p) (hp : p.length <= 1000) (hr : ∀ q ∈ p, q.2.length <= 1000) (l t r b : Int) (k : Blk) : ∃ q : Pic, rc [aF p, .tup [.int l, .int t, .int r, .int b], dQ k] = some (aF q) /\ aA q /\ q.length <= p.length /\ (af q).length <= (af p).length /\ (∀ s ∈ q, s.2.length <= 1000) /\ (∀ x y, aR q x y -> aR p x y) /\
  ∀ x y, l + k.1 <= x -> x <= r + k.2.2.1 -> t + k.2.1 <= y -> y <= b + k.2.2.2 -> aR p x y -> aR q x y := by
 obtain ⟨p', h1, h2, h3⟩ := uu p (·.1) pyD (t + k.2.1) (b + k.2.2.2) (fun a => by simp) (by lia) c.2
 have c' : aA p' := ⟨fun q hq => c.1 q (h2.subset hq), c.2.sublist h2⟩
 obtain ⟨part, hpart⟩ := Ae p c hr (l + k.1) (r + k.2.2.1)
 have hl' : p'.length <= p.length := h2.length_le
 have hlim : p'.length <= LIM := bd (by lia)
 have hc : b6 (aM (aj (ag 0) (aj (ag 1) aL))) cz (bg (ad (au 0) (ad (aH bG (ad (au 1) (ad (xOp bU (xOp dIx (ai 2) (xC (.int 0))) (xOp dIx (ai 3) (xC (.int 0)))) (ad (xOp bU (xOp dIx (ai 2) (xC (.int 2))) (xOp dIx (ai 3) (xC (.int 2)))) aq)))) aq))) [.un, .un, .sh (.tup [.int l, .int t, .int r, .int b]), .sh (dQ k)] (p'.map pyD) = some ((p'.map fun q => (q.1, part q)).map pyD) := by
  rw [PC]
  exact a8 pyD (fun q => pyD (q.1, part q)) p' fun q hq => by
   have a := (hpart q (h2.subset hq)).1
   simp [fR, a, atI, ixN]
 have hm := cP (p'.map fun q => (q.1, part q)) (by rw [Ph]; lia)
 have hsub : ∀ q ∈ p', (part q).Sublist q.2 := fun q hq => (hpart q (h2.subset hq)).2.1
 refine ⟨(p'.map fun q => (q.1, part q)).filter ic, ?_, ⟨fun q hq => ?_, ?_⟩, ?_, ?_, fun s hs => ?_, fun x y h => ?_, fun x y x0 x1 y0 y1 h => ?_⟩
 ·have a1 : atI [D.int l, .int t, .int r, .int b] 1 = some (.int t) := rfl
  have a3 : atI [D.int l, .int t, .int r, .int b] 3 = some (.int b) := rfl
  have b1 : atI [D.int k.1, .int k.2.1, .int k.2.2.1, .int k.2.2.2] 1 = some (.int k.2.1) := rfl
  have b3 : atI [D.int k.1, .int k.2.1, .int k.2.2.1, .int k.2.2.2] 3 = some (.int k.2.2.2) := rfl
  generalize hz : (p'.map fun q => (q.1, part q)).map pyD = zs at hc hm
  generalize hz2 : p'.map pyD = ps at h1 hc
  have hps : ps.length <= LIM := by rw [<- hz2, Ph]; exact hlim
  simp [rc, o6, fnO, m5, a1, a3, b1, b3, h1, hps, hc, hm, lI]
 ·obtain ⟨k1, k2⟩ := PR.mp hq
  obtain ⟨z, hz, rfl⟩ := Pp.mp k1
  exact ⟨Ep (c'.1 z hz).1 (hsub z hz), by simpa [ic] using k2⟩
 ·refine RV _ ?_
  rw [Qq]
  exact c'.2
 ·have := QO ic (p'.map fun q => (q.1, part q))
  rw [Ph] at this
  lia
 ·rw [eR]
  have e1 := kJ (f := fun q => (q.1, part q)) p' fun q hq => (hsub q hq).length_le
  have e2 : (af p').length <= (af p).length := by
   unfold af
   rw [RD, RD]
   exact Hu (h2.map _)
  lia
 ·obtain ⟨z, hz, rfl⟩ := Pp.mp (PR.mp hs).1
  have := (hsub z hz).length_le
  have := hr z (h2.subset hz)
  dsimp only
  lia
 ·obtain ⟨q, hq, e, s, hs, k1, k2⟩ := h
  obtain ⟨z, hz, rfl⟩ := Pp.mp (PR.mp hq).1
  exact ⟨z, h2.subset hz, e, s, (hsub z hz).subset hs, k1, k2⟩
 ·obtain ⟨q, hq, rfl, hmm⟩ := h
  have hq' : q ∈ p' := h3 q hq y1 fun b' hb hlt => by lia
  have hmem := (hpart q hq).2.2 x x0 x1 hmm
  refine ⟨(q.1, part q), PR.mpr ⟨Pp.mpr ⟨q, hq', rfl⟩, ?_⟩, rfl, hmem⟩
  unfold ic
  rw [Bool.not_eq_true', RX]
  intro e'
  dsimp only at e'
  rw [e'] at hmem
  exact bz _ hmem
def Ec (p : Pic) (bs : List Blk) (x y : Int) : Prop := ∀ b ∈ bs, Kk (aR p) b x y
theorem i4 (p : Pic) : dEq false (aF p) (.tup []) = some (.bl (decide (p = []))) := by
 cases p with
 | nil => rw [Qw rfl]; exact Bi false (d := .tup []) (by simp [okD, okDs])
 | cons q p =>
  rw [PN (by simp)]
  unfold dEq
  rw [Pa ⟨yR _, by simp [okD, okDs]⟩]
  simp [eqD, eqDs]
theorem HX {p : Pic} {x y : Int} (h : aR p x y) : p ≠ [] := fun e => by rw [e] at h; exact b8 _ _ h
theorem Bp (p : Pic) (c : aA p) (hp : p.length <= 1000) (hr : ∀ q ∈ p, q.2.length <= 1000) (s1 v3 : Sl) (q : Pic) (cq : aA q) (hq : q.length <= p.length) (b : Blk) (hb : BOk b) (hs : (af q).length + dm b * (af p).length <= 10000) (hne : q ≠ []) :
  ∃ q' : Pic, bF [.sh (aF p), s1, .sh (aF q), .sh (dQ b)] = some (.nx [.sh (aF p), s1, .sh (aF q'), .sh (dQ b)]) /\ aA q' /\ q'.length <= p.length /\ (af q').length <= (af q).length + dm b * (af p).length /\ ∀ x y, aR q' x y ↔ aR q x y /\ Kk (aR p) b x y := by
 obtain ⟨l, t, r, bt, h1, h2⟩ := AE q cq hne (by lia)
 obtain ⟨z, z1, z2, z3, z4, z5, z6, z7⟩ := yN p c hp hr l t r bt b
 obtain ⟨n, hn⟩ : ∃ n : Nat, b.2.2.2 - b.2.1 = n := ⟨(b.2.2.2 - b.2.1).toNat, by have := hb.2; lia⟩
 have eh : dm b = 2 * n + 1 := by unfold dm; rw [hn]; simp
 have e1 : (2 * n + 1) * (af z).length <= dm b * (af p).length := by rw [eh]; exact Rb _ z4
 obtain ⟨w, w1, w2, w3, w4, w5⟩ := gm z z2 b hb n hn (by lia) (by lia) z5
 have cm := sg (p := q) (q := w) w2 (by lia) (by lia) (by lia)
 have d0 := i4 q
 rw [PN hne] at d0
 refine ⟨cmP q w, ?_, xY cq w2, ?_, ?_, fun x y => ?_⟩
 ·simp [bF, d0, h1, z1, w1, cm]
 ·have := Du q w
  lia
 ·have := Fw (p := q) (q := w) cq
  lia
 ·rw [CW cq w2, w5]
  constructor
  ·rintro ⟨g1, g2⟩
   exact ⟨g1, fun dx dy hd => z6 _ _ (g2 dx dy hd)⟩
  ·rintro ⟨g1, g2⟩
   obtain ⟨x0, x1, y0, y1⟩ := h2 x y g1
   refine ⟨g1, fun dx dy hd => z7 _ _ ?_ ?_ ?_ ?_ (g2 dx dy hd)⟩
   ·have := hd.1; lia
   ·have := hd.2.1; lia
   ·have := hd.2.2.1; lia
   ·have := hd.2.2.2; lia
theorem my (p : Pic) (c : aA p) (bs : List Blk) (hne : bs ≠ []) (hb : ∀ b ∈ bs, BOk b) (hp : p.length <= 1000) (hr : ∀ q ∈ p, q.2.length <= 1000) (hl : bs.length <= 1000) (hs : bc bs * (af p).length <= 10000) :
  ∃ q : Pic, dY [aF p, .tup (bs.map dQ)] = some (aF q) /\ aA q /\ q.length <= p.length /\ (af q).length <= bc bs * (af p).length /\ ∀ x y, aR q x y ↔ Ec p bs x y := by
 obtain ⟨cs, b0, rfl⟩ : ∃ cs b0, bs = cs ++ [b0] := by
  rcases P7 bs with h | ⟨cs, b0, h⟩
  ·exact absurd h hne
  ·exact ⟨cs, b0, by rw [h, P9]⟩
 have hh : bc (cs ++ [b0]) = bc cs + dm b0 := by rw [cU, jZ]
 rw [hh, Qm] at hs
 obtain ⟨n, hn⟩ : ∃ n : Nat, b0.2.2.2 - b0.2.1 = n := ⟨(b0.2.2.2 - b0.2.1).toNat, by have := (hb b0 (by simp)).2; lia⟩
 have eh : dm b0 = 2 * n + 1 := by unfold dm; rw [hn]; simp
 obtain ⟨q0, w1, w2, w3, w4, w5⟩ := gm p c b0 (hb b0 (by simp)) n hn hp (by rw [<- eh]; lia) hr
 rw [<- eh] at w4
 have ec : gM ((cs ++ [b0]).map dQ) none (some (-1)) = cs.map dQ := by
  rw [tw]
  congr 1
  unfold gM
  have e1 : HT.sIx (cs ++ [b0]).length 0 none = 0 := rfl
  have e2 : HT.sIx (cs ++ [b0]).length (cs ++ [b0]).length (some (-1)) = cs.length := by
   rw [Pj, P8]
   unfold HT.sIx
   simp
   lia
  rw [e1, e2]
  simp
 have at1 : atI ((cs ++ [b0]).map dQ) (-1) = some (dQ b0) := by rw [Qc]; exact kj _ _
 obtain ⟨o, k1, k2⟩ := kg (g := ag 3) (m := bF) dQ (fun pre ρ => ∃ (q : Pic) (v3 : Sl), ρ = [.sh (aF p), .sh (.tup ((cs ++ [b0]).map dQ)), .sh (aF q), v3] /\ aA q /\ q.length <= p.length /\ (af q).length <= (bc pre + dm b0) * (af p).length /\ ∀ x y, aR q x y ↔ Ec p (pre ++ [b0]) x y)
  (fun d => d = .tup [] /\ ∀ x y, ¬ Ec p (cs ++ [b0]) x y) (fun _ => False) cs [.sh (aF p), .sh (.tup ((cs ++ [b0]).map dQ)), .sh (aF q0), .un]
  ⟨q0, _, rfl, w2, w3, by have : bc [] = 0 := rfl; rw [this, QL]; exact w4, fun x y => by rw [w5]; unfold Ec; simp⟩ (by
  rintro pre b post _ e ⟨q, v3, rfl, cq, lq, sq, mq⟩
  have hbm : b ∈ cs := by rw [e]; simp
  have hpre : bc pre + dm b <= bc cs := by
   rw [e, cU]
   have : bc (b :: post) = dm b + bc post := rfl
   lia
  have hmul : (bc pre + dm b0) * (af p).length + dm b * (af p).length <= 10000 := by
   have : (bc pre + dm b0) * (af p).length + dm b * (af p).length = (bc pre + dm b) * (af p).length + dm b0 * (af p).length := by
    rw [Qm, Qm]
    lia
   rw [this]
   have := Qx (af p).length hpre
   lia
  by_cases hq0 : q = []
  ·subst hq0
   refine ⟨_, .rt (.tup []), rfl, ?_, rfl, fun x y h => ?_⟩
   ·have d0 := i4 []
    rw [Qw rfl] at d0
    simp [bF, d0]
   ·refine b8 x y ((mq x y).mpr fun b' hb' => h b' ?_)
    rw [e]
    rcases Pk.mp hb' with h' | h'
    ·simp [h']
    ·simp [Pg.mp h']
  ·obtain ⟨q', t1, t2, t3, t4, t5⟩ := Bp p c hp hr (.sh (.tup ((cs ++ [b0]).map dQ))) (.sh (dQ b)) q cq lq b (hb b (Po _ hbm)) (by lia) hq0
   refine ⟨_, _, rfl, t1, q', _, rfl, t2, t3, ?_, fun x y => ?_⟩
   ·rw [cU, jZ]
    have : (bc pre + dm b + dm b0) * (af p).length = (bc pre + dm b0) * (af p).length + dm b * (af p).length := by
     rw [Qm, Qm, Qm]
     lia
    lia
   ·rw [t5, mq]
    unfold Ec
    constructor
    ·rintro ⟨g1, g2⟩ b' hb'
     rcases Pk.mp hb' with h' | h'
     ·rcases Pk.mp h' with h' | h'
      ·exact g1 b' (Po _ h')
      ·rw [Pg.mp h']; exact g2
     ·exact g1 b' (Pr _ h')
    ·intro g
     refine ⟨fun b' hb' => g b' ?_, g b (by simp)⟩
     rcases Pk.mp hb' with h' | h'
     ·simp [h']
     ·simp [Pg.mp h'])
 have hlim : (cs ++ [b0]).length <= LIM := bd (by lia)
 cases o with
 | nx ρ' =>
  rcases k2 with ⟨q, v3, rfl, cq, lq, sq, mq⟩ | h
  ·refine ⟨q, ?_, cq, lq, by rw [hh]; exact sq, mq⟩
   generalize (cs ++ [b0]).map dQ = Bs at *
   simp [dY, dE, fnO, cS, at1, w1, dSl, ec, lI, k1]
  ·exact h.elim
 | rt d =>
  obtain ⟨rfl, hno⟩ := k2
  refine ⟨[], ?_, gq, PY _, PY _, fun x y => ⟨fun h => (b8 _ _ h).elim, fun h => (hno x y h).elim⟩⟩
  generalize (cs ++ [b0]).map dQ = Bs at *
  simp [dY, dE, fnO, cS, at1, w1, dSl, ec, lI, k1]
 | ct _ => exact k2.elim
 | bk _ => exact k2.elim
 | ro _ => exact k2.elim
theorem FL (p : Pic) (bs : List Blk) (x y : Int) : Ec p bs x y ↔ ∀ u v, Fp bs u v -> aR p (x + u) (y + v) := by
 constructor
 ·rintro h u v ⟨b, hb, hm⟩
  exact h b hb u v hm
 ·intro h b hb u v hm
  exact h u v ⟨b, hb, hm⟩
def BR (p : Pic) (ps : List (List Blk)) (x y : Int) : Prop := ∀ u v, Off ps u v -> aR p (x + u) (y + v)
theorem Ap (ps : List (List Blk)) (bs : List Blk) (x y : Int) : Off (ps ++ [bs]) x y ↔ ∃ u v, Off ps u v /\ Fp bs (x - u) (y - v) := by
 induction ps generalizing x y with
 | nil =>
  constructor
  ·rintro ⟨u, v, h1, h2, h3⟩
   exact ⟨0, 0, ⟨rfl, rfl⟩, by rwa [show x - 0 = u by lia, show y - 0 = v by lia]⟩
  ·rintro ⟨u, v, ⟨rfl, rfl⟩, h⟩
   exact ⟨x - 0, y - 0, h, by lia, by lia⟩
 | cons a ps ih =>
  constructor
  ·rintro ⟨u, v, h1, h2⟩
   obtain ⟨u', v', h3, h4⟩ := (ih _ _).mp h2
   exact ⟨u + u', v + v', ⟨u, v, h1, by rwa [show u + u' - u = u' by lia, show v + v' - v = v' by lia]⟩, by rwa [show x - (u + u') = x - u - u' by lia, show y - (v + v') = y - v - v' by lia]⟩
  ·rintro ⟨u, v, ⟨u', v', h1, h3⟩, h2⟩
   exact ⟨u', v', h1, (ih _ _).mpr ⟨u - u', v - v', h3, by rwa [show x - u' - (u - u') = x - u by lia, show y - v' - (v - v') = y - v by lia]⟩⟩
def CQ (ps : List (List Blk)) : Prop := ∀ bs ∈ ps, bs.length <= 1000
theorem pM (N : Str) (hN : NS.contains N = true) (ps : List (List Blk)) (hf : FOk ps) (hlo : CQ ps) (p : Pic) (c : aA p) (hp : p.length <= 1000) (hs : bu ps * (af p).length <= 1000) : ∃ q : Pic, iV [aY N ps, aF p] = some (aF q) /\ aA q /\ q.length <= p.length /\ (af q).length <= bu ps * (af p).length /\ ∀ x y, aR q x y ↔ BR p ps x y := by
 obtain ⟨ρ', k1, q, v2, rfl, b1, b0, b2, b3⟩ := bw (g := ag 2) (m := dh) wR (fun pre ρ => ∃ (q : Pic) (v2 : Sl), ρ = [.sh (aY N ps), .sh (aF q), v2] /\ aA q /\ q.length <= p.length /\ (af q).length <= bu pre * (af p).length /\ ∀ x y, aR q x y ↔ BR p pre x y) ps [.sh (aY N ps), .sh (aF p), .un] ⟨p, _, rfl, c, Pi _, by simp [bu], fun x y => ⟨fun h u v ⟨hu, hv⟩ => by subst hu hv; simpa using h, fun h => by simpa using h 0 0 ⟨rfl, rfl⟩⟩⟩ (by
  rintro pre bs post _ e ⟨q, v2, rfl, cq, lq, l1, l2⟩
  have hbs := hf bs (by rw [e]; simp)
  have hpost : FOk post := fun x hx => hf x (by rw [e]; simp [hx])
  have hp1 := mU hpost
  have ep : bu (pre ++ [bs]) = bu pre * bc bs := by rw [ij]; simp [bu]
  have hp2 : bu (pre ++ [bs]) * (af p).length <= bu ps * (af p).length := by
   have e' : ps = (pre ++ [bs]) ++ post := by rw [e]; simp
   rw [e', ij (pre ++ [bs]) post]
   exact Qx _ (Nat.le_mul_of_pos_right _ hp1)
  have hp3 : bc bs * (af q).length <= bu (pre ++ [bs]) * (af p).length := by
   rw [ep, Nat.mul_comm (bu pre) (bc bs), Nat.mul_assoc]
   exact Rb _ l1
  have hh := wG hbs.1
  have hq1 : (af q).length <= bc bs * (af q).length := RE _ hh
  obtain ⟨q', c1, c2, c3, c4, c5⟩ := my q cq bs hbs.1 hbs.2 (by lia) (fun z hz => by have := cW hz; lia) (hlo bs (by rw [e]; simp)) (by lia)
  refine ⟨_, [.sh (aY N ps), .sh (aF q'), .sh (wR bs)], rfl, .inl ?_, q', _, rfl, c2, by lia, by lia, fun x y => ?_⟩
  ·simp [dh, c1]
  ·rw [c5, FL]
   unfold BR
   constructor
   ·intro h u v ho
    obtain ⟨u', v', h1, h2⟩ := (Ap pre bs u v).mp ho
    have := (l2 _ _).mp (h _ _ h2) u' v' h1
    rwa [show x + (u - u') + u' = x + u by lia, show y + (v - v') + v' = y + v by lia] at this
   ·intro h u v hu
    rw [l2]
    intro u' v' h1
    have := h (u + u') (v + v') ((Ap pre bs _ _).mpr ⟨u', v', h1, by rwa [show u + u' - u' = u by lia, show v + v' - v' = v by lia]⟩)
    rwa [show x + (u + u') = x + u + u' by lia, show y + (v + v') = y + v + v' by lia] at this)
 refine ⟨q, ?_, b1, b0, b2, b3⟩
 have ef : zc NS "parts" (au 0) [.sh (aY N ps), .sh (aF p), .un] = some (oo ps) := by
  show (if NS.contains N then Ah ["parts"] [oo ps] "parts" else none) = _
  rw [Pa hN]
  rfl
 have ex : eF [.sh (aY N ps), .sh (aF p), .un] = some (.rt (aF q)) := by
  unfold eF
  have e1 : fA (xIt (zc NS "parts" (au 0))) (ag 2) dh [.sh (aY N ps), .sh (aF p), .un] = some (.nx [.sh (aY N ps), .sh (aF q), v2]) := by
   unfold fA xIt
   rw [ef]
   exact k1
  rw [kv e1]
  rfl
 exact FA (n := 3) (ds := [aY N ps, aF p]) ex
def abT (t : Tri) : Tri := (-t.1, -t.2.2, -t.2.1)
def abP (p : Pic) : Pic := aZ ((af p).map abT)
theorem jC (p : Pic) (h : (af p).length < 30000) : eD [aF p] = some (aF (abP p)) := by
 have h1 := b7 p (by lia)
 have hl : (af p).length <= LIM := bd (by lia)
 have hc : b6 (aM (aj (ag 0) (aj (ag 1) (aj (ag 2) aL)))) cz (bg (ad (xUn d9 (ai 0)) (ad (xUn d9 (ai 2)) (ad (xUn d9 (ai 1)) aq)))) [.un, .un, .un] ((af p).map av) = some ((af p).map fun t => av (abT t)) := a8 av _ _ fun t _ => by simp [fR, abT]
 have hm := fj ((af p).map abT) (by rw [Ph]; exact h)
 rw [PC] at hm
 have e : (av ∘ abT) = fun t => av (abT t) := rfl
 rw [e] at hm
 simp [eD, gQ, fnO, fO, h1, hl, hc, hm, abP]
theorem HY (ts : List Tri) (x y : Int) : gk (ts.map abT) x y ↔ gk ts (-x) (-y) := by
 constructor
 ·rintro ⟨t, ht, h1, h2, h3⟩
  obtain ⟨s, hs, rfl⟩ := Pp.mp ht
  dsimp only [abT] at h1 h2 h3
  exact ⟨s, hs, by lia, by lia, by lia⟩
 ·rintro ⟨s, hs, h1, h2, h3⟩
  exact ⟨_, Pp.mpr ⟨s, hs, rfl⟩, by dsimp only [abT]; lia, by dsimp only [abT]; lia, by dsimp only [abT]; lia⟩
theorem yb (p : Pic) : aA (abP p) := (bR _).1
theorem yH (p : Pic) (x y : Int) : aR (abP p) x y ↔ aR p (-x) (-y) := by unfold abP; rw [(bR _).2, HY, bS]
theorem G3 (p : Pic) : (af (abP p)).length <= (af p).length := by
 have := eS ((af p).map abT)
 rwa [Ph] at this
theorem sr (l : List Int) : (fm l).length <= l.length := by
 match l with
 | [] => exact PY _
 | [_] => exact PY _
 | a :: b :: l =>
  have := sr l
  rw [fm, Pu, Pu, Pu]
  lia
theorem CL (r t : R) : (iH r t).length <= 2 * (r.length + t.length) := by
 unfold iH
 have h1 := rA (fm (gJ (chg (r ++ t))))
 have h2 := sr (gJ (chg (r ++ t)))
 have h3 := (fk (chg (r ++ t))).length_eq
 have h4 := yr (r ++ t)
 rw [Pj] at h4
 lia
theorem Go (r t : R) : (jL r t).length <= 4 * r.length + 2 * t.length := by
 unfold jL
 have h1 := CL r (dM r t)
 have h2 := pN _ r t rfl
 lia
theorem JA {p q : Pic} (cp : aA p) : (af (leP p q)).length <= 4 * (af p).length + 2 * (af q).length := by
 have h1 := uj q p cp.2
 have key : ∀ p : Pic, (af (p.map fun s => (s.1, jL s.2 (bA q s.1)))).length <= 4 * (af p).length + 2 * (p.map fun s => (bA q s.1).length).sum := by
  intro p
  induction p with
  | nil => simp [af]
  | cons s p ih =>
   have := Go s.2 (bA q s.1)
   rw [Pt, bf, bf, Pj, Pj, Ph, Ph, Pt, Qr]
   dsimp only
   lia
 unfold leP pJ
 rw [eR]
 have := key p
 lia
theorem yC {p q : Pic} (cp : aA p) (cq : aA q) (h1 : p.length <= 1000) (h2 : q.length <= 1000) (h : 2 * (af p).length + (af q).length < 10000) : ∃ b : Bool, q9 [aF p, aF q] = some (.bl b) /\ (b = true ↔ ∀ x y, aR p x y -> aR q x y) := by
 have hl := wM (p := p) (q := q) cq (by lia) (by lia) h
 refine ⟨decide (leP p q = []), ?_, by rw [QU]; exact Ad cp cq⟩
 have e := i4 (leP p q)
 simp [q9, oP, fnO, m6, hl, e]
theorem y6 {N : Str} (hN : NS.contains N = true) {ps : List (List Blk)} {m : Str} {f : List D -> Option D} {i : Nat} {as : XA} {ρ : M.Env} {ds : List D} (hm : (["parts"] : List Str).contains m = false) (h0 : ρ[i]? = some (.sh (aY N ps))) (ha : as ρ = some ds) : ja NS m f (au i) as ρ = f (aY N ps :: ds) := by
 unfold ja au
 rw [h0, ha]
 show (if NS.contains N && !(["parts"] : List Str).contains m then f (aY N ps :: ds) else none) = _
 rw [hN, hm]
 rfl
theorem vZ (N : Str) (hN : NS.contains N = true) (ps : List (List Blk)) (hf : FOk ps) (hs : bu ps <= 1000) (p : Pic) (c : aA p) (h1 : p.length <= 1000) (h2 : (af p).length <= 1000) (x y : Int) : ∃ b : Bool, oy [aF p, aY N ps, .int x, .int y] = some (.bl b) /\ (b = true ↔ BR p ps x y) := by
 obtain ⟨q, a1, a2, a3, a4⟩ := sT N hN ps hf (by lia)
 have lq := tI a2
 have mv := nW q x y (by lia) fun z hz => by have := cW hz; lia
 have cmv := xQ a2 x y
 have lmv : (mvP q x y).length = q.length := by unfold mvP; rw [Ph]
 have smv := BZ q x y
 obtain ⟨b, b1, b2⟩ := yC (p := mvP q x y) (q := p) cmv c (by lia) h1 (by lia)
 refine ⟨b, ?_, b2.trans ⟨fun h u v ho => ?_, fun h u v hm => ?_⟩⟩
 ·have em : ja NS "cells" k7 (au 1) aq [.sh (aF p), .sh (aY N ps), .sh (.int x), .sh (.int y)] = some (aF q) := (y6 hN (by decide) rfl rfl).trans a1
  simp [-ja, oy, l8, fnO, kL, em, mv, b1]
 ·refine h _ _ ?_
  rw [tL, a4, show x + u - x = u by lia, show y + v - y = v by lia]
  exact ho
 ·rw [tL, a4] at hm
  have := h _ _ hm
  rwa [show x + (u - x) = u by lia, show y + (v - y) = v by lia] at this
def Met (p : Pic) (ps : List (List Blk)) (x y : Int) : Prop := ∃ u v, Off ps u v /\ aR p (x + u) (y + v)
theorem FP (N : Str) (hN : NS.contains N = true) (ps : List (List Blk)) (hf : FOk ps) (p : Pic) (hs : bu ps * (af p).length <= 1000) : ∃ q : Pic, Gr [aF p, aY N ps] = some (aF q) /\ aA q /\ (af q).length <= bu ps * (af p).length /\ ∀ x y, aR q x y ↔ Met p ps x y := by
 have hp := mU hf
 have h0 : (af p).length <= bu ps * (af p).length := RE _ hp
 have t1 := jC p (by lia)
 have s1 := G3 p
 have e1 : bu ps * (af (abP p)).length <= bu ps * (af p).length := Rb _ s1
 obtain ⟨g, g1, g2, g3, g4⟩ := jx N hN ps hf (abP p) (yb p) (by lia)
 have t2 := jC g (by lia)
 have s2 := G3 g
 refine ⟨abP g, ?_, yb g, by lia, fun x y => ?_⟩
 ·have em : ja NS "greater" dg (au 1) (ad (aH eD (ad (au 0) aq)) aq) [.sh (aF p), .sh (aY N ps)] = some (aF g) := (y6 hN (by decide) rfl (by simp [t1])).trans g1
  simp [-ja, Gr, CJ, fnO, C5, em, t2]
 ·rw [yH, g4]
  constructor
  ·rintro ⟨u, v, h1, h2⟩
   rw [yH] at h2
   exact ⟨u, v, h1, by rwa [show -(-x - u) = x + u by lia, show -(-y - v) = y + v by lia] at h2⟩
  ·rintro ⟨u, v, h1, h2⟩
   refine ⟨u, v, h1, ?_⟩
   rw [yH, show -(-x - u) = x + u by lia, show -(-y - v) = y + v by lia]
   exact h2
theorem mm (N M : Str) (hN : NS.contains N = true) (hM : NS.contains M = true) (ps qs : List (List Blk)) (hf : FOk ps) (hg : FOk qs) (hlo : CQ ps) (p : Pic) (c : aA p) (hp : p.length <= 1000) (hs : bu ps * (af p).length <= 1000) (ht : bu qs * (af p).length <= 1000) :
  ∃ q : Pic, ga [aF p, aY N ps, aY M qs] = some (aF q) /\ aA q /\ (af q).length <= 10000 /\ ∀ x y, aR q x y ↔ BR p ps x y /\ ¬ Met p qs x y := by
 obtain ⟨a, a1, a2, a3, a4, a5⟩ := pM N hN ps hf hlo p c hp hs
 obtain ⟨b, b1, b2, b3, b4⟩ := FP M hM qs hg p ht
 have lb := tI b2
 have hl := wM (p := a) (q := b) b2 (by lia) (by lia) (by lia)
 refine ⟨leP a b, ?_, yc a2 b2, ?_, fun x y => by rw [yB a2 b2, a5, b4]⟩
 ·have em : ja NS "smaller" iV (au 1) (ad (au 0) aq) [.sh (aF p), .sh (aY N ps), .sh (aY M qs)] = some (aF a) := (y6 hN (by decide) rfl rfl).trans a1
  simp [-ja, ga, qG, fnO, pW, em, b1, hl]
 ·have := JA (p := a) (q := b) a2
  lia
theorem Aq {q : Pic} (c : aA q) (h : ∀ x y, ¬ aR q x y) : q = [] := tu c gq fun x y => ⟨fun k => (h x y k).elim, fun k => (b8 _ _ k).elim⟩
theorem qM (ns : List Int) (k : Nat) : ∃ v : Int, dD [.scr (ns.map D.int), .int (k : Int)] = some (.int v) := by
 by_cases h : k < ns.length
 ·have h' : (k : Int) < ns.length := by lia
  have ac : atI (ns.map D.int) (k : Int) = some (.int ns[k]) := gR (by rw [PD, Qf h]; rfl)
  exact ⟨ns[k], by simp [dD, jy, fnO, iW, h', ac]⟩
 ·have h' : ¬ (k : Int) < ns.length := by lia
  exact ⟨0, by simp [dD, jy, fnO, iW, h']⟩
theorem bK (p : Pic) (h : (af p).length <= 20000) : bO [aF p] = some (.lst ((af p).map av)) := by
 obtain ⟨ρ', k1, v2, v3, v4, v5, rfl⟩ := bw (g := aM (aj (ag 2) (aj (ag 3) aL))) (m := gh) pyD (fun pre ρ => ∃ v2 v3 v4 v5, ρ = [.sh (aF p), owl ((af pre).map av), v2, v3, v4, v5]) p [.sh (aF p), .ow (.lst []), .un, .un, .un, .un] ⟨_, _, _, _, rfl⟩ (by
  rintro pre q post _ e ⟨v2, v3, v4, v5, rfl⟩
  have hlen : (af pre).length + q.2.length <= 20000 := by
   rw [e, ik, bf, Pj, Pj, Ph] at h
   lia
  obtain ⟨ρ2, k2, w4, w5, rfl⟩ := bw (g := aM (aj (ag 4) (aj (ag 5) aL))) (m := gf) prD (fun pr ρ => ∃ v4 v5, ρ = [.sh (aF p), owl ((af pre ++ pr.map fun s => (q.1, s)).map av), .sh (.int q.1), .sh (ci q.2), v4, v5]) q.2 [.sh (aF p), owl ((af pre).map av), .sh (.int q.1), .sh (ci q.2), v4, v5] ⟨v4, v5, by simp⟩ (by
   rintro pr s po _ e2 ⟨v4, v5, rfl⟩
   have hpr : pr.length < q.2.length := by rw [e2]; simp
   have hl : (af pre ++ pr.map fun s => (q.1, s)).length < LIM := f9 (by rw [Pj, Ph]; lia)
   refine ⟨_, [.sh (aF p), owl ((af pre ++ (pr ++ [s]).map fun s => (q.1, s)).map av), .sh (.int q.1), .sh (ci q.2), .sh (.int s.1), .sh (.int s.2)], rfl, .inl ?_, _, _, rfl⟩
   have el : (af pre ++ (pr ++ [s]).map fun s => (q.1, s)).map av = (af pre ++ pr.map fun s => (q.1, s)).map av ++ [av (q.1, s)] := by simp
   rw [el]
   have hl' : ((af pre ++ pr.map fun s => (q.1, s)).map av).length < LIM := by rw [Ph]; exact hl
   generalize (af pre ++ pr.map fun s => (q.1, s)).map av = Z at hl'
   simp [gf, hl'])
  have es : af (pre ++ [q]) = af pre ++ q.2.map fun s => (q.1, s) := by rw [ik, bf]; simp [af]
  refine ⟨_, [.sh (aF p), owl ((af (pre ++ [q])).map av), .sh (.int q.1), .sh (ci q.2), w4, w5], rfl, .inl ?_, _, _, _, _, rfl⟩
  rw [es]
  simp only [gh, fA, xIt, au, RQ, List.getElem?_cons_zero, Option.bind_some, lI]
  exact k2)
 simp [bO, jN, fnO, hJ, k1]
def One (ts : List Tri) (c : Tri) (x y : Int) : Prop := ∃ t ∈ ts, t.1 = y + c.1 /\ t.2.1 <= x + c.2.1 /\ x + c.2.2 <= t.2.2
instance (ts : List Tri) (c : Tri) (x y : Int) : Decidable (One ts c x y) := by unfold One; infer_instance
def lr (ts cs : List Tri) (x y : Int) : Prop := ∀ c ∈ cs, One ts c x y
def kO (ts cs : List Tri) (x y : Int) : Prop := ∀ c ∈ cs, ∀ t ∈ ts, ¬ (t.1 = y + c.1 /\ t.2.1 <= x + c.2.2 /\ x + c.2.1 <= t.2.2)
instance (ts cs : List Tri) (x y : Int) : Decidable (lr ts cs x y) := by unfold lr; infer_instance
instance (ts cs : List Tri) (x y : Int) : Decidable (kO ts cs x y) := by unfold kO; infer_instance
theorem mH (ts cs : List Tri) (x y : Int) : gr [.lst (ts.map av), .lst (cs.map av), .int x, .int y] = some (.bl (decide (lr ts cs x y))) := by
 obtain ⟨o, k1, k2⟩ := kg (g := aM (aj (ag 4) (aj (ag 5) (aj (ag 6) aL)))) (m := gN) av (fun pre ρ => (∃ v4 v5 v6 v7 v8 v9 v10, ρ = [.sh (.lst (ts.map av)), .sh (.lst (cs.map av)), .sh (.int x), .sh (.int y), v4, v5, v6, v7, v8, v9, v10]) /\ lr ts pre x y)
  (fun d => d = .bl false /\ ¬ lr ts cs x y) (fun _ => False) cs [.sh (.lst (ts.map av)), .sh (.lst (cs.map av)), .sh (.int x), .sh (.int y), .un, .un, .un, .un, .un, .un, .un]
  ⟨⟨_, _, _, _, _, _, _, rfl⟩, fun c hc => by cases hc⟩ (by
  rintro pre c post _ e ⟨⟨v4, v5, v6, v7, v8, v9, v10, rfl⟩, hpre⟩
  obtain ⟨ρ2, j1, w8, w9, w10, rfl⟩ := bw (g := aM (aj (ag 8) (aj (ag 9) (aj (ag 10) aL)))) (m := dr) av (fun pr ρ => ∃ v8 v9 v10, ρ = [.sh (.lst (ts.map av)), .sh (.lst (cs.map av)), .sh (.int x), .sh (.int y), .sh (.int c.1), .sh (.int c.2.1), .sh (.int c.2.2), .sh (.bl (decide (One pr c x y))), v8, v9, v10]) ts [.sh (.lst (ts.map av)), .sh (.lst (cs.map av)), .sh (.int x), .sh (.int y), .sh (.int c.1), .sh (.int c.2.1), .sh (.int c.2.2), .sh (.bl false), v8, v9, v10] ⟨v8, v9, v10, by rw [PN (fun ⟨_, h, _⟩ => by cases h)]⟩ (by
   rintro pr t po _ e2 ⟨v8, v9, v10, rfl⟩
   refine ⟨_, [.sh (.lst (ts.map av)), .sh (.lst (cs.map av)), .sh (.int x), .sh (.int y), .sh (.int c.1), .sh (.int c.2.1), .sh (.int c.2.2), .sh (.bl (decide (One (pr ++ [t]) c x y))), .sh (.int t.1), .sh (.int t.2.1), .sh (.int t.2.2)], rfl, .inl ?_, _, _, _, rfl⟩
   by_cases h : t.1 = y + c.1 /\ t.2.1 <= x + c.2.1 /\ x + c.2.2 <= t.2.2
   ·have ed : (decide (One (pr ++ [t]) c x y)) = true := Qw ⟨t, by simp, h⟩
    rw [ed]
    generalize (decide (One pr c x y)) = bb
    obtain ⟨h1, h2, h3⟩ := h
    simp [dr, h1, h2, h3]
   ·have ed : (decide (One (pr ++ [t]) c x y)) = decide (One pr c x y) := by
     refine decide_eq_decide.mpr ⟨?_, ?_⟩
     ·rintro ⟨s, hs, k⟩
      rcases Pk.mp hs with hs | hs
      ·exact ⟨s, hs, k⟩
      ·rw [Pg.mp hs] at k; exact absurd k h
     ·rintro ⟨s, hs, k⟩
      exact ⟨s, Po _ hs, k⟩
    rw [ed]
    generalize (decide (One pr c x y)) = bb
    by_cases h1 : t.1 = y + c.1
    ·by_cases h2 : t.2.1 <= x + c.2.1
     ·have h3 : ¬ x + c.2.2 <= t.2.2 := fun k => h ⟨h1, h2, k⟩
      simp [dr, h1, h2, h3]
     ·simp [dr, h1, h2]
    ·simp [dr, h1])
  have j1' : fA (xIt (au 0)) (aM (aj (ag 8) (aj (ag 9) (aj (ag 10) aL)))) (dr) [.sh (.lst (ts.map av)), .sh (.lst (cs.map av)), .sh (.int x), .sh (.int y), .sh (.int c.1), .sh (.int c.2.1), .sh (.int c.2.2), .sh (.bl false), v8, v9, v10] = _ := j1
  by_cases h : One ts c x y
  ·rw [Qw h] at j1'
   refine ⟨_, .nx [.sh (.lst (ts.map av)), .sh (.lst (cs.map av)), .sh (.int x), .sh (.int y), .sh (.int c.1), .sh (.int c.2.1), .sh (.int c.2.2), .sh (.bl true), w8, w9, w10], rfl, ?_, ⟨_, _, _, _, _, _, _, rfl⟩, fun z hz => ?_⟩
   ·unfold gN
    rw [kv (ρ' := [.sh (.lst (ts.map av)), .sh (.lst (cs.map av)), .sh (.int x), .sh (.int y), .sh (.int c.1), .sh (.int c.2.1), .sh (.int c.2.2), .sh (.bl false), v8, v9, v10]) (by rfl), kv j1']
    simp
   ·rcases Pk.mp hz with hz | hz
    ·exact hpre z hz
    ·rw [Pg.mp hz]; exact h
  ·rw [PN h] at j1'
   refine ⟨_, .rt (.bl false), rfl, ?_, rfl, fun k => h (k c (by rw [e]; simp))⟩
   unfold gN
   rw [kv (ρ' := [.sh (.lst (ts.map av)), .sh (.lst (cs.map av)), .sh (.int x), .sh (.int y), .sh (.int c.1), .sh (.int c.2.1), .sh (.int c.2.2), .sh (.bl false), v8, v9, v10]) (by rfl), kv j1']
   simp)
 cases o with
 | nx ρ' =>
  rcases k2 with ⟨⟨v4, v5, v6, v7, v8, v9, v10, rfl⟩, h⟩ | h
  ·rw [Qw h]
   simp [gr, kx, fnO, j8, lI, k1]
  ·exact h.elim
 | rt d =>
  obtain ⟨rfl, h⟩ := k2
  rw [PN h]
  simp [gr, kx, fnO, j8, lI, k1]
 | ct _ => exact k2.elim
 | bk _ => exact k2.elim
 | ro _ => exact k2.elim
theorem yV (ts cs : List Tri) (x y : Int) : kH [.lst (ts.map av), .lst (cs.map av), .int x, .int y] = some (.bl (decide (kO ts cs x y))) := by
 obtain ⟨o, k1, k2⟩ := kg (g := aM (aj (ag 4) (aj (ag 5) (aj (ag 6) aL)))) (m := hZ) av (fun pre ρ => (∃ v4 v5 v6 v7 v8 v9, ρ = [.sh (.lst (ts.map av)), .sh (.lst (cs.map av)), .sh (.int x), .sh (.int y), v4, v5, v6, v7, v8, v9]) /\ kO ts pre x y)
  (fun d => d = .bl false /\ ¬ kO ts cs x y) (fun _ => False) cs [.sh (.lst (ts.map av)), .sh (.lst (cs.map av)), .sh (.int x), .sh (.int y), .un, .un, .un, .un, .un, .un]
  ⟨⟨_, _, _, _, _, _, rfl⟩, fun c hc => by cases hc⟩ (by
  rintro pre c post _ e ⟨⟨v4, v5, v6, v7, v8, v9, rfl⟩, hpre⟩
  obtain ⟨o, j1, j2⟩ := kg (g := aM (aj (ag 7) (aj (ag 8) (aj (ag 9) aL)))) (m := dw) av (fun pr ρ => (∃ v7 v8 v9, ρ = [.sh (.lst (ts.map av)), .sh (.lst (cs.map av)), .sh (.int x), .sh (.int y), .sh (.int c.1), .sh (.int c.2.1), .sh (.int c.2.2), v7, v8, v9]) /\ ∀ t ∈ pr, ¬ (t.1 = y + c.1 /\ t.2.1 <= x + c.2.2 /\ x + c.2.1 <= t.2.2)) (fun d => d = .bl false /\ ∃ t ∈ ts, (t.1 = y + c.1 /\ t.2.1 <= x + c.2.2 /\ x + c.2.1 <= t.2.2)) (fun _ => False) ts [.sh (.lst (ts.map av)), .sh (.lst (cs.map av)), .sh (.int x), .sh (.int y), .sh (.int c.1), .sh (.int c.2.1), .sh (.int c.2.2), v7, v8, v9] ⟨⟨_, _, _, rfl⟩, fun t ht => by cases ht⟩ (by
   rintro pr t po _ e2 ⟨⟨v7, v8, v9, rfl⟩, hpr⟩
   by_cases h : t.1 = y + c.1 /\ t.2.1 <= x + c.2.2 /\ x + c.2.1 <= t.2.2
   ·refine ⟨_, .rt (.bl false), rfl, ?_, rfl, t, by rw [e2]; simp, h⟩
    obtain ⟨h1, h2, h3⟩ := h
    simp [dw, h1, h2, h3]
   ·refine ⟨_, .nx [.sh (.lst (ts.map av)), .sh (.lst (cs.map av)), .sh (.int x), .sh (.int y), .sh (.int c.1), .sh (.int c.2.1), .sh (.int c.2.2), .sh (.int t.1), .sh (.int t.2.1), .sh (.int t.2.2)], rfl, ?_, ⟨_, _, _, rfl⟩, fun s hs => ?_⟩
    ·by_cases h1 : t.1 = y + c.1
     ·by_cases h2 : t.2.1 <= x + c.2.2
      ·have h3 : ¬ x + c.2.1 <= t.2.2 := fun k => h ⟨h1, h2, k⟩
       simp [dw, h1, h2, h3]
      ·simp [dw, h1, h2]
     ·simp [dw, h1]
    ·rcases Pk.mp hs with hs | hs
     ·exact hpr s hs
     ·rw [Pg.mp hs]; exact h)
  have j1' : hZ [.sh (.lst (ts.map av)), .sh (.lst (cs.map av)), .sh (.int x), .sh (.int y), .sh (.int c.1), .sh (.int c.2.1), .sh (.int c.2.2), v7, v8, v9] = some o := j1
  cases o with
  | nx ρ' =>
   rcases j2 with ⟨⟨w7, w8, w9, rfl⟩, h⟩ | h
   ·refine ⟨_, _, rfl, j1', ⟨_, _, _, _, _, _, rfl⟩, fun z hz => ?_⟩
    rcases Pk.mp hz with hz | hz
    ·exact hpre z hz
    ·rw [Pg.mp hz]; exact h
   ·exact h.elim
  | rt d =>
   obtain ⟨rfl, t, ht, h⟩ := j2
   exact ⟨_, _, rfl, j1', rfl, fun k => k c (by rw [e]; simp) t ht h⟩
  | ct _ => exact j2.elim
  | bk _ => exact j2.elim
  | ro _ => exact j2.elim)
 cases o with
 | nx ρ' =>
  rcases k2 with ⟨⟨v4, v5, v6, v7, v8, v9, rfl⟩, h⟩ | h
  ·rw [Qw h]
   simp [kH, jt, fnO, i8, lI, k1]
  ·exact h.elim
 | rt d =>
  obtain ⟨rfl, h⟩ := k2
  rw [PN h]
  simp [kH, jt, fnO, i8, lI, k1]
 | ct _ => exact k2.elim
 | bk _ => exact k2.elim
 | ro _ => exact k2.elim
theorem zC (p : Pic) (u v y : Int) : (∃ t ∈ af p, t.1 = y /\ t.2.1 <= u /\ v <= t.2.2) ↔ Kt p u v y := by
 constructor
 ·rintro ⟨t, ht, h1, h2, h3⟩
  obtain ⟨g, hg, hs⟩ := Rq.mp ht
  obtain ⟨z, hz, rfl⟩ := Pp.mp hs
  exact ⟨g, hg, h1, z, hz, h2, h3⟩
 ·rintro ⟨g, hg, h1, z, hz, h2, h3⟩
  exact ⟨(g.1, z), Rq.mpr ⟨g, hg, Pp.mpr ⟨z, hz, rfl⟩⟩, h1, h2, h3⟩
theorem qV {p : Pic} (c : aA p) {cs : List Tri} (hg : ∀ t ∈ cs, t.2.1 <= t.2.2) (x y : Int) : lr (af p) cs x y ↔ ∀ u v, gk cs u v -> aR p (x + u) (y + v) := by
 constructor
 ·rintro h u v ⟨t, ht, rfl, k1, k2⟩
  have := (tZ c (by have := hg t ht; lia)).mp ((zC p _ _ _).mp (h t ht)) (x + u) (by lia) (by lia)
  exact this
 ·intro h t ht
  refine (zC p _ _ _).mpr ((tZ c (by have := hg t ht; lia)).mpr fun z k1 k2 => ?_)
  have := h (z - x) t.1 ⟨t, ht, rfl, by lia, by lia⟩
  rwa [show x + (z - x) = z by lia] at this
theorem CN {p : Pic} (c : aA p) {cs : List Tri} (hg : ∀ t ∈ cs, t.2.1 <= t.2.2) (x y : Int) : kO (af p) cs x y ↔ ¬ ∃ u v, gk cs u v /\ aR p (x + u) (y + v) := by
 constructor
 ·rintro h ⟨u, v, ⟨t, ht, rfl, k1, k2⟩, hm⟩
  obtain ⟨s, hs, e, k3, k4⟩ := (bS p _ _).mpr hm
  exact h t ht s hs ⟨e, by lia, by lia⟩
 ·rintro h t ht s hs ⟨e, k1, k2⟩
  have gt := hg t ht
  have gs := jP c s hs
  by_cases hlt : x + t.2.1 <= s.2.1
  ·exact h ⟨s.2.1 - x, t.1, ⟨t, ht, rfl, by lia, by lia⟩, (bS p _ _).mp ⟨s, hs, e, by lia, by lia⟩⟩
  ·exact h ⟨t.2.1, t.1, ⟨t, ht, rfl, by lia, by lia⟩, (bS p _ _).mp ⟨s, hs, e, by lia, by lia⟩⟩
theorem CT (bs : List Blk) (x y : Int) : Off [bs] x y ↔ Fp bs x y := by
 constructor
 ·rintro ⟨u, v, h1, h2, h3⟩
  rwa [show x = u by lia, show y = v by lia]
 ·intro h
  exact ⟨x, y, h, by lia, by lia⟩
theorem l7 (p : Pic) (c : aA p) (hp : p ≠ []) (h : (af p).length < 30000) : gL [aF p] = some (oo [bi p]) := by
 have hb := (mG p c h).1
 have de := i4 p
 rw [PN hp] at de
 simp [gL, En, de, hb]
structure ShOk (p : Pic) (ps : List (List Blk)) : Prop where
 fok : FOk ps
 lon : CQ ps
 pr : bu ps <= 2 * (af p).length
 off : ∀ x y, Off ps x y ↔ aR p x y
theorem tX (p : Pic) (c : aA p) (hp : p ≠ []) (h : (af p).length <= 400) : ShOk p [bi p] := by
 obtain ⟨_, h2, h3, h4⟩ := mG p c (by lia)
 have hne : bi p ≠ [] := fun e => by
  cases p with
  | nil => exact hp rfl
  | cons q p =>
   obtain ⟨x, hx⟩ := gK (c.1 q Pl).1 (c.1 q Pl).2
   obtain ⟨b, hb, _⟩ := (h4 x q.1).mpr ⟨q, Pl, rfl, hx⟩
   rw [e] at hb
   cases hb
 have hlen : ∀ bs : List Blk, bs.length <= bc bs := fun bs => by
  induction bs with
  | nil => exact Pi _
  | cons b bs ih =>
   have e : bc (b :: bs) = dm b + bc bs := rfl
   rw [e, Pu]
   unfold dm
   lia
 refine ⟨fun bs hbs => ?_, fun bs hbs => ?_, ?_, fun x y => by rw [CT]; exact h4 x y⟩
 ·rw [Pg.mp hbs]; exact ⟨hne, h2⟩
 ·rw [Pg.mp hbs]
  have := hlen (bi p)
  lia
 ·rw [bu, bu, Nat.mul_one]; exact h3
theorem IM (a b : Bool) : dEq true (.bl a) (.bl b) = some (.bl (a != b)) := by
 unfold dEq
 rw [Pa ⟨by simp [okD], by simp [okD]⟩]
 cases a <;> cases b <;> rfl
theorem Gw (p q : Pic) (c : aA p) (cq : aA q) (one other : List Tri) (go : ∀ t ∈ one, t.2.1 <= t.2.2) (gt : ∀ t ∈ other, t.2.1 <= t.2.2) (hq : ∀ x y, aR q x y ↔ (∀ u v, gk one u v -> aR p (x + u) (y + v)) /\ ¬ ∃ u v, gk other u v /\ aR p (x + u) (y + v)) (s0 s3 s4 s7 v10 v11 v12 : Sl) (sx sy x : Int) :
  ∃ w10 w11, eB [s0, .sh (.lst (one.map av)), .sh (.lst (other.map av)), s3, s4, .sh (.lst ((af p).map av)), .sh (.lst ((af q).map av)), s7, .sh (prD (sx, sy)), .sh (.int x), v10, v11, v12] = some (.nx [s0, .sh (.lst (one.map av)), .sh (.lst (other.map av)), s3, s4, .sh (.lst ((af p).map av)), .sh (.lst ((af q).map av)), s7, .sh (prD (sx, sy)), .sh (.int x), w10, w11, v12]) := by
 have a1 := mH (af p) one x sy
 have a2 := yV (af p) other x sy
 have a3 := mH (af q) [(0, 0, 0)] x sy
 have e1 := qV c go x sy
 have e2 := CN c gt x sy
 have e3 := qV cq (cs := [(0, 0, 0)]) (fun t ht => by rw [Pg.mp ht]; exact PB _) x sy
 have e4 : lr (af q) [(0, 0, 0)] x sy ↔ lr (af p) one x sy /\ kO (af p) other x sy := by
  rw [e3, e1, e2, <- hq]
  constructor
  ·intro h
   have := h 0 0 ⟨(0, 0, 0), by simp, rfl, PB _, PB _⟩
   simpa using this
  ·rintro h u v ⟨t, ht, k1, k2, k3⟩
   rw [Pg.mp ht] at k1 k2 k3
   rw [show u = 0 by simp at k2 k3; lia, show v = 0 by simp at k1; lia]
   simpa using h
 have ed : decide (lr (af q) [(0, 0, 0)] x sy) = (decide (lr (af p) one x sy) && decide (kO (af p) other x sy)) := by
  rw [Bool.eq_iff_iff, QU, e4, Qp, QU, QU]
 rw [ed] at a3
 have b1 : atI [D.int sx, .int sy] 1 = some (.int sy) := rfl
 have a3' : gr [.lst ((af q).map av), .lst [.tup [.int 0, .int 0, .int 0]], .int x, .int sy] = _ := a3
 have l3 : (3 : Nat) <= LIM := bd (by decide)
 have l1 : (1 : Nat) <= LIM := bd (by decide)
 generalize decide (lr (af p) one x sy) = A at *
 generalize decide (kO (af p) other x sy) = B at *
 refine ⟨.sh (.bl A), .sh (.bl (A && B)), ?_⟩
 have n1 := IM (A && B) (A && B)
 cases A with
 | true => simp at n1; simp [eB, a1, a2, a3', b1, l3, l1, n1]
 | false => simp at n1; simp [eB, a1, a3', b1, l3, l1, n1]
theorem sQ (p q : Pic) (c : aA p) (cq : aA q) (hp : p.length <= 100) (hn : (af p).length <= 100) (hnq : (af q).length <= 10000) (P1 : Pic) (c1 : aA P1) (hne : P1 ≠ []) (l1 : (af P1).length <= 10) (other : List Tri) (gt : ∀ t ∈ other, t.2.1 <= t.2.2)
  (hq : ∀ x y, aR q x y ↔ (∀ u v, gk (af P1) u v -> aR p (x + u) (y + v)) /\ ¬ ∃ u v, gk other u v /\ aR p (x + u) (y + v)) (ss : R) :
  mR [aF p, .lst ((af P1).map av), .lst (other.map av), aF q, .lst (ss.map prD)] = some (.bl true) := by
 have go := jP c1
 have h1 := bK p (by lia)
 have h2 := bK q (by lia)
 have h3 := cY (af P1) go (by lia)
 rw [m7 c1] at h3
 have h4 := l7 P1 c1 hne (by lia)
 have sh := tX P1 c1 hne (by lia)
 have hns : NS.contains ("Shape" : Str) = true := by decide
 obtain ⟨ρ', k1, v8, v9, v10, v11, v12, rfl⟩ := bw (g := ag 8) (m := ju) prD (fun pre ρ => ∃ v8 v9 v10 v11 v12, ρ = [.sh (aF p), .sh (.lst ((af P1).map av)), .sh (.lst (other.map av)), .sh (aF q), .sh (.lst (ss.map prD)), .sh (.lst ((af p).map av)), .sh (.lst ((af q).map av)), .sh (aY "Shape" [bi P1]), v8, v9, v10, v11, v12]) ss [.sh (aF p), .sh (.lst ((af P1).map av)), .sh (.lst (other.map av)), .sh (aF q), .sh (.lst (ss.map prD)), .sh (.lst ((af p).map av)), .sh (.lst ((af q).map av)), .sh (aY "Shape" [bi P1]), .un, .un, .un, .un, .un] ⟨_, _, _, _, _, rfl⟩ (by
  rintro pre s post _ e ⟨v8, v9, v10, v11, v12, rfl⟩
  obtain ⟨sx, sy⟩ := s
  obtain ⟨ρ2, j1, w9, w10, w11, rfl⟩ := bw (g := ag 9) (m := eB) D.int (fun pr ρ => ∃ v9 v10 v11, ρ = [.sh (aF p), .sh (.lst ((af P1).map av)), .sh (.lst (other.map av)), .sh (aF q), .sh (.lst (ss.map prD)), .sh (.lst ((af p).map av)), .sh (.lst ((af q).map av)), .sh (aY "Shape" [bi P1]), .sh (prD (sx, sy)), v9, v10, v11, v12]) [sx - 1, sx, sx + 1] [.sh (aF p), .sh (.lst ((af P1).map av)), .sh (.lst (other.map av)), .sh (aF q), .sh (.lst (ss.map prD)), .sh (.lst ((af p).map av)), .sh (.lst ((af q).map av)), .sh (aY "Shape" [bi P1]), .sh (prD (sx, sy)), v9, v10, v11, v12] ⟨_, _, _, rfl⟩ (by
   rintro pr x po _ e2 ⟨v9, v10, v11, rfl⟩
   obtain ⟨w10, w11, hx⟩ := Gw p q c cq (af P1) other go gt hq (.sh (aF p)) (.sh (aF q)) (.sh (.lst (ss.map prD))) (.sh (aY "Shape" [bi P1])) v10 v11 v12 sx sy x
   exact ⟨_, _, rfl, .inl hx, _, _, _, rfl⟩)
  obtain ⟨b, b1, b2⟩ := vZ "Shape" hns [bi P1] sh.fok (by have := sh.pr; lia) p c (by lia) (by lia) sx sy
  have a1 := mH (af p) (af P1) sx sy
  have eb : b = decide (lr (af p) (af P1) sx sy) := by
   rw [Bool.eq_iff_iff, b2, QU, qV c go]
   unfold BR
   constructor
   ·intro h u v hm
    exact h u v ((sh.off u v).mpr ((bS P1 u v).mp hm))
   ·intro h u v ho
    exact h u v ((bS P1 u v).mpr ((sh.off u v).mp ho))
  rw [<- eb] at a1
  have f0 : atI [D.int sx, .int sy] 0 = some (.int sx) := rfl
  have f1 : atI [D.int sx, .int sy] 1 = some (.int sy) := rfl
  have l3 : (3 : Nat) <= LIM := bd (by decide)
  have n1 := IM b b
  simp at n1
  refine ⟨_, [.sh (aF p), .sh (.lst ((af P1).map av)), .sh (.lst (other.map av)), .sh (aF q), .sh (.lst (ss.map prD)), .sh (.lst ((af p).map av)), .sh (.lst ((af q).map av)), .sh (aY "Shape" [bi P1]), .sh (prD (sx, sy)), w9, w10, w11, .sh (.bl b)], rfl, .inl ?_, _, _, _, _, _, rfl⟩
  have j1' : fA (xIt (xL (kF (ad (xOp e7 (xOp dIx (ai 8) (xC (.int 0))) (xC (.int 1))) (ad (xOp dIx (ai 8) (xC (.int 0))) (ad (xOp bU (xOp dIx (ai 8) (xC (.int 0))) (xC (.int 1))) aq)))))) (ag 9) (eB) [.sh (aF p), .sh (.lst ((af P1).map av)), .sh (.lst (other.map av)), .sh (aF q), .sh (.lst (ss.map prD)), .sh (.lst ((af p).map av)), .sh (.lst ((af q).map av)), .sh (aY "Shape" [bi P1]), .sh (prD (sx, sy)), v9, v10, v11, v12] = some (.nx [.sh (aF p), .sh (.lst ((af P1).map av)), .sh (.lst (other.map av)), .sh (aF q), .sh (.lst (ss.map prD)), .sh (.lst ((af p).map av)), .sh (.lst ((af q).map av)), .sh (aY "Shape" [bi P1]), .sh (prD (sx, sy)), w9, w10, w11, v12]) := by
   have hl : xIt (xL (kF (ad (xOp e7 (xOp dIx (ai 8) (xC (.int 0))) (xC (.int 1))) (ad (xOp dIx (ai 8) (xC (.int 0))) (ad (xOp bU (xOp dIx (ai 8) (xC (.int 0))) (xC (.int 1))) aq))))) [.sh (aF p), .sh (.lst ((af P1).map av)), .sh (.lst (other.map av)), .sh (aF q), .sh (.lst (ss.map prD)), .sh (.lst ((af p).map av)), .sh (.lst ((af q).map av)), .sh (aY "Shape" [bi P1]), .sh (prD (sx, sy)), v9, v10, v11, v12] = some ([sx - 1, sx, sx + 1].map D.int) := by
    simp [f0, l3, lI]
   unfold fA
   rw [hl]
   exact j1
  unfold ju
  refine (kv j1').trans ?_
  clear j1' j1
  generalize (af P1).map av = O1 at *
  generalize (af p).map av = Sp at *
  generalize (af q).map av = Sq at *
  simp [f0, f1, b1, a1, n1, wa, JS, tyD, FO])
 have hmk : ∀ ρ : M.Env, ρ[1]? = some (.sh (.lst ((af P1).map av))) -> pi "Shape" "parts" gL (ad (aH cu (ad (au 1) aq)) aq) ρ = some (aY "Shape" [bi P1]) := fun ρ hρ => by
  simp [hρ, h3, h4]
 generalize hO1 : (af P1).map av = O1 at *
 generalize hSp : (af p).map av = Sp at *
 generalize hSq : (af q).map av = Sq at *
 generalize hss : ss.map prD = Ss at *
 simp [-pi, mR, oU, fnO, m9, h1, h2, hmk, lI, k1]
theorem AS (c u : Int) (hu : 0 < u) : ∃ t : Tri, j7 [.int c, .int u] = some (av t) /\ t.2.1 <= t.2.2 := by
 obtain ⟨m, hm⟩ : ∃ m : Int, c * 48271 % 2147483647 / 37 = m := ⟨_, rfl⟩
 have h1 : gP (.int (m / 7 % 13 - 6)) (.int u) = some (.int ((m / 7 % 13 - 6) * u)) := bP (.inl ⟨by lia, by lia⟩)
 have h2 : gP (.int (m / 91 % 8)) (.int u) = some (.int (m / 91 % 8 * u)) := bP (.inl ⟨by lia, by lia⟩)
 have h3 : 0 <= m / 91 % 8 * u := Int.mul_nonneg (by lia) (by lia)
 refine ⟨(m % 7 - 3, (m / 7 % 13 - 6) * u + m / 2000 % 2, (m / 7 % 13 - 6) * u + m / 2000 % 2 + m / 91 % 8 * u), ?_, by dsimp only; lia⟩
 have h0 : gP (.int c) (.int 48271) = some (.int (c * 48271)) := bP (.inr (by decide))
 simp [j7, oA, fnO, mY, hm, h1, h2]
theorem Dw (c u : Int) (hu : 0 < u) : ∃ ts : List Tri, qu [.int c, .int u] = some (.lst (ts.map av)) /\ ts ≠ [] /\ ts.length <= 3 /\ ∀ t ∈ ts, t.2.1 <= t.2.2 := by
 obtain ⟨m, hm⟩ : ∃ m : Int, c * 69621 % 2147483629 / 37 = m := ⟨_, rfl⟩
 have h1 : gP (.int (m / 35 % 2)) (.int u) = some (.int (m / 35 % 2 * u)) := bP (.inl ⟨by lia, by lia⟩)
 have h3 : 0 <= m / 35 % 2 * u := Int.mul_nonneg (by lia) (by lia)
 obtain ⟨n, hn⟩ : ∃ n : Nat, m / 105 % 3 = (n : Int) := ⟨(m / 105 % 3).toNat, by lia⟩
 have hn3 : n < 3 := by lia
 obtain ⟨ρ', k1, ts, v4, v5, rfl, e1, e2, e3⟩ := bw (g := ag 4) (m := iR) (fun k : Nat => D.int (k : Int)) (fun pre ρ => ∃ (ts : List Tri) (v4 v5 : Sl), ρ = [.sh (.int c), .sh (.int u), .sh (.int m), owl (ts.map av), v4, v5] /\ ts ≠ [] /\ ts.length = pre.length + 1 /\ ∀ t ∈ ts, t.2.1 <= t.2.2) (List.range n) [.sh (.int c), .sh (.int u), .sh (.int m), owl ([((m % 3 - 1, m / 5 % 5 - 2, m / 5 % 5 - 2 + m / 35 % 2 * u) : Tri)].map av), .un, .un]
  ⟨[(m % 3 - 1, m / 5 % 5 - 2, m / 5 % 5 - 2 + m / 35 % 2 * u)], _, _, rfl, by simp, rfl, fun t ht => by rw [Pg.mp ht]; dsimp only; lia⟩ (by
  rintro pre k post _ e ⟨ts, v4, v5, rfl, t1, t2, t3⟩
  have hk : k < n := List.mem_range.mp (by rw [e]; simp)
  have hpl : pre.length < n := by have := PH List.length e; simp at this; lia
  have d1 : gP (.int 11) (.int (k : Int)) = some (.int (11 * (k : Int))) := bP (.inl (by decide))
  have d2 : gP (.int 7) (.int (k : Int)) = some (.int (7 * (k : Int))) := bP (.inl (by decide))
  have d3 : lJ (.int m) (.int (11 * (k : Int) + 2)) = some (.int (m / (11 * (k : Int) + 2))) := bP ⟨by lia, by lia⟩
  have d4 : lJ (.int m) (.int (7 * (k : Int) + 3)) = some (.int (m / (7 * (k : Int) + 3))) := bP ⟨by lia, by lia⟩
  have d5 : gP (.int (m / (11 * (k : Int) + 2) % 3)) (.int u) = some (.int (m / (11 * (k : Int) + 2) % 3 * u)) := bP (.inl ⟨by lia, by lia⟩)
  have hlim : ts.length < LIM := f9 (by lia)
  refine ⟨_, [.sh (.int c), .sh (.int u), .sh (.int m), owl ((ts ++ [((m / (7 * (k : Int) + 3) % 3 - 1, m / (11 * (k : Int) + 2) % 3 * u, m / (11 * (k : Int) + 2) % 3 * u) : Tri)]).map av), .sh (.int k), .sh (.int (m / (11 * (k : Int) + 2) % 3 * u))], rfl, .inl ?_, _, _, _, rfl, by simp, by simp [t2], fun t ht => ?_⟩
  ·generalize m / (11 * (k : Int) + 2) = m1 at *
   generalize m / (7 * (k : Int) + 3) = m2 at *
   simp [iR, d1, d2, d3, d4, d5, hlim]
  ·rcases Pk.mp ht with ht | ht
   ·exact t3 t ht
   ·rw [Pg.mp ht]; exact PB _)
 rw [RB] at e2
 refine ⟨ts, ?_, e1, by lia, e3⟩
 have hr : La [.int (n : Int)] = some ((List.range n).map fun i : Nat => D.int (i : Int)) := by
  rw [<- GS]
  exact bP ⟨by lia, by lia⟩
 have k1' : gn (ag 4) iR ((List.range n).map fun k : Nat => D.int (k : Int)) [.sh (.int c), .sh (.int u), .sh (.int m), .ow (.lst [.sh (.tup [.int (m % 3 - 1), .int (m / 5 % 5 - 2), .int (m / 5 % 5 - 2 + m / 35 % 2 * u)])]), .un, .un] = _ := k1
 have h0 : gP (.int c) (.int 69621) = some (.int (c * 69621)) := bP (.inr (by decide))
 simp [qu, rG, fnO, pI, hm, h1, hn, hr, k1']
theorem Fj (s0 s1 s9 : Sl) (ss : R) (t c : Tri) (h : ss.length <= 1000) : ∃ (ss' : R) (v9 : Sl), jd [s0, s1, owl (ss.map prD), .sh (.int t.1), .sh (.int t.2.1), .sh (.int t.2.2), .sh (.int c.1), .sh (.int c.2.1), .sh (.int c.2.2), s9] = some (.nx [s0, s1, owl (ss'.map prD), .sh (.int t.1), .sh (.int t.2.1), .sh (.int t.2.2), .sh (.int c.1), .sh (.int c.2.1), .sh (.int c.2.2), v9]) /\ ss'.length = ss.length + 4 := by
 obtain ⟨ρ', k1, ss', v9, rfl, e1⟩ := bw (g := ag 9) (m := kt) D.int (fun pre ρ => ∃ (ss' : R) (v9 : Sl), ρ = [s0, s1, owl (ss'.map prD), .sh (.int t.1), .sh (.int t.2.1), .sh (.int t.2.2), .sh (.int c.1), .sh (.int c.2.1), .sh (.int c.2.2), v9] /\ ss'.length = ss.length + pre.length) [t.2.1 - c.2.1, t.2.1 - c.2.2, t.2.2 - c.2.1, t.2.2 - c.2.2] [s0, s1, owl (ss.map prD), .sh (.int t.1), .sh (.int t.2.1), .sh (.int t.2.2), .sh (.int c.1), .sh (.int c.2.1), .sh (.int c.2.2), s9] ⟨ss, _, rfl, rfl⟩ (by
  rintro pre x post _ e ⟨ss', v9, rfl, e1⟩
  have hpl : pre.length < 4 := by have := PH List.length e; simp at this; lia
  have hlim : ss'.length < LIM := f9 (by lia)
  refine ⟨_, [s0, s1, owl ((ss' ++ [(x, t.1 - c.1)]).map prD), .sh (.int t.1), .sh (.int t.2.1), .sh (.int t.2.2), .sh (.int c.1), .sh (.int c.2.1), .sh (.int c.2.2), .sh (.int x)], rfl, .inl ?_, _, _, rfl, by simp [e1]; lia⟩
  simp [kt, hlim])
 refine ⟨ss', v9, ?_, e1⟩
 have l4 : (4 : Nat) <= LIM := bd (by decide)
 simp [jd, l4, lI]
 exact k1
theorem ve (ts : List Tri) (a b : Tri) (h : ts.length <= 100) : ∃ ss : R, u1 [.lst (ts.map av), .lst [av a, av b]] = some (.lst (ss.map prD)) /\ ss.length = 8 * ts.length := by
 obtain ⟨ρ', k1, ss, v3, v4, v5, v6, v7, v8, v9, rfl, e1⟩ := bw (g := aM (aj (ag 3) (aj (ag 4) (aj (ag 5) aL)))) (m := n6) av (fun pre ρ => ∃ (ss : R) (v3 v4 v5 v6 v7 v8 v9 : Sl), ρ = [.sh (.lst (ts.map av)), .sh (.lst [av a, av b]), owl (ss.map prD), v3, v4, v5, v6, v7, v8, v9] /\ ss.length = 8 * pre.length) ts [.sh (.lst (ts.map av)), .sh (.lst [av a, av b]), .ow (.lst []), .un, .un, .un, .un, .un, .un, .un] ⟨[], _, _, _, _, _, _, _, rfl, rfl⟩ (by
  rintro pre t post _ e ⟨ss, v3, v4, v5, v6, v7, v8, v9, rfl, e1⟩
  have hpl : pre.length < ts.length := by have := PH List.length e; simp at this; lia
  obtain ⟨ρ2, j1, ss', w6, w7, w8, w9, rfl, e2⟩ := bw (g := aM (aj (ag 6) (aj (ag 7) (aj (ag 8) aL)))) (m := jd) av (fun pr ρ => ∃ (ss' : R) (v6 v7 v8 v9 : Sl), ρ = [.sh (.lst (ts.map av)), .sh (.lst [av a, av b]), owl (ss'.map prD), .sh (.int t.1), .sh (.int t.2.1), .sh (.int t.2.2), v6, v7, v8, v9] /\ ss'.length = ss.length + 4 * pr.length) [a, b] [.sh (.lst (ts.map av)), .sh (.lst [av a, av b]), owl (ss.map prD), .sh (.int t.1), .sh (.int t.2.1), .sh (.int t.2.2), v6, v7, v8, v9] ⟨ss, _, _, _, _, rfl, rfl⟩ (by
   rintro pr c po _ e3 ⟨ss', v6, v7, v8, v9, rfl, e2⟩
   have hpr : pr.length < 2 := by have := PH List.length e3; simp at this; lia
   obtain ⟨ss2, u9, q1, q2⟩ := Fj (.sh (.lst (ts.map av))) (.sh (.lst [av a, av b])) v9 ss' t c (by lia)
   exact ⟨_, _, rfl, .inl q1, _, _, _, _, _, rfl, by rw [Pj, P8]; lia⟩)
  refine ⟨_, [.sh (.lst (ts.map av)), .sh (.lst [av a, av b]), owl (ss'.map prD), .sh (.int t.1), .sh (.int t.2.1), .sh (.int t.2.2), w6, w7, w8, w9], rfl, .inl j1, _, _, _, _, _, _, _, _, rfl, ?_⟩
  rw [Pj, P8]
  simp at e2
  lia)
 refine ⟨ss, ?_, e1⟩
 generalize ts.map av = Td at *
 simp [u1, rD, fnO, pP, lI, k1]
theorem I9 (ns : List Int) : (gM ns (some 3) (some 11)).length <= 8 := by
 have h := Iw ns (some 3) (some 11)
 rw [tJ (by decide), tJ (by decide)] at h
 have e1 : (11 : Int).toNat = 11 := rfl
 have e2 : (3 : Int).toNat = 3 := rfl
 rw [e1, e2] at h
 lia
abbrev wj (l u r d : Int) : Blk := (-l, -u, r, d)
theorem EH (l u r d : Int) (h1 : 0 <= l) (h2 : 0 <= u) (h3 : 0 <= r) (h4 : 0 <= d) : yv [.int l, .int u, .int r, .int d] = some (oo [[wj l u r d]]) := by
 have hm : ∃ m : Int, Da [.int l, .int u, .int r, .int d] = some (.int m) /\ 0 <= m := by
  exact ⟨min l (min u (min r d)), rfl, Int.le_min.mpr ⟨h1, Int.le_min.mpr ⟨h2, Int.le_min.mpr ⟨h3, h4⟩⟩⟩⟩
 obtain ⟨m, hm, m0⟩ := hm
 have m1 : ¬ m < 0 := by lia
 simp [yv, En, hm, m1]
theorem DQ (ns : List Int) (u : Int) (hu : 0 < u) : ∃ ts : List Tri, b6 (ag 0) cz (aH j7 (ad (au 0) (ad (au 1) aq))) [.un, .sh (.int u)] (gM (ns.map D.int) (some 3) (some 11)) = some (ts.map av) /\ ts.length <= 8 /\ ∀ t ∈ ts, t.2.1 <= t.2.2 := by
 obtain ⟨T, hT⟩ : ∃ T : Int -> Tri, ∀ c, j7 [.int c, .int u] = some (av (T c)) /\ (T c).2.1 <= (T c).2.2 := ⟨fun c => (AS c u hu).choose, fun c => (AS c u hu).choose_spec⟩
 refine ⟨(gM ns (some 3) (some 11)).map T, ?_, by rw [Ph]; exact I9 ns, fun t ht => ?_⟩
 ·rw [tw, PC]
  exact a8 D.int (av ∘ T) _ fun c _ => by
   have := (hT c).1
   simp [fR, this]
 ·obtain ⟨c, _, rfl⟩ := Pp.mp ht
  exact (hT c).2
theorem JX (u : Int) (hu : 0 < u) : ∃ (ys : List D) (us : List Tri), Dp [.int (-3), .int 4, .int 2] = some ys /\ ys.length <= LIM /\ b6 (ag 0) cz (bg (ad (au 0) (ad (xOp gP (xUn d9 (xC (.int 3))) (ai 1)) (ad (xOp gP (xC (.int 8)) (ai 1)) aq)))) [.un, .sh (.int u)] ys = some (us.map av) /\ us.length <= 4 /\ ∀ t ∈ us, t.2.1 <= t.2.2 := by
 have hr : Dp [.int (-3), .int 4, .int 2] = some (tQ (-3) 2 (Builtin.Range.rangeSize (-3) 4 2).toNat) := bP ⟨by decide, by decide, by decide⟩
 have es : tQ (-3) 2 (Builtin.Range.rangeSize (-3) 4 2).toNat = ([-3, -1, 1, 3] : List Int).map D.int := rfl
 rw [es] at hr
 refine ⟨_, ([-3, -1, 1, 3] : List Int).map fun y => (y, -3 * u, 8 * u), hr, bd (by decide), ?_, by simp, fun t ht => ?_⟩
 ·have d1 : gP (.int (-3)) (.int u) = some (.int (-3 * u)) := bP (.inl (by decide))
  have d2 : gP (.int 8) (.int u) = some (.int (8 * u)) := bP (.inl (by decide))
  rw [PC]
  exact a8 D.int (av ∘ fun y => (y, -3 * u, 8 * u)) _ fun y _ => by simp [fR, d1, d2]
 ·obtain ⟨y, _, rfl⟩ := Pp.mp ht
  dsimp only
  lia
theorem iJ {ts : List Tri} (hne : ts ≠ []) (hg : ∀ t ∈ ts, t.2.1 <= t.2.2) : aZ ts ≠ [] := by
 cases ts with
 | nil => exact absurd rfl hne
 | cons t ts => exact HX (((bR (t :: ts)).2 t.2.1 t.1).mpr ⟨t, Pl, rfl, PB _, hg t Pl⟩)
theorem GB (S : List Tri) (hne : S ≠ []) (k : Int) : ∃ t : Tri, jS (.int k) (.int S.length) = some (.int (k % (S.length : Int))) /\ atI (S.map av) (k % (S.length : Int)) = some (av t) := by
 have hpos : (0 : Int) < S.length := by have := List.length_pos_iff.mpr hne; lia
 have e1 := Int.emod_nonneg k (show (S.length : Int) ≠ 0 by lia)
 have e2 := Int.emod_lt_of_pos k hpos
 obtain ⟨j, hj⟩ : ∃ j : Nat, k % (S.length : Int) = (j : Int) := ⟨(k % (S.length : Int)).toNat, by lia⟩
 have hjl : j < S.length := by lia
 refine ⟨S[j], bP hpos, ?_⟩
 rw [hj]
 exact gR (by rw [PD, Qf hjl]; rfl)
theorem AV {p : Pic} (c : aA p) (h : p ≠ []) : af p ≠ [] := by
 cases p with
 | nil => exact absurd rfl h
 | cons q p =>
  intro e
  rw [bf] at e
  have := (List.append_eq_nil_iff.mp e).1
  exact (c.1 q Pl).2 (List.map_eq_nil_iff.mp this)
theorem EJ (p : Pic) (c : aA p) (hn : (af p).length <= 12) (S1 S2 : List Tri) (n1 : S1 ≠ []) (n2 : S2 ≠ []) (l1 : S1.length <= 3) (l2 : S2.length <= 3) (g1 : ∀ t ∈ S1, t.2.1 <= t.2.2) (g2 : ∀ t ∈ S2, t.2.1 <= t.2.2) :
  ∃ q : Pic, ga [aF p, aY "Shape" [bi (aZ S1)], aY "Shape" [bi (aZ S2)]] = some (aF q) /\ aA q /\ (af q).length <= 10000 /\ (∀ ss : R, mR [aF p, .lst ((af (aZ S1)).map av), .lst ((af (aZ S2)).map av), aF q, .lst (ss.map prD)] = some (.bl true)) /\
   ga [aF p, aY "Box" [[wj 0 0 1 0]], aY "Box" [[wj 0 0 1 0]]] = some (aF []) /\ ga [aF [], aY "Box" [[wj 0 0 1 0]], aY "Shape" [bi (aZ S1)]] = some (aF []) := by
 have hs : NS.contains ("Shape" : Str) = true := by decide
 have hb : NS.contains ("Box" : Str) = true := by decide
 have c1 := (bR S1).1
 have c2 := (bR S2).1
 have e1 := eS S1
 have e2 := eS S2
 have o1 := tX _ c1 (iJ n1 g1) (by lia)
 have o2 := tX _ c2 (iJ n2 g2) (by lia)
 have hp := tI c
 have bx : FOk [[wj 0 0 1 0]] := fun bs hbs => by
  rw [Pg.mp hbs]
  exact ⟨by simp, fun b hb => by rw [Pg.mp hb]; exact ⟨by decide, by decide⟩⟩
 have lx : CQ [[wj 0 0 1 0]] := fun bs hbs => by rw [Pg.mp hbs]; decide
 have px : bu [[wj 0 0 1 0]] = 1 := by decide
 have ox : Off [[wj 0 0 1 0]] 0 0 := (CT _ _ _).mpr ⟨wj 0 0 1 0, by simp, by decide, by decide, by decide, by decide⟩
 have m1 : bu [bi (aZ S1)] * (af p).length <= 6 * 12 := Nat.mul_le_mul (by have := o1.pr; lia) hn
 have m2 : bu [bi (aZ S2)] * (af p).length <= 6 * 12 := Nat.mul_le_mul (by have := o2.pr; lia) hn
 obtain ⟨q, q1, q2, q3, q4⟩ := mm "Shape" "Shape" hs hs _ _ o1.fok o2.fok o1.lon p c (by lia) (by lia) (by lia)
 refine ⟨q, q1, q2, q3, fun ss => sQ p q c q2 (by lia) (by lia) q3 _ c1 (iJ n1 g1) (by lia) (af (aZ S2)) (jP c2) (fun x y => ?_) ss, ?_, ?_⟩
 ·rw [q4]
  unfold BR Met
  constructor
  ·rintro ⟨h1, h2⟩
   refine ⟨fun u v hm => h1 u v ((o1.off u v).mpr ((bS _ u v).mp hm)), fun ⟨u, v, hm, k⟩ => h2 ⟨u, v, (o2.off u v).mpr ((bS _ u v).mp hm), k⟩⟩
  ·rintro ⟨h1, h2⟩
   refine ⟨fun u v hm => h1 u v ((bS _ u v).mpr ((o1.off u v).mp hm)), fun ⟨u, v, hm, k⟩ => h2 ⟨u, v, (bS _ u v).mpr ((o2.off u v).mp hm), k⟩⟩
 ·obtain ⟨z, z1, z2, _, z4⟩ := mm "Box" "Box" hb hb _ _ bx bx lx p c (by lia) (by rw [px]; lia) (by rw [px]; lia)
  rw [z1, Aq z2 fun x y h => ?_]
  obtain ⟨k1, k2⟩ := (z4 x y).mp h
  exact k2 ⟨0, 0, ox, k1 0 0 ox⟩
 ·obtain ⟨z, z1, z2, _, z4⟩ := mm "Box" "Shape" hb hs _ _ bx o1.fok lx [] gq (by simp) (by rw [px]; simp [af]) (by simp [af])
  rw [z1, Aq z2 fun x y h => ?_]
  exact b8 _ _ (((z4 x y).mp h).1 0 0 ox)
theorem G8 (ns : List Int) (h : ns.length <= 63) : F8 [.scr (ns.map D.int)] = some (.bl true) := by
 obtain ⟨P40, hP40⟩ : ∃ P : Int, (10 : Int) ^ (40 : Int).toNat = P := ⟨_, rfl⟩
 have p40 : HE (.int 10) (.int 40) = some (.int P40) := by rw [<- hP40]; exact L6 (by decide)
 have h40 : 0 < P40 := by rw [<- hP40]; decide
 clear hP40
 obtain ⟨f, hf⟩ : ∃ f : Int, dD [.scr (ns.map D.int), .int 0] = some (.int f) := qM ns 0
 obtain ⟨c1, hc1⟩ : ∃ f : Int, dD [.scr (ns.map D.int), .int 1] = some (.int f) := qM ns 1
 obtain ⟨c2, hc2⟩ : ∃ f : Int, dD [.scr (ns.map D.int), .int 2] = some (.int f) := qM ns 2
 obtain ⟨u, hu, eu⟩ : ∃ u : Int, 0 < u /\ atI [D.int 1, .int 1, .int (P40 + 7)] (f % 3) = some (.int u) := by
  have : f % 3 = 0 \/ f % 3 = 1 \/ f % 3 = 2 := by lia
  rcases this with e | e | e <;> rw [e]
  ·exact ⟨1, by lia, rfl⟩
  ·exact ⟨1, by lia, rfl⟩
  ·exact ⟨P40 + 7, by lia, rfl⟩
 obtain ⟨T, hT, lT, gT⟩ := DQ ns u hu
 obtain ⟨ys, us, hy, ly, hU, lU, gU⟩ := JX u hu
 obtain ⟨S1, hS1, n1, l1, g1⟩ := Dw c1 u hu
 obtain ⟨S2, hS2, n2, l2, g2⟩ := Dw c2 u hu
 -- the triples
 obtain ⟨ts, hts, lts, gts⟩ : ∃ ts : List Tri, ts = (if f / 3 % 2 = 1 then T ++ us else T) /\ ts.length <= 12 /\ ∀ t ∈ ts, t.2.1 <= t.2.2 := by
  refine ⟨_, rfl, ?_, ?_⟩
  ·split
   ·rw [Pj]; lia
   ·lia
  ·split
   ·intro t ht
    rcases Pk.mp ht with ht | ht
    ·exact gT t ht
    ·exact gU t ht
   ·exact gT
 have hp := cY ts gts (by lia)
 have hp1 := cY S1 g1 (by lia)
 have hp2 := cY S2 g2 (by lia)
 have cp := (bR ts).1
 have k1 := (bR S1).1
 have k2 := (bR S2).1
 have e0 := eS ts
 have e1 := eS S1
 have e2 := eS S2
 have s0 := bK (aZ ts) (by lia)
 have s1 := bK (aZ S1) (by lia)
 have s2 := bK (aZ S2) (by lia)
 have r1 := cY (af (aZ S1)) (jP k1) (by lia)
 have r2 := cY (af (aZ S2)) (jP k2) (by lia)
 rw [m7 k1] at r1
 rw [m7 k2] at r2
 have i1 := l7 (aZ S1) k1 (iJ n1 g1) (by lia)
 have i2 := l7 (aZ S2) k2 (iJ n2 g2) (by lia)
 have ib := EH 0 0 1 0 (by decide) (by decide) (by decide) (by decide)
 obtain ⟨q, q1, q2, q3, q4, q5, q6⟩ := EJ (aZ ts) cp (by lia) S1 S2 n1 n2 l1 l2 g1 g2
 have sq := bK q (by lia)
 have rq := cY (af q) (jP q2) (by lia)
 rw [m7 q2] at rq
 have dq : dEq true (aF q) (aF q) = some (.bl false) := Bi true (yR q)
 obtain ⟨a, am, aa⟩ := GB (af (aZ S1)) (AV k1 (iJ n1 g1)) (f / 6 % 3)
 obtain ⟨b, bm, ba⟩ := GB (af (aZ S2)) (AV k2 (iJ n2 g2)) (f / 6 % 3)
 obtain ⟨ss, hss, lss⟩ := ve (af (aZ ts)) a b (by lia)
 have cq1 : b6 (aM (aj (ag 0) (aj (ag 1) (aj (ag 2) aL)))) cz (bg (ad (au 1) (ad (au 0) aq))) [.un, .un, .un] ((af q).map av) = some (((af q).map fun t => (t.2.1, t.1)).map prD) := by
  rw [PC]
  exact a8 av (prD ∘ fun t => (t.2.1, t.1)) _ fun t _ => by simp [fR]
 have cq2 : b6 (aM (aj (ag 0) (aj (ag 1) (aj (ag 2) aL)))) cz (bg (ad (au 2) (ad (au 0) aq))) [.un, .un, .un] ((af q).map av) = some (((af q).map fun t => (t.2.2, t.1)).map prD) := by
  rw [PC]
  exact a8 av (prD ∘ fun t => (t.2.2, t.1)) _ fun t _ => by simp [fR]
 have ql := q4 (ss ++ (af q).map (fun t => (t.2.1, t.1)) ++ (af q).map (fun t => (t.2.2, t.1)))
 rw [Qc, Qc, PQ] at ql
 have hA : ((ss.map prD).length + (((af q).map fun t => (t.2.1, t.1)).map prD).length) <= LIM := bd (by rw [Ph, Ph, Ph]; lia)
 have hB : ((ss.map prD ++ ((af q).map fun t => (t.2.1, t.1)).map prD).length + (((af q).map fun t => (t.2.2, t.1)).map prD).length) <= LIM := bd (by rw [Pj, Ph, Ph, Ph, Ph, Ph]; lia)
 have a1 := uR (a := ss.map prD) (b := ((af q).map fun t => (t.2.1, t.1)).map prD)
 rw [Pa hA] at a1
 have a2 := uR (a := ss.map prD ++ ((af q).map fun t => (t.2.1, t.1)).map prD) (b := ((af q).map fun t => (t.2.2, t.1)).map prD)
 rw [Pa hB] at a2
 have hlq : ((af q).map av).length <= LIM := bd (by rw [Ph]; lia)
 have hlc : (gM (ns.map D.int) (some 3) (some 11)).length <= LIM := bd (by rw [tw, Ph]; have := I9 ns; lia)
 have dn : dEq false (aF []) (.tup []) = some (.bl true) := by have := i4 []; rw [Qw rfl] at this; exact this
 have q6' : ga [.tup [], aY "Box" [[wj 0 0 1 0]], aY "Shape" [bi (aZ S1)]] = some (.tup []) := q6
 have dn' : dEq false (.tup []) (.tup []) = some (.bl true) := dn
 have hTU : (T.map av).length + (us.map av).length <= LIM := bd (by rw [Ph, Ph]; lia)
 have aT := uR (a := T.map av) (b := us.map av)
 rw [Pa hTU] at aT
 have L1 : ((af (aZ S1)).map av).length = (af (aZ S1)).length := Ph ..
 have L2' : ((af (aZ S2)).map av).length = (af (aZ S2)).length := Ph ..
 have l3 : (3 : Nat) <= LIM := bd (by decide)
 have l2' : (2 : Nat) <= LIM := bd (by decide)
 have hts' : (if f / 3 % 2 = 1 then T.map av ++ us.map av else T.map av) = ts.map av := by
  rw [hts]
  split
  ·rw [Qc]
  ·rfl
 generalize (af (aZ S1)).length = N1 at *
 generalize (af (aZ S2)).length = N2 at *
 generalize hD1 : (af (aZ S1)).map av = O1 at *
 generalize hD2 : (af (aZ S2)).map av = O2 at *
 generalize hD0 : (af (aZ ts)).map av = O0 at *
 generalize hDq : (af q).map av = Oq at *
 generalize hE1 : ((af q).map fun t => (t.2.1, t.1)).map prD = E1 at *
 generalize hE2 : ((af q).map fun t => (t.2.2, t.1)).map prD = E2 at *
 generalize hEs : ss.map prD = Es at *
 generalize hC : gM (ns.map D.int) (some 3) (some 11) = Cs at *
 generalize hTd : T.map av = Td at *
 generalize hUd : us.map av = Ud at *
 by_cases h3 : f / 3 % 2 = 1
 ·rw [Pa h3] at hts'
  rw [hts'] at aT
  generalize ts.map av = Ts at *
  simp [F8, zd, fnO, Bd, hf, p40, l3, l2', eu, dSl, hC, lI, hlc, hT, h3, hy, ly, hU, aT, hp, hc1, hS1, hp1, s1, hc2, hS2, hp2, s2, r1, r2, i1, i2, q1, sq, rq, dq, s0, L1, L2', am, aa, bm, ba, hss, hlq, cq1, cq2, a1, a2, ql, ib, q5, q6', dn, dn']
 ·rw [Pb h3] at hts'
  rw [hts'] at hT
  generalize ts.map av = Ts at *
  simp [F8, zd, fnO, Bd, hf, p40, l3, l2', eu, dSl, hC, lI, hlc, hT, h3, hp, hc1, hS1, hp1, s1, hc2, hS2, hp2, s2, r1, r2, i1, i2, q1, sq, rq, dq, s0, L1, L2', am, aa, bm, ba, hss, hlq, cq1, cq2, a1, a2, ql, ib, q5, q6', dn, dn']
end P
namespace L2
open PySem PySem.Spec PyProof.Rows M
section
variable {X : Cx} {a b e : Expr} {es : List Expr} {ta tb te : TE} {t : TA} {p pos pos' : Pos} {x : Str}
theorem pgn (i : Nat) (hN : X.N.Nodup) (hi : X.N[i]? = some x := by rfl) (hx : Loc X.env.scope x := by exact .inl rfl) (hf : X.fn x = true \/ X.env.scope.names.lookup x = some .local := by first | exact .inl rfl | exact .inr rfl | assumption) : PG X (.Name x pos) (jm i) := tK hN hi hx hf
theorem pgc {N : List Str} {scope : Scope} {z : CxZ} (i : Nat) (hN : N.Nodup := by decide +kernel) (hi : (cxC X N scope z).N[i]? = some x := by rfl) (hx : Loc (cxC X N scope z).env.scope x := by exact .inl rfl) (hf : (cxC X N scope z).fn x = true \/ (cxC X N scope z).env.scope.names.lookup x = some .local := by first | exact .inl rfl | exact .inr rfl | assumption) : PG (cxC X N scope z) (.Name x pos) (jm i) := tK hN hi hx hf
theorem pst (i : Nat) (hN : X.N.Nodup) (he : PE X e te) (hi : X.N[i]? = some x := by rfl) (hx : Loc X.env.scope x := by exact .inl rfl) (hs : swapsWith e (some (.Name x pos')) pos.line X.env = pure false := by rfl) (hf : X.fn x = true \/ X.env.scope.names.lookup x = some .local := by first | exact .inl rfl | exact .inr rfl | assumption) :
  PS X (.Assign [.Name x pos'] e pos) (zn te (jm i)) := Ca hN hi hx he hs hf
theorem pix (ha : PE X a ta) (hb : PE X b tb) (hs : Dz b := by exact fun _ _ => rfl) : PE X (.Subscript a b pos) (tOp (rIx X.K) ta tb) := Li JY ha hb hs
theorem ptc {op : CmpOp} {r : R2} (ho : OpR X (compareOp op) r) (ha : PE X a ta) (hb : PE X b tb) (hm : behindInMarks op b = false := by exact rm _) : PT X (.Compare a [op] [b] pos) (FV (tOp r ta tb)) := yJ ho ha hb hm
theorem pcl {n k : Nat} {ps : List Str} {sp : Sp} {f : Addr} {fd : FuncData} (F : FnOk X.prog X.w X.K X.mg X.base CX0 n f fd ps sp) (hr : Room k X.A) (hm : X.mg x = some (.ref f)) (hk : W.keepIn X.K (.ref f) = true) (hb : Binds X.K fd ps []) (ha : PA X (e :: es) t) (hn : n <= k := by decide) (hg : Gl X x := by rfl) (hdb : (x == ("__debug__" : Str)) = false := by decide)
  (he : starEach (e :: es) X.env = (false, eval e X.env) :: starEach es X.env := by rfl) (hpl : (backTo pos (starEach es X.env)).any (·.1) = false := by rfl) : PE X (.Call (.Name x p) (e :: es) [] pos) (uT sp [] E0 t) := Dm F (hr.mono hn) hg hm hk hb .nil jU ha hdb he hpl
end
theorem Fun.okk {P : Program} {w : World} {K : W.Frag} {mg : Str -> Option Value} {base : Heap} {x qual : Str} {st : Stmt} {f : Addr} {fd : FuncData} {N ps : List Str} {k n j : Nat} {y : XS} {t : TS} (F : Fun K x qual st f fd) (hs : SS K t y) (hN : N.length = n) (hj : ps.length = j) (S : FnScope N ps (aK st))
  (hb : N.Nodup -> ∀ (cdv : Value) (A : Around) (outer : List PySem.Env) (s : Shared) (H : Hp) (E : XK), Room k (A.deeper (envOfC qual (aK st) s.heap.objs.size f cdv)) ->
   ∃ t', PSs (B9 CX0 P w K mg base N qual (aK st) f cdv A outer s H E).nox (nh st) t' /\ t' = t) : FnOk P w K mg base CX0 (k + 1) f fd ps (b9 K j (fnO n y)) := by
 refine F.ok S (fun vs H Q E h => h.1.trans hj.symm) fun cdv A outer s H vs Q E hr h => ?_
 obtain ⟨t', h1, rfl⟩ := hb S.nd cdv A outer s H E hr
 exact ⟨_, h1, M.MA hs hN h⟩
end L2
namespace Lw
open PySem PySem.W L2 M P
set_option autoImplicit true
def top (i : Nat) : Stmt := PySem.Challenge.pw_shapethin_k37_places_of_forms.main.body.getD i (.Pass ⟨0, 0, 0, 0⟩)
abbrev ux : Stmt := top 5
abbrev nK : Stmt := top 6
abbrev pd : Stmt := top 7
abbrev t7 : Stmt := top 8
abbrev fS : Stmt := top 9
abbrev l5 : Stmt := top 10
abbrev ko : Stmt := top 11
abbrev hG : Stmt := top 13
abbrev iy : Stmt := top 14
abbrev Aa : Stmt := top 15
abbrev f8 : Stmt := top 16
abbrev GY : Stmt := top 17
abbrev vo : Stmt := top 18
abbrev BS : Stmt := top 19
abbrev xZ : Stmt := top 20
abbrev pS : Stmt := top 21
abbrev yU : Stmt := top 22
abbrev iX : Stmt := top 23
abbrev t8 : Stmt := top 25
abbrev A5 : Stmt := top 26
abbrev IV : Stmt := top 27
abbrev mD : Stmt := top 30
abbrev nz : Stmt := top 31
abbrev nR : Stmt := top 32
abbrev fE : Stmt := top 33
abbrev jn : Stmt := top 34
abbrev fw : Stmt := top 35
abbrev jp : Stmt := top 36
abbrev qS : Stmt := top 37
abbrev lf : Stmt := top 38
abbrev u2 : Stmt := top 43
abbrev xx : Stmt := top 44
abbrev oH : Stmt := top 45
abbrev pq : Stmt := top 46
abbrev AB : Stmt := top 47
abbrev wH : Stmt := top 48
abbrev vg : Stmt := top 49
abbrev Au : Stmt := top 50
abbrev wL : Stmt := top 51
abbrev xr : Stmt := top 52
abbrev gX : Stmt := nc (top 39) 0
abbrev qf : Stmt := nc (top 39) 1
abbrev mj : Stmt := nc (top 39) 2
abbrev me : Stmt := nc (top 39) 3
abbrev iC : Stmt := nc (top 40) 0
abbrev gz : Stmt := nc (top 41) 0
structure Txt (K : Frag) (mg : Str -> Option Value) : Prop where
 bool : mg "bool" = none
 isinstance : mg "isinstance" = none
 len : mg "len" = none
 max : mg "max" = none
 min : mg "min" = none
 range : mg "range" = none
 reversed : mg "reversed" = none
 sorted : mg "sorted" = none
 tuple : mg "tuple" = none
 ONE_CELL : ∃ (u : Value) (v : V), mg "ONE_CELL" = some u /\ RelV v u /\ ∀ S, Den K S (.tup [.tup [.int (0), .tup [.tup [.int (0), .int (0)]]]]) v
 cN : qL K NS fun C => Cls K C /\ NoAttr K C "parts"
section
variable {P : Program} {w : World} {K : Frag} {mg : Str -> Option Value} {base : Heap}
local macro_rules | `(tactic| ac_rfl) => `(tactic| exact ⟨rfl, rfl, rfl, by decide +kernel, rfl, by decide +kernel, by decide +kernel⟩)
theorem rH : FnScope ["self", "parts"] ["self", "parts"] (aK gX) := ⟨rfl, rfl, rfl, by decide +kernel, rfl, by decide +kernel, by decide +kernel⟩
theorem sN : FnScope ["self", "left", "up", "right", "down"] ["self", "left", "up", "right", "down"] (aK iC) := ⟨rfl, rfl, rfl, by decide +kernel, rfl, by decide +kernel, by decide +kernel⟩
theorem pV : FnScope ["self", "picture"] ["self", "picture"] (aK gz) := ⟨rfl, rfl, rfl, by decide +kernel, rfl, by decide +kernel, by decide +kernel⟩
theorem rQ (F : Fun K "__init__" "Form.__init__" gX f fd) (T : Txt K mg) : FnOk P w K mg base CX0 1 f fd ["self", "parts"] (jW K) := by
 refine F.ok rH (fun vs H Q E h => h.1) (fun cdv A outer s H vs Q E hr h => ?_)
 exact ⟨_, ar (JI (pv 0) (pv 1) rfl), Fe T.cN h⟩
abbrev yL := Ab 1 "Form" ["self", "parts"] jW
theorem Ch (F : Fun K "_law_all_in" "_law_all_in" wH f fd) (T : Txt K mg) : FnOk P w K mg base CX0 1 f fd ["_law_triples", "_law_cells", "_law_x", "_law_y"] (uU K) := F.okk (N := ["_law_triples", "_law_cells", "_law_x", "_law_y", "_law_dy", "_law_start", "_law_end", "_law_there", "_law_at", "_law_low", "_law_high"]) (CB K).2 rfl rfl (by ac_rfl) fun nd _ _ _ _ _ _ hr => ⟨_, ao (c0 PF rfl (aX (pv 1)) (bn rfl (ap (pgn 4 nd) (ap (pgn 5 nd) (ap (pgn 6 nd) aV)))) (ao (pst 7 nd mJ) (ao (c0 PF rfl (aX (pv 0)) (bn rfl (ap (pgn 8 nd) (ap (pgn 9 nd) (ap (pgn 10 nd) aV)))) (ar (eo (PW.pt (iE (ptc (gi hr.units) (pv 8) (aD aQ (pv 3) (pv 4))) (iE (ptc nV (pv 9) (aD aQ (pv 2) (pv 5))) (jq (ptc nV (aD aQ (pv 2) (pv 6)) (pv 10)))))) (ar (pst 7 nd mJ)) cT))) (ar (eo (tS (je (pv 7) (fun _ => rfl))) (ar (aN mJ)) cT))))) (ar (aN mJ)), rfl⟩
abbrev xz := Ak CX0 1 "_law_all_in" ["_law_triples", "_law_cells", "_law_x", "_law_y"] uU
theorem Bb (F : Fun K "_law_cell_at" "_law_cell_at" u2 f fd) (T : Txt K mg) : FnOk P w K mg base CX0 1 f fd ["_law_script", "_law_k"] (rS K) := F.okk (N := ["_law_script", "_law_k"]) (Bk K).2 rfl rfl (by ac_rfl) fun nd _ _ _ _ _ _ hr => ⟨_, ao (eo (ptc sE (pv 1) (a7 eL (by rfl) T.len kA (ab (pv 0) ah))) (ar (aN (pix (pv 0) (pv 1)))) cT) (ar (aN ak)), rfl⟩
abbrev vA := Ak CX0 1 "_law_cell_at" ["_law_script", "_law_k"] rS
theorem zT (F : Fun K "_law_none_in" "_law_none_in" vg f fd) (T : Txt K mg) : FnOk P w K mg base CX0 1 f fd ["_law_triples", "_law_cells", "_law_x", "_law_y"] (rT K) := F.okk (N := ["_law_triples", "_law_cells", "_law_x", "_law_y", "_law_dy", "_law_start", "_law_end", "_law_at", "_law_low", "_law_high"]) (Bh K).2 rfl rfl (by ac_rfl) fun nd _ _ _ _ _ _ hr => ⟨_, ao (c0 PF rfl (aX (pv 1)) (bn rfl (ap (pgn 4 nd) (ap (pgn 5 nd) (ap (pgn 6 nd) aV)))) (ar (c0 PF rfl (aX (pv 0)) (bn rfl (ap (pgn 7 nd) (ap (pgn 8 nd) (ap (pgn 9 nd) aV)))) (ar (eo (PW.pt (iE (ptc (gi hr.units) (pv 7) (aD aQ (pv 3) (pv 4))) (iE (ptc nV (pv 8) (aD aQ (pv 2) (pv 6))) (jq (ptc nV (aD aQ (pv 2) (pv 5)) (pv 9)))))) (ar (aN mJ)) cT))))) (ar (aN mJ)), rfl⟩
abbrev tP := Ak CX0 1 "_law_none_in" ["_law_triples", "_law_cells", "_law_x", "_law_y"] rT
theorem AC (F : Fun K "_law_picture" "_law_picture" oH f fd) (T : Txt K mg) : FnOk P w K mg base CX0 1 f fd ["_law_triples"] (si K) := F.okk (N := ["_law_triples", "_law_rows", "_law_y", "_law_low", "_law_high", "_law_last"]) (Al K).2 rfl rfl (by ac_rfl) fun nd _ _ _ _ _ _ hr => ⟨_, ao (pst 1 nd (eJ ah)) (ao (c0 PF rfl (aX (a7 fM (by rfl) T.sorted jY (ab (pv 0) ah))) (bn rfl (ap (pgn 2 nd) (ap (pgn 3 nd) (ap (pgn 4 nd) aV)))) (ar (eo (PW.pt (iE (ptc GZ (a7 eL (by rfl) T.len kA (ab (pv 1) ah)) ak) (iE (ptc (gi hr.units) (pix (pix (pv 1) (cO bC ak)) ak) (pv 2)) (jq (ptc nV (pv 3) (aD aQ (pix (pix (pix (pix (pv 1) (cO bC ak)) ak) (cO bC ak)) ak) ak)))))) (ao (pst 5 nd (JN Qd PySem.F.slot_list_pop PySem.F.type_list_pop KA (pix (pix (pv 1) (cO bC ak)) ak))) (ar (dA (ka Qd Qs Qt cI (pix (pix (pv 1) (cO bC ak)) ak) (ab (aO (ab (pix (pv 5) ak) (ab (a7 (mQ rfl) (by rfl) T.max vH (ab (pix (pv 5) ak) (ab (pv 4) ah))) ah))) ah))))) (ar (eo (PW.pt (iE (ptc GZ (a7 eL (by rfl) T.len kA (ab (pv 1) ah)) ak) (jq (ptc (gi hr.units) (pix (pix (pv 1) (cO bC ak)) ak) (pv 2))))) (ar (dA (ka Qd Qs Qt cI (pix (pix (pv 1) (cO bC ak)) ak) (ab (aO (ab (pv 3) (ab (pv 4) ah))) ah)))) (ar (dA (ka Qd Qs Qt cI (pv 1) (ab (aO (ab (pv 2) (ab (eJ (ab (aO (ab (pv 3) (ab (pv 4) ah))) ah)) ah))) ah))))))))) (ar (aN (eT bN (by rfl) T.tuple eZ (ab (bD (show CmpOk ["_law_triples", "_law_rows", "_law_y", "_law_low", "_law_high", "_law_last"] (aK oH) _ ["_law_y", "_law_row"] [none, none] from dG) (aX (pv 1)) (fun _ => bn rfl (ap (pgc 0) (ap (pgc 1) aV))) (cG (aE aI (aE aI bH aw) aw)) (fun _ => bI) (fun _ => aO (ab (pv 0) (ab (eT bN (by rfl) T.tuple eZ (ab (pv 1) ah)) ah)))) ah))))), rfl⟩
abbrev oq := Ak CX0 1 "_law_picture" ["_law_triples"] si
theorem D5 (F : Fun K "_law_shape" "_law_shape" AB f fd) (T : Txt K mg) : FnOk P w K mg base CX0 1 f fd ["_law_cell", "_law_unit"] (xO K) := F.okk (N := ["_law_cell", "_law_unit", "_law_more", "_law_cells", "_law_k", "_law_x"]) (DY K).2 rfl rfl (by ac_rfl) fun nd _ _ _ _ _ _ hr => ⟨_, ao (pst 2 nd (aD d6 (aD dX (aD jQ (pv 0) ak) ak) ak)) (ao (pst 3 nd (eJ (ab (aO (ab (aD cc (aD dX (pv 2) ak) ak) (ab (aD cc (aD dX (aD d6 (pv 2) ak) ak) ak) (ab (aD aQ (aD cc (aD dX (aD d6 (pv 2) ak) ak) ak) (aD jQ (aD dX (aD d6 (pv 2) ak) ak) (pv 1))) ah)))) ah))) (ao (c0 PF rfl (E3 (by rfl) T.range (ab (aD dX (aD d6 (pv 2) ak) ak) ah)) (pgn 4 nd) (ao (pst 5 nd (aD jQ (aD dX (aD d6 (pv 2) (aD aQ (aD jQ ak (pv 4)) ak)) ak) (pv 1))) (ar (dA (ka Qd Qs Qt cI (pv 3) (ab (aO (ab (aD cc (aD dX (aD d6 (pv 2) (aD aQ (aD jQ ak (pv 4)) ak)) ak) ak) (ab (pv 5) (ab (pv 5) ah)))) ah)))))) (ar (aN (pv 3))))), rfl⟩
abbrev zH := Ak CX0 1 "_law_shape" ["_law_cell", "_law_unit"] xO
theorem EZ (F : Fun K "_law_spots" "_law_spots" Au f fd) (T : Txt K mg) : FnOk P w K mg base CX0 1 f fd ["_law_triples", "_law_cells"] (xu K) := F.okk (N := ["_law_triples", "_law_cells", "_law_spots_here", "_law_y", "_law_low", "_law_high", "_law_dy", "_law_start", "_law_end", "_law_x"]) (E5 K).2 rfl rfl (by ac_rfl) fun nd _ _ _ _ _ _ hr => ⟨_, ao (pst 2 nd (eJ ah)) (ao (c0 PF rfl (aX (pv 0)) (bn rfl (ap (pgn 3 nd) (ap (pgn 4 nd) (ap (pgn 5 nd) aV)))) (ar (c0 PF rfl (aX (pv 1)) (bn rfl (ap (pgn 6 nd) (ap (pgn 7 nd) (ap (pgn 8 nd) aV)))) (ar (c0 PF rfl (aX (eJ (ab (aD cc (pv 4) (pv 7)) (ab (aD cc (pv 4) (pv 8)) (ab (aD cc (pv 5) (pv 7)) (ab (aD cc (pv 5) (pv 8)) ah)))))) (pgn 9 nd) (ar (dA (ka Qd Qs Qt cI (pv 2) (ab (aO (ab (pv 9) (ab (aD cc (pv 3) (pv 6)) ah))) ah))))))))) (ar (aN (pv 2)))), rfl⟩
abbrev AA := Ak CX0 1 "_law_spots" ["_law_triples", "_law_cells"] xu
theorem wB (F : Fun K "_law_stretches" "_law_stretches" pq f fd) (T : Txt K mg) : FnOk P w K mg base CX0 1 f fd ["_law_picture_here"] (nJ K) := F.okk (N := ["_law_picture_here", "_law_triples", "_law_y", "_law_row", "_law_low", "_law_high"]) (wz K).2 rfl rfl (by ac_rfl) fun nd _ _ _ _ _ _ hr => ⟨_, ao (pst 1 nd (eJ ah)) (ao (c0 PF rfl (aX (pv 0)) (bn rfl (ap (pgn 2 nd) (ap (pgn 3 nd) aV))) (ar (c0 PF rfl (aX (pv 3)) (bn rfl (ap (pgn 4 nd) (ap (pgn 5 nd) aV))) (ar (dA (ka Qd Qs Qt cI (pv 1) (ab (aO (ab (pv 2) (ab (pv 4) (ab (pv 5) ah)))) ah))))))) (ar (aN (pv 1)))), rfl⟩
abbrev kn := Ak CX0 1 "_law_stretches" ["_law_picture_here"] nJ
theorem CD (F : Fun K "_law_triple" "_law_triple" xx f fd) (T : Txt K mg) : FnOk P w K mg base CX0 1 f fd ["_law_cell", "_law_unit"] (ut K) := F.okk (N := ["_law_cell", "_law_unit", "_law_mixed", "_law_low"]) (Cd K).2 rfl rfl (by ac_rfl) fun nd _ _ _ _ _ _ hr => ⟨_, ao (pst 2 nd (aD d6 (aD dX (aD jQ (pv 0) ak) ak) ak)) (ao (pst 3 nd (aD aQ (aD jQ (aD cc (aD dX (aD d6 (pv 2) ak) ak) ak) (pv 1)) (aD dX (aD d6 (pv 2) ak) ak))) (ar (aN (aO (ab (aD cc (aD dX (pv 2) ak) ak) (ab (pv 3) (ab (aD aQ (pv 3) (aD jQ (aD dX (aD d6 (pv 2) ak) ak) (pv 1))) ah))))))), rfl⟩
abbrev xo := Ak CX0 1 "_law_triple" ["_law_cell", "_law_unit"] ut
theorem Ed (F : Fun K "box_of" "box_of" pS f fd) (T : Txt K mg) : FnOk P w K mg base CX0 1 f fd ["picture"] (yo K) := F.okk (N := ["picture", "left", "right"]) (EF K).2 rfl rfl (by ac_rfl) fun nd _ _ _ _ _ _ hr => ⟨_, ao (eo (ptc (gi hr.units) (pv 0) (aO ah)) (ar (aN (Jp))) cT) (ao (pst 1 nd (a7 (Ci rfl) (by rfl) T.min vM (ab (bD (show CmpOk ["picture", "left", "right"] (aK pS) _ ["y", "row"] [none, none] from dG) (aX (pv 0)) (fun _ => bn rfl (ap (pgc 0) (ap (pgc 1) aV))) (cG (aE aI (aE aI bH aw) aw)) (fun _ => bI) (fun _ => pix (pix (pv 1) ak) ak)) ah))) (ao (pst 2 nd (a7 (Bt rfl) (by rfl) T.max vH (ab (bD (show CmpOk ["picture", "left", "right"] (aK pS) _ ["y", "row"] [none, none] from dG) (aX (pv 0)) (fun _ => bn rfl (ap (pgc 0) (ap (pgc 1) aV))) (cG (aE aI (aE aI bH aw) aw)) (fun _ => bI) (fun _ => pix (pix (pv 1) (cO bC ak)) ak)) ah))) (ar (aN (aO (ab (pv 1) (ab (pix (pix (pv 0) ak) ak) (ab (pv 2) (ab (pix (pix (pv 0) (cO bC ak)) ak) ah))))))))), rfl⟩
abbrev AR := Ak CX0 1 "box_of" ["picture"] yo
theorem vw (F : Fun K "count_up_to" "count_up_to" nK f fd) (T : Txt K mg) : FnOk P w K mg base CX0 1 f fd ["pairs", "number"] (mf K) := F.okk (N := ["pairs", "number", "low", "high", "middle"]) (uS K).2 rfl rfl (by ac_rfl) fun nd _ _ _ _ _ _ hr => ⟨_, ao (pst 2 nd ak) (ao (pst 3 nd (a7 eL (by rfl) T.len kA (ab (pv 0) ah))) (ao (qA PF (ptc sE (pv 2) (pv 3)) (ao (pst 4 nd (aD d6 (aD aQ (pv 2) (pv 3)) ak)) (ar (eo (ptc nV (pix (pix (pv 0) (pv 4)) ak) (pv 1)) (ar (pst 2 nd (aD aQ (pv 4) ak))) (ar (pst 3 nd (pv 4))))))) (ar (aN (pv 2))))), rfl⟩
abbrev jK := Ak CX0 1 "count_up_to" ["pairs", "number"] mf
theorem we (F : Fun K "row_common" "row_common" pd f fd) (T : Txt K mg) : FnOk P w K mg base CX0 1 f fd ["one", "other"] (nw K) := F.okk (N := ["one", "other", "shared", "here", "there", "a", "b"]) (wA K).2 rfl rfl (by ac_rfl) fun nd _ _ _ _ _ _ hr => ⟨_, ao (pst 2 nd (eJ ah)) (ao (pst 3 nd ak) (ao (pst 4 nd ak) (ao (qA PF (PW.pt (iE (ptc sE (pv 3) (a7 eL (by rfl) T.len kA (ab (pv 0) ah))) (jq (ptc sE (pv 4) (a7 eL (by rfl) T.len kA (ab (pv 1) ah)))))) (ao (pst 5 nd (a7 (mQ rfl) (by rfl) T.max vH (ab (pix (pix (pv 0) (pv 3)) ak) (ab (pix (pix (pv 1) (pv 4)) ak) ah)))) (ao (pst 6 nd (a7 (qN rfl) (by rfl) T.min vM (ab (pix (pix (pv 0) (pv 3)) ak) (ab (pix (pix (pv 1) (pv 4)) ak) ah)))) (ao (eo (ptc nV (pv 5) (pv 6)) (ar (dA (ka Qd Qs Qt cI (pv 2) (ab (aO (ab (pv 5) (ab (pv 6) ah))) ah)))) cT) (ar (eo (ptc sE (pix (pix (pv 0) (pv 3)) ak) (pix (pix (pv 1) (pv 4)) ak)) (ar (yX (i := 3) nd rfl (.inl rfl) ak zf)) (ar (yX (i := 4) nd rfl (.inl rfl) ak zf)))))))) (ar (aN (eT bN (by rfl) T.tuple eZ (ab (pv 2) ah))))))), rfl⟩
abbrev kE := Ak CX0 1 "row_common" ["one", "other"] nw
theorem zo (F : Fun K "row_moved" "row_moved" l5 f fd) (T : Txt K mg) : FnOk P w K mg base CX0 1 f fd ["row", "by"] (pU K) := F.okk (N := ["row", "by"]) (zu K).2 rfl rfl (by ac_rfl) fun nd _ _ _ _ _ _ hr => ⟨_, ar (aN (eT bN (by rfl) T.tuple eZ (ab (bD (show CmpOk ["row", "by"] (aK l5) _ ["a", "b", "by"] [none, none, some 1] from dG) (aX (pv 0)) (fun _ => bn rfl (ap (pgc 0) (ap (pgc 1) aV))) (cG (aE aI (aE aI bH aw) aw)) (fun _ => bI) (fun _ => aO (ab (aD aQ (pv 0) (pv 2)) (ab (aD aQ (pv 1) (pv 2)) ah)))) ah))), rfl⟩
abbrev su := Ak CX0 1 "row_moved" ["row", "by"] pU
theorem Er (F : Fun K "row_of" "row_of" ux f fd) (T : Txt K mg) : FnOk P w K mg base CX0 1 f fd ["pairs"] (wP K) := F.okk (N := ["pairs", "stretches", "a", "b"]) (Em K).2 rfl rfl (by ac_rfl) fun nd _ _ _ _ _ _ hr => ⟨_, ao (pst 1 nd (eJ ah)) (ao (c0 PF rfl (aX (a7 fM (by rfl) T.sorted jY (ab (bD (show CmpOk ["pairs", "stretches", "a", "b"] (aK ux) _ ["a", "b"] [none, none] from dG) (aX (pv 0)) (fun _ => bn rfl (ap (pgc 0) (ap (pgc 1) aV))) (cG (aE aI (aE aI bH aw) aw)) (fun _ => yA (ptc nV (pv 0) (pv 1))) (fun _ => aO (ab (pv 0) (ab (pv 1) ah)))) ah))) (bn rfl (ap (pgn 2 nd) (ap (pgn 3 nd) aV))) (ar (eo (PW.pt (iE (je (pv 1) (fun _ => rfl)) (jq (ptc nV (pv 2) (aD aQ (pix (pix (pv 1) (cO bC ak)) ak) ak))))) (ar (GQ (aO (ab (pix (pix (pv 1) (cO bC ak)) ak) (ab (a7 (mQ rfl) (by rfl) T.max vH (ab (pix (pix (pv 1) (cO bC ak)) ak) (ab (pv 3) ah))) ah))) (G7 (pv 1) (cO bC ak) A3))) (ar (dA (ka Qd Qs Qt cI (pv 1) (ab (aO (ab (pv 2) (ab (pv 3) ah))) ah))))))) (ar (aN (eT bN (by rfl) T.tuple eZ (ab (pv 1) ah))))), rfl⟩
abbrev pO := Ak CX0 1 "row_of" ["pairs"] wP
theorem oT (F : Fun K "rows_with_cells" "rows_with_cells" f8 f fd) (T : Txt K mg) : FnOk P w K mg base CX0 1 f fd ["rows"] (iI K) := F.okk (N := ["rows"]) (oO K).2 rfl rfl (by ac_rfl) fun nd _ _ _ _ _ _ hr => ⟨_, ar (aN (eT bN (by rfl) T.tuple eZ (ab (bD (show CmpOk ["rows"] (aK f8) _ ["y", "row"] [none, none] from dG) (aX (pv 0)) (fun _ => bn rfl (ap (pgc 0) (ap (pgc 1) aV))) (cG (aE aI (aE aI bH aw) aw)) (fun _ => yA (ptc (uv hr.units) (pv 1) (aO ah))) (fun _ => aO (ab (pv 0) (ab (pv 1) ah)))) ah))), rfl⟩
abbrev cQ := Ak CX0 1 "rows_with_cells" ["rows"] iI
theorem sS (F : Fun K "stretches_of" "stretches_of" iy f fd) (T : Txt K mg) : FnOk P w K mg base CX0 1 f fd ["picture"] (ll K) := F.okk (N := ["picture", "stretches", "y", "row"]) (sV K).2 rfl rfl (by ac_rfl) fun nd _ _ _ _ _ _ hr => ⟨_, ao (pst 1 nd (eJ ah)) (ao (c0 PF rfl (aX (pv 0)) (bn rfl (ap (tK (i := 2) nd rfl (.inr rfl)) (ap (pgn 3 nd) aV))) (ar (dA (ka Qd PySem.F.slot_list_extend PySem.F.type_list_extend Dy (pv 1) (ab (bD (show CmpOk ["picture", "stretches", "y", "row"] (aK iy) _ ["a", "b", "y"] [none, none, some 2] from dG) (aX (pv 3)) (fun _ => bn rfl (ap (pgc 0) (ap (pgc 1) aV))) (cG (aE aI (aE aI bH aw) aw)) (fun _ => bI) (fun _ => aO (ab (pv 2) (ab (pv 0) (ab (pv 1) ah))))) ah))))) (ar (aN (pv 1)))), rfl⟩
abbrev et := Ak CX0 1 "stretches_of" ["picture"] ll
theorem sI (F : Fun K "__init__" "Box.__init__" iC f fd) (T : Txt K mg) (AB_Form : yL P w K mg base c_Form f_Form___init__ gC) : FnOk P w K mg base CX0 2 f fd ["self", "left", "up", "right", "down"] (lg K) := by
 refine F.ok sN (fun vs H Q E h => h.1) (fun cdv A outer s H vs Q E hr h => ?_)
 exact ⟨_, ao (eo (yJ sE (a7 (D0 rfl) (by rfl) T.min vM (ab (pv 1) (ab (pv 2) (ab (pv 3) (ab (pv 4) ah))))) ak (rm _)) yi cT) (ar (dA (vD AB_Form.cf (by rfl) AB_Form.g AB_Form.G (hr.mono (by decide)) AB_Form.b jU (ab (pv 0) (ab (aO (ab (aO (ab (aO (ab (cO bC (pv 1)) (ab (cO bC (pv 2)) (ab (pv 3) (ab (pv 4) ah))))) ah)) ah)) ah))))), A0 (Co (SE.p (JK Ll ((LU KJ (pT (lW 1) (pT (lW 2) (pT (lW 3) (pT (lW 4) FB))))).p) ((s_c rfl).p)))) (xw (hV (xw (hV (xw (hV (KO Gj (lW 1)) (hV (KO Gj (lW 2)) (hV (DE 3) (hV (DE 4) n9))))) n9)) n9)) rfl h⟩
abbrev IP := Ac CX0 2 "Box" ["self", "left", "up", "right", "down"] lg
theorem qJ (F : Fun K "begun_between" "begun_between" lf f fd) (T : Txt K mg) (aS : jK P w K mg base jH iP) : FnOk P w K mg base CX0 2 f fd ["pairs", "first", "last"] (jX K) := F.okk (N := ["pairs", "first", "last"]) (qK K).2 rfl rfl (by ac_rfl) fun nd _ _ _ _ _ _ hr => ⟨_, ar (aN (u5 J7 (pv 0) (o8 (a7 (mQ rfl) (by rfl) T.max vH (ab ak (ab (aD cc (pcl aS.G hr aS.m aS.k aS.b (ab (pv 0) (ab (pv 1) ah))) ak) ah)))) (o8 (pcl aS.G hr aS.m aS.k aS.b (ab (pv 0) (ab (pv 2) ah)))))), rfl⟩
abbrev lm := Ak CX0 2 "begun_between" ["pairs", "first", "last"] jX
theorem zl (F : Fun K "blocks_of" "blocks_of" mD f fd) (T : Txt K mg) (az : et P w K mg base eA dL) : FnOk P w K mg base CX0 2 f fd ["picture"] (pE K) := F.okk (N := ["picture", "blocks", "a", "b", "y"]) (zk K).2 rfl rfl (by ac_rfl) fun nd _ _ _ _ _ _ hr => ⟨_, ao (pst 1 nd (eJ ah)) (ao (c0 PF rfl (aX (a7 fM (by rfl) T.sorted jY (ab (bD (show CmpOk ["picture", "blocks", "a", "b", "y"] (aK mD) _ ["y", "a", "b"] [none, none, none] from dG) (aX (pcl az.G hr az.m az.k az.b (ab (pv 0) ah))) (fun _ => bn rfl (ap (pgc 0) (ap (pgc 1) (ap (pgc 2) aV)))) (cG (aE aI (aE aI (aE aI bH aw) aw) aw)) (fun _ => bI) (fun _ => aO (ab (pv 1) (ab (pv 2) (ab (pv 0) ah))))) ah))) (bn rfl (ap (pgn 2 nd) (ap (pgn 3 nd) (ap (pgn 4 nd) aV)))) (ar (eo (PW.pt (iE (je (pv 1) (fun _ => rfl)) (jq (ptc (gi hr.units) (pix (pv 1) (cO bC ak)) (aO (ab (pv 2) (ab (pix (pix (pv 1) (cO bC ak)) ak) (ab (pv 3) (ab (aD cc (pv 4) ak) ah))))))))) (ar (GQ (aO (ab (pv 2) (ab (pix (pix (pv 1) (cO bC ak)) ak) (ab (pv 3) (ab (pv 4) ah))))) (G7 (pv 1) (cO bC ak) A3))) (ar (dA (ka Qd Qs Qt cI (pv 1) (ab (aO (ab (pv 2) (ab (pv 4) (ab (pv 3) (ab (pv 4) ah))))) ah))))))) (ar (aN (eT bN (by rfl) T.tuple eZ (ab (pv 1) ah))))), rfl⟩
abbrev sD := Ak CX0 2 "blocks_of" ["picture"] pE
theorem G2 (F : Fun K "moved" "moved" yU f fd) (T : Txt K mg) (fF : su P w K mg base sn pB) : FnOk P w K mg base CX0 2 f fd ["picture", "dx", "dy"] (zQ K) := F.okk (N := ["picture", "dx", "dy"]) (F6 K).2 rfl rfl (by ac_rfl) fun nd _ _ _ _ _ _ hr => ⟨_, ar (aN (eT bN (by rfl) T.tuple eZ (ab (bD (show CmpOk ["picture", "dx", "dy"] (aK yU) _ ["y", "row", "dy", "dx"] [none, none, some 2, some 1] from dG) (aX (pv 0)) (fun _ => bn rfl (ap (pgc 0) (ap (pgc 1) aV))) (cG (aE aI (aE aI bH aw) aw)) (fun _ => bI) (fun _ => aO (ab (aD aQ (pv 0) (pv 2)) (ab (pcl fF.G hr fF.m fF.k fF.b (ab (pv 1) (ab (pv 3) ah))) ah)))) ah))), rfl⟩
abbrev tf := Ak CX0 2 "moved" ["picture", "dx", "dy"] zQ
theorem wp (F : Fun K "picture_of" "picture_of" hG f fd) (T : Txt K mg) (bJ : pO P w K mg base pz mV) : FnOk P w K mg base CX0 2 f fd ["stretches"] (ny K) := F.okk (N := ["stretches", "pairs_by_row", "y", "a", "b"]) (wv K).2 rfl rfl (by ac_rfl) fun nd _ _ _ _ _ _ hr => ⟨_, ao (pst 1 nd (eJ ah)) (ao (c0 PF rfl (aX (a7 fM (by rfl) T.sorted jY (ab (bD (show CmpOk ["stretches", "pairs_by_row", "y", "a", "b"] (aK hG) _ ["y", "a", "b"] [none, none, none] from dG) (aX (pv 0)) (fun _ => bn rfl (ap (pgc 0) (ap (pgc 1) (ap (pgc 2) aV)))) (cG (aE aI (aE aI (aE aI bH aw) aw) aw)) (fun _ => yA (ptc nV (pv 1) (pv 2))) (fun _ => aO (ab (pv 0) (ab (pv 1) (ab (pv 2) ah))))) ah))) (bn rfl (ap (pgn 2 nd) (ap (pgn 3 nd) (ap (pgn 4 nd) aV)))) (ao (eo (PW.pt (F4 (tS (je (pv 1) (fun _ => rfl))) (Cu (ptc (uv hr.units) (pix (pix (pv 1) (cO bC ak)) ak) (pv 2))))) (ar (dA (ka Qd Qs Qt cI (pv 1) (ab (aO (ab (pv 2) (ab (eJ ah) ah))) ah)))) cT) (ar (dA (ka Qd Qs Qt cI (pix (pix (pv 1) (cO bC ak)) ak) (ab (aO (ab (pv 3) (ab (pv 4) ah))) ah)))))) (ar (aN (eT bN (by rfl) T.tuple eZ (ab (bD (show CmpOk ["stretches", "pairs_by_row", "y", "a", "b"] (aK hG) _ ["y", "pairs"] [none, none] from dG) (aX (pv 1)) (fun _ => bn rfl (ap (pgc 0) (ap (pgc 1) aV))) (cG (aE aI (aE aI bH aw) aw)) (fun _ => bI) (fun _ => aO (ab (pv 0) (ab (pcl bJ.G hr bJ.m bJ.k bJ.b (ab (pv 1) ah)) ah)))) ah))))), rfl⟩
abbrev fT := Ak CX0 2 "picture_of" ["stretches"] ny
theorem EE (F : Fun K "row_at" "row_at" Aa f fd) (T : Txt K mg) (aS : jK P w K mg base jH iP) : FnOk P w K mg base CX0 2 f fd ["picture", "y"] (wW K) := F.okk (N := ["picture", "y", "begun"]) (Ei K).2 rfl rfl (by ac_rfl) fun nd _ _ _ _ _ _ hr => ⟨_, ao (pst 2 nd (pcl aS.G hr aS.m aS.k aS.b (ab (pv 0) (ab (pv 1) ah)))) (ao (eo (PW.pt (iE (ptc GZ (pv 2) ak) (jq (ptc (gi hr.units) (pix (pix (pv 0) (aD cc (pv 2) ak)) ak) (pv 1))))) (ar (aN (pix (pix (pv 0) (aD cc (pv 2) ak)) ak))) cT) (ar (aN (aO ah)))), rfl⟩
abbrev vf := Ak CX0 2 "row_at" ["picture", "y"] wW
theorem vX (F : Fun K "row_either" "row_either" fS f fd) (T : Txt K mg) (bJ : pO P w K mg base pz mV) : FnOk P w K mg base CX0 2 f fd ["one", "other"] (nM K) := F.okk (N := ["one", "other", "stretches", "changes"]) (wq K).2 rfl rfl (by ac_rfl) fun nd _ _ _ _ _ _ hr => ⟨_, ao (pst 2 nd (aD aQ (pv 0) (pv 1))) (ao (Ca (i := 3) nd rfl (.inr rfl) (a7 fM (by rfl) T.sorted jY (ab (aD aQ (bD (show CmpOk ["one", "other", "stretches", "changes"] (aK fS) _ ["a", "b"] [none, none] from dG) (aX (pv 2)) (fun _ => bn rfl (ap (pgc 0) (ap (pgc 1) aV))) (cG (aE aI (aE aI bH aw) aw)) (fun _ => bI) (fun _ => pv 0)) (bD (show CmpOk ["one", "other", "stretches", "changes"] (aK fS) _ ["a", "b"] [none, none] from dG) (aX (pv 2)) (fun _ => bn rfl (ap (pgc 0) (ap (pgc 1) aV))) (cG (aE aI (aE aI bH aw) aw)) (fun _ => bI) (fun _ => aD aQ (pv 1) ak))) ah))) (ar (aN (pcl bJ.G hr bJ.m bJ.k bJ.b (ab (bD (show CmpOk ["one", "other", "stretches", "changes"] (aK fS) _ ["k", "changes"] [none, some 3] from dG) (DK (by rfl) T.range (ab ak (ab (a7 eL (by rfl) T.len kA (ab (pv 3) ah)) (ab ak ah)))) (fun _ => pgc 0) aI (fun _ => bI) (fun _ => aO (ab (pix (pv 1) (pv 0)) (ab (aD cc (pix (pv 1) (aD aQ (pv 0) ak)) ak) ah)))) ah))))), rfl⟩
abbrev pZ := Ak CX0 2 "row_either" ["one", "other"] nM
theorem wc (F : Fun K "row_shrunk" "row_shrunk" ko f fd) (T : Txt K mg) (bJ : pO P w K mg base pz mV) : FnOk P w K mg base CX0 2 f fd ["row", "low", "high"] (nt K) := F.okk (N := ["row", "low", "high"]) (wu K).2 rfl rfl (by ac_rfl) fun nd _ _ _ _ _ _ hr => ⟨_, ar (aN (pcl bJ.G hr bJ.m bJ.k bJ.b (ab (bD (show CmpOk ["row", "low", "high"] (aK ko) _ ["a", "b", "low", "high"] [none, none, some 1, some 2] from dG) (aX (pv 0)) (fun _ => bn rfl (ap (pgc 0) (ap (pgc 1) aV))) (cG (aE aI (aE aI bH aw) aw)) (fun _ => bI) (fun _ => aO (ab (aD cc (pv 0) (pv 2)) (ab (aD cc (pv 1) (pv 3)) ah)))) ah))), rfl⟩
abbrev pk := Ak CX0 2 "row_shrunk" ["row", "low", "high"] nt
theorem qy (F : Fun K "__init__" "Shape.__init__" gz f fd) (T : Txt K mg) (fJ : sD P w K mg base sk qw) (AB_Form : yL P w K mg base c_Form f_Form___init__ gC) : FnOk P w K mg base CX0 3 f fd ["self", "picture"] (jv K) := by
 refine F.ok pV (fun vs H Q E h => h.1) (fun cdv A outer s H vs Q E hr h => ?_)
 exact ⟨_, ao (eo (yJ (gi hr.units) (pv 1) (aO ah) (rm _)) yi cT) (ar (dA (vD AB_Form.cf (by rfl) AB_Form.g AB_Form.G (hr.mono (by decide)) AB_Form.b jU (ab (pv 0) (ab (aO (ab (Dm fJ.G (hr.mono (by decide)) (by rfl) fJ.m fJ.k fJ.b .nil jU (ab (pv 1) ah)) ah)) ah))))), A0 (Co (SE.p (JK (Lp false) (lW 1) ((xw n9).p)))) (xw (hV (FG (E := E0) (hV (DE 1) n9) (Bg (fun _ _ h => Db h))) n9)) rfl h⟩
abbrev zt := Ac CX0 3 "Shape" ["self", "picture"] jv
theorem EX (F : Fun K "common" "common" vo f fd) (T : Txt K mg) (aB : cQ P w K mg base cR cA) (bv : kE P w K mg base kS jO) (dJ : vf P w K mg base uE qH) : FnOk P w K mg base CX0 3 f fd ["one", "other"] (xV K) := F.okk (N := ["one", "other"]) (E6 K).2 rfl rfl (by ac_rfl) fun nd _ _ _ _ _ _ hr => ⟨_, ar (aN (pcl aB.G hr aB.m aB.k aB.b (ab (bD (show CmpOk ["one", "other"] (aK vo) _ ["y", "row", "other"] [none, none, some 1] from dG) (aX (pv 0)) (fun _ => bn rfl (ap (pgc 0) (ap (pgc 1) aV))) (cG (aE aI (aE aI bH aw) aw)) (fun _ => bI) (fun _ => aO (ab (pv 0) (ab (pcl bv.G hr bv.m bv.k bv.b (ab (pv 1) (ab (pcl dJ.G hr dJ.m dJ.k dJ.b (ab (pv 2) (ab (pv 0) ah))) ah))) ah)))) ah))), rfl⟩
abbrev vR := Ak CX0 3 "common" ["one", "other"] xV
theorem Ix (F : Fun K "join" "join" GY f fd) (T : Txt K mg) (aJ : fT P w K mg base fU eY) (az : et P w K mg base eA dL) : FnOk P w K mg base CX0 3 f fd ["one", "other"] (CO K) := F.okk (N := ["one", "other"]) (HH K).2 rfl rfl (by ac_rfl) fun nd _ _ _ _ _ _ hr => ⟨_, ar (aN (pcl aJ.G hr aJ.m aJ.k aJ.b (ab (aD aQ (pcl az.G hr az.m az.k az.b (ab (pv 0) ah)) (pcl az.G hr az.m az.k az.b (ab (pv 1) ah))) ah))), rfl⟩
abbrev Gu := Ak CX0 3 "join" ["one", "other"] CO
theorem BO (F : Fun K "reached" "reached" qS f fd) (T : Txt K mg) (bp : lm P w K mg base lu kc) (aB : cQ P w K mg base cR cA) : FnOk P w K mg base CX0 3 f fd ["picture", "box", "block"] (vJ K) := F.okk (N := ["picture", "box", "block", "rows"]) (Cj K).2 rfl rfl (by ac_rfl) fun nd _ _ _ _ _ _ hr => ⟨_, ao (pst 3 nd (pcl bp.G hr bp.m bp.k bp.b (ab (pv 0) (ab (aD aQ (pix (pv 1) ak) (pix (pv 2) ak)) (ab (aD aQ (pix (pv 1) ak) (pix (pv 2) ak)) ah))))) (ar (aN (pcl aB.G hr aB.m aB.k aB.b (ab (bD (show CmpOk ["picture", "box", "block", "rows"] (aK qS) _ ["y", "row", "box", "block"] [none, none, some 1, some 2] from dG) (aX (pv 3)) (fun _ => bn rfl (ap (pgc 0) (ap (pgc 1) aV))) (cG (aE aI (aE aI bH aw) aw)) (fun _ => bI) (fun _ => aO (ab (pv 0) (ab (pcl bp.G hr bp.m bp.k bp.b (ab (pv 1) (ab (aD aQ (pix (pv 2) ak) (pix (pv 3) ak)) (ab (aD aQ (pix (pv 2) ak) (pix (pv 3) ak)) ah)))) ah)))) ah)))), rfl⟩
abbrev wK := Ak CX0 3 "reached" ["picture", "box", "block"] vJ
theorem zF (F : Fun K "row_less" "row_less" t7 f fd) (T : Txt K mg) (eU : pZ P w K mg base pA nP) (bv : kE P w K mg base kS jO) : FnOk P w K mg base CX0 3 f fd ["one", "other"] (rV K) := F.okk (N := ["one", "other"]) (AZ K).2 rfl rfl (by ac_rfl) fun nd _ _ _ _ _ _ hr => ⟨_, ar (aN (pcl eU.G hr eU.m eU.k eU.b (ab (pv 0) (ab (pcl bv.G hr bv.m bv.k bv.b (ab (pv 0) (ab (pv 1) ah))) ah)))), rfl⟩
abbrev ui := Ak CX0 3 "row_less" ["one", "other"] rV
theorem sM (F : Fun K "turned_about" "turned_about" iX f fd) (T : Txt K mg) (aJ : fT P w K mg base fU eY) (az : et P w K mg base eA dL) : FnOk P w K mg base CX0 3 f fd ["picture"] (ld K) := F.okk (N := ["picture"]) (sW K).2 rfl rfl (by ac_rfl) fun nd _ _ _ _ _ _ hr => ⟨_, ar (aN (pcl aJ.G hr aJ.m aJ.k aJ.b (ab (bD (show CmpOk ["picture"] (aK iX) _ ["y", "a", "b"] [none, none, none] from dG) (aX (pcl az.G hr az.m az.k az.b (ab (pv 0) ah))) (fun _ => bn rfl (ap (pgc 0) (ap (pgc 1) (ap (pgc 2) aV)))) (cG (aE aI (aE aI (aE aI bH aw) aw) aw)) (fun _ => bI) (fun _ => aO (ab (cO bC (pv 0)) (ab (cO bC (pv 2)) (ab (cO bC (pv 1)) ah))))) ah))), rfl⟩
abbrev md := Ak CX0 3 "turned_about" ["picture"] ld
theorem Iy (F : Fun K "less" "less" BS f fd) (T : Txt K mg) (aB : cQ P w K mg base cR cA) (gy : ui P w K mg base uc sw) (dJ : vf P w K mg base uE qH) : FnOk P w K mg base CX0 4 f fd ["one", "other"] (C3 K) := F.okk (N := ["one", "other"]) (HW K).2 rfl rfl (by ac_rfl) fun nd _ _ _ _ _ _ hr => ⟨_, ar (aN (pcl aB.G hr aB.m aB.k aB.b (ab (bD (show CmpOk ["one", "other"] (aK BS) _ ["y", "row", "other"] [none, none, some 1] from dG) (aX (pv 0)) (fun _ => bn rfl (ap (pgc 0) (ap (pgc 1) aV))) (cG (aE aI (aE aI bH aw) aw)) (fun _ => bI) (fun _ => aO (ab (pv 0) (ab (pcl gy.G hr gy.m gy.k gy.b (ab (pv 1) (ab (pcl dJ.G hr dJ.m dJ.k dJ.b (ab (pv 2) (ab (pv 0) ah))) ah))) ah)))) ah))), rfl⟩
abbrev Cv := Ak CX0 4 "less" ["one", "other"] C3
theorem vL (F : Fun K "shrunk_down" "shrunk_down" nR f fd) (T : Txt K mg) (dS : vR P w K mg base vn qZ) (cF : tf P w K mg base tE p8) : FnOk P w K mg base CX0 4 f fd ["picture", "by"] (ma K) := F.okk (N := ["picture", "by", "done", "step"]) (vq K).2 rfl rfl (by ac_rfl) fun nd _ _ _ _ _ _ hr => ⟨_, ao (pst 2 nd ak) (ao (qA PF (ptc sE (pv 2) (pv 1)) (ao (pst 3 nd (a7 (qN rfl) (by rfl) T.min vM (ab (aD aQ (pv 2) ak) (ab (aD cc (pv 1) (pv 2)) ah)))) (ao (pst 0 nd (pcl dS.G hr dS.m dS.k dS.b (ab (pv 0) (ab (pcl cF.G hr cF.m cF.k cF.b (ab (pv 0) (ab ak (ab (cO bC (pv 3)) ah)))) ah)))) (ar (yX (i := 2) nd rfl (.inl rfl) (pv 3) zf))))) (ar (aN (pv 0)))), rfl⟩
abbrev nQ := Ak CX0 4 "shrunk_down" ["picture", "by"] ma
theorem vC (F : Fun K "spread_down" "spread_down" nz f fd) (T : Txt K mg) (qI : Gu P w K mg base F0 Dj) (cF : tf P w K mg base tE p8) : FnOk P w K mg base CX0 4 f fd ["picture", "by"] (lQ K) := F.okk (N := ["picture", "by", "done", "step"]) (uQ K).2 rfl rfl (by ac_rfl) fun nd _ _ _ _ _ _ hr => ⟨_, ao (pst 2 nd ak) (ao (qA PF (ptc sE (pv 2) (pv 1)) (ao (pst 3 nd (a7 (qN rfl) (by rfl) T.min vM (ab (aD aQ (pv 2) ak) (ab (aD cc (pv 1) (pv 2)) ah)))) (ao (pst 0 nd (pcl qI.G hr qI.m qI.k qI.b (ab (pv 0) (ab (pcl cF.G hr cF.m cF.k cF.b (ab (pv 0) (ab ak (ab (pv 3) ah)))) ah)))) (ar (yX (i := 2) nd rfl (.inl rfl) (pv 3) zf))))) (ar (aN (pv 0)))), rfl⟩
abbrev nI := Ak CX0 4 "spread_down" ["picture", "by"] lQ
theorem nr (F : Fun K "greater_by_block" "greater_by_block" fE f fd) (T : Txt K mg) (az : et P w K mg base eA dL) (dW : nI P w K mg base nG l9) (aJ : fT P w K mg base fU eY) : FnOk P w K mg base CX0 5 f fd ["picture", "block"] (hE K) := F.okk (N := ["picture", "block", "wide"]) (nl K).2 rfl rfl (by ac_rfl) fun nd _ _ _ _ _ _ hr => ⟨_, ao (Dg (i := 2) (hN := nd) (hi0 := rfl) (hx := Or.inl rfl) (ck := (show CmpOk ["picture", "block", "wide"] (aK fE) _ ["y", "a", "b", "block"] [none, none, none, some 1] from dG)) (hi := aX (pcl az.G hr az.m az.k az.b (ab (pv 0) ah))) (hg := fun _ => bn rfl (ap (pgc 0) (ap (pgc 1) (ap (pgc 2) aV)))) (hs := cG (aE aI (aE aI (aE aI bH aw) aw) aw)) (ht := fun _ => bI) (he := fun _ => aO (ab (aD aQ (pv 0) (pix (pv 3) ak)) (ab (aD aQ (pv 1) (pix (pv 3) ak)) (ab (aD aQ (pv 2) (pix (pv 3) ak)) ah))))) (ao (eo (ptc (gi hr.units) (pix (pv 1) ak) (pix (pv 1) ak)) (ar (aN (pv 2))) cT) (ar (aN (pcl az.G hr az.m az.k az.b (ab (pcl dW.G hr dW.m dW.k dW.b (ab (pcl aJ.G hr aJ.m aJ.k aJ.b (ab (pv 2) ah)) (ab (aD cc (pix (pv 1) ak) (pix (pv 1) ak)) ah))) ah))))), rfl⟩
abbrev iU := Ak CX0 5 "greater_by_block" ["picture", "block"] hE
theorem CI (F : Fun K "lies_in" "lies_in" xZ f fd) (T : Txt K mg) (gZ : Cv P w K mg base BX yW) : FnOk P w K mg base CX0 5 f fd ["one", "other"] (vS K) := F.okk (N := ["one", "other"]) (Cl K).2 rfl rfl (by ac_rfl) fun nd _ _ _ _ _ _ hr => ⟨_, ar (aN (yp (gi hr.units) (pcl gZ.G hr gZ.m gZ.k gZ.b (ab (pv 0) (ab (pv 1) ah))) (aO ah) (rm _))), rfl⟩
abbrev xi := Ak CX0 5 "lies_in" ["one", "other"] vS
theorem nq (F : Fun K "smaller_by_block" "smaller_by_block" fw f fd) (T : Txt K mg) (aB : cQ P w K mg base cR cA) (eM : pk P w K mg base pf nv) (dU : nQ P w K mg base nU mF) : FnOk P w K mg base CX0 5 f fd ["picture", "block"] (g8 K) := F.okk (N := ["picture", "block", "narrow"]) (ni K).2 rfl rfl (by ac_rfl) fun nd _ _ _ _ _ _ hr => ⟨_, ao (pst 2 nd (pcl aB.G hr aB.m aB.k aB.b (ab (bD (show CmpOk ["picture", "block", "narrow"] (aK fw) _ ["y", "row", "block"] [none, none, some 1] from dG) (aX (pv 0)) (fun _ => bn rfl (ap (pgc 0) (ap (pgc 1) aV))) (cG (aE aI (aE aI bH aw) aw)) (fun _ => bI) (fun _ => aO (ab (aD cc (pv 0) (pix (pv 2) ak)) (ab (pcl eM.G hr eM.m eM.k eM.b (ab (pv 1) (ab (pix (pv 2) ak) (ab (pix (pv 2) ak) ah)))) ah)))) ah))) (ar (aN (pcl dU.G hr dU.m dU.k dU.b (ab (pv 2) (ab (aD cc (pix (pv 1) ak) (pix (pv 1) ak)) ah))))), rfl⟩
abbrev i0 := Ak CX0 5 "smaller_by_block" ["picture", "block"] g8
theorem n8 (F : Fun K "greater_by_part" "greater_by_part" jn f fd) (T : Txt K mg) (bL : iU P w K mg base iZ g7) (aJ : fT P w K mg base fU eY) : FnOk P w K mg base CX0 6 f fd ["picture", "blocks"] (iM K) := F.okk (N := ["picture", "blocks", "stretches", "block"]) (oM K).2 rfl rfl (by ac_rfl) fun nd _ _ _ _ _ _ hr => ⟨_, ao (pst 2 nd (eJ ah)) (ao (c0 PF rfl (aX (pv 1)) (pgn 3 nd) (ar (dA (ka Qd PySem.F.slot_list_extend PySem.F.type_list_extend Dy (pv 2) (ab (pcl bL.G hr bL.m bL.k bL.b (ab (pv 0) (ab (pv 3) ah))) ah))))) (ar (aN (pcl aJ.G hr aJ.m aJ.k aJ.b (ab (pv 2) ah))))), rfl⟩
abbrev jA := Ak CX0 6 "greater_by_part" ["picture", "blocks"] iM
theorem oQ (F : Fun K "smaller_by_part" "smaller_by_part" jp f fd) (T : Txt K mg) (aW : i0 P w K mg base iG g6) (dS : vR P w K mg base vn qZ) (iq : wK P w K mg base xq uz) (kf : AR P w K mg base Ax ya) : FnOk P w K mg base CX0 6 f fd ["picture", "blocks"] (jh K) := F.okk (N := ["picture", "blocks", "kept", "block"]) (oX K).2 rfl rfl (by ac_rfl) fun nd _ _ _ _ _ _ hr => ⟨_, ao (pst 2 nd (pcl aW.G hr aW.m aW.k aW.b (ab (pv 0) (ab (pix (pv 1) (cO bC ak)) ah)))) (ao (c0 PF rfl (aX (u5 J7 (pv 1) (Hz) (o8 (cO bC ak)))) (pgn 3 nd) (ao (eo (ptc (gi hr.units) (pv 2) (aO ah)) (ar (aN (aO ah))) cT) (ar (pst 2 nd (pcl dS.G hr dS.m dS.k dS.b (ab (pv 2) (ab (pcl aW.G hr aW.m aW.k aW.b (ab (pcl iq.G hr iq.m iq.k iq.b (ab (pv 0) (ab (pcl kf.G hr kf.m kf.k kf.b (ab (pv 2) ah)) (ab (pv 3) ah)))) (ab (pv 3) ah))) ah))))))) (ar (aN (pv 2)))), rfl⟩
abbrev jk := Ak CX0 6 "smaller_by_part" ["picture", "blocks"] jh
theorem sR (F : Fun K "greater" "Form.greater" mj f fd) (T : Txt K mg) (bX : jA P w K mg base jz iK) : FnOk P w K mg base CX0 7 f fd ["self", "picture"] (lB K) := F.okk (N := ["self", "picture", "blocks"]) (sO K).2 rfl rfl (by ac_rfl) fun nd _ _ _ _ _ _ hr => ⟨_, ao (c0 PF rfl (K1 (by rfl) T.reversed (ab (Dv T.cN (pv 0) rfl) ah)) (pgn 2 nd) (ar (pst 1 nd (pcl bX.G hr bX.m bX.k bX.b (ab (pv 1) (ab (pv 2) ah)))))) (ar (aN (pv 1))), rfl⟩
abbrev jf := Am 7 "greater" NS ["self", "picture"] lB
theorem td (F : Fun K "smaller" "Form.smaller" me f fd) (T : Txt K mg) (b5 : jk P w K mg base jw jb) : FnOk P w K mg base CX0 7 f fd ["self", "picture"] (lc K) := F.okk (N := ["self", "picture", "blocks"]) (sK K).2 rfl rfl (by ac_rfl) fun nd _ _ _ _ _ _ hr => ⟨_, ao (c0 PF rfl (aX (Dv T.cN (pv 0) rfl)) (pgn 2 nd) (ar (pst 1 nd (pcl b5.G hr b5.m b5.k b5.b (ab (pv 1) (ab (pv 2) ah)))))) (ar (aN (pv 1))), rfl⟩
abbrev mM := Am 7 "smaller" NS ["self", "picture"] lc
theorem vW (F : Fun K "cells" "Form.cells" qf f fd) (T : Txt K mg) (bq : jf P w K mg base f_Form_greater gY) : FnOk P w K mg base CX0 8 f fd ["self"] (nA K) := F.okk (N := ["self"]) (wt K).2 rfl rfl (by ac_rfl) fun nd _ _ _ _ _ _ hr => ⟨_, ar (aN (vO bq.cm bq.G (hr.mono (by decide)) bq.b jU (pv 0) (ab (FW (by rfl) T.ONE_CELL.choose_spec.choose_spec.1 T.ONE_CELL.choose_spec.choose_spec.2.1 T.ONE_CELL.choose_spec.choose_spec.2.2) ah))), rfl⟩
abbrev qq := Am 8 "cells" NS ["self"] nA
theorem Jo (F : Fun K "met" "met" IV f fd) (T : Txt K mg) (br : md P w K mg base lR lG) (bq : jf P w K mg base f_Form_greater gY) : FnOk P w K mg base CX0 8 f fd ["picture", "form"] (F7 K) := F.okk (N := ["picture", "form"]) (Kp K).2 rfl rfl (by ac_rfl) fun nd _ _ _ _ _ _ hr => ⟨_, ar (aN (pcl br.G hr br.m br.k br.b (ab (vO bq.cm bq.G (hr.mono (by decide)) bq.b jU (pv 1) (ab (pcl br.G hr br.m br.k br.b (ab (pv 0) ah)) ah)) ah))), rfl⟩
abbrev II := Ak CX0 8 "met" ["picture", "form"] F7
theorem zV (F : Fun K "has_form" "has_form" t8 f fd) (T : Txt K mg) (ip : xi P w K mg base xF uF) (cF : tf P w K mg base tE p8) (fX : qq P w K mg base f_Form_cells nB) : FnOk P w K mg base CX0 9 f fd ["picture", "form", "x", "y"] (r8 K) := F.okk (N := ["picture", "form", "x", "y"]) (zZ K).2 rfl rfl (by ac_rfl) fun nd _ _ _ _ _ _ hr => ⟨_, ar (aN (pcl ip.G hr ip.m ip.k ip.b (ab (pcl cF.G hr cF.m cF.k cF.b (ab (EU fX.cm fX.G (hr.mono (by decide)) fX.b jU (pv 1)) (ab (pv 2) (ab (pv 3) ah)))) (ab (pv 0) ah)))), rfl⟩
abbrev uG := Ak CX0 9 "has_form" ["picture", "form", "x", "y"] r8
theorem ED (F : Fun K "places" "places" A5 f fd) (T : Txt K mg) (gZ : Cv P w K mg base BX yW) (ym : II P w K mg base IH F3) (eE : mM P w K mg base f_Form_smaller lD) : FnOk P w K mg base CX0 9 f fd ["picture", "inside", "outside"] (yg K) := F.okk (N := ["picture", "inside", "outside"]) (Eb K).2 rfl rfl (by ac_rfl) fun nd _ _ _ _ _ _ hr => ⟨_, ar (aN (pcl gZ.G hr gZ.m gZ.k gZ.b (ab (vO eE.cm eE.G (hr.mono (by decide)) eE.b jU (pv 1) (ab (pv 0) ah)) (ab (pcl ym.G hr ym.m ym.k ym.b (ab (pv 0) (ab (pv 2) ah))) ah)))), rfl⟩
abbrev z8 := Ak CX0 9 "places" ["picture", "inside", "outside"] yg
theorem Cy (F : Fun K "_law_looked" "_law_looked" wL f fd) (T : Txt K mg) (aC : kn P w K mg base kr jJ) (aG : oq P w K mg base oG mI) (bZ : xz P w K mg base wO vT) (gA : tP P w K mg base vh rX) (gw : uG P w K mg base vB sd) (A_Shape : zt P w K mg base c_Shape dl fL) : FnOk P w K mg base CX0 10 f fd ["_law_picture_here", "_law_one", "_law_other", "_law_found", "_law_spots_here"] (uV K) := F.okk (N := ["_law_picture_here", "_law_one", "_law_other", "_law_found", "_law_spots_here", "_law_triples", "_law_there", "_law_form", "_law_spot", "_law_x", "_law_fits", "_law_due", "_law_told"]) (B0 K).2 rfl rfl (by ac_rfl) fun nd _ _ _ _ _ _ hr => ⟨_, ao (pst 5 nd (pcl aC.G hr aC.m aC.k aC.b (ab (pv 0) ah))) (ao (pst 6 nd (pcl aC.G hr aC.m aC.k aC.b (ab (pv 3) ah))) (ao (pst 7 nd (mo A_Shape.n A_Shape.M A_Shape.G (hr.mono (by decide)) (by rfl) A_Shape.g A_Shape.b jU (ab (pcl aG.G hr aG.m aG.k aG.b (ab (pv 1) ah)) ah))) (ao (c0 PF rfl (aX (pv 4)) (pgn 8 nd) (ao (c0 PF rfl (aX (eJ (ab (aD cc (pix (pv 8) ak) ak) (ab (pix (pv 8) ak) (ab (aD aQ (pix (pv 8) ak) ak) ah))))) (pgn 9 nd) (ao (pst 10 nd (pcl bZ.G hr bZ.m bZ.k bZ.b (ab (pv 5) (ab (pv 1) (ab (pv 9) (ab (pix (pv 8) ak) ah)))))) (ao (pst 11 nd (GM (pv 10) (G1 (pcl gA.G hr gA.m gA.k gA.b (ab (pv 5) (ab (pv 2) (ab (pv 9) (ab (pix (pv 8) ak) ah)))))))) (ar (eo (ptc (uv hr.units) (pcl bZ.G hr bZ.m bZ.k bZ.b (ab (pv 6) (ab (eJ (ab (aO (ab ak (ab ak (ab ak ah)))) ah)) (ab (pv 9) (ab (pix (pv 8) ak) ah))))) (pv 11)) (ar (aN mJ)) cT))))) (ao (pst 12 nd (pcl gw.G hr gw.m gw.k gw.b (ab (pv 0) (ab (pv 7) (ab (pix (pv 8) ak) (ab (pix (pv 8) ak) ah)))))) (ar (eo (PW.pt (F4 (tS (je (a7 xR (by rfl) T.isinstance nL (ab (pv 12) (ab (CS (v := .ty "bool") (by rfl) T.bool HG rfl) ah))) (fun _ => rfl))) (Cu (ptc (uv hr.units) (pv 12) (pcl bZ.G hr bZ.m bZ.k bZ.b (ab (pv 5) (ab (pv 1) (ab (pix (pv 8) ak) (ab (pix (pv 8) ak) ah))))))))) (ar (aN mJ)) cT))))) (ar (aN mJ))))), rfl⟩
abbrev xH := Ak CX0 10 "_law_looked" ["_law_picture_here", "_law_one", "_law_other", "_law_found", "_law_spots_here"] uV
theorem JE (F : Fun K "law" "law" xr f fd) (T : Txt K mg) (bB : vA P w K mg base u8 sC) (iu : xo P w K mg base xh uk) (aG : oq P w K mg base oG mI) (aC : kn P w K mg base kr jJ) (fc : zH P w K mg base zM xN) (cL : z8 P w K mg base Aj wJ) (j6 : AA P w K mg base Ba xS) (iw : xH P w K mg base xW tV) (A_Shape : zt P w K mg base c_Shape dl fL) (A_Box : IP P w K mg base c_Box f7 lp) : FnOk P w K mg base CX0 11 f fd ["_law_script"] (zj K) := F.okk (N := ["_law_script", "_law_first", "_law_unit", "_law_triples", "_law_picture_here", "_law_one", "_law_other", "_law_found", "_law_pick", "_law_spots_here", "_law_box"]) (KS K).2 rfl rfl (by ac_rfl) fun nd _ _ _ _ _ _ hr => ⟨_, ao (pst 1 nd (pcl bB.G hr bB.m bB.k bB.b (ab (pv 0) (ab ak ah)))) (ao (Ca (i := 2) nd rfl (.inr rfl) (pix (eJ (ab ak (ab ak (ab (aD aQ (aD JM ak ak) ak) ah)))) (aD dX (pv 1) ak))) (ao (Dg (i := 3) (hN := nd) (hi0 := rfl) (hx := Or.inl rfl) (ck := (show CmpOk ["_law_script", "_law_first", "_law_unit", "_law_triples", "_law_picture_here", "_law_one", "_law_other", "_law_found", "_law_pick", "_law_spots_here", "_law_box"] (aK xr) _ ["_law_cell", "_law_unit"] [none, some 2] from dG)) (hi := aX (u5 J7 (pv 0) (o8 ak) (o8 ak))) (hg := fun _ => pgc 0) (hs := aI) (ht := fun _ => bI) (he := fun _ => pcl iu.G hr iu.m iu.k iu.b (ab (pv 0) (ab (pv 1) ah)))) (ao (eo (ptc (gi hr.units) (aD dX (aD d6 (pv 1) ak) ak) ak) (ar (pst 3 nd (aD aQ (pv 3) (bD (show CmpOk ["_law_script", "_law_first", "_law_unit", "_law_triples", "_law_picture_here", "_law_one", "_law_other", "_law_found", "_law_pick", "_law_spots_here", "_law_box"] (aK xr) _ ["_law_y", "_law_unit"] [none, some 2] from dG) (Ee (by rfl) T.range (ab (cO bC ak) (ab ak (ab ak ah)))) (fun _ => pgc 0) aI (fun _ => bI) (fun _ => aO (ab (pv 0) (ab (aD jQ (cO bC ak) (pv 1)) (ab (aD jQ ak (pv 1)) ah)))))))) cT) (ao (pst 4 nd (pcl aG.G hr aG.m aG.k aG.b (ab (pv 3) ah))) (ao (pst 5 nd (pcl aC.G hr aC.m aC.k aC.b (ab (pcl aG.G hr aG.m aG.k aG.b (ab (pcl fc.G hr fc.m fc.k fc.b (ab (pcl bB.G hr bB.m bB.k bB.b (ab (pv 0) (ab ak ah))) (ab (pv 2) ah))) ah)) ah))) (ao (pst 6 nd (pcl aC.G hr aC.m aC.k aC.b (ab (pcl aG.G hr aG.m aG.k aG.b (ab (pcl fc.G hr fc.m fc.k fc.b (ab (pcl bB.G hr bB.m bB.k bB.b (ab (pv 0) (ab ak ah))) (ab (pv 2) ah))) ah)) ah))) (ao (pst 7 nd (pcl cL.G hr cL.m cL.k cL.b (ab (pv 4) (ab (mo A_Shape.n A_Shape.M A_Shape.G (hr.mono (by decide)) (by rfl) A_Shape.g A_Shape.b jU (ab (pcl aG.G hr aG.m aG.k aG.b (ab (pv 5) ah)) ah)) (ab (mo A_Shape.n A_Shape.M A_Shape.G (hr.mono (by decide)) (by rfl) A_Shape.g A_Shape.b jU (ab (pcl aG.G hr aG.m aG.k aG.b (ab (pv 6) ah)) ah)) ah))))) (ao (eo (PW.pt (F4 (tS (je (a7 xR (by rfl) T.isinstance nL (ab (pv 7) (ab (CS (v := .ty "tuple") (by rfl) T.tuple eZ rfl) ah))) (fun _ => rfl))) (Cu (ptc (uv hr.units) (pv 7) (pcl aG.G hr aG.m aG.k aG.b (ab (pcl aC.G hr aC.m aC.k aC.b (ab (pv 7) ah)) ah)))))) (ar (aN mJ)) cT) (ao (pst 8 nd (aD dX (aD d6 (pv 1) ak) ak)) (ao (pst 9 nd (pcl j6.G hr j6.m j6.k j6.b (ab (pcl aC.G hr aC.m aC.k aC.b (ab (pv 4) ah)) (ab (eJ (ab (pix (pv 5) (aD dX (pv 8) (a7 eL (by rfl) T.len kA (ab (pv 5) ah)))) (ab (pix (pv 6) (aD dX (pv 8) (a7 eL (by rfl) T.len kA (ab (pv 6) ah)))) ah))) ah)))) (ao (pst 9 nd (aD aQ (pv 9) (bD (show CmpOk ["_law_script", "_law_first", "_law_unit", "_law_triples", "_law_picture_here", "_law_one", "_law_other", "_law_found", "_law_pick", "_law_spots_here", "_law_box"] (aK xr) _ ["_law_y", "_law_low", "_law_high"] [none, none, none] from dG) (aX (pcl aC.G hr aC.m aC.k aC.b (ab (pv 7) ah))) (fun _ => bn rfl (ap (pgc 0) (ap (pgc 1) (ap (pgc 2) aV)))) (cG (aE aI (aE aI (aE aI bH aw) aw) aw)) (fun _ => bI) (fun _ => aO (ab (pv 1) (ab (pv 0) ah)))))) (ao (pst 9 nd (aD aQ (pv 9) (bD (show CmpOk ["_law_script", "_law_first", "_law_unit", "_law_triples", "_law_picture_here", "_law_one", "_law_other", "_law_found", "_law_pick", "_law_spots_here", "_law_box"] (aK xr) _ ["_law_y", "_law_low", "_law_high"] [none, none, none] from dG) (aX (pcl aC.G hr aC.m aC.k aC.b (ab (pv 7) ah))) (fun _ => bn rfl (ap (pgc 0) (ap (pgc 1) (ap (pgc 2) aV)))) (cG (aE aI (aE aI (aE aI bH aw) aw) aw)) (fun _ => bI) (fun _ => aO (ab (pv 2) (ab (pv 0) ah)))))) (ao (eo (tS (je (pcl iw.G hr iw.m iw.k iw.b (ab (pv 4) (ab (pv 5) (ab (pv 6) (ab (pv 7) (ab (pv 9) ah)))))) (fun _ => rfl))) (ar (aN mJ)) cT) (ao (pst 10 nd (mo A_Box.n A_Box.M A_Box.G (hr.mono (by decide)) (by rfl) A_Box.g A_Box.b jU (ab ak (ab ak (ab ak (ab ak ah)))))) (ar (aN (GM (yp (gi hr.units) (pcl cL.G hr cL.m cL.k cL.b (ab (pv 4) (ab (pv 10) (ab (pv 10) ah)))) (aO ah) (rm _)) (G1 (yp (gi hr.units) (pcl cL.G hr cL.m cL.k cL.b (ab (aO ah) (ab (pv 10) (ab (mo A_Shape.n A_Shape.M A_Shape.G (hr.mono (by decide)) (by rfl) A_Shape.g A_Shape.b jU (ab (pcl aG.G hr aG.m aG.k aG.b (ab (pv 5) ah)) ah)) ah)))) (aO ah) (rm _)))))))))))))))))))), rfl⟩
end
theorem Kw {l : OpenLaw} {w : World} {K : Frag} {h : Heap} {mg : Str -> Option Value} {fa : Addr} (X : K.In h) (G : h.Ns mainGlobals mg) (hfa : mg "law" = some (.ref fa))
  {g_ONE_CELL_0 : Addr} {od_ONE_CELL_0 : Option Addr} {n_ONE_CELL_0 : Nat} {sl_ONE_CELL_0 : Array (Option Value)}
  {g_ONE_CELL_1 : Addr} {od_ONE_CELL_1 : Option Addr} {n_ONE_CELL_1 : Nat} {sl_ONE_CELL_1 : Array (Option Value)}
  {t_ONE_CELL_1_0 : Tok}
  {g_ONE_CELL_2 : Addr} {od_ONE_CELL_2 : Option Addr} {n_ONE_CELL_2 : Nat} {sl_ONE_CELL_2 : Array (Option Value)}
  {g_ONE_CELL_3 : Addr} {od_ONE_CELL_3 : Option Addr} {n_ONE_CELL_3 : Nat} {sl_ONE_CELL_3 : Array (Option Value)}
  {t_ONE_CELL_3_0 : Tok}
  {t_ONE_CELL_3_1 : Tok}
  (n_Box : nsIn K mainGlobals "Box" = some (some (.ref c_Box)))
  (n_Shape : nsIn K mainGlobals "Shape" = some (some (.ref c_Shape)))
  (n_Form : nsIn K mainGlobals "Form" = some (some (.ref c_Form)))
  (GP : nsIn K mainGlobals "row_of" = some (some (.ref pz)))
  (ww : nsIn K mainGlobals "count_up_to" = some (some (.ref jH)))
  (yt : nsIn K mainGlobals "row_common" = some (some (.ref kS)))
  (Bz : nsIn K mainGlobals "row_less" = some (some (.ref uc)))
  (zg : nsIn K mainGlobals "row_either" = some (some (.ref pA)))
  (zB : nsIn K mainGlobals "row_moved" = some (some (.ref sn)))
  (zq : nsIn K mainGlobals "row_shrunk" = some (some (.ref pf)))
  (yT : nsIn K mainGlobals "picture_of" = some (some (.ref fU)))
  (vp : nsIn K mainGlobals "stretches_of" = some (some (.ref eA)))
  (Fd : nsIn K mainGlobals "row_at" = some (some (.ref uE)))
  (pb : nsIn K mainGlobals "rows_with_cells" = some (some (.ref cR)))
  (JB : nsIn K mainGlobals "join" = some (some (.ref F0)))
  (G0 : nsIn K mainGlobals "common" = some (some (.ref vn)))
  (JO : nsIn K mainGlobals "less" = some (some (.ref BX)))
  (E4 : nsIn K mainGlobals "lies_in" = some (some (.ref xF)))
  (FC : nsIn K mainGlobals "box_of" = some (some (.ref Ax)))
  (Hs : nsIn K mainGlobals "moved" = some (some (.ref tE)))
  (tY : nsIn K mainGlobals "turned_about" = some (some (.ref lR)))
  (BE : nsIn K mainGlobals "has_form" = some (some (.ref vB)))
  (Fo : nsIn K mainGlobals "places" = some (some (.ref Aj)))
  (L7 : nsIn K mainGlobals "met" = some (some (.ref IH)))
  (AO : nsIn K mainGlobals "blocks_of" = some (some (.ref sk)))
  (wn : nsIn K mainGlobals "spread_down" = some (some (.ref nG)))
  (wo : nsIn K mainGlobals "shrunk_down" = some (some (.ref nU)))
  (oJ : nsIn K mainGlobals "greater_by_block" = some (some (.ref iZ)))
  (pY : nsIn K mainGlobals "greater_by_part" = some (some (.ref jz)))
  (oj : nsIn K mainGlobals "smaller_by_block" = some (some (.ref iG)))
  (pD : nsIn K mainGlobals "smaller_by_part" = some (some (.ref jw)))
  (EK : nsIn K mainGlobals "reached" = some (some (.ref xq)))
  (sX : nsIn K mainGlobals "begun_between" = some (some (.ref lu)))
  (BJ : nsIn K mainGlobals "_law_cell_at" = some (some (.ref u8)))
  (Ev : nsIn K mainGlobals "_law_triple" = some (some (.ref xh)))
  (BK : nsIn K mainGlobals "_law_picture" = some (some (.ref oG)))
  (zp : nsIn K mainGlobals "_law_stretches" = some (some (.ref kr)))
  (GI : nsIn K mainGlobals "_law_shape" = some (some (.ref zM)))
  (Eu : nsIn K mainGlobals "_law_all_in" = some (some (.ref wO)))
  (Bx : nsIn K mainGlobals "_law_none_in" = some (some (.ref vh)))
  (Ft : nsIn K mainGlobals "_law_spots" = some (some (.ref Ba)))
  (Et : nsIn K mainGlobals "_law_looked" = some (some (.ref xW)))
  (Ln : nsIn K mainGlobals "law" = some (some (.ref Mn)))
  (Fb : findIn K (.ref c_Form) "__init__" = some (some (.ref f_Form___init__)))
  (Fa : isFn K (.ref f_Form___init__) = true)
  (Ig : findIn K (.ref c_Box) "cells" = some (some (.ref f_Form_cells)))
  (p6 : isFn K (.ref f_Form_cells) = true)
  (FH : findIn K (.ref c_Box) "greater" = some (some (.ref f_Form_greater)))
  (lV : isFn K (.ref f_Form_greater) = true)
  (FX : findIn K (.ref c_Box) "smaller" = some (some (.ref f_Form_smaller)))
  (lX : isFn K (.ref f_Form_smaller) = true)
  (tT : findIn K (.ref c_Box) "__init__" = some (some (.ref f7)))
  (uK : isFn K (.ref f7) = true)
  (rh : findIn K (.ref c_Shape) "__init__" = some (some (.ref dl)))
  (rF : isFn K (.ref dl) = true)
  (ud : Fun K "row_of" "row_of" ux pz mV)
  (jR : Fun K "count_up_to" "count_up_to" nK jH iP)
  (kU : Fun K "row_common" "row_common" pd kS jO)
  (oB : Fun K "row_less" "row_less" t7 uc sw)
  (kW : Fun K "row_either" "row_either" fS pA nP)
  (mh : Fun K "row_moved" "row_moved" l5 sn pB)
  (k9 : Fun K "row_shrunk" "row_shrunk" ko pf nv)
  (kG : Fun K "picture_of" "picture_of" hG fU eY)
  (i9 : Fun K "stretches_of" "stretches_of" iy eA dL)
  (vx : Fun K "row_at" "row_at" Aa uE qH)
  (gj : Fun K "rows_with_cells" "rows_with_cells" f8 cR cA)
  (BI : Fun K "join" "join" GY F0 Dj)
  (uo : Fun K "common" "common" vo vn qZ)
  (BD : Fun K "less" "less" BS BX yW)
  (rP : Fun K "lies_in" "lies_in" xZ xF uF)
  (uN : Fun K "box_of" "box_of" pS Ax ya)
  (yz : Fun K "moved" "moved" yU tE p8)
  (iA : Fun K "turned_about" "turned_about" iX lR lG)
  (oV : Fun K "has_form" "has_form" t8 vB sd)
  (tN : Fun K "places" "places" A5 Aj wJ)
  (FE : Fun K "met" "met" IV IH F3)
  (mL : Fun K "blocks_of" "blocks_of" mD sk qw)
  (jG : Fun K "spread_down" "spread_down" nz nG l9)
  (jI : Fun K "shrunk_down" "shrunk_down" nR nU mF)
  (fD : Fun K "greater_by_block" "greater_by_block" fE iZ g7)
  (fV : Fun K "greater_by_part" "greater_by_part" jn jz iK)
  (fx : Fun K "smaller_by_block" "smaller_by_block" fw iG g6)
  (fZ : Fun K "smaller_by_part" "smaller_by_part" jp jw jb)
  (qF : Fun K "reached" "reached" qS xq uz)
  (gS : Fun K "begun_between" "begun_between" lf lu kc)
  (oZ : Fun K "_law_cell_at" "_law_cell_at" u2 u8 sC)
  (rC : Fun K "_law_triple" "_law_triple" xx xh uk)
  (o3 : Fun K "_law_picture" "_law_picture" oH oG mI)
  (kZ : Fun K "_law_stretches" "_law_stretches" pq kr jJ)
  (ur : Fun K "_law_shape" "_law_shape" AB zM xN)
  (qU : Fun K "_law_all_in" "_law_all_in" wH wO vT)
  (o7 : Fun K "_law_none_in" "_law_none_in" vg vh rX)
  (uY : Fun K "_law_spots" "_law_spots" Au Ba xS)
  (qR : Fun K "_law_looked" "_law_looked" wL xW tV)
  (IW : Fun K "law" "law" xr Mn KH)
  (gW : Fun K "__init__" "Form.__init__" gX f_Form___init__ gC)
  (ig : Fun K "cells" "Form.cells" qf f_Form_cells nB)
  (gc : Fun K "greater" "Form.greater" mj f_Form_greater gY)
  (gb : Fun K "smaller" "Form.smaller" me f_Form_smaller lD)
  (l6 : Fun K "__init__" "Box.__init__" iC f7 lp)
  (km : Fun K "__init__" "Shape.__init__" gz dl fL)
  (pg_Box : plainGet K c_Box Str.empty = true)
  (hd_Box : hasDictIn K c_Box = true)
  (po_Box : plainOver K c_Box = true)
  (sa_Box : findIn K (.ref c_Box) "__setattr__" = some (some (.builtin "object.__setattr__")))
  (mk_Box : makesIn K c_Box = true)
  (kc_Box : keepIn K (.ref c_Box) = true)
  (np_Box : findIn K (.ref c_Box) "parts" = some none)
  (mm_Box_cells : findIn K (.ref c_Box) "cells" = some (some (.ref f_Form_cells)))
  (mm_Box_greater : findIn K (.ref c_Box) "greater" = some (some (.ref f_Form_greater)))
  (mm_Box_smaller : findIn K (.ref c_Box) "smaller" = some (some (.ref f_Form_smaller)))
  (pg_Shape : plainGet K c_Shape Str.empty = true)
  (hd_Shape : hasDictIn K c_Shape = true)
  (po_Shape : plainOver K c_Shape = true)
  (sa_Shape : findIn K (.ref c_Shape) "__setattr__" = some (some (.builtin "object.__setattr__")))
  (mk_Shape : makesIn K c_Shape = true)
  (kc_Shape : keepIn K (.ref c_Shape) = true)
  (np_Shape : findIn K (.ref c_Shape) "parts" = some none)
  (mm_Shape_cells : findIn K (.ref c_Shape) "cells" = some (some (.ref f_Form_cells)))
  (mm_Shape_greater : findIn K (.ref c_Shape) "greater" = some (some (.ref f_Form_greater)))
  (mm_Shape_smaller : findIn K (.ref c_Shape) "smaller" = some (some (.ref f_Form_smaller)))
  (bs_Form : specialIn K (.ref c_Form) "__getattribute__" = some (some (.builtin "type.__getattribute__")))
  (br_Form : readsIn K c_Form (.type "type") = true)
  (bf_Form : findCls K (.ref c_Form) (.type "type") "__init__" = some (.val (.ref f_Form___init__)))
  (z_bool : nsIn K mainGlobals "bool" = some none)
  (z_isinstance : nsIn K mainGlobals "isinstance" = some none)
  (z_len : nsIn K mainGlobals "len" = some none)
  (z_max : nsIn K mainGlobals "max" = some none)
  (z_min : nsIn K mainGlobals "min" = some none)
  (z_range : nsIn K mainGlobals "range" = some none)
  (z_reversed : nsIn K mainGlobals "reversed" = some none)
  (z_sorted : nsIn K mainGlobals "sorted" = some none)
  (z_tuple : nsIn K mainGlobals "tuple" = some none)
  (y_ONE_CELL : nsIn K mainGlobals "ONE_CELL" = some (some (.ref g_ONE_CELL_0)))
  (v_ONE_CELL_0 : K.lookup g_ONE_CELL_0 = some ⟨.type "tuple", od_ONE_CELL_0, .seq #[.ref g_ONE_CELL_1] n_ONE_CELL_0, sl_ONE_CELL_0⟩)
  (v_ONE_CELL_1 : K.lookup g_ONE_CELL_1 = some ⟨.type "tuple", od_ONE_CELL_1, .seq #[.int (0) t_ONE_CELL_1_0, .ref g_ONE_CELL_2] n_ONE_CELL_1, sl_ONE_CELL_1⟩)
  (v_ONE_CELL_2 : K.lookup g_ONE_CELL_2 = some ⟨.type "tuple", od_ONE_CELL_2, .seq #[.ref g_ONE_CELL_3] n_ONE_CELL_2, sl_ONE_CELL_2⟩)
  (v_ONE_CELL_3 : K.lookup g_ONE_CELL_3 = some ⟨.type "tuple", od_ONE_CELL_3, .seq #[.int (0) t_ONE_CELL_3_0, .int (0) t_ONE_CELL_3_1] n_ONE_CELL_3, sl_ONE_CELL_3⟩)
  : ∃ fd : FuncData, (∀ (s : Shared) (v : Value), BindsTo s fd ⟨[v], []⟩ [("_law_script", v)]) /\ ∀ base : Heap, K.In base -> base.Ns mainGlobals mg -> FnOk l.prog w K mg base CX0 11 fa fd ["_law_script"] (zj K) := by
 have e := hfa.symm.trans (Pq X G Ln)
 cases e
 have cN : qL K NS fun C => Cls K C /\ NoAttr K C "parts" := fK n_Box ⟨⟨pg_Box, hd_Box, po_Box, sa_Box⟩, np_Box⟩ (fK n_Shape ⟨⟨pg_Shape, hd_Shape, po_Shape, sa_Shape⟩, np_Shape⟩ (pL))
 have vY : qL K NS fun C => Cls K C /\ Meth K C "cells" f_Form_cells := fK n_Box ⟨⟨pg_Box, hd_Box, po_Box, sa_Box⟩, ⟨mm_Box_cells, p6, ig.kp⟩⟩ (fK n_Shape ⟨⟨pg_Shape, hd_Shape, po_Shape, sa_Shape⟩, ⟨mm_Shape_cells, p6, ig.kp⟩⟩ (pL))
 have sU : qL K NS fun C => Cls K C /\ Meth K C "greater" f_Form_greater := fK n_Box ⟨⟨pg_Box, hd_Box, po_Box, sa_Box⟩, ⟨mm_Box_greater, lV, gc.kp⟩⟩ (fK n_Shape ⟨⟨pg_Shape, hd_Shape, po_Shape, sa_Shape⟩, ⟨mm_Shape_greater, lV, gc.kp⟩⟩ (pL))
 have sY : qL K NS fun C => Cls K C /\ Meth K C "smaller" f_Form_smaller := fK n_Box ⟨⟨pg_Box, hd_Box, po_Box, sa_Box⟩, ⟨mm_Box_smaller, lX, gb.kp⟩⟩ (fK n_Shape ⟨⟨pg_Shape, hd_Shape, po_Shape, sa_Shape⟩, ⟨mm_Shape_smaller, lX, gb.kp⟩⟩ (pL))
 have T : Txt K mg := ⟨QC X G z_bool, QC X G z_isinstance, QC X G z_len, QC X G z_max, QC X G z_min, QC X G z_range, QC X G z_reversed, QC X G z_sorted, QC X G z_tuple, ⟨_, .ref _, Pq X G y_ONE_CELL, rfl, fun S => p9 (xs := [.ref g_ONE_CELL_1]) v_ONE_CELL_0 rfl rfl (PU (show 1 <= 1000 by decide) (by rw [Qb]; decide)) (.cons rfl (.nil)) (fun S => Dens.cons (p9 (xs := [.int (0), .ref g_ONE_CELL_2]) v_ONE_CELL_1 rfl rfl (PU (show 2 <= 1000 by decide) (by rw [Qb]; decide)) (.cons ⟨_, rfl⟩ (.cons rfl (.nil))) (fun S => Dens.cons (den_int.mpr rfl) (Dens.cons (p9 (xs := [.ref g_ONE_CELL_3]) v_ONE_CELL_2 rfl rfl (PU (show 1 <= 1000 by decide) (by rw [Qb]; decide)) (.cons rfl (.nil)) (fun S => Dens.cons (p9 (xs := [.int (0), .int (0)]) v_ONE_CELL_3 rfl rfl (PU (show 2 <= 1000 by decide) (by rw [Qb]; decide)) (.cons ⟨_, rfl⟩ (.cons ⟨_, rfl⟩ (.nil))) (fun S => Dens.cons (den_int.mpr rfl) (Dens.cons (den_int.mpr rfl) (Dens.nil))) S) (Dens.nil)) S) (Dens.nil))) S) (Dens.nil)) S⟩, cN⟩
 have M_Box : Mk K c_Box f7 := ⟨mk_Box, tT, uK, kc_Box⟩
 have M_Shape : Mk K c_Shape dl := ⟨mk_Shape, rh, rF, kc_Shape⟩
 have cf_Form : ClsFn K c_Form "__init__" f_Form___init__ := ⟨bs_Form, br_Form, bf_Form, gW.kp⟩
 obtain ⟨_, _, _, _, _, _, _, _, _, hfd, _⟩ := IW.ex
 refine ⟨KH, fun s v => .of_eq (by rw [hfd]; rfl), fun base _ _ => ?_⟩
 have sG : Binds K gC ["self", "parts"] [] := gW.binds fun _ _ _ _ _ _ us hl => by obtain ⟨_, _, rfl⟩ := us2 hl; rfl
 have AB_Form : yL l.prog w K mg base _ _ _ := ⟨rQ gW T, sG, cf_Form, Pq X G n_Form⟩
 have EI : Binds K vT ["_law_triples", "_law_cells", "_law_x", "_law_y"] [] := qU.binds fun _ _ _ _ _ _ us hl => by obtain ⟨_, _, _, _, rfl⟩ := us4 hl; rfl
 have bZ : xz l.prog w K mg base _ _ := ⟨Ch qU T, Pq X G Eu, qU.kp, EI⟩
 have CM : Binds K sC ["_law_script", "_law_k"] [] := oZ.binds fun _ _ _ _ _ _ us hl => by obtain ⟨_, _, rfl⟩ := us2 hl; rfl
 have bB : vA l.prog w K mg base _ _ := ⟨Bb oZ T, Pq X G BJ, oZ.kp, CM⟩
 have B1 : Binds K rX ["_law_triples", "_law_cells", "_law_x", "_law_y"] [] := o7.binds fun _ _ _ _ _ _ us hl => by obtain ⟨_, _, _, _, rfl⟩ := us4 hl; rfl
 have gA : tP l.prog w K mg base _ _ := ⟨zT o7 T, Pq X G Bx, o7.kp, B1⟩
 have BM : Binds K mI ["_law_triples"] [] := o3.binds fun _ _ _ _ _ _ us hl => by obtain ⟨_, rfl⟩ := us1 hl; rfl
 have aG : oq l.prog w K mg base _ _ := ⟨AC o3 T, Pq X G BK, o3.kp, BM⟩
 have Fz : Binds K xN ["_law_cell", "_law_unit"] [] := ur.binds fun _ _ _ _ _ _ us hl => by obtain ⟨_, _, rfl⟩ := us2 hl; rfl
 have fc : zH l.prog w K mg base _ _ := ⟨D5 ur T, Pq X G GI, ur.kp, Fz⟩
 have Gv : Binds K xS ["_law_triples", "_law_cells"] [] := uY.binds fun _ _ _ _ _ _ us hl => by obtain ⟨_, _, rfl⟩ := us2 hl; rfl
 have j6 : AA l.prog w K mg base _ _ := ⟨EZ uY T, Pq X G Ft, uY.kp, Gv⟩
 have zr : Binds K jJ ["_law_picture_here"] [] := kZ.binds fun _ _ _ _ _ _ us hl => by obtain ⟨_, rfl⟩ := us1 hl; rfl
 have aC : kn l.prog w K mg base _ _ := ⟨wB kZ T, Pq X G zp, kZ.kp, zr⟩
 have D8 : Binds K uk ["_law_cell", "_law_unit"] [] := rC.binds fun _ _ _ _ _ _ us hl => by obtain ⟨_, _, rfl⟩ := us2 hl; rfl
 have iu : xo l.prog w K mg base _ _ := ⟨CD rC T, Pq X G Ev, rC.kp, D8⟩
 have Ha : Binds K ya ["picture"] [] := uN.binds fun _ _ _ _ _ _ us hl => by obtain ⟨_, rfl⟩ := us1 hl; rfl
 have kf : AR l.prog w K mg base _ _ := ⟨Ed uN T, Pq X G FC, uN.kp, Ha⟩
 have wC : Binds K iP ["pairs", "number"] [] := jR.binds fun _ _ _ _ _ _ us hl => by obtain ⟨_, _, rfl⟩ := us2 hl; rfl
 have aS : jK l.prog w K mg base _ _ := ⟨vw jR T, Pq X G ww, jR.kp, wC⟩
 have yZ : Binds K jO ["one", "other"] [] := kU.binds fun _ _ _ _ _ _ us hl => by obtain ⟨_, _, rfl⟩ := us2 hl; rfl
 have bv : kE l.prog w K mg base _ _ := ⟨we kU T, Pq X G yt, kU.kp, yZ⟩
 have Ay : Binds K pB ["row", "by"] [] := mh.binds fun _ _ _ _ _ _ us hl => by obtain ⟨_, _, rfl⟩ := us2 hl; rfl
 have fF : su l.prog w K mg base _ _ := ⟨zo mh T, Pq X G zB, mh.kp, Ay⟩
 have Gb : Binds K mV ["pairs"] [] := ud.binds fun _ _ _ _ _ _ us hl => by obtain ⟨_, rfl⟩ := us1 hl; rfl
 have bJ : pO l.prog w K mg base _ _ := ⟨Er ud T, Pq X G GP, ud.kp, Gb⟩
 have qz : Binds K cA ["rows"] [] := gj.binds fun _ _ _ _ _ _ us hl => by obtain ⟨_, rfl⟩ := us1 hl; rfl
 have aB : cQ l.prog w K mg base _ _ := ⟨oT gj T, Pq X G pb, gj.kp, qz⟩
 have ul : Binds K dL ["picture"] [] := i9.binds fun _ _ _ _ _ _ us hl => by obtain ⟨_, rfl⟩ := us1 hl; rfl
 have az : et l.prog w K mg base _ _ := ⟨sS i9 T, Pq X G vp, i9.kp, ul⟩
 have vK : Binds K lp ["self", "left", "up", "right", "down"] [] := l6.binds fun _ _ _ _ _ _ us hl => by obtain ⟨_, _, _, _, _, rfl⟩ := us5 hl; rfl
 have A_Box : IP l.prog w K mg base _ _ _ := ⟨sI l6 T AB_Form, vK, n_Box, M_Box, Pq X G n_Box⟩
 have sP : Binds K kc ["pairs", "first", "last"] [] := gS.binds fun _ _ _ _ _ _ us hl => by obtain ⟨_, _, _, rfl⟩ := us3 hl; rfl
 have bp : lm l.prog w K mg base _ _ := ⟨qJ gS T aS, Pq X G sX, gS.kp, sP⟩
 have AU : Binds K qw ["picture"] [] := mL.binds fun _ _ _ _ _ _ us hl => by obtain ⟨_, rfl⟩ := us1 hl; rfl
 have fJ : sD l.prog w K mg base _ _ := ⟨zl mL T az, Pq X G AO, mL.kp, AU⟩
 have H9 : Binds K p8 ["picture", "dx", "dy"] [] := yz.binds fun _ _ _ _ _ _ us hl => by obtain ⟨_, _, _, rfl⟩ := us3 hl; rfl
 have cF : tf l.prog w K mg base _ _ := ⟨G2 yz T fF, Pq X G Hs, yz.kp, H9⟩
 have yO : Binds K eY ["stretches"] [] := kG.binds fun _ _ _ _ _ _ us hl => by obtain ⟨_, rfl⟩ := us1 hl; rfl
 have aJ : fT l.prog w K mg base _ _ := ⟨wp kG T bJ, Pq X G yT, kG.kp, yO⟩
 have GW : Binds K qH ["picture", "y"] [] := vx.binds fun _ _ _ _ _ _ us hl => by obtain ⟨_, _, rfl⟩ := us2 hl; rfl
 have dJ : vf l.prog w K mg base _ _ := ⟨EE vx T aS, Pq X G Fd, vx.kp, GW⟩
 have yu : Binds K nP ["one", "other"] [] := kW.binds fun _ _ _ _ _ _ us hl => by obtain ⟨_, _, rfl⟩ := us2 hl; rfl
 have eU : pZ l.prog w K mg base _ _ := ⟨vX kW T bJ, Pq X G zg, kW.kp, yu⟩
 have yM : Binds K nv ["row", "low", "high"] [] := k9.binds fun _ _ _ _ _ _ us hl => by obtain ⟨_, _, _, rfl⟩ := us3 hl; rfl
 have eM : pk l.prog w K mg base _ _ := ⟨wc k9 T bJ, Pq X G zq, k9.kp, yM⟩
 have rK : Binds K fL ["self", "picture"] [] := km.binds fun _ _ _ _ _ _ us hl => by obtain ⟨_, _, rfl⟩ := us2 hl; rfl
 have A_Shape : zt l.prog w K mg base _ _ _ := ⟨qy km T fJ AB_Form, rK, n_Shape, M_Shape, Pq X G n_Shape⟩
 have Hc : Binds K qZ ["one", "other"] [] := uo.binds fun _ _ _ _ _ _ us hl => by obtain ⟨_, _, rfl⟩ := us2 hl; rfl
 have dS : vR l.prog w K mg base _ _ := ⟨EX uo T aB bv dJ, Pq X G G0, uo.kp, Hc⟩
 have KI : Binds K Dj ["one", "other"] [] := BI.binds fun _ _ _ _ _ _ us hl => by obtain ⟨_, _, rfl⟩ := us2 hl; rfl
 have qI : Gu l.prog w K mg base _ _ := ⟨Ix BI T aJ az, Pq X G JB, BI.kp, KI⟩
 have DV : Binds K uz ["picture", "box", "block"] [] := qF.binds fun _ _ _ _ _ _ us hl => by obtain ⟨_, _, _, rfl⟩ := us3 hl; rfl
 have iq : wK l.prog w K mg base _ _ := ⟨BO qF T bp aB, Pq X G EK, qF.kp, DV⟩
 have CK : Binds K sw ["one", "other"] [] := oB.binds fun _ _ _ _ _ _ us hl => by obtain ⟨_, _, rfl⟩ := us2 hl; rfl
 have gy : ui l.prog w K mg base _ _ := ⟨zF oB T eU bv, Pq X G Bz, oB.kp, CK⟩
 have t9 : Binds K lG ["picture"] [] := iA.binds fun _ _ _ _ _ _ us hl => by obtain ⟨_, rfl⟩ := us1 hl; rfl
 have br : md l.prog w K mg base _ _ := ⟨sM iA T aJ az, Pq X G tY, iA.kp, t9⟩
 have Kg : Binds K yW ["one", "other"] [] := BD.binds fun _ _ _ _ _ _ us hl => by obtain ⟨_, _, rfl⟩ := us2 hl; rfl
 have gZ : Cv l.prog w K mg base _ _ := ⟨Iy BD T aB gy dJ, Pq X G JO, BD.kp, Kg⟩
 have wb : Binds K mF ["picture", "by"] [] := jI.binds fun _ _ _ _ _ _ us hl => by obtain ⟨_, _, rfl⟩ := us2 hl; rfl
 have dU : nQ l.prog w K mg base _ _ := ⟨vL jI T dS cF, Pq X G wo, jI.kp, wb⟩
 have wg : Binds K l9 ["picture", "by"] [] := jG.binds fun _ _ _ _ _ _ us hl => by obtain ⟨_, _, rfl⟩ := us2 hl; rfl
 have dW : nI l.prog w K mg base _ _ := ⟨vC jG T qI cF, Pq X G wn, jG.kp, wg⟩
 have oz : Binds K g7 ["picture", "block"] [] := fD.binds fun _ _ _ _ _ _ us hl => by obtain ⟨_, _, rfl⟩ := us2 hl; rfl
 have bL : iU l.prog w K mg base _ _ := ⟨nr fD T az dW aJ, Pq X G oJ, fD.kp, oz⟩
 have Ez : Binds K uF ["one", "other"] [] := rP.binds fun _ _ _ _ _ _ us hl => by obtain ⟨_, _, rfl⟩ := us2 hl; rfl
 have ip : xi l.prog w K mg base _ _ := ⟨CI rP T gZ, Pq X G E4, rP.kp, Ez⟩
 have nX : Binds K g6 ["picture", "block"] [] := fx.binds fun _ _ _ _ _ _ us hl => by obtain ⟨_, _, rfl⟩ := us2 hl; rfl
 have aW : i0 l.prog w K mg base _ _ := ⟨nq fx T aB eM dU, Pq X G oj, fx.kp, nX⟩
 have qB : Binds K iK ["picture", "blocks"] [] := fV.binds fun _ _ _ _ _ _ us hl => by obtain ⟨_, _, rfl⟩ := us2 hl; rfl
 have bX : jA l.prog w K mg base _ _ := ⟨n8 fV T bL aJ, Pq X G pY, fV.kp, qB⟩
 have qC : Binds K jb ["picture", "blocks"] [] := fZ.binds fun _ _ _ _ _ _ us hl => by obtain ⟨_, _, rfl⟩ := us2 hl; rfl
 have b5 : jk l.prog w K mg base _ _ := ⟨oQ fZ T aW dS iq kf, Pq X G pD, fZ.kp, qC⟩
 have vF : Binds K gY ["self", "picture"] [] := gc.binds fun _ _ _ _ _ _ us hl => by obtain ⟨_, _, rfl⟩ := us2 hl; rfl
 have bq : jf l.prog w K mg base _ _ := ⟨sR gc T bX, vF, sU⟩
 have u3 : Binds K lD ["self", "picture"] [] := gb.binds fun _ _ _ _ _ _ us hl => by obtain ⟨_, _, rfl⟩ := us2 hl; rfl
 have eE : mM l.prog w K mg base _ _ := ⟨td gb T b5, u3, sY⟩
 have yI : Binds K nB ["self"] [] := ig.binds fun _ _ _ _ _ _ us hl => by obtain ⟨_, rfl⟩ := us1 hl; rfl
 have fX : qq l.prog w K mg base _ _ := ⟨vW ig T bq, yI, vY⟩
 have LN : Binds K F3 ["picture", "form"] [] := FE.binds fun _ _ _ _ _ _ us hl => by obtain ⟨_, _, rfl⟩ := us2 hl; rfl
 have ym : II l.prog w K mg base _ _ := ⟨Jo FE T br bq, Pq X G L7, FE.kp, LN⟩
 have Bl : Binds K sd ["picture", "form", "x", "y"] [] := oV.binds fun _ _ _ _ _ _ us hl => by obtain ⟨_, _, _, _, rfl⟩ := us4 hl; rfl
 have gw : uG l.prog w K mg base _ _ := ⟨zV oV T ip cF fX, Pq X G BE, oV.kp, Bl⟩
 have Gp : Binds K wJ ["picture", "inside", "outside"] [] := tN.binds fun _ _ _ _ _ _ us hl => by obtain ⟨_, _, _, rfl⟩ := us3 hl; rfl
 have cL : z8 l.prog w K mg base _ _ := ⟨ED tN T gZ ym eE, Pq X G Fo, tN.kp, Gp⟩
 have D7 : Binds K tV ["_law_picture_here", "_law_one", "_law_other", "_law_found", "_law_spots_here"] [] := qR.binds fun _ _ _ _ _ _ us hl => by obtain ⟨_, _, _, _, _, rfl⟩ := us5 hl; rfl
 have iw : xH l.prog w K mg base _ _ := ⟨Cy qR T aC aG bZ gA gw A_Shape, Pq X G Et, qR.kp, D7⟩
 exact JE IW T bB iu aG aC fc cL j6 iw A_Shape A_Box
theorem Nm {l : OpenLaw} {q : Program} {loose : List Str} {XP : (Str -> Option Value) -> Heap -> Prop} {YP : World -> Heap -> Prop} {d : DefRec} {K : Params -> Frag} (hn : l.most = some 63) (hdf : d.params.defaults = [])
  (hY : ∀ (w : World) (h : Heap), YP w h -> (K w.params).In h)
  (F : ∀ (w : World) (mg : Str -> Option Value) (fa : Addr) (h : Heap), (K w.params).In h -> h.Ns mainGlobals mg -> mg d.name = some (.ref fa) ->
   ∃ fd : FuncData, (∀ (s : Shared) (u : Value), BindsTo s fd ⟨[u], []⟩ [("_law_script", u)]) /\ ∀ base : Heap, (K w.params).In base -> base.Ns mainGlobals mg -> FnOk l.prog w (K w.params) mg base CX0 11 fa fd ["_law_script"] (zj (K w.params))) :
  WalkO q loose XP YP l.row.toRowW d [] (fun f vs => PySem.call f vs) :=
 L2.Ic (n := 63) (k := 11) (x := "_law_script") (CX := fun _ => CX0) (sp := fun w => zj (K w.params)) hn (by decide) hdf ⟨rfl, by decide, by decide⟩ hY F (fun _ H a ns hl _ hS => M.DZ hS (G8 ns hl)) fun _ _ _ _ _ z => z
end Lw
open PySem PySem.W PyProof.Rows
set_option maxHeartbeats 0 in
theorem PySem.Challenge.cw_shapethin_k37_places_of_forms_holds : PySem.Challenge.rw_shapethin_k37_places_of_forms.Holds := by
 w_on; refine holds_law Hd.e2 fun said => ?_
 refine holds_open (q := Hd.q) (loose := []) (XP := XL Hd.q []) (YP := Hook.says Hd.H) (N := 100000) Hd.e1 (Hook.of Hd.H) (Hook.keeps Hd.H) (fun s e => xl_of s (Bool.and_eq_true_iff.mp e).1) XL.keeps (by rfl) (by rfl) (by rfl) (fun s e => recFacts_of (Bool.and_eq_true_iff.mp e).2) (by rfl) (by assumption) (by decide +kernel) ⟨rfl, rfl, rfl, rfl, rfl, by decide +kernel⟩ ?hw ?hc
 case hw => w_witness2
 refine Lw.Nm (l := PySem.Challenge.rw_shapethin_k37_places_of_forms) rfl rfl (fun w h Y => kIn_of Y) ?F
 case F =>
  intro w mg fa h KX G hmg
  refine' Lw.Kw KX G hmg ?x0 ?x1 ?x2 ?x3 ?x4 ?x5 ?x6 ?x7 ?x8 ?x9 ?x10 ?x11 ?x12 ?x13 ?x14 ?x15 ?x16 ?x17 ?x18 ?x19 ?x20 ?x21 ?x22 ?x23 ?x24 ?x25 ?x26 ?x27 ?x28 ?x29 ?x30 ?x31 ?x32 ?x33 ?x34 ?x35 ?x36 ?x37 ?x38 ?x39 ?x40 ?x41 ?x42 ?x43 ?x44 ?x45 ?x46 ?x47 ?x48 ?x49 ?x50 ?x51 ?x52 ?x53 ?x54 ?x55 ?x56 ?x57 ?x58 ?x59 ?x60 ?x61 ?x62 ?x63 ?x64 ?x65 ?x66 ?x67 ?x68 ?x69 ?x70 ?x71 ?x72 ?x73 ?x74 ?x75 ?x76 ?x77 ?x78 ?x79 ?x80 ?x81 ?x82 ?x83 ?x84 ?x85 ?x86 ?x87 ?x88 ?x89 ?x90 ?x91 ?x92 ?x93 ?x94 ?x95 ?x96 ?x97 ?x98 ?x99 ?x100 ?x101 ?x102 ?x103 ?x104 ?x105 ?x106 ?x107 ?x108 ?x109 ?x110 ?x111 ?x112 ?x113 ?x114 ?x115 ?x116 ?x117 ?x118 ?x119 ?x120 ?x121 ?x122 ?x123 ?x124 ?x125 ?x126 ?x127 ?x128 ?x129 ?x130 ?x131 ?x132 ?x133 ?x134 ?x135 ?x136 ?x137
  case x0 | x1 | x2 | x3 | x4 | x5 | x6 | x7 | x8 | x9 | x10 | x11 | x12 | x13 | x14 | x15 | x16 | x17 | x18 | x19 | x20 | x21 | x22 | x23 | x24 | x25 | x26 | x27 | x28 | x29 | x30 | x31 | x32 | x33 | x34 | x35 | x36 | x37 | x38 | x39 | x40 | x41 | x42 | x43 | x44 | x45 | x46 | x47 | x48 | x49 | x50 | x51 | x52 | x53 | x54 => k_is
  case x55 | x56 | x57 | x58 | x59 | x60 | x61 | x62 | x63 | x64 | x65 | x66 | x67 | x68 | x69 | x70 | x71 | x72 | x73 | x74 | x75 | x76 | x77 | x78 | x79 | x80 | x81 | x82 | x83 | x84 | x85 | x86 | x87 | x88 | x89 | x90 | x91 | x92 | x93 | x94 | x95 | x96 | x97 | x98 | x99 | x100 => exact L2.Kd (by k_is) (by k_is) (by k_is)
  case x101 | x102 | x103 | x104 | x105 | x106 | x107 | x108 | x109 | x110 | x111 | x112 | x113 | x114 | x115 | x116 | x117 | x118 | x119 | x120 | x121 | x122 | x123 | x124 | x125 | x126 | x127 | x128 | x129 | x130 | x131 | x132 | x133 | x134 | x135 | x136 | x137 => k_is
